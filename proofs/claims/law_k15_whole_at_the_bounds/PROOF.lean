import PyProof.Rows.All
import Wide.All
import OpenK.AllK
import Wide.FinOn
import PyProof.EqAt
import PyProof.EqKinds
import PyProof.TupleCall
import Lean
import PySem.Challenge.RW_surewatch_k15_whole_at_the_bounds
set_option Elab.async false
set_option linter.all false
set_option maxRecDepth 100000
set_option bootstrap.genMatcherCode false
set_option compiler.extract_closed false
abbrev BBB:=List PySem.Str
abbrev BBC:=List PySem.Expr
abbrev BBD:=List Int
abbrev BBE:=List PySem.Addr
abbrev BBF:=List PySem.Env
abbrev BBG:=List PySem.Value
abbrev BBH:=List PySem.Stmt
abbrev BBI:=List PySem.Keyword
abbrev BBJ:=List Nat
abbrev BBL:=Option PySem.Expr
abbrev BBM:=Option Int
abbrev BBN:=Option PySem.Addr
abbrev BBP:=Option PySem.Value
noncomputable section
local macro_rules|`(tactic|trivial)=>`(tactic|first|exact .inl rfl|exact .inr rfl|exact .inr (.inl rfl)|exact .inr (.inr rfl)|assumption|(intro _ _ _ _ _ _ us hl;rcases us with _|⟨_,_|⟨_,_|⟨_,_|⟨_,_|⟨_,_|⟨_,_|⟨_,_⟩⟩⟩⟩⟩⟩⟩<;>first|rfl|cases hl))
abbrev BBT(x:PySem.Str):Prop:=(x == ("__debug__":PySem.Str))=false
abbrev BBU(x:PySem.Str):Prop:=(x == ("__classdict__":PySem.Str))=false
abbrev AAD:=PySem.W.Frag
abbrev AAE:=PySem.Value->PySem.Shared->Prop
abbrev AAF:=PySem.Str->Option PySem.Value
abbrev AAG:=List (PySem.Addr×PySem.Obj)
abbrev AAJ:=List (PySem.Str×Int)
abbrev AAK:=Array PySem.Value
abbrev AAL:=List PySem.Value
abbrev aal:=@PySem.wpAny_bind
abbrev aam:=@PySem.Heap.get?_push_of_some
abbrev aan:=@PySem.wpAny_pure
abbrev aao:=@List.size_toArray
abbrev aap:=@PySem.Heap.lt_size
abbrev aaq:=@Nat.le_refl
abbrev aar:=@List.mem_cons_of_mem
abbrev aas:=@PySem.Heap.get?_push_size
abbrev aat:=@List.mem_cons
abbrev aau:=@Option.bind_some
abbrev aav:=@List.mem_cons_self
abbrev aaw:=@List.length_map
abbrev aax:=@Nat.lt_of_lt_of_le
abbrev aay:=@List.mem_append_right
abbrev aaz:=@List.getElem?_eq_getElem
abbrev aaA:=@List.getElem?_eq_some_iff
abbrev aaB:=@PySem.wpAny_mono
abbrev aaC:=@Nat.le_trans
abbrev aaD:=@Nat.ne_of_lt
abbrev aaG:=@List.length_append
abbrev aaH:=@PySem.Heap.get?_update_other
abbrev aaI:=@List.length_cons
abbrev aaJ:=@PySem.wpAny_field
abbrev aaK:=@List.mem_singleton
abbrev abg:=@List.getElem?_set_ne
abbrev abh:=@PySem.Heap.get?_update_self
abbrev abi:=@PySem.W.mg_none_of
abbrev abr:=@Nat.le_of_succ_le_succ
abbrev abt:=@List.not_mem_nil
abbrev abv:=@Option.some.inj
abbrev abx:=@List.getElem?_map
abbrev aby:=@PySem.wpAny_seqItems
abbrev abz:=@PySem.wpAny_holding
abbrev abC:=@PySem.W.mg_of
abbrev abD:=@List.getElem?_set_self
abbrev abE:=@List.append_nil
abbrev abO:=@Ne.symm
abbrev abP:=@PySem.Heap.size_push
abbrev abQ:=@List.replicate_succ
abbrev abR:=@List.map_cons
abbrev abU:=@PySem.wpAny_Call_Name_kw
abbrev abW:=@PyProof.Rows.callWith_type1
abbrev abX:=@Nat.zero_le
abbrev abY:=@PyProof.Rows.slot_tuple_getitem
abbrev ab4:=@PySem.wpAny_callSpecial?_slot
abbrev ab6:=@decide_eq_false
abbrev ab9:=@PySem.Calls.spliced_cons
abbrev ace:=@PySem.wpAny_setField_rec
abbrev acf:=@Bool.and_eq_true
abbrev aci:=@PySem.F.slot_str_split
abbrev acj:=@PySem.mem_of_lookup
abbrev ack:=@Nat.lt_irrefl
abbrev acm:=@PySem.wpAny_passesOwn
abbrev acn:=@PySem.PassesOwn.never
abbrev acp:=@Bool.false_eq_true
abbrev acq:=@Array.getElem?_eq_some_iff
abbrev acu:=@List.getD_eq_getElem?_getD
abbrev acA:=@PySem.F.plain_max_loop
abbrev acB:=@PySem.wpAny_newObj_type
abbrev acC:=@List.nodup_cons
abbrev acD:=@List.find?_cons
abbrev acE:=@List.length_singleton
abbrev acF:=@PySem.Obj.data_mapFields
abbrev acG:=@List.mem_append_left
abbrev acI:=@PySem.Around.under_plainId
abbrev acR:=@PySem.wpAny_truthy_bool
abbrev acS:=@List.flatten_cons
abbrev acT:=@List.length_set
abbrev acV:=@PySem.wpAny_call_entry
abbrev acY:=@decide_eq_true
abbrev acZ:=@Bool.false_ne_true
abbrev adK:=@PySem.W.callWith_K
abbrev adL:=@PySem.boot_len
abbrev adM:=@Classical.byContradiction
abbrev adN:=@List.drop_eq_getElem_cons
abbrev adO:=@PySem.wpAny_letGo
abbrev adP:=@Nat.ne_of_gt
abbrev adQ:=@List.mem_of_getElem?
abbrev adR:=@PySem.codeAny_builtin
abbrev adS:=@PySem.wpAny_updateSeq
abbrev adT:=@List.append_assoc
abbrev adU:=@PySem.wpAny_loadPart_at
abbrev adV:=@List.all_cons
abbrev adW:=@List.any_cons
abbrev adY:=@beq_eq_false_iff_ne
abbrev adZ:=@Array.length_toList
abbrev aeg:=@beq_self_eq_true
abbrev aek:=@List.length_take
abbrev ael:=@List.length_drop
abbrev aer:=@PySem.Calls.callWith_builtin
abbrev aes:=@PySem.Heap.size_after_update
abbrev aet:=@PySem.F.type_str_split
abbrev aeu:=@List.forIn_cons
abbrev aev:=@List.mem_append
abbrev aew:=@PySem.Obj.isFreed_of_fields
abbrev aex:=@PySem.F.slot_zip_next
abbrev aey:=@if_false
abbrev aez:=@List.getElem?_append_right
abbrev aeA:=@PySem.F.slot_tuple_iterator_next
abbrev aeB:=@PySem.Calls.spliced_nil
abbrev aeH:=@PySem.codeAny_mono
abbrev aeI:=@List.lookup_cons
abbrev aeJ:=@PySem.F.called_set
abbrev aeK:=@PySem.F.slot_list_append
abbrev aeL:=@PySem.F.type_list_append
abbrev aeM:=@List.filterMap_cons
abbrev aeN:=@PySem.wpAny_getItem_str_slice
abbrev aeO:=@PySem.plainId_quiet
abbrev aeP:=@PySem.wpAny_onRaise
abbrev aeQ:=@PySem.wpAny_pyIter_tuple
abbrev aeR:=@List.length_nil
abbrev aeS:=@PySem.call_meets
abbrev aeT:=@PySem.W.kia_one
abbrev aeU:=@PySem.wpAny_pyIter_list
abbrev aeV:=@Int.toNat_natCast
abbrev aeW:=@decide_eq_true_eq
abbrev aeX:=@PySem.wpAny_setField
abbrev aeY:=@PySem.F.slot_dict_get
abbrev aeZ:=@PyProof.Rows.Boot.str
abbrev ae0:=@PySem.F.slot_str_join
abbrev ae1:=@PySem.F.type_str_join
abbrev ae3:=@PySem.wpAny_isInstance
abbrev ae4:=@PySem.W.looks_findIn
abbrev ae5:=@Nat.lt_succ_self
abbrev ae6:=@PySem.wpAny_call
abbrev ae7:=@PySem.typeIs_str
abbrev afj:=@PySem.Calls.evalArgs_plain
abbrev afk:=@List.all_eq_true
abbrev afl:=@PySem.wpAny_rule
abbrev afm:=@List.drop_length
abbrev afo:=@PySem.codeAny_call_builtin
abbrev afp:=@Nat.le_succ
abbrev afq:=@PySem.F.plain_extend_loop
abbrev afr:=@PySem.wpAny_isSubtype_exc
abbrev afA:=@List.getElem?_append_left
abbrev afB:=@List.map_append
abbrev afC:=@Array.forIn_toList
abbrev afD:=@PySem.F.args_tuple_add_2
abbrev afE:=@List.mem_map
abbrev afF:=@or_false
abbrev afG:=@PySem.F.args_str_split_2
abbrev afH:=@List.nodup_nil
abbrev afI:=@List.drop_zero
abbrev afJ:=@List.forIn_nil
abbrev afK:=@PySem.wpAny_tryCatch
abbrev afL:=@PySem.F.entry_tuple_add
abbrev afM:=@PyProof.Rows.F.plain_set_update_loop
abbrev afN:=@PySem.F.entry_str_split
abbrev afO:=@of_decide_eq_true
abbrev afP:=@List.reverse_cons
abbrev afQ:=@Nat.lt_succ_of_lt
abbrev afR:=@PySem.sizeLine_eq
abbrev afS:=@PySem.F.slot_tuple_add
abbrev afT:=@List.take_of_length_le
abbrev afU:=@PySem.F.entry_max_loop
abbrev afV:=@PySem.wpAny_standAt
abbrev afW:=@PySem.strLen_append
abbrev afX:=@PySem.wpAny_execs_cons
abbrev afY:=@PySem.W.methodCall_KW
abbrev afZ:=@List.length_replicate
abbrev af0:=@Classical.choose_spec
abbrev af1:=@PyProof.Rows.Boot.all
abbrev af2:=@PySem.plainObj_wpAny_Assign_Attribute
abbrev af3:=@PySem.wpAny_specialOf
abbrev af4:=@Nat.le_of_lt
abbrev af5:=@PySem.Heap.get?_none_of_le
abbrev af6:=@PySem.wpAny_execs_nil
abbrev af7:=@PyProof.Rows.callWith_builtin1
abbrev af8:=@PySem.wpAny_typeOf
abbrev af9:=@PySem.Txt.slice_le
abbrev aga:=@PySem.post_val_or_str
abbrev agb:=@List.nil_append
abbrev agc:=@Nat.not_lt
abbrev agd:=@Nat.zero_add
abbrev age:=@PySem.W.plainGet_of
abbrev agf:=@PySem.W.looks_clsIn
abbrev agg:=@List.length_reverse
abbrev agh:=@PySem.Heap.SameBut.update
abbrev agi:=@Bool.false_and
abbrev agj:=@PySem.isSubtype_stop
abbrev agk:=@Nat.lt_of_le_of_lt
abbrev agl:=@PySem.Code.quiet_builtin
abbrev agm:=@Int.emod_lt_of_pos
abbrev agn:=@Nat.add_sub_cancel
abbrev agp:=@PySem.Paired.length
abbrev agq:=@PySem.wpAny_attempt
abbrev agr:=@PySem.F.slot_str_partition
abbrev ags:=@PySem.eqIsQuiet_byValue
abbrev agt:=@PySem.F.args_zip_next_1
abbrev agu:=@PySem.wpAny_Call_method
abbrev agv:=@beq_iff_eq
abbrev agw:=@PySem.F.slot_dict_getitem
abbrev agy:=@PySem.Around.in1_units
abbrev agD:=@PySem.noFill_tuple_add
abbrev agE:=@PySem.F.entry_zip_next
abbrev agF:=@List.zipIdx_cons
abbrev agG:=@Array.toList_inj
abbrev agH:=@List.cons_ne_nil
abbrev agI:=@PySem.F.slot_list_extend
abbrev agJ:=@PySem.F.type_list_extend
abbrev agK:=@List.getElem?_replicate
abbrev agL:=@PySem.F.plainAttrs_list
abbrev agM:=@PySem.F.plainAttrs_dict
abbrev agN:=@PySem.F.args_dict_get_3
abbrev agO:=@PyProof.Rows.Boot.tuple
abbrev agP:=@List.of_mem_zip
abbrev agQ:=@List.zipIdx_nil
abbrev agR:=@Int.emod_nonneg
abbrev agS:=@List.length_zip
abbrev agT:=@List.mem_range
abbrev ag1:=@Bool.and_false
abbrev ag2:=@Bool.not_true
section
section
namespace L2
open PySem PySem.Spec PyProof.Rows
variable {A:Around}{Q:Int->Shared->Prop}{n:Nat}
inductive D where
 |cD|bl (b:Bool)|int (i:Int)|str (z:Str)|tup (ds:List D)|lst (ds:List D)
mutual
noncomputable def D.same:D->D->Bool
 |.cD,.cD=>true
 |.bl a,.bl b=>a == b
 |.int a,.int b=>a == b
 |.str a,.str b=>decide (a=b)
 |.tup a,.tup b=>D.qH a b
 |.lst a,.lst b=>D.qH a b
 |_,_=>false
noncomputable def D.qH:List D->List D->Bool
 |[],[]=>true
 |a::as,b::bs=>D.same a b && D.qH as bs
 |_,_=>false
end
mutual
theorem D.same_refl:∀a:D,D.same a a=true
 |.cD=>rfl
 |.bl a=>show(a == a)=true from aeg a
 |.int a=>show(a == a)=true from aeg a
 |.str a=>show decide (a=a)=true from acY rfl
 |.tup a=>show D.qH a a=true from D.uK a
 |.lst a=>show D.qH a a=true from D.uK a
theorem D.uK:∀a:List D,D.qH a a=true
 |[]=>rfl
 |a::as=>by show(D.same a a && D.qH as as)=true;rw[D.same_refl a,D.uK as];rfl
end
mutual
theorem D.same_eq:∀{a b:D},D.same a b=true->a=b
 |.cD,b,h=>by cases b with|cD=>rfl|_=>cases h
 |.bl a,b,h=>by cases b with|bl c=>rw[eq_of_beq (show(a == c)=true from h)]|_=>cases h
 |.int a,b,h=>by cases b with|int c=>rw[eq_of_beq (show(a == c)=true from h)]|_=>cases h
 |.str a,b,h=>by cases b with|str c=>rw[afO (show decide (a=c)=true from h)]|_=>cases h
 |.tup a,b,h=>by cases b with|tup b=>rw[D.zG (show D.qH a b=true from h)]|_=>cases h
 |.lst a,b,h=>by cases b with|lst b=>rw[D.zG (show D.qH a b=true from h)]|_=>cases h
theorem D.zG:∀{a b:List D},D.qH a b=true->a=b
 |[],b,h=>by cases b with|nil=>rfl|_=>cases h
 |a::as,b,h=>by
  cases b with
  |nil=>cases h
  |cons b bs=>
   have h:=Bool.and_eq_true_iff.mp (show(D.same a b && D.qH as bs)=true from h);rw[D.same_eq h.1,D.zG h.2]
end
noncomputable instance:DecidableEq D:=λa b=>if h:D.same a b=true then isTrue (D.same_eq h) else isFalse λe=>h (e▸D.same_refl a)
noncomputable def bI(b:Bool):Int:=if b then 1 else 0
mutual
noncomputable def nf:D->D
 |.bl b=>.int (bI b)
 |.tup ds=>.tup (Xu ds)
 |d=>d
noncomputable def Xu:List D->List D
 |[]=>[]
 |d::ds=>nf d::Xu ds
end
noncomputable def jF:Nat->D->Bool
 |_,.bl _=>true
 |_,.int _=>true
 |_,.str _=>true
 |n+1,.tup ds=>ds.all (jF n)
 |_,_=>false
mutual
theorem Iw:∀(d:D)(n:Nat),jF n d=true->jF n (nf d)=true
 |.bl _,n,_=>by cases n<;>rfl
 |.int _,n,_=>by cases n<;>rfl
 |.str _,n,_=>by cases n<;>rfl
 |.cD,n,h=>by cases n<;>exact h
 |.lst _,n,h=>by cases n<;>exact h
 |.tup ds,0,h=>by exact h
 |.tup ds,n+1,h=>Ei ds n h
theorem Ei:∀(ds:List D)(n:Nat),ds.all (jF n)=true->(Xu ds).all (jF n)=true
 |[],n,_=>rfl
 |d::ds,n,h=>by
  rw[adV,acf]at h;show((nf d::Xu ds).all (jF n))=true;rw[adV,Iw d n h.1,Ei ds n h.2];rfl
end
mutual
inductive vE(h:Heap):Value->D->Prop
 |bool(b:Bool):vE h (.bool b) (.int (bI b))
 |int(i:Int)(t:Tok):vE h (.int i t) (.int i)
 |str(x:Str)(t:Tok):vE h (.str x t) (.str x)
 |tup{a:Addr}{its:AAL}{ds:List D}(p:h.IsTuple a its.toArray)(r:wO h its ds):vE h (.ref a) (.tup ds)
inductive wO(h:Heap):BBG->List D->Prop
 |nil:wO h [] []
 |cons{u:Value}{d:D}{us:AAL}{ds:List D}(r:vE h u d)(rs:wO h us ds):wO h (u::us) (d::ds)
end
mutual
noncomputable def Iz(w:World):D->Int
 |.int i=>hashInt i
 |.str x=>hashStr w x
 |.tup ds=>reduceHash (Builtin.Tuple.tupleHashOf (Gz w ds))
 |_=>0
noncomputable def Gz(w:World):List D->BBD
 |[]=>[]
 |d::ds=>Iz w d::Gz w ds
end
mutual
noncomputable def zH:D->Nat
 |.tup ds=>zm ds+1
 |_=>1
noncomputable def zm:List D->Nat
 |[]=>0
 |d::ds=>zH d+zm ds
end
def vE.both{h:Heap}{P:Value->D->Prop}{Q:BBG->List D->Prop}(h1:∀b,P (.bool b) (.int (bI b)))(h2:∀i t,P (.int i t) (.int i))(h3:∀x t,P (.str x t) (.str x))(h4:∀{a its ds},h.IsTuple a its.toArray->wO h its ds->Q its ds->P (.ref a) (.tup ds))(h5:Q [] [])(h6:∀{u d us ds},P u d->Q us ds->Q (u::us) (d::ds)):(∀{v d},vE h v d->P v d)/\∀{vs ds},wO h vs ds->Q vs ds:=
 ⟨λr=>vE.rec (motive_1:=λv d _=>P v d) (motive_2:=λv d _=>Q v d) h1 h2 h3 (λp r q=>h4 p r q) h5 (λ_ _=>h6) r,λr=>wO.rec (motive_1:=λv d _=>P v d) (motive_2:=λv d _=>Q v d) h1 h2 h3 (λp r q=>h4 p r q) h5 (λ_ _=>h6) r⟩
def wO.length{h:Heap}{us:AAL}{ds:List D}(r:wO h us ds):us.length=ds.length:=
 (vE.both (P:=λ_ _=>True) (Q:=λus ds=>us.length=ds.length) (λ_=>trivial) (λ_ _=>trivial) (λ_ _=>trivial) (λ_ _ _=>trivial) rfl λ_ q=>congrArg Nat.succ q).2 r
def vE.inj{h:Heap}{v:Value}{d e:D}(r:vE h v d)(q:vE h v e):d=e:=
 (vE.both (P:=λv d=>∀e,vE h v e->d=e) (Q:=λvs ds=>∀es,wO h vs es->ds=es) (λ_ _ r=>by cases r;rfl) (λ_ _ _ r=>by cases r;rfl) (λ_ _ _ r=>by cases r;rfl) (λ{a its ds} p _ ih _ q=>by
  cases q with
  |@tup _ its' _ p' r'=>
   obtain⟨o,h1,_,n,h2⟩:=p;obtain⟨o',Ug,_,n',h2'⟩:=p';cases h1.symm.trans Ug;injection h2.symm.trans h2' with e1 _
   cases(show its=its' from congrArg Array.toList e1);rw[ih _ r']) (λ_ r=>by cases r;rfl) λp q _ r=>by cases r with|cons r2 s2=>rw[p _ r2,q _ s2]).1 r e q
def vE.keeps{h h':Heap}{d:Addr}{o:Obj}{es:Array DictEntry}{ep:Nat}(ho:h.get? d=some o)(hd:o.data= .dict es ep)(hs:Heap.SameBut d h h'){v:Value}{k:D}(r:vE h v k):vE h' v k:=
 (vE.both (P:=vE h') (Q:=wO h') .bool .int .str (λ{a _ _} p _ q=>by
  obtain⟨o',h1,h2,n,h3⟩:=p;have hne:a≠d:=λz=>by subst z;cases ho.symm.trans h1;cases hd.symm.trans h3
  exact .tup ⟨o',(hs.2 a hne).trans h1,h2,n,h3⟩ q) .nil .cons).1 r
section
variable {prog:Program}{w:World}{E:AAE}
def yq{s:Shared}{b:Bool}(h:Q (hashInt (bI b)) {s with toks:=s.toks+1}):wpAny (model prog w) A (pyHash (.bool b)) Q E s:=by
 refine PySem.W.pyHash_slot (T:="bool") rfl F.slot_bool_hash F.entry_int_hash (F.args_int_hash_1 _) (beq_builtin_none _) (.inl rfl) ?_;cases b
 .exact(show wpAny _ _ (do ret (<-mkInt 0)) _ _ s from aal (wpAny_mkInt (aan ⟨_,_,rfl,h⟩)))
 .exact(show wpAny _ _ (do ret (<-mkInt 1)) _ _ s from aal (wpAny_mkInt (aan ⟨_,_,rfl,h⟩)))
def Mr{v:Value}{d:D}{s:Shared}(x:vE s.heap v d)(hk:jF n d=true)(hu:A.units+n<cLine)(h:Q (Iz w d) {s with toks:=s.toks+zH d}):wpAny (model prog w) A (pyHash v) Q E s:=by
 refine(vE.both (h:=s.heap) (P:=λv d=>∀(n:Nat)(A:Around)(s':Shared)(Q:Int->Shared->Prop),s'.heap=s.heap->jF n d=true->A.units+n<cLine->Q (Iz w d) {s' with toks:=s'.toks+zH d}->wpAny (model prog w) A (pyHash v) Q E s')
  (Q:=λvs ds=>∀(n:Nat)(A:Around)(s':Shared)(b:Array Int)(Q:Array Int->Shared->Prop),s'.heap=s.heap->ds.all (jF n)=true->A.units+n<cLine->(∀b',b'.toList=b.toList++Gz w ds->Q b' {s' with toks:=s'.toks+zm ds})->
   wpAny (model prog w) A (forIn vs b λx r=>do let h <-pyHash x;pure PUnit.unit;pure (ForInStep.yield (r.push h))) Q E s')
  (λ_ _ _ _ _ _ _ _ h=>yq h) (λ_ _ _ _ _ _ _ _ _ h=>wpAny_pyHash_int h) (λ_ _ _ _ _ _ _ _ _ h=>wpAny_pyHash_str h) (λ{a its ds} p _ ih n A s' Q e hk hu h=>?_) (λ_ _ s' b _ _ _ _ h=>aan (h b (abE _).symm)) λ{v d _ ds} p q n A s' b Q e hk hu h=>?_).1 x n A s Q rfl hk hu h
 .cases n with
  |zero=>cases hk
  |succ n=>
   obtain⟨o,hg,hc,m,hd⟩:=p;rw[<-e]at hg;refine PySem.W.pyHash_slot (T:="tuple") ⟨_,hg,hc⟩ F.slot_tuple_hash F.entry_tuple_hash (F.args_tuple_hash_1 _) (beq_builtin_none _) (.inr (by lia)) ?_;show wpAny _ _ (Builtin.Tuple.tupleItemsOf (.ref a) >>= _) _ _ s';refine aal (wpAny_tupleItemsOf hg hd ?_);refine aal ?_;rw[<-afC];refine ih n A.in1 _ #[] _ e hk (by rw[agy];lia) λb hb=>?_;show wpAny _ _ (retInt (Builtin.Tuple.tupleHashOf b.toList)) _ _ _;rw[hb];exact aal (wpAny_mkInt (aan ⟨_,_,rfl,h⟩))
 .rw[adV,acf]at hk;rw[aeu];refine aal (aal (p n A s' _ e hk.1 hu ?_));refine aal (aan (aan ?_));refine q n A _ _ _ e hk.2 hu λb' hb=>?_;have z:=h b' (by rw[hb,Array.toList_push,adT];rfl);show Q b' {s' with toks:=s'.toks+zH d+zm ds};rw[Nat.add_assoc];exact z
end
def CP(n:Nat)(f:Nat->Bool):(List.range (n+1)).all f=(f 0 && (List.range n).all λj=>f (j+1)):=by
 rw[List.range_succ_eq_map,adV,List.all_map];rfl
theorem Ej:∀ds es:List D,((List.range (min ds.length es.length)).all (λj=>decide (ds[j]? =es[j]?)) && ds.length == es.length)=decide (ds=es)
 |[],[]=>by simp
 |[],e::es=>by simp
 |d::ds,[]=>by simp
 |d::ds,e::es=>by
  have ih:=Ej ds es;have e1:min (d::ds).length (e::es).length=min ds.length es.length+1:=by simp only[aaI];lia
  rw[e1,CP];have e2:(λj=>decide ((d::ds)[j+1]? =(e::es)[j+1]?))=λj=>decide (ds[j]? =es[j]?):=by funext j;simp
  have e3:((d::ds).length == (e::es).length)=(ds.length == es.length):=by simp
  have e4:decide ((d::ds)[0]? =(e::es)[0]?)=decide (d=e):=by simp
  have e5:decide (d::ds=e::es)=(decide (d=e) && decide (ds=es)):=by
   by_cases a:d=e
   .subst a;by_cases b:ds=es<;>simp[b]
   .simp[a]
  rw[e2,e3,e4,Bool.and_assoc,ih,e5]
def Ms{α:Type}(l:List α)(j:Nat)(h:j<l.toArray.size):l[j]? =some l.toArray[j]:=by
 have z:j<l.length:=by simpa using h
 simp[z]
def eqK{d e:D}{s:Shared}{u v:Value}(r1:vE s.heap u d)(r2:vE s.heap v e)(hk:jF n d=true)(hu:A.units+n<cLine):SeqAt.EqAt A s u v (decide (d=e)):=by
 have di:∀i j:Int,decide (D.int i=D.int j)=(i == j):=λi j=>by by_cases z:i=j<;>simp[z]
 refine(vE.both (h:=s.heap) (P:=λu d=>∀(e:D)(n:Nat)(A:Around)(v:Value),vE s.heap v e->jF n d=true->A.units+n<cLine->SeqAt.EqAt A s u v (decide (d=e)))
  (Q:=λus ds=>∀(es:List D)(n:Nat)(A:Around)(vs:AAL)(j:Nat)(u v:Value),wO s.heap vs es->ds.all (jF n)=true->A.units+n<cLine->us[j]? =some u->vs[j]? =some v->SeqAt.EqAt A s u v (decide (ds[j]? =es[j]?)))
  (λa e n A v r2 _ hu=>?_) (λi t e n A v r2 _ hu=>?_) (λi t e n A v r2 _ hu=>?_) (λ{ca uL ds} pa ra ih e n A v r2 hk hu=>?_) (λ_ _ _ _ _ _ _ _ _ _ h1=>by cases h1) λ{_ d _ ds} p q es n A vs j u v r2 hk hu h1 h2=>?_).1 r1 e n A v r2 hk hu
 .cases r2 with
  |int j t'=>rw[di];exact SeqAt.EqAt.bool_int a j t'
  |bool b=>
   have:(bI a == bI b)=(a == b):=by cases a<;>cases b<;>rfl
   rw[di,this];exact SeqAt.EqAt.bool_bool a b
  |str x t'=>exact SeqAt.EqAt.bool_str a x t'
  |tup p r=>exact SeqAt.EqAt.bool_tuple a p (by lia)
 .cases r2 with
  |int j t'=>rw[di];exact SeqAt.EqAt.int_int i t j t'
  |bool b=>rw[di];exact SeqAt.EqAt.int_bool i t b
  |str x t'=>exact SeqAt.EqAt.int_str i t x t'
  |tup p r=>exact SeqAt.EqAt.int_tuple i t p (by lia)
 .cases r2 with
  |int j t'=>exact SeqAt.EqAt.str_int i t j t'
  |bool b=>exact SeqAt.EqAt.str_bool i t b
  |str x t'=>
   have:decide (D.str i=D.str x)=(i == x):=by by_cases z:i=x<;>simp[z]
   rw[this];exact SeqAt.EqAt.str_str i t x t'
  |tup p r=>exact SeqAt.EqAt.str_tuple i t p (by lia)
 .cases n with
  |zero=>cases hk
  |succ n=>
  cases r2 with
  |int j t'=>exact SeqAt.EqAt.tuple_int j t' pa (by lia)
  |bool b=>exact SeqAt.EqAt.tuple_bool b pa (by lia)
  |str x t'=>exact SeqAt.EqAt.tuple_str x t' pa (by lia)
  |@tup cb oY es pb rb=>
   by_cases hc:ca=cb
   .subst hc;rw[acY (vE.inj (.tup pa ra) (.tup pb rb))];exact SeqAt.EqAt.same _
   .have q:=SeqAt.RcAt.tuples (e:=λj=>decide (ds[j]? =es[j]?)) pa pb (by lia) λj h1 h2=>ih es n A.in1 oY j _ _ rb hk (by rw[agy];lia) (Ms uL j h1) (Ms oY j h2);rw[aao,aao,ra.length,rb.length,Ej]at q;have z:decide (D.tup ds=D.tup es)=decide (ds=es):=by by_cases a:ds=es<;>simp[a]
    rw[z];exact SeqAt.EqAt.of_refs hc q
 .rw[adV,acf]at hk;cases r2 with
  |nil=>cases h2
  |@cons v' e' vs' es' b bs=>
   cases j with
   |zero=>
    cases h1;cases h2;have z:decide ((d::ds)[0]? =(e'::es')[0]?)=decide (d=e'):=by simp
    rw[z];exact p e' n A _ b hk.1 hu
   |succ j=>exact q es' n A vs' j u v bs hk.2 hu h1 h2
section
variable {prog:Program}{w:World}{A:Around}{E:AAE}{s:Shared}
def Uh{d:D}{v:Value}{Q:Bool->Shared->Prop}(x:vE s.heap v d)(hk:jF n d=true)(h:Q true s):wpAny (model prog w) A (eqIsQuiet n v) Q E s:=by
 refine(vE.both (h:=s.heap) (P:=λv d=>∀(n:Nat)(Q:Bool->Shared->Prop),jF n d=true->Q true s->wpAny (model prog w) A (eqIsQuiet n v) Q E s)
  (Q:=λvs ds=>∀(n:Nat)(Q:Option Bool×Unit->Shared->Prop),ds.all (jF n)=true->Q (none,()) s->wpAny (model prog w) A (forIn vs ((none,()):Option Bool×Unit) λy __s=>do
   let __do_lift <-eqIsQuiet n y
   if(!__do_lift)=true then pure (ForInStep.done (some false,())) else pure (ForInStep.yield (none,()))) Q E s)
  (λ_ n Q _ h=>by rw[ags n rfl];exact aan h) (λ_ _ n Q _ h=>by rw[ags n rfl];exact aan h) (λ_ _ n Q _ h=>by rw[ags n rfl];exact aan h) (λ{a its ds} p _ ih n Q hk h=>?_) (λ_ _ _ h=>aan h) λp q n Q hk h=>?_).1 x n Q hk h
 .cases n with
  |zero=>cases hk
  |succ n=>
   obtain⟨o,hg,hc,m,hd⟩:=p;have hT:s.TypeIs (.ref a) "tuple":=⟨o,hg,hc⟩
   unfold eqIsQuiet;refine aal (af3 hT F.slot_tuple_eq.lookup ?_);show wpAny _ _ (isInstance (.ref a) (.type "tuple") >>= _) _ _ s;refine aal (ae3 hT isSubtype_tuple_tuple ?_);simp only[ag2,acp,aey];refine aal (aby hg hd ?_);refine aal ?_;show wpAny _ _ (forIn its.toArray _ _) _ _ s;rw[<-afC];exact ih n _ hk (aan h)
 .rw[adV,acf]at hk;rw[aeu];refine aal (aal (p n _ hk.1 ?_));simp only[ag2,acp,aey];exact aan (q n _ hk.2 h)
end
def nW(prog:Program)(w:World):HeapKind prog w D where
 is:=λh k a=>vE h (.ref a) k/\jF 8 k=true
 hash:=Iz w
 draws:=zH
 room:=λA=>A.units+8<cLine
 inj:=λhx hy=>hx.1.inj hy.1
 keeps:=λx ho hd hs=>⟨x.1.keeps ho hd hs,x.2⟩
 pyHash:=λhu hk h=>Mr hk.1 hk.2 hu h
 eqBool:=λhu hx hy h=>eqK hx.1 hy.1 hx.2 hu _ _ _ _ h
 quiet:=λhk h=>Uh hk.1 hk.2 h
def nq{prog:Program}{w:World}(hu:A.units+20<cLine):(nW prog w).room A.in1:=by
 show A.in1.units+8<cLine;rw[agy];lia
end L2
end
namespace L2
open PySem PySem.Spec PyProof.Rows
variable {us:AAL}{H H':Hp}{a C:Addr}{o:Obj}{u:Value}{P prog:Program}{w:World}{ts:List (Addr×Addr)}{g':Array GenState}{t' i k:Nat}{ch fp:BBE}{N ps:BBB}{x qual:Str}{M:Model}{A:Around}{E Q:AAE}{X:Cx}{pos pos':Pos}{pins:AAG}{O:St}{op:CmpOp}{K:AAD}{es:BBC}{tg:Expr}{te:TE}{body:BBH}{r:R2}{g:Int->Int->Int}{y:V}{mA mg:AAF}{pl:Sem Bool}{kw:List (Str×Value)}{base:Heap}{outer:BBF}{vs:List V}{scope:Scope}{kvs:List (D×V)}{xs:List (D×Addr×Value)}{Qj:List (TE×TE)}
abbrev Key:=Sum Int Str
def zI:Key->Value->Bool
 |.inl k,.bool b=>decide (k=bI b)
 |.inl k,v=>Value.isInt k v
 |.inr x,v=>Value.isStrOf x v
noncomputable def abA(w:World):Key->Int
 |.inl k=>hashInt k
 |.inr x=>hashStr w x
theorem cV:∀{k:Key}{v:Value},zI k v=true->(∃i t,k=Sum.inl i/\v=Value.int i t)\/(∃b,k=Sum.inl (bI b)/\v=Value.bool b)\/(∃x t,k=Sum.inr x/\v=Value.str x t)
 |.inl i,v,h=>by
  cases v with
  |bool b=>exact .inr (.inl ⟨b,by rw[afO (show decide (i=bI b)=true from h)],rfl⟩)
  |int j t=>obtain⟨t,e⟩:=Value.isInt_shape (k:=i) (v:=Value.int j t) h;exact .inl ⟨i,t,rfl,e⟩
  |_=>exact absurd h (by simp[zI,Value.isInt])
 |.inr x,v,h=>by
  obtain⟨t,e⟩:=Value.isStrOf_shape (x:=x) (v:=v) h;exact .inr (.inr ⟨x,t,rfl,e⟩)
def Kl(i:Int)(t:Tok):zI (.inl i) (.int i t)=true:=by simp[zI,Value.isInt]
def Km(x:Str)(t:Tok):zI (.inr x) (.str x t)=true:=by simp[zI,Value.isStrOf]
def CQ(a b:Int):decide ((Sum.inl a:Key)=Sum.inl b)=(a == b):=by
 by_cases e:a=b
 .subst e;simp
 .have h:¬(Sum.inl a:Key)=Sum.inl b:=λq=>e (Sum.inl.inj q);rw[ab6 h];exact(adY.mpr e).symm
def Ui(a b:Str):decide ((Sum.inr a:Key)=Sum.inr b)=decide (a=b):=by
 by_cases e:a=b
 .subst e;simp
 .have h:¬(Sum.inr a:Key)=Sum.inr b:=λq=>e (Sum.inr.inj q);rw[ab6 h,ab6 e]
def Mt(a:Int)(b:Str):decide ((Sum.inl a:Key)=Sum.inr b)=false:=ab6 (λq=>nomatch q)
def Mu(a:Str)(b:Int):decide ((Sum.inr a:Key)=Sum.inl b)=false:=ab6 (λq=>nomatch q)
def cY(prog:Program)(w:World):PySem.KeyKind prog w Key where
 is:=zI
 hash:=abA w
 inj:=λv a b ha hb=>by
  rcases cV ha with⟨i,t,rfl,rfl⟩|⟨c,rfl,rfl⟩|⟨x,t,rfl,rfl⟩
  .rcases cV hb with⟨j,u,rfl,e⟩|⟨c',rfl,e⟩|⟨y,u,rfl,e⟩
   .injection e with e1 _;rw[e1]
   .exact nomatch e
   .exact nomatch e
  .rcases cV hb with⟨j,u,rfl,e⟩|⟨c',rfl,e⟩|⟨y,u,rfl,e⟩
   .exact nomatch e
   .injection e with e1;rw[e1]
   .exact nomatch e
  .rcases cV hb with⟨j,u,rfl,e⟩|⟨c',rfl,e⟩|⟨y,u,rfl,e⟩
   .exact nomatch e
   .exact nomatch e
   .injection e with e1 _;rw[e1]
 byValue:=λk v h=>by
  rcases cV h with⟨i,t,rfl,rfl⟩|⟨c,rfl,rfl⟩|⟨x,t,rfl,rfl⟩<;>rfl
 pyHash:=λhv h=>by
  rcases cV hv with⟨i,t,rfl,rfl⟩|⟨c,rfl,rfl⟩|⟨x,t,rfl,rfl⟩
  .exact wpAny_pyHash_int h
  .exact yq h
  .exact wpAny_pyHash_str h
 eqBool:=λhu hv h=>by
  rcases cV hu with⟨i,t,rfl,rfl⟩|⟨c,rfl,rfl⟩|⟨x,t,rfl,rfl⟩
  .rcases cV hv with⟨j,u,rfl,rfl⟩|⟨c',rfl,rfl⟩|⟨y,u,rfl,rfl⟩
   .rw[CQ]at h;exact wpAny_eqBool_int h
   .rw[CQ]at h;exact SeqAt.EqAt.int_bool i t c' _ _ _ _ h
   .rw[Mt]at h;exact SeqAt.EqAt.int_str i t y u _ _ _ _ h
  .rcases cV hv with⟨j,u,rfl,rfl⟩|⟨c',rfl,rfl⟩|⟨y,u,rfl,rfl⟩
   .rw[CQ]at h;exact SeqAt.EqAt.bool_int c j u _ _ _ _ h
   .have e:(bI c == bI c')=(c == c'):=by cases c<;>cases c'<;>rfl
    rw[CQ,e]at h;exact SeqAt.EqAt.bool_bool c c' _ _ _ _ h
   .rw[Mt]at h;exact SeqAt.EqAt.bool_str c y u _ _ _ _ h
  .rcases cV hv with⟨j,u,rfl,rfl⟩|⟨c',rfl,rfl⟩|⟨y,u,rfl,rfl⟩
   .rw[Mu]at h;exact SeqAt.EqAt.str_int x t j u _ _ _ _ h
   .rw[Mu]at h;exact SeqAt.EqAt.str_bool x t c' _ _ _ _ h
   .rw[Ui]at h;exact wpAny_eqBool_str h
 «strs»:=λk x t v h=>by
  rcases cV h with⟨i,u,rfl,e⟩|⟨c,rfl,e⟩|⟨y,u,rfl,e⟩
  .exact nomatch e
  .exact nomatch e
  .injection e with e1 _
   subst e1;cases v<;>rfl
def Ek(prog:Program)(w:World)(i:Int)(t:Tok):(cY prog w).is (.inl i) (.int i t)=true:=Kl i t
def qI(prog:Program)(w:World)(x:Str)(t:Tok):(cY prog w).is (.inr x) (.str x t)=true:=Km x t
inductive V where
 |cD|bl (b:Bool)|int (i:Int)|str (x:Str)|byt (b:Array UInt8)|flt (b:UInt64)|ref (a:Addr)|ty (n:String)
 deriving DecidableEq
def RelV:V->Value->Prop
 |.cD,u=>u=Value.none
 |.bl b,u=>u=Value.bool b
 |.int i,u=>∃t,u=Value.int i t
 |.str x,u=>∃t,u=Value.str x t
 |.byt b,u=>∃t,u=Value.bytes b t
 |.flt b,u=>∃t,u=Value.float b t
 |.ref a,u=>u=Value.ref a
 |.ty n,u=>u=Value.type n
abbrev Vals:List V->BBG->Prop:=Paired RelV
def Vals.length{xs:List V}{us:AAL}(r:Vals xs us):xs.length=us.length:=agp r
theorem Vals.get:∀{xs:List V}{us:AAL}{i:Nat}{x:V},Vals xs us->xs[i]? =some x->∃u,us[i]? =some u/\RelV x u
 |_,_,_,_,.nil,e=>by simp at e
 |_,_,0,_,.cons r _,e=>by simp at e;subst e;exact⟨_,rfl,r⟩
 |_,_,i+1,x,.cons _ t,e=>by
  obtain⟨u,h1,h2⟩:=Vals.get (i:=i) (x:=x) t (by simpa using e);exact⟨u,by simpa using h1,h2⟩
theorem Vals.set{x:V}{u:Value}(r:RelV x u):∀{xs:List V}{us:AAL}(i:Nat),Vals xs us->Vals (xs.set i x) (us.set i u)
 |_,_,_,.nil=>.nil
 |_,_,0,.cons _ t=>.cons r t
 |_,_,i+1,.cons q t=>.cons q (Vals.set r i t)
def Vals.append{xs ys:List V}{ws:AAL}(h:Vals xs us)(s:Vals ys ws):Vals (xs++ys) (us++ws):=by
 induction h with
 |nil=>exact s
 |cons r _ ih=>exact .cons r ih
theorem Vals.take:∀{xs:List V}{us:AAL}(n:Nat),Vals xs us->Vals (xs.take n) (us.take n)
 |_,_,0,_=>.nil
 |_,_,_+1,.nil=>.nil
 |_,_,n+1,.cons r t=>.cons r (Vals.take n t)
theorem Vals.drop:∀{xs:List V}{us:AAL}(n:Nat),Vals xs us->Vals (xs.drop n) (us.drop n)
 |_,_,0,r=>r
 |_,_,_+1,.nil=>.nil
 |_,_,n+1,.cons _ t=>Vals.drop n t
def oZ:Option V->BBP->Prop
 |some v,some u=>RelV v u
 |none,none=>True
 |_,_=>False
def KV{κ:Type}:List (κ×V)->List (κ×Value)->Prop:=Paired λ(p:κ×V)(q:κ×Value)=>p.1=q.1/\RelV p.2 q.2
noncomputable def kV:Key->V
 |.inl i=>.int i
 |.inr x=>.str x
inductive HO where
 |lst(xs:List V)
 |tup(xs:List V)
 |dK(kvs:List (Key×V))|dT (kvs:List (D×V))
 |set(S:Int->Bool)(n:Nat)
 |ins(C dx:Addr)(fs:List (Str×V))
 |own(x:Addr)
 |wL(C dx:Addr)(fs:List (Str×V))
 |xd(fs:List (Str×V))
 |met(f x:Addr)
 |vF(lo hi:Int)
 |kg(o:Obj)(u:HO)
 |Gv(q:Str)
 |ext(φ:Heap->Prop)
abbrev Hp:=Addr->Option HO
mutual
inductive Rep(H:Hp):V->D->Prop
 |cD:Rep H .cD .cD
 |bl(b:Bool):Rep H (.bl b) (.bl b)
 |int(i:Int):Rep H (.int i) (.int i)
 |str(z:Str):Rep H (.str z) (.str z)
 |tup{a:Addr}{vs:List V}{ds:List D}(e:H a=some (.tup vs))(r:bE H vs ds):Rep H (.ref a) (.tup ds)
 |lst{a:Addr}{vs:List V}{ds:List D}(e:H a=some (.lst vs)\/∃o,H a=some (.kg o (.lst vs)))(r:bE H vs ds):Rep H (.ref a) (.lst ds)
inductive bE(H:Hp):List V->List D->Prop
 |nil:bE H [] []
 |cons{v:V}{d:D}{vs:List V}{ds:List D}(r:Rep H v d)(rs:bE H vs ds):bE H (v::vs) (d::ds)
end
mutual
theorem Rep.tups{H H':Hp}(ht:∀b xs,H b=some (.tup xs)->H' b=some (.tup xs)):∀(d:D){n:Nat}{v:V},Rep H v d->jF n d=true->Rep H' v d
 |.cD,n,_,_,k=>by cases n<;>cases k
 |.bl b,n,_,r,k=>by cases r;exact .bl b
 |.lst _,n,_,_,k=>by cases n<;>cases k
 |.int i,n,_,r,k=>by cases r;exact .int i
 |.str i,n,_,r,k=>by cases r;exact .str i
 |.tup ds,n,_,r,k=>by
  cases n with
  |zero=>cases k
  |succ n=>
   cases r with
   |@tup a vs _ e rs=>exact .tup (ht _ _ e) (bE.tups ht ds rs k)
theorem bE.tups{H H':Hp}(ht:∀b xs,H b=some (.tup xs)->H' b=some (.tup xs)):∀(ds:List D){n:Nat}{vs:List V},bE H vs ds->ds.all (jF n)=true->bE H' vs ds
 |[],n,_,r,k=>by cases r;exact .nil
 |d::ds,n,_,r,k=>by
  rw[adV,acf]at k;cases r with
  |cons r1 r2=>exact .cons (Rep.tups ht d r1 k.1) (bE.tups ht ds r2 k.2)
end
def Kd(H:Hp)(b:Addr)(k:D):Prop:=∃d,Rep H (.ref b) d/\jF 8 d=true/\nf d=k
def Kd.tups{H H':Hp}{b:Addr}{k:D}(x:Kd H b k)(ht:∀b xs,H b=some (.tup xs)->H' b=some (.tup xs)):Kd H' b k:=by
 obtain⟨d,r,hk,e⟩:=x;exact⟨d,Rep.tups ht d r hk,hk,e⟩
noncomputable def upd(H:Hp)(a:Addr)(o:HO):Hp:=λb=>if b=a then some o else H b
def aZ{o:HO}:upd H a o a=some o:=by unfold upd;rw[if_pos rfl]
def aR{b:Addr}{o:HO}(h:b≠a):upd H a o b=H b:=by unfold upd;rw[if_neg h]
def Xv{b:Addr}{o u:HO}(h:H a=some o)(h':H b=some u)(d:o≠u):a≠b:=by
 intro e;subst e;rw[h]at h';exact d (abv h')
def bJ{b:Addr}{o:HO}(h:H a=some o)(h':H b=none):a≠b:=by
 intro e;subst e;rw[h]at h';cases h'
section
variable (P:Program)(w:World)
def cR(H:Hp)(h:Heap)(a:Addr):HO->Prop
 |.lst xs=>xs.length<=sizeLine/\∃(its:AAL)(n:Nat),Vals xs its/\h.get? a=some {cls:=.type "list",data:=.seq its.toArray n}
 |.tup xs=>xs.length<=sizeLine/\∃its:BBG,Vals xs its/\IsTup h a its.toArray
 |.dK kvs=>kvs.length<=sizeLine/\(a == sysModules)=false/\∃vs,KV kvs vs/\h.DictOf (cY P w) a vs
 |.dT kvs=>kvs.length<=sizeLine/\(a == sysModules)=false/\∃xs:List (D×Addr×Value),
   Paired (λ(p:D×V)(q:D×Addr×Value)=>p.1=q.1/\Kd H q.2.1 p.1/\RelV p.2 q.2.2) kvs xs/\
   ∃o es ep,h.get? a=some o/\o.ExactDict/\o.data= .dict es ep/\es.toList=xs.map (entryOfKey (nW P w))/\(xs.map (·.1)).Nodup
 |.set S n=>h.SetOf (intKind P w) a S n
 |.ins C dx fs=>H dx=some (.own a)/\fs.length<=1000/\dx≠a/\h.get? a=some (PySem.W.instObj C dx)/\
   ∃mA,h.Ns1 dx mA/\(∀f,oZ (fs.lookup f) (mA f))/\PySem.Within mA (fs.map (·.1))
 |.wL C dx fs=>H dx=some (.own a)/\fs.length<=1000/\dx≠a/\(∃oe vs,h.get? a=some oe/\oe.cls= .ref C/\oe.dict=some dx/\oe.data= .fields vs)/\∃mA,h.Ns1 dx mA/\(∀f,oZ (fs.lookup f) (mA f))/\PySem.Within mA (fs.map (·.1))
 |.own _=>∃o,h.get? a=some o
 |.xd fs=>∃mA,h.Ns1 a mA/\(∀f,oZ (fs.lookup f) (mA f))/\PySem.Within mA (fs.map (·.1))
 |.vF lo hi=>∃t u v,h.get? a=some {cls:=.type "range",data:=.fields #[.int lo t,.int hi u,.int 1 v]}
 |.kg o u=>h.get? a=some o/\cR H h a u
 |.Gv q=>∃ps:Array Value,h.get? a=some {cls:=.none,data:=.fields ps}/\TriplesOk ps.toList/\∀pos cv,codeAmong pos ps.toList=some cv->∃c oc vs t,cv= .ref c/\H c=some (.kg oc (.own a))/\oc.data= .fields vs/\vs[1]? =some (.str q t)
 |.met f x=>h.get? a=some (PySem.W.methodObj (.ref f) (.ref x))
 |.ext φ=>φ h/\(∃o,h.get? a=some o)/\∀h1 h2:Heap,φ h1->(∀o,h1.get? a=some o->h2.get? a=some o)->φ h2
def nY(H:Hp)(h:Heap):Prop:=∀a o,H a=some o->cR P w H h a o
end
section
variable {P:Program}{w:World}{H H':Hp}{h h':Heap}{a:Addr}{o:HO}
def cR.lt(x:cR P w H h a o):a<h.objs.size:=by
 cases o with
 |lst xs=>obtain⟨_,_,_,_,e⟩:=x;exact aap e
 |tup xs=>obtain⟨_,_,_,p⟩:=x;exact p.lt
 |dK kvs=>obtain⟨_,_,_,_,o,_,_,e,_⟩:=x;exact aap e
 |dT kvs=>obtain⟨_,_,_,_,o,_,_,e,_⟩:=x;exact aap e
 |set S n=>obtain⟨o,_,_,_,e,_⟩:=x;exact aap e
 |ins C dx fs=>obtain⟨_,_,_,e,_⟩:=x;exact aap e
 |wL C dx fs=>obtain⟨_,_,_,⟨_,_,e,_⟩,_⟩:=x;exact aap e
 |own y=>obtain⟨_,e⟩:=x;exact aap e
 |xd fs=>obtain⟨_,⟨_,_,_,e,_⟩,_⟩:=x;exact aap e
 |vF lo hi=>obtain⟨_,_,_,e⟩:=x;exact aap e
 |kg ob u=>obtain⟨e,_⟩:=x;exact aap e
 |Gv q=>obtain⟨_,e,_⟩:=x;exact aap e
 |met f y=>exact aap (show h.get? a=some _ from x)
 |ext φ=>obtain⟨_,⟨_,e⟩,_⟩:=x;exact aap e
def Paired.GC{α β:Type}{F G:α->β->Prop}{l₁:List α}{l₂:List β}(r:Paired F l₁ l₂)(f:∀a b,F a b->G a b):Paired G l₁ l₂:=by
 induction r with
 |nil=>exact .nil
 |cons r _ ih=>exact .cons (f _ _ r) ih
def cR.stay(x:cR P w H h a o)(k:∀b u,(b=a\/H b=some (.own a))->h.get? b=some u->h'.get? b=some u)
  (ho:∀b,H b=some (.own a)->H' b=some (.own a))(ht:∀b xs,H b=some (.tup xs)->H' b=some (.tup xs))(hz:∀b o u,H b=some (.kg o u)->H' b=some (.kg o u)):cR P w H' h' a o:=by
 induction o with
 |lst xs=>obtain⟨z,its,n,r,e⟩:=x;exact⟨z,its,n,r,k _ _ (.inl rfl) e⟩
 |tup xs=>obtain⟨z,its,r,ob,e,c⟩:=x;exact⟨z,its,r,ob,k _ _ (.inl rfl) e,c⟩
 |dK kvs=>obtain⟨z,y,vs,r,ob,es,ep,e,c⟩:=x;exact⟨z,y,vs,r,ob,es,ep,k _ _ (.inl rfl) e,c⟩
 |dT kvs=>
  obtain⟨z,y,xs,r,ob,es,ep,e,c⟩:=x;exact⟨z,y,xs,Paired.GC r λp q z=>⟨z.1,z.2.1.tups ht,z.2.2⟩,ob,es,ep,k _ _ (.inl rfl) e,c⟩
 |set S n=>obtain⟨ob,es,ep,t,e,c⟩:=x;exact⟨ob,es,ep,t,k _ _ (.inl rfl) e,c⟩
 |ins C dx fs=>
  obtain⟨d,z,ne,e,mA,⟨od,es,ep,e2,c⟩,r⟩:=x;exact⟨ho _ d,z,ne,k _ _ (.inl rfl) e,mA,⟨od,es,ep,k _ _ (.inr d) e2,c⟩,r⟩
 |wL C dx fs=>
  obtain⟨d,z,ne,⟨oe,vs,e,r1⟩,mA,⟨od,es,ep,e2,c⟩,r⟩:=x;exact⟨ho _ d,z,ne,⟨oe,vs,k _ _ (.inl rfl) e,r1⟩,mA,⟨od,es,ep,k _ _ (.inr d) e2,c⟩,r⟩
 |own y=>obtain⟨ob,e⟩:=x;exact⟨ob,k _ _ (.inl rfl) e⟩
 |xd fs=>obtain⟨mA,⟨od,es,ep,e,c⟩,r⟩:=x;exact⟨mA,⟨od,es,ep,k _ _ (.inl rfl) e,c⟩,r⟩
 |vF lo hi=>obtain⟨t,u,v,e⟩:=x;exact⟨t,u,v,k _ _ (.inl rfl) e⟩
 |kg ob u ih=>obtain⟨e,q⟩:=x;exact⟨k _ _ (.inl rfl) e,ih q⟩
 |Gv q=>obtain⟨ps,e,t,z⟩:=x;exact⟨ps,k _ _ (.inl rfl) e,t,λpos cv y=>let⟨c,oc,vs,t,h1,h2,h3⟩:=z pos cv y;⟨c,oc,vs,t,h1,hz _ _ _ h2,h3⟩⟩
 |met f y=>
  have e:h.get? a=some (PySem.W.methodObj (.ref f) (.ref y)):=x;show h'.get? a=some (PySem.W.methodObj (.ref f) (.ref y));exact k a _ (.inl rfl) e
 |ext φ=>obtain⟨p,⟨o,e⟩,st⟩:=x;exact⟨st _ _ p λo q=>k _ _ (.inl rfl) q,⟨o,k _ _ (.inl rfl) e⟩,st⟩
def nY.lt(x:nY P w H h)(e:H a=some o):a<h.objs.size:=(x a o e).lt
def nY.fresh(x:nY P w H h)(e:h.objs.size<=a):H a=none:=by
 cases q:H a with
 |none=>rfl
 |some u=>exact absurd (aax (x.lt q) e) (ack _)
def nY.kept(x:nY P w H h)(k:∀b u,h.get? b=some u->h'.get? b=some u):nY P w H h':=λa o e=>
 (x a o e).stay (λb u _ q=>k b u q) (λ_ q=>q) (λ_ _ q=>q) λ_ _ _ q=>q
def nY.laid(x:nY P w H h)(k:∀b u,h.get? b=some u->h'.get? b=some u)(hp:h.objs.size<=a)(new:cR P w (upd H a o) h' a o):nY P w (upd H a o) h':=λb u e=>by
 have hn:=x.fresh hp;by_cases hb:b=a
 .subst hb;rw[aZ]at e;cases e;exact new
 .rw[aR hb]at e;exact(x b u e).stay (λc v _ q=>k c v q) (λc q=>by rw[aR (bJ q hn)];exact q) (λc xs q=>by rw[aR (bJ q hn)];exact q) λc xs y q=>by rw[aR (bJ q hn)];exact q
end
def Rd(H:Hp)(a:Addr)(u:HO):Prop:=H a=some u\/∃o,H a=some (.kg o u)
def Rd.of{u:HO}(h:H a=some u):Rd H a u:=.inl h
def Rd.ok{h:Heap}{u:HO}(r:Rd H a u)(x:nY P w H h):cR P w H h a u:=by
 rcases r with r|⟨o,r⟩
 .exact x a u r
 .obtain⟨_,q⟩:=x a _ r;exact q
def Xw:Option HO->Prop
 |some (.lst _)=>True
 |some (.dK _)=>True
 |some (.dT _)=>True
 |some (.set _ _)=>True
 |some (.ins _ _ _)=>True
 |some (.wL _ _ _)=>True
 |some (.xd _)=>True
 |some (.ext _)=>True
 |_=>False
section
variable {P:Program}{w:World}{H:Hp}{h h':Heap}{x e:Addr}{o':HO}
def nY.write(ok:nY P w H h)(mu:Xw (H x))(he:e=x\/H e=some (.own x))(k:∀b u,b≠e->h.get? b=some u->h'.get? b=some u)(WU:∃u,h'.get? e=some u)
  (new:cR P w (upd H x o') h' x o'):nY P w (upd H x o') h':=λb u q=>by
 have Xx:∀c y,H c=some (.own y)->c≠x:=λc y r z=>by subst z;rw[r]at mu;exact mu
 have abB:∀c xs,H c=some (.tup xs)->c≠x:=λc xs r z=>by subst z;rw[r]at mu;exact mu
 by_cases hb:b=x
 .subst hb;rw[aZ]at q;cases q;exact new
 .rw[aR hb]at q;by_cases IA:b=e
  .have q':H b=some (.own x):=by
    rcases he with z|z
    .exact absurd (IA.trans z) hb
    .rw[IA];exact z
   rw[q]at q';cases q';obtain⟨v,hv⟩:=WU;exact⟨v,by rw[IA];exact hv⟩
  .refine(ok b u q).stay (λc v hc r=>k c v ?_ r) (λc r=>by rw[aR (Xx c b r)];exact r) (λc xs r=>by rw[aR (abB c xs r)];exact r) λc xs y r=>by rw[aR (λz=>by subst z;rw[r]at mu;exact mu)];exact r
   rcases hc with rfl|hc
   .exact IA
   .rintro rfl;rcases he with z|z
    .exact Xx c b hc z
    .rw[hc]at z;cases z;exact hb rfl
end
structure Un(fs ex:BBE)(H H':Hp)(h h':Heap):Prop where
 keep:∀b o,h.get? b=some o->H b=none->b∉fs->b∉ex->h'.get? b=some o
 slot:∀b o,h.get? b=some o->H b=none->b∈fs->b∉ex->∃sl,h'.get? b=some {o with slots:=sl}
 free:∀b o,h.get? b=some o->H b=none->b∉ex->H' b=none
 there:∀b o,h.get? b=some o->b∉ex->∃o',h'.get? b=some o'
 tups:∀b xs,H b=some (.tup xs)->H' b=some (.tup xs)
 vH:∀b o u,H b=some (.kg o u)->H' b=some (.kg o u)
 wQ:∀b q,H b=some (.Gv q)->H' b=some (.Gv q)
section
variable {fs ex:BBE}{H H1:Hp}{h h1 h':Heap}{a x e:Addr}{o:HO}
def Un.any(u:Un fs ex H H1 h h1){b:Addr}{ob:Obj}(q:h.get? b=some ob)(n:H b=none)(hx:b∉ex):∃sl,h1.get? b=some {ob with slots:=sl}:=by
 by_cases hb:b∈fs
 .exact u.slot b ob q n hb hx
 .exact⟨ob.slots,u.keep b ob q n hb hx⟩
def Un.kept(k:∀b u,h.get? b=some u->h'.get? b=some u):Un fs ex H H h h':=
 ⟨λb ob q _ _ _=>k b ob q,λb ob q _ _ _=>⟨ob.slots,k b ob q⟩,λ_ _ _ n _=>n,λb ob q _=>⟨ob,k b ob q⟩,λ_ _ q=>q,λ_ _ _ q=>q,λ_ _ q=>q⟩
def Un.refl:Un fs ex H H h h:=Un.kept λ_ _ q=>q
def Un.laid(k:∀b u,h.get? b=some u->h'.get? b=some u)(hp:h.objs.size<=a)(hn:H a=none):Un fs ex H (upd H a o) h h' where
 keep:=λb u q _ _ _=>k b u q
 slot:=λb u q _ _ _=>⟨u.slots,k b u q⟩
 free:=λb u q n _=>by rw[aR (aaD (aax (aap q) hp))];exact n
 there:=λb u q _=>⟨u,k b u q⟩
 tups:=λb xs q=>by rw[aR (bJ q hn)];exact q
 vH:=λb u xs q=>by rw[aR (bJ q hn)];exact q
 wQ:=λb xs q=>by rw[aR (bJ q hn)];exact q
def Un.write(mu:Xw (H x))(he:e=x\/H e=some (.own x))(k:∀b u,b≠e->h.get? b=some u->h'.get? b=some u)(WU:∃u,h'.get? e=some u):Un fs ex H (upd H x o) h h':=by
 have hx:∀b,H b=none->b≠x:=λb n z=>by subst z;rw[n]at mu;exact mu
 have hb:∀b,H b=none->b≠e:=λb n z=>by
  subst z;rcases he with r|r
  .exact hx b n r
  .rw[n]at r;cases r
 have hm:∀b u,H b=some u->¬Xw (some u)->b≠x:=λb u q nm z=>by subst z;rw[q]at mu;exact nm mu
 refine⟨λb u q n _ _=>k b u (hb b n) q,λb u q n _ _=>⟨u.slots,k b u (hb b n) q⟩,λb u q n _=>by rw[aR (hx b n)];exact n,λb u q _=>?_,
  λb xs q=>by rw[aR (hm b _ q λz=>z)];exact q,λb u xs q=>by rw[aR (hm b _ q λz=>z)];exact q,λb xs q=>by rw[aR (hm b _ q λz=>z)];exact q⟩
 by_cases IA:b=e
 .subst IA;exact WU
 .exact⟨u,k b u IA q⟩
end
noncomputable def trk(h:Heap)(H:Hp):BBE:=(List.range h.objs.size).filter λa=>(H a).isSome
def By(h:Heap)(H:Hp)(ts:List (Addr×Addr):=[]):Heap:=⟨(PySem.W.hideAll h (trk h H)).objs,{ids:=ts}⟩
def Kn(h:Heap)(H:Hp):(By h H ts).objs.size=h.objs.size:=PySem.W.hideAll_size _ _
def Mv{h:Heap}{b:Addr}(e:h.get? b=some o)(n:H b=none):(By h H ts).get? b=some o:=
 PySem.W.hideAll_get (h:=h) _ e λhm=>by
  have q:(H b).isSome=true:=(List.mem_filter.mp hm).2;rw[n]at q;simp at q
def PN{h:Heap}{b:Addr}(e:(By h H ts).get? b=some o):h.get? b=some o/\H b=none:=by
 have e':h.get? b=some o:=PySem.W.of_hideAll (trk h H) e;refine⟨e',?_⟩;cases q:H b with
 |none=>rfl
 |some x=>
  have hm:b∈trk h H:=List.mem_filter.mpr ⟨agT.mpr (aap e'),by simp[q]⟩;have z:(By h H ts).get? b=none:=PySem.W.hideAll_none (trk h H) hm;rw[z]at e;cases e
noncomputable def PR(g h:Heap)(L:Addr):List (Addr×Obj):=(List.range h.objs.size).filterMap λa=>if a=L\/(g.get? a).isSome=true then none else(h.get? a).map λo=>(a,o)
def rest(g h:Heap)(L d:Addr):List (Addr×Obj):=(PR g h L).filter λp=>decide (p.1≠d)
def BMn(h:Heap)(mg:AAF):Prop:=∃bm o,mg "__builtins__" =some (.ref bm)/\bm≠builtinsNs/\h.get? bm=some o/\o.cls= .type "module"/\o.dict=some builtinsNs/\o.data= .plain
structure Mod(K:AAD)(mg:AAF)(base:Heap):Prop where
 PU:K.In base
 glob:base.Ns mainGlobals mg
 blt:∃mb,base.Ns builtinsNs mb/\∀x:Str,x≠"__name__"->mb x=bootBuiltins x
 nolimit:base.NoLimit
 bmn:BMn base mg
structure Cx where
 prog:Program
 w:World
 K:PySem.W.Frag
 mg:Str->BBP
 base:Heap
 A:Around
 N:BBB
 s₀:Shared
 H₀:Hp
 env:Env
 outer:BBF
 stack:BBF
 ex:BBE
 fn:Str->Bool
 calm:Bool
 pn:List (Addr×Obj)
 xe:Value->Shared->Prop
noncomputable def frs(l:BBF):BBE:=l.filterMap (·.frame)
abbrev Cx.fs(X:Cx):BBE:=frs X.outer
def wR(sc:Scope)(x:Str):Prop:=sc.names.lookup x=some .local\/sc.names.lookup x=some .cell\/sc.names.lookup x=some .free
def Loc(sc:Scope)(x:Str):Prop:=sc.names.lookup x=some .local\/sc.names.lookup x=some .cell
def Look(env:Env)(h:Heap)(m:AAF)(x:Str)(u:Value):Prop:=
 (env.kindOf x=some .local/\m x=some u)\/((env.kindOf x=some .cell\/env.kindOf x=some .free)/\∃c,env.cells.lookup x=some c/\h.IsCell c (some u))
noncomputable def El:Str:="laid_marks.<locals>.<lambda>"
structure Cx.Ok(X:Cx):Prop where
 mod:Mod X.K X.mg X.base
 kind:X.env.scope.kind= .function
 glob:X.env.globals=mainGlobals
 blt:X.env.builtins=builtinsNs
 above:X.s₀.heap.objs.size<=X.env.locals
 inj:∀x y c,X.env.cells.lookup x=some c->X.env.cells.lookup y=some c->x=y
 has:∀x,(X.env.kindOf x=some .cell\/X.env.kindOf x=some .free)->∃c,X.env.cells.lookup x=some c
 SV:∀x c,X.fn x=true->X.env.cells.lookup x=some c->X.s₀.heap.objs.size<=c
 hd:X.calm=true->X.A.handled=none
 frames:X.A.frames=some X.stack
 stk:X.stack=X.outer\/(X.stack=X.env::X.outer/\X.env.frame=some X.env.locals)
 WV:∀b∈X.ex,b≠X.env.locals/\∀x c,X.env.cells.lookup x=some c->c≠b
 bs:∀b o,X.base.get? b=some o->X.s₀.heap.get? b=some o/\X.H₀ b=none
 L8:X.base.objs.size<=X.s₀.heap.objs.size
 Em:∀b o,X.base.get? b=some o->b∉X.ex
 En:∀b∈X.ex,b∉X.fs
 uM:X.s₀.heap.FunFrames X.base X.outer
 Px:∀b∈X.fs,X.H₀ b=none
 tab:∀p∈X.base.life.ids,X.H₀ p.2=some (.Gv El)
structure Inv(X:Cx)(pins:AAG)(O:List (Option V))(H:Hp)(s:Shared):Prop where
 ok:X.Ok
 os:s.os=X.s₀.os
 bare:AllBare s.gens
 base:Un X.fs X.ex X.H₀ H X.s₀.heap s.heap
 loc:∃m,s.heap.Ns X.env.locals m/\∀(i:Nat)(x:Str)(v:V),X.N[i]? =some x->O[i]? =some (some v)->wR X.env.scope x->∃u,RelV v u/\Look X.env s.heap m x u
 cell:∀x c,X.env.cells.lookup x=some c->∃v,s.heap.IsCell c v
 free:H X.env.locals=none
 mO:∀x c,X.env.cells.lookup x=some c->H c=none\/(X.fn x=false/\∃o,H c=some (.kg o (.own c)))
 pin:∀p∈X.pn++pins,s.heap.get? p.1=some p.2/\H p.1=none/\p.1≠X.env.locals/\p.1∉X.fs/\∀v,p.2.data≠.cell v
 hok:nY X.prog X.w H s.heap
 len:O.length=X.N.length
section
variable {X:Cx}{pins:AAG}{O:List (Option V)}{H H':Hp}{s:Shared}{h':Heap}
def Cx.Ok.kh(ok:X.Ok){b:Addr}(e:X.base.get? b=some o):b∉X.fs:=λhb=>by
 have:=(ok.uM.mem hb).1;rw[e]at this;cases this
def Inv.bs(I:Inv X pins O H s):∀b o,X.base.get? b=some o->s.heap.get? b=some o/\H b=none:=λb o e=>
 ⟨I.base.keep b o (I.ok.bs b o e).1 (I.ok.bs b o e).2 (I.ok.kh e) (I.ok.Em b o e),I.base.free b o (I.ok.bs b o e).1 (I.ok.bs b o e).2 (I.ok.Em b o e)⟩
def Inv.bk(I:Inv X pins O H s):∀b o,X.base.get? b=some o->s.heap.get? b=some o:=λb o e=>(I.bs b o e).1
def Inv.tab(I:Inv X pins O H s):∀p∈X.base.life.ids,H p.2=some (.Gv El):=λp hp=>I.base.wQ _ _ (I.ok.tab p hp)
def Inv.mod(I:Inv X pins O H s):Mod X.K X.mg X.base:=I.ok.mod
def Inv.uh(I:Inv X pins O H s):X.K.In s.heap:=I.ok.mod.PU.keeps I.bk
def Inv.lt(I:Inv X pins O H s):X.env.locals<s.heap.objs.size:=let⟨_,hn,_⟩:=I.loc;hn.lt
def Inv.sz(I:Inv X pins O H s):X.s₀.heap.objs.size<=s.heap.objs.size:=aaC I.ok.above (af4 I.lt)
def Inv.Xy(I:Inv X pins O H s)(h:s.heap.objs.size<=a):a∉X.fs:=λhb=>by
 obtain⟨_,o,ho,_⟩:=I.ok.uM.mem hb;exact absurd (aax (aap ho) (aaC I.sz h)) (ack _)
def Inv.PV(I:Inv X pins O H s):∀x c,X.env.cells.lookup x=some c->c≠X.env.locals:=λx c e z=>by
 obtain⟨v,o,ho,hd⟩:=I.cell x c e;obtain⟨m,⟨o',es,ep,ho',hd',_⟩,_⟩:=I.loc;rw[z,ho']at ho;cases ho;rw[hd']at hd;cases hd
def Inv.uM(I:Inv X pins O H s):s.heap.FunFrames X.base X.outer:=by
 have all:∀(l:BBF),(∀b∈frs l,b∈X.fs)->X.s₀.heap.FunFrames X.base l->s.heap.FunFrames X.base l:=by
  intro l
  induction l with
  |nil=>intro _ _;trivial
  |cons env r ih=>
   intro hs hl;obtain⟨hk,⟨L,o,hf,hn,ho,hd⟩,hr⟩:=hl;have hL:L∈X.fs:=hs L (by unfold frs;rw[aeM,hf];exact aav);obtain⟨sl,e⟩:=I.base.slot L o ho (I.ok.Px L hL) hL λz=>I.ok.En L z hL;exact⟨hk,⟨L,_,hf,hn,e,hd⟩,ih (λb hb=>hs b (by unfold frs;rw[aeM,hf];exact aar _ hb)) hr⟩
 exact all X.outer (λ_ hb=>hb) I.ok.uM
def Inv.stack(I:Inv X pins O H s):s.heap.FunFrames X.base X.stack:=by
 rcases I.ok.stk with e|⟨e,hf⟩
 .rw[e];exact I.uM
 .rw[e];obtain⟨m,hn,_⟩:=I.loc;refine .cons (by rw[I.ok.kind];decide) hf hn ?_ I.uM;exact af5 (aaC I.ok.L8 I.ok.above)
def Inv.CS(I:Inv X pins O H s):∀b∈frs X.stack,b∈X.env.locals::X.fs:=λb hb=>by
 rcases I.ok.stk with e|⟨e,hf⟩
 .rw[e]at hb;exact aar _ hb
 .rw[e]at hb;unfold frs at hb;rw[aeM,hf]at hb;exact hb
def Inv.sZ(I:Inv X pins O H s):∀b∈frs X.stack,H b=none:=λb hb=>by
 rcases aat.mp (I.CS b hb) with e|hb
 .rw[e];exact I.free
 .obtain⟨_,o,ho,_⟩:=I.ok.uM.mem hb;exact I.base.free b o ho (I.ok.Px b hb) λz=>I.ok.En b z hb
def Inv.step{d':Drawn}(I:Inv X pins O H s)
  (hch:∀b∈ch,(b∈X.ex\/X.s₀.heap.objs.size<=b)/\b≠X.env.locals/\(∀x c,X.env.cells.lookup x=some c->c≠b)/\∀p∈X.pn++pins,p.1≠b)
  (keep:∀b o,b≠X.env.locals->b∉X.fs->b∉ch->s.heap.get? b=some o->H b=none->h'.get? b=some o)
  (slot:∀b o,b≠X.env.locals->b∈X.fs->b∉ch->s.heap.get? b=some o->H b=none->∃sl,h'.get? b=some {o with slots:=sl})(free:∀b o,b∉ch->s.heap.get? b=some o->H b=none->H' b=none)
  (there:∀b o,b∉ch->s.heap.get? b=some o->∃o',h'.get? b=some o')
  (tups:∀b xs,H b=some (.tup xs)->H' b=some (.tup xs))(vH:∀b o u,H b=some (.kg o u)->H' b=some (.kg o u))(wQ:∀b q,H b=some (.Gv q)->H' b=some (.Gv q))
  (ns:∀m,s.heap.Ns X.env.locals m->h'.Ns X.env.locals m)(hok:nY X.prog X.w H' h')(hg:AllBare g'):
  Inv X pins O H' {s with heap:=h',gens:=g',drawn:=d',toks:=t'}:=by
 have WW:∀b o,X.s₀.heap.get? b=some o->b≠X.env.locals:=λb o e=>aaD (aax (aap e) I.ok.above);have neC:∀b o,X.s₀.heap.get? b=some o->b∉X.ex->b∉ch:=λb o e hx hb=>by
  rcases(hch b hb).1 with z|z
  .exact hx z
  .exact absurd (aax (aap e) z) (ack _)
 have cellK:∀x c,X.env.cells.lookup x=some c->∀v,s.heap.IsCell c v->h'.IsCell c v:=λx c e v ⟨o,ho,hd⟩=>by
  have Xz:c∉ch:=λz=>(hch c z).2.2.1 x c e rfl;rcases I.mO x c e with fr|⟨_,o',fr⟩
  .by_cases hc:c∈X.fs
   .obtain⟨sl,q⟩:=slot c o (I.PV x c e) hc Xz ho fr;exact⟨_,q,hd⟩
   .exact⟨o,keep c o (I.PV x c e) hc Xz ho fr,hd⟩
  .have q:=(I.hok c _ fr).1;rw[ho]at q;cases q;exact⟨o,(hok c _ (vH _ _ _ fr)).1,hd⟩
 refine⟨I.ok,I.os,hg,⟨λb o e n hb hx=>?_,λb o e n hb hx=>?_,λb o e n hx=>?_,λb o e hx=>?_,λb xs e=>tups b xs (I.base.tups b xs e),λb o xs e=>vH b o xs (I.base.vH b o xs e),λb q e=>wQ b q (I.base.wQ b q e)⟩,?_,λx c e=>?_,?_,λx c e=>?_,λp hp=>?_,hok,I.len⟩
 .exact keep b o (WW b o e) hb (neC b o e hx) (I.base.keep b o e n hb hx) (I.base.free b o e n hx)
 .obtain⟨sl,e1⟩:=I.base.slot b o e n hb hx;obtain⟨sl',e2⟩:=slot b _ (WW b o e) hb (neC b o e hx) e1 (I.base.free b o e n hx);exact⟨sl',e2⟩
 .obtain⟨o',e1⟩:=I.base.there b o e hx;exact free b o' (neC b o e hx) e1 (I.base.free b o e n hx)
 .obtain⟨o',e1⟩:=I.base.there b o e hx;exact there b o' (neC b o e hx) e1
 .obtain⟨m,hn,hl⟩:=I.loc;refine⟨m,ns m hn,λi x v e1 e2 e3=>?_⟩;obtain⟨u,r,l⟩:=hl i x v e1 e2 e3;refine⟨u,r,?_⟩;rcases l with l|⟨k,c,e,z⟩
  .exact .inl l
  .exact .inr ⟨k,c,e,cellK x c e _ z⟩
 .obtain⟨v,z⟩:=I.cell x c e;exact⟨v,cellK x c e v z⟩
 .obtain⟨m,⟨o,_,_,ho,_⟩,_⟩:=I.loc;exact free _ o (λz=>(hch _ z).2.1 rfl) ho I.free
 .obtain⟨v,o,ho,hd⟩:=I.cell x c e;exact(I.mO x c e).imp (free c o (λz=>(hch c z).2.2.1 x c e rfl) ho) λ⟨y,o',fr⟩=>⟨y,o',vH _ _ _ fr⟩
 .obtain⟨e,n,ne,nf,d⟩:=I.pin p hp;have Xz:p.1∉ch:=λz=>(hch p.1 z).2.2.2 p hp rfl;exact⟨keep p.1 p.2 ne nf Xz e n,free p.1 p.2 Xz e n,ne,nf,d⟩
def Inv.un(I:Inv X pins O H s)(u:Un X.fs [] H H' s.heap h')(hok:nY X.prog X.w H' h'):Inv X pins O H' {s with heap:=h',toks:=t'}:=by
 obtain⟨m,⟨o,es,ep,ho,r⟩,_⟩:=id I.loc;obtain⟨sl,hL⟩:=u.any ho I.free (by simp);exact I.step (g':=s.gens) (d':=s.drawn) (ch:=[]) (λ_ z=>nomatch z) (λb o _ hb _ e n=>u.keep b o e n hb (by simp)) (λb o _ hb _ e n=>u.slot b o e n hb (by simp)) (λb o _ e n=>u.free b o e n (by simp)) (λb o _ e=>u.there b o e (by simp)) u.tups u.vH u.wQ (λm' hm=>by
  obtain⟨o',es',ep',ho',r'⟩:=hm;rw[ho]at ho';cases ho';exact⟨_,es',ep',hL,r'⟩) hok I.bare
def Inv.call{d':Drawn}(I:Inv X pins O H s)(u:Un (frs X.stack) ch H H' s.heap h')(hok:nY X.prog X.w H' h')(hg:AllBare g')
  (hch:∀b∈ch,(b∈X.ex\/X.s₀.heap.objs.size<=b)/\b≠X.env.locals/\(∀x c,X.env.cells.lookup x=some c->c≠b)/\∀p∈X.pn++pins,p.1≠b):
  Inv X pins O H' {s with heap:=h',gens:=g',drawn:=d',toks:=t'}:=by
 obtain⟨m,⟨o,es,ep,ho,r⟩,_⟩:=id I.loc;obtain⟨sl,hL⟩:=u.any ho I.free λz=>(hch _ z).2.1 rfl;exact I.step (ch:=ch) hch (λb o hL hb hc e n=>u.keep b o e n (λz=>(aat.mp (I.CS b z)).elim hL hb) hc) (λb o _ _ hc e n=>u.any e n hc) (λb o hc e n=>u.free b o e n hc) (λb o hc e=>u.there b o e hc) u.tups u.vH u.wQ (λm' hm=>by
  obtain⟨o',es',ep',ho',r'⟩:=hm;rw[ho]at ho';cases ho';exact⟨_,es',ep',hL,r'⟩) hok hg
def Inv.turned{it:Addr}(I:Inv X pins O H s)(k:∀b o,b≠it->s.heap.get? b=some o->h'.get? b=some o)(hn:H it=none)(hL:it≠X.env.locals)
  (h1:it∈X.ex\/X.s₀.heap.objs.size<=it)(h2:∀x c,X.env.cells.lookup x=some c->c≠it)(h3:∀p∈X.pn++pins,p.1≠it):Inv X pins O H {s with heap:=h',toks:=t'}:=by
 have XA:∀b u,H b=some u->b≠it:=λb u e z=>by rw[z,hn]at e;cases e
 refine I.step (g':=s.gens) (d':=s.drawn) (ch:=[it]) (λb hb=>?_) (λb o _ _ hc e _=>k b o (λz=>hc (by simp[z])) e) (λb o _ _ hc e _=>⟨o.slots,k b o (λz=>hc (by simp[z])) e⟩) (λ_ _ _ _ n=>n)
  (λb o hc e=>⟨o,k b o (λz=>hc (by simp[z])) e⟩) (λ_ _ e=>e) (λ_ _ _ e=>e) (λ_ _ e=>e) (λm hm=>?_) (λb u e=>?_) I.bare
 .have e:b=it:=by simpa using hb
  subst e;exact⟨h1,hL,h2,h3⟩
 .obtain⟨o,es,ep,ho,r⟩:=hm;exact⟨o,es,ep,k _ o (abO hL) ho,r⟩
 .refine(I.hok b u e).stay (λc v hc q=>k c v ?_ q) (λ_ q=>q) (λ_ _ q=>q) λ_ _ _ q=>q;rcases hc with z|z
  .rw[z];exact XA b u e
  .exact XA c _ z
def Inv.tok(I:Inv X pins O H s)(t:Nat):Inv X pins O H {s with toks:=t}:=I.un (h':=s.heap) (t':=t) Un.refl I.hok
def Inv.kept{t':Nat}(I:Inv X pins O H s)(k:∀b u,s.heap.get? b=some u->h'.get? b=some u):Inv X pins O H {s with heap:=h',toks:=t'}:=I.un (Un.kept k) (I.hok.kept k)
def Inv.laid{a:Addr}{o:HO}{t':Nat}(I:Inv X pins O H s)(k:∀b u,s.heap.get? b=some u->h'.get? b=some u)(hp:s.heap.objs.size<=a)(new:cR X.prog X.w (upd H a o) h' a o):
  Inv X pins O (upd H a o) {s with heap:=h',toks:=t'}:=I.un (Un.laid k hp (I.hok.fresh hp)) (I.hok.laid k hp new)
def Inv.write{x e:Addr}{o:HO}{t':Nat}(I:Inv X pins O H s)(mu:Xw (H x))(he:e=x\/H e=some (.own x))(k:∀b u,b≠e->s.heap.get? b=some u->h'.get? b=some u)(WU:∃u,h'.get? e=some u)
  (new:cR X.prog X.w (upd H x o) h' x o):Inv X pins O (upd H x o) {s with heap:=h',toks:=t'}:=I.un (Un.write mu he k WU) (I.hok.write mu he k WU new)
def Inv.IB{SW:AAG}(I:Inv X pins O H s)(h:∀p∈SW,s.heap.get? p.1=some p.2/\H p.1=none/\p.1≠X.env.locals/\p.1∉X.fs/\∀v,p.2.data≠.cell v):Inv X SW O H s:=
 ⟨I.ok,I.os,I.bare,I.base,I.loc,I.cell,I.free,I.mO,λp hp=>(aev.mp hp).elim (λz=>I.pin p (acG _ z)) (h p),I.hok,I.len⟩
def zJ(hN:N.Nodup){j:Nat}(a:N[i]? =some x)(b:N[j]? =some x):i=j:=by
 obtain⟨h1,e1⟩:=aaA.mp a;obtain⟨h2,e2⟩:=aaA.mp b;exact(List.getElem_inj hN).mp (e1.trans e2.symm)
def BY{v:V}{Q:Unit->Shared->Prop}(I:Inv X pins O H s)(hN:X.N.Nodup)(hi:X.N[i]? =some x)(hx:Loc X.env.scope x)(r:RelV v u)
  (h:∀s',Inv X pins (O.set i (some v)) H s'->(∃a,Heap.SameBut a s.heap s'.heap/\(a=X.env.locals\/X.env.cells.lookup x=some a))->Q () s')(hf:X.fn x=true\/X.env.scope.names.lookup x=some .local:=by trivial):wpAny M A (storeName X.env x u) Q E s:=by
 obtain⟨m,hn,hl⟩:=id I.loc;have hcls:(X.env.scope.kind == .class || (X.env.scope.kind == .module && X.env.locals != X.env.globals))=false:=by rw[I.ok.kind];rfl
 have Ko:i<O.length:=by rw[I.len];exact(aaA.mp hi).1
 have PV:=I.PV;have tracked:∀{a:Addr}{h':Heap},(∃o,s.heap.get? a=some o/\H a=none)->Heap.SameBut a s.heap h'->nY X.prog X.w H h':=λ{a h'} ha hs b ob e=>by
  obtain⟨_,_,hfree⟩:=ha;refine(I.hok b ob e).stay (λc w' hc q=>(hs.2 c ?_).trans q) (λ_ q=>q) (λ_ _ q=>q) λ_ _ _ q=>q;rintro rfl;rcases hc with rfl|hc
  .rw[hfree]at e;cases e
  .rw[hfree]at hc;cases hc
 rcases hx with hk|hk
 .refine wpAny_storeName_local hk hn (λh' hn' hs=>?_) hcls;obtain⟨oL,_,_,hoL,_⟩:=id hn;refine h _ ⟨I.ok,I.os,I.bare,⟨λb o e n hb hx=>?_,λb o e n hb hx=>?_,I.base.free,λb o e hx=>?_,I.base.tups,I.base.vH,I.base.wQ⟩,⟨_,hn',λj y v' e1 e2 e3=>?_⟩,λy c e=>?_,I.free,I.mO,λp hp=>?_,tracked ⟨oL,hoL,I.free⟩ hs,by simpa using I.len⟩ ⟨_,hs,.inl rfl⟩
  .exact(hs.2 b (aaD (aax (aap e) I.ok.above))).trans (I.base.keep b o e n hb hx)
  .obtain⟨sl,e1⟩:=I.base.slot b o e n hb hx;exact⟨sl,(hs.2 b (aaD (aax (aap e) I.ok.above))).trans e1⟩
  .obtain⟨o',e1⟩:=I.base.there b o e hx;exact⟨o',(hs.2 b (aaD (aax (aap e) I.ok.above))).trans e1⟩
  .by_cases hj:j=i
   .subst hj;rw[hi]at e1;cases e1;rw[abD Ko]at e2;cases e2;exact⟨u,r,.inl ⟨hk,by simp⟩⟩
   .rw[abg (abO hj)]at e2;obtain⟨u',r',q⟩:=hl j y v' e1 e2 e3;refine⟨u',r',?_⟩;rcases q with⟨k,e⟩|⟨k,c,e,z⟩
    .refine .inl ⟨k,?_⟩;have:y≠x:=λe=>hj (zJ hN e1 (e▸hi));simp[this,e]
    .exact .inr ⟨k,c,e,z.sameBut hs (PV y c e)⟩
  .obtain⟨w',z⟩:=I.cell y c e;exact⟨w',z.sameBut hs (PV y c e)⟩
  .obtain⟨e,n,ne,nf,d⟩:=I.pin p hp;exact⟨(hs.2 p.1 ne).trans e,n,ne,nf,d⟩
 .have hfn:X.fn x=true:=by
   rcases hf with z|z
   .exact z
   .rw[z]at hk;cases hk
  obtain⟨c,hc⟩:=I.ok.has x (.inl hk);obtain⟨w',z⟩:=I.cell x c hc;refine wpAny_storeName_cell I.ok.kind hk hc z (λh' hc' hs=>?_);obtain⟨oc,hoc,abF⟩:=id z;refine h {s with heap:=h'} ⟨I.ok,I.os,I.bare,⟨λb o e n hb hx=>?_,λb o e n hb hx=>?_,I.base.free,λb o e hx=>?_,I.base.tups,I.base.vH,I.base.wQ⟩,⟨m,hn.sameBut hs (abO (PV x c hc)),λj y v' e1 e2 e3=>?_⟩,λy c' e=>?_,I.free,I.mO,λp hp=>?_,tracked ⟨oc,hoc,(I.mO x c hc).resolve_right λz=>by rw[hfn]at z;cases z.1⟩ hs,by simpa using I.len⟩ ⟨c,hs,.inr hc⟩
  .exact(hs.2 b (aaD (aax (aap e) (I.ok.SV x c hfn hc)))).trans (I.base.keep b o e n hb hx)
  .obtain⟨sl,e1⟩:=I.base.slot b o e n hb hx;exact⟨sl,(hs.2 b (aaD (aax (aap e) (I.ok.SV x c hfn hc)))).trans e1⟩
  .obtain⟨o',e1⟩:=I.base.there b o e hx;exact⟨o',(hs.2 b (aaD (aax (aap e) (I.ok.SV x c hfn hc)))).trans e1⟩
  .by_cases hj:j=i
   .subst hj;rw[hi]at e1;cases e1;rw[abD Ko]at e2;cases e2;exact⟨u,r,.inr ⟨.inl hk,c,hc,hc'⟩⟩
   .rw[abg (abO hj)]at e2;obtain⟨u',r',q⟩:=hl j y v' e1 e2 e3;refine⟨u',r',?_⟩;rcases q with q|⟨k,c',e,z'⟩
    .exact .inl q
    .refine .inr ⟨k,c',e,z'.sameBut hs ?_⟩;rintro rfl;exact hj (zJ hN e1 (I.ok.inj _ _ _ e hc▸hi))
  .by_cases hcc:c'=c
   .subst hcc;exact⟨_,hc'⟩
   .obtain⟨w2,z2⟩:=I.cell y c' e;exact⟨w2,z2.sameBut hs hcc⟩
  .obtain⟨e,n,ne,nf,d⟩:=I.pin p hp;refine⟨(hs.2 p.1 ?_).trans e,n,ne,nf,d⟩;intro q;rw[q,hoc]at e;have q':oc=p.2:=abv e;exact d w' (by rw[<-q'];exact abF)
def qJ{v:V}{Q:Unit->Shared->Prop}(I:Inv X pins O H s)(hN:X.N.Nodup)(hi:X.N[i]? =some x)(hx:Loc X.env.scope x)(r:RelV v u)
  (h:∀s',Inv X pins (O.set i (some v)) H s'->Q () s')(hf:X.fn x=true\/X.env.scope.names.lookup x=some .local:=by trivial):wpAny M A (storeName X.env x u) Q E s:=
 BY I hN hi hx r (λs' I' _=>h s' I') hf
def Inv.SX{s':Shared}(I:Inv X pins O H s)(ho:s'.os=s.os)(u:Un (frs X.stack) ch H H' s.heap s'.heap)(hok:nY X.prog X.w H' s'.heap)(hg:AllBare s'.gens)
  (hch:∀b∈ch,(b∈X.ex\/X.s₀.heap.objs.size<=b)/\b≠X.env.locals/\(∀x c,X.env.cells.lookup x=some c->c≠b)/\∀p∈X.pn++pins,p.1≠b):Inv X pins O H' s':=by
 obtain⟨h',g',d',t',o'⟩:=s';have e:o'=s.os:=ho;subst e;exact I.call (g':=g') (t':=t') (d':=d') u hok hg hch
end
abbrev XK:=Value->BBN->Hp->Prop
abbrev St:=List (Option V)
abbrev VK:=V->Hp->Prop
abbrev TE:=St->Hp->VK->Prop
abbrev TT:=St->Hp->(Bool->Hp->Prop)->Prop
abbrev TA:=St->Hp->(List V->Hp->Prop)->Prop
structure Ends where
 nx:St->Hp->Prop
 rt:VK
 bk:St->Hp->Prop:=λ_ _=>False
 ct:St->Hp->Prop:=λ_ _=>False
abbrev TS:=Ends->St->Hp->Prop
inductive EP(X:Cx)(pins:AAG)(O:St)(Q:VK)(u:Value)(s':Shared):Prop
 |mk(v:V)(H':Hp)(I:Inv X pins O H' s')(r:RelV v u)(q:Q v H')
def TP(X:Cx)(pins:AAG)(O:St)(Q:Bool->Hp->Prop)(b:Bool)(s':Shared):Prop:=∃H',Inv X pins O H' s'/\Q b H'
inductive AP(X:Cx)(pins:AAG)(O:St)(Q:List V->Hp->Prop)(us:AAL)(s':Shared):Prop
 |mk(vs:List V)(H':Hp)(I:Inv X pins O H' s')(r:Vals vs us)(q:Q vs H')
def SP(X:Cx)(pins:AAG)(D:Ends)(f:Flow)(s':Shared):Prop:=
 match f with
 |.next=>∃O' H',Inv X pins O' H' s'/\D.nx O' H'
 |.brk=>∃O' H',Inv X pins O' H' s'/\D.bk O' H'
 |.cont=>∃O' H',Inv X pins O' H' s'/\D.ct O' H'
 |.ret u=>∃v O' H',Inv X pins O' H' s'/\RelV v u/\D.rt v H'
def PE(X:Cx)(e:Expr)(t:TE):Prop:=
 ∀(pins:AAG)(s:Shared)(O:St)(H:Hp)(Q:VK),Inv X pins O H s->t O H Q->wpAny (model X.prog X.w) X.A (eval e X.env) (EP X pins O Q) X.xe s
def PT(X:Cx)(e:Expr)(t:TT):Prop:=
 ∀(pins:AAG)(s:Shared)(O:St)(H:Hp)(Q:Bool->Hp->Prop),Inv X pins O H s->t O H Q->wpAny (model X.prog X.w) X.A (isTrue e X.env (eval e X.env)) (TP X pins O Q) X.xe s
def PW(X:Cx)(e:Expr)(t:TT):Prop:=
 ∀(whole:Sem Value)(pins:AAG)(s:Shared)(O:St)(H:Hp)(Q:Bool->Hp->Prop),Inv X pins O H s->t O H Q->wpAny (model X.prog X.w) X.A (isTrue e X.env whole) (TP X pins O Q) X.xe s
def PW.pt{e:Expr}{t:TT}(h:PW X e t):PT X e t:=h _
def PA(X:Cx)(es:BBC)(t:TA):Prop:=
 ∀(pos:Pos)(pins:AAG)(s:Shared)(O:St)(H:Hp)(Q:List V->Hp->Prop),Inv X pins O H s->t O H Q->wpAny (model X.prog X.w) X.A (spliced (backTo pos (starEach es X.env))) (AP X pins O Q) X.xe s
def PS(X:Cx)(st:Stmt)(t:TS):Prop:=
 ∀(pins:AAG)(s:Shared)(O:St)(H:Hp)(D:Ends),Inv X pins O H s->t D O H->wpAny (model X.prog X.w) X.A (exec st X.env) (SP X pins D) X.xe s
def CT(X:Cx)(st:BBH)(t:TS):Prop:=
 ∀(pins:AAG)(s:Shared)(O:St)(H:Hp)(D:Ends),Inv X pins O H s->t D O H->wpAny (model X.prog X.w) X.A (execs st X.env) (SP X pins D) X.xe s
def cS{α:Type}{t:Sem α}{Q Q':α->Shared->Prop}{s:Shared}(h:wpAny M A t Q E s)(hQ:∀a s,Q a s->Q' a s):wpAny M A t Q' E s:=aaB h hQ λ_ _ x=>x
section
variable {X:Cx}
def Kp(i:Nat):TE:=λO H Q=>∃v,O[i]? =some (some v)/\Q v H
def tC(v:V):TE:=λ_ H Q=>Q v H
def dG(hN:X.N[i]? =some x)(hv:wR X.env.scope x)(hd:BBT x:=by decide)(hcd:BBU x:=by decide):PE X (.Name x pos) (Kp i):=by
 intro pins s O H Q I h;obtain⟨v,e,h⟩:=h;obtain⟨m,hn,hl⟩:=I.loc;obtain⟨u,r,l⟩:=hl i x v hN e hv;have fin:EP X pins O Q u s:=⟨v,H,I,r,h⟩
 rcases l with⟨hk,hm⟩|⟨hk,c,hc,hcell⟩
 .exact wpAny_Name (wpAny_loadName_local I.ok.kind hk hn hm fin) hd
 .rcases hk with hk|hk
  .exact wpAny_Name (wpAny_loadName_cell I.ok.kind hk hc hcell fin) hd
  .exact wpAny_Name (wpAny_loadName_free I.ok.kind hk hc hcell fin hcd) hd
def Mw {i j pos}:PE X (.Constant (.int i) j pos) (tC (.int i)):=λ_ _ _ H _ I h=>wpAny_Constant_int ⟨.int i,H,I.tok _,⟨_,rfl⟩,h⟩
def XC {b j pos}:PE X (.Constant (.bool b) j pos) (tC (.bl b)):=λ_ _ _ H _ I h=>Constant_bool ⟨.bl b,H,I,rfl,h⟩
def Uj {j pos}:PE X (.Constant .none j pos) (tC .cD):=λ_ _ _ H _ I h=>Constant_none ⟨.cD,H,I,rfl,h⟩
def Mx {x j pos}:PE X (.Constant (.str x) j pos) (tC (.str x)):=λ_ _ _ H _ I h=>Calls.Constant_str ⟨.str x,H,I.tok _,⟨_,rfl⟩,h⟩
def Gl(X:Cx)(x:Str):Prop:=X.env.kindOf x=some .globalImplicit
def o7{s:Shared}(I:Inv X pins O H s)(hg:Gl X x)(hm:X.mg x=some u)(h:Q u s)
  (hd:BBT x:=by decide):wpAny (model X.prog X.w) X.A (eval (.Name x pos) X.env) Q E s:=
 Calls.Name_function_global I.ok.kind hg (Calls.loadGlobal_global (by rw[I.ok.glob];exact I.mod.glob.keeps I.bk) hm h) hd
def lP{s:Shared}(I:Inv X pins O H s)(hg:Gl X x)(hm:X.mg x=none)(hv:bootBuiltins x=some u)(h:Q u s)
  (hn:x≠"__name__":=by decide)(hd:BBT x:=by decide):wpAny (model X.prog X.w) X.A (eval (.Name x pos) X.env) Q E s:=by
 obtain⟨mb,h1,h2⟩:=I.mod.blt;exact Calls.Name_function_global I.ok.kind hg (Calls.loadGlobal_builtin (by rw[I.ok.glob];exact I.mod.glob.keeps I.bk) hm (by rw[I.ok.blt];exact h1.keeps I.bk) ((h2 x hn).trans hv) h) hd
def mQ{v:V}(hg:Gl X x)(hm:X.mg x=some u)(r:RelV v u)(hd:BBT x:=by decide):PE X (.Name x pos) (tC v):=
 λ_ _ _ H _ I h=>o7 I hg hm ⟨v,H,I,r,h⟩ hd
def PX{v:V}(hg:Gl X x)(hm:X.mg x=none)(hv:bootBuiltins x=some u)(r:RelV v u)(hn:x≠"__name__":=by decide)(hd:BBT x:=by decide):PE X (.Name x pos) (tC v):=
 λ_ _ _ H _ I h=>lP I hg hm hv ⟨v,H,I,r,h⟩ hn hd
variable {a b:Expr}{ta tb:TE}{pos:Pos}
def PC(X:Cx)(op:CmpOp)(a b:Expr)(t:TE):Prop:=
 ∀(pins:AAG)(s:Shared)(O:St)(H:Hp)(Q:VK),Inv X pins O H s->t O H Q->
  wpAny (model X.prog X.w) X.A (eval a X.env) (λv s₁=>wpAny (model X.prog X.w) X.A (eval b X.env) (λu s₂=>wpAny (model X.prog X.w) X.A (compareOp op v u) (EP X pins O Q) X.xe s₂) X.xe s₁) X.xe s
def Eo(b:Expr)(h:op≠.In)(h2:op≠.NotIn):behindInMarks op b=false:=by
 have e1:(op == CmpOp.In)=false:=by cases op<;>first|rfl|exact absurd rfl h
 have e2:(op == CmpOp.NotIn)=false:=by cases op<;>first|rfl|exact absurd rfl h2
 cases b<;>simp[behindInMarks,e1,e2]
def tB(t:TE):TT:=λO H Q=>t O H λx H1=>∃c,x= .bl c/\Q c H1
def Uk{t:TE}(h:PC X op a b t)(h1:behindInMarks op b=false:=by first|exact Eo _ (by decide) (by decide)|rfl):PE X (.Compare a [op] [b] pos) t:=λpins s O H Q I hw=>wpAny_Compare1 (h pins s O H Q I hw) h1
def GF{t:TE}(h:PC X op a b t)(h1:behindInMarks op b=false:=by first|exact Eo _ (by decide) (by decide)|rfl):PT X (.Compare a [op] [b] pos) (tB t):=by
 intro pins s O H Q I hw;refine wpAny_isTrue_Compare1 (cS (h pins s O H _ I hw) λv s1 h1=>cS h1 λu s2 h2=>cS h2 λc s3 hh=>?_) h1;obtain⟨x,H1,I1,r1,q1⟩:=hh;obtain⟨d,rfl,q⟩:=q1;cases r1;exact acR ⟨H1,I1,q⟩
def Ul{e:Expr}{t:TE}(h:PE X e t)(he:∀whole,isTrue e X.env whole=(do let v <-whole;standAt e.pos;holding [v] (truthy v)):=by intro _;rfl):PT X e (tB t):=by
 intro pins s O H Q I hw;refine isTrue_plain (cS (h pins s O H _ I hw) λv s1 hh=>?_) (he _);obtain⟨x,H1,I1,r1,q1⟩:=hh;obtain⟨d,rfl,q⟩:=q1;cases r1;exact acR ⟨H1,I1,q⟩
variable {tA tB':TT}{rest:BBC}
def tOr(t u:TT):TT:=λO H Q=>t O H λc H1=>if c=true then Q true H1 else u O H1 Q
def abG(t:TT):TT:=λO H Q=>t O H λc H1=>Q (!c) H1
def pw_or1(ha:PT X a tA):PW X (.BoolOp .Or [a] pos) tA:=by
 intro wh pins s O H Q I h;refine isTrue_or (cS (ha pins s O H Q I h) λc s1 e=>?_);cases c with
 |false=>exact isTrue_or_nil e
 |true=>exact e
def pw_or(ha:PT X a tA)(hb:PW X (.BoolOp .Or (b::rest) pos) tB'):PW X (.BoolOp .Or (a::b::rest) pos) (tOr tA tB'):=by
 intro wh pins s O H Q I h;refine isTrue_or (cS (ha pins s O H _ I h) λc s1 hh=>?_);obtain⟨H1,I1,q1⟩:=hh;cases c with
 |true=>exact⟨H1,I1,q1⟩
 |false=>exact hb wh pins s1 O H1 Q I1 q1
def Um(ha:PT X a tA):PT X (.UnaryOp .Not a pos) (abG tA):=by
 intro pins s O H Q I h;exact isTrue_not (ha pins s O H (λc H1=>Q (!c) H1) I h)
def XD(ta tb:TE):TE:=λO H Q=>ta O H λx H1=>∃c,x= .bl c/\if c=true then tb O H1 Q else Q (.bl false) H1
def abH(ta tb:TE):TE:=λO H Q=>ta O H λx H1=>∃c,x= .bl c/\if c=true then Q (.bl true) H1 else tb O H1 Q
def XE(ta:TE):TE:=λO H Q=>ta O H λx H1=>∃c,x= .bl c/\Q (.bl (!c)) H1
def Uo {op}{t:TE}(h:PE X a t):PE X (.BoolOp op [a] pos) t:=λpins s O H Q I hw=>BoolOp_one (h pins s O H Q I hw)
def Up(ha:PE X a ta)(hb:PE X (.BoolOp .And (b::rest) pos) tb):PE X (.BoolOp .And (a::b::rest) pos) (XD ta tb):=by
 intro pins s O H Q I h;refine BoolOp_and (cS (ha pins s O H _ I h) λv s1 hh=>?_);obtain⟨x,H1,I1,r1,q1⟩:=hh;obtain⟨c,rfl,q1⟩:=q1;cases r1;refine acR ?_;cases c with
 |true=>exact hb pins s1 O H1 Q I1 q1
 |false=>exact⟨.bl false,H1,I1,rfl,q1⟩
def XF(ha:PE X a ta)(hb:PE X (.BoolOp .Or (b::rest) pos) tb):PE X (.BoolOp .Or (a::b::rest) pos) (abH ta tb):=by
 intro pins s O H Q I h;refine BoolOp_or (cS (ha pins s O H _ I h) λv s1 hh=>?_);obtain⟨x,H1,I1,r1,q1⟩:=hh;obtain⟨c,rfl,q1⟩:=q1;cases r1;refine acR ?_;cases c with
 |false=>exact hb pins s1 O H1 Q I1 q1
 |true=>exact⟨.bl true,H1,I1,rfl,q1⟩
def Uq(ha:PE X a ta):PE X (.UnaryOp .Not a pos) (XE ta):=by
 intro pins s O H Q I h;refine UnaryOp_ (cS (ha pins s O H _ I h) λv s1 hh=>?_);obtain⟨x,H1,I1,r1,q1⟩:=hh;obtain⟨c,rfl,q1⟩:=q1;cases r1;exact not_of (acR ⟨.bl (!c),H1,I1,rfl,q1⟩)
def tIf(t:TT)(ta tb:TE):TE:=λO H Q=>t O H λc H1=>if c=true then ta O H1 Q else tb O H1 Q
def My{c:Expr}(hc:PT X c tA)(ha:PE X a ta)(hb:PE X b tb):PE X (.IfExp c a b pos) (tIf tA ta tb):=by
 intro pins s O H Q I h;refine wpAny_IfExp (cS (hc pins s O H _ I h) λd s1 hh=>?_);obtain⟨H1,I1,q1⟩:=hh;cases d with
 |true=>exact ha pins s1 O H1 Q I1 q1
 |false=>exact hb pins s1 O H1 Q I1 q1
end
def oW(K:AAD)(H:Hp)(a:Addr)(xs:List V):Prop:=
 Rd H a (.lst xs)\/
  ∃(o:Obj)(its:AAK)(n:Nat),K.lookup a=some o/\o.cls= .type "list"/\o.dict=none/\o.data= .seq its n/\its.size<=sizeLine/\Vals xs its.toList
def Ef(K:AAD)(H:Hp)(a:Addr)(xs:List V):Prop:=
 Rd H a (.tup xs)\/
  ∃(o:Obj)(its:AAK)(n:Nat),K.lookup a=some o/\o.cls= .type "tuple"/\o.data= .seq its n/\its.size<=sizeLine/\Vals xs its.toList
noncomputable def abI:Value->Option V
 |.none=>some .cD
 |.bool b=>some (.bl b)
 |.int i _=>some (.int i)
 |.str x _=>some (.str x)
 |.bytes b _=>some (.byt b)
 |.float b _=>some (.flt b)
 |.ref a=>some (.ref a)
 |.type n=>some (.ty n)
 |_=>none
def RelV.abs{x:V}(r:RelV x u):abI u=some x:=by
 cases x with
 |cD=>cases r;rfl
 |bl _=>cases r;rfl
 |int _=>obtain⟨t,rfl⟩:=r;rfl
 |str _=>obtain⟨t,rfl⟩:=r;rfl
 |byt _=>obtain⟨t,rfl⟩:=r;rfl
 |flt _=>obtain⟨t,rfl⟩:=r;rfl
 |ref _=>cases r;rfl
 |ty _=>cases r;rfl
def RelV.inj{x y:V}{u:Value}(r:RelV x u)(q:RelV y u):x=y:=abv (r.abs.symm.trans q.abs)
def Vals.inj{xs ys:List V}{us:AAL}(h:Vals xs us)(k:Vals ys us):xs=ys:=by
 induction h generalizing ys with
 |nil=>cases k;rfl
 |cons r _ ih=>cases k with|cons r' t'=>rw[RelV.inj r r',ih t']
section
variable {X:Cx}{pins:AAG}{O:St}{H:Hp}{s:Shared}{a:Addr}{xs ys:List V}
def oW.of(h:H a=some (.lst xs)):oW K H a xs:=.inl (.inl h)
def Inv.list(I:Inv X pins O H s)(h:oW X.K H a xs):∃its:BBG,Vals xs its/\PlainL s.heap a its.toArray/\xs.length<=sizeLine:=by
 rcases h with h|⟨o,its,n,hk,hc,hd,hs,hz,r⟩
 .obtain⟨z,its,n,r,e⟩:=h.ok I.hok;exact⟨its,r,⟨_,n,e,rfl,rfl,rfl⟩,z⟩
 .refine⟨its.toList,r,⟨o,n,I.uh a o hk,hc,hd,by simpa using hs⟩,?_⟩;have e:=r.length;simp only[adZ]at e;lia
def Inv.tuple(I:Inv X pins O H s)(h:Ef X.K H a xs):∃its:BBG,Vals xs its/\IsTup s.heap a its.toArray/\xs.length<=sizeLine:=by
 rcases h with h|⟨o,its,n,hk,hc,hs,hz,r⟩
 .obtain⟨z,its,r,p⟩:=h.ok I.hok;exact⟨its,r,p,z⟩
 .refine⟨its.toList,r,⟨o,I.uh a o hk,hc,n,by simpa using hs⟩,?_⟩;have e:=r.length;simp only[adZ]at e;lia
def Inv.zK(I:Inv X pins O H s)(h:oW X.K H a xs)(h':oW X.K H a ys):xs=ys:=by
 obtain⟨its,r,⟨o,n,e,_,_,d⟩,_⟩:=I.list h;obtain⟨its',r',⟨o',n',e',_,_,d'⟩,_⟩:=I.list h';rw[e]at e';cases e';rw[d]at d';injection d' with d1 _
 have:its=its':=by simpa using congrArg Array.toList d1
 subst this;exact r.inj r'
def Inv.BZ(I:Inv X pins O H s)(h:Ef X.K H a xs)(h':Ef X.K H a ys):xs=ys:=by
 obtain⟨its,r,⟨o,e,_,n,d⟩,_⟩:=I.tuple h;obtain⟨its',r',⟨o',e',_,n',d'⟩,_⟩:=I.tuple h';rw[e]at e';cases e';rw[d]at d';injection d' with d1 _
 have:its=its':=by simpa using congrArg Array.toList d1
 subst this;exact r.inj r'
end
noncomputable abbrev Cx.BA(X:Cx)(E:AAE):Cx:={X with xe:=E}
noncomputable abbrev Cx.Ma(X:Cx):Cx:=X.BA λ_ _=>False
def Cx.Ok.BA{X:Cx}(ok:X.Ok)(E:AAE):(X.BA E).Ok:=
 ⟨ok.mod,ok.kind,ok.glob,ok.blt,ok.above,ok.inj,ok.has,ok.SV,ok.hd,ok.frames,ok.stk,ok.WV,ok.bs,ok.L8,ok.Em,ok.En,ok.uM,ok.Px,ok.tab⟩
def Cx.Ok.qK(ok:(X.BA E).Ok):X.Ok:=
 ⟨ok.mod,ok.kind,ok.glob,ok.blt,ok.above,ok.inj,ok.has,ok.SV,ok.hd,ok.frames,ok.stk,ok.WV,ok.bs,ok.L8,ok.Em,ok.En,ok.uM,ok.Px,ok.tab⟩
section
variable {X:Cx}{pins:AAG}{O:St}{H:Hp}{s:Shared}{E:AAE}
def Inv.BA(I:Inv X pins O H s)(E:AAE):Inv (X.BA E) pins O H s:=⟨I.ok.BA E,I.os,I.bare,I.base,I.loc,I.cell,I.free,I.mO,I.pin,I.hok,I.len⟩
def Inv.qK(I:Inv (X.BA E) pins O H s):Inv X pins O H s:=⟨I.ok.qK,I.os,I.bare,I.base,I.loc,I.cell,I.free,I.mO,I.pin,I.hok,I.len⟩
def SP.qK{D:Ends}{f:Flow}{s':Shared}(h:SP (X.BA E) pins D f s'):SP X pins D f s':=by
 cases f with
 |next=>obtain⟨O',H',I,q⟩:=h;exact⟨O',H',I.qK,q⟩
 |brk=>obtain⟨O',H',I,q⟩:=h;exact⟨O',H',I.qK,q⟩
 |cont=>obtain⟨O',H',I,q⟩:=h;exact⟨O',H',I.qK,q⟩
 |ret u=>obtain⟨v,O',H',I,r,q⟩:=h;exact⟨v,O',H',I.qK,r,q⟩
def CT.Ma{st:BBH}{t:TS}(h:CT X.Ma st t):CT X st t:=λpins s O H D I hw=>
 aaB (h pins s O H D (I.BA _) hw) (λ_ _ q=>q.qK) λ_ _ z=>False.elim z
end
section
variable {X:Cx}{st:Stmt}{rest:BBH}{t u:TS}{e:Expr}{te:TE}{pos:Pos}
def XG:TS:=λD O H=>D.nx O H
def XH(t u:TS):TS:=λD O H=>t {D with nx:=u D} O H
def PY:CT X [] XG:=λ_ _ O H _ I h=>af6 ⟨O,H,I,h⟩
def Mz(h1:PS X st t)(h2:CT X rest u):CT X (st::rest) (XH t u):=by
 intro pins s O H D I h;refine afX (cS (h1 pins s O H {D with nx:=u D} I h) λf s1 q=>?_);cases f with
 |next=>
  obtain⟨O',H',I',q⟩:=q;exact h2 pins s1 O' H' D I' q
 |ret v=>exact q
 |brk=>exact q
 |cont=>exact q
def IC(h1:PS X st t):CT X [st] t:=by
 intro pins s O H D I h;refine afX (cS (h1 pins s O H D I h) λf s1 q=>?_);cases f with
 |next=>exact af6 q
 |ret v=>exact q
 |brk=>exact q
 |cont=>exact q
def Inv.quiet{s:Shared}(I:Inv X pins O H s):interactive X.env=false:=by simp[interactive,I.ok.kind]
def XI(te:TE):TS:=λD O H=>te O H λ_ H1=>D.nx O H1
def PZ(he:PE X e te)(hs:swapsWith e none pos.line X.env=pure false:=by rfl):PS X (.Expr e pos) (XI te):=by
 intro pins s O H D I h;exact wpAny_Expr_any (cS (he pins s O H _ I h) λv s1 ⟨x,H1,I1,r1,q1⟩=>⟨O,H1,I1,q1⟩) I.quiet hs
def abJ(te:TE):TS:=λD O H=>te O H D.rt
def Ur(he:PE X e te):PS X (.Return (some e) pos) (abJ te):=by
 intro pins s O H D I h;exact wpAny_Return_some (cS (he pins s O H _ I h) λv s1 ⟨x,H1,I1,r1,q1⟩=>⟨x,O,H1,I1,r1,q1⟩)
def XJ(c:TT)(t u:TS):TS:=λD O H=>c O H λb H1=>if b=true then t D O H1 else u D O H1
def XM{c:Expr}{a b:BBH}{tc:TT}(hc:PT X c tc)(ha:CT X a t)(hb:CT X b u):PS X (.If c a b pos) (XJ tc t u):=by
 intro pins s O H D I h;refine wpAny_If (cS (hc pins s O H _ I h) λd s1 hh=>?_);obtain⟨H1,I1,q1⟩:=hh;cases d with
 |true=>exact ha pins s1 O H1 D I1 q1
 |false=>exact hb pins s1 O H1 D I1 q1
end
abbrev TG:=V->St->Hp->(St->Hp->Prop)->Prop
abbrev SY:=List V->St->Hp->(St->Hp->Prop)->Prop
def PG(X:Cx)(target:Expr)(t:TG):Prop:=
 ∀(pins:AAG)(s:Shared)(O:St)(H:Hp)(v:V)(u:Value)(Q:St->Hp->Prop),Inv X pins O H s->RelV v u->t v O H Q->
  wpAny (model X.prog X.w) X.A (assign target X.env u) (λ_ s'=>∃O' H',Inv X pins O' H' s'/\Q O' H') X.xe s
def S4(X:Cx)(ts:BBC)(t:SY):Prop:=
 ∀(pins:AAG)(s:Shared)(O:St)(H:Hp)(vs:List V)(us:AAL)(Q:St->Hp->Prop),Inv X pins O H s->Vals vs us->t vs O H Q->
  wpAny (model X.prog X.w) X.A (assignInOrder ((assignEach ts X.env).map (·.2)) us) (λ_ s'=>∃O' H',Inv X pins O' H' s'/\Q O' H') X.xe s
abbrev Us:=V->V->V->Hp->(Hp->Prop)->Prop
def XN(X:Cx)(t:Us):Prop:=
 ∀(pins:AAG)(s:Shared)(O:St)(H:Hp)(o i v:V)(ov iv u:Value)(Q:Hp->Prop),Inv X pins O H s->RelV o ov->RelV i iv->RelV v u->t o i v H Q->
  wpAny (model X.prog X.w) X.A (setItem ov iv u) (λ_ s'=>∃H',Inv X pins O H' s'/\Q H') X.xe s
abbrev TIp:=V->V->Hp->VK->Prop
def PIp(X:Cx)(op:Operator)(t:TIp):Prop:=
 ∀(pins:AAG)(s:Shared)(O:St)(H:Hp)(x y:V)(v u:Value)(Q:VK),Inv X pins O H s->RelV x v->RelV y u->t x y H Q->
  wpAny (model X.prog X.w) X.A (inplaceOp op v u) (EP X pins O Q) X.xe s
section
variable {X:Cx}{pos:Pos}
def Ep(i:Nat):TG:=λv O H Q=>Q (O.set i (some v)) H
def ID(hN:X.N.Nodup)(hi:X.N[i]? =some x)(hx:Loc X.env.scope x)(hf:X.fn x=true\/X.env.scope.names.lookup x=some .local:=by trivial):PG X (.Name x pos) (Ep i):=by
 intro pins s O H v u Q I r h;exact wpAny_assign_Name (qJ I hN hi hx r (λs' I'=>⟨_,H,I',h⟩) hf)
noncomputable def abK:SY:=λvs O H Q=>vs=[]/\Q O H
noncomputable def XO(t:TG)(u:SY):SY:=λvs O H Q=>∃v r,vs=v::r/\t v O H λO' H'=>u r O' H' Q
def P0:S4 X [] abK:=by
 intro pins s O H vs us Q I r h;obtain⟨e,h⟩:=h;subst e;cases r;exact assignInOrder_nil ⟨O,H,I,h⟩
def MA{e:Expr}{t:TG}{u:SY}(h1:PG X e t)(h2:S4 X es u)
  (hs:(assignEach (e::es) X.env).map (·.2)=assign e X.env::(assignEach es X.env).map (·.2):=by rfl):S4 X (e::es) (XO t u):=by
 intro pins s O H vs us Q I r h;obtain⟨v,vr,e1,h⟩:=h;subst e1;cases r with
 |cons r rr=>
  rw[hs];refine assignInOrder_cons (cS (h1 pins s O H _ _ _ I r h) λ_ s1 hh=>?_);obtain⟨O1,H1,I1,q1⟩:=hh;exact h2 pins s1 O1 H1 _ _ Q I1 rr q1
def abL(K:AAD)(n:Nat)(t:SY):TG:=λv O H Q=>∃a xs,v= .ref a/\Ef K H a xs/\xs.length=n/\t xs O H Q
def Ut{t:SY}{n:Nat}(hc:X.calm=true)(h:S4 X es t)
  (hn:(assignEach es X.env).length=n:=by rfl)(hst:(assignEach es X.env).findIdx? (·.1)=none:=by rfl):PG X (.Tuple es k pos) (abL X.K n t):=by
 intro pins s O H v u Q I r hw;obtain⟨a,xs,e1,hq,hl,hw⟩:=hw;subst e1;cases r;obtain⟨its,rv,ht,hz⟩:=I.tuple hq;refine assign_Tuple_tuple (I.ok.hd hc) ht (by simp[hn,<-hl,rv.length]) hst λh' hx=>?_;have I1:Inv X pins O H {s with heap:=h'}:=I.kept (t':=s.toks) λb o e=>hx b o (aaD (aap e)) e;exact h pins _ O H xs _ Q I1 (by simpa using rv) hw
def abM(to ti:TE)(t:Us):TG:=λv O H Q=>to O H λo H1=>ti O H1 λi H2=>t o i v H2 λH3=>Q O H3
def MB{o i:Expr}{to ti:TE}{t:Us}(ho:PE X o to)(hi:PE X i ti)(hs:XN X t)
  (ha:∀v,assign (.Subscript o i pos) X.env v=(do
   let ov <-holding [v] (eval o X.env)
   let iv <-holding [v,ov] (eval i X.env)
   standAt pos
   holding [v,ov,iv] (setItem ov iv v)
   release [v,ov,iv] []):=by intro _;rfl):PG X (.Subscript o i pos) (abM to ti t):=by
 intro pins s O H v u Q I r h;rw[ha];refine aal (abz (cS (ho pins s O H _ I h) λov s1 hh=>?_));obtain⟨x,H1,I1,r1,q1⟩:=hh;refine aal (abz (cS (hi pins s1 O H1 _ I1 q1) λiv s2 hh=>?_));obtain⟨y,H2,I2,r2,q2⟩:=hh;refine aal (afV (aal (abz (cS (hs pins s2 O H2 x y v ov iv u _ I2 r1 r2 r q2) λ_ s3 hh=>?_))));obtain⟨H3,I3,q3⟩:=hh;exact wpAny_release ⟨O,H3,I3,q3⟩
def P1(te:TE)(g:TG):TS:=λD O H=>te O H λx H1=>g x O H1 D.nx
def GG{e:Expr}{g:TG}(he:PE X e te)(hg:PG X tg g)(hs:swapsWithSole [tg] e pos.line X.env=pure false:=by rfl)(hw:swappedStores [tg] e X.env=pure none:=by rfl)
  (h1:(assignEach [tg] X.env).map (·.2)=[assign tg X.env]:=by rfl):PS X (.Assign [tg] e pos) (P1 te g):=by
 intro pins s O H D I h;refine wpAny_Assign_stores (cS (he pins s O H _ I h) λv s1 hh=>?_) hs hw;obtain⟨x,H1,I1,r1,q1⟩:=hh;rw[h1];exact cS (hg pins s1 O H1 x v _ I1 r1 q1) λ_ s2 q=>q
def Uu{e:Expr}(hN:X.N.Nodup)(hi:X.N[i]? =some x)(hx:Loc X.env.scope x)(he:PE X e te)(hs:swapsWith e (some (.Name x pos')) pos.line X.env=pure false:=by rfl)(hf:X.fn x=true\/X.env.scope.names.lookup x=some .local:=by trivial):
  PS X (.Assign [.Name x pos'] e pos) (P1 te (Ep i)):=by
 intro pins s O H D I h;refine wpAny_Assign_Name (cS (he pins s O H _ I h) λv s1 hh=>?_) hs;obtain⟨y,H1,I1,r1,q1⟩:=hh;exact qJ I1 hN hi hx r1 (λs2 I2=>⟨_,H1,I2,q1⟩) hf
def abN(i:Nat)(te:TE)(ti:TIp):TS:=λD O H=>∃x,O[i]? =some (some x)/\te O H λy H1=>ti x y H1 λz H2=>D.nx (O.set i (some z)) H2
def Uv{e:Expr}{op:Operator}{ti:TIp}(hN:X.N.Nodup)(hi:X.N[i]? =some x)(hx:Loc X.env.scope x)(he:PE X e te)(ho:PIp X op ti)(hf:X.fn x=true\/X.env.scope.names.lookup x=some .local:=by trivial):
  PS X (.AugAssign (.Name x pos') op e pos) (abN i te ti):=by
 intro pins s O H D I h;obtain⟨v,e1,h⟩:=h;obtain⟨m,hn,hl⟩:=I.loc;have vis:wR X.env.scope x:=by rcases hx with k|k;exact .inl k;exact .inr (.inl k)
 obtain⟨u,r,l⟩:=hl i x v hi e1 vis;refine wpAny_AugAssign_Name ?_;have go:wpAny (model X.prog X.w) X.A (eval e X.env) (λw s₂=>wpAny (model X.prog X.w) X.A (inplaceOp op u w) (λr s₃=>wpAny (model X.prog X.w) X.A (storeName X.env x r) (λ_=>SP X pins D .next) X.xe s₃) X.xe s₂) X.xe s:=by
  refine cS (he pins s O H _ I h) λw s1 hh=>?_;obtain⟨y,H1,I1,r1,q1⟩:=hh;refine cS (ho pins s1 O H1 v y u w _ I1 r r1 q1) λz s2 hh=>?_;obtain⟨zv,H2,I2,r2,q2⟩:=hh;exact qJ I2 hN hi hx r2 (λs3 I3=>⟨_,H2,I3,q2⟩) hf
 rcases l with⟨hk,hm⟩|⟨hk,c,hc,hcell⟩
 .exact wpAny_loadName_local I.ok.kind hk hn hm go
 .rcases hk with hk|hk
  .exact wpAny_loadName_cell I.ok.kind hk hc hcell go
  .rcases hx with k|k
   .have:X.env.scope.names.lookup x=some .free:=hk;rw[k]at this;cases this
   .have:X.env.scope.names.lookup x=some .free:=hk;rw[k]at this;cases this
noncomputable def ipI(f:Int->Int->Int):TIp:=λx y H Q=>∃i j,x= .int i/\y= .int j/\Q (.int (f i j)) H
def GH:PIp X .Sub (ipI λi j=>i-j):=by
 intro pins s O H x y v u Q I r1 r2 h;obtain⟨i,j,e1,e2,q⟩:=h;subst e1;subst e2;obtain⟨t,rfl⟩:=r1;obtain⟨t',rfl⟩:=r2;exact isub_int ⟨.int _,H,I.tok _,⟨_,rfl⟩,q⟩
end
structure It where
 go:Nat->Hp->Prop
 S5:Nat->Hp->V->Hp->Prop
 stop:Nat->Hp->Prop
def nZ(X:Cx)(pins:AAG)(H:Hp)(b:Addr):Prop:=
 H b=none/\b≠X.env.locals/\b∉X.fs/\(b∈X.ex\/X.s₀.heap.objs.size<=b)/\(∀x c,X.env.cells.lookup x=some c->c≠b)/\∀p∈X.pn++pins,p.1≠b
def Inv.Er{s:Shared}{b:Addr}(I:Inv X pins O H s)(hb:s.heap.objs.size<=b)(hn:H' b=none):nZ X pins H' b:=by
 refine⟨hn,adP (aax I.lt hb),I.Xy hb,.inr (aaC I.sz hb),λx c e z=>?_,λp hp z=>?_⟩
 .obtain⟨v,q⟩:=I.cell x c e;exact absurd (aax q.lt (by rw[z];exact hb)) (ack _)
 .exact absurd (aax (aap (I.pin p hp).1) (by rw[z];exact hb)) (ack _)
structure Turn(P:Program)(w:World)(K:AAD)(tg:Expr)(J:It)(fp:BBE)(it:Addr)(tn:Nat->Heap->Prop):Prop where
 mem:it∈fp
 obj:∀i h,tn i h->∀b∈fp,∃o,h.get? b=some o/\∀v,o.data≠.cell v
 keep:∀i h h',tn i h->(∀b∈fp,∀o,h.get? b=some o->h'.get? b=some o)->tn i h'
 item:∀(X:Cx),X.prog=P->X.w=w->X.K=K->X.calm=true->∀(i:Nat)(pins:AAG)(s:Shared)(O:St)(H:Hp)(E:AAE),Inv X pins O H s->(∀b∈fp,nZ X pins H b)->tn i s.heap->J.go i H->
  wpAny (model P w) X.A (pyNext (.ref it)) (λr s1=>∃u,r=some u/\
   wpAny (model P w) X.A (letOwnedTupleGo tg (.ref it) u) (λ_ s2=>∃x H',Inv X pins O H' s2/\RelV x u/\J.S5 i H x H'/\tn (i+1) s2.heap/\∀b∈fp,H' b=none) E s1) E s
 done:∀(X:Cx),X.prog=P->X.w=w->X.K=K->X.calm=true->∀(i:Nat)(pins:AAG)(s:Shared)(O:St)(H:Hp)(E:AAE),Inv X pins O H s->(∀b∈fp,nZ X pins H b)->tn i s.heap->J.stop i H->
  wpAny (model P w) X.A (pyNext (.ref it)) (λr s1=>r=none/\Inv X pins O H s1) E s
 self:∀(A:Around)(i:Nat)(s:Shared)(Q:AAE)(E:AAE),tn i s.heap->Q (.ref it) s->wpAny (model P w) A (pyIter (.ref it)) Q E s
abbrev TI:=St->Hp->(It->Hp->Prop)->Prop
def PIE(X:Cx)(pins:AAG)(O:St)(tg:Expr)(R:It->Hp->Prop)(itv:Value)(s2:Shared):Prop:=
 ∃(it:Addr)(fp:BBE)(tn:Nat->Heap->Prop)(J:It)(H':Hp),itv= .ref it/\Inv X pins O H' s2/\Turn X.prog X.w X.K tg J fp it tn/\tn 0 s2.heap/\(∀b∈fp,nZ X pins H' b)/\R J H'
def PI(X:Cx)(tg iter:Expr)(wi:TI):Prop:=
 ∀(pins:AAG)(s:Shared)(O:St)(H:Hp)(R:It->Hp->Prop),Inv X pins O H s->wi O H R->
  wpAny (model X.prog X.w) X.A (eval iter X.env) (λv s1=>wpAny (model X.prog X.w) X.A (pyIter v) (PIE X pins O tg R) X.xe s1) X.xe s
def IE{s:Shared}{it:Addr}{n:String}{vs:AAK}{Q:Unit->Shared->Prop}(ho:s.heap.get? it=some o)(hc:o.cls= .type n)(hd:o.data= .fields vs)
    (hn:["enumerate","zip","dict_itemiterator","dict_reverseitemiterator","odict_iterator","itertools.zip_longest","itertools.pairwise"].contains n=false)(hQ:Q () s):wpAny M A (letOwnedTupleGo tg (.ref it) u) Q E s:=by
  unfold letOwnedTupleGo;cases tg<;>first
    |exact aan hQ
    | (cases u <;> first
        |exact aan hQ
        | (refine aal (wpAny_load ho ?_)
           rw[hc,hd];show wpAny M A (if(["enumerate","zip","dict_itemiterator","dict_reverseitemiterator","odict_iterator","itertools.zip_longest","itertools.pairwise"].contains n && vs[0]? == some (rawInt _))=true then _ else _) Q E s;rw[if_neg (by intro h;rw[hn,agi]at h;cases h)];exact aan hQ))
noncomputable def Itl(K:AAD)(a:Addr):It:=
 ⟨λi H=>∃xs x,oW K H a xs/\xs[i]? =some x,λi H x H'=>H'=H/\∀xs,oW K H a xs->xs[i]? =some x,λi H=>∃xs,oW K H a xs/\xs.length<=i⟩
noncomputable def Itt(K:AAD)(a:Addr):It:=
 ⟨λi H=>∃xs x,Ef K H a xs/\xs[i]? =some x,λi H x H'=>H'=H/\∀xs,Ef K H a xs->xs[i]? =some x,λi H=>∃xs,Ef K H a xs/\xs.length<=i⟩
noncomputable def Itr(lo:Int)(n:Nat):It:=⟨λi _=>i<n,λi H x H'=>H'=H/\x= .int (lo+i),λi _=>n<=i⟩
def Kq(a it:Addr):Turn P w K tg (Itl K a) [it] it (λi h=>h.IsListIter it a i) where
 mem:=by simp
 obj:=λi h st b hb=>by
  have e:b=it:=by simpa using hb
  subst e;obtain⟨o,e,c,d⟩:=st;exact⟨o,e,λv z=>by rw[d]at z;cases z⟩
 keep:=λi h h' st k=>st.at λo e=>k it (by simp) o e
 item:=by
  intro X hP hw hK hc i pins s O H E I hf st hg;subst hP hw hK;obtain⟨xs,x,hq,hx⟩:=hg;obtain⟨its,rv,p,hz⟩:=I.list hq;obtain⟨u,hu,ru⟩:=rv.get hx;obtain⟨f0,f1,f2,f3,f4,f5⟩:=hf it (by simp);refine wpAny_pyNext_list_item st p.isList (x:=u) (by simpa using hu) λh' st' sb=>?_;have I1:Inv X pins O H {s with heap:=h'}:=I.turned (t':=s.toks) (λb o hb e=>(sb.2 b hb).trans e) f0 f1 f3 f4 f5;obtain⟨o,e,c,d⟩:=id st';exact⟨u,rfl,IE (s:={s with heap:=h'}) e c d (by decide) ⟨x,H,I1,ru,⟨rfl,λys hy=>by rw[I.zK hy hq];exact hx⟩,st',λb hb=>(hf b hb).1⟩⟩
 done:=by
  intro X hP hw hK hc i pins s O H E I hf st hg;subst hP hw hK;obtain⟨xs,hq,hx⟩:=hg;obtain⟨its,rv,p,hz⟩:=I.list hq;obtain⟨f0,f1,f2,f3,f4,f5⟩:=hf it (by simp);have hl:=rv.length;exact wpAny_pyNext_list_end (I.ok.hd hc) st p.isList (by simp;lia) λh' eb=>⟨rfl,I.turned (t':=s.toks) (λb o hb e=>eb b o hb e) f0 f1 f3 f4 f5⟩
 self:=λ_ _ _ _ _ st h=>wpAny_pyIter_listiter st h
def GJ(a it:Addr):Turn P w K tg (Itt K a) [it] it (λi h=>h.IsTupleIter it a i) where
 mem:=by simp
 obj:=λi h st b hb=>by
  have e:b=it:=by simpa using hb
  subst e;obtain⟨o,e,c,d⟩:=st;exact⟨o,e,λv z=>by rw[d]at z;cases z⟩
 keep:=λi h h' st k=>st.at λo e=>k it (by simp) o e
 item:=by
  intro X hP hw hK hc i pins s O H E I hf st hg;subst hP hw hK;obtain⟨xs,x,hq,hx⟩:=hg;obtain⟨its,rv,p,hz⟩:=I.tuple hq;obtain⟨u,hu,ru⟩:=rv.get hx;obtain⟨f0,f1,f2,f3,f4,f5⟩:=hf it (by simp);refine wpAny_pyNext_tuple_item st (show s.heap.IsTuple a its.toArray from p) (x:=u) (by simpa using hu) λh' st' sb=>?_;have I1:Inv X pins O H {s with heap:=h'}:=I.turned (t':=s.toks) (λb o hb e=>(sb.2 b hb).trans e) f0 f1 f3 f4 f5;obtain⟨o,e,c,d⟩:=id st';exact⟨u,rfl,IE (s:={s with heap:=h'}) e c d (by decide) ⟨x,H,I1,ru,⟨rfl,λys hy=>by rw[I.BZ hy hq];exact hx⟩,st',λb hb=>(hf b hb).1⟩⟩
 done:=by
  intro X hP hw hK hc i pins s O H E I hf st hg;subst hP hw hK;obtain⟨xs,hq,hx⟩:=hg;obtain⟨its,rv,p,hz⟩:=I.tuple hq;obtain⟨f0,f1,f2,f3,f4,f5⟩:=hf it (by simp);have hl:=rv.length;exact wpAny_pyNext_tuple_end (I.ok.hd hc) st (show s.heap.IsTuple a its.toArray from p) (by simp;lia) λh' eb=>⟨rfl,I.turned (t':=s.toks) (λb o hb e=>eb b o hb e) f0 f1 f3 f4 f5⟩
 self:=λ_ _ _ _ _ st h=>wpAny_pyIter_tupleiter st h
def GK(it:Addr)(lo:Int)(n:Nat):Turn P w K tg (Itr lo n) [it] it (λi h=>IsRangeIter h it (lo+(i:Nat)*1) ((n:Int)-(i:Nat)) 1) where
 mem:=by simp
 obj:=λi h st b hb=>by
  have e:b=it:=by simpa using hb
  subst e;exact⟨_,st,λv z=>by
   have z':Data.fields _=Data.cell v:=z;cases z'⟩
 keep:=λi h h' st k=>k it (by simp) _ st
 item:=by
  intro X hP hw hK hc i pins s O H E I hf st hg;subst hP hw hK;obtain⟨f0,f1,f2,f3,f4,f5⟩:=hf it (by simp);have W:=Walks.range (prog:=X.prog) (w:=X.w) (I.ok.hd hc) it lo 1 n;refine W.item i s _ _ hg st λv h' tk hv st' kk=>?_;obtain⟨t,rfl⟩:=hv;have I1:Inv X pins O H {s with heap:=h',toks:=tk}:=I.turned (λb o hb e=>kk b o (by simpa using hb) e) f0 f1 f3 f4 f5;refine⟨_,rfl,IE (s:={s with heap:=h',toks:=tk}) (n:="range_iterator") st' rfl rfl (by decide) ⟨.int (lo+i),H,I1,⟨t,?_⟩,⟨rfl,rfl⟩,st',λb hb=>(hf b hb).1⟩⟩;rw[Int.mul_one]
 done:=by
  intro X hP hw hK hc i pins s O H E I hf st hg;subst hP hw hK;obtain⟨f0,f1,f2,f3,f4,f5⟩:=hf it (by simp);exact wpAny_pyNext_range_end (I.ok.hd hc) st (by have:n<=i:=hg;lia) λh' eb=>⟨rfl,I.turned (t':=s.toks) (λb o hb e=>eb b o hb e) f0 f1 f3 f4 f5⟩
 self:=λ_ _ _ _ _ st h=>wpAny_pyIter_rangeiter st h
section
variable {X:Cx}{tg:Expr}
def MC(K:AAD)(tl:TE):TI:=λO H R=>tl O H λx H1=>∃a,x= .ref a/\(∃xs,oW K H1 a xs)/\R (Itl K a) H1
def abS(K:AAD)(tl:TE):TI:=λO H R=>tl O H λx H1=>∃a,x= .ref a/\(∃xs,Ef K H1 a xs)/\R (Itt K a) H1
def IF{l:Expr}{tl:TE}(hl:PE X l tl):PI X tg l (MC X.K tl):=by
 intro pins s O H R I h;refine cS (hl pins s O H _ I h) λv s1 hh=>?_;obtain⟨x,H1,I1,r1,q1⟩:=hh;obtain⟨a,e,⟨xs,hq⟩,q⟩:=q1;subst e;cases r1;obtain⟨its,rv,p,hz⟩:=I1.list hq;refine aeU p.isList ?_;refine⟨s1.heap.objs.size,[s1.heap.objs.size],_,_,H1,rfl,I1.kept (t':=s1.toks) λb o e=>aam _ e,Kq a _,⟨_,aas _ rfl,rfl,rfl⟩,λb hb=>?_,q⟩;have e:b=s1.heap.objs.size:=by simpa using hb
 subst e;exact I1.Er (aaq _) (I1.hok.fresh (aaq _))
def Uw{l:Expr}{tl:TE}(hl:PE X l tl):PI X tg l (abS X.K tl):=by
 intro pins s O H R I h;refine cS (hl pins s O H _ I h) λv s1 hh=>?_;obtain⟨x,H1,I1,r1,q1⟩:=hh;obtain⟨a,e,⟨xs,hq⟩,q⟩:=q1;subst e;cases r1;obtain⟨its,rv,p,hz⟩:=I1.tuple hq;refine aeQ (show s1.heap.IsTuple a its.toArray from p) ?_;refine⟨s1.heap.objs.size,[s1.heap.objs.size],_,_,H1,rfl,I1.kept (t':=s1.toks) λb o e=>aam _ e,GJ a _,⟨_,aas _ rfl,rfl,rfl⟩,λb hb=>?_,q⟩;have e:b=s1.heap.objs.size:=by simpa using hb
 subst e;exact I1.Er (aaq _) (I1.hok.fresh (aaq _))
def MD{s:Shared}{R:It->Hp->Prop}{lo hi:Int}{t u v:Tok}{tk:Nat}(I:Inv X pins O H s)(h1:-(2 ^ 62)<=lo)(h2:lo<2 ^ 62)(h3:-(2 ^ 62)<=hi)(h4:hi<2 ^ 62)
  (q:R (Itr lo (hi-lo).toNat) H):wpAny (model X.prog X.w) X.A (pyIter (.ref s.heap.objs.size)) (PIE X pins O tg R) E {s with heap:=s.heap.push {cls:=.type "range",data:=.fields #[.int lo t,.int hi u,.int 1 v]},toks:=tk}:=by
 refine wpAny_pyIter_range (IsRange.new ..) (small_one h1 h2 h3 h4) ?_;have I1:Inv X pins O H {s with heap:=s.heap.push {cls:=.type "range",data:=.fields #[.int lo t,.int hi u,.int 1 v]},toks:=tk}:=I.kept λb o e=>aam _ e;refine⟨(s.heap.push {cls:=.type "range",data:=.fields #[.int lo t,.int hi u,.int 1 v]}).objs.size,[(s.heap.push {cls:=.type "range",data:=.fields #[.int lo t,.int hi u,.int 1 v]}).objs.size],_,_,H,rfl,
  I1.kept (t':=tk) λb o e=>aam _ e,GK _ lo (hi-lo).toNat,?_,λb hb=>?_,q⟩
 .have e1:lo+((0:Nat):Int)*1=lo:=by simp
  have e2:(((hi-lo).toNat:Nat):Int)-((0:Nat):Int)=Builtin.Range.rangeSize lo hi 1:=by rw[rangeSize_one];split<;>lia
  show IsRangeIter _ _ (lo+((0:Nat):Int)*1) ((((hi-lo).toNat:Nat):Int)-((0:Nat):Int)) 1;rw[e1,e2];exact aas _ rfl
 .have e:b=(s.heap.push {cls:=.type "range",data:=.fields #[.int lo t,.int hi u,.int 1 v]}).objs.size:=by simpa using hb
  subst e;exact I1.Er (aaq _) (I1.hok.fresh (aaq _))
def XR(ta:TA):TI:=λO H R=>ta O H λvs H1=>∃j:Int,vs=[.int j]/\-(2 ^ 62)<=j/\j<2 ^ 62/\R (Itr 0 j.toNat) H1
def Kr{a:Expr}{ta:TA}{p:Pos}(hg:Gl X "range")(hm:X.mg "range" =none)(ha:PA X [a] ta)(hs:starEach [a] X.env=[(false,eval a X.env)]:=by rfl):PI X tg (.Call (.Name "range" p) [a] [] pos) (XR ta):=by
 intro pins s O H R I h;refine Call_ (lP I hg hm boot_range (abW (cS (ha pos pins s O H _ I h) λus s1 hh=>?_) hs rfl));obtain⟨vs,H1,I1,r1,q1⟩:=hh;obtain⟨j,e,q1,q2,q⟩:=q1;subst e;cases r1 with
 |cons r rr=>
  cases rr;obtain⟨t,rfl⟩:=r;exact call_range_1 (MD I1 (by lia) (by lia) q1 q2 (by simpa using q))
def abT(wi:TI)(g:TG)(tb:TS):TS:=λD O H=>wi O H λJ H1=>∃W:Nat->Nat->St->Hp->Prop,(∃m,W 0 m O H1)/\∀i m O H,W i m O H->
 (J.stop i H/\D.nx O H)\/(J.go i H/\∃N:St->Hp->Prop,(∀O' H',N O' H'->∃m',m' < m/\W (i+1) m' O' H')/\∀x H',J.S5 i H x H'->g x O H' λO2 H2=>tb {D with nx:=N,ct:=N,bk:=D.nx} O2 H2)
noncomputable def qL(fp:BBE)(h:Heap):List (Addr×Obj):=fp.filterMap λb=>(h.get? b).map λo=>(b,o)
def fJ{h:Heap}{b:Addr}(hb:b∈fp)(e:h.get? b=some o):(b,o)∈qL fp h:=List.mem_filterMap.mpr ⟨b,hb,by rw[e];rfl⟩
def B3{h:Heap}{p:Addr×Obj}(hp:p∈qL fp h):p.1∈fp/\h.get? p.1=some p.2:=by
 obtain⟨b,hb,e⟩:=List.mem_filterMap.mp hp;cases q:h.get? b with
 |none=>rw[q]at e;cases e
 |some o=>
  rw[q]at e;have e':(b,o)=p:=abv e;subst e';exact⟨hb,q⟩
def Inv.pinned{s:Shared}(I:Inv X pins O H s)(hf:∀b∈fp,nZ X pins H b)(ho:∀b∈fp,∃o,s.heap.get? b=some o/\∀v,o.data≠.cell v):Inv X (pins++qL fp s.heap) O H s:=
 I.IB λp hp=>(aev.mp hp).elim (λz=>I.pin p (aay _ z)) λz=>by
  obtain⟨hb,e⟩:=B3 z;obtain⟨f0,f1,f2,_⟩:=hf p.1 hb;obtain⟨o,e',d⟩:=ho p.1 hb;rw[e]at e';cases e';exact⟨e,f0,f1,f2,d⟩
def Inv.lQ{pl:AAG}{s:Shared}(I:Inv X (pins++pl) O H s):Inv X pins O H s:=I.IB λp hp=>I.pin p (aay _ (acG _ hp))
def ME{iter:Expr}{wi:TI}{g:TG}{tb:TS}(hp:PassesOwn (model X.prog X.w) X.A X.env X.xe)(hc:X.calm=true)(hi:PI X tg iter wi)(hg:PG X tg g)(hb:CT X body tb)
  (hs:∀x,foldedSetIterable iter X.env x=pure x:=by intro _;rfl):PS X (.For tg iter body [] pos) (abT wi g tb):=by
 intro pins s O H D I h;refine wpAny_For (cS (hi pins s O H _ I h) λv s1 h1=>cS h1 λitv s2 h2=>?_) hs;obtain⟨it,fp,tn,J,H2,e,I2,T,st2,f2,W,⟨m0,w0⟩,turn⟩:=h2;subst e;have Ks:∀{H':Hp},(∀b∈fp,H' b=none)->∀b∈fp,nZ X pins H' b:=λhn b hb=>⟨hn b hb,(f2 b hb).2⟩
 refine codeAny_forLoop_any (λn s'=>∃i O' H',Inv X pins O' H' s'/\tn i s'.heap/\(∀b∈fp,H' b=none)/\W i n O' H') ?_ m0 ⟨0,O,H2,I2,st2,λb hb=>(f2 b hb).1,w0⟩;rintro n s3 ⟨i,O3,H3,I3,st3,fr3,w3⟩;rcases turn i n O3 H3 w3 with⟨stop,qn⟩|⟨go,N,hN,step⟩
 .refine acm hp (cS (T.done X rfl rfl rfl hc i pins s3 O3 H3 X.xe I3 (Ks fr3) st3 stop) λr s4 hh=>?_);obtain⟨hr,I4⟩:=hh;subst hr;exact af6 ⟨O3,H3,I4,qn⟩
 .refine acm hp (cS (T.item X rfl rfl rfl hc i pins s3 O3 H3 X.xe I3 (Ks fr3) st3 go) λr s4 hh=>?_);obtain⟨u,hr,h4⟩:=hh;subst hr;refine acm hp (cS h4 λ_ s5 hh=>?_);obtain⟨x,H5,I5,r5,y5,Ux,fr5⟩:=hh;have I5':=I5.pinned (Ks fr5) (T.obj _ _ Ux);refine acm hp (cS (hg _ s5 O3 H5 x u _ I5' r5 (step x H5 y5)) λ_ s6 hh=>?_);obtain⟨XS,H6,I6,q6⟩:=hh;refine acm hp (cS (hb _ s6 XS H6 _ I6 q6) λf s7 q7=>?_);have again:∀{BB:St}{H7:Hp},Inv X (pins++qL fp s5.heap) BB H7 s7->N BB H7->∃m,m<n/\∃i O' H',Inv X pins O' H' s7/\tn i s7.heap/\(∀b∈fp,H' b=none)/\W i m O' H':=λ{BB H7} I7 n7=>by
   obtain⟨m',hm,w7⟩:=hN BB H7 n7;refine⟨m',hm,i+1,BB,H7,I7.lQ,T.keep _ _ _ Ux λb hb o e=>(I7.pin (b,o) (aay _ (aay _ (fJ hb e)))).1,λb hb=>?_,w7⟩;obtain⟨o,e,d⟩:=T.obj _ _ Ux b hb;exact(I7.pin (b,o) (aay _ (aay _ (fJ hb e)))).2.1
  cases f with
  |next=>obtain⟨BB,H7,I7,n7⟩:=q7;exact again I7 n7
  |cont=>obtain⟨BB,H7,I7,n7⟩:=q7;exact again I7 n7
  |brk=>obtain⟨BB,H7,I7,q7⟩:=q7;exact⟨BB,H7,I7.lQ,q7⟩
  |ret v=>obtain⟨x7,BB,H7,I7,r7,q7⟩:=q7;exact⟨x7,BB,H7,I7.lQ,r7,q7⟩
end
abbrev R2:=V->V->Hp->VK->Prop
def zp(X:Cx)(f:Value->Value->Sem Value)(r:R2):Prop:=
 ∀(pins:AAG)(s:Shared)(O:St)(H:Hp)(x y:V)(v u:Value)(Q:VK),Inv X pins O H s->RelV x v->RelV y u->r x y H Q->
  wpAny (model X.prog X.w) X.A (f v u) (EP X pins O Q) X.xe s
def XT(X:Cx)(f:Value->Sem Value)(r:V->Hp->VK->Prop):Prop:=
 ∀(pins:AAG)(s:Shared)(O:St)(H:Hp)(x:V)(v:Value)(Q:VK),Inv X pins O H s->RelV x v->r x H Q->
  wpAny (model X.prog X.w) X.A (f v) (EP X pins O Q) X.xe s
def fU(X:Cx)(f:Value)(r:List V->Hp->VK->Prop):Prop:=
 ∀(pins:AAG)(s:Shared)(O:St)(H:Hp)(xs:List V)(us:AAL)(Q:VK),Inv X pins O H s->Vals xs us->r xs H Q->
  wpAny (model X.prog X.w) X.A (call f us) (EP X pins O Q) X.xe s
def WX(r:R2)(ta tb:TE):TE:=λO H Q=>ta O H λx H1=>tb O H1 λy H2=>r x y H2 Q
def tUn(r:V->Hp->VK->Prop)(ta:TE):TE:=λO H Q=>ta O H λx H1=>r x H1 Q
def rI(C:Int->Int->Prop)(g:Int->Int->V):R2:=λx y H Q=>∃i j,x= .int i/\y= .int j/\C i j/\Q (g i j) H
def S6(g:Int->Int->V):R2:=λx y H Q=>∃i j,x= .int i/\y= .int j/\Q (g i j) H
def rU(g:Int->V):V->Hp->VK->Prop:=λx H Q=>∃i,x= .int i/\Q (g i) H
section
variable {X:Cx}{a b:Expr}{ta tb:TE}{pos:Pos}
def Uy(ha:PE X a ta)(hb:PE X b tb){s:Shared}{R:V->V->Hp->Prop}(I:Inv X pins O H s)
  (h:ta O H λx H1=>tb O H1 λy H2=>R x y H2){f:Value->Value->Sem Value}
  (hf:∀v u s2 x y H2,Inv X pins O H2 s2->RelV x v->RelV y u->R x y H2->wpAny (model X.prog X.w) X.A (f v u) Q X.xe s2):
  wpAny (model X.prog X.w) X.A (eval a X.env) (λv s₁=>wpAny (model X.prog X.w) X.A (eval b X.env) (λu s₂=>wpAny (model X.prog X.w) X.A (f v u) Q X.xe s₂) X.xe s₁) X.xe s:=by
 refine cS (ha pins s O H _ I h) λv s1 hh=>?_;obtain⟨x,H1,I1,r1,q1⟩:=hh;refine cS (hb pins s1 O H1 _ I1 q1) λu s2 hh=>?_;obtain⟨y,H2,I2,r2,q2⟩:=hh;exact hf v u s2 x y H2 I2 r1 r2 q2
def XU{op:Operator}(ho:zp X (binaryOp op) r)(ha:PE X a ta)(hb:PE X b tb):PE X (.BinOp a op b pos) (WX r ta tb):=by
 intro pins s O H Q I h;exact wpAny_BinOp (Uy ha hb I h λv u s2 x y H2 I2 rx ry q=>ho pins s2 O H2 x y v u Q I2 rx ry q)
def XW{op:UnaryOp}{r:V->Hp->VK->Prop}(ho:XT X (unaryOp op) r)(ha:PE X a ta):PE X (.UnaryOp op a pos) (tUn r ta):=by
 intro pins s O H Q I h;exact UnaryOp_ (cS (ha pins s O H _ I h) λv s1 ⟨x,H1,I1,r1,q1⟩=>ho pins s1 O H1 x v Q I1 r1 q1)
def opI{f:Value->Value->Sem Value}{C:Int->Int->Prop}
  (rule:∀(i j:Int)(t u:Tok)(s:Shared)(Q:AAE)(E:AAE),C i j->Q (.int (g i j) s.toks) {s with toks:=s.toks+1}->wpAny (model X.prog X.w) X.A (f (.int i t) (.int j u)) Q E s):
  zp X f (rI C λi j=>.int (g i j)):=by
 intro pins s O H x y v u Q I rx ry h;obtain⟨i,j,rfl,rfl,hc,q⟩:=h;obtain⟨t,rfl⟩:=rx;obtain⟨t',rfl⟩:=ry;exact rule i j t t' s _ _ hc ⟨.int (g i j),H,I.tok _,⟨_,rfl⟩,q⟩
def XX{f:Value->Value->Sem Value}
  (rule:∀(i j:Int)(t u:Tok)(s:Shared)(Q:AAE)(E:AAE),Q (.int (g i j) s.toks) {s with toks:=s.toks+1}->wpAny (model X.prog X.w) X.A (f (.int i t) (.int j u)) Q E s):
  zp X f (S6 λi j=>.int (g i j)):=by
 intro pins s O H x y v u Q I rx ry h;obtain⟨i,j,rfl,rfl,q⟩:=h;obtain⟨t,rfl⟩:=rx;obtain⟨t',rfl⟩:=ry;exact rule i j t t' s _ _ ⟨.int (g i j),H,I.tok _,⟨_,rfl⟩,q⟩
def P4{f:Value->Value->Sem Value}{g:Int->Int->Bool}
  (rule:∀(i j:Int)(t u:Tok)(s:Shared)(Q:AAE)(E:AAE),Q (.bool (g i j)) s->wpAny (model X.prog X.w) X.A (f (.int i t) (.int j u)) Q E s):
  zp X f (S6 λi j=>.bl (g i j)):=by
 intro pins s O H x y v u Q I rx ry h;obtain⟨i,j,rfl,rfl,q⟩:=h;obtain⟨t,rfl⟩:=rx;obtain⟨t',rfl⟩:=ry;exact rule i j t t' s _ _ ⟨.bl (g i j),H,I,rfl,q⟩
def XY(i j:Int):Prop:=0<j/\j<1073741824
def abV(i j:Int):Prop:=0<=j/\j<=1000000/\i.natAbs<2 ^ 64
def Uz(i j:Int):Prop:=(-(2 ^ 64)<i/\i<2 ^ 64)\/(-(2 ^ 64)<j/\j<2 ^ 64)
def Uz.ok{i j:Int}(h:Uz i j):IntMulOk i j:=by
 rcases h with⟨h1,h2⟩|⟨h1,h2⟩
 .exact .of_left (intBits_le_64 h1 h2)
 .exact .of_right (intBits_le_64 h1 h2)
def UA:zp X (binaryOp .Add) (S6 λi j=>.int (i+j)):=XX λ_ _ _ _ _ _ _ q=>add_int q
def UB:zp X (binaryOp .Sub) (S6 λi j=>.int (i-j)):=XX λ_ _ _ _ _ _ _ q=>sub_int q
def UC:zp X (binaryOp .Mult) (rI Uz λi j=>.int (i*j)):=opI λ_ _ _ _ _ _ _ hc q=>mul_int q hc.ok
def P5:zp X (binaryOp .FloorDiv) (rI XY λi j=>.int (i / j)):=opI λi j _ _ _ _ _ hc q=>by
 have h1:(0:Int)<j:=hc.1;have h2:j<1073741824:=hc.2;exact floordiv_int (by lia) (by rw[Int.fdiv_eq_ediv_of_nonneg i (by lia)];exact q) (.inl (PyProof.noPylong_small (by lia)))
def UD:zp X (binaryOp .Mod) (rI (λ_ j=>0<j) λi j=>.int (i % j)):=opI λi j _ _ _ _ _ hc q=>by
 have h1:(0:Int)<j:=hc;exact mod_int' (by lia) (by rw[Int.fmod_eq_emod_of_nonneg i (by lia)];exact q)
def UE:zp X (binaryOp .Pow) (rI abV λi j=>.int (i ^ j.toNat)):=opI λ_ _ _ _ _ _ _ hc q=>pow_int_small hc.1 hc.2.1 hc.2.2 q
def unI{f:Value->Sem Value}{g:Int->Int}
  (rule:∀(i:Int)(t:Tok)(s:Shared)(Q:AAE)(E:AAE),Q (.int (g i) s.toks) {s with toks:=s.toks+1}->wpAny (model X.prog X.w) X.A (f (.int i t)) Q E s):
  XT X f (rU λi=>.int (g i)):=by
 intro pins s O H x v Q I rx h;obtain⟨i,rfl,q⟩:=h;obtain⟨t,rfl⟩:=rx;exact rule i t s _ _ ⟨.int (g i),H,I.tok _,⟨_,rfl⟩,q⟩
def UG:XT X (unaryOp .USub) (rU λi=>.int (-i)):=unI λ_ _ _ _ _ q=>neg_int q
end
section
variable {X:Cx}{a b c:Expr}{ta tb:TE}{pos:Pos}
def GL{s:Shared}{Q:VK}{k k':Bool}(I:Inv X pins O H s)(q:Q (.bl k) H)(e:k=k'):EP X pins O Q (.bool k') s:=by
 subst e;exact⟨.bl k,H,I,rfl,q⟩
def XZ:zp X (compareOp .Lt) (S6 λi j=>.bl (decide (i<j))):=P4 λ_ _ _ _ _ _ _ q=>lt_int q
def X0:zp X (compareOp .LtE) (S6 λi j=>.bl (decide (i<=j))):=P4 λ_ _ _ _ _ _ _ q=>le_int q
def X3:zp X (compareOp .Gt) (S6 λi j=>.bl (decide (j<i))):=P4 λ_ _ _ _ _ _ _ q=>gt_int q
def X4:zp X (compareOp .GtE) (S6 λi j=>.bl (decide (j<=i))):=P4 λ_ _ _ _ _ _ _ q=>ge_int q
def Ku:zp X (compareOp .In) (λx y H Q=>∃i j,x= .str i/\y= .str j/\Q (.bl (!(Builtin.Str.occurrences j i 0 j.length 1).isEmpty)) H):=by
 intro pins s O H x y v u Q I rx ry h;obtain⟨i,j,rfl,rfl,q⟩:=h;obtain⟨t,rfl⟩:=rx;obtain⟨t',rfl⟩:=ry;exact in_str (GL I q rfl)
def UH:zp X (compareOp .Is) (λx y H Q=>y= .cD/\Q (.bl (decide (x= .cD))) H):=by
 intro pins s O H x y v u Q I rx ry h;obtain⟨rfl,q⟩:=h;cases ry;refine is_none_gen (GL I q ?_);cases x<;>first
  |(cases rx;rfl)
  |(obtain⟨t,rfl⟩:=rx;rfl)
def P6:zp X (compareOp .IsNot) (λx y H Q=>y= .cD/\Q (.bl (!decide (x= .cD))) H):=by
 intro pins s O H x y v u Q I rx ry h;obtain⟨rfl,q⟩:=h;cases ry;refine isnot_none_gen (GL I q ?_);cases x<;>first
  |(cases rx;rfl)
  |(obtain⟨t,rfl⟩:=rx;rfl)
def MF(b:Expr)(h:op≠.In:=by decide)(h2:op≠.NotIn:=by decide):behindInMarks op b=false:=by
 have e1:(op == CmpOp.In)=false:=by cases op<;>first|rfl|exact absurd rfl h
 have e2:(op == CmpOp.NotIn)=false:=by cases op<;>first|rfl|exact absurd rfl h2
 cases b<;>simp[behindInMarks,e1,e2]
def P7(ho:zp X (compareOp op) r)(ha:PE X a ta)(hb:PE X b tb)(hm:behindInMarks op b=false):PE X (.Compare a [op] [b] pos) (WX r ta tb):=by
 intro pins s O H Q I h;exact wpAny_Compare1 (Uy ha hb I h λv u s2 x y H2 I2 rx ry q=>ho pins s2 O H2 x y v u Q I2 rx ry q) hm
def X5(t:TE):TT:=λO H Q=>t O H λx H'=>∃k,x= .bl k/\Q k H'
def P8(ho:zp X (compareOp op) r)(ha:PE X a ta)(hb:PE X b tb)(hm:behindInMarks op b=false):PT X (.Compare a [op] [b] pos) (X5 (WX r ta tb)):=by
 intro pins s O H Q I h;refine wpAny_isTrue_Compare1 (cS (ha pins s O H _ I h) λv s1 ⟨x,H1,I1,r1,q1⟩=>cS (hb pins s1 O H1 _ I1 q1) λu s2 ⟨y,H2,I2,r2,q2⟩=>
  cS (ho pins s2 O H2 x y v u _ I2 r1 r2 q2) λc s3 ⟨z,H3,I3,r3,k,e,q3⟩=>?_) hm
 subst e;cases r3;exact acR ⟨H3,I3,q3⟩
def wU:(sizeLine:Nat)<2 ^ 63:=by rw[afR];decide
def GO:zp X (binaryOp .Add) (λx y H Q=>∃i j,x= .str i/\y= .str j/\i.length+j.length<=sizeLine/\Q (.str (i++j)) H):=by
 intro pins s O H x y v u Q I rx ry h;obtain⟨i,j,rfl,rfl,hz,q⟩:=h;obtain⟨t,rfl⟩:=rx;obtain⟨t',rfl⟩:=ry;exact add_str (λt' tk=>⟨.str (i++j),H,I.tok _,⟨_,rfl⟩,q⟩) hz
def vals1{x:V}(r:Vals [x] us):∃u,us=[u]/\RelV x u:=by
 cases r with
 |cons r1 r2=>cases r2;exact⟨_,rfl,r1⟩
def vals2{x:V}(r:Vals [x,y] us):∃u w',us=[u,w']/\RelV x u/\RelV y w':=by
 cases r with
 |cons r1 r2=>
  cases r2 with
  |cons r3 r4=>cases r4;exact⟨_,_,rfl,r1,r3⟩
def Kv(hc:X.calm=true):fU X (.builtin "max") (λxs H Q=>∃i j,xs=[.int i,.int j]/\Q (.int (if j > i then j else i)) H):=by
 intro pins s O H xs us Q I r h;obtain⟨i,j,rfl,q⟩:=h;obtain⟨u,w',rfl,⟨t,rfl⟩,⟨t',rfl⟩⟩:=vals2 r;refine max_two_ints (I.ok.hd hc) λh' tk k=>⟨_,H,I.kept k,?_,q⟩
 by_cases hj:j > i
 .rw[if_pos hj,if_pos hj];exact⟨_,rfl⟩
 .rw[if_neg hj,if_neg hj];exact⟨_,rfl⟩
def B4:fU X (.type "int") (λxs H Q=>(∃i,xs=[.int i]/\Q (.int i) H)\/∃k,xs=[.bl k]/\Q (.int (if k then 1 else 0)) H):=by
 intro pins s O H xs us Q I r h;rcases h with⟨i,rfl,q⟩|⟨k,rfl,q⟩
 .obtain⟨u,rfl,t,rfl⟩:=vals1 r;exact call_int_int ⟨.int i,H,I,⟨_,rfl⟩,q⟩
 .obtain⟨u,rfl,r1⟩:=vals1 r;cases r1;exact call_int_bool ⟨.int (if k then 1 else 0),H,I.tok _,⟨_,rfl⟩,q⟩
end
structure GP(h:Heap)(x dx C:Addr)(mA:AAF):Prop where
 obj:h.get? x=some (PySem.W.instObj C dx)
 ns:h.Ns1 dx mA
 ne:dx≠x
def B5{h:Heap}{dx:Addr}(n:h.Ns1 dx mA):∃od,h.get? dx=some od/\∀name,PySem.W.lookIn name od=some (mA name):=by
 obtain⟨o,es,ep,ho,hd,hk,_,hm⟩:=n;refine⟨o,ho,λname=>?_⟩;have e:=hm name;unfold nsFind findBy at e;rw[<-Array.find?_toList]at e;unfold PySem.W.lookIn;rw[hd];dsimp only;split
 .rename_i y q;rw[q]at e;exact congrArg some e
 .rename_i q;rw[q]at e;have a:es.toList.any (·.refKey)=false:=by
   rw[List.any_eq_false];intro y hy;obtain⟨z,t,hkey⟩:=hk y (Array.mem_toList_iff.mp hy);simp[DictEntry.refKey,hkey]
  have a':¬es.toList.any (·.refKey)=true:=by rw[a];exact acZ
  rw[if_neg a'];exact congrArg some e
def GP.look{h:Heap}{x dx:Addr}(I:GP h x dx C mA):∃od,PySem.W.InstAt h x (PySem.W.instObj C dx) C (some od)/\∀name,PySem.W.lookIn name od=some (mA name):=
 let⟨od,ho,hl⟩:=B5 I.ns
 ⟨od,⟨I.obj,rfl,rfl,ho⟩,hl⟩
section
variable {prog:Program}{w:World}{A:Around}{E:AAE}{s:Shared}{K:AAD}{x dx C f:Addr}{mA:AAF}{name:Str}{v:Value}
def get_map{expr:Bool}(X:K.In s.heap)(I:GP s.heap x dx C mA)(hg:PySem.W.plainGet K C name=true)(hh:PySem.W.hasDictIn K C=true)
  (ha:PySem.W.findIn K (.ref C) name=some none)(hv:mA name=some v)(hv':PySem.W.handedIn v=true)(h:Q v {s with toks:=s.toks+1}):
  wpAny (model prog w) A (getAttr (.ref x) name expr) Q E s:=by
 obtain⟨od,J,hl⟩:=I.look;exact PySem.W.get_value X J (age hg).1 (PySem.W.findObj_own hh ha rfl (by rw[hl,hv])) hv' h
def MG{Q:Value×BBG->Shared->Prop}(X:K.In s.heap)(I:GP s.heap x dx C mA)(hg:PySem.W.plainGet K C name=true)
  (hf:PySem.W.findIn K (.ref C) name=some (some (.ref f)))(ht:PySem.W.isFn K (.ref f)=true)(hv:mA name=none)(h:Q (.ref f,[.ref x]) s):
  wpAny (model prog w) A (getMethod (.ref x) name pl) Q E s:=by
 obtain⟨od,J,hl⟩:=I.look;exact PySem.W.method_fn X J (age hg).1 (age hg).2 hf (agv.mp ht) (by show(PySem.W.lookIn name od).map (·.isSome)=some false;rw[hl,hv];rfl) h
def P9{ns:BBB}{Q:Unit->Shared->Prop}(X:K.In s.heap)(I:GP s.heap x dx C mA)
  (hs:PySem.W.findIn K (.ref C) "__setattr__" =some (some (.builtin "object.__setattr__")))(hp:PySem.W.plainOver K C=true)(ht:PySem.W.takerIn K C name=some none)(hh:PySem.W.hasDictIn K C=true)
  (hw:PySem.Within mA ns)(hsz:ns.length<=sizeLine)
  (h:∀h',GP h' x dx C (λy=>if y=name then some v else mA y)->Heap.SameBut dx s.heap h'->Q () {s with heap:=h',toks:=s.toks+2}):
  wpAny (model prog w) A (setAttr (.ref x) name v) Q E s:=by
 obtain⟨od,J,hl⟩:=I.look;refine PySem.W.set_plain X J hs (PySem.W.osa_open (s:={s with toks:=s.toks+1}) (r:=none) X J hp ht λb=>?_);obtain⟨cd,hc,hd'⟩:=PySem.W.any_some hh;have hx:s.heap.get? x=some ⟨.ref C,some dx,.plain,#[]⟩:=I.obj;refine aal (aan (aal (aal (wpAny_loadPart hx (aal (PySem.W.Looks.here (s:={s with toks:=s.toks+1}) (agf X hc) ?_))))));rw[hd'];refine aan (a:=some dx) (aal (aan (aal ?_)));refine wpAny_nsSet1 (s:={s with toks:=s.toks+1}) I.ns λh' hn2 hs2=>?_;obtain⟨oD,esD,epD,hoD,hdD,hcD⟩:=hn2.count (PySem.Within.cons name v hw);refine aal (wpAny_lookBehind hoD (by rw[hdD];exact pastItsLine_dict (aaC hcD (by rw[aaI];lia))) ?_);exact aan (h _ ⟨(hs2.2 _ (abO I.ne)).trans I.obj,hn2,I.ne⟩ hs2)
def MH{R:Result->Shared->Prop}{vs:AAL}(X:K.In s.heap)(hm:PySem.W.makesIn K C=true)
  (hi:PySem.W.findIn K (.ref C) "__init__" =some (some (.ref f)))(hf:PySem.W.typeIn K (.ref f)=some (.type "function"))
  (h:codeAny (model prog w) (A.under (.builtin "type.__call__" ⟨.ref C::vs,kw⟩)) (.call (.ref f) ⟨.ref (s.heap.objs.size+1)::vs,kw⟩) (PySem.W.InitBack (s.heap.objs.size+1) R)
   {s with heap:=(s.heap.push PySem.W.emptyDict).push (PySem.W.instObj C s.heap.objs.size)}):
  codeAny (model prog w) A (.call (.ref C) ⟨vs,kw⟩) R s:=by
 obtain⟨hh,g,d,t,os⟩:=s;exact PySem.W.make_core (PySem.W.makes_of X hm) (ae4 X hi) (λself=>PySem.W.bind_fn X self hf) (.inl rfl) h
end
noncomputable def mH(f:Str)(v:V):List (Str×V)->List (Str×V)
 |[]=>[(f,v)]
 |(g,x)::r=>if g=f then(g,v)::r else(g,x)::mH f v r
theorem yr(f g:Str)(v:V):∀fs:List (Str×V),(mH f v fs).lookup g=if g=f then some v else fs.lookup g
 |[]=>by
  show List.lookup g [(f,v)]=_;by_cases h:g=f
  .have hb:(g == f)=true:=agv.mpr h;simp only[List.lookup,hb,if_pos h]
  .have hb:(g == f)=false:=adY.mpr h;simp only[List.lookup,hb,if_neg h]
 |(k,x)::r=>by
  have ih:=yr f g v r;rw[show mH f v ((k,x)::r)=(if k=f then(k,v)::r else(k,x)::mH f v r) from rfl];by_cases hk:k=f
  .rw[if_pos hk];by_cases h:g=k
   .have hb:(g == k)=true:=agv.mpr h;simp only[List.lookup,hb,if_pos (h.trans hk)]
   .have hb:(g == k)=false:=adY.mpr h;simp only[List.lookup,hb,if_neg (λe:g=f=>h (e.trans hk.symm))]
  .rw[if_neg hk];by_cases h:g=k
   .have hb:(g == k)=true:=agv.mpr h;simp only[List.lookup,hb,if_neg (λe:g=f=>hk (h.symm.trans e))]
   .have hb:(g == k)=false:=adY.mpr h;simp only[List.lookup,hb];exact ih
theorem wV(f:Str)(v:V):∀fs:List (Str×V),f∈(mH f v fs).map (·.1)/\∀g,g∈fs.map (·.1)->g∈(mH f v fs).map (·.1)
 |[]=>⟨by simp[mH],λg h=>by simp at h⟩
 |(k,x)::r=>by
  obtain⟨i1,i2⟩:=wV f v r;rw[show mH f v ((k,x)::r)=(if k=f then(k,v)::r else(k,x)::mH f v r) from rfl];by_cases hk:k=f
  .rw[if_pos hk];subst hk;exact⟨by simp,λg h=>by simpa using h⟩
  .rw[if_neg hk];refine⟨?_,λg h=>?_⟩
   .rw[abR];exact aar _ i1
   .rw[abR]at h ⊢;rcases aat.mp h with e|e
    .exact aat.mpr (.inl e)
    .exact aar _ (i2 g e)
theorem yt(f:Str)(v:V):∀fs:List (Str×V),(mH f v fs).length<=fs.length+1
 |[]=>by simp[mH]
 |(k,x)::r=>by
  have ih:=yt f v r;rw[show mH f v ((k,x)::r)=(if k=f then(k,v)::r else(k,x)::mH f v r) from rfl];by_cases hk:k=f
  .rw[if_pos hk,aaI,aaI];lia
  .rw[if_neg hk,aaI,aaI];lia
def oZ.some_of{v:V}{o:BBP}(r:oZ (some v) o):∃u,o=some u/\RelV v u:=by
 cases o with
 |none=>exact(show False from r).elim
 |some u=>exact⟨u,rfl,r⟩
def oZ.none_of{o:BBP}(r:oZ none o):o=none:=by
 cases o with
 |none=>rfl
 |some u=>exact(show False from r).elim
def B6{v:V}(r:RelV v u):PySem.W.handedIn u=true:=by
 cases v with
 |cD=>cases(show u=Value.none from r);rfl
 |bl b=>cases(show u=Value.bool b from r);rfl
 |int i=>obtain⟨t,e⟩:=(show ∃t,u=Value.int i t from r);cases e;rfl
 |str x=>obtain⟨t,e⟩:=(show ∃t,u=Value.str x t from r);cases e;rfl
 |byt b=>obtain⟨t,e⟩:=(show ∃t,u=Value.bytes b t from r);cases e;rfl
 |flt b=>obtain⟨t,e⟩:=(show ∃t,u=Value.float b t from r);cases e;rfl
 |ref a=>cases(show u=Value.ref a from r);rfl
 |ty n=>cases(show u=Value.type n from r);rfl
section
variable {P:Program}{w:World}{H:Hp}{h:Heap}{a C dx:Addr}{fs:List (Str×V)}
def CU(hok:nY P w H h)(e:H a=some (.ins C dx fs)):∃mA,GP h a dx C mA/\(∀f,oZ (fs.lookup f) (mA f))/\PySem.Within mA (fs.map (·.1))/\fs.length<=1000/\H dx=some (.own a):=by
 obtain⟨d,z,ne,ob,mA,n,r,q⟩:=(show cR P w H h a (.ins C dx fs) from hok a _ e)
 exact⟨mA,⟨ob,n,ne⟩,r,q,z,d⟩
end
structure BC(K:AAD)(C:Addr):Prop where
 pg:PySem.W.plainGet K C Str.empty=true
 hd:PySem.W.hasDictIn K C=true
 po:PySem.W.plainOver K C=true
 sa:PySem.W.findIn K (.ref C) "__setattr__" =some (some (.builtin "object.__setattr__"))
def BC.get(c:BC K C)(f:Str):PySem.W.plainGet K C f=true:=c.pg
def dQ(K:AAD)(C:Addr)(f:Str):Prop:=PySem.W.findIn K (.ref C) f=some none
def dQ.X6{f:Str}(n:dQ K C f):PySem.W.takerIn K C f=some none:=by
 unfold PySem.W.takerIn;rw[show PySem.W.findIn K (.ref C) f=some none from n];rfl
structure Meth(K:AAD)(C:Addr)(m:Str)(f:Addr):Prop where
 at_:PySem.W.findIn K (.ref C) m=some (some (.ref f))
 fn:PySem.W.isFn K (.ref f)=true
 kp:PySem.W.keepIn K (.ref f)=true
section
variable {X:Cx}{pins:AAG}{O:St}{H:Hp}{s:Shared}{a C dx:Addr}{fs:List (Str×V)}{f:Str}{v:V}{A:Around}{E:AAE}
def zL{b:Bool}(I:Inv X pins O H s)(e:H a=some (.ins C dx fs))(c:BC X.K C)(n:dQ X.K C f)(l:fs.lookup f=some v)
  (h:∀u s',Inv X pins O H s'->RelV v u->Q u s'):wpAny (model X.prog X.w) A (getAttr (.ref a) f b) Q E s:=by
 obtain⟨mA,OO,r,_,_,_⟩:=CU I.hok e;obtain⟨u,hu,ru⟩:=oZ.some_of (v:=v) (o:=mA f) (by rw[<-l];exact r f);exact get_map I.uh OO (c.get f) c.hd n hu (B6 ru) (h u _ (I.tok _) ru)
def uN{m:Str}{g:Addr}{Q:Value×BBG->Shared->Prop}(I:Inv X pins O H s)(e:H a=some (.ins C dx fs))(c:BC X.K C)(k:Meth X.K C m g)(l:fs.lookup m=none)
  (h:Q (.ref g,[.ref a]) s):wpAny (model X.prog X.w) A (getMethod (.ref a) m pl) Q E s:=by
 obtain⟨mA,OO,r,_,_,_⟩:=CU I.hok e;have hn:mA m=none:=oZ.none_of (by rw[<-l];exact r m);exact MG I.uh OO (c.get m) k.at_ k.fn hn h
def zM{Q:Unit->Shared->Prop}(I:Inv X pins O H s)(e:H a=some (.ins C dx fs))(c:BC X.K C)(n:dQ X.K C f)(hl:fs.length<1000)(ry:RelV y u)
  (h:∀s',Inv X pins O (upd H a (.ins C dx (mH f y fs))) s'->Q () s'):wpAny (model X.prog X.w) A (setAttr (.ref a) f u) Q E s:=by
 obtain⟨mA,OO,r,wi,_,ho⟩:=CU I.hok e;have hz:(fs.map (·.1)).length<=sizeLine:=by rw[aaw,afR];lia
 refine P9 I.uh OO c.sa c.po n.X6 c.hd wi hz λh' O' sb=>h _ ?_;have hd:∃o,h'.get? dx=some o:=let⟨o,_,_,e',_⟩:=O'.ns;⟨o,e'⟩
 refine I.write (x:=a) (e:=dx) (by rw[e];exact True.intro) (.inr ho) (λb q hb z=>(sb.2 b hb).trans z) hd ?_;refine⟨by rw[aR OO.ne];exact ho,?_,OO.ne,O'.obj,_,O'.ns,λg=>?_,λg hg=>?_⟩
 .have:=yt f y fs;lia
 .show oZ ((mH f y fs).lookup g) (if g=f then some u else mA g);rw[yr];by_cases q:g=f
  .rw[if_pos q,if_pos q];exact ry
  .rw[if_neg q,if_neg q];exact r g
 .by_cases q:g=f
  .rw[q];exact(wV f y fs).1
  .refine(wV f y fs).2 g (wi g λz=>hg ?_);show(if g=f then some u else mA g)=none;rw[if_neg q];exact z
def Inv.made(I:Inv X pins O H s):Inv X pins O (upd (upd H s.heap.objs.size (.own (s.heap.objs.size+1))) (s.heap.objs.size+1) (.ins C s.heap.objs.size []))
  {s with heap:=(s.heap.push PySem.W.emptyDict).push (PySem.W.instObj C s.heap.objs.size)}:=by
 have e1:(s.heap.push PySem.W.emptyDict).get? s.heap.objs.size=some PySem.W.emptyDict:=aas s.heap rfl;have e2:((s.heap.push PySem.W.emptyDict).push (PySem.W.instObj C s.heap.objs.size)).get? (s.heap.objs.size+1)=some (PySem.W.instObj C s.heap.objs.size):=by
  have:=aas (s.heap.push PySem.W.emptyDict) (o:=PySem.W.instObj C s.heap.objs.size) rfl
  rwa [abP]at this
 have e3:(s.heap.push PySem.W.emptyDict).Ns s.heap.objs.size (λ_=>none):=⟨PySem.W.emptyDict,#[],_,e1,rfl,(λe he=>absurd he (by simp)),λ_=>rfl⟩
 have I1:=I.laid (a:=s.heap.objs.size) (o:=.own (s.heap.objs.size+1)) (h':=s.heap.push PySem.W.emptyDict) (t':=s.toks) (λb u q=>aam _ q) (aaq _) ⟨_,e1⟩;refine I1.laid (a:=s.heap.objs.size+1) (o:=.ins C s.heap.objs.size []) (t':=s.toks) (λb u q=>aam _ q) (Nat.le_of_eq (abP _ _)) ?_;have ne:s.heap.objs.size≠s.heap.objs.size+1:=aaD (ae5 _);refine⟨by rw[aR ne,aZ],abX _,ne,e2,λ_=>none,(Heap.Ns1.of_empty e3).at λo q=>aam _ q,λ_=>True.intro,λy hy=>absurd rfl hy⟩
def IG{env:Env}{e:Expr}(hb:attributeBase e f env (eval e env)=eval e env)
  (h:wpAny (model prog w) A (eval e env) (λo s₁=>wpAny (model prog w) A (getAttr o f true) Q E s₁) E s):wpAny (model prog w) A (eval (.Attribute e f pos) env) Q E s:=
 Attribute_any_ h (by rw[arm_eval_Attribute,hb])
end
def abZ(K:AAD)(ta:TE)(f:Str):TE:=λO H Q=>ta O H λx H1=>∃a C dx fs v,x= .ref a/\H1 a=some (.ins C dx fs)/\BC K C/\dQ K C f/\fs.lookup f=some v/\Q v H1
def ab0(K:AAD)(ta tv:TE)(f:Str):TS:=λD O H=>tv O H λy H1=>ta O H1 λx H2=>∃a C dx fs,x= .ref a/\H2 a=some (.ins C dx fs)/\BC K C/\dQ K C f/\fs.length<1000/\
 D.nx O (upd H2 a (.ins C dx (mH f y fs)))
def UI(X:Cx)(op:Operator)(rd:V->V->Hp->VK->Prop):Prop:=
 ∀(pins:AAG)(s:Shared)(O:St)(H:Hp)(x y:V)(u v:Value)(Q:VK),Inv X pins O H s->RelV x u->RelV y v->rd x y H Q->wpAny (model X.prog X.w) X.A (inplaceOp op u v) (EP X pins O Q) X.xe s
def Qa(K:AAD)(ta tv:TE)(rd:V->V->Hp->VK->Prop)(f:Str):TS:=λD O H=>ta O H λx H1=>∃a C dx fs v,x= .ref a/\H1 a=some (.ins C dx fs)/\BC K C/\dQ K C f/\fs.lookup f=some v/\
 tv O H1 λy H2=>rd v y H2 λz H3=>∃WY fs',H3 a=some (.ins C WY fs')/\fs'.length<1000/\D.nx O (upd H3 a (.ins C WY (mH f z fs')))
section
variable {X:Cx}{o e value:Expr}{f:Str}{pos pos' tpos:Pos}{ta tv:TE}
def UJ(he:PE X e ta)(hb:attributeBase e f X.env (eval e X.env)=eval e X.env):PE X (.Attribute e f pos) (abZ X.K ta f):=by
 intro pins s O H Q I h;refine IG hb (cS (he pins s O H _ I h) λu s1 hh=>?_);obtain⟨x,H1,I1,rx,a,C,dx,fs,v,ex,ea,c,n,l,q⟩:=hh;subst ex;obtain rfl:u=Value.ref a:=rx;exact zL I1 ea c n l λu' s2 I2 ru=>⟨v,H1,I2,ru,q⟩
def UK(ha:PE X o ta)(hv:PE X value tv)(hs:swapsWith value (some (.Attribute o f pos')) pos.line X.env=pure false):PS X (.Assign [.Attribute o f pos'] value pos) (ab0 X.K ta tv f):=by
 intro pins s O H D I h;refine af2 (cS (hv pins s O H _ I h) λu s1 ⟨y,H1,I1,ry,q⟩=>cS (ha pins s1 O H1 _ I1 q) λov s2 hh=>?_) hs;obtain⟨x,H2,I2,rx,a,C,dx,fs,ex,ea,c,n,l,q2⟩:=hh;subst ex;obtain rfl:ov=Value.ref a:=rx;exact zM I2 ea c n l ry λs3 I3=>⟨O,_,I3,q2⟩
def Kw{op:Operator}{rd:V->V->Hp->VK->Prop}(ha:PE X o ta)(hv:PE X value tv)(hop:UI X op rd):PS X (.AugAssign (.Attribute o f tpos) op value pos) (Qa X.K ta tv rd f):=by
 intro pins s O H D I h;refine wpAny_AugAssign_AttributeAny (cS (ha pins s O H _ I h) λov s1 hh=>?_);obtain⟨x,H1,I1,rx,a,C,dx,fs,v,ex,ea,c,n,l,q⟩:=hh;subst ex;obtain rfl:ov=Value.ref a:=rx;refine zL I1 ea c n l λu s2 I2 ru=>cS (hv pins s2 O H1 _ I2 q) λw3 s3 ⟨y,H2,I3,ry,q3⟩=>cS (hop pins s3 O H2 v y u w3 _ I3 ru ry q3) λw4 s4 hh=>?_;obtain⟨z,H3,I4,rz,WY,fs',ea',l',q4⟩:=hh;exact zM I4 ea' c n l' rz λs5 I5=>⟨O,_,I5,q4⟩
def ab1:V->V->Hp->VK->Prop:=λx y H Q=>∃i j,x= .int i/\y= .int j/\Q (.int (i+j)) H
def zN:UI X .Add ab1:=by
 rintro pins s O H x y u v Q I rx ry ⟨i,j,rfl,rfl,q⟩;obtain⟨t,rfl⟩:=(show ∃t,u=Value.int i t from rx)
 obtain⟨t',rfl⟩:=(show ∃t',v=Value.int j t' from ry)
 exact PyProof.Rows.iadd_int ⟨.int (i+j),H,I.tok _,⟨_,rfl⟩,q⟩
end
structure c7(k:Nat)(A:Around):Prop where
 hd:A.handled=none
 dp:A.depth+3*k+5<recursionLimit
 un:A.units+16*k+200<cLine
 gd:A.guards=some []
def c7.mono{j:Nat}(r:c7 k A)(h:j<=k):c7 j A:=⟨r.hd,by have:=r.dp;lia,by have:=r.un;lia,r.gd⟩
def c7.deeper{k:Nat}{A:Around}(r:c7 (k+1) A)(env:Env):c7 k (A.deeper env):=
 ⟨r.hd,by have:=r.dp;show A.depth+1+3*k+5<_;lia,by have:=r.un;show A.units+3+16*k+200<_;lia,r.gd⟩
def GQ :(A.under (.builtin "type.__call__" ⟨.ref C::us,kw⟩)).depth=A.depth+1:=by
 first|rfl|simp[Around.under,Code.weight,Code.isCreation,Code.isGuard,Code.isCaller,Code.frames,Code.isFrame,guardIds]
def GR :(A.under (.builtin "type.__call__" ⟨.ref C::us,kw⟩)).units=A.units+1:=by
 first|rfl|simp[Around.under,Code.cUnits,Code.frames,Code.isFrame]
def c7.make(r:c7 (k+1) A)(C:Addr)(us:AAL)(kw:List (Str×Value)):c7 k (A.under (.builtin "type.__call__" ⟨.ref C::us,kw⟩)):=
 ⟨r.hd,by have:=r.dp;rw[GQ];lia,by have:=r.un;rw[GR];lia,r.gd⟩
def c7.depth{k:Nat}{A:Around}(r:c7 k A):A.depth<recursionLimit:=by have:=r.dp;lia
def c7.units{k:Nat}{A:Around}(r:c7 k A):A.units+64<cLine:=by have:=r.un;lia
def UL:TA:=λ_ H Q=>Q [] H
def S7(ta:TE)(tr:TA):TA:=λO H Q=>ta O H λx H1=>tr O H1 λxs H2=>Q (x::xs) H2
section
variable {X:Cx}{e:Expr}{es:BBC}{te:TE}{t:TA}{pos:Pos}
def wW:PA X [] UL:=λ_ _ _ _ H Q I h=>aeB ⟨[],H,I,.nil,h⟩
def mR(ha:PE X e te)(hr:PA X es t)(hs:starEach (e::es) X.env=(false,eval e X.env)::starEach es X.env:=by rfl):PA X (e::es) (S7 te t):=by
 intro pos pins s O H Q I h;rw[hs];show wpAny _ _ (spliced ((false,eval e X.env)::backTo pos (starEach es X.env))) _ _ s;refine ab9 (cS (ha pins s O H _ I h) λu s1 hh=>?_);obtain⟨x,H1,I1,r1,q1⟩:=hh;exact cS (hr pos pins s1 O H1 _ I1 q1) λus s2 ⟨xs,H2,I2,r2,q2⟩=>⟨x::xs,H2,I2,.cons r1 r2,q2⟩
def ab2(t:TA):TE:=λO H Q=>t O H λxs H1=>xs.length<=sizeLine/\∀p,H1 p=none->Q (.ref p) (upd H1 p (.tup xs))
def ab3(t:TA):TE:=λO H Q=>t O H λxs H1=>xs.length<=sizeLine/\∀p,H1 p=none->Q (.ref p) (upd H1 p (.lst xs))
def UM {x1}(h:PA X es t):PE X (.Tuple es x1 pos) (ab2 t):=by
 intro pins s O H Q I hq;refine wpAny_Tuple_spliced (cS (h pos pins s O H _ I hq) λus s1 ⟨xs,H1,I1,r,z,q⟩=>⟨by rw[<-r.length];exact z,?_⟩);have hf:H1 s1.heap.objs.size=none:=I1.hok.fresh (aaq _);refine⟨.ref s1.heap.objs.size,upd H1 s1.heap.objs.size (.tup xs),I1.laid (t':=s1.toks) (λb u e=>aam _ e) (aaq _) ?_,rfl,q _ hf⟩;exact⟨z,us,r,⟨_,aas _ rfl,rfl,_,rfl⟩⟩
def UN(h:PA X es t):PE X (.List es pos) (ab3 t):=by
 intro pins s O H Q I hq;refine wpAny_List_spliced (cS (h pos pins s O H _ I hq) λus s1 ⟨xs,H1,I1,r,z,q⟩=>⟨by rw[<-r.length];exact z,?_⟩);have hf:H1 s1.heap.objs.size=none:=I1.hok.fresh (aaq _);refine⟨.ref s1.heap.objs.size,upd H1 s1.heap.objs.size (.lst xs),I1.laid (t':=s1.toks) (λb u e=>aam _ e) (aaq _) ?_,rfl,q _ hf⟩;exact⟨z,us,0,r,aas _ rfl⟩
end
abbrev Sp:=List V->Hp->VK->XK->Prop
abbrev Ky:=BBF->Hp->Shared->XK->Value->Shared->Prop
structure GV(P:Program)(w:World)(K:AAD)(mg:AAF)(base:Heap)(A:Around)(outer:BBF)(s:Shared)(H:Hp):Prop where
 frames:A.frames=some outer
 mod:Mod K mg base
 bs:∀b o,base.get? b=some o->s.heap.get? b=some o/\H b=none
 L8:base.objs.size<=s.heap.objs.size
 uM:s.heap.FunFrames base outer
 Px:∀b∈frs outer,H b=none
 hok:nY P w H s.heap
 bare:AllBare s.gens
 tab:∀p∈base.life.ids,H p.2=some (.Gv El)
def CE(outer:BBF)(P:Program)(w:World)(H:Hp)(s:Shared)(Q:VK)(u:Value)(s':Shared):Prop:=
 ∃v H',s'.os=s.os/\AllBare s'.gens/\Un (frs outer) [] H H' s.heap s'.heap/\nY P w H' s'.heap/\RelV v u/\Q v H'
def CR(CX:Ky)(outer:BBF)(P:Program)(w:World)(H:Hp)(s:Shared)(Q:VK)(E:XK)(r:Result)(s':Shared):Prop:=
 match r with
 |.ok (.ret u)=>CE outer P w H s Q u s'
 |.ok _=>False
 |.error e=>CX outer H s E e s'
structure fV(P:Program)(w:World)(K:AAD)(mg:AAF)(base:Heap)(CX:Ky)(k:Nat)(f:Addr)(fd:FuncData)(ps:BBB)(sp:Sp):Prop where
 len:∀vs H Q E,sp vs H Q E->vs.length=ps.length
 run:∀(A:Around)(outer:BBF)(s:Shared)(H:Hp)(args:Args)(us:AAL)(vs:List V)(Q:VK)(E:XK),c7 k A->GV P w K mg base A outer s H->BindsTo s fd args (ps.zip us)->Vals vs us->sp vs H Q E->
  codeAny (model P w) A (.call (.ref f) args) (CR CX outer P w H s Q E) s
def fV.mono{P:Program}{w:World}{K:AAD}{mg:AAF}{base:Heap}{CX:Ky}{j k:Nat}{f:Addr}{fd:FuncData}{ps:BBB}{sp:Sp}(F:fV P w K mg base CX j f fd ps sp)(h:j<=k):
  fV P w K mg base CX k f fd ps sp:=⟨F.len,λA outer s H args us vs Q E hr=>F.run A outer s H args us vs Q E (hr.mono h)⟩
def GV.make{s:Shared}(e:GV P w K mg base A outer s H)(C:Addr)(us:AAL)(kw:List (Str×Value)):
  GV P w K mg base (A.under (.builtin "type.__call__" ⟨.ref C::us,kw⟩)) outer s H:=⟨by first|exact e.frames|(simpa[Around.under,Code.envs,Code.isFrame,pushEnvs] using e.frames),e.mod,e.bs,e.L8,e.uM,e.Px,e.hok,e.bare,e.tab⟩
section
variable {X:Cx}{pins:AAG}{O:St}{H:Hp}{s s':Shared}
def Inv.Qc(I:Inv X pins O H s):GV X.prog X.w X.K X.mg X.base X.A X.stack s H:=
 ⟨I.ok.frames,I.ok.mod,I.bs,aaC I.ok.L8 I.sz,I.stack,I.sZ,I.hok,I.bare,I.tab⟩
def Inv.after{Q:VK}(I:Inv X pins O H s)(h:CE X.stack X.prog X.w H s Q u s'):EP X pins O Q u s':=by
 obtain⟨v,H',os,bare,un,hok,r,q⟩:=h;obtain⟨hh,g,d,t,os'⟩:=s';obtain rfl:os'=s.os:=os;exact⟨v,H',I.call (h':=hh) (g':=g) (d':=d) (t':=t) (ch:=[]) un hok bare (λb z=>absurd z (by simp)),r,q⟩
end
def X7(sp:Sp)(um:List V)(E:XK)(t:TA):TE:=λO H Q=>t O H λvs H1=>sp (vs++um) H1 Q E
def S8(C:Addr)(m:Str)(sp:Sp)(um:List V)(E:XK)(ta:TE)(t:TA):TE:=λO H Q=>ta O H λx H1=>∃a dx fs,x= .ref a/\H1 a=some (.ins C dx fs)/\fs.lookup m=none/\
 t O H1 λvs H2=>sp (x::(vs++um)) H2 Q E
def X8(C:Addr)(sp:Sp)(um:List V)(E:XK)(t:TA):TE:=λO H Q=>t O H λvs H1=>∀x dx,H1 x=none->H1 dx=none->dx≠x->
 sp (.ref x::(vs++um)) (upd (upd H1 dx (.own x)) x (.ins C dx [])) (λv H2=>v= .cD/\Q (.ref x) H2) E
def Binds(K:AAD)(fd:FuncData)(ps:BBB)(ds:AAL):Prop:=
 ∀(s:Shared)(us:AAL),K.In s.heap->(us++ds).length=ps.length->BindsTo s fd ⟨us,[]⟩ (ps.zip (us++ds))
def Binds.all{fd:FuncData}(h:∀us:BBG,us.length=ps.length->bindArgs fd ⟨us,[]⟩=pure (ps.zip us)):Binds K fd ps []:=λs us _ hl=>by
 rw[abE]at hl ⊢;exact .of_eq (h us hl)
def Passes(CX:Ky)(X:Cx)(E:XK):Prop:=∀(pins:AAG)(O:St)(H:Hp)(s:Shared)(e:Value)(s':Shared),Inv X pins O H s->CX X.stack H s E e s'->X.xe e s'
section
variable {X:Cx}{CX:Ky}{k:Nat}{f C:Addr}{fd:FuncData}{ps:BBB}{sp:Sp}{um:List V}{ds:AAL}{E:XK}{x m:Str}{p pos apos:Pos}{e o:Expr}{es:BBC}{ta:TE}{t:TA}
def GW{s:Shared}{Q:VK}(F:fV X.prog X.w X.K X.mg X.base CX k f fd ps sp)(hr:c7 k X.A)(hb:Binds X.K fd ps ds)(hd:Vals um ds)(hx:Passes CX X E)
  (I:Inv X pins O H s)(r:Vals vs us)(h:sp (vs++um) H Q E):wpAny (model X.prog X.w) X.A (call (.ref f) us) (EP X pins O Q) X.xe s:=by
 have r2:Vals (vs++um) (us++ds):=r.append hd;have hl:(us++ds).length=ps.length:=by rw[<-r2.length];exact F.len _ _ _ _ h
 refine ae6 (aeH (F.run X.A X.stack s H ⟨us,[]⟩ (us++ds) (vs++um) Q E hr I.Qc (hb s us I.uh hl) r2 h) λr s' hq=>?_);cases r with
 |error e=>exact hx pins O H s e s' I hq
 |ok fl=>
  cases fl with
  |ret u=>exact I.after hq
  |next=>exact False.elim hq
  |brk=>exact False.elim hq
  |cont=>exact False.elim hq
def Qd(F:fV X.prog X.w X.K X.mg X.base CX k f fd ps sp)(hr:c7 k X.A)(hg:Gl X x)(hm:X.mg x=some (.ref f))(hk:PySem.W.keepIn X.K (.ref f)=true)(hb:Binds X.K fd ps ds)(hd:Vals um ds)(hx:Passes CX X E)
  (ha:PA X (e::es) t)(hdb:BBT x:=by decide)(he:starEach (e::es) X.env=(false,eval e X.env)::starEach es X.env:=by rfl)(hpl:(backTo pos (starEach es X.env)).any (·.1)=false:=by rfl):
  PE X (.Call (.Name x p) (e::es) [] pos) (X7 sp um E t):=by
 intro pins s O H Q I h;refine abU (o7 I hg hm ?_ hdb);refine adK (h₀:=X.base) I.ok.mod.PU hk (cS (ha pos pins s O H _ I h) λus s1 ⟨vs,H1,I1,r,q⟩=>⟨I1.uh,?_⟩) he hpl;exact GW F hr hb hd hx I1 r q
def Qe(he:PE X o ta)(c:BC X.K C)(hm:Meth X.K C m f)(F:fV X.prog X.w X.K X.mg X.base CX k f fd ps sp)(hr:c7 k X.A)(hb:Binds X.K fd ps ds)(hd:Vals um ds)(hx:Passes CX X E)(ha:PA X (e::es) t)
  (hst:starEach (e::es) X.env=(false,eval e X.env)::starEach es X.env:=by rfl)(hpl:(backTo pos (starEach es X.env)).any (·.1)=false:=by rfl)
  (ht:eval (.Call (.Attribute o m apos) (e::es) [] pos) X.env=(do
   let ov <-eval o X.env
   standAt apos.atName
   let(f,first) <-holding [ov] (getMethod ov m pl)
   callWith pos f first (backTo pos (starEach (e::es) X.env)) (backToKw pos (keywordEach [] X.env))):=by rfl):
  PE X (.Call (.Attribute o m apos) (e::es) [] pos) (S8 C m sp um E ta t):=by
 intro pins s O H Q I h;refine afY (pl:=pl) (cS (he pins s O H _ I h) λu s1 hh=>?_) ht;obtain⟨x,H1,I1,rx,a,dx,fs,ex,ea,l,q⟩:=hh;subst ex;obtain rfl:u=Value.ref a:=rx;refine uN I1 ea c hm l ?_;refine adK (first:=[.ref a]) (h₀:=X.base) I.ok.mod.PU hm.kp (cS (ha pos pins s1 O H1 _ I1 q) λus s2 ⟨vs,H2,I2,r,q2⟩=>⟨I2.uh,?_⟩) hst hpl;exact GW (us:=.ref a::us) (vs:=.ref a::vs) F hr hb hd hx I2 (.cons rfl r) q2
def MI(he:PE X o ta)(c:BC X.K C)(hm:Meth X.K C m f)(F:fV X.prog X.w X.K X.mg X.base CX k f fd ps sp)(hr:c7 k X.A)(hb:Binds X.K fd ps ds)(hd:Vals um ds)(hx:Passes CX X E)
  (ht:eval (.Call (.Attribute o m apos) [] [] pos) X.env=(do
   let ov <-eval o X.env
   standAt apos.atName
   let(f,first) <-holding [ov] (getMethod ov m pl)
   callWith pos f first (backTo pos (starEach [] X.env)) (backToKw pos (keywordEach [] X.env))):=by rfl):
  PE X (.Call (.Attribute o m apos) [] [] pos) (S8 C m sp um E ta UL):=by
 intro pins s O H Q I h;refine afY (pl:=pl) (cS (he pins s O H _ I h) λu s1 hh=>?_) ht;obtain⟨x,H1,I1,rx,a,dx,fs,ex,ea,l,q⟩:=hh;subst ex;obtain rfl:u=Value.ref a:=rx;refine uN I1 ea c hm l ?_;exact PySem.W.callWith_K0 (first:=[.ref a]) I1.uh hm.kp (GW (us:=[.ref a]) (vs:=[.ref a]) F hr hb hd hx I1 (.cons rfl .nil) q)
structure Mk(K:AAD)(C f:Addr):Prop where
 makes:PySem.W.makesIn K C=true
 init:PySem.W.findIn K (.ref C) "__init__" =some (some (.ref f))
 fn:PySem.W.isFn K (.ref f)=true
 kp:PySem.W.keepIn K (.ref C)=true
def MJ{s:Shared}{Q:VK}(M:Mk X.K C f)(F:fV X.prog X.w X.K X.mg X.base CX k f fd ps sp)(hr:c7 (k+1) X.A)(hb:Binds X.K fd ps ds)(hd:Vals um ds)
  (hx:Passes CX X E)(I:Inv X pins O H s)(r:Vals vs us)
  (h:∀x dx,H x=none->H dx=none->dx≠x->sp (.ref x::(vs++um)) (upd (upd H dx (.own x)) x (.ins C dx [])) (λv H2=>v= .cD/\Q (.ref x) H2) E):
  wpAny (model X.prog X.w) X.A (call (.ref C) us) (EP X pins O Q) X.xe s:=by
 have hq:=h (s.heap.objs.size+1) s.heap.objs.size (I.hok.fresh (afp _)) (I.hok.fresh (aaq _)) (aaD (ae5 _));have I2:=Inv.made (C:=C) I;have r2:Vals (V.ref (s.heap.objs.size+1)::(vs++um)) (Value.ref (s.heap.objs.size+1)::(us++ds)):=.cons rfl (r.append hd);have hl:(Value.ref (s.heap.objs.size+1)::us++ds).length=ps.length:=by
  have e:=r2.length;rw[F.len _ _ _ _ hq]at e;exact e.symm
 refine ae6 (MH (f:=f) I.uh M.makes M.init (agv.mp M.fn) (aeH (F.run _ X.stack _ _ ⟨Value.ref (s.heap.objs.size+1)::us,[]⟩ (Value.ref (s.heap.objs.size+1)::(us++ds)) _ _ E (hr.make C us [])
  (I2.Qc.make C us []) (hb _ (Value.ref (s.heap.objs.size+1)::us) I2.uh hl) r2 hq) λr s' hq'=>?_))
 cases r with
 |error e=>exact hx pins O _ _ e s' I2 hq'
 |ok fl=>
  cases fl with
  |ret u=>
   obtain⟨v,H',I3,rv,ev,q3⟩:=I2.after hq';subst ev;exact⟨rv,⟨V.ref (s.heap.objs.size+1),H',I3,rfl,q3⟩⟩
  |next=>exact False.elim hq'
  |brk=>exact False.elim hq'
  |cont=>exact False.elim hq'
def Qg(M:Mk X.K C f)(F:fV X.prog X.w X.K X.mg X.base CX k f fd ps sp)(hr:c7 (k+1) X.A)(hg:Gl X x)(hm:X.mg x=some (.ref C))(hb:Binds X.K fd ps ds)(hd:Vals um ds)(hx:Passes CX X E)
  (ha:PA X (e::es) t)(hdb:BBT x:=by decide)(he:starEach (e::es) X.env=(false,eval e X.env)::starEach es X.env:=by rfl)(hpl:(backTo pos (starEach es X.env)).any (·.1)=false:=by rfl):
  PE X (.Call (.Name x p) (e::es) [] pos) (X8 C sp um E t):=by
 intro pins s O H Q I h;refine abU (o7 I hg hm ?_ hdb);refine adK (h₀:=X.base) I.ok.mod.PU M.kp (cS (ha pos pins s O H _ I h) λus s1 ⟨vs,H1,I1,r,q⟩=>⟨I1.uh,?_⟩) he hpl;exact MJ M F hr hb hd hx I1 r q
end
structure bq(N P:BBB)(sc:Scope):Prop where
 kind:sc.kind= .function
 co:sc.isCoroutine=false
 gen:sc.isGenerator=false
 nd:N.Nodup
 pre:N.take P.length=P
 par:∀x∈P,sc.names.lookup x=some .local\/sc.names.lookup x=some .cell
 UO:∀y∈sc.names,y.2≠.free
theorem B7{kindOf:Str->Option NameKind}{x:Str}:∀{binds:List (Str×Value)}{m:AAF},(∀v,(x,v)∉binds)->bindL kindOf binds m x=m x
 |[],_,_=>rfl
 |(n,v)::r,m,h=>by
  unfold bindL;rw[B7 λw hw=>h w (aar _ hw)];split
  .have:x≠n:=by rintro rfl;exact h v aav
   simp[this]
  .rfl
theorem B8{kindOf:Str->Option NameKind}{x:Str}:∀{binds:List (Str×Value)}{m:AAF},(∀v,(x,v)∉binds)->bindC kindOf binds m x=m x
 |[],_,_=>rfl
 |(n,v)::r,m,h=>by
  unfold bindC;rw[B8 λw hw=>h w (aar _ hw)];split
  .rfl
  .have:x≠n:=by rintro rfl;exact h v aav
   simp[this]
theorem B9{kindOf:Str->Option NameKind}{x:Str}{v:Value}:∀{P:BBB}{vs:AAL}{i:Nat}{m:AAF},P.Nodup->P[i]? =some x->vs[i]? =some v->kindOf x=some .local->
  bindL kindOf (P.zip vs) m x=some v
 |[],_,_,_,_,h,_,_=>by simp at h
 |_::_,[],_,_,_,_,h,_=>by simp at h
 |p::P,w::vs,0,m,nd,h1,h2,hk=>by
  simp at h1 h2;subst h1;subst h2;show bindL kindOf ((p,w)::P.zip vs) m p=_;unfold bindL;rw[B7 λv hv=>(acC.mp nd).1 (agP hv).1,if_pos hk];simp
 |p::P,w::vs,i+1,m,nd,h1,h2,hk=>by
  show bindL kindOf ((p,w)::P.zip vs) m x=_;unfold bindL;exact B9 (i:=i) (acC.mp nd).2 (by simpa using h1) (by simpa using h2) hk
theorem Ca{kindOf:Str->Option NameKind}{x:Str}{v:Value}:∀{P:BBB}{vs:AAL}{i:Nat}{m:AAF},P.Nodup->P[i]? =some x->vs[i]? =some v->kindOf x≠some .local->
  bindC kindOf (P.zip vs) m x=some v
 |[],_,_,_,_,h,_,_=>by simp at h
 |_::_,[],_,_,_,_,h,_=>by simp at h
 |p::P,w::vs,0,m,nd,h1,h2,hk=>by
  simp at h1 h2;subst h1;subst h2;show bindC kindOf ((p,w)::P.zip vs) m p=_;unfold bindC;rw[B8 λv hv=>(acC.mp nd).1 (agP hv).1,if_neg hk];simp
 |p::P,w::vs,i+1,m,nd,h1,h2,hk=>by
  show bindC kindOf ((p,w)::P.zip vs) m x=_;unfold bindC;exact Ca (i:=i) (acC.mp nd).2 (by simpa using h1) (by simpa using h2) hk
noncomputable def start(N:BBB)(vs:List V):St:=vs.map some++List.replicate (N.length-vs.length) none
noncomputable def uO(CX:Ky)(P:Program)(w:World)(K:AAD)(mg:AAF)(base:Heap)(N:BBB)(qual:Str)(scope:Scope)(f:Addr)(cd:Value)(A:Around)(outer:BBF)(s:Shared)(H:Hp)(E:XK):Cx where
 prog:=P
 w:=w
 K:=K
 mg:=mg
 base:=base
 A:=A.deeper (envOfC qual scope s.heap.objs.size f cd)
 N:=N
 s₀:=s
 H₀:=H
 env:=envOfC qual scope s.heap.objs.size f cd
 outer:=outer
 stack:=envOfC qual scope s.heap.objs.size f cd::outer
 ex:=[]
 calm:=true
 fn:=λ_=>true
 pn:=[]
 xe:=λe s'=>wpAny (model P w) (A.deeper (envOfC qual scope s.heap.objs.size f cd)) (leaving (envOfC qual scope s.heap.objs.size f cd) e) (λ_ s''=>CX outer H s E e s'') (λe' s''=>CX outer H s E e' s'') s'
def Es{sc:Scope}{n:Nat}(h:sc.names.lookup x=some .cell):∃c,(cellsFrom n sc.names []).lookup x=some c:=by
 have q:=PySem.W.cellsFrom_some sc.names n [] (.inl h);exact Option.isSome_iff_exists.mp q
def Kz{CX:Ky}{f:Addr}{cd:Value}{s s1:Shared}{E:XK}
  (S:bq N ps scope)(hd:A.handled=none)(e0:GV P w K mg base A outer s H)(hl:vs.length=ps.length)(r:Vals vs us)
  (x:InCallC s s.heap.objs.size (bindL (envOfC qual scope s.heap.objs.size f cd).kindOf (ps.zip us) λ_=>none) (cellsFrom (s.heap.objs.size+1) scope.names []) (bindC (envOfC qual scope s.heap.objs.size f cd).kindOf (ps.zip us) λ_=>none) s1):
  Inv (uO CX P w K mg base N qual scope f cd A outer s H E) [] (start N vs) H s1:=by
 have hpl:ps.length<=N.length:=by have:=congrArg List.length S.pre;rw[aek]at this;lia
 obtain⟨h1,tk,rfl,hk⟩:=x.done;have Yb:∀b:Addr,b∉(uO CX P w K mg base N qual scope f cd A outer s H E).ex:=λb z=>absurd (show b∈([]:BBE) from z) (by simp);refine⟨⟨e0.mod,S.kind,rfl,rfl,aaq _,λy z c h1 h2=>?_,λy hy=>?_,λy c _ h=>?_,λ_=>hd,Around.frames_deeper e0.frames,.inr ⟨rfl,rfl⟩,λb z=>absurd z (Yb b),e0.bs,e0.L8,λb _ _=>Yb b,λb z=>absurd z (Yb b),e0.uM,e0.Px,e0.tab⟩,
  rfl,e0.bare,Un.kept hk,⟨_,x.toInCall.ns,λi y v h1 h2 h3=>?_⟩,λy c h=>⟨_,x.cell y c h⟩,e0.hok.fresh (aaq _),λy c h=>?_,λp hp=>absurd (show p∈([]:AAG) from hp) (by simp),e0.hok.kept hk,?_⟩
 .exact name_of_addr x.apart (acj h1) (acj h2)
 .have hy:scope.names.lookup y=some .cell\/scope.names.lookup y=some .free:=hy;rcases hy with hy|hy
  .exact Es hy
  .exact absurd rfl (S.UO _ (acj hy))
 .exact af4 (x.above y c (acj h))
 .have hi:i<vs.length:=by
   unfold start at h2;by_cases hi:i<vs.length
   .exact hi
   .rw[aez (by simpa using hi)]at h2;rw[agK]at h2;split at h2<;>cases h2
  have ha:vs[i]? =some v:=by
   unfold start at h2;rw[afA (by simpa using hi),abx]at h2;cases e:vs[i]? with
   |none=>rw[e]at h2;cases h2
   |some a=>rw[e]at h2;cases h2;rfl
  obtain⟨u,hu,rv⟩:=r.get ha;have hp:ps[i]? =some y:=by
   rw[<-S.pre,List.getElem?_take_of_lt (by lia)];exact h1
  have ndP:ps.Nodup:=by rw[<-S.pre];exact S.nd.sublist (List.take_sublist _ _)
  refine⟨u,rv,?_⟩;rcases S.par y (adQ hp) with k|k
  .exact .inl ⟨k,B9 ndP hp hu k⟩
  .obtain⟨c,e⟩:=Es (n:=s.heap.objs.size+1) k;refine .inr ⟨.inl k,c,e,?_⟩;have q:=x.cell y c e;rw[Ca ndP hp hu (by show scope.names.lookup y≠_;rw[k];decide)]at q;exact q
 .exact .inl (e0.hok.fresh (af4 (x.above y c (acj h))))
 .unfold start;show _=N.length;rw[aaG,aaw,afZ];lia
def S9{CX:Ky}{f:Addr}{name:Str}{params:Arguments}{dV kV doc pm cdv ct oc:Value}{an od:BBN}
  {osl:Array (BBP)}{sp:Sp}(lk:K.lookup f=some ⟨oc,od,.func (PySem.W.fnOf name qual params body scope dV kV doc pm an cdv ct),osl⟩)(hcd:PySem.W.codeIn K cdv qual=true)(S:bq N ps scope)
  (len:∀vs H Q E,sp vs H Q E->vs.length=ps.length)
  (hbody:∀(A:Around)(outer:BBF)(s:Shared)(H:Hp)(vs:List V)(Q:VK)(E:XK),c7 k (A.deeper (envOfC qual scope s.heap.objs.size f cdv))->sp vs H Q E->
   ∃t,CT (uO CX P w K mg base N qual scope f cdv A outer s H E) body t/\t {nx:=λ_ H'=>Q .cD H',rt:=Q} (start N vs) H):
  fV P w K mg base CX (k+1) f (PySem.W.fnOf name qual params body scope dV kV doc pm an cdv ct) ps sp:=by
 refine⟨len,λA outer s H args us vs Q E hr e0 hb r Py=>?_⟩;have hl:=len _ _ _ _ Py;have KX:K.In s.heap:=e0.mod.PU.keeps λb o e=>(e0.bs b o e).1;have lim:s.heap.NoLimit:=e0.mod.nolimit.keeps λb o e=>(e0.bs b o e).1;have hkind:∀y∈ps.zip us,scope.names.lookup y.1=some .local\/(scope.names.lookup y.1=some .cell/\((cellsFrom (s.heap.objs.size+1) scope.names []).lookup y.1).isSome=true):=λ⟨n,v⟩ hy=>by
  rcases S.par n (agP hy).1 with q|q
  .exact .inl q
  .exact .inr ⟨q,PySem.W.cellsFrom_some _ _ _ (.inl q)⟩
 refine codeAny_call_function hr.depth (KX _ _ lk) rfl S.co S.gen rfl (PySem.W.codeRec_of KX hcd) (hb _ _ _ _ ?_);refine wpAny_newFunctionEnv_cells S.kind hkind λenv he s1 x=>?_;subst he;refine⟨lim.keeps x.toInCall.keep,codeAny_func ?_⟩;obtain⟨t,ht,hq⟩:=hbody A outer s H vs Q E (hr.deeper _) Py;have I:Inv (uO CX P w K mg base N qual scope f cdv A outer s H E) [] (start N vs) H s1:=Kz S hr.hd e0 hl r x;refine aaB (ht [] s1 (start N vs) H _ I hq) (λfl s' hs=>?_) λe s' hs=>hs;have fin:∀{O':St}{H':Hp}{v:V}{u:Value},Inv (uO CX P w K mg base N qual scope f cdv A outer s H E) [] O' H' s'->RelV v u->Q v H'->CE outer P w H s Q u s':=
  λ{O' H' v u} J rv q=>⟨v,H',J.os,J.bare,J.base,J.hok,rv,q⟩
 cases fl with
 |ret u=>
  obtain⟨v,O',H',J,rv,q⟩:=hs;exact fin J rv q
 |next=>
  obtain⟨O',H',J,q⟩:=hs;exact fin (v:=V.cD) (u:=Value.none) J rfl q
 |brk=>
  obtain⟨_,_,_,q⟩:=hs;exact False.elim q
 |cont=>
  obtain⟨_,_,_,q⟩:=hs;exact False.elim q
section
variable {X:Cx}{x:Str}{p pos:Pos}{e:Expr}{es:BBC}{t:TA}{id T:String}{r:List V->Hp->VK->Prop}
def tCB(r:List V->Hp->VK->Prop)(t:TA):TE:=λO H Q=>t O H λvs H1=>r vs H1 Q
def n8(hc:fU X (.builtin id) r)(hg:Gl X x)(hm:X.mg x=none)(hv:bootBuiltins x=some (.builtin id))(ha:PA X (e::es) t)(hn:x≠"__name__":=by decide)(hdb:BBT x:=by decide)
  (he:starEach (e::es) X.env=(false,eval e X.env)::starEach es X.env:=by rfl)(hpl:(backTo pos (starEach es X.env)).any (·.1)=false:=by rfl):PE X (.Call (.Name x p) (e::es) [] pos) (tCB r t):=by
 intro pins s O H Q I h;refine abU (lP I hg hm hv ?_ hn hdb);exact af7 (cS (ha pos pins s O H _ I h) λus s1 ⟨vs,H1,I1,r1,q1⟩=>hc pins s1 O H1 vs us Q I1 r1 q1) he hpl
def KA(hc:fU X (.type T) r)(hg:Gl X x)(hm:X.mg x=none)(hv:bootBuiltins x=some (.type T))(ha:PA X (e::es) t)(hn:x≠"__name__":=by decide)(hdb:BBT x:=by decide)
  (he:starEach (e::es) X.env=(false,eval e X.env)::starEach es X.env:=by rfl)(hpl:(backTo pos (starEach es X.env)).any (·.1)=false:=by rfl):PE X (.Call (.Name x p) (e::es) [] pos) (tCB r t):=by
 intro pins s O H Q I h;refine abU (lP I hg hm hv ?_ hn hdb);exact abW (cS (ha pos pins s O H _ I h) λus s1 ⟨vs,H1,I1,r1,q1⟩=>hc pins s1 O H1 vs us Q I1 r1 q1) he hpl
end
section
variable {κ:Type} [DecidableEq κ]
noncomputable def uP(kvs:List (κ×V))(k:κ):Option V:=(kvs.find? λkv=>decide (kv.1=k)).map (·.2)
noncomputable def putK(kvs:List (κ×V))(k:κ)(v:V):List (κ×V):=
 if(kvs.any λkv=>decide (kv.1=k))=true then kvs.map (λkv=>if kv.1=k then(kv.1,v) else kv) else kvs++[(k,v)]
def vI{p:κ×V}{r:List (κ×V)}{k:κ}(e:p.1=k):uP (p::r) k=some p.2:=by simp[uP,acD,e]
def qM{p:κ×V}{r:List (κ×V)}{k:κ}(e:¬p.1=k):uP (p::r) k=uP r k:=by simp[uP,acD,e]
theorem Et(k:κ):∀kvs:List (κ×V),(kvs.any λkv=>decide (kv.1=k))=(uP kvs k).isSome
 |[]=>rfl
 |p::r=>by
  rw[adW];by_cases e:p.1=k
  .simp only[vI e,acY e,Bool.true_or,Option.isSome_some]
  .rw[qM e,ab6 e,Bool.false_or];exact Et k r
def qN(kvs:List (κ×V))(k:κ)(v:V):(putK kvs k v).length<=kvs.length+1:=by
 unfold putK;split
 .rw[aaw];lia
 .rw[aaG,aaI,aeR];lia
def oZ.wX{o:Option V}{u:BBP}(r:oZ o u):o.isSome=u.isSome:=by
 cases o with
 |none=>cases u with
  |none=>rfl
  |some _=>exact(show False from r).elim
 |some _=>cases u with
  |none=>exact(show False from r).elim
  |some _=>rfl
def KV.val{kvs:List (κ×V)}{vs:List (κ×Value)}(r:KV kvs vs)(k:κ):oZ (uP kvs k) (valueAt vs k):=by
 unfold KV at r
 induction r with
 |nil=>exact True.intro
 |@cons p q ps qs h t ih=>
  obtain⟨h1,h2⟩:=h;by_cases e:p.1=k
  .have e':q.1=k:=h1.symm.trans e;have b:valueAt (q::qs) k=some q.2:=by simp[valueAt,acD,e']
   rw[vI e,b];exact h2
  .have e':¬q.1=k:=λz=>e (h1.trans z);have b:valueAt (q::qs) k=valueAt qs k:=by simp[valueAt,acD,e']
   rw[qM e,b];exact ih
def KV.any{kvs:List (κ×V)}{vs:List (κ×Value)}(r:KV kvs vs)(k:κ):(kvs.any λkv=>decide (kv.1=k))=vs.any λkv=>decide (kv.1=k):=by
 unfold KV at r
 induction r with
 |nil=>rfl
 |cons h t ih=>rw[adW,adW,ih,h.1]
def KV.repl{kvs:List (κ×V)}{vs:List (κ×Value)}(r:KV kvs vs)(k:κ)(ry:RelV y u):
  KV (kvs.map λkv=>if kv.1=k then(kv.1,y) else kv) (vs.map λkv=>if kv.1=k then(kv.1,u) else kv):=by
 unfold KV at r ⊢
 induction r with
 |nil=>exact .nil
 |@cons p q ps qs h t ih=>
  rw[abR,abR];refine .cons ?_ ih;obtain⟨h1,h2⟩:=h;by_cases e:p.1=k
  .rw[if_pos e,if_pos (h1.symm.trans e)];exact⟨h1,ry⟩
  .rw[if_neg e,if_neg (λz=>e (h1.trans z))];exact⟨h1,h2⟩
def KV.put{kvs:List (κ×V)}{vs:List (κ×Value)}(r:KV kvs vs)(k:κ)(ry:RelV y u):KV (putK kvs k y) (stored vs k u):=by
 unfold putK stored;rw[r.any k];by_cases e:(vs.any λkv=>decide (kv.1=k))=true
 .rw[if_pos e,if_pos e];exact r.repl k ry
 .rw[if_neg e,if_neg e];exact Paired.snoc r ⟨rfl,ry⟩
def KV.length{kvs:List (κ×V)}{vs:List (κ×Value)}(r:KV kvs vs):kvs.length=vs.length:=agp r
end
def zO{k:Key}(r:RelV (kV k) u):(cY P w).is k u=true:=by
 cases k with
 |inl i=>obtain⟨t,e⟩:=(show ∃t,u=Value.int i t from r);subst e;exact Ek P w i t
 |inr x=>obtain⟨t,e⟩:=(show ∃t,u=Value.str x t from r);subst e;exact qI P w x t
abbrev KT(H:Hp):List (D×V)->List (D×Addr×Value)->Prop:=Paired λp q=>p.1=q.1/\Kd H q.2.1 p.1/\RelV p.2 q.2.2
def KT.val(r:KT H kvs xs)(k:D):oZ (uP kvs k) ((atKey xs k).map (·.2)):=by
 induction r with
 |nil=>exact True.intro
 |@cons p q ps qs h t ih=>
  obtain⟨h1,_,h2⟩:=h;by_cases e:p.1=k
  .have e':q.1=k:=h1.symm.trans e;have b:atKey (q::qs) k=some q.2:=by simp[atKey,acD,e']
   rw[vI e,b];exact h2
  .have e':¬q.1=k:=λz=>e (h1.trans z);have b:atKey (q::qs) k=atKey qs k:=by simp[atKey,acD,e']
   rw[qM e,b];exact ih
def KT.repl(r:KT H kvs xs)(k:D)(ry:RelV y u):
  KT H (kvs.map λkv=>if kv.1=k then(kv.1,y) else kv) (xs.map (putAt k u)):=by
 induction r with
 |nil=>exact .nil
 |@cons p q ps qs h t ih=>
  rw[abR,abR];refine .cons ?_ ih;obtain⟨h1,h2,h3⟩:=h;unfold putAt;by_cases e:p.1=k
  .rw[if_pos e,if_pos (h1.symm.trans e)];exact⟨h1,h2,ry⟩
  .rw[if_neg e,if_neg (λz=>e (h1.trans z))];exact⟨h1,h2,h3⟩
def KT.put(r:KT H kvs xs)(k:D){b:Addr}(hb:Kd H b k)(ry:RelV y u):
  KT H (putK kvs k y) (storedH xs k b u):=by
 have e:(kvs.any λkv=>decide (kv.1=k))=(atKey xs k).isSome:=by
  rw[Et,(r.val k).wX,Option.isSome_map]
 unfold putK storedH;rw[e];by_cases q:(atKey xs k).isSome=true
 .rw[if_pos q,if_pos q];exact r.repl k ry
 .rw[if_neg q,if_neg q];exact Paired.snoc r ⟨rfl,hb,ry⟩
def KT.keeps(r:KT H kvs xs)(ht:∀b ys,H b=some (.tup ys)->H' b=some (.tup ys)):KT H' kvs xs:=
 Paired.GC r λ_ _ z=>⟨z.1,z.2.1.tups ht,z.2.2⟩
section
variable {P:Program}{w:World}{H:Hp}{h:Heap}{a:Addr}
def Tc{u:HO}(ok:nY P w H h)(e:Rd H a u):cR P w H h a u:=e.ok ok
def Eu{kvs:List (Key×V)}(ok:nY P w H h)(e:Rd H a (.dK kvs)):kvs.length<=sizeLine/\(a == sysModules)=false/\∃vs,KV kvs vs/\h.DictOf (cY P w) a vs:=
 show cR P w H h a (.dK kvs) from Tc ok e
def Td{kvs:List (Key×V)}(ok:nY P w H h)(e:H a=some (.dK kvs)):kvs.length<=sizeLine/\(a == sysModules)=false/\∃vs,KV kvs vs/\h.DictOf (cY P w) a vs:=Eu ok (.inl e)
mutual
theorem MK(ok:nY P w H h):∀(d:D){n:Nat}{v:V}{u:Value},Rep H v d->RelV v u->jF n d=true->vE h u (nf d)
 |.cD,n,_,_,_,_,k=>by cases n<;>cases k
 |.lst _,n,_,_,_,_,k=>by cases n<;>cases k
 |.bl b,n,_,_,r,q,k=>by cases r;cases q;exact .bool b
 |.int i,n,_,_,r,q,k=>by cases r;obtain⟨t,rfl⟩:=q;exact .int i t
 |.str i,n,_,_,r,q,k=>by cases r;obtain⟨t,rfl⟩:=q;exact .str i t
 |.tup ds,n,_,_,r,q,k=>by
  cases n with
  |zero=>cases k
  |succ n=>
   cases r with
   |@tup a vs _ e rs=>
    cases q;obtain⟨_,its,rv,o,h1,h2,m,h3⟩:=(show cR P w H h a (.tup vs) from ok a _ e)
    exact .tup ⟨o,h1,h2,m,h3⟩ (II ok ds rs rv k)
theorem II(ok:nY P w H h):∀(ds:List D){n:Nat}{vs:List V}{us:AAL},bE H vs ds->Vals vs us->ds.all (jF n)=true->wO h us (Xu ds)
 |[],n,_,_,r,q,k=>by cases r;cases q;exact .nil
 |d::ds,n,_,_,r,q,k=>by
  rw[adV,acf]at k;cases r with
  |cons r1 r2=>
   cases q with
   |cons q1 q2=>exact .cons (MK ok d r1 q1 k.1) (II ok ds r2 q2 k.2)
end
def CV{ks:D}(ok:nY P w H h)(e:Kd H a ks):(nW P w).is h ks a:=by
 obtain⟨d,r,hk,rfl⟩:=e;exact⟨MK ok d r rfl hk,Iw d 8 hk⟩
def IJ(ok:nY P w H h)(e:Rd H a (.dT kvs)):kvs.length<=sizeLine/\(a == sysModules)=false/\
  ∃xs,KT H kvs xs/\h.DictOfH (nW P w) a xs:=by
 obtain⟨z,y,xs,r,o,es,ep,h1,h2,h3,h4,h5⟩:=(show cR P w H h a (.dT kvs) from Tc ok e)
 refine⟨z,y,xs,r,o,es,ep,h1,h2,h3,h4,λx hx=>?_,h5⟩;have all:∀{l:List (D×V)}{m:List (D×Addr×Value)},KT H l m->∀x∈m,(nW P w).is h x.1 x.2.1:=by
  intro l m q
  induction q with
  |nil=>intro x hx;exact nomatch hx
  |@cons p q ps qs hq t ih=>
   intro x hx;rcases aat.mp hx with e|hx
   .subst e;exact CV ok (by rw[<-hq.1];exact hq.2.1)
   .exact ih x hx
 exact all r x hx
def Te(ok:nY P w H h)(e:H a=some (.dT kvs)):kvs.length<=sizeLine/\(a == sysModules)=false/\
  ∃xs,KT H kvs xs/\h.DictOfH (nW P w) a xs:=IJ ok (.inl e)
end
def UP(y:V)(k:Key):Prop:=y=kV k\/∃b,y= .bl b/\k= .inl (bI b)
def UP.is{P:Program}{w:World}{y:V}{k:Key}{u:Value}(e:UP y k)(r:RelV y u):(cY P w).is k u=true:=by
 rcases e with rfl|⟨b,rfl,rfl⟩
 .exact zO r
 .cases r;exact acY rfl
def qO(H:Hp)(a:Addr)(y:V)(r:Option V):Prop:=
 (∃kvs k,Rd H a (.dK kvs)/\UP y k/\r=uP kvs k)\/∃kvs k b,Rd H a (.dT kvs)/\y= .ref b/\Kd H b k/\r=uP kvs k
def Ew(H:Hp)(a:Addr)(y v:V)(H':Hp):Prop:=
 (∃kvs k,H a=some (.dK kvs)/\UP y k/\kvs.length<sizeLine/\H'=upd H a (.dK (putK kvs k v)))\/
 ∃kvs k b,H a=some (.dT kvs)/\y= .ref b/\Kd H b k/\kvs.length<sizeLine/\H'=upd H a (.dT (putK kvs k v))
def qO.t{b:Addr}{k:D}(e:H a=some (.dT kvs))(eb:Kd H b k):qO H a (.ref b) (uP kvs k):=.inr ⟨kvs,k,b,.inl e,rfl,eb,rfl⟩
def Ew.t{b:Addr}{k:D}{v:V}(e:H a=some (.dT kvs))(eb:Kd H b k)(hl:kvs.length<sizeLine):
  Ew H a (.ref b) v (upd H a (.dT (putK kvs k v))):=.inr ⟨kvs,k,b,e,rfl,eb,hl,rfl⟩
section
variable {X:Cx}{pins:AAG}{O:St}{H:Hp}{s:Shared}{a:Addr}{y v:V}{u r:Value}{o:Option V}{A:Around}{E:AAE}
def Inv.big(I:Inv X pins O H s):sysModules<s.heap.objs.size:=by
 have h:mainGlobals<s.heap.objs.size:=(I.mod.glob.keeps I.bk).lt;exact Nat.lt_trans (by decide) h
def KC(hu:A.units+20<cLine)(I:Inv X pins O H s)(g:qO H a y (some v))(ry:RelV y u)(h:∀w' s',Inv X pins O H s'->RelV v w'->Q w' s'):
  wpAny (model X.prog X.w) A (getItem (.ref a) u) Q E s:=by
 rcases g with⟨kvs,k,e,ey,l⟩|⟨kvs,k,b,e,ey,eb,l⟩
 .obtain⟨z,hd,vs,rel,dd⟩:=Eu I.hok e;obtain⟨w',hw,rw'⟩:=oZ.some_of (v:=v) (o:=valueAt vs k) (by rw[l];exact rel.val k);exact wpAny_getItem_of (ey.is ry) dd.mapOf hw (h w' _ (I.tok _) rw')
 .subst ey;cases(show u=Value.ref b from ry);obtain⟨z,hd,xs,rel,dd⟩:=IJ I.hok e;obtain⟨w',hw,rw'⟩:=oZ.some_of (v:=v) (o:=(atKey xs k).map (·.2)) (by rw[l];exact rel.val k);obtain⟨p,hp,hp2⟩:=Option.map_eq_some_iff.mp hw;refine wpAny_getItem_heap (nq hu) (CV I.hok eb) dd hp ?_;rw[hp2];exact h w' _ (I.tok _) rw'
def Qh(hu:A.units+20<cLine)(I:Inv X pins O H s)(g:qO H a y o)(ry:RelV y u)(h:∀s',Inv X pins O H s'->Q (.bool (!o.isSome)) s'):
  wpAny (model X.prog X.w) A (compareOp .NotIn u (.ref a)) Q E s:=by
 rcases g with⟨kvs,k,e,ey,l⟩|⟨kvs,k,b,e,ey,eb,l⟩
 .obtain⟨z,hd,vs,rel,dd⟩:=Eu I.hok e;refine wpAny_notIn_of (ey.is ry) hd dd.mapOf ?_;rw[<-(rel.val k).wX,<-l];exact h _ (I.tok _)
 .subst ey;cases(show u=Value.ref b from ry);obtain⟨z,hd,xs,rel,dd⟩:=IJ I.hok e;refine wpAny_notIn_heap (nq hu) (CV I.hok eb) hd dd ?_;have q:=(rel.val k).wX;rw[Option.isSome_map]at q;rw[<-q,<-l];exact h _ (I.tok _)
def CW{h':Heap}{ob:HO}(I:Inv X pins O H s)(mu:Xw (H a))(hs:Heap.SameBut a s.heap h')(he:∃q,h'.get? a=some q)(new:cR X.prog X.w (upd H a ob) h' a ob):
  Inv X pins O (upd H a ob) {s with heap:=h',toks:=t'}:=
 I.write (x:=a) (e:=a) mu (.inl rfl) (λb q hb z=>(hs.2 b hb).trans z) he new
def ML{h':Heap}{kvs:List (Key×V)}{vs:List (Key×Value)}(z:kvs.length<=sizeLine)(hd:(a == sysModules)=false)(rel:KV kvs vs)(dd:h'.DictOf (cY P w) a vs):
  cR P w H' h' a (.dK kvs):=⟨z,hd,vs,rel,dd⟩
def KD{Q:Unit->Shared->Prop}(hu:A.units+20<cLine)(I:Inv X pins O H s)(g:Ew H a y v H')(ry:RelV y u)(rv:RelV v r)(h:∀s',Inv X pins O H' s'->Q () s'):
  wpAny (model X.prog X.w) A (setItem (.ref a) u r) Q E s:=by
 rcases g with⟨kvs,k,e,ey,l,eH⟩|⟨kvs,k,b,e,ey,eb,l,eH⟩
 .subst eH;obtain⟨z,hd,vs,rel,dd⟩:=Td I.hok e;have hz:vs.length<=sizeLine:=by rw[<-rel.length];exact z
  have hl:(putK kvs k v).length<=sizeLine:=by have:=qN kvs k v;lia
  refine wpAny_setItem_pairs (hsz:=hz) (ey.is ry) dd λh' Tf hs=>h _ ?_;have he:∃q,h'.get? a=some q:=let⟨q,_,_,hq,_⟩:=Tf;⟨q,hq⟩
  exact CW I (by rw[e];exact True.intro) hs he (ML hl hd (rel.put k rv) Tf)
 .subst ey eH;cases(show u=Value.ref b from ry);obtain⟨z,hd,xs,rel,dd⟩:=Te I.hok e;have hz:xs.length<=sizeLine:=by rw[<-agp rel];exact z
  have hl:(putK kvs k v).length<=sizeLine:=by have:=qN kvs k v;lia
  refine wpAny_setItem_heap (hsz:=hz) (nq hu) (CV I.hok eb) dd λh' Tf hs=>h _ ?_;obtain⟨q,es,ep,hq,h2,h3,h4,_,h5⟩:=Tf;refine CW I (by rw[e];exact True.intro) hs ⟨q,hq⟩ ⟨hl,hd,_,(rel.put k eb rv).keeps λc ys ec=>?_,q,es,ep,hq,h2,h3,h4,h5⟩;rw[aR (Xv ec e (λz=>nomatch z))];exact ec
end
section
variable {X:Cx}{pins:AAG}{O:St}{H:Hp}{s:Shared}{a:Addr}{kvs:List (Key×V)}{A:Around}{E:AAE}
def Yc(I:Inv X pins O H s)(e:Rd H a (.dK kvs))(h:∀t s',Inv X pins O H s'->Q (.int kvs.length t) s'):wpAny (model X.prog X.w) A (call (.builtin "len") [.ref a]) Q E s:=by
 obtain⟨z,hd,vs,rel,dd⟩:=Eu I.hok e;refine call_len_dict hd dd (by rw[<-rel.length];rw[afR]at z;lia) ?_;rw[<-rel.length];exact h _ _ (I.tok _)
end
def Qi(i:Expr):Prop:=∀ov iv,subscripted i false ov iv=operate [ov,iv] (getItem ov iv)
def IK{s:Shared}{env:Env}{value slice:Expr}{T id:String}
  (hl:typeLookup (.type T) "__getitem__" =pure (some (.builtin id)))(hs:Qi slice)
  (h:wpAny (model prog w) A (eval value env) (λo s₁=>wpAny (model prog w) A (eval slice env) (λi s₂=>s₂.TypeIs o T/\wpAny (model prog w) A (getItem o i) Q E s₂) E s₁) E s):
  wpAny (model prog w) A (eval (.Subscript value slice pos) env) Q E s:=by
 refine Subscript_ (aaB h (λo s₁ h₁=>aaB h₁ (λi s₂ h₂=>?_) λ_ _ x=>x) λ_ _ x=>x);obtain⟨hT,h₂⟩:=h₂;unfold subscriptTail;refine aal ?_;rw[getitemInPython_of_ne hT.not_modules];refine aal (af3 hT hl ?_);have fin:wpAny (model prog w) A (subscripted slice false o i) (λr s₃=>wpAny (model prog w) A (letTemporaryGo value o r >>= λ_=>pure r) Q E s₃) E s₂:=by
  rw[hs o i];exact wpAny_operating (aaB h₂ (λr s₃ h₃=>aal (wpAny_letTemporaryGo (aan h₃))) λ_ _ x=>x)
 first
  |exact aan (aal fin)
  |exact aal (aan (aal fin))
  |exact aal fin
def Ex{s:Shared}{o:Option V}(I:Inv X pins O H s)(g:qO H a y o):s.TypeIs (.ref a) "dict":=by
 rcases g with⟨kvs,k,e,_,_⟩|⟨kvs,k,b,e,_,_,_⟩
 .obtain⟨_,_,vs,_,dd⟩:=Eu I.hok e;exact dd.typeIs
 .obtain⟨_,_,xs,_,dd⟩:=IJ I.hok e;exact dd.typeIs
def Yd(td ty:TE):TE:=λO H Q=>td O H λx H1=>ty O H1 λy H2=>∃a v,x= .ref a/\qO H2 a y (some v)/\Q v H2
def IL(ty td:TE):TE:=λO H Q=>ty O H λy H1=>td O H1 λx H2=>∃a o,x= .ref a/\qO H2 a y o/\Q (.bl (!o.isSome)) H2
def Ye(td ty tv:TE):TS:=λD O H=>tv O H λv H1=>td O H1 λx H2=>ty O H2 λy H3=>∃a H4,x= .ref a/\Ew H3 a y v H4/\D.nx O H4
section
variable {X:Cx}{o i value:Expr}{pos pos':Pos}{td ty tv:TE}
def IM(hu:X.A.units+20<cLine)(ho:PE X o td)(hi:PE X i ty)(hs:Qi i):PE X (.Subscript o i pos) (Yd td ty):=by
 intro pins s O H Q I h;refine IK agw.lookup hs (cS (ho pins s O H _ I h) λu s1 ⟨x,H1,I1,rx,q1⟩=>cS (hi pins s1 O H1 _ I1 q1) λiv s2 hh=>?_);obtain⟨y,H2,I2,ry,a,v,ex,g,q2⟩:=hh;subst ex;obtain rfl:u=Value.ref a:=rx;exact⟨Ex I2 g,KC hu I2 g ry λw' s3 I3 rw'=>⟨v,H2,I3,rw',q2⟩⟩
def KG(hu:X.A.units+20<cLine)(hi:PE X i ty)(ho:PE X o td):PC X .NotIn i o (IL ty td):=by
 intro pins s O H Q I h;refine cS (hi pins s O H _ I h) λiv s1 ⟨y,H1,I1,ry,q1⟩=>cS (ho pins s1 O H1 _ I1 q1) λu s2 hh=>?_;obtain⟨x,H2,I2,rx,a,ov,ex,g,q2⟩:=hh;subst ex;obtain rfl:u=Value.ref a:=rx;exact Qh hu I2 g ry λs3 I3=>⟨.bl (!ov.isSome),H2,I3,rfl,q2⟩
def IP(hu:X.A.units+20<cLine)(ho:PE X o td)(hi:PE X i ty)(hv:PE X value tv)(hs:swapsWith value (some (.Subscript o i pos')) pos.line X.env=pure false):
  PS X (.Assign [.Subscript o i pos'] value pos) (Ye td ty tv):=by
 intro pins s O H D I h;refine wpAny_Assign_Subscript (cS (hv pins s O H _ I h) λr s1 ⟨v,H1,I1,rv,q1⟩=>cS (ho pins s1 O H1 _ I1 q1) λu s2 ⟨x,H2,I2,rx,q2⟩=>cS (hi pins s2 O H2 _ I2 q2) λiv s3 hh=>?_) hs;obtain⟨y,H3,I3,ry,a,H4,ex,g,q3⟩:=hh;subst ex;obtain rfl:u=Value.ref a:=rx;exact KD hu I3 g ry rv λs4 I4=>⟨O,H4,I4,q3⟩
end
def MM(h:Heap)(hb:sysModules<h.objs.size):cR P w H (h.push {cls:=.type "dict",data:=.dict #[]}) h.objs.size (.dK []):=
 ⟨abX _,adY.mpr (abO (aaD hb)),[],.nil,Heap.DictOf.new h⟩
def MN(h:Heap)(hb:sysModules<h.objs.size):cR P w H (h.push {cls:=.type "dict",data:=.dict #[]}) h.objs.size (.dT []):=
 ⟨abX _,adY.mpr (abO (aaD hb)),[],.nil,_,#[],0,aas _ rfl,⟨rfl,rfl,rfl⟩,rfl,rfl,afH⟩
def UQ:TE:=λ_ H Q=>∀p,H p=none->Q (.ref p) (upd H p (.dT []))
section
variable {X:Cx}{pos:Pos}
def MP:PE X (.Dict [] [] pos) UQ:=λpins s O H Q I h=>
 wpAny_Dict_empty ⟨.ref s.heap.objs.size,_,I.laid (a:=s.heap.objs.size) (o:=.dT []) (t':=s.toks) (λ_ _ q=>aam _ q) (aaq _) (MN s.heap I.big),rfl,h _ (I.hok.fresh (aaq _))⟩
end
def zP:List (TE×TE)->St->Hp->(List (V×V)->Hp->Prop)->Prop
 |[],_,H,Q=>Q [] H
 |(tk,tv)::r,O,H,Q=>tk O H λx H1=>tv O H1 λy H2=>zP r O H2 λps H3=>Q ((x,y)::ps) H3
abbrev VV:List (V×V)->List (Value×Value)->Prop:=Paired λp q=>RelV p.1 q.1/\RelV p.2 q.2
def Yg(X:Cx)(pos:Pos)(keys:List (BBL))(values:BBC)(Qj:List (TE×TE)):Prop:=
 ∀(pins:AAG)(s:Shared)(O:St)(H:Hp)(Q:List (V×V)->Hp->Prop),Inv X pins O H s->zP Qj O H Q->
  wpAny (model X.prog X.w) X.A (evalPairs (pairTrees keys values X.env pos)) (λvs s'=>∃ps H',Inv X pins O H' s'/\VV ps vs/\Q ps H') X.xe s
def Qk :Yg X pos [] [] []:=λpins s O H Q I h=>pairTrees_nil_walk ⟨[],H,I,.nil,h⟩
def MQ{k v:Expr}{ks:List (BBL)}{vs:BBC}{tk tv:TE}(hk:PE X k tk)(hv:PE X v tv)(hr:Yg X pos ks vs Qj):
  Yg X pos (some k::ks) (v::vs) ((tk,tv)::Qj):=λpins s O H Q I h=>
 pairTrees_cons_walk (cS (hk pins s O H _ I h) λu s1 ⟨x,H1,I1,rx,q1⟩=>cS (hv pins s1 O H1 _ I1 q1) λw2 s2 ⟨y,H2,I2,ry,q2⟩=>
  cS (hr pins s2 O H2 _ I2 q2) λws s3 ⟨ps,H3,I3,rel,q3⟩=>⟨(x,y)::ps,H3,I3,.cons ⟨rx,ry⟩ rel,q3⟩)
def qP(kvs more:List (Key×V)):List (Key×V):=more.foldl (λacc kv=>putK acc kv.1 kv.2) kvs
def KV.merge:∀{more:List (Key×V)}{rs:List (Key×Value)}{kvs:List (Key×V)}{vs:List (Key×Value)},KV more rs->KV kvs vs->KV (qP kvs more) (merged vs rs):=by
 intro more rs kvs vs r;unfold KV at r
 induction r generalizing kvs vs with
 |nil=>intro q;exact q
 |@cons p q ps qs h t ih=>
  intro r0;have e:KV (putK kvs p.1 p.2) (stored vs q.1 q.2):=by
   have:=r0.put p.1 h.2;rw[<-h.1];exact this
  exact ih e
theorem uv:∀(more kvs:List (Key×V)),(qP kvs more).length<=kvs.length+more.length
 |[],kvs=>by show kvs.length<=kvs.length+0;lia
 |p::r,kvs=>by
  have h1:=uv r (putK kvs p.1 p.2);have h2:=qN kvs p.1 p.2;show(qP (putK kvs p.1 p.2) r).length<=_;rw[aaI];lia
theorem zQ{P:Program}{w:World}:∀{kvs:List (Key×V)}{ws:List (Value×Value)},VV (kvs.map λkv=>(kV kv.1,kv.2)) ws->∃rs,Carries (cY P w) ws rs/\KV kvs rs
 |[],_,r=>by rw[List.map_nil]at r;cases r;exact⟨[],True.intro,.nil⟩
 |p::kvs,_,r=>by
  rw[abR]at r;cases r with
  |@cons a b as bs h t=>
   obtain⟨rs,c,q⟩:=zQ (P:=P) (w:=w) t;obtain⟨b1,b2⟩:=b;exact⟨(p.1,b2)::rs,⟨zO h.1,rfl,c⟩,.cons ⟨rfl,h.2⟩ q⟩
def Yh(Qj:List (TE×TE)):TE:=λO H Q=>∀p,H p=none->zP Qj O (upd H p (.dK [])) λps H2=>H2 p=some (.dK [])/\∃kvs:List (Key×V),ps=kvs.map (λkv=>(kV kv.1,kv.2))/\kvs.length<=15/\Q (.ref p) (upd H2 p (.dK (qP [] kvs)))
def Ql{keys:List (BBL)}{values:BBC}(h:Yg X pos keys values Qj)(hall:keys.all (·.isSome)=true)(hl:keys.length=values.length)(h0:keys≠[])
  (h15:keys.length<=15):PE X (.Dict keys values pos) (Yh Qj):=by
 intro pins s O H Q I q;have hn:=I.hok.fresh (aaq s.heap.objs.size);have I1:=I.laid (a:=s.heap.objs.size) (o:=.dK []) (h':=s.heap.push {cls:=.type "dict",data:=.dict #[]}) (t':=s.toks) (λ_ _ q=>aam _ q) (aaq _) (MM s.heap I.big);refine wpAny_Dict_walk (knd:=cY X.prog X.w) hall hl h0 h15 (cS (h pins _ O _ _ I1 (q _ hn)) λws s2 hh=>?_);obtain⟨ps,H2,I2,rel,e,kvs,ep,lk,q2⟩:=hh;subst ep;obtain⟨rs,c,rk⟩:=zQ (P:=X.prog) (w:=X.w) rel;obtain⟨z,hd,WZ,r0,dd⟩:=Td I2.hok e;cases r0;refine⟨rs,c,dd,λh' Tf hs=>⟨.ref s.heap.objs.size,_,?_,rfl,q2⟩⟩;have hz:(qP [] kvs).length<=sizeLine:=by
  have h1:=uv kvs [];rw[aeR]at h1;rw[afR];lia
 have he:∃q,h'.get? s.heap.objs.size=some q:=let⟨q,_,_,hq,_⟩:=Tf;⟨q,hq⟩
 exact CW I2 (by rw[e];exact True.intro) hs he (ML hz hd (rk.merge .nil) Tf)
structure M2(X:Cx)(o:Expr)(m:Str)(apos:Pos)(e f:Expr)(cpos:Pos):Prop where
 base:attributeBase o m X.env (eval o X.env)=eval o X.env
 few:((backTo cpos (starEach [e,f] X.env)).all (λx=>!x.1) && (backToKw cpos (keywordEach [] X.env)).all (λx=>x.1.isSome)
  && decide (([e,f]:BBC).length+([]:BBI).length+(if([]:BBI).isEmpty then 0 else 1)<30))=true
 line:(apos.endLine == cpos.line)=true
 trees:backTo cpos (starEach [e,f] X.env)=[(false,eval e X.env),(false,eval f X.env)]
end L2
namespace HT
open PySem PyProof.Rows
variable {Q:AAE}{lo hi:BBM}
section
open PySem.SeqAt
open PySem.AutoSeq1 (wpAny_loadPart')
open PySem.MeetsSeq PySem.MeetsSeq2 PySem.MeetsSeq3
end
section
variable {prog:Program}{w:World}{A:Around}{E:AAE}{s:Shared}
def Qm{t b:Addr}{vs ws:AAL}(ht:IsTup s.heap t vs.toArray)(hb:IsTup s.heap b ws.toArray)(hv:vs≠[])
  (h1:ws=[]->Q (.ref t) s)(h2:ws≠[]->Q (.ref s.heap.objs.size) {s with heap:=s.heap.push {cls:=.type "tuple",data:=.seq (vs++ws).toArray}})
  (hsz:vs.length+ws.length<=sizeLine):wpAny (model prog w) A (binaryOp .Add (.ref t) (.ref b)) Q E s:=by
 obtain⟨⟨cls,dd,data,sl⟩,ho,hc,n,hd⟩:=id ht;obtain⟨⟨ab5,dd2,data2,sl2⟩,ho2,hc2,n2,hd2⟩:=id hb;simp only at hc hd hc2 hd2;subst hc hd hc2 hd2;have e:vs.toArray++ws.toArray=(vs++ws).toArray:=by simp
 by_cases hw:ws=[]
 .exact concat_meets ⟨_,ho,rfl⟩ ⟨_,ho2,rfl⟩ agD seq_tuple_add afS afL (afD _ _)
   (tuple_addW1 t b vs.toArray ws.toArray n n2 dd dd2 sl sl2 (by simpa using hv) (by simp[hw])) ⟨ho,ho2,h1 hw⟩
 .refine concat_meets ⟨_,ho,rfl⟩ ⟨_,ho2,rfl⟩ agD seq_tuple_add afS afL (afD _ _)
   (tuple_addW2 t b vs.toArray ws.toArray n n2 dd dd2 sl sl2 (by simpa using hv) (by simpa using hw) (by rw[aao,aao];exact hsz)) ⟨ho,ho2,?_⟩
  rw[e];exact h2 hw
noncomputable def iz(n d:Nat):BBM->Nat
 |none=>d
 |some v=>if v<0 then(v+(n:Int)).toNat else min v.toNat n
def MR(n d:Nat):iz n d none=d:=rfl
def Qn(n d k:Nat):iz n d (some (k:Int))=min k n:=by
 show(if(k:Int)<0 then((k:Int)+(n:Int)).toNat else min (k:Int).toNat n)=min k n;rw[if_neg (by lia),aeV]
def UR(n d:Nat)(hd:d<=n)(o:BBM):iz n d o<=n:=by
 cases o with
 |none=>exact hd
 |some v=>
  show(if v<0 then(v+(n:Int)).toNat else min v.toNat n)<=n;by_cases hv:v<0
  .rw[if_pos hv];lia
  .rw[if_neg hv];exact Nat.min_le_right _ _
def IQ(v:Int)(n d:Nat):(if v<0 then max (v+(n:Int)) 0 else min v (n:Int))=((iz n d (some v):Nat):Int):=by
 show(if v<0 then max (v+(n:Int)) 0 else min v (n:Int))=(((if v<0 then(v+(n:Int)).toNat else min v.toNat n):Nat):Int);by_cases hv:v<0
 .simp only[if_pos hv];lia
 .simp only[if_neg hv];lia
def GY(lo hi:BBM)(n:Nat):Builtin.Slice.sliceAdjust lo hi 1 (n:Int)=(((iz n 0 lo:Nat):Int),((iz n n hi:Nat):Int)):=by
 have h1:¬((1:Int)<0):=by lia
 unfold Builtin.Slice.sliceAdjust;simp only[h1,aey];refine Prod.ext ?_ ?_
 .cases lo with
  |none=>rfl
  |some v=>exact IQ v n 0
 .cases hi with
  |none=>rfl
  |some v=>exact IQ v n n
def GZ(i j:Nat):Builtin.Slice.slicePlaces (i:Int) (j:Int) 1=j-i:=by
 unfold Builtin.Slice.slicePlaces;have h1:(1:Int) > 0:=by lia
 simp only[h1,if_true,Int.ediv_one];split<;>lia
def zR{v:Value}{o:BBM}{Q:BBM->Shared->Prop}(p:IsPart v o)(h:Q o s):wpAny (model prog w) A (Builtin.Slice.slicePartIndex v) Q E s:=by
 cases p with
 |none=>exact slicePart_none h
 |int i t=>exact slicePart_int h
def n9{sl:Addr}{vl vu:Value}{n:Nat}{Q:Int×Int×Nat->Shared->Prop}(hs:s.heap.IsSliceOf sl vl vu .none)(pl:IsPart vl lo)(pu:IsPart vu hi)
  (h:Q (((iz n 0 lo:Nat):Int),1,iz n n hi-iz n 0 lo) s):wpAny (model prog w) A (Builtin.Slice.sliceApplied (.ref sl) (pure (n:Int))) Q E s:=by
 obtain⟨os,hos,hcs,hds⟩:=id hs;unfold Builtin.Slice.sliceApplied Builtin.Slice.sliceFields;refine aal (aal (aaJ hos hds (x:=vl) rfl (aal (aaJ hos hds (x:=vu) rfl (aal (aaJ hos hds (x:=.none) rfl (aan ?_)))))));refine aal (slicePart_none ?_);show wpAny _ _ (if((1:Int) == 0)=true then _ else _) _ _ s;rw[if_neg (by decide)];refine aal (zR pl (aal (zR pu (aal (aan ?_)))));show wpAny _ _ (match Builtin.Slice.sliceAdjust lo hi 1 (n:Int) with|(lo,hi)=>pure (lo,(1:Int),Builtin.Slice.slicePlaces lo hi 1)) _ _ s;rw[GY lo hi n];show wpAny _ _ (pure (((iz n 0 lo:Nat):Int),(1:Int),Builtin.Slice.slicePlaces ((iz n 0 lo:Nat):Int) ((iz n n hi:Nat):Int) 1)) _ _ s;rw[GZ];exact aan h
def MS(xs:AAK)(i k:Nat):((List.range k).filterMap λ(m:Nat)=>xs[((i:Int)+(m:Int)*1).toNat]?).toArray=((xs.toList.drop i).take k).toArray:=by
 have e:(λ(m:Nat)=>xs[((i:Int)+(m:Int)*1).toNat]?)=λm=>xs[i+m]?:=by
  funext m;have:((i:Int)+(m:Int)*1).toNat=i+m:=by lia
  rw[this]
 rw[e];have:=pick_run xs i k;rw[List.filterMap_map]at this;have e2:((λx=>xs[x]?) ∘ λx=>i+x)=λm=>xs[i+m]?:=rfl;rw[e2]at this;rw[this]
def vJ{t sl:Addr}{items:AAK}{vl vu:Value}(ht:IsTup s.heap t items)(hs:s.heap.IsSliceOf sl vl vu .none)(pl:IsPart vl lo)(pu:IsPart vu hi)
  (hw:¬(iz items.size 0 lo=0/\iz items.size items.size hi=items.size))
  (h:Q (.ref s.heap.objs.size) {s with heap:=s.heap.push {cls:=.type "tuple",data:=.seq ((items.toList.drop (iz items.size 0 lo)).take (iz items.size items.size hi-iz items.size 0 lo)).toArray}})
  (hsz:items.size<=sizeLine):wpAny (model prog w) A (getItem (.ref t) (.ref sl)) Q E s:=by
 have IS:sizeOk (.seq ((items.toList.drop (iz items.size 0 lo)).take (iz items.size items.size hi-iz items.size 0 lo)).toArray):=by
  show((items.toList.drop (iz items.size 0 lo)).take (iz items.size items.size hi-iz items.size 0 lo)).toArray.size<=sizeLine;rw[aao,aek,ael,adZ];lia
 have hj:iz items.size items.size hi<=items.size:=UR _ _ (aaq _) hi;obtain⟨os,hos,hcs,hds⟩:=id hs;have hTs:s.TypeIs (.ref sl) "slice":=⟨os,hos,hcs⟩
 unfold getItem
 try with_reducible refine abz ?_
 first|refine aal (aan ?_)|skip
 refine aal (wpAny_sequenceKey ht.typeIs (by decide) ?_);refine aal (ab4 (name:=Str.ofString "__getitem__") ht.typeIs abY
  (acV abY ht.typeIs entry_tuple_getitem ?_ (args_tuple_getitem _ _)))
 show wpAny _ _ (Builtin.Tuple.tupleItemsOf (.ref t) >>= _) _ _ s;refine aal (tupleItemsOf_ ht ?_);refine aal (af8 hTs ?_);rw[if_pos (by decide)];refine aal (n9 hs pl pu ?_);have hno:¬((((iz items.size 0 lo:Nat):Int) == 0 && (1:Int) == 1 && (iz items.size items.size hi-iz items.size 0 lo) == items.size)=true):=by
  intro q;rw[acf,acf]at q;have q1:((iz items.size 0 lo:Nat):Int)=0:=eq_of_beq q.1.1;have q2:iz items.size items.size hi-iz items.size 0 lo=items.size:=eq_of_beq q.2;exact hw ⟨by lia,by lia⟩
 show wpAny _ _ (if(((iz items.size 0 lo:Nat):Int) == 0 && (1:Int) == 1 && (iz items.size items.size hi-iz items.size 0 lo) == items.size)=true then _ else _) _ _ s;rw[if_neg hno,MS]
 first
  |exact aal (m:=Builtin.Tuple.tupleExact _) (acB (aan ⟨_,rfl,aan h⟩) IS)
  |exact aal (m:=Builtin.Tuple.tupleExact _) (acB (aal (aan (aan ⟨_,rfl,aan h⟩))) IS)
  |exact aal (aal (m:=Builtin.Tuple.tupleExact _) (acB (aan (aan ⟨_,rfl,aan h⟩)) IS))
  |exact aal (aal (m:=Builtin.Tuple.tupleExact _) (acB (aan ⟨_,rfl,aan h⟩) IS))
end
end HT
namespace L2
open PySem PySem.Spec PyProof.Rows
variable {xs:List V}{us its its':AAL}{n:Nat}{pins:AAG}
abbrev TO:=St->Hp->(BBM->Hp->Prop)->Prop
def PO(X:Cx)(e:BBL)(t:TO):Prop:=
 ∀(pins:AAG)(s:Shared)(O:St)(H:Hp)(Q:BBM->Hp->Prop),Inv X pins O H s->t O H Q->
  wpAny (model X.prog X.w) X.A (evalPart e X.env) (λu s'=>∃o H',Inv X pins O H' s'/\IsPart u o/\Q o H') X.xe s
def Qo:TO:=λ_ H Q=>Q none H
def Yi(t:TE):TO:=λO H Q=>t O H λx H1=>∃i,x= .int i/\Q (some i) H1
def intsAre_of{ns:BBD}:∀{us:AAL},Vals (ns.map V.int) us->IntsAre us ns:=by
 induction ns with
 |nil=>intro us r;rw[List.map_nil]at r;cases r;exact .nil
 |cons n ns ih=>
  intro us r;rw[abR]at r;cases r with
  |cons r1 r2=>
   obtain⟨t,e⟩:=r1;subst e;exact .cons n t (ih r2)
section
variable {X:Cx}{e:Expr}{te:TE}{lo hi:BBL}{tl th:TO}{pos p2:Pos}
def Qp:PO X none Qo:=by
 intro pins s O H Q I h;rw[evalPart_none];exact aan ⟨none,H,I,.none,h⟩
def Qq(h:PE X e te):PO X (some e) (Yi te):=by
 intro pins s O H Q I hw;rw[evalPart_some];refine cS (h pins s O H _ I hw) λu s1 hh=>?_;obtain⟨x,H1,I1,r1,q1⟩:=hh;obtain⟨i,rfl,q⟩:=q1;obtain⟨t,rfl⟩:=r1;exact⟨some i,H1,I1,.int i t,q⟩
def Yj(X:Cx)(r:V->BBM->BBM->Hp->VK->Prop):Prop:=
 ∀(pins:AAG)(s:Shared)(O:St)(H:Hp)(x:V)(v vl vu:Value)(lo hi:BBM)(sl:Addr)(Q:VK),Inv X pins O H s->RelV x v->s.heap.IsSliceOf sl vl vu .none->IsPart vl lo->IsPart vu hi->r x lo hi H Q->
  ∃T id,typeLookup (.type T) "__getitem__" =pure (some (.builtin id))/\s.TypeIs v T/\wpAny (model X.prog X.w) X.A (getItem v (.ref sl)) (EP X pins O Q) X.xe s
def tSl(r:V->BBM->BBM->Hp->VK->Prop)(te:TE)(tl th:TO):TE:=λO H Q=>te O H λx H1=>tl O H1 λl H2=>th O H2 λu H3=>r x l u H3 Q
def MT{r:V->BBM->BBM->Hp->VK->Prop}(hr:Yj X r)(he:PE X e te)(hl:PO X lo tl)(hu:PO X hi th):PE X (.Subscript e (.Slice lo hi none p2) pos) (tSl r te tl th):=by
 intro pins s O H Q I h;refine Subscript_ (cS (he pins s O H _ I h) λv s1 hh=>?_);obtain⟨x,H1,I1,r1,q1⟩:=hh;refine wpAny_Slice (cS (hl pins s1 O H1 _ I1 q1) λvl s2 ⟨l,H2,I2,pl,q2⟩=>cS (hu pins s2 O H2 _ I2 q2) λvu s3 hh=>?_);obtain⟨u,H3,I3,pu,q3⟩:=hh;rw[evalPart_none];refine aan ?_;have I4:Inv X pins O H3 {s3 with heap:=s3.heap.push {cls:=.type "slice",data:=.fields #[vl,vu,.none]}}:=I3.kept (t':=s3.toks) λb ob q=>aam _ q;obtain⟨T,id,hT,ht,hg⟩:=hr pins {s3 with heap:=s3.heap.push {cls:=.type "slice",data:=.fields #[vl,vu,.none]}} O H3 x v vl vu l u s3.heap.objs.size Q I4 r1 (Heap.IsSliceOf.new ..) pl pu q3;show wpAny (model X.prog X.w) X.A (subscriptTail e (.Slice lo hi none p2) v (.ref s3.heap.objs.size)) (EP X pins O Q) X.xe {s3 with heap:=s3.heap.push {cls:=.type "slice",data:=.fields #[vl,vu,.none]}};exact tail_any (ops:=[.ref s3.heap.objs.size,v]) ht hT hg (by with_unfolding_all rfl)
noncomputable def Ey(xs:List V)(lo hi:BBM):List V:=(xs.drop (HT.iz xs.length 0 lo)).take (HT.iz xs.length xs.length hi-HT.iz xs.length 0 lo)
def yu(xs:List V)(lo hi:BBM):(Ey xs lo hi).length<=xs.length:=by
 unfold Ey;rw[aek,ael];lia
def ab7(K:AAD):V->BBM->BBM->Hp->VK->Prop:=λx lo hi H Q=>∃a xs,x= .ref a/\Ef K H a xs/\
 ¬(HT.iz xs.length 0 lo=0/\HT.iz xs.length xs.length hi=xs.length)/\∀p,H p=none->Q (.ref p) (upd H p (.tup (Ey xs lo hi)))
def US:Yj X (ab7 X.K):=by
 intro pins s O H x v vl vu lo hi sl Q I rx hs pl pu h;obtain⟨a,xs,rfl,hx,hw,q⟩:=h;cases rx;obtain⟨its,r,ht,hz⟩:=I.tuple hx;have hlen:its.toArray.size=xs.length:=by rw[aao];exact r.length.symm
 refine⟨"tuple",_,abY.lookup,ht.typeIs,?_⟩;refine HT.vJ ht hs pl pu (by rw[hlen];exact hw) ?_ (by rw[hlen];exact hz);rw[hlen];refine⟨.ref s.heap.objs.size,_,I.laid (t':=s.toks) (o:=.tup (Ey xs lo hi)) (λb ob q=>aam _ q) (aaq _) ?_,rfl,q _ (I.hok.fresh (aaq _))⟩;exact⟨aaC (yu xs lo hi) hz,_,(r.drop (HT.iz xs.length 0 lo)).take (HT.iz xs.length xs.length hi-HT.iz xs.length 0 lo),IsTup.new _ _⟩
def Yk(K:AAD):R2:=λx y H Q=>∃a b xs ys,x= .ref a/\y= .ref b/\Ef K H a xs/\Ef K H b ys/\xs≠[]/\xs.length+ys.length<=sizeLine/\
 (ys=[]->Q (.ref a) H)/\(ys≠[]->∀p,H p=none->Q (.ref p) (upd H p (.tup (xs++ys))))
def Vals.CY(r:Vals xs us):us=[]↔xs=[]:=by
 cases r with
 |nil=>simp
 |cons _ _=>simp
def Qs:zp X (binaryOp .Add) (Yk X.K):=by
 intro pins s O H x y v u Q I rx ry h;obtain⟨a,b,xs,ys,rfl,rfl,ha,hb,hx,hz,q1,q2⟩:=h;cases rx;cases ry;obtain⟨its,r1,p1,_⟩:=I.tuple ha;obtain⟨its2,r2,p2,_⟩:=I.tuple hb;refine HT.Qm p1 p2 (λz=>hx (r1.CY.mp z)) (λz=>⟨.ref a,H,I,rfl,q1 (r2.CY.mp z)⟩) (λz=>?_) (by rw[<-r1.length,<-r2.length];exact hz);refine⟨.ref s.heap.objs.size,_,I.laid (t':=s.toks) (o:=.tup (xs++ys)) (λb ob q=>aam _ q) (aaq _) ?_,rfl,q2 (λw=>z (r2.CY.mpr w)) _ (I.hok.fresh (aaq _))⟩;exact⟨by rw[aaG];exact hz,_,r1.append r2,IsTup.new _ _⟩
end
noncomputable def IT(n:Nat)(i:Int):Option Nat:=if 0<=i then(if i<n then some i.toNat else none) else if -(n:Int)<=i then some (i+n).toNat else none
def ia{α:Type}(xs:List α)(i:Int):Option α:=(IT xs.length i).bind λj=>xs[j]?
def IU{i:Int}{j:Nat}(h:IT n i=some j):seqIndex? i n=some j/\j<n/\-(n:Int)<=i/\i<n:=by
 unfold IT at h;by_cases h0:0<=i
 .rw[if_pos h0]at h;by_cases h1:i<n
  .rw[if_pos h1]at h;have e:i.toNat=j:=abv h;exact⟨by rw[seqIndex_of h0 h1,e],by lia,by lia,h1⟩
  .rw[if_neg h1]at h;cases h
 .rw[if_neg h0]at h;by_cases h1:-(n:Int)<=i
  .rw[if_pos h1]at h;have e:(i+n).toNat=j:=abv h;exact⟨by rw[seqIndex_neg (by lia) h1,e],by lia,h1,by lia⟩
  .rw[if_neg h1]at h;cases h
def CZ{α:Type}{xs:List α}{i:Int}{v:α}(h:ia xs i=some v):∃j,seqIndex? i xs.length=some j/\xs[j]? =some v/\j<xs.length/\-(xs.length:Int)<=i/\i<xs.length:=by
 unfold ia at h;cases e:IT xs.length i with
 |none=>rw[e]at h;cases h
 |some j=>
  rw[e]at h;obtain⟨h1,h2,h3,h4⟩:=IU e;exact⟨j,h1,h,h2,h3,h4⟩
def zq(b:Expr):Prop:=∀o i,subscripted b false o i=operate [o,i] (getItem o i)
def MU(X:Cx)(r:R2):Prop:=
 ∀(value slice:Expr)(pins:AAG)(s:Shared)(O:St)(H:Hp)(x y:V)(v u:Value)(Q:VK),Inv X pins O H s->RelV x v->RelV y u->r x y H Q->
  subscripted slice false v u=operate [v,u] (getItem v u)->wpAny (model X.prog X.w) X.A (subscriptTail value slice v u) (EP X pins O Q) X.xe s
def Yl(X:Cx)(id:String)(r:V->List V->Hp->VK->Prop):Prop:=
 ∀(pins:AAG)(s:Shared)(O:St)(H:Hp)(x:V)(xs:List V)(v:Value)(us:AAL)(Q:VK),Inv X pins O H s->RelV x v->Vals xs us->r x xs H Q->
  wpAny (model X.prog X.w) X.A (call (.builtin id) (v::us)) (EP X pins O Q) X.xe s
section
variable {X:Cx}{a b:Expr}{ta tb:TE}{pos:Pos}
def MU.or{r r':R2}(h:MU X r)(h':MU X r'):MU X (λx y H Q=>r x y H Q\/r' x y H Q):=by
 intro value slice pins s O H x y v u Q I rx ry q hs;rcases q with q|q
 .exact h value slice pins s O H x y v u Q I rx ry q hs
 .exact h' value slice pins s O H x y v u Q I rx ry q hs
def IV{r:R2}(hr:MU X r)(ha:PE X a ta)(hb:PE X b tb)(hs:zq b):PE X (.Subscript a b pos) (WX r ta tb):=by
 intro pins s O H Q I h;exact Subscript_ (Uy ha hb I h λv u s2 x y H2 I2 rx ry q=>hr a b pins s2 O H2 x y v u Q I2 rx ry q (hs _ _))
def Ym(K:AAD):R2:=λx y H Q=>∃p xs i v,x= .ref p/\y= .int i/\oW K H p xs/\ia xs i=some v/\Q v H
def Yn(K:AAD):R2:=λx y H Q=>∃p xs i v,x= .ref p/\y= .int i/\Ef K H p xs/\ia xs i=some v/\Q v H
def Yo:R2:=λx y H Q=>∃z i c,x= .str z/\y= .int i/\z.length<=sizeLine/\ia z.cps.toList i=some c/\Q (.str ⟨#[c]⟩) H
def IW:MU X (Ym X.K):=by
 intro value slice pins s O H x y v u Q I rx ry h hs;obtain⟨p,xs,i,z,rfl,rfl,hq,he,q⟩:=h;cases rx;obtain⟨t,rfl⟩:=ry;obtain⟨its,r,pl,hz⟩:=I.list hq;obtain⟨j,h1,h2,h3,h4,h5⟩:=CZ he;obtain⟨w,ew,rw'⟩:=r.get h2;have hl:=r.length;have hn:=wU;have fin:EP X pins O Q w s:=⟨z,H,I,rw',q⟩
 by_cases h0:0<=i
 .have hj:i.toNat=j:=by
   rw[seqIndex_of h0 h5]at h1;exact abv h1
  exact item_listR pl.isList h0 (by lia) (by rw[hj];simpa using ew) fin hs
 .have hj:(i+(its.toArray.size:Int)).toNat=j:=by
   rw[seqIndex_neg (by lia) h4]at h1;rw[aao,<-hl];exact abv h1
  exact subscriptTail_builtinR (x:=w) pl.isList.typeIs slot_list_getitem.lookup
   (wpAny_getItem_list_neg (Q:=λr s'=>r=w/\EP X pins O Q r s') pl.isList (by lia) (by rw[aao]<;>lia) (by lia) (by rw[hj];simpa using ew) ⟨rfl,fin⟩) hs
def MV:MU X (Yn X.K):=by
 intro value slice pins s O H x y v u Q I rx ry h hs;obtain⟨p,xs,i,z,rfl,rfl,hq,he,q⟩:=h;cases rx;obtain⟨t,rfl⟩:=ry;obtain⟨its,r,pl,hz⟩:=I.tuple hq;obtain⟨j,h1,h2,h3,h4,h5⟩:=CZ he;obtain⟨w,ew,rw'⟩:=r.get h2;have hl:=r.length;have hn:=wU;have fin:EP X pins O Q w s:=⟨z,H,I,rw',q⟩
 exact subscriptTail_builtinR (x:=w) pl.typeIs slot_tuple_getitem.lookup
  (getItem_tuple (j:=j) (Q:=λr s'=>r=w/\EP X pins O Q r s') pl (by lia) (by lia) (by rw[aao,<-hl];exact h1) (by simpa using ew) ⟨rfl,fin⟩) hs
def MW:MU X Yo:=by
 intro value slice pins s O H x y v u Q I rx ry h hs;obtain⟨z,i,c,rfl,rfl,hz,he,q⟩:=h;obtain⟨t,rfl⟩:=rx;obtain⟨t',rfl⟩:=ry;obtain⟨j,h1,h2,h3,h4,h5⟩:=CZ he;have hl:z.cps.toList.length=z.length:=by simp[Str.length]
 rw[hl]at h1 h4 h5;have hn:=wU;exact tail_any (ae7 s z t) slot_str_getitem.lookup (getItem_str (c:=c) (by
  have e1:decide (i < -(2 ^ 63:Int))=false:=ab6 (by lia);have e2:decide (i≥2 ^ 63)=false:=ab6 (by lia);rw[e1,e2,Bool.or_false]) (by rw[h1];simpa using h2) ⟨.str ⟨#[c]⟩,H,I.tok _,⟨_,rfl⟩,q⟩) hs
def rIx(K:AAD):R2:=λx y H Q=>Ym K x y H Q\/Yn K x y H Q\/Yo x y H Q
def G0:MU X (rIx X.K):=IW.or (MV.or MW)
def G1(its:AAL)(n j:Nat)(u:Value):Obj.mapSeq (·.setIfInBounds j u) {cls:=.type "list",data:=.seq its.toArray n}={cls:=.type "list",data:=.seq (its.set j u).toArray n}:=by
 simp[Obj.mapSeq]
def Inv.lst{pins:AAG}{O:St}{H:Hp}{s:Shared}{p:Addr}{xs:List V}(I:Inv X pins O H s)(h:H p=some (.lst xs)):
  ∃(its:AAL)(n:Nat),Vals xs its/\s.heap.get? p=some {cls:=.type "list",data:=.seq its.toArray n}/\xs.length<=sizeLine:=by
 obtain⟨z,its,n,r,e⟩:=I.hok p _ h;exact⟨its,n,r,e,z⟩
def Inv.UT{O:St}{H:Hp}{s:Shared}{p:Addr}{ys:List V}{n':Nat}{f:Obj->Obj}(I:Inv X pins O H s)(h:H p=some (.lst xs))
  (ho:s.heap.get? p=some {cls:=.type "list",data:=.seq its.toArray n})(hf:f {cls:=.type "list",data:=.seq its.toArray n}={cls:=.type "list",data:=.seq its'.toArray n'})(r:Vals ys its')(hz:ys.length<=sizeLine)(t:Nat):
  Inv X pins O (upd H p (.lst ys)) {s with heap:=s.heap.update p f,toks:=t}:=by
 have e:(s.heap.update p f).get? p=some {cls:=.type "list",data:=.seq its'.toArray n'}:=by
  rw[abh f ho (by rw[hf]<;>rfl),hf]
 refine I.write (x:=p) (e:=p) (by rw[h];trivial) (.inl rfl) (λb u hb q=>(aaH _ _ (abO hb)).trans q) ⟨_,e⟩ ?_;exact⟨hz,its',n',r,e⟩
def Yp:V->V->V->Hp->(Hp->Prop)->Prop:=λo i v H Q=>∃p xs k j,o= .ref p/\i= .int k/\H p=some (.lst xs)/\IT xs.length k=some j/\Q (upd H p (.lst (xs.set j v)))
def set_list:XN X Yp:=by
 intro pins s O H o i v ov iv u Q I ro ri rv h;obtain⟨p,xs,k,j,rfl,rfl,hp,hj,q⟩:=h;cases ro;obtain⟨t,rfl⟩:=ri;obtain⟨its,n,r,ho,hz⟩:=I.lst hp;obtain⟨h1,h2,h3,h4⟩:=IU hj;have hl:=r.length;have hn:=wU;have I':Inv X pins O (upd H p (.lst (xs.set j v))) {s with heap:=s.heap.update p (Obj.mapSeq (·.setIfInBounds j u))}:=
  I.UT hp ho (G1 its n j u) (r.set rv j) (by rw[acT];exact hz) s.toks
 by_cases h0:0<=k
 .have hk:k.toNat=j:=by
   rw[seqIndex_of h0 h4]at h1;exact abv h1
  exact PySem.W.ki_setAt ho h0 (by lia) (by rw[aao,<-hl];exact h4) (by rw[hk];exact⟨_,I',q⟩)
 .have hk:(k+(its.toArray.size:Int)).toNat=j:=by
   rw[seqIndex_neg (by lia) h3]at h1;rw[aao,<-hl];exact abv h1
  exact PySem.W.ki_setBack ho (by lia) (by rw[aao,<-hl];exact h3) (by lia) (by rw[hk];exact⟨_,I',q⟩)
def C1(lo hi:BBM)(n:Nat):(sliceBounds lo hi none n).1=((HT.iz n 0 lo:Nat):Int)/\(sliceBounds lo hi none n).2.1=((HT.iz n n hi:Nat):Int)/\(sliceBounds lo hi none n).2.2=1:=by
 refine⟨?_,?_,rfl⟩
 .cases lo with
  |none=>simp[sliceBounds,HT.iz]
  |some i=>
   simp only[sliceBounds,HT.iz,Option.getD_none,show(1:Int) > 0 by decide,if_true];by_cases h:i<0
   .simp only[h,if_true]<;>lia
   .simp only[h,aey]<;>lia
 .cases hi with
  |none=>simp[sliceBounds,HT.iz]
  |some i=>
   simp only[sliceBounds,HT.iz,Option.getD_none,show(1:Int) > 0 by decide,if_true];by_cases h:i<0
   .simp only[h,if_true]<;>lia
   .simp only[h,aey]<;>lia
def BD(its:AAL)(lo hi:BBM):slicePick its.toArray lo hi none=((its.drop (HT.iz its.length 0 lo)).take (HT.iz its.length its.length hi-HT.iz its.length 0 lo)).toArray:=by
 obtain⟨h1,h2,h3⟩:=C1 lo hi its.toArray.size;unfold slicePick;rw[h1,h2,h3];simp only[sliceRange_one,pick_run,aao]<;>rfl
def ab8(K:AAD):V->BBM->BBM->Hp->VK->Prop:=λx lo hi H Q=>∃a xs,x= .ref a/\oW K H a xs/\∀p,H p=none->Q (.ref p) (upd H p (.lst (Ey xs lo hi)))
def Qt:Yj X (ab8 X.K):=by
 intro pins s O H x v vl vu lo hi sl Q I rx hs pl pu h;obtain⟨a,xs,rfl,hx,q⟩:=h;cases rx;obtain⟨its,r,ht,hz⟩:=I.list hx;have hlen:=r.length;refine⟨"list",_,slot_list_getitem.lookup,ht.isList.typeIs,?_⟩;refine wpAny_getItem_list_slice ht.isList hs pl pu .none (by simp) ?_ (by rw[aao]<;>lia);rw[BD,<-hlen];refine⟨.ref s.heap.objs.size,_,I.laid (t':=s.toks) (o:=.lst (Ey xs lo hi)) (λb ob q=>aam _ q) (aaq _) ?_,rfl,q _ (I.hok.fresh (aaq _))⟩;exact⟨aaC (yu xs lo hi) hz,_,0,(r.drop (HT.iz xs.length 0 lo)).take (HT.iz xs.length xs.length hi-HT.iz xs.length 0 lo),aas _ rfl⟩
def o8:fU X (.builtin "len") (λxs H Q=>∃p ys,xs=[.ref p]/\(oW X.K H p ys\/Ef X.K H p ys)/\Q (.int ys.length) H):=by
 intro pins s O H xs us Q I r h;obtain⟨p,ys,rfl,hq,q⟩:=h;obtain⟨u,rfl,rx⟩:=vals1 r;cases rx;have hn:=wU;rcases hq with hq|hq
 .obtain⟨its,r',pl,hz⟩:=I.list hq;have hlen:=r'.length;exact Calls.call_len_list pl.isList (by simp only[aao]<;>lia) ⟨.int ys.length,H,I.tok _,⟨s.toks+1,by rw[aao,hlen]⟩,q⟩
 .obtain⟨its,r',pl,hz⟩:=I.tuple hq;have hlen:=r'.length;exact len_tuple pl (by simp only[aao]<;>lia) ⟨.int ys.length,H,I.tok _,⟨s.toks+1,by rw[aao,hlen]⟩,q⟩
def vK:fU X (.builtin "len") (λxs H Q=>∃z,xs=[.str z]/\z.length<=sizeLine/\Q (.int z.length) H):=by
 intro pins s O H xs us Q I r h;obtain⟨z,rfl,hz,q⟩:=h;obtain⟨u,rfl,t,rfl⟩:=vals1 r;have hn:=wU;exact len_str (by lia) ⟨.int z.length,H,I.tok _,⟨_,rfl⟩,q⟩
def uw:fU X (.type "tuple") (λxs H Q=>∃p ys,xs=[.ref p]/\((oW X.K H p ys/\∀l,H l=none->Q (.ref l) (upd H l (.tup ys)))\/(Ef X.K H p ys/\Q (.ref p) H))):=by
 intro pins s O H xs us Q I r h;obtain⟨p,ys,rfl,h⟩:=h;obtain⟨u,rfl,rx⟩:=vals1 r;cases rx;rcases h with⟨hq,q⟩|⟨hq,q⟩
 .obtain⟨its,r',pl,hz⟩:=I.list hq;have hlen:=r'.length;refine call_tuple_list pl.isList (λh' kp=>?_) (by simp only[aao]<;>lia);have I1:Inv X pins O H {s with heap:=h'}:=I.kept (t':=s.toks) kp;have I2:Inv X pins O (upd H h'.objs.size (.tup ys)) {s with heap:=h'.push {cls:=.type "tuple",data:=.seq its.toArray}}:=
   I1.laid (t':=s.toks) (λb o e=>aam _ e) (aaq _) (show cR X.prog X.w _ _ _ (.tup ys) from⟨hz,its,r',IsTup.new _ _⟩)
  exact⟨.ref h'.objs.size,_,I2,rfl,q _ (I1.hok.fresh (aaq _))⟩
 .obtain⟨its,r',pl,hz⟩:=I.tuple hq;exact call_tuple_same pl ⟨.ref p,H,I,rfl,q⟩
def tyV(K:AAD)(T:String)(x:V)(H:Hp):Prop:=match x with
 |.str _=>T="str"
 |.int _=>T="int"
 |.ref p=>(T="list"/\∃xs,oW K H p xs)\/(T="tuple"/\∃o,K.lookup p=some o/\o.cls= .type "tuple"/\o.dict=none)\/
   (T="dict"/\((∃kvs,H p=some (.dK kvs))\/∃kvs,H p=some (.dT kvs)))\/(T="set"/\∃S n,H p=some (.set S n))
 |_=>False
def MX{O:St}{H:Hp}{s:Shared}{T:String}{x:V}{v:Value}(I:Inv X pins O H s)(r:RelV x v)(ty:tyV X.K T x H):
  s.TypeIs v T/\∀a,v= .ref a->∃ob,s.heap.get? a=some ob/\ob.dict=none:=by
 cases x with
 |str z=>
  obtain⟨t,rfl⟩:=r;cases(show T="str" from ty);exact⟨ae7 s z t,λ_ e=>nomatch e⟩
 |int i=>
  obtain⟨t,rfl⟩:=r;cases(show T="int" from ty);exact⟨typeIs_int s i t,λ_ e=>nomatch e⟩
 |ref p=>
  cases r;rcases ty with⟨rfl,xs,hq⟩|⟨rfl,o,hk,hc,hd⟩|⟨rfl,hk⟩|⟨rfl,S,n,hk⟩
  .obtain⟨its,_,pl,_⟩:=I.list hq;refine⟨pl.isList.typeIs,λa e=>?_⟩;cases e;obtain⟨o,n,e,c,hd,_⟩:=pl;exact⟨o,e,hd⟩
  .refine⟨⟨o,I.uh p o hk,hc⟩,λa e=>?_⟩;cases e;exact⟨o,I.uh _ o hk,hd⟩
  .have z:∃o,s.heap.get? p=some o/\o.ExactDict:=by
    rcases hk with⟨kvs,hk⟩|⟨kvs,hk⟩
    .obtain⟨_,_,_,_,o,_,_,e,ex,_⟩:=I.hok p _ hk;exact⟨o,e,ex⟩
    .obtain⟨_,_,_,_,o,_,_,e,ex,_⟩:=I.hok p _ hk;exact⟨o,e,ex⟩
   obtain⟨o,e,ex⟩:=z;refine⟨⟨o,e,ex.1⟩,λa e2=>?_⟩;cases e2;exact⟨o,e,ex.2.1⟩
  .obtain⟨o,_,_,_,e,ex,_⟩:=I.hok p _ hk;refine⟨⟨o,e,ex.1⟩,λa e2=>?_⟩;cases e2;exact⟨o,e,ex.2.1⟩
 |_=>exact False.elim ty
def acd(K:AAD)(T:String)(r:V->List V->Hp->VK->Prop)(to:TE):TE:=λO H Q=>to O H λx H1=>tyV K T x H1/\r x [] H1 Q
def tBM(K:AAD)(T:String)(r:V->List V->Hp->VK->Prop)(to:TE)(t:TA):TE:=λO H Q=>to O H λx H1=>tyV K T x H1/\t O H1 λxs H2=>r x xs H2 Q
variable {o e:Expr}{es:BBC}{to:TE}{t:TA}{name:Str}{apos cpos:Pos}{T id:String}{r:V->List V->Hp->VK->Prop}
def UU(pa:PlainAttrs T)(slot:Slot T name id)(hty:typeOf (.builtin id)=pure (.type "method_descriptor"))(hm:Yl X id r)(ho:PE X o to)
  (hbase:attributeBase o name X.env (eval o X.env)=eval o X.env:=by rfl)(hline:(apos.endLine == cpos.line)=true:=by rfl):PE X (.Call (.Attribute o name apos) [] [] cpos) (acd X.K T r to):=by
 intro pins s O H Q I h;refine wpAny_Call_method0_late hbase hline (cS (ho pins s O H _ I h) λv s1 hh=>?_);obtain⟨x,H1,I1,r1,ty,q1⟩:=hh;obtain⟨h1,h2⟩:=MX I1 r1 ty;exact⟨T,id,pa,slot,hty,h1,h2,aer rfl (PySem.evalArgs_none (hm pins s1 O H1 x [] v [] Q I1 r1 .nil q1))⟩
def Yq(pa:PlainAttrs T)(slot:Slot T name id)(hty:typeOf (.builtin id)=pure (.type "method_descriptor"))(hm:Yl X id r)(ho:PE X o to)(ha:PA X (e::es) t)
  (hbase:attributeBase o name X.env (eval o X.env)=eval o X.env:=by rfl)
  (hfew:((backTo cpos (starEach (e::es) X.env)).all (λx=>!x.1) && (backToKw cpos (keywordEach [] X.env)).all (λx=>x.1.isSome)
   && decide ((e::es).length+([]:BBI).length+(if([]:BBI).isEmpty then 0 else 1)<30))=true:=by rfl)
  (hline:(apos.endLine == cpos.line)=true:=by rfl)(hs:starEach (e::es) X.env=(false,eval e X.env)::starEach es X.env:=by rfl)(hplain:(backTo cpos (starEach es X.env)).any (·.1)=false:=by rfl):
  PE X (.Call (.Attribute o name apos) (e::es) [] cpos) (tBM X.K T r to t):=by
 intro pins s O H Q I h;refine wpAny_Call_method_late hbase hfew hline rfl (cS (ho pins s O H _ I h) λv s1 hh=>?_);obtain⟨x,H1,I1,r1,ty,q1⟩:=hh;obtain⟨h1,h2⟩:=MX I1 r1 ty;refine⟨T,id,pa,slot,hty,h1,h2,?_⟩;have hA:=ha cpos pins s1 O H1 _ I1 q1;rw[hs]at hA ⊢;refine aer (by show(false || (backTo cpos (starEach es X.env)).any (·.1))=false;rw[hplain]<;>rfl) (afj ?_);exact cS hA λus s2 ⟨vs,H2,I2,r2,q2⟩=>hm pins s2 O H2 x vs v us Q I2 r1 r2 q2
end
def MtM(X:Cx)(id:String)(r:V->List V->Hp->VK->Prop):Prop:=
 ∀(pins:AAG)(s:Shared)(O:St)(H:Hp)(x:V)(xs:List V)(v:Value)(us:AAL)(Q:VK),Inv X pins O H s->RelV x v->Vals xs us->r x xs H Q->
  wpAny (model X.prog X.w) X.A (call (.builtin id) (v::us)) (EP X pins O Q) X.xe s
def Vals.one{x:V}(h:Vals [x] us):∃u,us=[u]/\RelV x u:=by
 cases h with|cons r h=>cases h;exact⟨_,rfl,r⟩
theorem Vals.two:∀{x y:V}{us:AAL},Vals [x,y] us->∃u v,us=[u,v]/\RelV x u/\RelV y v
 |_,_,_,.cons r (.cons q .nil)=>⟨_,_,rfl,r,q⟩
theorem Vals.zero:∀{us:AAL},Vals [] us->us=[]
 |_,.nil=>rfl
def Vals.reverse{xs:List V}{us:AAL}(h:Vals xs us):Vals xs.reverse us.reverse:=by
 induction h with
 |nil=>exact .nil
 |cons r t ih=>rw[afP,afP];exact Vals.append ih (.cons r .nil)
theorem Vals.rep{xs:List V}{us:AAL}(h:Vals xs us):∀k:Nat,Vals (List.replicate k xs).flatten (List.replicate k us).flatten
 |0=>.nil
 |k+1=>by
  rw[abQ,abQ,acS,acS];exact Vals.append h (Vals.rep h k)
theorem foldl_rep(its:AAL):∀(k:Nat)(acc:AAL),
  List.foldl (λx1 x2=>x1++x2) acc.toArray (List.replicate k its.toArray)=(acc++(List.replicate k its).flatten).toArray
 |0,acc=>by simp
 |k+1,acc=>by
  have e:acc.toArray++its.toArray=(acc++its).toArray:=by simp
  have e2:(acc++its)++(List.replicate k its).flatten=acc++(List.replicate (k+1) its).flatten:=by
   rw[abQ,acS,adT]
  rw[<-e2,<-foldl_rep its k (acc++its),<-e,abQ,List.foldl_cons]
section
variable {X:Cx}{pins:AAG}{O:St}{H:Hp}{s:Shared}{l:Addr}{xs ys:List V}
def Inv.UW{f:Array Value->Array Value}{t':Nat}(I:Inv X pins O H s)(hH:H l=some (.lst xs))
  (e:s.heap.get? l=some {cls:=.type "list",data:=.seq its.toArray n})(hf:f its.toArray=its'.toArray)(hv:Vals ys its')(hz:ys.length<=sizeLine):
  Inv X pins O (upd H l (.lst ys)) {s with heap:=s.heap.update l (Obj.mapSeq f),toks:=t'}:=by
 have q:=PySem.IsL.update e f;rw[hf]at q;refine I.write (x:=l) (e:=l) (by rw[hH];exact trivial) (.inl rfl) (λb' u hb hu=>(aaH s.heap (Obj.mapSeq f) (abO hb)).trans hu) ⟨_,q⟩ ?_;exact⟨hz,its',_,hv,q⟩
def Inv.Yr{t':Nat}(I:Inv X pins O H s)(hv:Vals ys its)(hz:ys.length<=sizeLine):
  Inv X pins O (upd H s.heap.objs.size (.lst ys)) {s with heap:=s.heap.push {cls:=.type "list",data:=.seq its.toArray},toks:=t'}:=
 I.laid (λ_ _ q=>aam _ q) (aaq _) ⟨hz,its,0,hv,aas _ rfl⟩
def Inv.fresh(I:Inv X pins O H s):H s.heap.objs.size=none:=I.hok.fresh (aaq _)
def Inv.Ez(I:Inv X pins O H s)(hH:H l=some (.lst xs)):xs.length<=sizeLine/\∃(its:AAL)(n:Nat),Vals xs its/\xs.length=its.length/\s.heap.get? l=some {cls:=.type "list",data:=.seq its.toArray n}:=by
 obtain⟨z,its,n,r,e⟩:=I.hok l _ hH;exact⟨z,its,n,r,r.length,e⟩
def EA(h:n<=sizeLine):Builtin.List.listTooLong n=false:=by
 unfold Builtin.List.listTooLong;exact ab6 (by lia)
end
section
variable {X:Cx}
def IX:V->List V->Hp->VK->Prop:=λx vs H Q=>∃l xs y,x= .ref l/\vs=[y]/\H l=some (.lst xs)/\xs.length<sizeLine/\Q .cD (upd H l (.lst (xs++[y])))
def tu:MtM X "list.append" IX:=by
 intro pins s O H x vs v us Q I rx rv h;obtain⟨l,xs,y,rfl,rfl,hH,hz,q⟩:=h;cases rx;obtain⟨u,rfl,ru⟩:=rv.one;obtain⟨z,its,n,r,hl,e⟩:=I.Ez hH;refine aeS F.slot_list_append ⟨_,e,rfl⟩ F.entry_list_append (F.args_list_append_2 _ _) (PySem.list_append l its.toArray n u (by rw[aao];lia)) ⟨e,?_⟩;refine⟨.cD,_,I.UW (its':=its++[u]) hH e (by simp) (r.append (.cons ru .nil)) ?_,rfl,q⟩;rw[aaG,acE];lia
def EB:V->List V->Hp->VK->Prop:=λx vs H Q=>∃l xs,x= .ref l/\vs=[]/\H l=some (.lst xs)/\Q .cD (upd H l (.lst xs.reverse))
def G2:MtM X "list.reverse" EB:=by
 intro pins s O H x vs v us Q I rx rv h;obtain⟨l,xs,rfl,rfl,hH,q⟩:=h;cases rx;have Ys:=rv.zero;subst Ys;obtain⟨z,its,n,r,hl,e⟩:=I.Ez hH;refine aeS F.slot_list_reverse ⟨_,e,rfl⟩ F.entry_list_reverse (F.args_list_reverse_1 _) (AutoSeq1.list_reverse_list_0 l its.toArray n (by rw[aao];lia)) ⟨e,?_⟩;refine⟨.cD,_,I.UW (its':=its.reverse) hH e (by simp) r.reverse ?_,rfl,q⟩;rw[agg];lia
def len_rep{α:Type}(xs:List α)(k:Nat):(List.replicate k xs).flatten.length=k*xs.length:=by
 induction k with
 |zero=>simp
 |succ k ih=>rw[abQ,acS,aaG,ih,Nat.succ_mul,Nat.add_comm]
end
end L2
namespace Att
open PySem PySem.W PySem.Calls PyProof.Rows
def yT{P:Params}{h:Heap}:∀(ns:BBD)(vs:AAL),WellAll P h vs (ns.map WData.int)->IntsAre vs ns:=by
 intro ns
 induction ns with
 |nil=>
  intro vs w;rw[List.map_nil]at w;cases w;exact .nil
 |cons n ns ih=>
  intro vs w;rw[abR]at w;cases w with
  |cons a b=>
   cases a;exact .cons _ _ (ih _ b)
def KH{l:OpenLaw}{n:Nat}(hn:l.most=some n){P:Params}{h:Heap}{args:List WData}{vals:AAL}
  (hpre:l.row.toRowW.claim.pre args=true)(hwl:WellAll P h vals args):
  ∃a vs ns,vals=[Value.ref a]/\args=[WData.list (ns.map WData.int)]/\h.get? a=some {cls:=.type "list",data:=.seq vs.toArray}/\IntsAre vs ns/\ns.length<=n:=by
 have hsh:WShape.hasAll [] args [.list .int]=true:=(pre_splitW hpre).1;have hc:l.pre.holds [] {args:=args}=true:=(pre_splitW hpre).2;obtain⟨d,r,rfl,h1,h2⟩:=hasAllW_cons hsh;obtain rfl:=hasAllW_nil h2;obtain⟨xs,rfl,h3⟩:=hasW_list h1;obtain⟨ns,rfl⟩:=items_int h3;have hlen:ns.length<=n:=by
  unfold OpenLaw.pre at hc;have h4:(WTm.not (.lt (.lit (.int (n:Int))) (.len (.arg 0)))).holds [] {args:=[.list (ns.map .int)]}=true:=by
   have h4:=(holds_andW hc).1;rw[hn]at h4;exact h4
  have h5:=condW_of h4 (w_not (w_lt w_lit (w_len_list (w_arg rfl))));rw[aaw]at h5;refine Nat.le_of_not_lt λq=>?_;have q':(n:Int)<((ns.length:Nat):Int):=by lia
  first
   |(rw[acY q']at h5;exact absurd h5 (by decide))
   |(simp at h5;lia)
 cases hwl with
 |cons w1 w2=>
  cases w2;cases w1 with
  |list ho hall=>exact⟨_,_,ns,rfl,rfl,ho,yT ns _ hall,hlen⟩
def KJ(l:OpenLaw)(args:List WData):l.row.toRowW.claim.post args (.bool true) args=true:=
 postW_of (r:=l.row.toRowW) (X:=(true == true))
  (show WShape.has [] (.bool true) .bool=true by first|rfl|decide|simp[WShape.has,WShape.arms,WShape.armsAll])
  (show(WTm.eq .res (.lit (.bool true))).value [] {args:=args,res:=some (.bool true),after:=args}=some (.bool (true == true)) from w_eq_bool (w_res rfl) w_lit) rfl
def EC{l:OpenLaw}{n:Nat}{q:Program}{loose:BBB}{XP:(Str->BBP)->Heap->Prop}{YP:World->Heap->Prop}{d:DefRec}
  (hn:l.most=some n)(hdf:d.params.defaults=[])
  (call:∀(w:World)(s₀ s₁:Shared)(mg mb:AAF)(fa:Addr)(o:Obj)(pm cd doc:Value)(a:Addr)(vs:AAL)(ns:BBD),
   Ground q loose [] XP w s₀ mg mb s₁.heap->YP w s₁.heap->
   s₁.heap.get? fa=some o->o.data= .func (docDef d.name d.params d.body d.scope pm cd doc)->s₁.heap.CodeRec cd d.name->mg d.name=some (.ref fa)->
   s₁.heap.get? a=some {cls:=.type "list",data:=.seq vs.toArray}->IntsAre vs ns->ns.length<=n->s₁.gens=#[]->
   codeAny (model l.prog w) callerA (.call (.ref fa) ⟨[.ref a],[]⟩) (λr s'=>r= .ok (.ret (.bool true))/\OldK s₁.heap s'.heap/\s'.os=s₁.os/\AllBare s'.gens) s₁):
  WalkO q loose XP YP l.row.toRowW d [] (λf vs=>PySem.call f vs):=by
 intro w s₀ s₁ mg mb G Y fa o pm cd doc dV kV ho hd hcd hD hmg hg args vals as hpre hlay hrd hwl hlo;obtain rfl:dV= .none:=Dflts.none hD hdf;obtain rfl:kV= .none:=Dflts.noKw hD;obtain⟨a,vs,ns,rfl,rfl,hobj,hints,hlen⟩:=KH hn hpre hwl;refine enter_call (aeH (call w s₀ s₁ mg mb fa o pm cd doc a vs ns G Y ho (fd_plain hd) hcd hmg hobj hints hlen hg) λr s' hq=>?_);obtain⟨rfl,h2,h3,h4⟩:=hq;exact⟨.inl ⟨.bool true,.bool true,[],rfl,λ_=>rfl,.bool true,KJ l _,λ_=>⟨List.Pairwise.nil,λ_ hm=>(nomatch hm)⟩⟩,h2,h3,h4⟩
end Att
namespace L2
open PySem PySem.Spec PyProof.Rows
variable {vs:List V}{ns:BBD}{P:Program}{w:World}{K:AAD}{k:Nat}{fd:FuncData}{x qual:Str}{tabs:List (Addr×Addr)}{X:Cx}{st:Stmt}{ps cI:BBB}{H:Hp}{tc:TT}{pins:AAG}{O:St}{cap:BBJ}{scope:Scope}{cl:List (Str×Addr)}{elt iter:Expr}{ifs:BBC}{pos pos2 px:Pos}{wi:TI}{te:TE}{use:Option (Value->Sem Unit)}{Qf:AAE}{ds:List D}
def KL{vs:AAL}(h:IntsAre vs ns):Vals (ns.map V.int) vs:=by
 induction h with
 |nil=>exact .nil
 |cons n t _ ih=>exact .cons ⟨t,rfl⟩ ih
def Qu(H:Hp):Prop:=∀b,H b=none\/(∃o xs,H b=some (.kg o (.lst xs)))\/H b=some (.Gv El)
def MY{mg mb:AAF}{CX:Ky}{fa a:Addr}{sp:Sp}{s₁:Shared}{vs:AAL}
  (KX:K.In s₁.heap)(hT:PySem.W.TabsAt tabs s₁.heap)(hK:∀p∈tabs,K.lookup p.2=none)(hns:s₁.heap.Ns mainGlobals mg)(hb:s₁.heap.Ns builtinsNs mb)(hbb:∀x:Str,x≠"__name__"->mb x=bootBuiltins x)(hlim:s₁.heap.NoLimit)(hbm:BMn s₁.heap mg)(hg:s₁.gens=#[])
  (ha:s₁.heap.get? a=some {cls:=.type "list",data:=.seq vs.toArray})(hi:IntsAre vs ns)(hl:ns.length<=sizeLine)(hr:c7 k callerA)
  (F:∀base:Heap,K.In base->base.Ns mainGlobals mg->base.life.ids=tabs->fV P w K mg base CX k fa fd [x] sp)(hbind:∀(s:Shared)(u:Value),BindsTo s fd ⟨[u],[]⟩ [(x,u)])
  (Py:∀H:Hp,Qu H->oW K H a (ns.map V.int)->sp [.ref a] H (λv _=>v= .bl true) λ_ _ _=>False)
  (hCX:∀H e s',CX [] H s₁ (λ_ _ _=>False) e s'->False):
  codeAny (model P w) callerA (.call (.ref fa) ⟨[.ref a],[]⟩) (λr s'=>r= .ok (.ret (.bool true))/\OldK s₁.heap s'.heap/\s'.os=s₁.os/\AllBare s'.gens) s₁:=by
 have rv:=KL hi;have lenV:=hi.length;have nta:∀p∈tabs,p.2≠a:=λp hp e=>by
  have q:=(hT p hp).2;rw[e,ha]at q;cases q
 have core:∀H:Hp,Qu H->oW K H a (ns.map V.int)->nY P w H s₁.heap->(∀b,H b≠none->b=a\/∃p∈tabs,p.2=b)->(∀p∈tabs,H p.2=some (.Gv El))->(H a≠none->K.lookup a=none)->
   codeAny (model P w) callerA (.call (.ref fa) ⟨[.ref a],[]⟩) (λr s'=>r= .ok (.ret (.bool true))/\OldK s₁.heap s'.heap/\s'.os=s₁.os/\AllBare s'.gens) s₁:=by
  intro H hO hS hok hA hTb hK';have C2:∀{b:Addr}{o:Obj},s₁.heap.get? b=some o->H b=none->(By s₁.heap H tabs).get? b=some o:=λe n=>Mv e n;have Yb:∀{b:Addr}{o:Obj}{es:Array DictEntry}{ep:Nat},s₁.heap.get? b=some o->o.data= .dict es ep->H b=none:=λ{b o es ep} e d=>by
   cases q:H b with
   |none=>rfl
   |some u=>
    rcases hA b (by rw[q];simp) with rfl|⟨p,hp,rfl⟩
    .rw[ha]at e;cases e;cases(show Data.seq vs.toArray _=Data.dict es ep from d)
    .rw[(hT p hp).2]at e;cases e;cases(show Data.fields #[]=Data.dict es ep from d)
  have nsK:∀{b:Addr}{m:AAF},s₁.heap.Ns b m->(By s₁.heap H tabs).Ns b m:=λ{b m} ⟨o,es,ep,e,d,r⟩=>⟨o,es,ep,C2 e (Yb e d),d,r⟩
  have hKb:K.In (By s₁.heap H tabs):=λb o e=>C2 (KX b o e) (by
   cases q:H b with
   |none=>rfl
   |some u=>
    rcases hA b (by rw[q];simp) with rfl|⟨p,hp,rfl⟩
    .rw[hK' (by rw[q];simp)]at e;cases e
    .rw[hK p hp]at e;cases e)
  have acg:BMn (By s₁.heap H tabs) mg:=by
   obtain⟨bm,ob,b1,b2,b3,b4,b5⟩:=hbm;refine⟨bm,ob,b1,b2,C2 b3 ?_,b4,b5⟩;cases q:H bm with
   |none=>rfl
   |some u=>
    rcases hA bm (by rw[q];simp) with rfl|⟨p,hp,rfl⟩
    .rw[ha]at b3;cases b3;injection b4 with e;exact absurd e (by decide)
    .rw[(hT p hp).2]at b3;cases b3;cases b4
  have hM:Mod K mg (By s₁.heap H tabs):=⟨hKb,nsK hns,⟨mb,nsK hb,hbb⟩,let⟨mc,h1,h2⟩:=hlim;⟨mc,nsK h1,h2⟩,acg⟩
  have e0:GV P w K mg (By s₁.heap H tabs) callerA [] s₁ H:=⟨rfl,hM,λb o e=>PN e,Nat.le_of_eq (Kn _ _),trivial,λb hb=>absurd (show b∈([]:BBE) from hb) (by simp),hok,.of_eq hg,hTb⟩
  refine aeH ((F _ hKb (nsK hns) rfl).run callerA [] s₁ H ⟨[.ref a],[]⟩ [.ref a] [.ref a] _ _ hr e0 (hbind s₁ (.ref a)) (.cons rfl .nil) (Py H hO hS)) λr s' h=>?_;cases r with
  |error e=>exact(hCX H e s' h).elim
  |ok fl=>
   cases fl with
   |next=>exact False.elim h
   |brk=>exact False.elim h
   |cont=>exact False.elim h
   |ret u=>
    obtain⟨v,H',os,bare,un,Yt,r',q⟩:=h;have q':v= .bl true:=q;subst q';obtain rfl:u=Value.bool true:=r';have all:∀b o,s₁.heap.get? b=some o->s'.heap.get? b=some o\/(isCodeTable s₁.heap b/\o={cls:=.none,data:=.fields #[]}/\∃ps,s'.heap.get? b=some {cls:=.none,data:=.fields ps}):=λb o e=>by
     rcases hO b with z|⟨ob,xs,z⟩|z
     .exact .inl (un.keep b o e z (by intro z;exact absurd (show b∈([]:BBE) from z) (by simp)) (by simp))
     .have z2:=un.vH b ob _ z;obtain⟨e1,_⟩:=hok b _ z;obtain⟨e2,_⟩:=Yt b _ z2;rw[e]at e1;cases e1;exact .inl e2
     .obtain⟨ps,e2,_⟩:=Yt b _ (un.wQ b _ z);rcases hA b (by rw[z];simp) with rfl|⟨p,hp,rfl⟩
      .obtain⟨_,e1,_⟩:=hok b _ z;rw[ha]at e1;cases e1
      .have e1:=(hT p hp).2;rw[e]at e1;cases e1;exact .inr ⟨((hT p hp).1.tab (hT p hp).2).isCodeTable,rfl,ps,e2⟩
    refine⟨rfl,⟨λb o e=>?_,λb o e=>?_⟩,os,bare⟩
    .rcases all b o e with z|⟨z,rfl,ps,y⟩
     .exact .inl z
     .exact .inr (.inl ⟨z,rfl,#[],ps,rfl,by rw[Array.empty_append];exact y⟩)
    .rcases all b o e with z|⟨z,rfl,ps,y⟩
     .exact⟨_,z⟩
     .exact⟨_,y⟩
 have Tg:∀H p,p∈tabs->cR P w H s₁.heap p.2 (.Gv El):=λH p hp=>⟨#[],(hT p hp).2,trivial,λpos cv e=>by cases e⟩
 cases hk:K.lookup a with
 |some o=>
  have e:=KX a o hk;rw[ha]at e;cases e;refine core (λb=>if ∃p∈tabs,p.2=b then some (.Gv El) else none) (λb=>?_) (.inr ⟨_,vs.toArray,_,hk,rfl,rfl,rfl,by rw[aao,lenV];exact hl,by simpa using rv⟩) (λb u z=>?_) (λb z=>?_) (λp hp=>if_pos ⟨p,hp,rfl⟩) λz=>absurd (if_neg λ⟨p,hp,e⟩=>nta p hp e) z
  .by_cases hb:∃p∈tabs,p.2=b
   .exact .inr (.inr (if_pos hb))
   .exact .inl (if_neg hb)
  .by_cases hb:∃p∈tabs,p.2=b
   .have z':=(if_pos hb).symm.trans z;cases z';obtain⟨p,hp,rfl⟩:=hb;exact Tg _ p hp
   .have z':=(if_neg hb).symm.trans z;cases z'
  .by_cases hb:∃p∈tabs,p.2=b
   .exact .inr hb
   .exact absurd (if_neg hb) z
 |none=>
  refine core (λb=>if b=a then some (.kg {cls:=.type "list",data:=.seq vs.toArray} (.lst (ns.map V.int))) else if ∃p∈tabs,p.2=b then some (.Gv El) else none) (λb=>?_) (.inl (.inr ⟨{cls:=.type "list",data:=.seq vs.toArray},if_pos rfl⟩)) (λb u z=>?_) (λb z=>?_) (λp hp=>?_) λ_=>hk
  .by_cases hb:b=a
   .exact .inr (.inl ⟨_,_,if_pos hb⟩)
   .by_cases hp:∃p∈tabs,p.2=b
    .exact .inr (.inr ((if_neg hb).trans (if_pos hp)))
    .exact .inl ((if_neg hb).trans (if_neg hp))
  .by_cases hb:b=a
   .have z':=(if_pos hb).symm.trans z;cases z';subst hb;exact⟨ha,by rw[aaw];exact hl,vs,_,rv,ha⟩
   .have z':=(if_neg hb).symm.trans z;by_cases hp:∃p∈tabs,p.2=b
    .have z':=(if_pos hp).symm.trans z';cases z';obtain⟨p,hp,rfl⟩:=hp;exact Tg _ p hp
    .have z':=(if_neg hp).symm.trans z';cases z'
  .by_cases hb:b=a
   .exact .inl hb
   .by_cases hp:∃p∈tabs,p.2=b
    .exact .inr hp
    .exact absurd ((if_neg hb).trans (if_neg hp)) z
  .exact(if_neg (nta p hp)).trans (if_pos ⟨p,hp,rfl⟩)
noncomputable abbrev KOf{K:AAD}{h:Heap}(_:K.In h):PySem.W.Frag:=K
def Qv{l:PySem.W.OpenLaw}{n:Nat}{q:Program}{loose:BBB}{XP:(Str->BBP)->Heap->Prop}{YP:World->Heap->Prop}{d:DefRec}{K:Params->PySem.W.Frag}{CX:World->Ky}{sp:World->Sp}
  (hn:l.most=some n)(hn2:n<=sizeLine)(hdf:d.params.defaults=[])(hr:c7 k callerA)
  (hY:∀(w:World)(h:Heap),YP w h->(K w.params).In h/\PySem.W.TabsAt tabs h/\∀p∈tabs,(K w.params).lookup p.2=none)
  (F:∀(w:World)(mg:AAF)(fa:Addr)(h:Heap),(K w.params).In h->h.Ns mainGlobals mg->mg d.name=some (.ref fa)->
   ∃fd:FuncData,(∀(s:Shared)(u:Value),BindsTo s fd ⟨[u],[]⟩ [(x,u)])/\
    ∀base:Heap,(K w.params).In base->base.Ns mainGlobals mg->base.life.ids=tabs->fV l.prog w (K w.params) mg base (CX w) k fa fd [x] (sp w))
  (Py:∀(w:World)(H:Hp)(a:Addr)(ns:BBD),ns.length<=n->Qu H->oW (K w.params) H a (ns.map V.int)->sp w [.ref a] H (λv _=>v= .bl true) λ_ _ _=>False)
  (hCX:∀(w:World)(H:Hp)(s:Shared)(e:Value)(s':Shared),CX w [] H s (λ_ _ _=>False) e s'->False):
  PySem.W.WalkO q loose XP YP l.row.toRowW d [] (λf vs=>PySem.call f vs):=by
 refine Att.EC hn hdf λw s₀ s₁ mg mb fa o pm cd doc a vs ns G Y ho hd hcd hmg hobj hints hlen hg=>?_;obtain⟨KX,hT,hK⟩:=hY w _ Y;obtain⟨fd,hb,hF⟩:=F w mg fa _ KX G.T.g hmg;exact MY KX hT hK G.T.g G.T.b G.T.builtins G.T.nolimit G.T.bmain hg hobj hints (aaC hlen hn2) hr hF hb (λH hO hS=>Py w H a ns hlen hO hS) λH e s'=>hCX w H s₁ e s'
noncomputable def lz(s:Stmt):Arguments:=match s with
 |.FunctionDef _ a _ _ _ _ _ _ _ _=>a
 |_=>{posonlyargs:=[],args:=[],vararg:=none,kwonlyargs:=[],kw_defaults:=[],kwarg:=none,defaults:=[]}
noncomputable def dc(s:Stmt):BBH:=match s with
 |.FunctionDef _ _ b _ _ _ _ _ _ _=>b
 |_=>[]
noncomputable def aD(s:Stmt):Scope:=match s with
 |.FunctionDef _ _ _ _ _ _ sc _ _ _=>sc
 |_=>{kind:=.function,names:=[],isGenerator:=false,isCoroutine:=false}
noncomputable abbrev wM:Ky:=λ_ _ _ _ _ _=>False
noncomputable abbrev E0:XK:=λ_ _ _=>False
def IY :Passes wM X E0:=λ_ _ _ _ _ _ _ h=>h.elim
structure IZ(K:AAD)(x qual:Str)(st:Stmt)(f:Addr)(fd:FuncData):Prop where
 ex:∃(oc:Value)(od:BBN)(kV doc pm:Value)(an:BBN)(cdv ct:Value)(osl:Array (BBP)),
  fd=PySem.W.fnOf x qual (lz st) (dc st) (aD st) .none kV doc pm an cdv ct/\K.lookup f=some ⟨oc,od,.func fd,osl⟩/\PySem.W.codeIn K cdv qual=true
 kp:PySem.W.keepIn K (.ref f)=true
section
variable {P:Program}{w:World}{K:AAD}{mg:AAF}{base:Heap}
def IZ.ok{f:Addr}{N:BBB}{sp:Sp}(F:IZ K x qual st f fd)(S:bq N ps (aD st))(len:∀vs H Q E,sp vs H Q E->vs.length=ps.length)
  (hbody:∀(cdv:Value)(A:Around)(outer:BBF)(s:Shared)(H:Hp)(vs:List V)(Q:VK)(E:XK),c7 k (A.deeper (envOfC qual (aD st) s.heap.objs.size f cdv))->sp vs H Q E->
   ∃t,CT (uO wM P w K mg base N qual (aD st) f cdv A outer s H E).Ma (dc st) t/\t {nx:=λ_ H'=>Q .cD H',rt:=Q} (start N vs) H):fV P w K mg base wM (k+1) f fd ps sp:=by
 obtain⟨oc,od,kV,doc,pm,an,cdv,ct,osl,rfl,lk,hcd⟩:=F.ex;refine S9 lk hcd S len λA outer s H vs Q E hr Py=>?_;obtain⟨t,h,q⟩:=hbody cdv A outer s H vs Q E hr Py;exact⟨t,h.Ma,q⟩
def IZ.binds{f:Addr}(F:IZ K x qual st f fd)
  (h:∀(kV doc pm:Value)(an:BBN)(cdv ct:Value)(us:AAL),us.length=ps.length->bindArgs (PySem.W.fnOf x qual (lz st) (dc st) (aD st) .none kV doc pm an cdv ct) ⟨us,[]⟩=pure (ps.zip us)):Binds K fd ps []:=by
 obtain⟨oc,od,kV,doc,pm,an,cdv,ct,osl,rfl,lk,hcd⟩:=F.ex;exact .all (h kV doc pm an cdv ct)
def G3{f:Addr}{oc:Value}{od an:BBN}{osl:Array (BBP)}{kV doc pm cdv ct:Value}(l:K.lookup f=some ⟨oc,od,.func (PySem.W.fnOf x qual (lz st) (dc st) (aD st) .none kV doc pm an cdv ct),osl⟩)
  (c:PySem.W.codeIn K cdv qual=true)(k:PySem.W.keepIn K (.ref f)=true):IZ K x qual st f (PySem.W.fnOf x qual (lz st) (dc st) (aD st) .none kV doc pm an cdv ct):=⟨⟨oc,od,kV,doc,pm,an,cdv,ct,osl,rfl,l,c⟩,k⟩
end
def ED{A:Around}(hr:c7 k A):A.units+20<cLine:=agk (Nat.add_le_add_left (by decide:20<=64) _) hr.units
section
variable {X:Cx}
def KN:fU X (.builtin "len") (λxs H Q=>∃a kvs,xs=[V.ref a]/\H a=some (.dK kvs)/\Q (.int kvs.length) H):=by
 intro pins s O H xs us Q I r h;obtain⟨a,kvs,rfl,ha,q⟩:=h;obtain⟨u,rfl,ru⟩:=vals1 r;cases ru;exact Yc I (.inl ha) λt s' I'=>⟨.int kvs.length,H,I',⟨t,rfl⟩,q⟩
end
def G4{A B:Prop}(h:B):if false=true then A else B:=by
 rw[if_neg acZ];exact h
def G5{A B:Prop}(h:A):if true=true then A else B:=by
 rw[if_pos rfl];exact h
def nY.Yu{h:Heap}{a:Addr}{o:HO}(x:nY P w H h)(hn:H a=none)(new:cR P w (upd H a o) h a o):nY P w (upd H a o) h:=λb u e=>by
 by_cases hb:b=a
 .subst hb;rw[aZ]at e;cases e;exact new
 .rw[aR hb]at e;exact(x b u e).stay (λc v _ q=>q) (λc q=>by rw[aR (bJ q hn)];exact q) (λc xs q=>by rw[aR (bJ q hn)];exact q) λc xs y q=>by rw[aR (bJ q hn)];exact q
noncomputable def d9(X:Cx)(N':BBB)(scope:Scope)(cl:List (Str×Addr))(C:Addr)(s:Shared)(H:Hp)(fp:BBE):Cx:=
 {X with N:=N',s₀:=s,H₀:=H,env:=compEnvC scope cl C X.env,outer:=X.stack,stack:=X.stack,ex:=fp,fn:=λ_=>false,pn:=[],xe:=λ_ _=>False}
noncomputable def ki(cap:BBJ)(O:St):St:=cap.map λi=>(O[i]?).join
structure fK(X:Cx)(x:Str)(cI:BBB)(cap:BBJ)(scope:Scope)(cl:List (Str×Addr)):Prop where
 clos:closureFor scope X.env=pure cl
 lR:∀y∈scope.names,y.2≠.cell
 kind:scope.kind= .function
 names:∀y∈scope.names,y.2= .local->scope.names.lookup y.1=some .local
 loc:scope.names.lookup x=some .local
 cells:∀n c,cl.lookup n=some c->X.env.cells.lookup n=some c
 has:∀n,((relabel scope X.env).names.lookup n=some .cell\/(relabel scope X.env).names.lookup n=some .free)->∃c,cl.lookup n=some c
 nd:(x::cI).Nodup
 len:cap.length=cI.length
 slot:∀(j:Nat) n,cI[j]? =some n->∃i:Nat,cap[j]? =some i/\X.N[i]? =some n/\wR X.env.scope n
 vis:∀n,n∈cI->((relabel scope X.env).names.lookup n=some .cell\/(relabel scope X.env).names.lookup n=some .free)/\(∃c,cl.lookup n=some c)/\X.env.scope.names.lookup n≠some .local
def W0(wi:TI)(cap:BBJ)(tc:TT)(te:TE):TE:=λO H Q=>wi O H λJ H1=>∃W:Nat->Nat->List V->Hp->Prop,(∃m,W 0 m [] H1)/\∀i m ys H,W i m ys H->ys.length<sizeLine/\
  ((J.stop i H/\∀p,H p=none->Q (.ref p) (upd H p (.lst ys)))\/
   (J.go i H/\∀x H',J.S5 i H x H'->tc (some x::ki cap O) H' λb H2=>if b=true then te (some x::ki cap O) H2 λy H3=>∃m',m' < m/\W (i+1) m' (ys++[y]) H3 else ∃m',m' < m/\W (i+1) m' ys H2))
def ach:TT:=λ_ H Q=>Q true H
def Th(X:Cx)(ifs:BBC)(tc:TT):Prop:=
 ∀(pins:AAG)(s:Shared)(O:St)(H:Hp)(Q:Bool->Hp->Prop),Inv X pins O H s->tc O H Q->
  wpAny (model X.prog X.w) X.A (forIn ifs true λc r=>if r=true then do let ok <-isTrue c X.env (eval c X.env);pure (ForInStep.yield ok) else pure (ForInStep.yield r)) (TP X pins O Q) X.xe s
def Qw :Th X [] ach:=λpins s O H Q I h=>wpAny_tests_nil ⟨H,I,h⟩
def Qx{c:Expr}(h:PT X c tc):Th X [c] tc:=λpins s O H Q I q=>wpAny_tests_one (h pins s O H Q I q)
def UX(ys:AAL)(y:Value):({cls:=.type "list",data:=.seq (ys.toArray.push y) (ys.length+1)}:Obj)={cls:=.type "list",data:=.seq (ys++[y]).toArray (ys++[y]).length}:=by
 rw[aaG,acE,List.push_toArray]
def MZ{s s4:Shared}{C:Addr}{fp:BBE}{m':AAF}
  (I:Inv X pins O H s)(T:fK X x cI cap scope cl)(hfp:∀b∈fp,nZ X pins H b)(hfo:∀b∈fp,∃o,s.heap.get? b=some o)
  (hC:s.heap.objs.size<=C)(hns:s4.heap.Ns C m')(hos:s4.os=s.os)(hg:s4.gens=s.gens)
  (kept:∀b o,s.heap.get? b=some o->s4.heap.get? b=some o):
  Inv (d9 X (x::cI) scope cl C s H fp) [] (none::ki cap O) H s4:=by
 have fr:∀b,s.heap.objs.size<=b->H b=none:=λb hb=>I.hok.fresh hb;refine⟨⟨I.ok.mod,T.kind,I.ok.glob,I.ok.blt,hC,λy z c h1 h2=>I.ok.inj y z c (T.cells _ _ h1) (T.cells _ _ h2),λy hy=>T.has y hy,λy c h=>(by cases h),I.ok.hd,I.ok.frames,.inl rfl,λb hb=>⟨?_,λy c e z=>?_⟩,I.bs,aaC I.ok.L8 I.sz,λb o e hb=>?_,λb hb z=>?_,I.stack,I.sZ,I.tab⟩,
  hos,by rw[hg];exact I.bare,Un.kept kept,⟨m',hns,λi y v h1 h2 h3=>?_⟩,λy c h=>?_,fr C hC,λy c h=>(I.mO y c (T.cells _ _ h)).imp_right λz=>⟨rfl,z.2⟩,λp hp=>?_,I.hok.kept kept,?_⟩
 .obtain⟨o,e⟩:=hfo b hb;exact aaD (aax (aap e) hC)
 .exact(hfp b hb).2.2.2.2.1 y c (T.cells _ _ e) z
 .rcases(hfp b hb).2.2.2.1 with z|z
  .exact I.ok.Em b o e z
  .exact absurd (aax (aap e) (aaC I.ok.L8 z)) (ack _)
 .rcases aat.mp (I.CS b z) with q|q
  .exact(hfp b hb).2.1 q
  .exact(hfp b hb).2.2.1 q
 .cases i with
  |zero=>cases h2
  |succ j=>
   have h1:cI[j]? =some y:=by simpa[d9] using h1
   have h2:(ki cap O)[j]? =some (some v):=by simpa using h2
   obtain⟨i,e1,e2,e3⟩:=T.slot j y h1;have e4:O[i]? =some (some v):=by
    unfold ki at h2;rw[abx,e1]at h2;have h2:some ((O[i]?).join)=some (some v):=h2;have h2:=abv h2;cases q:O[i]? with
    |none=>rw[q]at h2;cases h2
    |some o=>rw[q]at h2;cases h2;rfl
   obtain⟨m,hn,hl⟩:=I.loc;obtain⟨u,r,l⟩:=hl i y v e2 e4 e3;obtain⟨k1,⟨c,hc⟩,k3⟩:=T.vis y (adQ h1);refine⟨u,r,.inr ⟨k1,c,hc,?_⟩⟩;rcases l with⟨hk,_⟩|⟨hk,c',hc',z⟩
   .exact absurd hk k3
   .rw[T.cells _ _ hc]at hc';cases hc';obtain⟨o,ho,hd⟩:=z;exact⟨o,kept _ _ ho,hd⟩
 .obtain⟨v,o,ho,hd⟩:=I.cell y c (T.cells _ _ h);exact⟨v,o,kept _ _ ho,hd⟩
 .exact absurd (show p∈([]:AAG) from hp) (by simp)
 .show(none::ki cap O).length=(x::cI).length;simp[ki,T.len]
def wY(P:Program)(w:World)(A:Around)(env:Env)(R:Result->Shared->Prop):Value->Shared->Prop:=notedBy (model P w) A env λe s'=>R (.error e) s'
theorem C3{A:Around}{R:Result->Shared->Prop}{s:Shared}{tg:Expr}{it acc:Value}{env:Env}(J:Nat->Shared->Prop)
  (turn:∀n s,J n s->wpAny (model P w) A (pyNext it) (λr s1=>match r with
   |none=>R (.ok .next) s1
   |some v=>wpAny (model P w) A (letOwnedTupleGo tg it v) (λ_ s1=>wpAny (model P w) A (assign tg env v) (λ_ s2=>
     wpAny (model P w) A (forIn ifs true λc r=>if r=true then do let ok <-isTrue c env (eval c env);pure (ForInStep.yield ok) else pure (ForInStep.yield r)) (λok s3=>
      if ok=true then wpAny (model P w) A (eval elt env) (λx s4=>wpAny (model P w) A (call (.builtin "list.append") [acc,x]) (λ_ s5=>∃m,m<n/\J m s5) (wY P w A env R) s4) (wY P w A env R) s3
      else ∃m,m<n/\J m s3) (wY P w A env R) s2) (wY P w A env R) s1) (wY P w A env R) s1) (wY P w A env R) s)
  (n:Nat)(h:J n s):codeAny (model P w) A (.compLoop (.ListComp elt [⟨tg,iter,ifs,0⟩] scope pos) 0 it acc env) R s:=by
 refine codeAny_loop rfl J (λn s hJ=>?_) n h;show wpAny _ A ((compTurn (.ListComp elt [⟨tg,iter,ifs,0⟩] scope pos) 0 it acc env).onRaise (λx=>do noteFrame x env;theTreesLotGoes x)) _ _ s;refine wpAny_noted ?_;rw[compTurn_list];refine aal (afV (aal (aaB (turn n s hJ) (λr s1 k1=>?_) λ_ _ z=>z)));cases r with
 |none=>exact aan k1
 |some v=>
  refine aal (aaB k1 (λ_ s1 k1=>?_) λ_ _ z=>z);refine aal (aaB k1 (λ_ s2 k2=>aal (aaB k2 (λok s3 k3=>?_) λ_ _ z=>z)) λ_ _ z=>z);cases ok with
  |false=>exact aan ⟨rfl,k3⟩
  |true=>exact aal (aal (aaB k3 (λx s4 k4=>aal (aaB k4 (λ_ s5 k5=>aan (aan ⟨rfl,k5⟩)) λ_ _ z=>z)) λ_ _ z=>z))
inductive CompI(Y:Cx)(Z:St->Prop)(tn:Nat->Heap->Prop)(fp:BBE)(D:Addr)(W:Nat->Nat->List V->Hp->Prop)(n:Nat)(s':Shared):Prop
 |mk(i:Nat)(ys:List V)(us:AAL)(H':Hp)(z:St)(hz:Z z)(I:Inv Y [] z H' s')(st:tn i s'.heap)(fr:∀b∈fp,H' b=none)(d:H' D=none)(a:s'.heap.get? D=some {cls:=.type "list",data:=.seq us.toArray us.length})(v:Vals ys us)(w:W i n ys H')
def EE{tg:Expr}{N:BBB}{s:Shared}{z0:St}{Q:VK}{Z:St->Prop}{pt:V->Hp->St->Prop}{R:It->Hp->Prop}
    (T:fK X x cI cap scope cl)(hc:X.calm=true)(hi:PI X tg iter wi)
    (ht:∀C s H fp,Th (d9 X N scope cl C s H fp) ifs tc)(he:∀C s H fp,PE (d9 X N scope cl C s H fp) elt te)
    (hs:∀x,foldedSetIterable iter X.env x=pure x)(I:Inv X pins O H s)(h:wi O H R)
    (hR:∀J H1,R J H1->∃W:Nat->Nat->List V->Hp->Prop,(∃m,W 0 m [] H1)/\∀i m ys H,W i m ys H->ys.length<sizeLine/\
      ((J.stop i H/\∀p,H p=none->Q (.ref p) (upd H p (.lst ys)))\/
       (J.go i H/\∀x H',J.S5 i H x H'->∃z,pt x H' z/\tc z H' λb H2=>if b=true then te z H2 λy H3=>∃m',m' < m/\W (i+1) m' (ys++[y]) H3 else ∃m',m' < m/\W (i+1) m' ys H2)))
    (hZ:Z z0)(hI:∀{s s4:Shared}{H:Hp}{C:Addr}{fp:BBE}{m':AAF},Inv X pins O H s->(∀b∈fp,nZ X pins H b)->(∀b∈fp,∃o,s.heap.get? b=some o)->s.heap.objs.size<=C->s4.heap.Ns C m'->s4.os=s.os->s4.gens=s.gens->(∀b o,s.heap.get? b=some o->s4.heap.get? b=some o)->Inv (d9 X N scope cl C s H fp) [] z0 H s4)
    (hG:∀{Y:Cx}{C:Addr}{z z':St}{xv:V}{H:Hp},Y.N=N->Y.env=compEnvC scope cl C X.env->Y.K=X.K->Y.calm=true->Z z->pt xv H z'->Z z'/\∃g,PG Y tg g/\g xv z H λO' H'=>O'=z'/\H'=H)
    (hend:∀(D C:Addr)(s7:Shared)(H6:Hp)(ys:List V),Inv X pins O (upd H6 D (.lst ys)) s7->(∃m,s7.heap.Ns C m)->nZ X pins (upd H6 D (.lst ys)) C->Q (.ref D) (upd H6 D (.lst ys))->compPost (model X.prog X.w) X.A X.xe use Qf (.ref D) C (.ok .next) s7):
    wpAny (model X.prog X.w) X.A (comprehension (.ListComp elt [⟨tg,iter,ifs,0⟩] scope pos) scope X.env pos2 (newList []) false (eval iter X.env) use) Qf X.xe s:=by
  refine wpAny_comprehension_free (use:=use) rfl hs T.clos T.kind T.names (cS (hi pins s O H _ I h) λv s1 h1=>cS h1 λitv s2 h2=>adM λng=>?_);obtain⟨it,fp,tn,J,H2,rfl,I2,Qy,st2,f2,hJ⟩:=h2;obtain⟨W,⟨m0,w0⟩,turn⟩:=hR J H2 hJ;refine ng (acB (wpAny_newFunctionEnv T.lR (by intro y hy;simp at hy) (λh4 Qz M0=>?_) T.kind));clear ng;dsimp only at Qz M0 ⊢;generalize hH3:s2.heap.push {cls:=.type "list",dict:=none,data:=.seq ([]:AAL).toArray}=H3 at Qz M0 ⊢;have eC:H3.objs.size=s2.heap.objs.size+1:=by rw[<-hH3,abP]
  generalize eC':H3.objs.size=C at eC Qz M0 ⊢;generalize eD:s2.heap.objs.size=D at eC ⊢;have Yv:C=D+1:=eC;have hDC:D≠C:=by rw[Yv];exact aaD (ae5 D)
  have hC:s2.heap.objs.size<=C:=by rw[eD,Yv];exact afp D
  have hD:s2.heap.objs.size<=D:=by rw[eD];exact aaq D
  have kept:∀b o,s2.heap.get? b=some o->h4.get? b=some o:=λb o e=>M0.extBut b o (aaD (aax (aap e) hC)) (aam _ (hH3▸aam _ e));have hacc:h4.get? D=some {cls:=.type "list",data:=.seq ([]:AAL).toArray ([]:AAL).length}:=M0.extBut _ _ hDC (aam _ (hH3▸eD▸aas _ rfl));have fo2:∀b∈fp,∃o,s2.heap.get? b=some o:=λb hb=>let⟨o,e,_⟩:=Qy.obj _ _ st2 b hb;⟨o,e⟩
  have hDf:D∉fp:=λhb=>by
    obtain⟨o,e⟩:=fo2 D hb;exact absurd (aax (aap e) hD) (ack _)
  have st4:tn 0 h4:=Qy.keep _ _ _ st2 λb _ o e=>kept b o e;have key:∀s5:Shared,s5={s2 with heap:=h4,toks:=s2.toks+([]:List (Str×Value)).length}->
      codeAny (model X.prog X.w) X.A (.compLoop (.ListComp elt [⟨tg,iter,ifs,0⟩] scope pos) 0 (.ref it) (.ref D) (compEnvC scope cl C X.env)) (compPost (model X.prog X.w) X.A X.xe use Qf (.ref D) C) s5:=by
    rintro s5 rfl;have I4:Inv (d9 X N scope cl C s2 H2 fp) [] z0 H2 {s2 with heap:=h4,toks:=s2.toks+([]:List (Str×Value)).length}:=
      hI (s4:={s2 with heap:=h4,toks:=s2.toks+([]:List (Str×Value)).length}) I2 f2 fo2 hC Qz rfl rfl kept
    generalize hY:d9 X N scope cl C s2 H2 fp=Y at I4;have fD:∀{H':Hp},H' D=none->nZ Y [] H' D:=λ{H'} hn=>by
      subst hY;refine⟨hn,hDC,λz=>(aat.mp (I2.CS D z)).elim (λq=>absurd (aax (q▸I2.lt) hD) (ack _)) λq=>I2.Xy hD q,.inr hD,λy c e z=>?_,λp hp=>absurd (show p∈([]:AAG) from hp) (by simp)⟩;obtain⟨v,q⟩:=I2.cell y c (T.cells _ _ e);exact absurd (aax q.lt (by rw[z];exact hD)) (ack _)
    have exY:fp=Y.ex:=hY▸rfl;have pnY:Y.pn++([]:AAG)=[]:=hY▸rfl;have fF:∀{H':Hp},(∀b∈fp,H' b=none)->∀b∈fp,nZ Y [] H' b:=λ{H'} hn b hb=>by
      have q:=I4.ok.WV b (exY▸hb);exact⟨hn b hb,λz=>q.1 z,I4.ok.En b (exY▸hb),.inl (exY▸hb),λy c e z=>q.2 y c e z,λp hp=>absurd (pnY▸hp) (by simp)⟩
    have eA:Y.A=X.A:=hY▸rfl;have eP:Y.prog=X.prog:=hY▸rfl;have eW:Y.w=X.w:=hY▸rfl;have eK:Y.K=X.K:=hY▸rfl;have eE:Y.env=compEnvC scope cl C X.env:=hY▸rfl;have eX:Y.xe=λ_ _=>False:=hY▸rfl;have eN:Y.N=N:=hY▸rfl;have hcY:Y.calm=true:=hY▸hc;have htY:Th Y ifs tc:=hY▸ht _ _ _ _;have heY:PE Y elt te:=hY▸he _ _ _ _;have G6:∀(E':AAE)(e:Value)(s':Shared),Y.xe e s'->E' e s':=λE' e s' z=>by rw[eX]at z;exact z.elim
    refine C3 (CompI Y Z tn fp D W) ?_ m0
      ⟨0,[],[],H2,z0,hZ,I4,st4,λb hb=>(f2 b hb).1,I2.hok.fresh hD,hacc,.nil,w0⟩
    rintro n s6 ⟨i,ys,us,H6,z6,hz6,I6,st6,fr6,d6,a6,v6,w6⟩;refine adM λng=>?_;have hul:us.length=ys.length:=v6.length.symm;obtain⟨hz,Yw⟩:=turn i n ys H6 w6;have fF':∀{H':Hp},(∀b∈fp,H' b=none)->∀b∈fp,nZ Y ([]++qL [D] s6.heap) H' b:=λ{H'} hn b hb=>by
      obtain⟨f0,f1,f2',f3,f4,f5⟩:=fF hn b hb;refine⟨f0,f1,f2',f3,f4,λp hp z=>?_⟩;rcases aev.mp hp with q'|q'
      . exact f5 p (acG _ q') z
      . rcases aev.mp q' with q'|q'
        . exact absurd q' (by simp)
        . have:=(B3 q').1
          rw[aaK.mp this]at z;exact hDf (z▸hb)
    rcases Yw with⟨stop,qn⟩|⟨go,step⟩
    . have I6p:=I6.pinned (fp:=[D]) (λb hb=>by rw[aaK.mp hb];exact fD d6) (λb hb=>by rw[aaK.mp hb];exact⟨_,a6,λv z=>by cases z⟩)
      have q:=Qy.done Y eP eW eK hcY i _ s6 z6 H6 (notedBy (model X.prog X.w) X.A (compEnvC scope cl C X.env) λe s'=>compPost (model X.prog X.w) X.A X.xe use Qf (.ref D) C (.error e) s') I6p (fF' fr6) st6 stop;rw[eA]at q;refine ng (cS q λr s7 hh=>?_);obtain⟨hr,I7⟩:=hh;subst hr;have a7:s7.heap.get? D=_:=(I7.pin (D,{cls:=.type "list",data:=.seq us.toArray us.length}) (aay _ (aay _ (fJ (aaK.mpr rfl) a6)))).1;obtain⟨m7,W2,_⟩:=I7.loc;rw[eE]at W2;have Yx:H6 D=none:=d6;have hCn:H6 C=none:=by have:=I7.free;rw[eE]at this;exact this
      have aco:nY X.prog X.w H6 s7.heap:=by have q:=I7.hok;rw[eP,eW]at q;exact q
      have new:cR X.prog X.w (upd H6 D (.lst ys)) s7.heap D (.lst ys):=⟨af4 hz,us,us.length,v6,a7⟩
      have u7:Un (frs X.stack) fp H2 H6 s2.heap s7.heap:=by have:=I7.base;rw[<-hY]at this;exact this
      have neD:∀b o,s2.heap.get? b=some o->b≠D:=λb o e=>aaD (aax (aap e) hD);have u8:Un (frs X.stack) fp H2 (upd H6 D (.lst ys)) s2.heap s7.heap:=
        ⟨u7.keep,u7.slot,λb o e n hx=>by rw[aR (neD b o e)];exact u7.free b o e n hx,u7.there,
         λb xs e=>by have z:=u7.tups b xs e;rw[aR (bJ z Yx)];exact z,λb o u e=>by have z:=u7.vH b o u e;rw[aR (bJ z Yx)];exact z,
         λb q e=>by have z:=u7.wQ b q e;rw[aR (bJ z Yx)];exact z⟩
      have os7:s7.os=s2.os:=by have:=I7.os;rw[<-hY]at this;exact this
      have I9:Inv X pins O (upd H6 D (.lst ys)) s7:=I2.SX (ch:=fp) os7 u8 (aco.Yu Yx new) I7.bare λb hb=>⟨(f2 b hb).2.2.2.1,(f2 b hb).2.1,(f2 b hb).2.2.2.2.1,(f2 b hb).2.2.2.2.2⟩
      exact hend D C s7 H6 ys I9 ⟨m7,W2⟩ (I2.Er hC (by rw[aR (abO hDC)];exact hCn)) (qn D Yx)
    . have I6p:=I6.pinned (fp:=[D]) (λb hb=>by rw[aaK.mp hb];exact fD d6) (λb hb=>by rw[aaK.mp hb];exact⟨_,a6,λv z=>by cases z⟩)
      have q:=Qy.item Y eP eW eK hcY i _ s6 z6 H6 (notedBy (model X.prog X.w) X.A (compEnvC scope cl C X.env) λe s'=>compPost (model X.prog X.w) X.A X.xe use Qf (.ref D) C (.error e) s') I6p (fF' fr6) st6 go;rw[eA]at q;refine ng (cS q λr s6' hh=>adM λng=>?_);obtain⟨u,hr,h7⟩:=hh;subst hr;refine ng (cS h7 λ_ s7 hh=>adM λng=>?_);obtain⟨xv,H8,I8,r8,y8,st8,fr8⟩:=hh;have I8':=I8.pinned (fF' fr8) (Qy.obj _ _ st8);obtain⟨z8,p8,stp⟩:=step xv _ y8;obtain⟨hz8,g,hgY,gx⟩:=hG eN eE eK hcY hz6 p8;have qa:=hgY _ s7 z6 H8 xv u (λO' H'=>O'=z8/\H'=H8) I8' r8 gx;rw[eP,eW,eA,eE]at qa;refine ng (aaB qa (λ_ s9 h9=>adM λng=>?_) (G6 _));obtain⟨Yy,H9,I9,e9,e9'⟩:=h9;subst e9 e9';have qt:=htY _ s9 _ _ _ I9 stp;rw[eP,eW,eA,eE]at qt;refine ng (aaB qt (λok s10 h10=>?_) (G6 _));obtain⟨H10,I10,q10⟩:=h10;have back:∀{s':Shared}{H':Hp},Inv Y (([]++qL [D] s6.heap)++qL fp s7.heap) Yy H' s'->Inv Y [] Yy H' s'/\tn (i+1) s'.heap/\(∀b∈fp,H' b=none)/\H' D=none/\s'.heap.get? D=some {cls:=.type "list",data:=.seq us.toArray us.length}:=λ{s' H'} J=>by
        refine⟨J.lQ.lQ,Qy.keep _ _ _ st8 λb hb o e=>(J.pin (b,o) (aay _ (aay _ (fJ hb e)))).1,λb hb=>?_,?_,?_⟩
        . obtain⟨o,e,d⟩:=Qy.obj _ _ st8 b hb
          exact(J.pin (b,o) (aay _ (aay _ (fJ hb e)))).2.1
        . exact(J.pin (D,_) (aay _ (acG _ (aay _ (fJ (aaK.mpr rfl) a6))))).2.1
        . exact(J.pin (D,_) (aay _ (acG _ (aay _ (fJ (aaK.mpr rfl) a6))))).1
      cases ok with
      |false=>
        rw[if_neg (by decide)]at q10 ⊢;obtain⟨m',hm,w10⟩:=q10;obtain⟨b1,b2,b3,b4,b5⟩:=back I10;exact⟨m',hm,i+1,ys,us,H10,Yy,hz8,b1,b2,b3,b4,b5,v6,w10⟩
      |true=>
        rw[if_pos rfl]at q10 ⊢;have qe:=heY _ s10 _ _ _ I10 q10;rw[eP,eW,eA,eE]at qe;refine aaB qe (λy s11 h11=>?_) (G6 _);obtain⟨yv,H11,I11,r11,m',hm,w11⟩:=h11;obtain⟨b1,b2,b3,b4,b5⟩:=back I11;refine append_at (hsz:=by rw[aao,hul];exact af4 hz) b5 λh12 acr acs=>?_;have k12:∀b o,b≠D->s11.heap.get? b=some o->h12.get? b=some o:=λb o hb e=>acr.extBut b o hb e;obtain⟨g0,g1,g2,g3,g4,g5⟩:=fD b4;have I12:Inv Y [] Yy H11 {s11 with heap:=h12}:=b1.turned (t':=s11.toks) k12 g0 g1 g3 g4 g5;refine⟨m',hm,i+1,ys++[yv],us++[y],H11,Yy,hz8,I12,Qy.keep _ _ _ b2 λb hb o e=>k12 b o (λz=>hDf (z▸hb)) e,b3,b4,acs.trans (congrArg some (UX us y)),v6.append (.cons r11 .nil),w11⟩
  exact codeAny_compStart_list (key _ rfl) (Qy.self _ 0 _ _ _ st4 (key _ rfl))
def zS{s:Shared}{Q:VK}
  (T:fK X x cI cap scope cl)(hc:X.calm=true)(hi:PI X (.Name x px) iter wi)
  (ht:∀C s H fp,Th (d9 X (x::cI) scope cl C s H fp) ifs tc)(he:∀C s H fp,PE (d9 X (x::cI) scope cl C s H fp) elt te)
  (hs:∀x,foldedSetIterable iter X.env x=pure x)(I:Inv X pins O H s)(h:W0 wi cap tc te O H Q)
  (hend:∀(D C:Addr)(s7:Shared)(H6:Hp)(ys:List V),Inv X pins O (upd H6 D (.lst ys)) s7->(∃m,s7.heap.Ns C m)->nZ X pins (upd H6 D (.lst ys)) C->Q (.ref D) (upd H6 D (.lst ys))->compPost (model X.prog X.w) X.A X.xe use Qf (.ref D) C (.ok .next) s7):
  wpAny (model X.prog X.w) X.A (comprehension (.ListComp elt [⟨.Name x px,iter,ifs,0⟩] scope pos) scope X.env pos2 (newList []) false (eval iter X.env) use) Qf X.xe s:=
 EE (N:=x::cI) (z0:=none::ki cap O) (Z:=λz=>∃o,z=o::ki cap O) (pt:=λv _ z=>z=some v::ki cap O) T hc hi ht he hs I h
  (λJ H1 ⟨W,w0,t⟩=>⟨W,w0,λi m ys H w=>⟨(t i m ys H w).1,(t i m ys H w).2.imp id λ⟨g,k⟩=>⟨g,λv H' y=>⟨_,rfl,k v H' y⟩⟩⟩⟩) ⟨none,rfl⟩ (λI2=>MZ I2 T)
  (by
   rintro Y C _ _ xv H eN eE _ _ ⟨o,rfl⟩ rfl;exact⟨⟨_,rfl⟩,Ep 0,ID (by rw[eN];exact T.nd) (by rw[eN];rfl) (by rw[eE];exact .inl (lookup_relabel_local T.loc)) (.inr (by rw[eE];exact lookup_relabel_local T.loc)),rfl,rfl⟩) hend
def EF 
  (T:fK X x cI cap scope cl)(hc:X.calm=true)(hi:PI X (.Name x px) iter wi)
  (ht:∀C s H fp,Th (d9 X (x::cI) scope cl C s H fp) ifs tc)(he:∀C s H fp,PE (d9 X (x::cI) scope cl C s H fp) elt te)
  (hs:∀x,foldedSetIterable iter X.env x=pure x:=by intro _;rfl):
  PE X (.ListComp elt [⟨.Name x px,iter,ifs,0⟩] scope pos) (W0 wi cap tc te):=by
 intro pins s O H Q I h;rw[eval_ListComp];refine zS T hc hi ht he hs I h ?_;rintro p C s7 H6 ys I9 ⟨m7,W2⟩ ⟨g0,g1,g2,g3,g4,g5⟩ q;exact⟨m7,W2,λh' hs'=>⟨.ref p,_,I9.turned (t':=s7.toks) (λb o hb e=>hs'.extBut b o hb e) g0 g1 g3 g4 g5,rfl,q⟩⟩
def M1{i:Nat}{y:Str}{py spos:Pos}
  (T:fK X x cI cap scope cl)(hc:X.calm=true)(hi:PI X (.Name x px) iter wi)
  (ht:∀C s H fp,Th (d9 X (x::cI) scope cl C s H fp) ifs tc)(he:∀C s H fp,PE (d9 X (x::cI) scope cl C s H fp) elt te)
  (hs:∀x,foldedSetIterable iter X.env x=pure x)(hN:X.N.Nodup)(hy:X.N[i]? =some y)(hx:Loc X.env.scope y)
  (hsw:swapsWith (.ListComp elt [⟨.Name x px,iter,ifs,0⟩] scope pos) (some (.Name y py)) spos.line X.env=pure true)(hf:X.fn y=true\/X.env.scope.names.lookup y=some .local):
  PS X (.Assign [.Name y py] (.ListComp elt [⟨.Name x px,iter,ifs,0⟩] scope pos) spos) (P1 (W0 wi cap tc te) (Ep i)):=by
 intro pins s O H D I h;rw[exec_Assign_Name_used _ _ _ _ hsw];refine aal (afV (aal ?_));show wpAny _ X.A (do let _ <-comprehension (.ListComp elt [⟨.Name x px,iter,ifs,0⟩] scope pos) scope X.env _ (newList []) false (eval iter X.env) (some (assign (.Name y py) X.env))) _ _ s;refine aal (aaB (zS (Qf:=λ_ s'=>SP X pins D .next s') T hc hi ht he hs I h ?_) (λ_ s' hq=>aan (aan hq)) λ_ _ e=>e);rintro p C s7 H6 ys I9 ⟨m7,W2⟩ ⟨g0,g1,g2,g3,g4,g5⟩ q;refine wpAny_assign_Name (BY I9 hN hy hx (v:=.ref p) (show RelV (.ref p) (.ref p) from rfl) (λs8 I8 hh=>?_) hf);obtain⟨a,hsb,ha⟩:=hh;have hne:C≠a:=ha.elim (λz=>by rw[z];exact g1) λz=>abO (g4 _ _ z);refine⟨m7,W2.sameBut hsb hne,λh' hs'=>?_⟩;exact⟨_,_,I8.turned (t':=s8.toks) (λb o hb e=>hs'.extBut b o hb e) g0 g1 g3 g4 g5,q⟩
noncomputable def Its(z:Str):It:=⟨λi _=>i<z.cps.size,λi H x H'=>H'=H/\∃c,z.cps[i]? =some c/\x= .str ⟨#[c]⟩,λi _=>z.cps.size<=i⟩
def M3(z:Str)(it:Addr)(t:Tok)(ty:String)(hW:∀A':Around,A'.handled=none->Walks P w A' it [it] [it] z.cps.size (SignAt z) λi h=>h.IsStrIter it ty z t i)
  (hself:∀(A:Around)(i:Nat)(s:Shared)(Q:AAE)(E:AAE),s.heap.IsStrIter it ty z t i->Q (.ref it) s->wpAny (model P w) A (pyIter (.ref it)) Q E s):
  Turn P w K (.Name x px) (Its z) [it] it (λi h=>i<=z.cps.size/\h.IsStrIter it ty z t i) where
 mem:=by simp
 obj:=λi h st b hb=>by
  obtain rfl:b=it:=by simpa using hb
  obtain⟨o,e,c,d⟩:=st.2;exact⟨o,e,λv q=>by rw[d]at q;cases q⟩
 keep:=λi h h' st k=>by
  obtain⟨o,e,r⟩:=st.2;exact⟨st.1,o,k it (by simp) o e,r⟩
 item:=by
  intro X hP hw hK hc i pins s O H E I hf st hg;subst hP hw hK;obtain⟨f0,f1,f2,f3,f4,f5⟩:=hf it (by simp);refine(hW X.A (I.ok.hd hc)).item i s _ _ hg st.2 λv h' tk hv st' kk=>?_;obtain⟨c,u,hc',rfl⟩:=hv;exact⟨_,rfl,aan ⟨.str ⟨#[c]⟩,H,I.turned (λb o hb e=>kk b o (by simpa using hb) e) f0 f1 f3 f4 f5,⟨u,rfl⟩,⟨rfl,c,hc',rfl⟩,⟨hg,st'⟩,λb hb=>(hf b hb).1⟩⟩
 done:=by
  intro X hP hw hK hc i pins s O H E I hf st hg;subst hP hw hK;obtain⟨f0,f1,f2,f3,f4,f5⟩:=hf it (by simp);obtain⟨s1,s2⟩:=st;have e:i=z.cps.size:=Nat.le_antisymm s1 hg;subst e;exact(hW X.A (I.ok.hd hc)).done s _ _ s2 λh' tk kk=>⟨rfl,I.turned (λb o hb e=>kk b o (by simpa using hb) e) f0 f1 f3 f4 f5⟩
 self:=λA i s Q E st h=>hself A i s Q E st.2 h
def acv(tl:TE):TI:=λO H R=>tl O H λx H1=>∃z,x= .str z/\R (Its z) H1
def UY{l:Expr}{tl:TE}(hl:PE X l tl):PI X (.Name x px) l (acv tl):=by
 intro pins s O H R I h;refine cS (hl pins s O H _ I h) λv s1 hh=>?_;obtain⟨y,H1,I1,r1,q1⟩:=hh;obtain⟨z,rfl,q⟩:=q1;obtain⟨t,rfl⟩:=r1;refine wpAny_pyIter_strU ?_;have hst:∀ty,strIterType z=ty->(s1.heap.push {cls:=.type (strIterType z),data:=.fields #[.str z t,.int 0 0]}).IsStrIter s1.heap.objs.size ty z t 0:=λty e=>⟨_,aas _ rfl,by rw[<-e],rfl⟩
 have go:∀ty,strIterType z=ty->(∀A':Around,A'.handled=none->Walks X.prog X.w A' s1.heap.objs.size [s1.heap.objs.size] [s1.heap.objs.size] z.cps.size (SignAt z) λi h=>h.IsStrIter s1.heap.objs.size ty z t i)->
   (∀(A:Around)(i:Nat)(s:Shared)(Q:AAE)(E:AAE),s.heap.IsStrIter s1.heap.objs.size ty z t i->Q (.ref s1.heap.objs.size) s->wpAny (model X.prog X.w) A (pyIter (.ref s1.heap.objs.size)) Q E s)->
   PIE X pins O (.Name x px) R (.ref s1.heap.objs.size) {s1 with heap:=s1.heap.push {cls:=.type (strIterType z),data:=.fields #[.str z t,.int 0 0]}}:=λty e hW hself=>by
  refine⟨s1.heap.objs.size,[s1.heap.objs.size],_,_,H1,rfl,I1.kept (t':=s1.toks) λb o e=>aam _ e,M3 z _ t ty hW hself,⟨abX _,hst ty e⟩,λb hb=>?_,q⟩;obtain rfl:b=s1.heap.objs.size:=by simpa using hb
  exact I1.Er (aaq _) (I1.hok.fresh (aaq _))
 cases ha:z.cps.all (· < 128)
 .exact go "str_iterator" (by simp[strIterType,ha]) (λA' hA=>Walks.strWide hA _ z t) λA i s Q E st h=>wpAny_pyIter_striter_wide st h
 .exact go "str_ascii_iterator" (by simp[strIterType,ha]) (λA' hA=>Walks.strAscii hA _ z t) λA i s Q E st h=>wpAny_pyIter_striter_ascii st h
def M4{bs:List Bool}:∀{us:AAL},Vals (bs.map V.bl) us->us=bs.map Value.bool:=by
 induction bs with
 |nil=>intro us r;cases r;rfl
 |cons b bs ih=>
  intro us r;cases r with
  |cons r1 r2=>
   cases r1;rw[ih r2];rfl
def G7(bs:List Bool):((List.range bs.length).all λi=>(bs[i]?).getD true)=bs.all id:=by
 rw[Bool.eq_iff_iff,afk,afk];constructor
 .intro h b hb;obtain⟨i,hi,rfl⟩:=List.mem_iff_getElem.mp hb;have:=h i (agT.mpr hi)
  simpa[hi] using this
 .intro h i hi;have hi:=agT.mp hi;simp only[aaz hi,Option.getD_some];exact h _ (List.getElem_mem hi)
def KO(hc:X.calm=true):fU X (.builtin "all") (λxs H Q=>∃(p:Addr)(bs:List Bool),xs=[.ref p]/\oW X.K H p (bs.map V.bl)/\Q (.bl (bs.all id)) H):=by
 intro pins s O H xs us Q I r h;obtain⟨p,bs,rfl,hp,q⟩:=h;obtain⟨u,rfl,ru⟩:=vals1 r;cases ru;obtain⟨its,rv,pl,hz⟩:=I.list hp;obtain rfl:=M4 rv;have hlt:p<s.heap.objs.size:=by obtain⟨_,e,_⟩:=pl.isList;exact aap e
 refine call_all_walk (aeU pl.isList ?_);refine⟨s.heap.objs.size,[s.heap.objs.size,p],[s.heap.objs.size],_,_,_,λi=>(bs[i]?).getD true,rfl,Walks.list (A:=X.A.in1) (I.ok.hd hc) _ p (aaD hlt) _,
  ⟨⟨_,aas _ rfl,rfl,rfl⟩,pl.isList.push _⟩,λi v s' Q' E' hP hQ=>?_,λh' tk hk=>?_⟩
 .have hP:(bs.map Value.bool)[i]? =some v:=by simpa using hP
  rw[abx]at hP;cases e:bs[i]? with
  |none=>rw[e]at hP;cases hP
  |some b=>
   rw[e]at hP;cases hP;simp only[e,Option.getD_some]at hQ;exact acR hQ
 .have e:((List.range (bs.map Value.bool).toArray.size).all λi=>(bs[i]?).getD true)=bs.all id:=by
   rw[aao,aaw];exact G7 bs
  rw[e];exact⟨.bl (bs.all id),H,I.kept (t':=tk) λb o e=>hk b o (λhm=>by rw[aaK.mp hm]at e;exact ack _ (aap e)) (aam _ e),rfl,q⟩
def acw:V->BBM->BBM->Hp->VK->Prop:=λx lo hi H Q=>∃z,x= .str z/\z.length<=sizeLine/\((Txt.slice z lo hi).length<=z.length->Q (.str (Txt.slice z lo hi)) H)
def UZ :Yj X acw:=by
 intro pins s O H x v vl vu lo hi sl Q I rx hs pl pu h;obtain⟨z,rfl,hz,q⟩:=h;obtain⟨t,rfl⟩:=rx;have q:=q (af9 z _ _);refine⟨"str",_,F.slot_str_getitem.lookup,ae7 _ _ _,?_⟩;cases pl with
 |none=>
  cases pu with
  |none=>exact aeN (l:=none) (u:=none) (st:=none) hs rfl (aga ⟨aaC (af9 z _ _) hz,λt' k=>⟨V.str (Txt.slice z none none),H,I.tok k,⟨t',rfl⟩,q⟩⟩)
  |int j u=>exact aeN (l:=none) (u:=some (j,u)) (st:=none) hs rfl (aga ⟨aaC (af9 z _ _) hz,λt' k=>⟨V.str (Txt.slice z none (some j)),H,I.tok k,⟨t',rfl⟩,q⟩⟩)
 |int i u'=>
  cases pu with
  |none=>exact aeN (l:=some (i,u')) (u:=none) (st:=none) hs rfl (aga ⟨aaC (af9 z _ _) hz,λt' k=>⟨V.str (Txt.slice z (some i) none),H,I.tok k,⟨t',rfl⟩,q⟩⟩)
  |int j u=>exact aeN (l:=some (i,u')) (u:=some (j,u)) (st:=none) hs rfl (aga ⟨aaC (af9 z _ _) hz,λt' k=>⟨V.str (Txt.slice z (some i) (some j)),H,I.tok k,⟨t',rfl⟩,q⟩⟩)
def Rep.both{F:Hp}{P:V->D->Prop}{Q:List V->List D->Prop}(h0:P .cD .cD)(h1:∀b,P (.bl b) (.bl b))(h2:∀i,P (.int i) (.int i))(h3:∀z,P (.str z) (.str z))(h4:∀{a vs ds},F a=some (.tup vs)->Q vs ds->P (.ref a) (.tup ds))
  (h5:∀{a vs ds},(F a=some (.lst vs)\/∃o,F a=some (.kg o (.lst vs)))->Q vs ds->P (.ref a) (.lst ds))(h6:Q [] [])(h7:∀{v d vs ds},P v d->Q vs ds->Q (v::vs) (d::ds)):(∀{v d},Rep F v d->P v d)/\∀{vs ds},bE F vs ds->Q vs ds:=
 ⟨λh=>Rep.rec (motive_1:=λv d _=>P v d) (motive_2:=λvs ds _=>Q vs ds) h0 h1 h2 h3 (λe _=>h4 e) (λe _=>h5 e) h6 (λ_ _=>h7) h,λh=>bE.rec (motive_1:=λv d _=>P v d) (motive_2:=λvs ds _=>Q vs ds) h0 h1 h2 h3 (λe _=>h4 e) (λe _=>h5 e) h6 (λ_ _=>h7) h⟩
def bE.ind{F:Hp}{Q:∀vs ds,bE F vs ds->Prop}(nil:Q [] [] .nil)(cons:∀{v d vs ds}(r:Rep F v d) (rs:bE F vs ds),Q vs ds rs->Q _ _ (.cons r rs))(h:bE F vs ds):Q vs ds h:=
 bE.rec (motive_1:=λ_ _ _=>True) (motive_2:=Q) trivial (λ_=>trivial) (λ_=>trivial) (λ_=>trivial) (λ_ _ _=>trivial) (λ_ _ _=>trivial) nil (λr rs _=>cons r rs) h
def Rep.leB{H':Hp}(gt:∀{a vs},H a=some (.tup vs)->H' a=some (.tup vs))(gl:∀{a vs},(H a=some (.lst vs)\/∃o,H a=some (.kg o (.lst vs)))->(H' a=some (.lst vs)\/∃o,H' a=some (.kg o (.lst vs)))):(∀{v d},Rep H v d->Rep H' v d)/\∀{vs ds},bE H vs ds->bE H' vs ds:=
 Rep.both .cD .bl .int .str (λe q=>.tup (gt e) q) (λe q=>.lst (gl e) q) .nil .cons
def bE.length{H:Hp}{vs:List V}{ds:List D}(h:bE H vs ds):vs.length=ds.length:=by
 induction h using bE.ind with
 |nil=>rfl
 |cons _ _ ih=>exact congrArg Nat.succ ih
def bE.get{i:Nat}{d:D}(h:bE H vs ds)(e:ds[i]? =some d):∃v,vs[i]? =some v/\Rep H v d:=by
 induction h using bE.ind generalizing i with
 |nil=>cases e
 |cons r _ ih=>
  cases i with
  |zero=>cases e;exact⟨_,rfl,r⟩
  |succ i=>exact ih e
def bE.append{ws:List V}{es:List D}(h:bE H vs ds)(s:bE H ws es):bE H (vs++ws) (ds++es):=by
 induction h using bE.ind with
 |nil=>exact s
 |cons r _ ih=>exact .cons r ih
theorem bE.take{H:Hp}:∀{vs:List V}{ds:List D}(n:Nat),bE H vs ds->bE H (vs.take n) (ds.take n)
 |_,_,0,_=>.nil
 |_,_,_+1,.nil=>.nil
 |_,_,n+1,.cons r rs=>.cons r (bE.take n rs)
theorem bE.drop{H:Hp}:∀{vs:List V}{ds:List D}(n:Nat),bE H vs ds->bE H (vs.drop n) (ds.drop n)
 |_,_,0,rs=>rs
 |_,_,_+1,.nil=>.nil
 |_,_,n+1,.cons _ rs=>bE.drop n rs
noncomputable def U0:D->String
 |.cD=>"NoneType" | .bl _=>"bool" | .int _=>"int" | .str _=>"str" | .tup _=>"tuple" | .lst _=>"list"
open PySem.W in
noncomputable def ji(T U:String):Option Bool:=if(Value.type T == Value.type U)=true then some true else if kitMeta U=true then(fastBuiltinMro T).map (·.contains (Value.type U)) else none
noncomputable def M6:D->Bool
 |.tup _=>true
 |_=>false
noncomputable def M7:D->Bool
 |.lst _=>true
 |_=>false
noncomputable def M8:D->Bool
 |.str _=>true
 |_=>false
noncomputable def Ti:D->Bool
 |.bl _=>true
 |_=>false
noncomputable def M9:D->Bool
 |.int _=>true
 |.bl _=>true
 |_=>false
def QA(d:D):PySem.W.kitOne K (.type (U0 d)) (.type "tuple")=some (M6 d):=by
 cases d with
 |cD=>exact(show ji "NoneType" "tuple" =some false by decide +kernel)
 |bl b=>exact(show ji "bool" "tuple" =some false by decide +kernel)
 |int i=>exact(show ji "int" "tuple" =some false by decide +kernel)
 |str z=>exact(show ji "str" "tuple" =some false by decide +kernel)
 |tup ds=>exact(show ji "tuple" "tuple" =some true by decide +kernel)
 |lst ds=>exact(show ji "list" "tuple" =some false by decide +kernel)
def QB(d:D):PySem.W.kitOne K (.type (U0 d)) (.type "list")=some (M7 d):=by
 cases d with
 |cD=>exact(show ji "NoneType" "list" =some false by decide +kernel)
 |bl b=>exact(show ji "bool" "list" =some false by decide +kernel)
 |int i=>exact(show ji "int" "list" =some false by decide +kernel)
 |str z=>exact(show ji "str" "list" =some false by decide +kernel)
 |tup ds=>exact(show ji "tuple" "list" =some false by decide +kernel)
 |lst ds=>exact(show ji "list" "list" =some true by decide +kernel)
def Na(d:D):PySem.W.kitOne K (.type (U0 d)) (.type "str")=some (M8 d):=by
 cases d with
 |cD=>exact(show ji "NoneType" "str" =some false by decide +kernel)
 |bl b=>exact(show ji "bool" "str" =some false by decide +kernel)
 |int i=>exact(show ji "int" "str" =some false by decide +kernel)
 |str z=>exact(show ji "str" "str" =some true by decide +kernel)
 |tup ds=>exact(show ji "tuple" "str" =some false by decide +kernel)
 |lst ds=>exact(show ji "list" "str" =some false by decide +kernel)
def U1(d:D):PySem.W.kitOne K (.type (U0 d)) (.type "bool")=some (Ti d):=by
 cases d with
 |cD=>exact(show ji "NoneType" "bool" =some false by decide +kernel)
 |bl b=>exact(show ji "bool" "bool" =some true by decide +kernel)
 |int i=>exact(show ji "int" "bool" =some false by decide +kernel)
 |str z=>exact(show ji "str" "bool" =some false by decide +kernel)
 |tup ds=>exact(show ji "tuple" "bool" =some false by decide +kernel)
 |lst ds=>exact(show ji "list" "bool" =some false by decide +kernel)
def QC(d:D):PySem.W.kitOne K (.type (U0 d)) (.type "int")=some (M9 d):=by
 cases d with
 |cD=>exact(show ji "NoneType" "int" =some false by decide +kernel)
 |bl b=>exact(show ji "bool" "int" =some true by decide +kernel)
 |int i=>exact(show ji "int" "int" =some true by decide +kernel)
 |str z=>exact(show ji "str" "int" =some false by decide +kernel)
 |tup ds=>exact(show ji "tuple" "int" =some false by decide +kernel)
 |lst ds=>exact(show ji "list" "int" =some false by decide +kernel)
end L2
end
section
namespace HT
open PySem PySem.Spec PyProof.Rows
section
variable {prog:Program}{w:World}{A:Around}{E:AAE}{s:Shared}
def KP{t sl:Addr}{items:AAK}{vl vu:Value}{lo hi:BBM}{Q:AAE}(ht:IsTup s.heap t items)(hs:s.heap.IsSliceOf sl vl vu .none)(pl:IsPart vl lo)(pu:IsPart vu hi)
  (hw:iz items.size 0 lo=0/\iz items.size items.size hi=items.size)(h:Q (.ref t) s):wpAny (model prog w) A (getItem (.ref t) (.ref sl)) Q E s:=by
 obtain⟨os,hos,hcs,hds⟩:=id hs;have hTs:s.TypeIs (.ref sl) "slice":=⟨os,hos,hcs⟩
 unfold getItem
 try with_reducible refine abz ?_
 first|refine aal (aan ?_)|skip
 refine aal (wpAny_sequenceKey ht.typeIs (by decide) ?_);refine aal (ab4 (name:=Str.ofString "__getitem__") ht.typeIs abY
  (acV abY ht.typeIs entry_tuple_getitem ?_ (args_tuple_getitem _ _)))
 show wpAny _ _ (Builtin.Tuple.tupleItemsOf (.ref t) >>= _) _ _ s;refine aal (tupleItemsOf_ ht ?_);refine aal (af8 hTs ?_);rw[if_pos (by decide)];refine aal (n9 hs pl pu ?_);have hyes:(((iz items.size 0 lo:Nat):Int) == 0 && (1:Int) == 1 && (iz items.size items.size hi-iz items.size 0 lo) == items.size)=true:=by
  rw[hw.1,hw.2];simp
 show wpAny _ _ (if(((iz items.size 0 lo:Nat):Int) == 0 && (1:Int) == 1 && (iz items.size items.size hi-iz items.size 0 lo) == items.size)=true then _ else _) _ _ s;rw[if_pos hyes];have hex:∀{α:Type}{k:Bool->Sem α}{Q':α->Shared->Prop}{E':AAE}{A':Around},wpAny (model prog w) A' (k true) Q' E' s->wpAny (model prog w) A' (Builtin.Tuple.tupleIsExact (.ref t) >>= k) Q' E' s:=λ{α k Q' E' A'} hk=>by
  refine aal ?_;unfold Builtin.Tuple.tupleIsExact;exact aal (af8 ht.typeIs (aan hk))
 first
  |(refine hex ?_;exact afl (aan ⟨_,rfl,aan h⟩))
  |(refine hex ?_;refine aal (afl ?_);exact aan ⟨_,rfl,aan h⟩)
end
end HT
end
section
namespace L2
open PySem PySem.Spec PyProof.Rows
variable {scope:Scope}{X:Cx}{x z:Str}{K:AAD}{H F1 H1 F' H' H0 F0:Hp}{a p l ad:Addr}{ns bs:BBD}{vs xs:List V}{ds es:List D}{κ α β:Type}{i j n:Nat}{o:HO}{B:Base}{S S' S0:SS}{O:St}{u:U}{Q E:AAE}{T:String}{op:Operator}{k:Bool}{q1 q2 q:GT}{r Ni ifs:BBC}{y:Value}{pins:AAG}{pos' pos:Pos}{tg iter elt:Expr}{bd:GB}{gi:GI}{us ws:List U}{outs:List MO}{cap:BBJ}{g:GD}{cl:List (Str×Addr)}{cI:BBB}{A:Around}{uL oY its:AAL}{kvs:List (Key×V)}{prog:Program}{w:World}{Eg:List (Str×GD)}{h':Heap}{vals:AAK}{fp:BBE}
section

noncomputable def cutD(ds:List D)(lo hi:BBM):List D:=(ds.drop (HT.iz ds.length 0 lo)).take (HT.iz ds.length ds.length hi-HT.iz ds.length 0 lo)
def bE.ia{H:Hp}{vs:List V}{ds:List D}{i:Int}{d:D}(r:bE H vs ds)(h:L2.ia ds i=some d):∃v,L2.ia vs i=some v/\Rep H v d:=by
 have hl:=r.length;unfold L2.ia at h ⊢;rw[hl];cases e:IT ds.length i with
 |none=>rw[e]at h;cases h
 |some j=>
  rw[e]at h;exact r.get h
end
def EG{env:Env}{n:Str}{k:NameKind}(h:(relabel scope env).names.lookup n=some k):(n,k)∈(relabel scope env).names:=acj h
def G8(h1:∀y∈scope.names,y.2≠.free)(h2:∀y∈scope.names,y.2≠.cell)(h3:scope.kind= .function)(h4:∀y∈scope.names,y.2= .local->scope.names.lookup y.1=some .local)(h5:scope.names.lookup x=some .local):
  fK X x [] [] scope []:=by
 refine⟨closureFor_none h1,h2,h3,h4,h5,λn c h=>(by cases h),λn h=>?_,by simp,rfl,λj n h=>(by simp at h),λn h=>(by simp at h)⟩;have no:∀k,(k=NameKind.cell\/k=NameKind.free)->(relabel scope X.env).names.lookup n≠some k:=λk hk e=>by
  have m:=EG e;unfold relabel at m;obtain⟨⟨n',k'⟩,hm,q⟩:=afE.mp m;have z:(k' == NameKind.free)=false:=by simpa using h1 _ hm
  simp only[z,agi,aey]at q;have q2:k'=k:=by
   have:=congrArg Prod.snd q
   simpa using this
  rcases hk with rfl|rfl
  .exact h2 _ hm q2
  .exact h1 _ hm q2
 rcases h with h|h
 .exact absurd h (no _ (.inl rfl))
 .exact absurd h (no _ (.inr rfl))
noncomputable def U3(d:D)(l m:Int):Bool:=match d with
 |.int i=>decide (l<=i) && decide (i<=m)
 |_=>false
theorem lookup_some{α:Type}:∀{l:List (Str×α)}{n:Str},n∈l.map (·.1)->∃c,l.lookup n=some c
 |[],_,h=>by simp at h
 |(m,c)::l,n,h=>by
  rw[aeI];cases e:n == m with
  |true=>exact⟨c,rfl⟩
  |false=>
   rcases aat.mp h with h|h
   .have h:n=m:=h;rw[h,aeg]at e;cases e
   .exact lookup_some h
mutual
noncomputable def toPy:D->PyData
 |.cD=>.none
 |.bl b=>.bool b
 |.int i=>.int i
 |.str z=>.str z
 |.tup ds=>.tuple (iO ds)
 |.lst ds=>.list (iO ds)
noncomputable def iO:List D->List PyData
 |[]=>[]
 |d::ds=>toPy d::iO ds
end
mutual
theorem yw:∀d:D,(toPy d).hasDict=false
 |.cD=>rfl
 |.bl _=>rfl
 |.int _=>rfl
 |.str _=>rfl
 |.tup ds=>o9 ds
 |.lst ds=>o9 ds
theorem o9:∀ds:List D,PyData.hasDictAll (iO ds)=false
 |[]=>rfl
 |d::ds=>by
  show((toPy d).hasDict || PyData.hasDictAll (iO ds))=false;rw[yw d,o9 ds];rfl
end
inductive MO where
 |lst(ds:List D)
 |dct(kvs:List (Key×D))
 |fT(kvs:List (D×D))
 |ins(C:Addr)(kvs:List (Str×D))
 |gap(es:List (D ⊕ Addr))
 |lat(c:Addr)(ds:List D)
 |Mb(c:Addr)(kvs:List (D×D))
 |Mc(C:Addr)(kvs:List (Str×(D ⊕ Addr)))
inductive U where
 |t(d:D)|m (o:MO)|b (o:MO)|v (i:Nat)|s (ns:BBD)|f (a:Addr)|x (C:Addr) (kvs:List (Str×D))
abbrev AAA(d:D):Option U:=some (.t d)
abbrev AAB(d:List D):Option U:=some (.m (.lst d))
abbrev AAC(i:Int):Option U:=some (.t (.int i))
abbrev SS:=List (Option U)
def Sub(F H:Hp):Prop:=∀a o,F a=some o->H a=some o
def dP{κ:Type}(F:Hp)(p:κ×V)(q:κ×D):Prop:=p.1=q.1/\Rep F p.2 q.2
def vL(F:Hp)(v:V)(C:Addr)(kvs:List (Str×D)):Prop:=∃a dx fs,v= .ref a/\F a=some (.wL C dx fs)/\F dx=some (.own a)/\Paired (dP F) fs kvs
def G9(F:Hp)(v:V):D ⊕ Addr->Prop
 |.inl d=>Rep F v d
 |.inr c=>v= .ref c
def acy(F:Hp)(p:Str×V)(q:Str×(D ⊕ Addr)):Prop:=p.1=q.1/\G9 F p.2 q.2
def At(F H:Hp)(a:Addr):MO->Prop
 |.lst ds=>∃vs,H a=some (.lst vs)/\bE F vs ds
 |.dct kvs=>∃ws,H a=some (.dK ws)/\Paired (dP F) ws kvs
 |.fT kvs=>∃ws,H a=some (.dT ws)/\Paired (dP F) ws kvs
 |.ins C kvs=>∃ws,(∃dx,H a=some (.ins C dx ws))/\Paired (dP F) ws kvs
 |.gap es=>∃vs,H a=some (.lst vs)/\Paired (G9 F) vs es
 |.lat c ds=>∃vs,(a=c/\H a=some (.lst vs))/\bE F vs ds
 |.Mb c kvs=>∃ws,(a=c/\H a=some (.dT ws))/\Paired (dP F) ws kvs
 |.Mc C kvs=>∃ws,(∃dx,H a=some (.ins C dx ws))/\Paired (acy F) ws kvs
noncomputable def fE:U->Bool
 |.m _=>true
 |.b _=>true
 |_=>false
def dw(S:SS)(O:St)(a:Addr):Prop:=∃(i:Nat)(u:U),S[i]? =some (some u)/\fE u=true/\O[i]? =some (some (.ref a))
def QD(K:AAD)(H:Hp)(a:Addr)(ns:BBD):Prop:=
 (∃o,H a=some (.kg o (.lst (ns.map V.int))))\/∃(o:Obj)(its:AAK)(n:Nat),K.lookup a=some o/\o.cls= .type "list"/\o.dict=none/\o.data= .seq its n/\its.size<=sizeLine/\Vals (ns.map V.int) its.toList
theorem QD.sq :QD K H a ns->oW K H a (ns.map V.int)
 |.inl h=>.inl (.inr h)
 |.inr h=>.inr h
def C4(K:AAD)(F H:Hp)(v:V):U->Prop
 |.t d=>Rep F v d
 |.m o=>∃a,v= .ref a/\F a=none/\At F H a o
 |.b o=>∃a,v= .ref a/\F a=none/\At F H a o
 |.v _=>False
 |.s ns=>∃a,v= .ref a/\QD K H a ns
 |.f a=>v= .ref a
 |.x C k=>vL F v C k
structure Ext(M:Addr->Prop)(F H F' H':Hp):Prop where
 le:∀b o,F b=some o->F' b=some o
 keep:∀b o,H b=some o->¬M b->H' b=some o
 kh:∀b o,H b=some o->¬M b->F b=none->F' b=none
 there:∀b o,H b=some o->∃o',H' b=some o'
 kg:∀b o u,H b=some (.kg o u)->H' b=some (.kg o u)
structure Base where
 P:List (BBN)
 F:Hp
 H:Hp
def Base.M(B:Base)(a:Addr):Prop:=some a∈B.P
structure Rel(K:AAD)(B:Base)(S:SS)(O:St)(F H:Hp):Prop where
 sub:Sub F H
 len:S.length=O.length
 rep:∀(i:Nat) u,S[i]? =some (some u)->∃v,O[i]? =some (some v)/\C4 K F H v u
 Hf:∀(i j:Nat) u w a,S[i]? =some (some u)->fE u=true->S[j]? =some (some w)->fE w=true->O[i]? =some (some (.ref a))->O[j]? =some (some (.ref a))->i=j
 own:∀(i:Nat) o a,S[i]? =some (some (.m o))->O[i]? =some (some (.ref a))->B.H a=none
 bor:∀(i:Nat) o a,S[i]? =some (some (.b o))->O[i]? =some (some (.ref a))->B.M a
 par:∀(i:Nat) a,B.P[i]? =some (some a)->O[i]? =some (some (.ref a))/\∃o,S[i]? =some (some (.b o))
 ext:Ext B.M B.F B.H F H
structure Step(S S':SS)(O:St)(F H F' H':Hp):Prop where
 ext:Ext (dw S O) F H F' H'
 mu:∀a,dw S' O a->dw S O a
 slots:∀(i:Nat) u,S[i]? =some (some u)->∃u',S'[i]? =some (some u')
def Ext.refl(M:Addr->Prop)(F H:Hp):Ext M F H F H:=⟨λ_ _ h=>h,λ_ _ h _=>h,λ_ _ _ _ h=>h,λ_ o h=>⟨o,h⟩,λ_ _ _ h=>h⟩
def Ext.trans{M M':Addr->Prop}{F F2 H2:Hp}(x:Ext M F H F1 H1)(y:Ext M' F1 H1 F2 H2)(s:∀b,M' b->M b\/H b=none):Ext M F H F2 H2 where
 le:=λb o h=>y.le b o (x.le b o h)
 keep:=λb o h n=>y.keep b o (x.keep b o h n) λq=>(s b q).elim n λz=>by rw[h]at z;cases z
 kh:=λb o h n f=>y.kh b o (x.keep b o h n) (λq=>(s b q).elim n λz=>by rw[h]at z;cases z) (x.kh b o h n f)
 there:=λb o h=>let⟨o',h'⟩:=x.there b o h;y.there b o' h'
 kg:=λb o u h=>y.kg b o u (x.kg b o u h)
def Step.refl(S:SS)(O:St)(F H:Hp):Step S S O F H F H:=⟨Ext.refl _ _ _,λ_ h=>h,λ_ u h=>⟨u,h⟩⟩
def Step.trans{S S1 S2:SS}{O:St}{F H F1 H1 F2 H2:Hp}(x:Step S S1 O F H F1 H1)(y:Step S1 S2 O F1 H1 F2 H2):Step S S2 O F H F2 H2:=
 ⟨x.ext.trans y.ext λb q=>.inl (x.mu b q),λa q=>x.mu a (y.mu a q),λi u h=>let⟨u',h'⟩:=x.slots i u h;y.slots i u' h'⟩
def Rep.leD{F:Hp}(g:∀b o,F b=some o->F' b=some o):(∀{v d},Rep F v d->Rep F' v d)/\∀{vs ds},bE F vs ds->bE F' vs ds:=Rep.leB (g _ _) λe=>e.imp (g _ _) λ⟨o,h⟩=>⟨o,g _ _ h⟩
def Rep.le{F:Hp}(g:∀b o,F b=some o->F' b=some o){v:V}{d:D}(r:Rep F v d):Rep F' v d:=(Rep.leD g).1 r
def bE.le{F:Hp}(g:∀b o,F b=some o->F' b=some o)(r:bE F vs ds):bE F' vs ds:=(Rep.leD g).2 r
def qQ{κ:Type}{F:Hp}(g:∀b o,F b=some o->F' b=some o){ws:List (κ×V)}{kvs:List (κ×D)}(r:Paired (dP F) ws kvs):Paired (dP F') ws kvs:=
 Paired.GC r λ_ _ z=>⟨z.1,z.2.le g⟩
theorem vL.le{F:Hp}(g:∀b o,F b=some o->F' b=some o){v:V}{C:Addr}{k:List (Str×D)}:vL F v C k->vL F' v C k
 |⟨a,dx,fs,e,h1,h2,h3⟩=>⟨a,dx,fs,e,g _ _ h1,g _ _ h2,qQ g h3⟩
theorem G9.le{F F':Hp}(g:∀b o,F b=some o->F' b=some o){v:V}:∀{e:D ⊕ Addr},G9 F v e->G9 F' v e
 |.inl _,h=>Rep.le g h
 |.inr _,h=>h
theorem At.le{F F' H H':Hp}{a:Addr}(g:∀b o,F b=some o->F' b=some o)(k:∀o,H a=some o->H' a=some o):∀{o:MO},At F H a o->At F' H' a o
 |.lst _,⟨vs,e,r⟩=>⟨vs,k _ e,r.le g⟩
 |.dct _,⟨ws,e,r⟩=>⟨ws,k _ e,qQ g r⟩
 |.fT _,⟨ws,e,r⟩=>⟨ws,k _ e,qQ g r⟩
 |.ins _ _,⟨ws,⟨dx,e⟩,r⟩=>⟨ws,⟨dx,k _ e⟩,qQ g r⟩
 |.gap _,⟨ws,e,r⟩=>⟨ws,k _ e,Paired.GC r λ_ _ z=>z.le g⟩
 |.lat _ _,⟨vs,⟨q,e⟩,r⟩=>⟨vs,⟨q,k _ e⟩,r.le g⟩
 |.Mb _ _,⟨ws,⟨q,e⟩,r⟩=>⟨ws,⟨q,k _ e⟩,qQ g r⟩
 |.Mc _ _,⟨ws,⟨dx,e⟩,r⟩=>⟨ws,⟨dx,k _ e⟩,Paired.GC r λ_ _ z=>⟨z.1,z.2.le g⟩⟩
theorem At.has{F:Hp}:∀{o:MO},At F H a o->∃u,H a=some u
 |.lst _,⟨_,e,_⟩=>⟨_,e⟩
 |.dct _,⟨_,e,_⟩=>⟨_,e⟩
 |.fT _,⟨_,e,_⟩=>⟨_,e⟩
 |.ins _ _,⟨_,⟨_,e⟩,_⟩=>⟨_,e⟩
 |.gap _,⟨_,e,_⟩=>⟨_,e⟩
 |.lat _ _,⟨_,⟨_,e⟩,_⟩=>⟨_,e⟩
 |.Mb _ _,⟨_,⟨_,e⟩,_⟩=>⟨_,e⟩
 |.Mc _ _,⟨_,⟨_,e⟩,_⟩=>⟨_,e⟩
def gD(K:AAD)(B:Base)(S:SS)(O:St)(H0 F H:Hp)(v:V):U->Prop
 |.t d=>Rep F v d
 |.m o=>∃a,v= .ref a/\H0 a=none/\F a=none/\At F H a o/\¬dw S O a/\B.H a=none
 |.v i=>O[i]? =some (some v)/\∃u,S[i]? =some (some u)
 |.b _=>False
 |.s ns=>∃a,v= .ref a/\QD K H a ns
 |.f a=>v= .ref a
 |.x C k=>vL F v C k
def PE.imp{e:Expr}{t t':TE}(h:PE X e t)(k:∀O H Q,t' O H Q->t O H Q):PE X e t':=λpins s O H Q I q=>h pins s O H Q I (k O H Q q)
def PT.imp{e:Expr}{t t':TT}(h:PT X e t)(k:∀O H Q,t' O H Q->t O H Q):PT X e t':=λpins s O H Q I q=>h pins s O H Q I (k O H Q q)
def PW.imp{e:Expr}{t t':TT}(h:PW X e t)(k:∀O H Q,t' O H Q->t O H Q):PW X e t':=λw pins s O H Q I q=>h w pins s O H Q I (k O H Q q)
def PA.imp{e:BBC}{t t':TA}(h:PA X e t)(k:∀O H Q,t' O H Q->t O H Q):PA X e t':=λp pins s O H Q I q=>h p pins s O H Q I (k O H Q q)
def PS.imp{e:Stmt}{t t':TS}(h:PS X e t)(k:∀D O H,t' D O H->t D O H):PS X e t':=λpins s O H Q I q=>h pins s O H Q I (k Q O H q)
def CT.imp{e:BBH}{t t':TS}(h:CT X e t)(k:∀D O H,t' D O H->t D O H):CT X e t':=λpins s O H Q I q=>h pins s O H Q I (k Q O H q)
def PE.orelse{e:Expr}{t:TE}(h:∀O H Q,t O H Q->∃t',PE X e t'/\t' O H Q):PE X e t:=λpins s O H Q I q=>let⟨_,h1,h2⟩:=h O H Q q;h1 pins s O H Q I h2
def PS.orelse{e:Stmt}{t:TS}(h:∀D O H,t D O H->∃t',PS X e t'/\t' D O H):PS X e t:=λpins s O H Q I q=>let⟨_,h1,h2⟩:=h Q O H q;h1 pins s O H Q I h2
abbrev GE:=SS->Option (U×SS)
abbrev GD:=SS->Option (D×SS)
abbrev GT:=SS->Option (Bool×SS)
abbrev GA:=SS->Option (List D×SS)
inductive Out where
 |nx(S:SS)|rt (u:U) (S:SS)|bk (S:SS)|ct (S:SS)
abbrev GS:=SS->Option Out
inductive tE(K:AAD)(B:Base)(g:GE)(O:St)(H:Hp)(Q:VK):Prop
 |mk(S:SS)(F:Hp)(u:U)(S':SS)(R:Rel K B S O F H)(hg:g S=some (u,S'))(q:∀v F' H',Rel K B S' O F' H'->Step S S' O F H F' H'->gD K B S' O H F' H' v u->Q v H')
inductive tD(K:AAD)(B:Base)(g:GD)(O:St)(H:Hp)(Q:VK):Prop
 |mk(S:SS)(F:Hp)(d:D)(S':SS)(R:Rel K B S O F H)(hg:g S=some (d,S'))(q:∀v F' H',Rel K B S' O F' H'->Step S S' O F H F' H'->Rep F' v d->Q v H')
inductive tQ(K:AAD)(B:Base)(g:GT)(O:St)(H:Hp)(Q:Bool->Hp->Prop):Prop
 |mk(S:SS)(F:Hp)(b:Bool)(S':SS)(R:Rel K B S O F H)(hg:g S=some (b,S'))(q:∀F' H',Rel K B S' O F' H'->Step S S' O F H F' H'->Q b H')
inductive tAs(K:AAD)(B:Base)(g:GA)(O:St)(H:Hp)(Q:List V->Hp->Prop):Prop
 |mk(S:SS)(F:Hp)(ds:List D)(S':SS)(R:Rel K B S O F H)(hg:g S=some (ds,S'))(q:∀vs F' H',Rel K B S' O F' H'->Step S S' O F H F' H'->bE F' vs ds->Q vs H')
def Ja(K:AAD)(B:Base)(F:Hp)(D:Ends):Out->Prop
 |.nx S=>∀O' F' H',Rel K B S O' F' H'->(∀b o,F b=some o->F' b=some o)->D.nx O' H'
 |.bk S=>∀O' F' H',Rel K B S O' F' H'->(∀b o,F b=some o->F' b=some o)->D.bk O' H'
 |.ct S=>∀O' F' H',Rel K B S O' F' H'->(∀b o,F b=some o->F' b=some o)->D.ct O' H'
 |.rt u S=>∀v O' F' H',Rel K B S O' F' H'->(∀b o,F b=some o->F' b=some o)->gD K B S O' B.H F' H' v u->D.rt v H'
inductive tO(K:AAD)(B:Base)(g:GS)(D:Ends)(O:St)(H:Hp):Prop
 |mk(S:SS)(F:Hp)(o:Out)(R:Rel K B S O F H)(hg:g S=some o)(q:Ja K B F D o)
structure JE(X:Cx)(e:Expr)(g:GE):Prop where
 h:∀B,PE X e (tE X.K B g)
structure JD(X:Cx)(e:Expr)(g:GD):Prop where
 h:∀B,PE X e (tD X.K B g)
structure JT(X:Cx)(e:Expr)(g:GT):Prop where
 h:∀B,PT X e (tQ X.K B g)
structure JW(X:Cx)(e:Expr)(g:GT):Prop where
 h:∀B,PW X e (tQ X.K B g)
structure JA(X:Cx)(es:BBC)(g:GA):Prop where
 h:∀B,PA X es (tAs X.K B g)
structure JS(X:Cx)(st:Stmt)(g:GS):Prop where
 h:∀B,PS X st (tO X.K B g)
structure JB(X:Cx)(st:BBH)(g:GS):Prop where
 h:∀B,CT X st (tO X.K B g)
noncomputable def fz:U->SS->Option (D×SS)
 |.t d,S=>some (d,S)
 |.m (.lst ds),S=>some (.lst ds,S)
 |.v i,S=>match S[i]? with
  |some (some (.t d))=>some (d,S)
  |some (some (.m (.lst ds)))=>some (.lst ds,S.set i (some (.t (.lst ds))))
  |_=>none
 |_,_=>none
def get_set{α:Type}{l:List α}{x y:α}(h:(l.set i x)[j]? =some y):(i=j/\x=y/\i<l.length)\/(i≠j/\l[j]? =some y):=by
 by_cases e:i=j
 .subst e;by_cases hl:i<l.length
  .rw[abD hl]at h;exact .inl ⟨rfl,abv h,hl⟩
  .rw[List.getElem?_eq_none (by simpa using hl)]at h;cases h
 .rw[abg e]at h;exact .inr ⟨e,h⟩
def Sub.kg{F:Hp}(s:Sub F H)(h:H a=some o):Sub (upd F a o) H:=λb u e=>by
 by_cases hb:b=a
 .subst hb;rw[aZ]at e;cases e;exact h
 .rw[aR hb]at e;exact s b u e
def Sub.fresh{F:Hp}(s:Sub F H)(h:H p=Option.none):F p=Option.none:=by
 cases e:F p with
 |none=>rfl
 |some o=>have q:=s p o e;rw[h]at q;cases q
def pq{F:Hp}(h:F a=none):∀b u,F b=some u->upd F a o b=some u:=λb u e=>by rw[aR (bJ e h)];exact e
theorem QD.le(k:∀b o u,H b=some (.kg o u)->H' b=some (.kg o u)):QD K H a ns->QD K H' a ns
 |.inl ⟨o,h⟩=>.inl ⟨o,k _ _ _ h⟩
 |.inr h=>.inr h
theorem C4.le{K:AAD}{F F' H H':Hp}{v:V}(g:∀b o,F b=some o->F' b=some o)(kf:∀b o u,H b=some (.kg o u)->H' b=some (.kg o u)):∀{u:U},C4 K F H v u->(∀a,fE u=true->v= .ref a->(∀o,H a=some o->H' a=some o)/\F' a=none)->C4 K F' H' v u
 |.t _,h,_=>Rep.le g h
 |.m _,⟨a,e,_,h⟩,k=>let⟨k1,k2⟩:=k a rfl e;⟨a,e,k2,h.le g k1⟩
 |.b _,⟨a,e,_,h⟩,k=>let⟨k1,k2⟩:=k a rfl e;⟨a,e,k2,h.le g k1⟩
 |.v _,h,_=>h
 |.s _,⟨a,e,h⟩,_=>⟨a,e,h.le kf⟩
 |.f _,h,_=>h
 |.x _ _,h,_=>vL.le g h
def Nc{F:Hp}{v:V}{d:D}(R:Rel K B S O F H)(st:Step S0 S O F0 H0 F H)(r:gD K B S O H0 F H v u)(e:fz u S=some (d,S')):
  ∃F',Rel K B S' O F' H/\Step S0 S' O F0 H0 F' H/\Rep F' v d:=by
 cases u with
 |t d'=>cases e;exact⟨F,R,st,r⟩
 |b o=>cases r
 |s o=>cases e
 |f o=>cases e
 |x cx kx=>cases e
 |m o=>
  cases o with
  |dct kvs=>cases e
  |fT kvs=>cases e
  |ins C kvs=>cases e
  |gap _=>cases e
  |lat _ _=>cases e
  |Mb _ _=>cases e
  |Mc _ _=>cases e
  |lst ds=>
   cases e;obtain⟨a,rfl,h0,hf,⟨vs,ha,rs⟩,nm,hB⟩:=r;have g:=pq (o:=.lst vs) hf;refine⟨upd F a (.lst vs),⟨R.sub.kg ha,R.len,λi u h=>?_,R.Hf,R.own,R.bor,R.par,?_⟩,⟨⟨λb o h=>g b o (st.ext.le b o h),st.ext.keep,λb o h n f=>?_,st.ext.there,st.ext.kg⟩,st.mu,st.slots⟩,.lst (.inl aZ) (rs.le g)⟩
   .obtain⟨w,h1,h2⟩:=R.rep i u h;refine⟨w,h1,h2.le g (λ_ _ _ z=>z) λc hm hc=>⟨λo q=>q,?_⟩⟩;have hca:c≠a:=λz=>nm ⟨i,u,h,hm,by rw[h1,hc,z]⟩;rw[aR hca];cases u with
    |m o=>obtain⟨c',e',f',_⟩:=h2;rw[hc]at e';cases e';exact f'
    |b o=>obtain⟨c',e',f',_⟩:=h2;rw[hc]at e';cases e';exact f'
    |t d=>cases hm
    |v j=>cases hm
    |s j=>cases hm
    |f j=>cases hm
    |x cx kx=>cases hm
   .exact⟨λb o h=>g b o (R.ext.le b o h),R.ext.keep,λb o h n f=>by rw[aR (λz=>by rw[z,hB]at h;cases h)];exact R.ext.kh b o h n f,R.ext.there,R.ext.kg⟩
   .rw[aR (λz=>by rw[z,h0]at h;cases h)];exact st.ext.kh b o h n f
 |v i=>
  obtain⟨hv,u,hu⟩:=r;unfold fz at e;simp only[hu]at e;cases u with
  |t d'=>
   cases e;obtain⟨w,h1,h2⟩:=R.rep i _ hu;rw[hv]at h1;cases h1;exact⟨F,R,st,h2⟩
  |b o=>cases e
  |v j=>cases e
  |s j=>cases e
  |f j=>cases e
  |x cx kx=>cases e
  |m o=>
   cases o with
   |dct kvs=>cases e
   |fT kvs=>cases e
   |ins C kvs=>cases e
   |gap _=>cases e
   |lat _ _=>cases e
   |Mb _ _=>cases e
   |Mc _ _=>cases e
   |lst ds=>
    cases e;obtain⟨w,h1,a,rfl,hf,⟨vs,ha,rs⟩⟩:=R.rep i _ hu;have hiv:O[i]? =some (some (.ref a)):=h1;rw[hv]at h1;cases h1;have hB:=R.own i _ a hu hiv;have g:=pq (o:=.lst vs) hf;have back:∀j w,(S.set i (AAA (.lst ds)))[j]? =some (some w)->fE w=true->i≠j/\S[j]? =some (some w):=λj w h hm=>by
     rcases get_set h with⟨_,q,_⟩|q
     .cases q;cases hm
     .exact q
    have mu:∀c,dw (S.set i (AAA (.lst ds))) O c->dw S O c:=λc ⟨j,w,h,hm,z⟩=>⟨j,w,(back j w h hm).2,hm,z⟩
    refine⟨upd F a (.lst vs),⟨R.sub.kg ha,by rw[acT];exact R.len,λj u h=>?_,λj k u w c h1 m1 h2 m2=>R.Hf j k u w c (back j u h1 m1).2 m1 (back k w h2 m2).2 m2,λj o c h=>R.own j o c (back j _ h rfl).2,λj o c h=>R.bor j o c (back j _ h rfl).2,λj c h=>?_,?_⟩,
     ⟨⟨λb o h=>g b o (st.ext.le b o h),st.ext.keep,λb o h n f=>?_,st.ext.there,st.ext.kg⟩,λc q=>st.mu c (mu c q),λj u h=>?_⟩,.lst (.inl aZ) (rs.le g)⟩
    .rcases get_set h with⟨rfl,q,_⟩|⟨ne,q⟩
     .cases q;exact⟨.ref a,hiv,.lst (.inl aZ) (rs.le g)⟩
     .obtain⟨w,h1,h2⟩:=R.rep j u q;refine⟨w,h1,h2.le g (λ_ _ _ z=>z) λc hm hc=>⟨λo q=>q,?_⟩⟩;have hca:c≠a:=λz=>ne (R.Hf i j _ u a hu rfl q hm hiv (by rw[h1,hc,z]));rw[aR hca];cases u with
      |m o=>obtain⟨c',e',f',_⟩:=h2;rw[hc]at e';cases e';exact f'
      |b o=>obtain⟨c',e',f',_⟩:=h2;rw[hc]at e';cases e';exact f'
      |t d=>cases hm
      |v j=>cases hm
      |s j=>cases hm
      |f j=>cases hm
      |x cx kx=>cases hm
    .obtain⟨h1,o,h2⟩:=R.par j c h;refine⟨h1,o,?_⟩;have ne:i≠j:=λz=>by subst z;rw[hu]at h2;cases h2
     rw[abg ne];exact h2
    .exact⟨λb o h=>g b o (R.ext.le b o h),R.ext.keep,λb o h n f=>by rw[aR (λz=>by rw[z,hB]at h;cases h)];exact R.ext.kh b o h n f,R.ext.there,R.ext.kg⟩
    .have hb:b≠a:=λz=>n (st.mu b ⟨i,_,hu,rfl,by rw[z];exact hiv⟩);rw[aR hb];exact st.ext.kh b o h n f
    .obtain⟨u',h'⟩:=st.slots j u h;by_cases hj:i=j
     .subst hj;exact⟨.t (.lst ds),abD (aaA.mp h').1⟩
     .exact⟨u',by rw[abg hj];exact h'⟩
def eF(g:GE):GD:=λS=>(g S).bind λp=>fz p.1 p.2
def JE.d{X:Cx}{e:Expr}{g:GE}(h:JE X e g):JD X e (eF g):=⟨λB=>(h.h B).imp λO H Q hh=>by
 obtain⟨S,F,d,S',R,hg,q⟩:=hh;unfold eF at hg;cases e1:g S with
 |none=>rw[e1]at hg;cases hg
 |some p=>
  obtain⟨u,S1⟩:=p;rw[e1]at hg;refine⟨S,F,u,S1,R,e1,λv F1 H1 R1 st1 r1=>?_⟩;obtain⟨F2,R2,st2,r2⟩:=Nc R1 st1 r1 hg;exact q v F2 H1 R2 st2 r2⟩
noncomputable def eT(g:GD):GE:=λS=>(g S).map λp=>(.t p.1,p.2)
def JD.e{X:Cx}{e:Expr}{g:GD}(h:JD X e g):JE X e (eT g):=⟨λB=>(h.h B).imp λO H Q hh=>by
 obtain⟨S,F,u,S',R,hg,q⟩:=hh;unfold eT at hg;cases e1:g S with
 |none=>rw[e1]at hg;cases hg
 |some p=>
  obtain⟨d,S1⟩:=p;rw[e1]at hg;cases hg;exact⟨S,F,d,S1,R,e1,λv F1 H1 R1 st1 r1=>q v F1 H1 R1 st1 r1⟩⟩
structure fW(F H F' H':Hp):Prop where
 le:∀b o,F b=some o->F' b=some o
 same:∀b o,H b=some o->H' b=some o
 kh:∀b o,H b=some o->F b=none->F' b=none
def fW.refl(F H:Hp):fW F H F H:=⟨λ_ _ h=>h,λ_ _ h=>h,λ_ _ _ h=>h⟩
def fW.trans{F F2 H2:Hp}(x:fW F H F1 H1)(y:fW F1 H1 F2 H2):fW F H F2 H2:=
 ⟨λb o h=>y.le b o (x.le b o h),λb o h=>y.same b o (x.same b o h),λb o h f=>y.kh b o (x.same b o h) (x.kh b o h f)⟩
def fW.step{F:Hp}(n:fW F H F' H'):Step S S O F H F' H':=
 ⟨⟨n.le,λb o h _=>n.same b o h,λb o h _ f=>n.kh b o h f,λb o h=>⟨o,n.same b o h⟩,λb o u h=>n.same b _ h⟩,λ_ h=>h,λ_ u h=>⟨u,h⟩⟩
def fW.obj{F:Hp}(h:H p=none)(o:HO):fW F H F (upd H p o):=
 ⟨λ_ _ q=>q,λb u q=>by rw[aR (bJ q h)];exact q,λ_ _ _ q=>q⟩
theorem Rd.same{u:HO}(k:∀b o,H b=some o->H' b=some o):Rd H a u->Rd H' a u
 |.inl h=>.inl (k _ _ h)
 |.inr ⟨o,h⟩=>.inr ⟨o,k _ _ h⟩
def Sub.same{F:Hp}(s:Sub F H)(k:∀b o,H b=some o->H' b=some o):Sub F H':=λa o e=>k a o (s a o e)
def Sub.wZ{F:Hp}(s:Sub F H)(h:H p=none):Sub (upd F p o) (upd H p o):=λb u e=>by
 by_cases hb:b=p
 .subst hb;rw[aZ]at e;cases e;exact aZ
 .rw[aR hb]at e;have q:=s b u e;rw[aR (bJ q h)];exact q
def fW.root{F:Hp}(s:Sub F H)(h:H p=none)(o:HO):fW F H (upd F p o) (upd H p o):=
 ⟨pq (s.fresh h),λb u q=>by rw[aR (bJ q h)];exact q,λb u q f=>by rw[aR (bJ q h)];exact f⟩
def Rel.has{K:AAD}{B:Base}{S:SS}{O:St}{F H:Hp}(R:Rel K B S O F H){a:Addr}(m:dw S O a):∃o,H a=some o:=by
 obtain⟨i,u,h,hm,hv⟩:=m;obtain⟨v,h1,h2⟩:=R.rep i u h;rw[hv]at h1;cases h1;cases u with
 |t d=>cases hm
 |v j=>cases hm
 |s j=>cases hm
 |f j=>cases hm
 |x cx kx=>cases hm
 |m o=>obtain⟨b,e,_,h⟩:=h2;cases e;exact h.has
 |b o=>obtain⟨b,e,_,h⟩:=h2;cases e;exact h.has
def Rel.new{F:Hp}(R:Rel K B S O F H)(n:fW F H F' H')(s:Sub F' H'):Rel K B S O F' H' where
 sub:=s
 len:=R.len
 rep:=λi u h=>by
  obtain⟨v,h1,h2⟩:=R.rep i u h;refine⟨v,h1,h2.le n.le (λb o u z=>n.same b _ z) λa hm ha=>⟨λo q=>n.same a o q,?_⟩⟩;obtain⟨o,ho⟩:=R.has ⟨i,u,h,hm,by rw[h1,ha]⟩;refine n.kh a o ho ?_;cases u with
  |t d=>cases hm
  |v j=>cases hm
  |s j=>cases hm
  |f j=>cases hm
  |x cx kx=>cases hm
  |m o=>obtain⟨b,e,f,_⟩:=h2;rw[ha]at e;cases e;exact f
  |b o=>obtain⟨b,e,f,_⟩:=h2;rw[ha]at e;cases e;exact f
 Hf:=R.Hf
 own:=R.own
 bor:=R.bor
 par:=R.par
 ext:=⟨λb o h=>n.le b o (R.ext.le b o h),λb o h m=>n.same b o (R.ext.keep b o h m),λb o h m f=>n.kh b o (R.ext.keep b o h m) (R.ext.kh b o h m f),λb o h=>let⟨o',h'⟩:=R.ext.there b o h;⟨o',n.same b o' h'⟩,λb o u h=>n.same b _ (R.ext.kg b o u h)⟩
def KQ(H0 F H:Hp)(v:V):U->Prop
 |.t d=>Rep F v d
 |.m o=>∃a,v= .ref a/\H0 a=none/\F a=none/\At F H a o
 |_=>False
def none_of(t:∀b o,H b=some o->∃o',H' b=some o')(h:H' a=none):H a=none:=by
 cases e:H a with
 |none=>rfl
 |some o=>obtain⟨o',h'⟩:=t a o e;rw[h]at h';cases h'
def KQ.Nf{F:Hp}{v:V}(R:Rel K B S O F1 H1)(st:Step S0 S O F0 H0 F1 H1)(r:KQ H1 F H v u):gD K B S O H0 F H v u:=by
 cases u with
 |t d=>exact r
 |b o=>cases r
 |v i=>cases r
 |s i=>cases r
 |f i=>cases r
 |x cx kx=>cases r
 |m o=>
  obtain⟨a,e,h0,f,h⟩:=r;refine⟨a,e,none_of st.ext.there h0,f,h,λm=>?_,none_of R.ext.there h0⟩;obtain⟨o,ho⟩:=R.has m;rw[h0]at ho;cases ho
inductive rP(f:List D->Option U)(xs:List V)(H:Hp)(Q:VK):Prop
 |mk(F:Hp)(ds:List D)(u:U)(s:Sub F H)(r:bE F xs ds)(hf:f ds=some u)(q:∀v F' H',fW F H F' H'->Sub F' H'->KQ H F' H' v u->Q v H')
noncomputable def Cb:D->Bool
 |.tup _=>false
 |.lst _=>false
 |_=>true
noncomputable def toV:D->V
 |.bl b=>.bl b
 |.int i=>.int i
 |.str z=>.str z
 |_=>.cD
theorem EH{F:Hp}:∀{d:D},Cb d=true->Rep F (toV d) d
 |.cD,_=>.cD
 |.bl b,_=>.bl b
 |.int i,_=>.int i
 |.str z,_=>.str z
 |.tup _,h=>by cases h
 |.lst _,h=>by cases h
noncomputable def ao(i:Nat):GE:=λS=>match S[i]? with
 |some (some (.t d))=>some (.t d,S)
 |some (some (.s d))=>some (.s d,S)|some (some (.f d))=>some (.f d,S)|some (some (.x C k))=>some (.x C k,S)
 |some (some _)=>some (.v i,S)
 |_=>none
noncomputable def eC(d:D):GD:=λS=>some (d,S)
noncomputable def ak:GA:=λS=>some ([],S)
noncomputable def aa(g:GD)(ga:GA):GA:=λS=>(g S).bind λp=>(ga p.2).map λq=>(p.1::q.1,q.2)
noncomputable def eP(f:List D->Option U)(ga:GA):GE:=λS=>(ga S).bind λp=>(f p.1).map λu=>(u,p.2)
section
variable {X:Cx}{a b e:Expr}{es:BBC}{pos p:Pos}{x:Str}{g ga gb:GD}{gA:GA}{f:List D->Option U}
def cA(i:Nat)(hN:X.N[i]? =some x:=by rfl)(hv:wR X.env.scope x:=by trivial)(hd:BBT x:=by decide)
  (hcd:BBU x:=by decide):JE X (.Name x pos) (ao i):=⟨λB=>(dG hN hv hd hcd).imp λO H Q hh=>by
 obtain⟨S,F,u,S',R,hg,q⟩:=hh;unfold ao at hg;cases hs:S[i]? with
 |none=>rw[hs]at hg;cases hg
 |some o=>
  cases o with
  |none=>rw[hs]at hg;cases hg
  |some w=>
   rw[hs]at hg;obtain⟨v,h1,h2⟩:=R.rep i w hs;refine⟨v,h1,?_⟩;cases w with
   |t d=>cases hg;exact q v F H R (Step.refl ..) h2
   |m o=>cases hg;exact q v F H R (Step.refl ..) ⟨h1,_,hs⟩
   |b o=>cases hg;exact q v F H R (Step.refl ..) ⟨h1,_,hs⟩
   |s j=>cases hg;exact q v F H R (Step.refl ..) h2
   |f j=>cases hg;exact q v F H R (Step.refl ..) h2
   |x cx kx=>cases hg;exact q v F H R (Step.refl ..) h2
   |v j=>cases hg;exact q v F H R (Step.refl ..) ⟨h1,_,hs⟩⟩
def KR{d:D}(hf:Cb d=true)(h:PE X e (tC (toV d))):JD X e (eC d):=⟨λB=>h.imp λO H Q hh=>by
 obtain⟨S,F,u,S',R,hg,q⟩:=hh;cases hg;exact q _ F H R (Step.refl ..) (EH hf)⟩
def aC {i j}:JD X (.Constant (.int i) j pos) (eC (.int i)):=KR rfl Mw
def eG {i j}:JD X (.Constant (.bool i) j pos) (eC (.bl i)):=KR rfl XC
def pA {j}:JD X (.Constant .none j pos) (eC .cD):=KR rfl Uj
def aU {i j}:JD X (.Constant (.str i) j pos) (eC (.str i)):=KR rfl Mx
def aX:JA X [] ak:=⟨λB=>wW.imp λO H Q hh=>by
 obtain⟨S,F,u,S',R,hg,q⟩:=hh;cases hg;exact q [] F H R (Step.refl ..) .nil⟩
def ah{α β:Type}{o:Option α}{f:α->Option β}{y:β}(h:o.bind f=some y):∃z,o=some z/\f z=some y:=by
 cases o with
 |none=>cases h
 |some z=>exact⟨z,rfl,h⟩
def aB{α β:Type}{o:Option α}{f:α->β}{y:β}(h:o.map f=some y):∃z,o=some z/\f z=y:=by
 cases o with
 |none=>cases h
 |some z=>exact⟨z,rfl,abv h⟩
def aq(h:JD X e g)(hr:JA X es gA)(hs:starEach (e::es) X.env=(false,eval e X.env)::starEach es X.env:=by rfl):JA X (e::es) (aa g gA):=
 ⟨λB=>(mR (h.h B) (hr.h B) hs).imp λO H Q hh=>by
 obtain⟨S,F,u,S',R,hg,q⟩:=hh;obtain⟨⟨d,S1⟩,h1,hg⟩:=ah hg;obtain⟨⟨ds,S2⟩,h2,hg⟩:=aB hg;cases hg;exact⟨S,F,d,S1,R,h1,λv F1 H1 R1 st1 r1=>⟨S1,F1,ds,S2,R1,h2,λvs F2 H2 R2 st2 r2=>q _ F2 H2 R2 (st1.trans st2) (.cons (r1.le st2.ext.le) r2)⟩⟩⟩
def lT{Q:VK}{r:List V->Hp->VK->Prop}(hr:∀vs H1 Q1,rP f vs H1 Q1->r vs H1 Q1)(h:tE K B (eP f gA) O H Q):tAs K B gA O H λvs H1=>r vs H1 Q:=by
 obtain⟨S,F,u,S',R,hg,q⟩:=h;obtain⟨⟨ds,S1⟩,h1,hg⟩:=ah hg;obtain⟨u',h2,hg⟩:=aB hg;cases hg;exact⟨S,F,ds,S1,R,h1,λvs F1 H1 R1 st1 r1=>hr _ _ _ ⟨F1,ds,_,R1.sub,r1,h2,λv F2 H2 n s2 r2=>q v F2 H2 (R1.new n s2) (st1.trans n.step) (r2.Nf R1 st1)⟩⟩
def gF{id:String}(hc:fU X (.builtin id) (rP f))(hg:Gl X x)(hm:X.mg x=none)(hv:bootBuiltins x=some (.builtin id))(ha:JA X (e::es) gA)(hn:x≠"__name__":=by decide)(hdb:BBT x:=by decide)
  (he:starEach (e::es) X.env=(false,eval e X.env)::starEach es X.env:=by rfl)(hpl:(backTo pos (starEach es X.env)).any (·.1)=false:=by rfl):JE X (.Call (.Name x p) (e::es) [] pos) (eP f gA):=
 ⟨λB=>(n8 hc hg hm hv (ha.h B) hn hdb he hpl).imp λO H Q h=>lT (λ_ _ _ z=>z) h⟩
def tw(hc:fU X (.type T) (rP f))(hg:Gl X x)(hm:X.mg x=none)(hv:bootBuiltins x=some (.type T))(ha:JA X (e::es) gA)(hn:x≠"__name__":=by decide)(hdb:BBT x:=by decide)
  (he:starEach (e::es) X.env=(false,eval e X.env)::starEach es X.env:=by rfl)(hpl:(backTo pos (starEach es X.env)).any (·.1)=false:=by rfl):JE X (.Call (.Name x p) (e::es) [] pos) (eP f gA):=
 ⟨λB=>(KA hc hg hm hv (ha.h B) hn hdb he hpl).imp λO H Q h=>lT (λ_ _ _ z=>z) h⟩
abbrev Bv(X:Cx)(o:Value->Value->Sem Value)(f:List D->Option U):Prop:=zp X o (λx y H Q=>rP f [x,y] H Q)
def vM{Q:VK}(h:tE K B (eP f (aa ga (aa gb ak))) O H Q):WX (λx y H Q=>rP f [x,y] H Q) (tD K B ga) (tD K B gb) O H Q:=by
 obtain⟨S,F,u,S',R,hg,q⟩:=h;obtain⟨⟨ds,S1⟩,h1,hg⟩:=ah hg;obtain⟨u',h2,hg⟩:=aB hg;cases hg;obtain⟨⟨d1,T1⟩,k1,h1⟩:=ah h1;obtain⟨⟨ds2,T2⟩,k2,h1⟩:=aB h1;cases h1;obtain⟨⟨d2,T3⟩,k3,k2⟩:=ah k2;obtain⟨⟨ds3,T4⟩,k4,k2⟩:=aB k2;cases k2;cases k4;exact⟨S,F,d1,T1,R,k1,λv1 F1 H1 R1 st1 r1=>⟨T1,F1,d2,_,R1,k3,λv2 F2 H2 R2 st2 r2=>⟨F2,_,_,R2.sub,.cons (r1.le st2.ext.le) (.cons r2 .nil),h2,λv F3 H3 n s3 r3=>q v F3 H3 (R2.new n s3) ((st1.trans st2).trans n.step) (r3.Nf R2 (st1.trans st2))⟩⟩⟩
def bL(ho:Bv X (binaryOp op) f)(ha:JD X a ga)(hb:JD X b gb):JE X (.BinOp a op b pos) (eP f (aa ga (aa gb ak))):=
 ⟨λB=>(XU ho (ha.h B) (hb.h B)).imp λO H Q h=>vM h⟩
def cW{op:CmpOp}(ho:Bv X (compareOp op) f)(ha:JD X a ga)(hb:JD X b gb)(hm:behindInMarks op b=false:=by first|exact MF _|rfl):JE X (.Compare a [op] [b] pos) (eP f (aa ga (aa gb ak))):=
 ⟨λB=>(P7 ho (ha.h B) (hb.h B) hm).imp λO H Q h=>vM h⟩
def Jb{op:UnaryOp}(ho:XT X (unaryOp op) (λx H Q=>rP f [x] H Q))(ha:JD X a ga):JE X (.UnaryOp op a pos) (eP f (aa ga ak)):=
 ⟨λB=>(XW ho (ha.h B)).imp λO H Q h=>by
 obtain⟨S,F,u,S',R,hg,q⟩:=h;obtain⟨⟨ds,S1⟩,h1,hg⟩:=ah hg;obtain⟨u',h2,hg⟩:=aB hg;cases hg;obtain⟨⟨d1,T1⟩,k1,h1⟩:=ah h1;obtain⟨⟨ds2,T2⟩,k2,h1⟩:=aB h1;cases h1;cases k2;exact⟨S,F,d1,_,R,k1,λv1 F1 H1 R1 st1 r1=>⟨F1,_,_,R1.sub,.cons r1 .nil,h2,λv F3 H3 n s3 r3=>q v F3 H3 (R1.new n s3) (st1.trans n.step) (r3.Nf R1 st1)⟩⟩⟩
def zT(hr:MU X (λx y H Q=>rP f [x,y] H Q))(ha:JD X a ga)(hb:JD X b gb)(hs:zq b):JE X (.Subscript a b pos) (eP f (aa ga (aa gb ak))):=
 ⟨λB=>(IV hr (ha.h B) (hb.h B) hs).imp λO H Q h=>vM h⟩
noncomputable def cK:List D->Option U:=λds=>if ds.length<=100000 then AAA (.tup ds) else none
noncomputable def kj:List D->Option U:=λds=>if ds.length<=100000 then AAB ds else none
def lA(h:n<=100000):n<=sizeLine:=aaC h (by decide)
end
section
variable {X:Cx}{a b c e:Expr}{es:BBC}{pos p:Pos}{g ga gb gc:GD}{gA:GA}{f f':List D->Option U}
def bU {x1}(h:JA X es gA):JE X (.Tuple es x1 pos) (eP cK gA):=
 ⟨λB=>(UM (h.h B)).imp λO H Q z=>lT (r:=λxs H1 Q=>xs.length<=sizeLine/\∀p,H1 p=none->Q (.ref p) (upd H1 p (.tup xs))) (λvs H1 Q1 hh=>by
 obtain⟨F,ds,u,sb,rs,hf,q⟩:=hh;unfold cK at hf;split at hf
 .rename_i hl;cases hf;refine⟨by rw[rs.length];exact lA hl,λp hp=>?_⟩;exact q _ _ _ (fW.root sb hp _) (sb.wZ hp) (.tup aZ (rs.le (pq (sb.fresh hp))))
 .cases hf) z⟩
def gG(h:JA X es gA):JE X (.List es pos) (eP kj gA):=
 ⟨λB=>(UN (h.h B)).imp λO H Q z=>lT (r:=λxs H1 Q=>xs.length<=sizeLine/\∀p,H1 p=none->Q (.ref p) (upd H1 p (.lst xs))) (λvs H1 Q1 hh=>by
 obtain⟨F,ds,u,sb,rs,hf,q⟩:=hh;unfold kj at hf;split at hf
 .rename_i hl;cases hf;refine⟨by rw[rs.length];exact lA hl,λp hp=>?_⟩;exact q _ F _ (fW.obj hp _) (sb.same (fW.obj (F:=F) hp _).same) ⟨p,rfl,hp,sb.fresh hp,vs,aZ,rs⟩
 .cases hf) z⟩
noncomputable def qB(g:GD):GT:=λS=>(g S).bind λp=>match p.1 with
 |.bl k=>some (k,p.2)
 |_=>none
noncomputable def qx(g:GT):GT:=λS=>(g S).map λp=>(!p.1,p.2)
noncomputable def qy(g h:GT):GT:=λS=>(g S).bind λp=>if p.1 then h p.2 else some (false,p.2)
noncomputable def nu(g h:GT):GT:=λS=>(g S).bind λp=>if p.1 then some (true,p.2) else h p.2
noncomputable def eQ(g:GT):GD:=λS=>(g S).map λp=>(.bl p.1,p.2)
def lB(h:qB g S=some (k,S')):g S=some (.bl k,S'):=by
 obtain⟨⟨d,S1⟩,h1,h⟩:=ah h;cases d<;>cases h
 exact h1
def iX{F:Hp}{v:V}(r:Rep F v (.bl k)):v= .bl k:=by cases r;rfl
def eL{F:Hp}{v:V}{i:Int}(r:Rep F v (.int i)):v= .int i:=by cases r;rfl
def Jc{F:Hp}{v:V}{i:Str}(r:Rep F v (.str i)):v= .str i:=by cases r;rfl
def QE{F:Hp}{v:V}(r:Rep F v .cD):v= .cD:=by cases r;rfl
def iA(h:JD X e g)(he:∀whole,isTrue e X.env whole=(do let v <-whole;standAt e.pos;holding [v] (truthy v)):=by intro _;rfl):JT X e (qB g):=
 ⟨λB=>(Ul (h.h B) he).imp λO H Q ⟨S,F,k,S',R,hg,q⟩=>⟨S,F,.bl k,S',R,lB hg,λv F' H' R' st r=>⟨k,iX r,q F' H' R' st⟩⟩⟩
def Yz{gE:GE}{Q:VK}(h:tD K B (eF gE) O H Q):tE K B gE O H Q:=by
 obtain⟨S,F,d,S',R,hg,q⟩:=h;obtain⟨⟨u,S1⟩,h1,hg⟩:=ah hg;refine⟨S,F,u,S1,R,h1,λv F1 H1 R1 st1 r1=>?_⟩;obtain⟨F2,R2,st2,r2⟩:=Nc R1 st1 r1 hg;exact q v F2 H1 R2 st2 r2
def bx{op:CmpOp}(ho:Bv X (compareOp op) f)(ha:JD X a ga)(hb:JD X b gb)(hm:behindInMarks op b=false:=by first|exact MF _|rfl):JT X (.Compare a [op] [b] pos) (qB (eF (eP f (aa ga (aa gb ak))))):=
 ⟨λB=>(P8 ho (ha.h B) (hb.h B) hm).imp λO H Q ⟨S,F,k,S',R,hg,q⟩=>vM (Yz ⟨S,F,.bl k,S',R,lB hg,λv F' H' R' st r=>⟨k,iX r,q F' H' R' st⟩⟩)⟩
def kL(h:JT X a q1):JT X (.UnaryOp .Not a pos) (qx q1):=
 ⟨λB=>(Um (h.h B)).imp λO H Q hh=>by
 obtain⟨S,F,k,S',R,hg,q⟩:=hh;obtain⟨⟨d,S1⟩,h1,hg⟩:=aB hg;cases hg;exact⟨S,F,d,_,R,h1,λF' H' R' st=>q F' H' R' st⟩⟩
def cy(h:JT X a q1):JW X (.BoolOp .Or [a] pos) q1:=⟨λB=>pw_or1 (h.h B)⟩
def fG(h:JT X a q1)(hr:JW X (.BoolOp .Or (b::r) pos) q2):JW X (.BoolOp .Or (a::b::r) pos) (nu q1 q2):=
 ⟨λB=>(pw_or (h.h B) (hr.h B)).imp λO H Q hh=>by
 obtain⟨S,F,k,S',R,hg,q⟩:=hh;obtain⟨⟨d,S1⟩,h1,hg⟩:=ah hg;refine⟨S,F,d,S1,R,h1,λF1 H1 R1 st1=>?_⟩;cases d with
 |false=>exact G4 ⟨S1,F1,k,S',R1,hg,λF2 H2 R2 st2=>q F2 H2 R2 (st1.trans st2)⟩
 |true=>cases hg;exact G5 (q F1 H1 R1 st1)⟩
def JW.t(h:JW X e q1):JT X e q1:=⟨λB=>(h.h B).pt⟩
def gj {op}(h:JD X a g):JD X (.BoolOp op [a] pos) (eQ (qB g)):=⟨λB=>(Uo (h.h B)).imp λO H Q hh=>by
 obtain⟨S,F,k,S',R,hg,q⟩:=hh;obtain⟨⟨d,S1⟩,h1,hg⟩:=aB hg;cases hg;exact⟨S,F,.bl d,_,R,lB h1,q⟩⟩
def iB(h:JD X a g)(hr:JD X (.BoolOp .And (b::r) pos) (eQ q2)):JD X (.BoolOp .And (a::b::r) pos) (eQ (qy (qB g) q2)):=
 ⟨λB=>(Up (h.h B) (hr.h B)).imp λO H Q hh=>by
 obtain⟨S,F,k,S',R,hg,q⟩:=hh;obtain⟨⟨d,S1⟩,h1,hg⟩:=aB hg;cases hg;obtain⟨⟨d1,S2⟩,h1,h2⟩:=ah h1;refine⟨S,F,.bl d1,S2,R,lB h1,λv F1 H1 R1 st1 r1=>⟨d1,iX r1,?_⟩⟩;cases d1 with
 |true=>
  have h2:q2 S2=some (d,S1):=h2;exact G5 ⟨S2,F1,.bl d,S1,R1,by show(q2 S2).map _=_;rw[h2];rfl,λv F2 H2 R2 st2 r2=>q v F2 H2 R2 (st1.trans st2) r2⟩
 |false=>cases h2;exact G4 (q _ F1 H1 R1 st1 (.bl false))⟩
def Jd(h:JD X a g)(hr:JD X (.BoolOp .Or (b::r) pos) (eQ q2)):JD X (.BoolOp .Or (a::b::r) pos) (eQ (nu (qB g) q2)):=
 ⟨λB=>(XF (h.h B) (hr.h B)).imp λO H Q hh=>by
 obtain⟨S,F,k,S',R,hg,q⟩:=hh;obtain⟨⟨d,S1⟩,h1,hg⟩:=aB hg;cases hg;obtain⟨⟨d1,S2⟩,h1,h2⟩:=ah h1;refine⟨S,F,.bl d1,S2,R,lB h1,λv F1 H1 R1 st1 r1=>⟨d1,iX r1,?_⟩⟩;cases d1 with
 |false=>
  have h2:q2 S2=some (d,S1):=h2;exact G4 ⟨S2,F1,.bl d,S1,R1,by show(q2 S2).map _=_;rw[h2];rfl,λv F2 H2 R2 st2 r2=>q v F2 H2 R2 (st1.trans st2) r2⟩
 |true=>cases h2;exact G5 (q _ F1 H1 R1 st1 (.bl true))⟩
def U4(h:JD X a g):JD X (.UnaryOp .Not a pos) (eQ (qx (qB g))):=⟨λB=>(Uq (h.h B)).imp λO H Q hh=>by
 obtain⟨S,F,k,S',R,hg,q⟩:=hh;obtain⟨⟨d,S1⟩,h1,hg⟩:=aB hg;cases hg;obtain⟨⟨d1,S2⟩,h3,h2⟩:=aB h1;cases h2;exact⟨S,F,.bl d1,_,R,lB h3,λv F1 H1 R1 st1 r1=>⟨d1,iX r1,q _ F1 H1 R1 st1 (.bl _)⟩⟩⟩
noncomputable def eIf(q:GT)(g h:GE):GE:=λS=>(q S).bind λp=>if p.1 then g p.2 else h p.2
theorem gD.weak{F:Hp}{v:V}(t:∀b o,H0 b=some o->∃o',H1 b=some o'):∀{u:U},gD K B S O H1 F H v u->gD K B S O H0 F H v u
 |.t _,h=>h
 |.s _,h=>h
 |.f _,h=>h
 |.x _ _,h=>h
 |.m _,⟨a,e,h0,h⟩=>⟨a,e,none_of t h0,h⟩
 |.v _,h=>h
 |.b _,h=>h
def Tj{g1 g2:GE}(hc:JT X c q1)(ha:JE X a g1)(hb:JE X b g2):JE X (.IfExp c a b pos) (eIf q1 g1 g2):=
 ⟨λB=>(My (hc.h B) (ha.h B) (hb.h B)).imp λO H Q hh=>by
 obtain⟨S,F,u,S',R,hg,q⟩:=hh;obtain⟨⟨d,S1⟩,h1,hg⟩:=ah hg;refine⟨S,F,d,S1,R,h1,λF1 H1 R1 st1=>?_⟩;cases d with
 |true=>exact G5 ⟨S1,F1,u,S',R1,hg,λv F2 H2 R2 st2 r2=>q v F2 H2 R2 (st1.trans st2) (r2.weak st1.ext.there)⟩
 |false=>exact G4 ⟨S1,F1,u,S',R1,hg,λv F2 H2 R2 st2 r2=>q v F2 H2 R2 (st1.trans st2) (r2.weak st1.ext.there)⟩⟩
noncomputable def eCh(f f':List D->Option U)(ga gb gc:GD):GD:=λS=>(ga S).bind λp=>(gb p.2).bind λq=>match f [p.1,q.1] with
 |some (.t (.bl k))=>if k then(gc q.2).bind λr=>match f' [q.1,r.1] with
   |some (.t (.bl k'))=>some (.bl k',r.2)
   |_=>none
  else some (.bl false,q.2)
 |_=>none
end
def cj{α:Type}{c:Prop}{i:Decidable c}{x w:α}(h:(@ite _ c i (some x) none)=some w):c/\x=w:=by
 by_cases hc:c
 .rw[if_pos hc]at h;exact⟨hc,abv h⟩
 .rw[if_neg hc]at h;cases h
def fc{α:Type}{c:Prop}{i:Decidable c}{x:Option α}{w:α}(h:(@ite _ c i x none)=some w):c/\x=some w:=by
 by_cases hc:c
 .rw[if_pos hc]at h;exact⟨hc,h⟩
 .rw[if_neg hc]at h;cases h
def Ng{F:Hp}{x:V}(r:bE F [x] ds):∃d,ds=[d]/\Rep F x d:=by
 cases r with
 |cons r rs=>cases rs;exact⟨_,rfl,r⟩
def qR{F:Hp}{x y:V}(r:bE F [x,y] ds):∃d e,ds=[d,e]/\Rep F x d/\Rep F y e:=by
 cases r with
 |cons r rs=>obtain⟨e,rfl,r2⟩:=Ng rs;exact⟨_,e,rfl,r,r2⟩
noncomputable def Me(C:Int->Int->Bool)(h:Int->Int->D):List D->Option U
 |[.int i,.int j]=>if C i j then some (.t (h i j)) else none
 |_=>none
section
variable {X:Cx}
def vN{o:Value->Value->Sem Value}{C:Int->Int->Bool}{h:Int->Int->D}{r:R2}(hr:zp X o r)(k:∀i j H Q,C i j=true->Q (toV (h i j)) H->r (.int i) (.int j) H Q)(hf:∀i j,Cb (h i j)=true):Bv X o (Me C h):=by
 intro pins s O H x y v u Q I rx ry ⟨F,ds,w,sb,rs,hw,q⟩;obtain⟨d,e,rfl,r1,r2⟩:=qR rs;cases r1<;>cases r2<;>try (simp[Me]at hw;done)
 rename_i i j;obtain⟨hc,rfl⟩:=cj hw;exact hr pins s O H _ _ v u Q I rx ry (k i j H Q hc (q _ F H (fW.refl ..) sb (EH (hf i j))))
abbrev uo:=Me (λ_ _=>true) λi j=>.int (i-j)
abbrev QF:=Me (λ_ _=>true) λi j=>.bl (decide (i<j))
abbrev KS:=Me (λ_ _=>true) λi j=>.bl (decide (i<=j))
abbrev Tn:=Me (λ_ _=>true) λi j=>.bl (decide (j<i))
abbrev fGe:=Me (λ_ _=>true) λi j=>.bl (decide (j<=i))
abbrev Nh:=Me (λ_ j=>decide (0<j) && decide (j<1073741824)) λi j=>.int (i / j)
abbrev EI:=Me (λ_ j=>decide (0<j)) λi j=>.int (i % j)
abbrev YA:=Me (λi j=>decide (0<=j) && (decide (j<=1000) && decide (i.natAbs<2 ^ 64))) λi j=>.int (i ^ j.toNat)
def jj:Bv X (binaryOp .Sub) uo:=vN UB (λi j H Q _ q=>⟨i,j,rfl,rfl,q⟩) λ_ _=>rfl
def qT:Bv X (compareOp .Lt) QF:=vN XZ (λi j H Q _ q=>⟨i,j,rfl,rfl,q⟩) λ_ _=>rfl
def kM:Bv X (compareOp .LtE) KS:=vN X0 (λi j H Q _ q=>⟨i,j,rfl,rfl,q⟩) λ_ _=>rfl
def uQ:Bv X (compareOp .Gt) Tn:=vN X3 (λi j H Q _ q=>⟨i,j,rfl,rfl,q⟩) λ_ _=>rfl
def Hg:Bv X (compareOp .GtE) fGe:=vN X4 (λi j H Q _ q=>⟨i,j,rfl,rfl,q⟩) λ_ _=>rfl
def zu:Bv X (binaryOp .FloorDiv) Nh:=vN P5 (λi j H Q c q=>⟨i,j,rfl,rfl,by simpa[XY] using c,q⟩) λ_ _=>rfl
def pB:Bv X (binaryOp .Mod) EI:=vN UD (λi j H Q c q=>⟨i,j,rfl,rfl,by simpa using c,q⟩) λ_ _=>rfl
def QG:Bv X (binaryOp .Pow) YA:=vN UE (λi j H Q c q=>⟨i,j,rfl,rfl,by
 simp only[acf,aeW]at c;exact⟨c.1,Int.le_trans c.2.1 (by decide),c.2.2⟩,q⟩) λ_ _=>rfl
def Sub.qo{F:Hp}{v:V}(s:Sub F H)(r:Rep F v (.tup ds)):∃a vs,v= .ref a/\F a=some (.tup vs)/\Rd H a (.tup vs)/\bE F vs ds:=by
 cases r with
 |tup e rs=>exact⟨_,_,rfl,e,Rd.of (s _ _ e),rs⟩
def Sub.jo{F:Hp}{v:V}(s:Sub F H)(r:Rep F v (.lst ds)):∃a vs,v= .ref a/\Rd F a (.lst vs)/\Rd H a (.lst vs)/\bE F vs ds:=by
 cases r with
 |lst e rs=>exact⟨_,_,rfl,e,e.imp (s _ _) λ⟨o,h⟩=>⟨o,s _ _ h⟩,rs⟩
def _root_.L2.Rd.Ez{s:Shared}(I:Inv X pins O H s)(h:Rd H l (.lst xs)):
  xs.length<=sizeLine/\∃its n,Vals xs its/\xs.length=its.length/\s.heap.get? l=some {cls:=.type "list",data:=.seq its.toArray n}:=by
 obtain⟨z,its,n,r,e⟩:=(h.ok I.hok:cR X.prog X.w H s.heap l (.lst xs))
 exact⟨z,its,n,r,r.length,e⟩
noncomputable def dg:List D->Option U
 |[.int i,.int j]=>some (.t (.int (i+j)))
 |[.str i,.str j]=>if i.length+j.length<=100000 then some (.t (.str (i++j))) else none
 |[.tup i,.tup j]=>if i.length+j.length<=100000 then some (.t (.tup (i++j))) else none
 |[.lst i,.lst j]=>if i.length+j.length<=100000 then some (.m (.lst (i++j))) else none
 |_=>none
def bW:Bv X (binaryOp .Add) dg:=by
 intro pins s O H x y v u Q I rx ry ⟨F,ds,w,sb,rs,hw,q⟩;obtain⟨d,e,rfl,r1,r2⟩:=qR rs;cases d<;>cases e<;>try (cases hw;done)
 .rename_i i j;cases hw;cases r1;cases r2;exact UA pins s O H _ _ v u Q I rx ry ⟨i,j,rfl,rfl,q _ F H (fW.refl ..) sb (.int _)⟩
 .rename_i i j;obtain⟨hl,rfl⟩:=cj hw;cases r1;cases r2;exact GO pins s O H _ _ v u Q I rx ry ⟨i,j,rfl,rfl,lA hl,q _ F H (fW.refl ..) sb (.str _)⟩
 .rename_i i j;obtain⟨hl,rfl⟩:=cj hw;have rb2:=r2;have rb1:=r1;obtain⟨a,xs,rfl,fa,ha,vG⟩:=sb.qo r1;obtain⟨b,ys,rfl,fb,hb,QH⟩:=sb.qo r2;by_cases hx:xs=[]
  .subst hx;cases vG;cases rx;cases ry;obtain⟨its,r1',p1,_⟩:=I.tuple (.inl ha);obtain⟨its2,r2',p2,_⟩:=I.tuple (.inl hb);cases r1';obtain⟨⟨cls,dd,data,sl⟩,ho,hc,n,hd⟩:=id p1;obtain⟨⟨ab5,dd2,data2,sl2⟩,ho2,hc2,n2,hd2⟩:=id p2;simp only at hc hd hc2 hd2;subst hc hd hc2 hd2;exact concat_meets ⟨_,ho,rfl⟩ ⟨_,ho2,rfl⟩ agD seq_tuple_add afS afL (afD _ _)
    (tuple_addW0 a b _ _ n n2 dd dd2 sl sl2 (by simp)) ⟨ho,ho2,⟨.ref b,H,I,rfl,q _ F H (fW.refl ..) sb rb2⟩⟩
  .refine Qs pins s O H (.ref a) (.ref b) v u Q I rx ry ⟨a,b,xs,ys,rfl,rfl,.inl ha,.inl hb,hx,?_,λhy=>?_,λhy p hp=>?_⟩
   .rw[vG.length,QH.length];exact lA hl
   .subst hy;cases QH;exact q _ F H (fW.refl ..) sb (by show Rep F (.ref a) (.tup (i++[]));rw[abE];exact rb1)
   .exact q _ _ _ (fW.root sb hp _) (sb.wZ hp) (.tup aZ ((vG.append QH).le (pq (sb.fresh hp))))
 .rename_i i j;obtain⟨hl,rfl⟩:=cj hw;obtain⟨a,xs,rfl,fa,ha,vG⟩:=sb.jo r1;obtain⟨b,ys,rfl,fb,hb,QH⟩:=sb.jo r2;cases rx;cases ry;obtain⟨z,its,n,r,hl1,e⟩:=Rd.Ez I ha;obtain⟨z2,its2,n2,r2,hl2,e2⟩:=Rd.Ez I hb;have hlen:xs.length+ys.length<=sizeLine:=by rw[vG.length,QH.length];exact lA hl
  refine PySem.P.add_list e e2 ?_ (by rw[aao,aao];lia);have ea:its.toArray++its2.toArray=(its++its2).toArray:=by simp
  rw[ea];have hp:H s.heap.objs.size=none:=I.fresh;refine⟨.ref _,_,I.Yr (t':=s.toks) (r.append r2) (by rw[aaG];lia),rfl,?_⟩;exact q _ F _ (fW.obj hp _) (sb.same (fW.obj (F:=F) hp _).same) ⟨_,rfl,hp,sb.fresh hp,_,aZ,vG.append QH⟩
def EJ:List D->Option U:=Me (λi j=>(decide (-(2 ^ 64)<i) && decide (i<2 ^ 64)) || (decide (-(2 ^ 64)<j) && decide (j<2 ^ 64))) λi j=>.int (i*j)
def tF:Bv X (binaryOp .Mult) EJ:=vN UC (λi j H Q c q=>⟨i,j,rfl,rfl,by
 simp only[Bool.or_eq_true,acf,aeW]at c;exact c,q⟩) λ_ _=>rfl
noncomputable def C5:List D->Option U
 |[.int i]=>some (.t (.int (-i)))
 |_=>none
def zx:XT X (unaryOp .USub) (λx H Q=>rP C5 [x] H Q):=by
 intro pins s O H x v Q I rx ⟨F,ds,w,sb,rs,hw,q⟩;obtain⟨d,rfl,r1⟩:=Ng rs;cases r1<;>try (cases hw;done)
 rename_i i;cases hw;exact UG pins s O H _ v Q I rx ⟨i,rfl,q _ F H (fW.refl ..) sb (.int _)⟩
def Pz:List D->Option U
 |[.tup ds,.int i]=>(ia ds i).map .t
 |[.lst ds,.int i]=>(ia ds i).map .t
 |[.str z,.int i]=>if z.length<=100000 then(ia z.cps.toList i).map λc=>.t (.str ⟨#[c]⟩) else none
 |_=>none
def Hh:MU X (λx y H Q=>rP Pz [x,y] H Q):=by
 intro value slice pins s O H x y v u Q I rx ry ⟨F,ds,w,sb,rs,hw,q⟩ hsb;obtain⟨d,e,rfl,r1,r2⟩:=qR rs;cases d<;>cases e<;>try (cases hw;done)
 .rename_i z i;obtain⟨hl,hw⟩:=fc hw;obtain⟨c,hc,hw⟩:=aB hw;subst hw;cases r1;cases r2;exact MW value slice pins s O H _ _ v u Q I rx ry ⟨z,i,c,rfl,rfl,lA hl,hc,q _ F H (fW.refl ..) sb (.str _)⟩ hsb
 .rename_i ds i;obtain⟨c,hc,hw⟩:=aB (show(ia ds i).map U.t=some w from hw);subst hw;obtain⟨a,xs,rfl,fa,ha,vG⟩:=sb.qo r1;cases r2;obtain⟨w',h1,h2⟩:=vG.ia hc;exact MV value slice pins s O H _ _ v u Q I rx ry ⟨a,xs,i,w',rfl,rfl,.inl ha,h1,q _ F H (fW.refl ..) sb h2⟩ hsb
 .rename_i ds i;obtain⟨c,hc,hw⟩:=aB (show(ia ds i).map U.t=some w from hw);subst hw;obtain⟨a,xs,rfl,fa,ha,vG⟩:=sb.jo r1;cases r2;obtain⟨w',h1,h2⟩:=vG.ia hc;exact IW value slice pins s O H _ _ v u Q I rx ry ⟨a,xs,i,w',rfl,rfl,.inl ha,h1,q _ F H (fW.refl ..) sb h2⟩ hsb
noncomputable def C6:List D->Option U
 |[.tup ds]=>some (.t (.int ds.length))
 |[.lst ds]=>some (.t (.int ds.length))
 |[.str z]=>if z.length<=100000 then some (.t (.int z.length)) else none
 |_=>none
def tG:fU X (.builtin "len") (rP C6):=by
 intro pins s O H xs us Q I r ⟨F,ds,w,sb,rs,hw,q⟩
 match xs,ds,rs with
 |[],[],_=>exact absurd hw (by simp[C6])
 |[x],_,rs=>
  obtain⟨d,rfl,r1⟩:=Ng rs;cases d<;>try (cases hw;done)
  .rename_i z;obtain⟨hl,rfl⟩:=cj hw;cases r1;exact vK pins s O H _ us Q I r ⟨z,rfl,lA hl,q _ F H (fW.refl ..) sb (.int _)⟩
  .cases hw;obtain⟨a,xs,rfl,fa,ha,vG⟩:=sb.qo r1;exact o8 pins s O H _ us Q I r ⟨a,xs,rfl,.inr (.inl ha),by rw[vG.length];exact q _ F H (fW.refl ..) sb (.int _)⟩
  .cases hw;obtain⟨a,xs,rfl,fa,ha,vG⟩:=sb.jo r1;exact o8 pins s O H _ us Q I r ⟨a,xs,rfl,.inl (.inl ha),by rw[vG.length];exact q _ F H (fW.refl ..) sb (.int _)⟩
 |_::_::_,[],rs=>cases rs
 |_::_::_,[_],rs=>cases rs with|cons _ rs=>cases rs
 |_::_::_,_::_::_,_=>exact absurd hw (by simp[C6])
end
noncomputable def qU(i:Nat)(u:U)(S:SS):Option SS:=match S[i]? with
 |some (some (.b _))=>none
 |some _=>some (S.set i (some u))
 |none=>none
def Cc(h:qU i u S=some S'):S'=S.set i (some u)/\i<S.length/\∀o,S[i]?≠some (some (.b o)):=by
 unfold qU at h;cases e:S[i]? with
 |none=>rw[e]at h;cases h
 |some w=>
  have hl:i<S.length:=(aaA.mp e).1;rw[e]at h;cases w with
  |none=>cases h;exact⟨rfl,hl,λo z=>by cases z⟩
  |some w=>
   cases w with
   |b o=>cases h
   |t d=>cases h;exact⟨rfl,hl,λo z=>by cases z⟩
   |m d=>cases h;exact⟨rfl,hl,λo z=>by cases z⟩
   |v d=>cases h;exact⟨rfl,hl,λo z=>by cases z⟩
   |s d=>cases h;exact⟨rfl,hl,λo z=>by cases z⟩
   |f d=>cases h;exact⟨rfl,hl,λo z=>by cases z⟩
   |x cx kx=>cases h;exact⟨rfl,hl,λo z=>by cases z⟩
def To(B:Base)(S:SS)(O:St)(F H:Hp)(v:V):U->Prop
 |.t d=>Rep F v d
 |.m o=>∃a,v= .ref a/\F a=none/\At F H a o/\¬dw S O a/\B.H a=none
 |.x C k=>vL F v C k
 |_=>False
def Rel.put{F:Hp}{v:V}(R:Rel K B S O F H)(h:qU i u S=some S')(p:To B S O F H v u):Rel K B S' (O.set i (some v)) F H:=by
 obtain⟨rfl,hl,nb⟩:=Cc h;have hl':i<O.length:=by rw[<-R.len];exact hl
 have out:∀{j:Nat},i≠j->(O.set i (some v))[j]? =O[j]?:=λne=>abg ne;have KU:(O.set i (some v))[i]? =some (some v):=abD hl';have Tp:∀j w a,i≠j->S[j]? =some (some w)->fE w=true->fE u=true->O[j]? =some (some (.ref a))->v≠.ref a:=λj w a ne hj hm hu hv z=>by
  cases u with
  |t d=>cases hu
  |v k=>cases hu
  |s k=>cases hu
  |f k=>cases hu
  |x cx kx=>cases hu
  |b o=>exact p
  |m o=>
   obtain⟨c,e,_,_,nm,_⟩:=p;rw[z]at e;cases e;exact nm ⟨j,w,hj,hm,hv⟩
 refine⟨R.sub,by rw[acT,acT];exact R.len,λj w hj=>?_,λj k w1 w2 a h1 m1 h2 m2 v1 v2=>?_,λj o a hj hv=>?_,λj o a hj hv=>?_,λj a hj=>?_,R.ext⟩
 .rcases get_set hj with⟨rfl,q,_⟩|⟨ne,q⟩
  .cases q;refine⟨v,KU,?_⟩;cases u with
   |t d=>exact p
   |m o=>obtain⟨a,e,f,h,_⟩:=p;exact⟨a,e,f,h⟩
   |b o=>cases p
   |v k=>cases p
   |s k=>cases p
   |f k=>cases p
   |x cx kx=>exact p
  .rw[out ne];exact R.rep j w q
 .rcases get_set h1 with⟨rfl,q1,_⟩|⟨ne1,q1⟩
  .rcases get_set h2 with⟨rfl,q2,_⟩|⟨ne2,q2⟩
   .rfl
   .cases q1;rw[KU]at v1;rw[out ne2]at v2;cases v1;exact absurd rfl (Tp k w2 a ne2 q2 m2 m1 v2)
  .rcases get_set h2 with⟨rfl,q2,_⟩|⟨ne2,q2⟩
   .cases q2;rw[KU]at v2;rw[out ne1]at v1;cases v2;exact absurd rfl (Tp j w1 a ne1 q1 m1 m2 v1)
   .rw[out ne1]at v1;rw[out ne2]at v2;exact R.Hf j k w1 w2 a q1 m1 q2 m2 v1 v2
 .rcases get_set hj with⟨rfl,q,_⟩|⟨ne,q⟩
  .cases q;rw[KU]at hv;cases hv;obtain⟨c,e,_,_,_,hB⟩:=p;cases e;exact hB
  .rw[out ne]at hv;exact R.own j o a q hv
 .rcases get_set hj with⟨rfl,q,_⟩|⟨ne,q⟩
  .cases q;cases p
  .rw[out ne]at hv;exact R.bor j o a q hv
 .obtain⟨h1,o,h2⟩:=R.par j a hj;have ne:i≠j:=λz=>by subst z;exact nb o h2
  exact⟨by rw[out ne];exact h1,o,by rw[abg ne];exact h2⟩
noncomputable def b7:GS:=λS=>some (.nx S)
noncomputable def aW(a b:GS):GS:=λS=>(a S).bind λo=>match o with
 |.nx S1=>b S1
 |o=>some o
def bX(i:Nat)(g:GE):GS:=λS=>(g S).bind λp=>match p.1 with
 |.m o=>(qU i (.m o) p.2).map .nx
 |u=>(fz u p.2).bind λq=>(qU i (.t q.1) q.2).map .nx
noncomputable def kq(g:GE):GS:=λS=>(g S).map λp=>.nx p.2
noncomputable def bK(g:GE):GS:=λS=>(g S).bind λp=>match p.1 with
 |.v i=>match p.2[i]? with
  |some (some (.t d))=>some (.rt (.t d) p.2)
  |some (some (.m o))=>some (.rt (.m o) (p.2.set i none))
  |_=>none
 |.s _=>none
 |.f _=>none
 |.x _ _=>none
 |u=>some (.rt u p.2)
noncomputable def fH(q:GT)(a b:GS):GS:=λS=>(q S).bind λp=>if p.1 then a p.2 else b p.2
theorem Ja.mono{F:Hp}{D:Ends}(g:∀b o,F b=some o->F1 b=some o):∀{o:Out},Ja K B F D o->Ja K B F1 D o
 |.nx _,h=>λO' F' H' R le=>h O' F' H' R λb o z=>le b o (g b o z)
 |.bk _,h=>λO' F' H' R le=>h O' F' H' R λb o z=>le b o (g b o z)
 |.ct _,h=>λO' F' H' R le=>h O' F' H' R λb o z=>le b o (g b o z)
 |.rt _ _,h=>λv O' F' H' R le=>h v O' F' H' R λb o z=>le b o (g b o z)
section
variable {X:Cx}{a b c e:Expr}{pos p:Pos}{x:Str}{st:Stmt}{rest b1 b2 body:BBH}{g:GE}{s1 s2:GS}{q1:GT}
def bC:JB X [] b7:=⟨λB=>PY.imp λD O H ⟨S,F,o,R,h,k⟩=>by cases h;exact k O F H R λ_ _ z=>z⟩
def QI{D:Ends}(hh:tO K B (aW s1 s2) D O H):XH (tO K B s1) (tO K B s2) D O H:=by
 obtain⟨S,F,o,R,h,k⟩:=hh;obtain⟨o1,e1,h⟩:=ah h;refine⟨S,F,o1,R,e1,?_⟩;cases o1 with
 |nx S1=>exact λO' F' H' R' le=>⟨S1,F',o,R',h,k.mono le⟩
 |rt u S1=>cases h;exact k
 |bk S1=>cases h;exact k
 |ct S1=>cases h;exact k
def az(h1:JS X st s1)(h2:JB X rest s2):JB X (st::rest) (aW s1 s2):=⟨λB=>(Mz (h1.h B) (h2.h B)).imp λD O H=>QI⟩
def aJ(h1:JS X st s1):JB X [st] s1:=⟨λB=>IC (h1.h B)⟩
def gD.put{F:Hp}{v:V}{o:MO}(r:gD K B S O H0 F H v (.m o)):To B S O F H v (.m o):=by
 obtain⟨a,e,_,f,h,n,hB⟩:=r;exact⟨a,e,f,h,n,hB⟩
def Je{D:Ends}(h:tO K B (bX i g) D O H):P1 (tE K B g) (Ep i) D O H:=by
 obtain⟨S,F,o,R,h,k⟩:=h;obtain⟨⟨u,S1⟩,h1,h⟩:=ah h;refine⟨S,F,u,S1,R,h1,λv F1 H1 R1 st1 r1=>?_⟩;have go:(∀o',u≠.m o')->(fz u S1).bind (λq=>(qU i (.t q.1) q.2).map Out.nx)=some o->D.nx (O.set i (some v)) H1:=λ_ h=>by
  obtain⟨⟨d,S2⟩,h2,h⟩:=ah h;obtain⟨S3,h3,h⟩:=aB h;subst h;obtain⟨F2,R2,st2,r2⟩:=Nc R1 st1 r1 h2;exact k _ F2 H1 (R2.put h3 r2) st2.ext.le
 cases u with
 |m o'=>
  obtain⟨S3,h3,h⟩:=aB (show(qU i (.m o') S1).map Out.nx=some o from h);subst h;exact k _ F1 H1 (R1.put h3 r1.put) st1.ext.le
 |t d=>exact go (λ_ z=>by cases z) h
 |b d=>exact go (λ_ z=>by cases z) h
 |s d=>exact go (λ_ z=>by cases z) h
 |f d=>exact go (λ_ z=>by cases z) h
 |x cx kx=>exact go (λ_ z=>by cases z) h
 |v d=>exact go (λ_ z=>by cases z) h
def U5(hN:X.N.Nodup)(hi:X.N[i]? =some x)(hx:Loc X.env.scope x)(he:JE X e g)(hs:swapsWith e (some (.Name x pos')) pos.line X.env=pure false:=by rfl)
  (hf:X.fn x=true\/X.env.scope.names.lookup x=some .local:=by trivial):JS X (.Assign [.Name x pos'] e pos) (bX i g):=
 ⟨λB=>(Uu hN hi hx (he.h B) hs hf).imp λD O H h=>Je h⟩
def fL(he:JE X e g)(hs:swapsWith e none pos.line X.env=pure false:=by rfl):JS X (.Expr e pos) (kq g):=⟨λB=>(PZ (he.h B) hs).imp λD O H hh=>by
 obtain⟨S,F,o,R,h,k⟩:=hh;obtain⟨⟨u,S1⟩,h1,h⟩:=aB h;subst h;exact⟨S,F,u,S1,R,h1,λv F1 H1 R1 st1 r1=>k O F1 H1 R1 st1.ext.le⟩⟩
def Rel.drop{F:Hp}{o:MO}(R:Rel K B S O F H)(h:S[i]? =some (some (.m o))):Rel K B (S.set i none) O F H:=by
 have back:∀{j w},(S.set i none)[j]? =some (some w)->i≠j/\S[j]? =some (some w):=λ{j w} z=>by
  rcases get_set z with⟨_,q,_⟩|q
  .cases q
  .exact q
 refine⟨R.sub,by rw[acT];exact R.len,λj w z=>R.rep j w (back z).2,λj k w1 w2 a h1 m1 h2 m2=>R.Hf j k w1 w2 a (back h1).2 m1 (back h2).2 m2,λj o a z=>R.own j o a (back z).2,λj o a z=>R.bor j o a (back z).2,λj a z=>?_,R.ext⟩;obtain⟨k1,o',k2⟩:=R.par j a z;have ne:i≠j:=λz=>by subst z;rw[h]at k2;cases k2
 exact⟨k1,o',by rw[abg ne];exact k2⟩
def QJ{D:Ends}(hh:tO K B (bK g) D O H):tE K B g O H D.rt:=by
 obtain⟨S,F,o,R,h,k⟩:=hh;obtain⟨⟨u,S1⟩,h1,h⟩:=ah h;refine⟨S,F,u,S1,R,h1,λv F1 H1 R1 st1 r1=>?_⟩;cases u with
 |t d=>cases h;exact k v O F1 H1 R1 st1.ext.le r1
 |b d=>cases h;cases r1
 |s d=>cases h
 |f d=>cases h
 |x cx kx=>cases h
 |m o'=>cases h;exact k v O F1 H1 R1 st1.ext.le (by obtain⟨a,e,h0,f,h,n,hB⟩:=r1;exact⟨a,e,hB,f,h,n,hB⟩)
 |v i=>
  obtain⟨hv,w,hw⟩:=r1;dsimp only at h;rw[hw]at h;obtain⟨v',z1,z2⟩:=R1.rep i w hw;rw[hv]at z1;cases z1;cases w with
  |t d=>cases h;exact k v O F1 H1 R1 st1.ext.le z2
  |b d=>cases h
  |v d=>cases h
  |s d=>cases h
  |f d=>cases h
  |x cx kx=>cases h
  |m o'=>
   cases h;obtain⟨a,rfl,f,ha⟩:=z2;have hB:=R1.own i o' a hw hv;refine k _ O F1 H1 (R1.drop hw) st1.ext.le ⟨a,rfl,hB,f,ha,λhh=>?_,hB⟩;obtain⟨j,w,z,hm,hj⟩:=hh;rcases get_set z with⟨_,q,_⟩|⟨ne,q⟩
   .cases q
   .exact ne (R1.Hf i j _ w a hw rfl q hm hv hj)
def bh(he:JE X e g):JS X (.Return (some e) pos) (bK g):=⟨λB=>(Ur (he.h B)).imp λD O H=>QJ⟩
def U6{D:Ends}(hh:tO K B (fH q1 s1 s2) D O H):XJ (tQ K B q1) (tO K B s1) (tO K B s2) D O H:=by
 obtain⟨S,F,o,R,h,k⟩:=hh;obtain⟨⟨d,S1⟩,h1,h⟩:=ah h;refine⟨S,F,d,S1,R,h1,λF1 H1 R1 st1=>?_⟩;cases d with
 |true=>exact G5 ⟨S1,F1,o,R1,h,k.mono st1.ext.le⟩
 |false=>exact G4 ⟨S1,F1,o,R1,h,k.mono st1.ext.le⟩
def bS(hc:JT X c q1)(ha:JB X b1 s1)(hb:JB X b2 s2):JS X (.If c b1 b2 pos) (fH q1 s1 s2):=⟨λB=>(XM (hc.h B) (ha.h B) (hb.h B)).imp λD O H=>U6⟩
abbrev GB:=D->SS->Option SS
inductive tBd(K:AAD)(B:Base)(bd:GB)(v:V)(O:St)(H:Hp)(Q:St->Hp->Prop):Prop
 |mk(S:SS)(F:Hp)(d:D)(S':SS)(R:Rel K B S O F H)(r:Rep F v d)(hg:bd d S=some S')(q:∀O',Rel K B S' O' F H->Q O' H)
structure JG(X:Cx)(tg:Expr)(bd:GB):Prop where
 h:∀B,PG X tg (tBd X.K B bd)
abbrev PB:=List D->SS->Option SS
inductive acz(K:AAD)(B:Base)(bd:PB)(vs:List V)(O:St)(H:Hp)(Q:St->Hp->Prop):Prop
 |mk(S:SS)(F:Hp)(ds:List D)(S':SS)(R:Rel K B S O F H)(r:bE F vs ds)(hg:bd ds S=some S')(q:∀O',Rel K B S' O' F H->Q O' H)
structure JGs(X:Cx)(Ni:BBC)(bd:PB):Prop where
 h:∀B,S4 X Ni (acz X.K B bd)
def PG.imp{t t':TG}(h:PG X tg t)(k:∀v O H Q,t' v O H Q->t v O H Q):PG X tg t':=λpins s O H v u Q I r q=>h pins s O H v u Q I r (k v O H Q q)
def S4.imp{tg:BBC}{t t':SY}(h:S4 X tg t)(k:∀v O H Q,t' v O H Q->t v O H Q):S4 X tg t':=λpins s O H v u Q I r q=>h pins s O H v u Q I r (k v O H Q q)
def bName(i:Nat):GB:=λd S=>qU i (.t d) S
def QK(hN:X.N.Nodup)(hi:X.N[i]? =some x)(hx:Loc X.env.scope x)(hf:X.fn x=true\/X.env.scope.names.lookup x=some .local:=by trivial):JG X (.Name x pos) (bName i):=
 ⟨λB=>(ID hN hi hx hf).imp λv O H Q ⟨S,F,d,S',R,r,h,k⟩=>k _ (R.put h r)⟩
noncomputable def EK:PB:=λds S=>match ds with
 |[]=>some S
 |_=>none
noncomputable def mS(b:GB)(bs:PB):PB:=λds S=>match ds with
 |d::r=>(b d S).bind λS1=>bs r S1
 |[]=>none
def zy:JGs X [] EK:=⟨λB=>P0.imp λvs O H Q hh=>by
 obtain⟨S,F,ds,S',R,r,h,k⟩:=hh;cases r with
 |nil=>cases h;exact⟨rfl,k O R⟩
 |cons _ _=>cases h⟩
def kr{YB:PB}(h1:JG X tg bd)(h2:JGs X Ni YB)(hs:(assignEach (tg::Ni) X.env).map (·.2)=assign tg X.env::(assignEach Ni X.env).map (·.2):=by rfl):JGs X (tg::Ni) (mS bd YB):=
 ⟨λB=>(MA (h1.h B) (h2.h B) hs).imp λvs O H Q hh=>by
 obtain⟨S,F,ds,S',R,r,h,k⟩:=hh;cases r with
 |nil=>cases h
 |cons r rs=>
  obtain⟨S1,e1,h⟩:=ah h;exact⟨_,_,rfl,S,F,_,S1,R,r,e1,λO1 R1=>⟨S1,F,_,S',R1,rs,h,k⟩⟩⟩
noncomputable def C7(n:Nat)(bs:PB):GB:=λd S=>match d with
 |.tup ds=>if ds.length=n then bs ds S else none
 |_=>none
def C8{k0:Nat}{YB:PB}(hc:X.calm=true)(h:JGs X Ni YB)(hn:(assignEach Ni X.env).length=n:=by rfl)(hst:(assignEach Ni X.env).findIdx? (·.1)=none:=by rfl):JG X (.Tuple Ni k0 pos) (C7 n YB):=
 ⟨λB=>(Ut hc (h.h B) hn hst).imp λv O H Q hh=>by
 obtain⟨S,F,d,S',R,r,h,k⟩:=hh;cases d<;>try (cases h)
 rename_i ds;unfold C7 at h;dsimp only at h;split at h
 .rename_i hl;obtain⟨a,vs,rfl,fa,ha,rs⟩:=R.sub.qo r;exact⟨a,vs,rfl,.inl ha,by rw[rs.length];exact hl,S,F,ds,S',R,rs,h,k⟩
 .cases h⟩
noncomputable def U7(bd:GB)(g:GD):GS:=λS=>(g S).bind λp=>(bd p.1 p.2).map .nx
def U8{gd:GD}(he:JD X e gd)(hg:JG X tg bd)(hs:swapsWithSole [tg] e pos.line X.env=pure false:=by rfl)(hw:swappedStores [tg] e X.env=pure none:=by rfl)
  (h1:(assignEach [tg] X.env).map (·.2)=[assign tg X.env]:=by rfl):JS X (.Assign [tg] e pos) (U7 bd gd):=
 ⟨λB=>(GG (he.h B) (hg.h B) hs hw h1).imp λD O H hh=>by
 obtain⟨S,F,o,R,h,k⟩:=hh;obtain⟨⟨d,S1⟩,e1,h⟩:=ah h;obtain⟨S2,e2,h⟩:=aB h;subst h;exact⟨S,F,d,S1,R,e1,λv F1 H1 R1 st1 r1=>⟨S1,F1,d,S2,R1,r1,e2,λO' R2=>k O' F1 H1 R2 st1.ext.le⟩⟩⟩
def Walk(J:It)(F:Hp)(ds:List D):Prop:=∀F' H',(∀b o,F b=some o->F' b=some o)->Sub F' H'->∀i,(∀d,ds[i]? =some d->J.go i H'/\∀x H2,J.S5 i H' x H2->H2=H'/\Rep F' x d)/\(ds.length<=i->J.stop i H')
abbrev GI:=SS->Option (List D×SS)
inductive tIt(K:AAD)(B:Base)(gi:GI)(O:St)(H:Hp)(Q:It->Hp->Prop):Prop
 |mk(S:SS)(F:Hp)(ds:List D)(S':SS)(R:Rel K B S O F H)(hg:gi S=some (ds,S'))(q:∀J F' H',Rel K B S' O F' H'->Step S S' O F H F' H'->Walk J F' ds->Q J H')
structure JI(X:Cx)(tg e:Expr)(gi:GI):Prop where
 h:∀B,PI X tg e (tIt X.K B gi)
def PI.orelse{wi:TI}(h:∀O H R,wi O H R->∃wi',PI X tg e wi'/\wi' O H R):PI X tg e wi:=λpins s O H R I q=>let⟨_,h1,h2⟩:=h O H R q;h1 pins s O H R I h2
noncomputable def nv(g:GD):GI:=λS=>(g S).bind λp=>match p.1 with
 |.tup ds=>some (ds,p.2)
 |.lst ds=>some (ds,p.2)
 |.str z=>some (z.cps.toList.map λc=>.str ⟨#[c]⟩,p.2)
 |_=>none
def KW{F:Hp}{a:Addr}(fa:Rd F a (.lst vs))(rs:bE F vs ds):Walk (Itl K a) F ds:=λF' H' le sb i=>by
 have ha:oW K H' a vs:=.inl (fa.imp (λz=>sb a _ (le _ _ z)) λ⟨o,z⟩=>⟨o,sb a _ (le _ _ z)⟩);refine⟨λd hd=>?_,λhl=>⟨vs,ha,by rw[rs.length];exact hl⟩⟩;obtain⟨v,h1,h2⟩:=rs.get hd;refine⟨⟨vs,v,ha,h1⟩,λx H2 y=>⟨y.1,?_⟩⟩;have:=y.2 vs ha;rw[h1]at this;cases this;exact h2.le le
def Nj{F:Hp}{a:Addr}(fa:F a=some (.tup vs))(rs:bE F vs ds):Walk (Itt K a) F ds:=λF' H' le sb i=>by
 have ha:Ef K H' a vs:=.inl (Rd.of (sb a _ (le _ _ fa)));refine⟨λd hd=>?_,λhl=>⟨vs,ha,by rw[rs.length];exact hl⟩⟩;obtain⟨v,h1,h2⟩:=rs.get hd;refine⟨⟨vs,v,ha,h1⟩,λx H2 y=>⟨y.1,?_⟩⟩;have:=y.2 vs ha;rw[h1]at this;cases this;exact h2.le le
def Nk{F:Hp}:Walk (Its z) F (z.cps.toList.map λc=>.str ⟨#[c]⟩):=λF' H' le sb i=>by
 refine⟨λd hd=>?_,λhl=>(show z.cps.size<=i by simpa using hl)⟩;rw[abx]at hd;obtain⟨c,hc,rfl⟩:=aB hd;have hc':z.cps[i]? =some c:=by rw[<-Array.getElem?_toList];exact hc
 refine⟨(acq.mp hc').1,λx H2 y=>⟨y.1,?_⟩⟩;obtain⟨c2,k1,rfl⟩:=y.2;rw[hc']at k1;cases k1;exact .str _
def iC{gd:GD}(h:JD X e gd):JI X (.Name x pos) e (nv gd):=⟨λB=>PI.orelse λO H R0 hh=>by
 obtain⟨S,F,ds,S',R,hg,k⟩:=hh;obtain⟨⟨d,S1⟩,h1,hg⟩:=ah hg;cases d<;>try (cases hg)
 .refine⟨_,UY (h.h B),S,F,_,_,R,h1,λv F1 H1 R1 st1 r1=>?_⟩;exact⟨_,Jc r1,k _ F1 H1 R1 st1 Nk⟩
 .refine⟨_,Uw (h.h B),S,F,_,_,R,h1,λv F1 H1 R1 st1 r1=>?_⟩;obtain⟨a,vs,rfl,fa,ha,rs⟩:=R1.sub.qo r1;exact⟨a,rfl,⟨vs,.inl ha⟩,k _ F1 H1 R1 st1 (Nj fa rs)⟩
 .refine⟨_,IF (h.h B),S,F,_,_,R,h1,λv F1 H1 R1 st1 r1=>?_⟩;obtain⟨a,vs,rfl,fa,ha,rs⟩:=R1.sub.jo r1;exact⟨a,rfl,⟨vs,.inl ha⟩,k _ F1 H1 R1 st1 (KW fa rs)⟩⟩
noncomputable def vF(lo:Int)(n:Nat):List D:=(List.range n).map λ(k:Nat)=>D.int (lo+(k:Int))
def gH(gA:GA):GI:=λS=>(gA S).bind λp=>match p.1 with
 |[.int j]=>if j<1000000/\-1000000<j then some (vF 0 j.toNat,p.2) else none
 |_=>none
def Nl{F:Hp}{lo:Int}:Walk (Itr lo n) F (vF lo n):=λF' H' le sb i=>by
 refine⟨λd hd=>?_,λhl=>(show n<=i by simpa[vF] using hl)⟩;unfold vF at hd;rw[abx]at hd;obtain⟨c,hc,rfl⟩:=aB hd;obtain⟨hl,e⟩:=aaA.mp hc;rw[List.getElem_range]at e;subst e;refine⟨show i<n by simpa using hl,λx H2 y=>⟨y.1,?_⟩⟩;rw[y.2];exact .int _
def lK{gA:GA}(hg:Gl X "range")(hm:X.mg "range" =none)(ha:JA X [a] gA)(hs:starEach [a] X.env=[(false,eval a X.env)]:=by rfl):JI X tg (.Call (.Name "range" p) [a] [] pos) (gH gA):=
 ⟨λB=>PI.orelse λO H R0 hh=>by
 obtain⟨S,F,ds,S',R,hg',k⟩:=hh;obtain⟨⟨d,S1⟩,h1,hg'⟩:=ah hg';refine⟨_,Kr hg hm (ha.h B) hs,S,F,d,S1,R,h1,λvs F1 H1 R1 st1 r1=>?_⟩;dsimp only at hg';split at hg'
 .split at hg'
  .rename_i j hj;cases hg';cases r1 with
   |cons r rs=>
    cases rs;exact⟨j,by rw[eL r],by lia,by lia,k _ F1 H1 R1 st1 Nl⟩
  .cases hg'
 .cases hg'⟩
noncomputable def loop(bd:GB)(body:GS):List D->SS->Option Out
 |[],S=>some (.nx S)
 |d::ds,S=>(bd d S).bind λS1=>(body S1).bind λo=>match o with
  |.nx S2=>loop bd body ds S2
  |.ct S2=>loop bd body ds S2
  |.bk S2=>some (.nx S2)
  |.rt u S2=>some (.rt u S2)
def qz(bd:GB)(gi:GI)(body:GS):GS:=λS=>(gi S).bind λp=>loop bd body p.1 p.2
def nA(hp:PassesOwn (model X.prog X.w) X.A X.env X.xe)(hc:X.calm=true)(hi:JI X tg iter gi)(hg:JG X tg bd)(hb:JB X body s1)(hs:∀x,foldedSetIterable iter X.env x=pure x:=by intro _;rfl):
  JS X (.For tg iter body [] pos) (qz bd gi s1):=⟨λB=>(ME hp hc (hi.h B) (hg.h B) (hb.h B) hs).imp λD O H hh=>by
 obtain⟨S,F,o,R,h,k⟩:=hh;obtain⟨⟨ds,S1⟩,h1,h⟩:=ah h;refine⟨S,F,ds,S1,R,h1,λJ F1 H1 R1 st1 w=>?_⟩;refine⟨λi m O' H'=>∃S' F',Rel X.K B S' O' F' H'/\(∀b o,F1 b=some o->F' b=some o)/\i<=ds.length/\m=ds.length-i/\loop bd s1 (ds.drop i) S'=some o,⟨_,S1,F1,R1,λ_ _ z=>z,abX _,rfl,h⟩,?_⟩;rintro i m O' H' ⟨S',F',R',le,hl,rfl,fC⟩;have w':=w F' H' le R'.sub i;by_cases hlt:i<ds.length
 .have hd:ds[i]? =some ds[i]:=aaz hlt;obtain⟨go,yl⟩:=w'.1 _ hd;rw[adN hlt]at fC;obtain⟨S2,e2,fC⟩:=ah fC;obtain⟨o2,e3,fC⟩:=ah fC;refine .inr ⟨go,_,λO2 H2 n=>⟨ds.length-(i+1),by lia,n⟩,λx H2 y=>?_⟩;obtain⟨rfl,rx⟩:=yl x H2 y;refine⟨S',F',_,S2,R',rx,e2,λO3 R3=>⟨S2,F',o2,R3,e3,?_⟩⟩;cases o2 with
  |nx S3=>exact λHi F4 H4 R4 BE=>⟨S3,F4,R4,λb o z=>BE b o (le b o z),hlt,rfl,fC⟩
  |ct S3=>exact λHi F4 H4 R4 BE=>⟨S3,F4,R4,λb o z=>BE b o (le b o z),hlt,rfl,fC⟩
  |bk S3=>cases fC;exact λHi F4 H4 R4 BE=>k Hi F4 H4 R4 λb o z=>BE b o (le b o (st1.ext.le b o z))
  |rt u S3=>cases fC;exact λv Hi F4 H4 R4 BE=>k v Hi F4 H4 R4 λb o z=>BE b o (le b o (st1.ext.le b o z))
 .have e:i=ds.length:=by lia
  subst e;rw[afm]at fC;cases fC;exact .inl ⟨w'.2 (aaq _),k O' F' H' R' λb o z=>le b o (st1.ext.le b o z)⟩⟩
end
noncomputable def W3:U->MO->Option U
 |.m _,o=>some (.m o)
 |.b _,o=>some (.b o)
 |_,_=>none
noncomputable def Tq:U->Option MO
 |.m o=>some o
 |.b o=>some o
 |_=>none
noncomputable def BF(S:SS)(i:Nat)(f:MO->Option (D×MO)):Option (D×SS):=match S[i]? with
 |some (some (.m o))=>(f o).map λr=>(r.1,S.set i (some (.m r.2)))
 |some (some (.b o))=>(f o).map λr=>(r.1,S.set i (some (.b r.2)))
 |_=>none
def At.YC{F:Hp}{o:MO}{ob:Obj}{u:HO}(h:At F H a o):H a≠some (.kg ob u):=λz=>by
 cases o with
 |lst ds=>obtain⟨vs,e,_⟩:=h;rw[z]at e;cases e
 |dct ds=>obtain⟨vs,e,_⟩:=h;rw[z]at e;cases e
 |fT ds=>obtain⟨vs,e,_⟩:=h;rw[z]at e;cases e
 |ins C ds=>obtain⟨vs,⟨dx,e⟩,_⟩:=h;rw[z]at e;cases e
 |gap ds=>obtain⟨vs,e,_⟩:=h;rw[z]at e;cases e
 |lat c ds=>obtain⟨vs,⟨_,e⟩,_⟩:=h;rw[z]at e;cases e
 |Mb c ds=>obtain⟨vs,⟨_,e⟩,_⟩:=h;rw[z]at e;cases e
 |Mc C ds=>obtain⟨vs,⟨dx,e⟩,_⟩:=h;rw[z]at e;cases e
def C4.dw{F:Hp}{v:V}(r:C4 K F H v u)(hm:fE u=true):∃a o,v= .ref a/\F a=none/\Tq u=some o/\At F H a o:=by
 cases u with
 |t d=>cases hm
 |v d=>cases hm
 |s d=>cases hm
 |f d=>cases hm
 |x cx kx=>cases hm
 |m o=>obtain⟨a,e,f,h⟩:=r;exact⟨a,o,e,f,rfl,h⟩
 |b o=>obtain⟨a,e,f,h⟩:=r;exact⟨a,o,e,f,rfl,h⟩
def Rel.write{F:Hp}{u':U}{ho:HO}{o:MO}(R:Rel K B S O F H)(hS:S[i]? =some (some u))(hu:W3 u o=some u')(hv:O[i]? =some (some (.ref a)))(ha:At F (upd H a ho) a o):
  Rel K B (S.set i (some u')) O F (upd H a ho)/\Step S (S.set i (some u')) O F H F (upd H a ho):=by
 have hm:fE u=true/\fE u'=true:=by cases u<;>cases hu<;>exact⟨rfl,rfl⟩
 have YD:F a=none/\∀b ob w,H b=some (.kg ob w)->b≠a:=by
  obtain⟨v,h1,h2⟩:=R.rep i u hS;rw[hv]at h1;cases h1;obtain⟨b,_,e,f,_,k⟩:=h2.dw hm.1;cases e;exact⟨f,λb ob w z e=>k.YC (by rw[e]at z;exact z)⟩
 have U9:=YD.1;have W4:∀b ob w,H b=some (.kg ob w)->upd H a ho b=some (.kg ob w):=λb ob w z=>by rw[aR (YD.2 b ob w z)];exact z
 have mAt:L2.dw S O a:=⟨i,u,hS,hm.1,hv⟩
 have hl:i<S.length:=(aaA.mp hS).1;have kb:∀{j w},(S.set i (some u'))[j]? =some (some w)->(i=j/\u'=w)\/(i≠j/\S[j]? =some (some w)):=λ{j w} z=>by
  rcases get_set z with⟨e,q,_⟩|q
  .exact .inl ⟨e,abv q⟩
  .exact .inr q
 have orig:∀{j w},(S.set i (some u'))[j]? =some (some w)->fE w=true->∃w0,S[j]? =some (some w0)/\fE w0=true:=λ{j w} z hw=>by
  rcases kb z with⟨rfl,rfl⟩|⟨_,q⟩
  .exact⟨u,hS,hm.1⟩
  .exact⟨w,q,hw⟩
 have keepR:∀b o,b≠a->Rd H b o->Rd (upd H a ho) b o:=λb o ne r=>by
  rcases r with r|⟨ob,r⟩
  .exact .inl (by rw[aR ne];exact r)
  .exact .inr ⟨ob,by rw[aR ne];exact r⟩
 refine⟨⟨λb o z=>by rw[aR (λe=>by rw[e,U9]at z;cases z)];exact R.sub b o z,by rw[acT];exact R.len,λj w z=>?_,λj k w1 w2 c z1 m1 z2 m2=>?_,λj o' c z hc=>?_,λj o' c z hc=>?_,λj c z=>?_,?_⟩,⟨?_,λc ⟨j,w,z,hw,hc⟩=>?_,λj w z=>?_⟩⟩
 .rcases kb z with⟨rfl,rfl⟩|⟨ne,q⟩
  .refine⟨.ref a,hv,?_⟩;cases u<;>cases hu
   .exact⟨a,rfl,U9,ha⟩
   .exact⟨a,rfl,U9,ha⟩
  .obtain⟨v,h1,h2⟩:=R.rep j w q;refine⟨v,h1,?_⟩;by_cases hw:fE w=true
   .obtain⟨c,o',rfl,f,e,h⟩:=h2.dw hw;have hca:c≠a:=λz=>ne (R.Hf i j u w a hS hm.1 q hw hv (by rw[h1,z]));have h':At F (upd H a ho) c o':=h.le (λ_ _ z=>z) λo z=>by rw[aR hca];exact z
    cases w<;>cases hw<;>cases e
    .exact⟨c,rfl,f,h'⟩
    .exact⟨c,rfl,f,h'⟩
   .cases w with
    |t d=>exact h2
    |v d=>exact h2
    |s d=>obtain⟨c,e,h⟩:=h2;exact⟨c,e,h.le W4⟩
    |f d=>exact h2
    |x cx kx=>exact h2
    |m o=>exact absurd rfl hw
    |b o=>exact absurd rfl hw
 .obtain⟨w1',q1,n1⟩:=orig z1 m1;obtain⟨w2',q2,n2⟩:=orig z2 m2;exact R.Hf j k w1' w2' c q1 n1 q2 n2
 .rcases kb z with⟨rfl,rfl⟩|⟨_,q⟩
  .cases u<;>cases hu
   exact R.own _ _ c hS hc
  .exact R.own j o' c q hc
 .rcases kb z with⟨rfl,rfl⟩|⟨_,q⟩
  .cases u<;>cases hu
   exact R.bor _ _ c hS hc
  .exact R.bor j o' c q hc
 .obtain⟨k1,o',k2⟩:=R.par j c z;refine⟨k1,?_⟩;by_cases e:i=j
  .subst e;rw[hS]at k2;cases k2;cases hu;exact⟨o,abD hl⟩
  .exact⟨o',by rw[abg e];exact k2⟩
 .refine⟨R.ext.le,λb o z n=>?_,R.ext.kh,λb o z=>?_,λb o w z=>W4 b o w (R.ext.kg b o w z)⟩
  .have hb:b≠a:=λe=>by
    subst e;cases u with
    |m o'=>rw[R.own i o' b hS hv]at z;cases z
    |b o'=>exact n (R.bor i o' b hS hv)
    |t d=>cases hu
    |v d=>cases hu
    |s d=>cases hu
    |f d=>cases hu
    |x cx kx=>cases hu
   rw[aR hb];exact R.ext.keep b o z n
  .by_cases hb:b=a
   .exact⟨ho,by rw[hb,aZ]⟩
   .rw[aR hb];exact R.ext.there b o z
 .refine⟨λ_ _ z=>z,λb o z n=>?_,λ_ _ _ _ z=>z,λb o z=>?_,W4⟩
  .rw[aR (λe=>n (by rw[e];exact mAt))];exact z
  .by_cases hb:b=a
   .exact⟨ho,by rw[hb,aZ]⟩
   .exact⟨o,by rw[aR hb];exact z⟩
 .obtain⟨w0,q,n⟩:=orig z hw;exact⟨j,w0,q,n,hc⟩
 .by_cases e:i=j
  .subst e;exact⟨u',abD hl⟩
  .exact⟨w,by rw[abg e];exact z⟩
def tH{f:MO->Option (D×MO)}{d:D}(h:BF S i f=some (d,S')):∃u u' o o',S[i]? =some (some u)/\fE u=true/\Tq u=some o/\f o=some (d,o')/\W3 u o'=some u'/\S'=S.set i (some u'):=by
 unfold BF at h;split at h
 .rename_i o e;obtain⟨⟨d',o'⟩,h1,h⟩:=aB h;cases h;exact⟨_,_,o,o',e,rfl,rfl,h1,rfl,rfl⟩
 .rename_i o e;obtain⟨⟨d',o'⟩,h1,h⟩:=aB h;cases h;exact⟨_,_,o,o',e,rfl,rfl,h1,rfl,rfl⟩
 .cases h
def YE(r:V->List V->Hp->VK->Prop)(h:List D->MO->Option (D×MO)):Prop:=
 ∀F H a vs xs ds args res o',Sub F H->H a=some (.lst vs)->F a=none->bE F vs ds->bE F xs args->h args (.lst ds)=some (res,o')->
  ∀Q:VK,(∀rv ho,Rep F rv res->At F (upd H a ho) a o'->Q rv (upd H a ho))->r (.ref a) xs H Q
noncomputable def ux:MO->Bool
 |.lst _=>true
 |_=>false
noncomputable def YF(S:SS)(i:Nat):Bool:=match S[i]? with
 |some (some (.m (.lst _)))=>true
 |some (some (.b (.lst _)))=>true
 |_=>false
def Nm{F:Hp}(R:Rel K B S O F H)(h:YF S i=true):∃u a vs ds,S[i]? =some (some u)/\fE u=true/\Tq u=some (.lst ds)/\O[i]? =some (some (.ref a))/\F a=none/\H a=some (.lst vs)/\bE F vs ds:=by
 unfold YF at h;split at h
 .rename_i ds e;obtain⟨v,k1,a,rfl,f,vs,k2,k3⟩:=R.rep i _ e;exact⟨_,a,vs,ds,e,rfl,rfl,k1,f,k2,k3⟩
 .rename_i ds e;obtain⟨v,k1,a,rfl,f,vs,k2,k3⟩:=R.rep i _ e;exact⟨_,a,vs,ds,e,rfl,rfl,k1,f,k2,k3⟩
 .cases h
def eM(i:Nat)(h:List D->MO->Option (D×MO))(gA:GA):GD:=λS=>if YF S i then(gA S).bind λp=>BF p.2 i (h p.1) else none
def EL{F:Hp}(R:Rel K B S O F H)(hS:S[i]? =some (some u))(hm:fE u=true)(hi:Tq u=some (.lst ds))(hv:O[i]? =some (some (.ref a))):F a=none/\∃vs,H a=some (.lst vs)/\bE F vs ds:=by
 obtain⟨v,k1,k2⟩:=R.rep i u hS;rw[hv]at k1;cases k1;obtain⟨b,o2,e1,f,e2,k⟩:=k2.dw hm;cases e1;rw[hi]at e2;cases e2;exact⟨f,k⟩
section
variable {X:Cx}{a e:Expr}{es:BBC}{apos cpos px:Pos}{x name:Str}{gA:GA}{id:String}
def tK{r:V->List V->Hp->VK->Prop}{h:List D->MO->Option (D×MO)}(slot:Slot "list" name id)(hty:typeOf (.builtin id)=pure (.type "method_descriptor"))(hm:Yl X id r)(hh:YE r h)(hl:∀args o,ux o=false->h args o=none)(ha:JA X (e::es) gA)
  (hN:X.N[i]? =some x:=by rfl)(hv:wR X.env.scope x:=by trivial)
  (hbase:attributeBase (.Name x px) name X.env (eval (.Name x px) X.env)=eval (.Name x px) X.env:=by rfl)
  (hfew:((backTo cpos (starEach (e::es) X.env)).all (λx=>!x.1) && (backToKw cpos (keywordEach [] X.env)).all (λx=>x.1.isSome)
   && decide ((e::es).length+([]:BBI).length+(if([]:BBI).isEmpty then 0 else 1)<30))=true:=by rfl)
  (hline:(apos.endLine == cpos.line)=true:=by rfl)(hs:starEach (e::es) X.env=(false,eval e X.env)::starEach es X.env:=by rfl)(hplain:(backTo cpos (starEach es X.env)).any (·.1)=false:=by rfl)
  (hd:BBT x:=by decide)(hcd:BBU x:=by decide):
  JD X (.Call (.Attribute (.Name x px) name apos) (e::es) [] cpos) (eM i h gA):=
 ⟨λB=>(Yq agL slot hty hm (dG hN hv hd hcd) (ha.h B) hbase hfew hline hs hplain).imp λO H Q hh=>by
 obtain⟨S,F,d,S',R,hg,q⟩:=hh;unfold eM at hg;split at hg
 .rename_i hL;obtain⟨⟨args,S1⟩,h1,hg⟩:=ah hg;obtain⟨u,u',o,o',hS,Hj,hio,hf,PD,rfl⟩:=tH hg;obtain⟨u0,a,WZ,Jf,_,_,_,hv0,_,hH,_⟩:=Nm R hL;cases o with
  |dct kvs=>rw[hl _ _ rfl]at hf;cases hf
  |fT kvs=>rw[hl _ _ rfl]at hf;cases hf
  |ins C kvs=>rw[hl _ _ rfl]at hf;cases hf
  |gap _=>rw[hl _ _ rfl]at hf;cases hf
  |lat _ _=>rw[hl _ _ rfl]at hf;cases hf
  |Mb _ _=>rw[hl _ _ rfl]at hf;cases hf
  |Mc _ _=>rw[hl _ _ rfl]at hf;cases hf
  |lst ds=>
   refine⟨.ref a,hv0,.inl ⟨rfl,WZ,oW.of hH⟩,S,F,args,S1,R,h1,λxs F1 H1 R1 st1 r1=>?_⟩;obtain⟨hf1,vs,hH1,rs⟩:=EL R1 hS Hj hio hv0;refine hh F1 H1 a vs xs ds args d o' R1.sub hH1 hf1 rs r1 hf Q λrv ho rr ha=>?_;obtain⟨R2,st2⟩:=R1.write hS PD hv0 ha;exact q rv F1 _ R2 (st1.trans st2) rr
 .cases hg⟩
def Np{r:V->List V->Hp->VK->Prop}{h:List D->MO->Option (D×MO)}(slot:Slot "list" name id)(hty:typeOf (.builtin id)=pure (.type "method_descriptor"))(hm:Yl X id r)(hh:YE r h)(hl:∀args o,ux o=false->h args o=none)
  (hN:X.N[i]? =some x:=by rfl)(hv:wR X.env.scope x:=by trivial)
  (hbase:attributeBase (.Name x px) name X.env (eval (.Name x px) X.env)=eval (.Name x px) X.env:=by rfl)(hline:(apos.endLine == cpos.line)=true:=by rfl)
  (hd:BBT x:=by decide)(hcd:BBU x:=by decide):
  JD X (.Call (.Attribute (.Name x px) name apos) [] [] cpos) (eM i h ak):=
 ⟨λB=>(UU agL slot hty hm (dG hN hv hd hcd) hbase hline).imp λO H Q hh=>by
 obtain⟨S,F,d,S',R,hg,q⟩:=hh;unfold eM at hg;split at hg
 .rename_i hL;obtain⟨⟨args,S1⟩,h1,hg⟩:=ah hg;cases h1;obtain⟨u,u',o,o',hS,Hj,hio,hf,PD,rfl⟩:=tH hg;obtain⟨u0,a,WZ,Jf,_,_,_,hv0,_,hH,_⟩:=Nm R hL;cases o with
  |dct kvs=>rw[hl _ _ rfl]at hf;cases hf
  |fT kvs=>rw[hl _ _ rfl]at hf;cases hf
  |ins C kvs=>rw[hl _ _ rfl]at hf;cases hf
  |gap _=>rw[hl _ _ rfl]at hf;cases hf
  |lat _ _=>rw[hl _ _ rfl]at hf;cases hf
  |Mb _ _=>rw[hl _ _ rfl]at hf;cases hf
  |Mc _ _=>rw[hl _ _ rfl]at hf;cases hf
  |lst ds=>
   refine⟨.ref a,hv0,.inl ⟨rfl,WZ,oW.of hH⟩,?_⟩;obtain⟨hf1,vs,hH1,rs⟩:=EL R hS Hj hio hv0;refine hh F H a vs [] ds [] d o' R.sub hH1 hf1 rs .nil hf Q λrv ho rr ha=>?_;obtain⟨R2,st2⟩:=R.write hS PD hv0 ha;exact q rv F _ R2 st2 rr
 .cases hg⟩
noncomputable def hAppend:List D->MO->Option (D×MO)
 |[d],.lst ds=>if ds.length<100000 then some (.cD,.lst (ds++[d])) else none
 |_,_=>none
def tL:YE IX hAppend:=by
 intro F H a vs xs ds args res o' sb hH fa rs rx hw Q q;unfold hAppend at hw;split at hw
 .rename_i d ds' e2;cases e2;split at hw
  .rename_i hl;cases hw;cases rx with
   |cons r rr=>
    cases rr;exact⟨a,vs,_,rfl,rfl,hH,by rw[rs.length];exact aax hl (by decide),q .cD _ .cD ⟨_,aZ,rs.append (.cons r .nil)⟩⟩
  .cases hw
 .cases hw
noncomputable def ago:List D->MO->Option (D×MO)
 |[],.lst ds=>(ds[ds.length-1]?).map λd=>(d,.lst ds.dropLast)
 |_,_=>none
noncomputable def ff:List D->MO->Option (D×MO)
 |[],.lst ds=>some (.cD,.lst ds.reverse)
 |_,_=>none
theorem bE.reverse{F:Hp}:∀{vs:List V}{ds:List D},bE F vs ds->bE F vs.reverse ds.reverse
 |_,_,.nil=>.nil
 |_,_,.cons r rs=>by rw[afP,afP];exact(bE.reverse rs).append (.cons r .nil)
def Hl:YE EB ff:=by
 intro F H a vs xs ds args res o' sb hH fa rs rx hw Q q;unfold ff at hw;split at hw
 .rename_i ds' e2;cases e2;cases hw;cases rx;exact⟨a,vs,rfl,rfl,hH,q .cD _ .cD ⟨_,aZ,rs.reverse⟩⟩
 .cases hw
end
def gD.step{F:Hp}{v:V}(r:gD K B S O H0 F H v u)(st:Step S S' O F H F' H'):gD K B S' O H0 F' H' v u:=by
 cases u with
 |t d=>exact r.le st.ext.le
 |b o=>exact r
 |v i=>obtain⟨h1,u,h2⟩:=r;exact⟨h1,st.slots i u h2⟩
 |s i=>obtain⟨a,e,h⟩:=r;exact⟨a,e,h.le st.ext.kg⟩
 |f i=>exact r
 |x cx kx=>exact vL.le st.ext.le r
 |m o=>
  obtain⟨a,e,h0,f,h,n,hB⟩:=r;obtain⟨ho,hh⟩:=h.has;exact⟨a,e,h0,st.ext.kh a ho hh n f,h.le st.ext.le λo z=>st.ext.keep a o z n,λm=>n (st.mu a m),hB⟩
abbrev GU:=SS->Option (List U×SS)
inductive tAU(K:AAD)(B:Base)(gu:GU)(O:St)(H:Hp)(Q:List V->Hp->Prop):Prop
 |mk(S:SS)(F:Hp)(us:List U)(S':SS)(R:Rel K B S O F H)(hg:gu S=some (us,S'))(q:∀vs F' H',Rel K B S' O F' H'->Step S S' O F H F' H'->Paired (λv u=>gD K B S' O H F' H' v u) vs us->Q vs H')
structure JU(X:Cx)(es:BBC)(gu:GU):Prop where
 h:∀B,PA X es (tAU X.K B gu)
 len:∀S us S',gu S=some (us,S')->us.length=es.length
noncomputable def aY:GU:=λS=>some ([],S)
noncomputable def aQ(g:GD)(gu:GU):GU:=λS=>(g S).bind λp=>(gu p.2).map λq=>(.t p.1::q.1,q.2)
noncomputable def iD(g:GE)(gu:GU):GU:=λS=>(g S).bind λp=>(gu p.2).map λq=>(p.1::q.1,q.2)
section
variable {X:Cx}{e:Expr}{es:BBC}{g:GD}{ge:GE}{gu:GU}
def aK:JU X [] aY:=⟨λB=>wW.imp λO H Q hh=>by
 obtain⟨S,F,us,S',R,hg,q⟩:=hh;cases hg;exact q [] F H R (Step.refl ..) .nil,λS us S' h=>by cases h;rfl⟩
def aA(h:JD X e g)(hr:JU X es gu)(hs:starEach (e::es) X.env=(false,eval e X.env)::starEach es X.env:=by rfl):JU X (e::es) (aQ g gu):=
 ⟨λB=>(mR (h.h B) (hr.h B) hs).imp λO H Q hh=>by
 obtain⟨S,F,us,S',R,hg,q⟩:=hh;obtain⟨⟨d,S1⟩,h1,hg⟩:=ah hg;obtain⟨⟨Va,S2⟩,h2,hg⟩:=aB hg;cases hg;exact⟨S,F,d,S1,R,h1,λv F1 H1 R1 st1 r1=>⟨S1,F1,Va,S2,R1,h2,λvs F2 H2 R2 st2 r2=>q _ F2 H2 R2 (st1.trans st2) (.cons (r1.le st2.ext.le) (Paired.GC r2 λ_ _ z=>z.weak st1.ext.there))⟩⟩,
 λS us S' hg=>by
  obtain⟨⟨d,S1⟩,h1,hg⟩:=ah hg;obtain⟨⟨Va,S2⟩,h2,hg⟩:=aB hg;cases hg;show Va.length+1=es.length+1;rw[hr.len _ _ _ h2]⟩
def eu(h:JE X e ge)(hr:JU X es gu)(hs:starEach (e::es) X.env=(false,eval e X.env)::starEach es X.env:=by rfl):JU X (e::es) (iD ge gu):=
 ⟨λB=>(mR (h.h B) (hr.h B) hs).imp λO H Q hh=>by
 obtain⟨S,F,us,S',R,hg,q⟩:=hh;obtain⟨⟨d,S1⟩,h1,hg⟩:=ah hg;obtain⟨⟨Va,S2⟩,h2,hg⟩:=aB hg;cases hg;exact⟨S,F,d,S1,R,h1,λv F1 H1 R1 st1 r1=>⟨S1,F1,Va,S2,R1,h2,λvs F2 H2 R2 st2 r2=>q _ F2 H2 R2 (st1.trans st2) (.cons (r1.step st2) (Paired.GC r2 λ_ _ z=>z.weak st1.ext.there))⟩⟩,
 λS us S' hg=>by
  obtain⟨⟨d,S1⟩,h1,hg⟩:=ah hg;obtain⟨⟨Va,S2⟩,h2,hg⟩:=aB hg;cases hg;show Va.length+1=es.length+1;rw[hr.len _ _ _ h2]⟩
end
noncomputable def resolve(S:SS):U->Option U
 |.t d=>some (.t d)
 |.v i=>match S[i]? with
  |some (some (.m o))=>some (.b o)
  |some (some (.b o))=>some (.b o)
  |_=>none
 |.m o=>some (.b o)
 |.b _=>none
 |.s ns=>some (.s ns)
 |.f a=>some (.f a)
 |.x C k=>some (.x C k)
def bT(S:SS):List U->Option (List U)
 |[]=>some []
 |u::us=>(resolve S u).bind λw=>(bT S us).map λws=>w::ws
noncomputable def slotsOf:List U->BBJ
 |[]=>[]
 |.v i::us=>i::slotsOf us
 |_::us=>slotsOf us
noncomputable def cu:List U->Nat
 |[]=>0
 |.m _::us=>cu us+1
 |_::us=>cu us
noncomputable def wb:List U->List MO->SS->Option SS
 |[],[],S=>some S
 |.v i::us,o::outs,S=>match S[i]? with
  |some (some (.m _))=>wb us outs (S.set i (some (.m o)))
  |some (some (.b _))=>wb us outs (S.set i (some (.b o)))
  |_=>none
 |.m _::us,_::outs,S=>wb us outs S
 |.t _::us,outs,S=>wb us outs S
 |.s _::us,outs,S=>wb us outs S
 |.f _::us,outs,S=>wb us outs S
 |.x _ _::us,outs,S=>wb us outs S
 |_,_,_=>none
abbrev FM:=List U->Option (U×List MO)
def aO(f:FM)(gu:GU):GE:=λS=>(gu S).bind λp=>
 if(slotsOf p.1).Nodup/\cu p.1<=1 then(bT p.2 p.1).bind λus=>(f us).bind λr=>(wb p.1 r.2 p.2).map λS2=>(r.1,S2) else none
def EM(K:AAD)(F H:Hp)(v:V):U->Prop
 |.s ns=>∃a,v= .ref a/\QD K H a ns
 |.f a=>v= .ref a
 |.x C k=>vL F v C k
 |.t d=>Rep F v d
 |.b o=>∃a,v= .ref a/\F a=none/\At F H a o
 |_=>False
noncomputable def addrs:List V->List U->BBE
 |.ref a::vs,.b _::us=>a::addrs vs us
 |_::vs,_::us=>addrs vs us
 |_,_=>[]
structure Post(F H F' H':Hp)(as:BBE)(outs:List MO):Prop where
 sub:Sub F' H'
 ext:Ext (λa=>a∈as) F H F' H'
 out:Paired (λa o=>F' a=none/\At F' H' a o) as outs
def spT(K:AAD)(n:Nat)(f:FM):Sp:=λvs H Q _=>vs.length=n/\∃F us r outs,Sub F H/\Paired (EM K F H) vs us/\(addrs vs us).Nodup/\f us=some (r,outs)/\∀v F' H',Post F H F' H' (addrs vs us) outs->KQ H F' H' v r->Q v H'
section
variable {K:AAD}{B:Base}{S S1 S2:SS}{O:St}{H0 F H:Hp}
def KY{w:U}(h:resolve S (.v i)=some w):∃u o,S[i]? =some (some u)/\fE u=true/\Tq u=some o/\w= .b o:=by
 unfold resolve at h;dsimp only at h;split at h
 .rename_i o e;cases h;exact⟨_,o,e,rfl,rfl,rfl⟩
 .rename_i o e;cases h;exact⟨_,o,e,rfl,rfl,rfl⟩
 .cases h
def Plain(u:U):Prop:=∀us,slotsOf (u::us)=slotsOf us/\cu (u::us)=cu us/\(∀outs S,wb (u::us) outs S=wb us outs S)/\∀v vs,addrs (v::vs) (u::us)=addrs vs us
inductive C9(K:AAD)(B:Base)(S:SS)(O:St)(H0 F H:Hp):List V->List U->List U->Prop
 |nil:C9 K B S O H0 F H [] [] []
 |tree{v:V}{u:U}{vs:List V}{us ws:List U}(a:EM K F H v u)(p:Plain u)(r:C9 K B S O H0 F H vs us ws):C9 K B S O H0 F H (v::vs) (u::us) (u::ws)
 |new{c:Addr}{o:MO}{vs:List V}{us ws:List U}(h0:H0 c=none)(f:F c=none)(k:At F H c o)(n:¬dw S O c)(hB:B.H c=none)(r:C9 K B S O H0 F H vs us ws):C9 K B S O H0 F H (.ref c::vs) (.m o::us) (.b o::ws)
 |slot{c:Addr}{o:MO}{i:Nat}{u:U}{vs:List V}{us ws:List U}(hu:S[i]? =some (some u))(hm:fE u=true)(hv:O[i]? =some (some (.ref c)))(f:F c=none)(k:At F H c o)(r:C9 K B S O H0 F H vs us ws):C9 K B S O H0 F H (.ref c::vs) (.v i::us) (.b o::ws)
def QL(R:Rel K B S O F H)(rr:Paired (λv u=>gD K B S O H0 F H v u) vs us)(h:bT S us=some ws):C9 K B S O H0 F H vs us ws:=by
 induction rr generalizing ws with
 |nil=>cases h;exact .nil
 |@cons v u vs us r _ ih=>
  obtain⟨w,h1,h⟩:=ah h;obtain⟨ws,h2,h⟩:=aB h;subst h;have ih:=ih h2;cases u with
  |t d=>cases h1;exact .tree r (λ_=>⟨rfl,rfl,λouts _=>by cases outs<;>rfl,λv _=>by cases v<;>rfl⟩) ih
  |s d=>cases h1;exact .tree r (λ_=>⟨rfl,rfl,λouts _=>by cases outs<;>rfl,λv _=>by cases v<;>rfl⟩) ih
  |f d=>cases h1;exact .tree r (λ_=>⟨rfl,rfl,λouts _=>by cases outs<;>rfl,λv _=>by cases v<;>rfl⟩) ih
  |x cx kx=>cases h1;exact .tree r (λ_=>⟨rfl,rfl,λouts _=>by cases outs<;>rfl,λv _=>by cases v<;>rfl⟩) ih
  |b o=>cases h1
  |m o=>cases h1;obtain⟨c,rfl,h0,f,k,n,hB⟩:=r;exact .new h0 f k n hB ih
  |v i=>
   obtain⟨u,o,hu,hm,hi,rfl⟩:=KY h1;obtain⟨v',k1,k2⟩:=R.rep i u hu;cases r.1.symm.trans k1;obtain⟨c,o2,rfl,f,e2,k⟩:=k2.dw hm;cases hi.symm.trans e2;exact .slot hu hm r.1 f k ih
def pC(R:Rel K B S O F H)(rr:Paired (λv u=>gD K B S O H0 F H v u) vs us)(h:bT S us=some ws):Paired (EM K F H) vs ws:=by
 have c:=QL R rr h;clear rr h
 induction c with
 |nil=>exact .nil
 |tree a _ _ ih=>exact .cons a ih
 |new _ f k _ _ _ ih=>exact .cons ⟨_,rfl,f,k⟩ ih
 |slot _ _ _ f k _ ih=>exact .cons ⟨_,rfl,f,k⟩ ih
def w5(h:C9 K B S O H0 F H vs us ws):∀a∈addrs vs ws,
  (∃i u,i∈slotsOf us/\S[i]? =some (some u)/\fE u=true/\O[i]? =some (some (.ref a)))\/(0<cu us/\H0 a=none/\B.H a=none/\¬dw S O a):=by
 induction h with
 |nil=>intro a ha;cases ha
 |@tree v u vs us ws _ p _ ih=>rw[(p us).1,(p us).2.1,(p ws).2.2.2];exact ih
 |new h0 _ _ n hB _ ih=>
  intro a ha;rcases aat.mp ha with rfl|ha
  .exact .inr ⟨Nat.succ_pos _,h0,hB,n⟩
  .exact(ih a ha).imp_right λz=>⟨Nat.succ_pos _,z.2⟩
 |slot hu hm hv _ _ _ ih=>
  intro a ha;rcases aat.mp ha with rfl|ha
  .exact .inl ⟨_,_,aav,hu,hm,hv⟩
  .exact(ih a ha).imp_left λ⟨j,w,z,z2⟩=>⟨j,w,aar _ z,z2⟩
def gI(R:Rel K B S O F H)(rr:Paired (λv u=>gD K B S O H0 F H v u) vs us)(h:bT S us=some ws)(nd:(slotsOf us).Nodup)(fr:cu us<=1):(addrs vs ws).Nodup:=by
 have c:=QL R rr h;clear rr h
 induction c with
 |nil=>exact afH
 |@tree v u vs us ws _ p _ ih=>rw[(p ws).2.2.2];exact ih ((p us).1▸nd) ((p us).2.1▸fr)
 |new _ _ _ n _ r ih=>
  have fr0:=Nat.le_zero.mp (abr fr);refine acC.mpr ⟨λhc=>?_,ih nd (fr0▸abX 1)⟩;rcases w5 r _ hc with⟨j,w,_,z⟩|⟨z,_⟩
  .exact n ⟨j,w,z⟩
  .rw[fr0]at z;cases z
 |slot hu hm hv _ _ r ih=>
  obtain⟨nd1,nd2⟩:=acC.mp nd;refine acC.mpr ⟨λhc=>?_,ih nd2 fr⟩;rcases w5 r _ hc with⟨j,w,z0,z1,z2,z3⟩|⟨_,_,_,z⟩
  .exact nd1 (R.Hf _ j _ w _ hu hm z1 z2 hv z3▸z0)
  .exact z ⟨_,_,hu,hm,hv⟩
def QM(R:Rel K B S O F H)(P:Addr->MO->Prop)(rr:Paired (λv u=>gD K B S O H0 F H v u) vs us)(h:bT S us=some ws)(hw:wb us outs S1=some S2)(nd:(slotsOf us).Nodup)(hp:Paired P (addrs vs ws) outs):
  S2.length=S1.length/\(∀j,j∉slotsOf us->S2[j]? =S1[j]?)/\∀j∈slotsOf us,∃u u' o a,S1[j]? =some (some u)/\W3 u o=some u'/\S2[j]? =some (some u')/\O[j]? =some (some (.ref a))/\P a o:=by
 have c:=QL R rr h;clear rr h
 induction c generalizing outs S1 with
 |nil=>cases hp;cases hw;exact⟨rfl,λ_ _=>rfl,λj hj=>by cases hj⟩
 |@tree v u vs us ws _ p _ ih=>rw[(p us).1]at nd ⊢;exact ih ((p us).2.2.1 _ _▸hw) nd ((p ws).2.2.2 _ _▸hp)
 |new _ _ _ _ _ _ ih=>cases hp with|cons _ p2=>exact ih hw nd p2
 |@slot c o i u vs us ws hu hm hv _ _ _ ih=>
  obtain⟨nd1,nd2⟩:=acC.mp nd;cases hp with
  |@cons _ o _ outs p1 p2=>
   have go:∀u u',S1[i]? =some (some u)->W3 u o=some u'->wb us outs (S1.set i (some u'))=some S2->S2.length=S1.length/\(∀j,j∉i::slotsOf us->S2[j]? =S1[j]?)/\∀j∈i::slotsOf us,∃u u' o a,S1[j]? =some (some u)/\W3 u o=some u'/\S2[j]? =some (some u')/\O[j]? =some (some (.ref a))/\P a o:=λu u' e1 e2 hw=>by
    obtain⟨l,out,KU⟩:=ih hw nd2 p2;refine⟨by rw[l,acT],λj hj=>?_,λj hj=>?_⟩
    .rw[out j λz=>hj (aar _ z),abg λz=>hj (by rw[z];exact aav)]
    .by_cases e:i=j
     .subst e;exact⟨u,u',o,c,e1,e2,by rw[out i nd1];exact abD (aaA.mp e1).1,hv,p1⟩
     .obtain⟨w,w',o',a',q1,q⟩:=KU j ((aat.mp hj).resolve_left (abO e));exact⟨w,w',o',a',(abg e).symm.trans q1,q⟩
   replace hw:(match S1[i]? with|some (some (.m _))=>wb us outs (S1.set i (some (.m o)))|some (some (.b _))=>wb us outs (S1.set i (some (.b o)))|_=>none)=some S2:=hw;split at hw
   .rename_i o' e;exact go _ _ e rfl hw
   .rename_i o' e;exact go _ _ e rfl hw
   .cases hw
end
def iY{S2:SS}{F:Hp}(R:Rel K B S O F H)(st:Step S0 S O F0 H0 F H)(rr:Paired (λv u=>gD K B S O H0 F H v u) vs us)(hr:bT S us=some ws)(hw:wb us outs S=some S2)(nd:(slotsOf us).Nodup)(p:Post F H F' H' (addrs vs ws) outs):
  Rel K B S2 O F' H'/\Step S0 S2 O F0 H0 F' H'/\∀a,dw S2 O a->dw S O a:=by
 obtain⟨hl,out,KU⟩:=QM R (λa o=>F' a=none/\At F' H' a o) rr hr hw nd p.out;have reM:∀{u:U}{o:MO}{u':U},W3 u o=some u'->fE u=true/\fE u'=true/\Tq u'=some o:=λ{u o u'} h=>by cases u<;>cases h<;>exact⟨rfl,rfl,rfl⟩
 have orig:∀{j w},S2[j]? =some (some w)->fE w=true->∃w0,S[j]? =some (some w0)/\fE w0=true:=λ{j w} z hm=>by
  by_cases hj:j∈slotsOf us
  .obtain⟨u,u',o,a,q1,q2,q3,q4,q5⟩:=KU j hj;exact⟨u,q1,(reM q2).1⟩
  .rw[out j hj]at z;exact⟨w,z,hm⟩
 have mu:∀a,dw S2 O a->dw S O a:=λa ⟨j,w,z,hm,hv⟩=>let⟨w0,q,n⟩:=orig z hm;⟨j,w0,q,n,hv⟩
 have Gw:=w5 (QL R rr hr);refine⟨⟨p.sub,by rw[hl];exact R.len,λj w z=>?_,λj k w1 w2 c z1 m1 z2 m2=>?_,λj o a z hv=>?_,λj o a z hv=>?_,λj a z=>?_,?_⟩,⟨⟨?_,?_,?_,?_,λb o u z=>p.ext.kg b o u (st.ext.kg b o u z)⟩,λa m=>st.mu a (mu a m),λj u z=>?_⟩,mu⟩
 .by_cases hj:j∈slotsOf us
  .obtain⟨u,u',o,a,q1,q2,q3,q4,q5,q6⟩:=KU j hj;rw[q3]at z;cases z;refine⟨.ref a,q4,?_⟩;cases u<;>cases q2
   .exact⟨a,rfl,q5,q6⟩
   .exact⟨a,rfl,q5,q6⟩
  .rw[out j hj]at z;obtain⟨v,h1,h2⟩:=R.rep j w z;refine⟨v,h1,h2.le p.ext.le p.ext.kg λa hm ha=>?_⟩;have hna:a∉addrs vs ws:=λhc=>by
    rcases Gw a hc with⟨i,u,q0,q1,q2,q3⟩|⟨_,_,_,q⟩
    .have:=R.Hf i j u w a q1 q2 z hm q3 (by rw[h1,ha]);subst this;exact hj q0
    .exact q ⟨j,w,z,hm,by rw[h1,ha]⟩
   obtain⟨c,o,e,f,_,k⟩:=h2.dw hm;rw[ha]at e;cases e;obtain⟨ho,hh⟩:=k.has;exact⟨λo q=>p.ext.keep a o q hna,p.ext.kh a ho hh hna f⟩
 .obtain⟨w1',q1,n1⟩:=orig z1 m1;obtain⟨w2',q2,n2⟩:=orig z2 m2;exact R.Hf j k w1' w2' c q1 n1 q2 n2
 .by_cases hj:j∈slotsOf us
  .obtain⟨u,u',o',a',q1,q2,q3,q4,q5⟩:=KU j hj;rw[q3]at z;cases z;cases u<;>cases q2
   exact R.own j _ a q1 hv
  .rw[out j hj]at z;exact R.own j o a z hv
 .by_cases hj:j∈slotsOf us
  .obtain⟨u,u',o',a',q1,q2,q3,q4,q5⟩:=KU j hj;rw[q3]at z;cases z;cases u<;>cases q2
   exact R.bor j _ a q1 hv
  .rw[out j hj]at z;exact R.bor j o a z hv
 .obtain⟨k1,o,k2⟩:=R.par j a z;refine⟨k1,?_⟩;by_cases hj:j∈slotsOf us
  .obtain⟨u,u',o',a',q1,q2,q3,q4,q5⟩:=KU j hj;rw[k2]at q1;cases q1;cases q2;exact⟨_,q3⟩
  .exact⟨o,by rw[out j hj];exact k2⟩
 .refine R.ext.trans p.ext λb hb=>?_;rcases Gw b hb with⟨i,u,q0,q1,q2,q3⟩|⟨_,_,q,_⟩
  .cases u with
   |t d=>cases q2
   |v d=>cases q2
   |s d=>cases q2
   |f d=>cases q2
   |x cx kx=>cases q2
   |m o=>exact .inr (R.own i o b q1 q3)
   |b o=>exact .inl (R.bor i o b q1 q3)
  .exact .inr q
 .exact λb o h=>p.ext.le b o (st.ext.le b o h)
 .intro b o h n;refine p.ext.keep b o (st.ext.keep b o h n) λhb=>?_;rcases Gw b hb with⟨i,u,q0,q1,q2,q3⟩|⟨_,q,_⟩
  .exact n (st.mu b ⟨i,u,q1,q2,q3⟩)
  .rw[h]at q;cases q
 .intro b o h n f;refine p.ext.kh b o (st.ext.keep b o h n) (λhb=>?_) (st.ext.kh b o h n f);rcases Gw b hb with⟨i,u,q0,q1,q2,q3⟩|⟨_,q,_⟩
  .exact n (st.mu b ⟨i,u,q1,q2,q3⟩)
  .rw[h]at q;cases q
 .intro b o h;obtain⟨o',h'⟩:=st.ext.there b o h;exact p.ext.there b o' h'
 .obtain⟨u',h'⟩:=st.slots j u z;by_cases hj:j∈slotsOf us
  .obtain⟨_,u2,_,_,_,_,q3,_⟩:=KU j hj;exact⟨u2,q3⟩
  .exact⟨u',by rw[out j hj];exact h'⟩
section
variable {X:Cx}{e:Expr}{es:BBC}{gu:GU}{x:Str}{p pos:Pos}{f:FM}{fa:Addr}{fd:FuncData}{ps:BBB}{k n:Nat}
def QN(F:fV X.prog X.w X.K X.mg X.base wM k fa fd ps (spT X.K n f))(hr:c7 k X.A)(hg:Gl X x)(hm:X.mg x=some (.ref fa))(hk:PySem.W.keepIn X.K (.ref fa)=true)(hb:Binds X.K fd ps [])(ha:JU X (e::es) gu)(hn:(e::es).length=n:=by rfl)
  (hdb:BBT x:=by decide)(he:starEach (e::es) X.env=(false,eval e X.env)::starEach es X.env:=by rfl)(hpl:(backTo pos (starEach es X.env)).any (·.1)=false:=by rfl):
  JE X (.Call (.Name x p) (e::es) [] pos) (aO f gu):=⟨λB=>(Qd F hr hg hm hk hb .nil IY (ha.h B) hdb he hpl).imp λO H Q hh=>by
 obtain⟨S,F0,u,S',R,hg,q⟩:=hh;obtain⟨⟨us,S1⟩,h1,hg⟩:=ah hg;dsimp only at hg;split at hg
 .rename_i hc;obtain⟨ws,h2,hg⟩:=ah hg;obtain⟨⟨r,outs⟩,h3,hg⟩:=ah hg;obtain⟨S2,h4,hg⟩:=aB hg;cases hg;refine⟨S,F0,us,S1,R,h1,λvs F1 H1 R1 st1 rr=>?_⟩;show spT X.K n f (vs++[]) H1 Q E0;rw[abE];have hlen:vs.length=n:=by rw[rr.length,ha.len _ _ _ h1];exact hn
  refine⟨hlen,F1,ws,r,outs,R1.sub,pC R1 rr h2,gI R1 rr h2 hc.1 hc.2,h3,λv F2 H2 po rn=>?_⟩;obtain⟨R2,st2,mu⟩:=iY R1 st1 rr h2 h4 hc.1 po;refine q v F2 H2 R2 st2 ?_;cases r with
  |t d=>exact rn
  |b o=>cases rn
  |v i=>cases rn
  |s i=>cases rn
  |f i=>cases rn
  |x cx kx=>cases rn
  |m o=>
   obtain⟨a,e,h0,f,h⟩:=rn;refine⟨a,e,none_of st1.ext.there h0,f,h,λm=>?_,none_of R1.ext.there h0⟩;obtain⟨o',ho⟩:=R1.has (mu a m);rw[h0]at ho;cases ho
 .cases hg⟩
end
noncomputable def b8:List U->SS->Option (List MO)
 |[],_=>some []
 |.b _::us,some (.b o)::S=>(b8 us S).map λos=>o::os
 |.b _::_,_=>none
 |_::us,_::S=>b8 us S
 |_::_,[]=>none
def bz(n:Nat)(g:GS):FM:=λus=>(g (us.map some++List.replicate (n-us.length) none)).bind λo=>match o with
 |.rt (.t d) S=>(b8 us S).map λos=>(.t d,os)
 |.rt (.m o) S=>(b8 us S).map λos=>(.m o,os)
 |.nx S=>(b8 us S).map λos=>(.t .cD,os)
 |_=>none
noncomputable def lent:List V->List U->List (BBN)
 |.ref a::vs,.b _::us=>some a::lent vs us
 |_::vs,_::us=>none::lent vs us
 |_,_=>[]
def vuC(v:V)(u:U):(∃a o,v= .ref a/\u= .b o)\/∀vs us,addrs (v::vs) (u::us)=addrs vs us/\lent (v::vs) (u::us)=none::lent vs us:=by
 cases v<;>cases u<;>first|exact .inr λ_ _=>⟨rfl,rfl⟩|exact .inl ⟨_,_,rfl,rfl⟩
theorem vO:∀(vs:List V)(us:List U)(a:Addr),some a∈lent vs us↔a∈addrs vs us
 |[],us,a=>by cases us<;>exact⟨λh=>absurd h abt,λh=>absurd h abt⟩
 |v::vs,[],a=>by cases v<;>exact⟨λh=>absurd h abt,λh=>absurd h abt⟩
 |v::vs,u::us,a=>by
  have ih:=vO vs us a;rcases vuC v u with⟨c,o,rfl,rfl⟩|h
  .show some a∈some c::lent vs us↔a∈c::addrs vs us;rw[aat,aat,ih,Option.some_inj]
  .rw[(h vs us).1,(h vs us).2,aat,ih];exact⟨λz=>z.resolve_left nofun,.inr⟩
theorem zU:∀{vs:List V}{us:List U}{i:Nat}{a:Addr},(lent vs us)[i]? =some (some a)->vs[i]? =some (.ref a)/\∃o,us[i]? =some (.b o)
 |[],us,i,a,h=>by cases us<;>cases h
 |v::vs,[],i,a,h=>by cases v<;>cases h
 |v::vs,u::us,i,a,h=>by
  rcases vuC v u with⟨c,o,rfl,rfl⟩|q
  .cases i with
   |zero=>cases(show some (some c)=some (some a) from h);exact⟨rfl,_,rfl⟩
   |succ i=>exact zU (vs:=vs) (us:=us) (i:=i) h
  .rw[(q vs us).2]at h;cases i with
   |zero=>cases h
   |succ i=>exact zU (vs:=vs) (us:=us) (i:=i) h
theorem Dc{K:AAD}:∀{F H:Hp}{vs:List V}{us:List U}{i:Nat}{o:MO},Paired (EM K F H) vs us->us[i]? =some (.b o)->∃a,vs[i]? =some (.ref a)/\(lent vs us)[i]? =some (some a)/\F a=none/\At F H a o
 |_,_,_,_,_,_,.nil,h=>by cases h
 |_,_,_,_,0,o,@Paired.cons _ _ _ v u vs us r rs,h=>by
  cases(show some u=some (U.b o) from h);obtain⟨a,rfl,f,k⟩:=r;exact⟨a,rfl,rfl,f,k⟩
 |_,_,_,_,i+1,o,@Paired.cons _ _ _ v u vs us r rs,h=>by
  obtain⟨a,h1,h2,h3⟩:=Dc (i:=i) rs h;refine⟨a,h1,?_,h3⟩;rcases vuC v u with⟨c,o',rfl,rfl⟩|q
  .exact h2
  .rw[(q vs us).2];exact h2
theorem Cd:∀{vs:List V}{us:List U}{i j:Nat}{a:Addr},(addrs vs us).Nodup->(lent vs us)[i]? =some (some a)->(lent vs us)[j]? =some (some a)->i=j
 |[],us,i,j,a,_,h,_=>by cases us<;>cases h
 |v::vs,[],i,j,a,_,h,_=>by cases v<;>cases h
 |v::vs,u::us,i,j,a,nd,h1,h2=>by
  have ih:∀{i j},(addrs vs us).Nodup->(lent vs us)[i]? =some (some a)->(lent vs us)[j]? =some (some a)->i=j:=λ{i j}=>Cd (i:=i) (j:=j);have nz:∀{c j},(c::addrs vs us).Nodup->some (some c)=some (some a)->(lent vs us)[j]? =some (some a)->False:=λn z e=>(acC.mp n).1 ((vO vs us _).mp (adQ (e.trans z.symm)));rcases vuC v u with⟨c,o,rfl,rfl⟩|q
  .cases i with
   |zero=>
    cases j with
    |zero=>rfl
    |succ j=>exact(nz (j:=j) nd h1 h2).elim
   |succ i=>
    cases j with
    |zero=>exact(nz (j:=i) nd h2 h1).elim
    |succ j=>exact congrArg Nat.succ (ih (acC.mp nd).2 h1 h2)
  .rw[(q vs us).2]at h1 h2;rw[(q vs us).1]at nd;cases i with
   |zero=>cases h1
   |succ i=>
    cases j with
    |zero=>cases h2
    |succ j=>exact congrArg Nat.succ (ih nd h1 h2)
def uR{α β:Type}{P:α->β->Prop}{l:List α}{r:List β}{y:β}(p:Paired P l r)(h:r[i]? =some y):∃x,l[i]? =some x/\P x y:=by
 induction p generalizing i with
 |nil=>cases h
 |cons p _ ih=>
  cases i with
  |zero=>cases h;exact⟨_,rfl,p⟩
  |succ i=>exact ih h
def tM{F:Hp}(sb:Sub F H)(ar:Paired (EM K F H) vs us)(nd:(addrs vs us).Nodup)(N:BBB)(hN:N.length=n):
  Rel K ⟨lent vs us,F,H⟩ (us.map some++List.replicate (n-us.length) none) (start N vs) F H:=by
 have hl:vs.length=us.length:=ar.length;have gS:∀{i:Nat}{u:U},(us.map some++List.replicate (n-us.length) none)[i]? =some (some u)->us[i]? =some u:=λ{i u} h=>by
  rw[List.getElem?_append]at h;split at h
  .rw[abx]at h;obtain⟨w,h1,h2⟩:=aB h;cases h2;exact h1
  .rw[agK]at h;split at h<;>cases h
 have gσ:∀{i:Nat}{v:V},vs[i]? =some v->(start N vs)[i]? =some (some v):=λ{i v} h=>by
  unfold start;have hi:=(aaA.mp h).1;rw[afA (by simpa using hi),abx,h];rfl
 have vb:∀{i:Nat}{v w:V},vs[i]? =some v->(start N vs)[i]? =some (some w)->v=w:=λ{i v w} h k=>by
  rw[gσ h]at k;cases k;rfl
 have QO:∀{i:Nat}{u:U},us[i]? =some u->fE u=true->∃o a,u= .b o/\vs[i]? =some (.ref a)/\(lent vs us)[i]? =some (some a)/\F a=none/\At F H a o:=λ{i u} h hm=>by
  obtain⟨v,h1,h2⟩:=uR ar h;cases u with
  |t d=>cases hm
  |v d=>cases hm
  |s d=>cases hm
  |f d=>cases hm
  |x cx kx=>cases hm
  |m o=>cases h2
  |b o=>obtain⟨a,k1,k2,k3,k4⟩:=Dc ar h;exact⟨o,a,rfl,k1,k2,k3,k4⟩
 refine⟨sb,?_,λi u h=>?_,λi j u w a h1 m1 h2 m2 v1 v2=>?_,λi o a h hv=>?_,λi o a h hv=>?_,λi a h=>?_,Ext.refl ..⟩
 .unfold start;simp[hl,hN]
 .obtain⟨v,h1,h2⟩:=uR ar (gS h);refine⟨v,gσ h1,?_⟩;cases u with
  |t d=>exact h2
  |s d=>exact h2
  |f d=>exact h2
  |x cx kx=>exact h2
  |v d=>cases h2
  |m o=>cases h2
  |b o=>exact h2
 .obtain⟨_,a1,_,k1,k2,_⟩:=QO (gS h1) m1;obtain⟨_,a2,_,l1,l2,_⟩:=QO (gS h2) m2;have e1:=vb k1 v1;have e2:=vb l1 v2;cases e1;cases e2;exact Cd nd k2 l2
 .obtain⟨_,_,e,_⟩:=QO (gS h) rfl;cases e
 .obtain⟨_,a1,_,k1,k2,_⟩:=QO (gS h) rfl;have e1:=vb k1 hv;cases e1;exact adQ k2
 .obtain⟨k1,o,k2⟩:=zU h;refine⟨gσ k1,o,?_⟩;have hi:=(aaA.mp k2).1;rw[afA (by simpa using hi),abx,k2];rfl
def YG{v:V}(hu:¬∃o,u= .b o):addrs (v::vs) (u::us)=addrs vs us/\lent (v::vs) (u::us)=none::lent vs us/\(∀s S os,b8 (u::us) (s::S)=some os->b8 us S=some os)/\∀os,¬b8 (u::us) []=some os:=by
 cases v<;>cases u<;>first|exact⟨rfl,rfl,λ_ _ _ h=>h,λ_ h=>by cases h⟩|exact absurd ⟨_,rfl⟩ hu
theorem Dd{F' H':Hp}:∀{vs:List V}{us:List U}{S:SS}{os:List MO},b8 us S=some os->vs.length=us.length->(∀(i:Nat)(o:MO)(a:Addr),(lent vs us)[i]? =some (some a)->S[i]? =some (some (.b o))->F' a=none/\At F' H' a o)->(∀(i:Nat)(o:MO),us[i]? =some (.b o)->∃a,vs[i]? =some (.ref a))->
  Paired (λa o=>F' a=none/\At F' H' a o) (addrs vs us) os
 |[],[],S,os,h,_,_,_=>by cases h;exact .nil
 |[],_::_,_,_,_,l,_,_=>by cases l
 |_::_,[],_,_,_,l,_,_=>by cases l
 |v::vs,u::us,S,os,h,l,k,kb=>by
  have l':vs.length=us.length:=by simpa using l
  have kb':∀(i:Nat)(o:MO),us[i]? =some (.b o)->∃a,vs[i]? =some (.ref a):=λi o z=>kb (i+1) o z;by_cases hu:∃o,u= .b o
  .obtain⟨o,rfl⟩:=hu;obtain⟨a,ha⟩:=kb 0 o rfl;have ha:v= .ref a:=by simpa using ha
   subst ha;cases S with
   |nil=>cases h
   |cons s S=>
    cases s with
    |none=>cases h
    |some s=>
     cases s with
     |b o'=>
      obtain⟨os',h1,h2⟩:=aB (show(b8 us S).map (λos=>o'::os)=some os from h);subst h2;exact .cons (k 0 o' a rfl rfl) (Dd h1 l' (λi o a z1 z2=>k (i+1) o a z1 z2) kb')
     |t d=>cases h
     |m d=>cases h
     |v d=>cases h
     |s d=>cases h
     |f d=>cases h
     |x cx kx=>cases h
  .obtain⟨e2,e1,e3⟩:=YG (v:=v) (vs:=vs) (us:=us) hu;rw[e2];cases S with
   |nil=>exact absurd h (e3.2 os)
   |cons s S=>exact Dd (e3.1 s S os h) l' (λi o a z1 z2=>k (i+1) o a (by rw[e1];exact z1) z2) kb'
def post_of(ar:Paired (EM K F0 H) vs us)(S':SS)(O':St)(F' H':Hp)(os:List MO)(R':Rel K ⟨lent vs us,F0,H⟩ S' O' F' H')(ho':b8 us S'=some os):Post F0 H F' H' (addrs vs us) os:=by
 refine⟨R'.sub,⟨R'.ext.le,λb o z n=>R'.ext.keep b o z λm=>n ((vO vs us b).mp m),λb o z n=>R'.ext.kh b o z λm=>n ((vO vs us b).mp m),R'.ext.there,R'.ext.kg⟩,Dd ho' ar.length (λi o a z1 z2=>?_) λi o z=>?_⟩
 .obtain⟨k1,o2,k2⟩:=R'.par i a z1;obtain⟨v,j1,j2⟩:=R'.rep i _ z2;rw[k1]at j1;cases j1;obtain⟨c,e,f,k⟩:=j2;cases e;exact⟨f,k⟩
 .obtain⟨a,h1,_⟩:=Dc ar z;exact⟨a,h1⟩
def QS{N:BBB}{g:GS}{r:U}{Q:VK}(sb:Sub F0 H)(ar:Paired (EM K F0 H) vs us)(nd:(addrs vs us).Nodup)(hrun:bz N.length g us=some (r,outs))
  (q:∀v F' H',Post F0 H F' H' (addrs vs us) outs->KQ H F' H' v r->Q v H'):tO K ⟨lent vs us,F0,H⟩ g {nx:=λ_ H'=>Q .cD H',rt:=Q} (start N vs) H:=by
 have R0:=tM sb ar nd N rfl;obtain⟨o,ho,hrun⟩:=ah hrun;refine⟨_,F0,o,R0,ho,?_⟩;have post:=post_of ar;cases o with
 |bk S'=>cases hrun
 |ct S'=>cases hrun
 |nx S'=>
  obtain⟨os,h1,h2⟩:=aB (show(b8 us S').map _=some (r,outs) from hrun);cases h2;exact λO' F' H' R' le=>q .cD F' H' (post S' O' F' H' outs R' h1) .cD
 |rt u S'=>
  cases u with
  |b o=>cases hrun
  |v i=>cases hrun
  |s i=>cases hrun
  |f i=>cases hrun
  |x cx kx=>cases hrun
  |t d=>
   obtain⟨os,h1,h2⟩:=aB (show(b8 us S').map _=some (r,outs) from hrun);cases h2;exact λv O' F' H' R' le rr=>q v F' H' (post S' O' F' H' outs R' h1) rr
  |m o=>
   obtain⟨os,h1,h2⟩:=aB (show(b8 us S').map _=some (r,outs) from hrun);cases h2;exact λv O' F' H' R' le rr=>q v F' H' (post S' O' F' H' outs R' h1) (by obtain⟨a,e,h0,f,h,n,hB⟩:=rr;exact⟨a,e,hB,f,h⟩)
section
variable {P:Program}{w:World}{K:AAD}{mg:AAF}{base:Heap}
def okT{qual:Str}{st:Stmt}{f:Addr}{fd:FuncData}{N ps:BBB}{k:Nat}{fm:FM}{g:GS}(F:IZ K x qual st f fd)(Sc:bq N ps (aD st))
  (hb:∀(cdv:Value)(A:Around)(outer:BBF)(s:Shared)(H:Hp)(E:XK),c7 k (A.deeper (envOfC qual (aD st) s.heap.objs.size f cdv))->JB (uO wM P w K mg base N qual (aD st) f cdv A outer s H E).Ma (dc st) g)
  (hf:∀us r,fm us=some r->bz N.length g us=some r):fV P w K mg base wM (k+1) f fd ps (spT K ps.length fm):=by
 refine F.ok Sc (λvs H Q E h=>h.1) λcdv A outer s H vs Q E hr h=>?_;obtain⟨hlen,F0,us,r,outs,sb,ar,nd,hfm,q⟩:=h;have hrun:=hf us (r,outs) hfm;have J:=hb cdv A outer s H E hr;exact⟨_,J.h ⟨lent vs us,F0,H⟩,QS sb ar nd hrun q⟩
end
noncomputable def uS(S:SS)(i:Nat):Option U:=match S[i]? with
 |some (some (.t d))=>some (.t d)
 |some (some (.s d))=>some (.s d)
 |some (some (.f d))=>some (.f d)
 |some (some (.m _))=>some (.v i)
 |some (some (.b _))=>some (.v i)
 |_=>none
def ie(S:SS):BBJ->Option (List U)
 |[]=>some []
 |i::cap=>(uS S i).bind λu=>(ie S cap).map λus=>u::us
noncomputable def iy:GT:=λS=>some (true,S)
def cM(cap:BBJ)(q:GT)(g:GD):List D->SS->List D->Option (List D×SS)
 |[],S,acc=>some (acc,S)
 |d::ds,S,acc=>(ie S cap).bind λus=>
  if(slotsOf us).Nodup/\cu us<=1 then(bT S us).bind λws=>(q (AAA d::ws.map some)).bind λp=>
   if p.1 then(g p.2).bind λr=>(b8 (.t d::ws) r.2).bind λouts=>(wb us outs S).bind λS'=>cM cap q g ds S' (acc++[r.1])
   else(b8 (.t d::ws) p.2).bind λouts=>(wb us outs S).bind λS'=>cM cap q g ds S' acc
  else none
def iP(cap:BBJ)(gi:GI)(q:GT)(g:GD):GE:=λS=>(gi S).bind λp=>if p.1.length<=100000 then(cM cap q g p.1 p.2 []).map λr=>(.m (.lst r.1),r.2) else none
structure W5(X:Cx)(es:BBC)(q:GT):Prop where
 h:∀B,Th X es (tQ X.K B q)
def ig :W5 X [] iy:=⟨λB pins s O H Q I ⟨S,F,b,S',R,hg,q⟩=>by cases hg;exact Qw pins s O H Q I (q F H R (Step.refl ..))⟩
def Jg{c:Expr}(h:JT X c q):W5 X [c] q:=⟨λB=>Qx (h.h B)⟩
theorem Nq{K:AAD}{B:Base}{S:SS}{O:St}{F H:Hp}(R:Rel K B S O F H):∀{cap:BBJ}{us:List U},ie S cap=some us->∃vs:List V,ki cap O=vs.map some/\Paired (λv u=>gD K B S O H F H v u) vs us
 |[],us,h=>by cases h;exact⟨[],rfl,.nil⟩
 |i::cap,us,h=>by
  obtain⟨u,h1,h⟩:=ah h;obtain⟨us',h2,h⟩:=aB h;subst h;obtain⟨vs,k1,k2⟩:=Nq R h2;have one:∀w,S[i]? =some (some w)->∃v,O[i]? =some (some v)/\C4 K F H v w:=R.rep i;unfold uS at h1;have fin:∀v,O[i]? =some (some v)->gD K B S O H F H v u->∃vs:List V,ki (i::cap) O=vs.map some/\Paired (λv u=>gD K B S O H F H v u) vs (u::us'):=λv e r=>
   ⟨v::vs,by show(O[i]?).join::ki cap O=_;rw[e,k1];rfl,.cons r k2⟩
  split at h1
  .rename_i d e;cases h1;obtain⟨v,e1,r⟩:=one _ e;exact fin v e1 r
  .rename_i d e;cases h1;obtain⟨v,e1,r⟩:=one _ e;exact fin v e1 r
  .rename_i d e;cases h1;obtain⟨v,e1,r⟩:=one _ e;exact fin v e1 r
  .rename_i o e;cases h1;obtain⟨v,e1,r⟩:=one _ e;exact fin v e1 ⟨e1,_,e⟩
  .rename_i o e;cases h1;obtain⟨v,e1,r⟩:=one _ e;exact fin v e1 ⟨e1,_,e⟩
  .cases h1
def EN{F:Hp}(R:Rel K B S O F H)(d:D)(h:bT S us=some ws):bT S (.t d::us)=some (.t d::ws):=by
 show(some (U.t d)).bind _=_;show(bT S us).map _=_;rw[h];rfl
inductive YH(K:AAD)(B:Base)(S:SS)(O:St)(F H F1:Hp)(lp:List D->SS->List D->Option (List D×SS))(ds:List D)(r:List D×SS)(i m:Nat)(ys:List V)(H':Hp):Prop
 |mk(S2:SS)(F2:Hp)(acc:List D)(R:Rel K B S2 O F2 H')(st:Step S S2 O F H F2 H')(le:∀b o,F1 b=some o->F2 b=some o)(ry:bE F2 ys acc)(ha:acc.length<=i)(hl:i<=ds.length)(hm:m=ds.length-i)(e:lp (ds.drop i) S2 acc=some r)
def ER{Q:VK}(h:tE K B (iP cap gi q g) O H Q):W0 (tIt K B gi) cap (λO H Q=>∃B,tQ K B q O H Q) (λO H Q=>∃B,tD K B g O H Q) O H Q:=by
 obtain⟨x,_⟩:∃x:Str,True:=⟨"",trivial⟩
 obtain⟨S,F,u,S',R,hg,k⟩:=h;obtain⟨⟨ds,S1⟩,h1,hg⟩:=ah hg;dsimp only at hg;split at hg
 .rename_i hlen;obtain⟨⟨res,Sf⟩,h2,hg⟩:=aB hg;cases hg;refine⟨S,F,ds,S1,R,h1,λJ F1 H1 R1 st1 w=>?_⟩;refine⟨YH K B S O F H F1 (cM cap q g) ds (res,Sf),
   ⟨_,S1,F1,[],R1,st1,λ_ _ z=>z,.nil,aaq _,abX _,rfl,h2⟩,?_⟩
  rintro i m ys H' ⟨S2,F2,acc,R2,st2,le,ry,ha,hl,rfl,fC⟩;refine⟨by rw[ry.length];exact agk (aaC ha (aaC hl hlen)) (by decide),?_⟩;have w':=w F2 H' le R2.sub i;by_cases hlt:i<ds.length
  .have hd:ds[i]? =some ds[i]:=aaz hlt;obtain⟨go,yl⟩:=w'.1 _ hd;rw[adN hlt]at fC;refine .inr ⟨go,λxv H3 y=>?_⟩;obtain⟨rfl,rx⟩:=yl xv H3 y;obtain⟨us,e1,fC⟩:=ah fC
   skip
   split at fC
   .rename_i hnd;obtain⟨ws,e2,fC⟩:=ah fC;obtain⟨⟨bk,T1⟩,e3,fC⟩:=ah fC;obtain⟨vs,k1,k2⟩:=Nq R2 e1;have rr:Paired (λv u=>gD K B S2 O H3 F2 H3 v u) (xv::vs) (.t ds[i]::us):=.cons rx k2;have er:=EN R2 ds[i] e2;have ar:=pC R2 rr er;have nd:=gI R2 rr er hnd.1 hnd.2;have R3:=tM (n:=ws.length+1) R2.sub ar nd (List.replicate (ws.length+1) x) (by simp);have hvl:vs.length=ws.length:=by have:=ar.length;simpa using this
    have es:start (List.replicate (ws.length+1) x) (xv::vs)=some xv::ki cap O:=by
     unfold start;rw[k1];simp[hvl]
    have eS:(U.t ds[i]::ws).map some++List.replicate (ws.length+1-(U.t ds[i]::ws).length) none=some (U.t ds[i])::ws.map some:=by simp
    rw[es,eS]at R3;have back:∀(T2:SS)(F3 H4:Hp)(outs:List MO)(S3:SS),Rel K ⟨lent (xv::vs) (U.t ds[i]::ws),F2,H3⟩ T2 (some xv::ki cap O) F3 H4->b8 (U.t ds[i]::ws) T2=some outs->wb us outs S2=some S3->Rel K B S3 O F3 H4/\Step S S3 O F H F3 H4/\(∀b o,F2 b=some o->F3 b=some o):=λT2 F3 H4 outs S3 RT ho hw=>by
     have po:=post_of ar T2 _ F3 H4 outs RT ho;obtain⟨Ra,KZ,_⟩:=iY (S0:=S2) (F0:=F2) (H0:=H3) R2 (Step.refl ..) rr er (show wb (U.t ds[i]::us) outs S2=some S3 by cases outs<;>exact hw) hnd.1 po;exact⟨Ra,st2.trans KZ,KZ.ext.le⟩
    refine⟨_,_,F2,bk,T1,R3,e3,λF3 H4 YI acH=>?_⟩;cases bk with
    |true=>
     obtain⟨⟨yd,T2⟩,e4,fC⟩:=ah (show(g T1).bind _=_ from fC);obtain⟨outs,e5,fC⟩:=ah fC;obtain⟨S3,e6,fC⟩:=ah fC;refine G5 ⟨_,T1,F3,yd,T2,YI,e4,λyv F4 H5 RT2 acJ Vb=>?_⟩;obtain⟨Ra,KZ,QT⟩:=back T2 F4 H5 outs S3 RT2 e5 e6;refine⟨ds.length-(i+1),by lia,S3,F4,acc++[yd],Ra,KZ,λb o z=>QT b o (le b o z),(ry.le QT).append (.cons Vb .nil),by simp;lia,hlt,rfl,fC⟩
    |false=>
     obtain⟨outs,e5,fC⟩:=ah (show(b8 (U.t ds[i]::ws) T1).bind _=_ from fC);obtain⟨S3,e6,fC⟩:=ah fC;obtain⟨Ra,KZ,QT⟩:=back T1 F3 H4 outs S3 YI e5 e6;exact G4 ⟨ds.length-(i+1),by lia,S3,F3,acc,Ra,KZ,λb o z=>QT b o (le b o z),ry.le QT,by lia,hlt,rfl,fC⟩
   .cases fC
  .have e:i=ds.length:=by lia
   subst e;rw[afm]at fC;cases fC;refine .inl ⟨w'.2 (aaq _),λp hp=>?_⟩;have n:=fW.obj (F:=F2) hp (.lst ys);refine k (.ref p) F2 _ (R2.new n (R2.sub.same n.same)) (st2.trans n.step) ⟨p,rfl,none_of st2.ext.there hp,R2.sub.fresh hp,⟨ys,aZ,ry⟩,λm=>?_,none_of R2.ext.there hp⟩;obtain⟨o,ho⟩:=R2.has m;rw[hp]at ho;cases ho
 .cases hg
def jZ{px:Pos}(T:fK X x cI cap scope cl)(hc:X.calm=true)(hi:JI X (.Name x px) iter gi)
  (ht:∀C s H fp,W5 (d9 X (x::cI) scope cl C s H fp) ifs q)(he:∀C s H fp,JD (d9 X (x::cI) scope cl C s H fp) elt g)
  (hs:∀x,foldedSetIterable iter X.env x=pure x:=by intro _;rfl):JE X (.ListComp elt [⟨.Name x px,iter,ifs,0⟩] scope pos) (iP cap gi q g):=⟨λB=>by
 exact(EF (tc:=λO H Q=>∃B,tQ X.K B q O H Q) (te:=λO H Q=>∃B,tD X.K B g O H Q) T hc (hi.h B) (λC s H fp pins s' O H' Q I ⟨B',z⟩=>(ht C s H fp).h B' pins s' O H' Q I z) (λC s H fp pins s' O H' Q I ⟨B',z⟩=>(he C s H fp).h B' pins s' O H' Q I z) hs).imp λO H Q h=>ER h⟩
def Nr{y:Str}{px py spos:Pos}(hN:X.N.Nodup)(hy:X.N[i]? =some y)(hx:Loc X.env.scope y)(T:fK X x cI cap scope cl)(hc:X.calm=true)(hi:JI X (.Name x px) iter gi)
  (ht:∀C s H fp,W5 (d9 X (x::cI) scope cl C s H fp) ifs q)(he:∀C s H fp,JD (d9 X (x::cI) scope cl C s H fp) elt g)
  (hsw:swapsWith (.ListComp elt [⟨.Name x px,iter,ifs,0⟩] scope pos) (some (.Name y py)) spos.line X.env=pure true:=by rfl)(hf:X.fn y=true\/X.env.scope.names.lookup y=some .local:=by trivial)
  (hs:∀x,foldedSetIterable iter X.env x=pure x:=by intro _;rfl):JS X (.Assign [.Name y py] (.ListComp elt [⟨.Name x px,iter,ifs,0⟩] scope pos) spos) (bX i (iP cap gi q g)):=⟨λB=>
 (M1 (tc:=λO H Q=>∃B,tQ X.K B q O H Q) (te:=λO H Q=>∃B,tD X.K B g O H Q) T hc (hi.h B) (λC s H fp pins s' O H' Q I ⟨B',z⟩=>(ht C s H fp).h B' pins s' O H' Q I z) (λC s H fp pins s' O H' Q I ⟨B',z⟩=>(he C s H fp).h B' pins s' O H' Q I z) hs hN hy hx hsw hf).imp λD O H h=>ER (Je h)⟩
mutual
noncomputable def De:D->D->Bool
 |.cD,.cD=>true
 |.bl a,.bl b=>a == b
 |.int a,.int b=>a == b
 |.bl a,.int b=>(if a then 1 else 0) == b
 |.int a,.bl b=>a == (if b then 1 else 0)
 |.str a,.str b=>a == b
 |.tup a,.tup b=>qV a b
 |.lst a,.lst b=>qV a b
 |_,_=>false
noncomputable def qV:List D->List D->Bool
 |[],[]=>true
 |a::as,b::bs=>De a b && qV as bs
 |_,_=>false
end
mutual
noncomputable def lU:D->Nat
 |.tup ds=>gJ ds+1
 |.lst ds=>gJ ds+1
 |_=>0
noncomputable def gJ:List D->Nat
 |[]=>0
 |d::ds=>max (lU d) (gJ ds)
end
mutual
theorem Nt:∀d:D,De d d=true
 |.cD=>rfl
 |.bl a=>show(a == a)=true from aeg a
 |.int a=>show(a == a)=true from aeg a
 |.str a=>show(a == a)=true from aeg a
 |.tup a=>show qV a a=true from oh a
 |.lst a=>show qV a a=true from oh a
theorem oh:∀ds:List D,qV ds ds=true
 |[]=>rfl
 |d::ds=>by show(De d d && qV ds ds)=true;rw[Nt d,oh ds];rfl
end
def uy(as bs:List D)(j:Nat):Bool:=match as[j]?,bs[j]? with
 |some a,some b=>De a b
 |_,_=>true
def zV(n:Nat)(e:Nat->Bool):(List.range (n+1)).all e=(e 0 && (List.range n).all λj=>e (j+1)):=by
 rw[List.range_succ_eq_map,adV,List.all_map];rfl
theorem zW:∀{as bs:List D},as.length≠bs.length->qV as bs=false
 |[],[],h=>absurd rfl h
 |[],_::_,_=>rfl
 |_::_,[],_=>rfl
 |a::as,b::bs,h=>by
  show(De a b && qV as bs)=false;rw[zW (as:=as) (bs:=bs) (λz=>h (by simp[z])),ag1]
theorem uT:∀{as bs:List D},as.length=bs.length->(List.range as.length).all (uy as bs)=qV as bs
 |[],[],_=>rfl
 |[],_::_,h=>by cases h
 |_::_,[],h=>by cases h
 |a::as,b::bs,h=>by
  have h':as.length=bs.length:=by simpa using h
  show(List.range (as.length+1)).all _=_;rw[zV];show _=(De a b && qV as bs);have ih:=uT h';have e:(λj=>uy (a::as) (b::bs) (j+1))=uy as bs:=by funext j;kernel_rfl
  rw[e,ih];rfl
def Jh{F:Hp}{ws:List V}(h:Rd F a (.lst vs))(h':Rd F a (.lst ws)):vs=ws:=by
 rcases h with e1|⟨o,e1⟩<;>rcases h' with e2|⟨o',e2⟩<;>(rw[e1]at e2;cases e2)<;>rfl
def Rep.Tt{F:Hp}:(∀{v d},Rep F v d->∀e,Rep F v e->d=e)/\∀{vs ds},bE F vs ds->∀es,bE F vs es->ds=es:=
 Rep.both (λ_ r=>by cases r;rfl) (λ_ _ r=>by cases r;rfl) (λ_ _ r=>by cases r;rfl) (λ_ _ r=>by cases r;rfl)
  (λe1 q _ r=>by
   cases r with
   |tup e2 r2=>cases e1.symm.trans e2;rw[q _ r2]
   |lst e2 r2=>rcases e2 with e2|⟨o,e2⟩<;>cases e1.symm.trans e2)
  (λe1 q _ r=>by
   cases r with
   |tup e2 r2=>rcases e1 with e1|⟨o,e1⟩<;>cases e1.symm.trans e2
   |lst e2 r2=>rw[q _ (Jh e1 e2▸r2)])
  (λ_ r=>by cases r;rfl) (λp q _ r=>by cases r with|cons r2 s2=>rw[p _ r2,q _ s2])
def Rep.uniq{F:Hp}{v:V}{d e:D}(r:Rep F v d)(q:Rep F v e):d=e:=Rep.Tt.1 r _ q
def bE.uniq{F:Hp}(r:bE F vs ds)(q:bE F vs es):ds=es:=Rep.Tt.2 r _ q
section
variable {X:Cx}{pins:AAG}{O:St}{F H:Hp}{s:Shared}
def Sub.isTup(I:Inv X pins O H s)(sb:Sub F H)(h:F a=some (.tup vs)):∃its:BBG,Vals vs its/\s.heap.IsTuple a its.toArray:=by
 obtain⟨its,rv,p,_⟩:=I.tuple (.inl (Rd.of (sb a _ h)));exact⟨its,rv,p⟩
def Sub.ux(I:Inv X pins O H s)(sb:Sub F H)(h:Rd F a (.lst vs)):∃its:BBG,Vals vs its/\s.heap.IsList a its.toArray:=by
 obtain⟨its,rv,p,_⟩:=I.list (.inl (h.imp (sb a _) λ⟨o,z⟩=>⟨o,sb a _ z⟩));exact⟨its,rv,p.isList⟩
def Ji(A:Around)(s:Shared)(its oY:AAL)(ds es:List D):Prop:=∀j(h1:j<its.toArray.size)(h2:j<oY.toArray.size),SeqAt.EqAt A.in1 s its.toArray[j] oY.toArray[j] (uy ds es j)
def QU{m:Nat}(h:n=m)(e:Nat->Bool):((List.range (min n m)).all e && n == m)=(List.range n).all e:=by
 subst h;simp
def YJ{ca cb:Addr}(hu:A.units<cLine)(pa:s.heap.IsTuple ca uL.toArray)(pb:s.heap.IsTuple cb oY.toArray)(la:uL.length=ds.length)(lb:oY.length=es.length)(h:Ji A s uL oY ds es):
  SeqAt.RcAt A s (.ref ca) (.ref cb) (qV ds es)/\SeqAt.RcNeAt A s (.ref ca) (.ref cb) (!qV ds es):=by
 have q:=SeqAt.RcAt.tuples (e:=uy ds es) pa pb hu h;have p:=SeqAt.RcNeAt.tuples (e:=uy ds es) pa pb hu h;rw[aao,aao,la,lb]at q p;by_cases hl:ds.length=es.length
 .rw[QU hl,uT hl]at q p;exact⟨q,p⟩
 .rw[zW hl];have:(ds.length == es.length)=false:=by simpa using hl
  rw[this,ag1]at q p;exact⟨q,p⟩
def YK{ca cb:Addr}(hu:A.units<cLine)(pa:s.heap.IsList ca uL.toArray)(pb:s.heap.IsList cb oY.toArray)(la:uL.length=ds.length)(lb:oY.length=es.length)(h:Ji A s uL oY ds es):
  SeqAt.RcAt A s (.ref ca) (.ref cb) (qV ds es)/\SeqAt.RcNeAt A s (.ref ca) (.ref cb) (!qV ds es):=by
 have z:uL.toArray.size=oY.toArray.size↔ds.length=es.length:=by rw[aao,aao,la,lb]
 by_cases hl:ds.length=es.length
 .have q:=SeqAt.RcAt.lists (e:=uy ds es) pa pb (z.mpr hl) hu h;have p:=SeqAt.RcNeAt.lists (e:=uy ds es) pa pb (z.mpr hl) hu h;rw[aao,la,uT hl]at q p;exact⟨q,p⟩
 .rw[zW hl];have n:(uL.toArray.size != oY.toArray.size)=true:=bne_iff_ne.mpr λe=>hl (z.mp e);exact⟨.lists_lengths pa pb n hu,.lists_lengths pa pb n hu⟩
def tN(l:List α)(j:Nat)(h:j<l.toArray.size):l[j]? =some l.toArray[j]:=by
 have z:j<l.length:=by simpa using h
 simp[z]
inductive Vc(F:Hp)(s:Shared):Value->D->Prop where
 |cD:Vc F s .none .cD
 |bl(b:Bool):Vc F s (.bool b) (.bl b)
 |int(i:Int)(t:Nat):Vc F s (.int i t) (.int i)
 |str(z:Str)(t:Nat):Vc F s (.str z t) (.str z)
 |tup{a:Addr}{vs:List V}{its:AAL}{ds:List D}:F a=some (.tup vs)->bE F vs ds->Vals vs its->s.heap.IsTuple a its.toArray->Vc F s (.ref a) (.tup ds)
 |lst{a:Addr}{vs:List V}{its:AAL}{ds:List D}:Rd F a (.lst vs)->bE F vs ds->Vals vs its->s.heap.IsList a its.toArray->Vc F s (.ref a) (.lst ds)
def Nu(I:Inv X pins O H s)(sb:Sub F H){d:D}{x:V}{u:Value}(r:Rep F x d)(rx:RelV x u):Vc F s u d:=by
 cases r with
 |cD=>cases rx;exact .cD
 |bl b=>cases rx;exact .bl b
 |int i=>obtain⟨t,rfl⟩:=rx;exact .int i t
 |str z=>obtain⟨t,rfl⟩:=rx;exact .str z t
 |tup e r=>cases rx;obtain⟨_,v,p⟩:=sb.isTup I e;exact .tup e r v p
 |lst e r=>cases rx;obtain⟨_,v,p⟩:=sb.ux I e;exact .lst e r v p
structure Tri(A:Around)(s:Shared)(u w:Value)(b:Bool):Prop where
 eq:SeqAt.EqAt A s u w b
 rc:SeqAt.RcAt A s u w b
 ne:SeqAt.RcNeAt A s u w (!b)
mutual
theorem QV(I:Inv X pins O H s)(sb:Sub F H):∀(d:D){e:D}{A:Around}{x y:V}{u w':Value},Rep F x d->Rep F y e->RelV x u->RelV y w'->A.units+lU d<cLine->Tri A s u w' (De d e):=λd {e A x y u w'} r1 r2 rx ry hu=>by
 have k2:=Nu I sb r2 ry;have hz:A.units<cLine:=by lia
 cases Nu I sb r1 rx with
 |cD=>
  cases k2 with
  |cD=>exact⟨.same _,.none_none,.none_none⟩
  |bl b=>exact⟨.none_bool b,.none_bool b,.none_bool b⟩
  |int b tb=>exact⟨.none_int b tb,.none_int b tb,.none_int b tb⟩
  |str b tb=>exact⟨.none_str b tb,.none_str b tb,.none_str b tb⟩
  |tup _ _ _ p=>exact⟨.none_tuple p hz,.none_tuple p hz,.none_tuple p hz⟩
  |lst _ _ _ p=>exact⟨.none_list p hz,.none_list p hz,.none_list p hz⟩
 |bl a=>
  cases k2 with
  |cD=>exact⟨.bool_none a,.bool_none a,.bool_none a⟩
  |bl b=>exact⟨.bool_bool a b,.bool_bool a b,.bool_bool a b⟩
  |int b tb=>exact⟨.bool_int a b tb,.bool_int a b tb,.bool_int a b tb⟩
  |str b tb=>exact⟨.bool_str a b tb,.bool_str a b tb,.bool_str a b tb⟩
  |tup _ _ _ p=>exact⟨.bool_tuple a p hz,.bool_tuple a p hz,.bool_tuple a p hz⟩
  |lst _ _ _ p=>exact⟨.bool_list a p hz,.bool_list a p hz,.bool_list a p hz⟩
 |int a ta=>
  cases k2 with
  |cD=>exact⟨.int_none a ta,.int_none a ta,.int_none a ta⟩
  |bl b=>exact⟨.int_bool a ta b,.int_bool a ta b,.int_bool a ta b⟩
  |int b tb=>exact⟨.int_int a ta b tb,.int_int a ta b tb,.int_int a ta b tb⟩
  |str b tb=>exact⟨.int_str a ta b tb,.int_str a ta b tb,.int_str a ta b tb⟩
  |tup _ _ _ p=>exact⟨.int_tuple a ta p hz,.int_tuple a ta p hz,.int_tuple a ta p hz⟩
  |lst _ _ _ p=>exact⟨.int_list a ta p hz,.int_list a ta p hz,.int_list a ta p hz⟩
 |str a ta=>
  cases k2 with
  |cD=>exact⟨.str_none a ta,.str_none a ta,.str_none a ta⟩
  |bl b=>exact⟨.str_bool a ta b,.str_bool a ta b,.str_bool a ta b⟩
  |int b tb=>exact⟨.str_int a ta b tb,.str_int a ta b tb,.str_int a ta b tb⟩
  |str b tb=>exact⟨.str_str a ta b tb,.str_str a ta b tb,.str_str a ta b tb⟩
  |tup _ _ _ p=>exact⟨.str_tuple a ta p hz,.str_tuple a ta p hz,.str_tuple a ta p hz⟩
  |lst _ _ _ p=>exact⟨.str_list a ta p hz,.str_list a ta p hz,.str_list a ta p hz⟩
 |@tup ca vsa uL Nv ea ra YL pa=>
  cases k2 with
  |cD=>exact⟨.tuple_none pa hz,.tuple_none pa hz,.tuple_none pa hz⟩
  |bl b=>exact⟨.tuple_bool b pa hz,.tuple_bool b pa hz,.tuple_bool b pa hz⟩
  |int b tb=>exact⟨.tuple_int b tb pa hz,.tuple_int b tb pa hz,.tuple_int b tb pa hz⟩
  |str b tb=>exact⟨.tuple_str b tb pa hz,.tuple_str b tb pa hz,.tuple_str b tb pa hz⟩
  |lst _ _ _ p=>exact⟨.tuple_list pa p hz,.tuple_list pa p hz,.tuple_list pa p hz⟩
  |@tup cb vsb oY dsb eb rb YM pb=>
   have hd:A.units+(gJ Nv+1)<cLine:=hu;have t:=YJ hz pa pb (YL.length.symm.trans ra.length) (YM.length.symm.trans rb.length) λj h1 h2=>zX I sb Nv (A:=A.in1) ra rb YL YM (by show A.units+1+gJ Nv<cLine;lia) (tN uL j h1) (tN oY j h2);refine⟨?_,t.1,t.2⟩;by_cases hc:ca=cb
   .subst hc;rw[ea]at eb;cases eb;obtain rfl:=bE.uniq ra rb;show SeqAt.EqAt A s _ _ (qV Nv Nv);rw[oh];exact .same _
   .exact .of_refs hc t.1
 |@lst ca vsa uL Nv ea ra YL pa=>
  cases k2 with
  |cD=>exact⟨.list_none pa hz,.list_none pa hz,.list_none pa hz⟩
  |bl b=>exact⟨.list_bool b pa hz,.list_bool b pa hz,.list_bool b pa hz⟩
  |int b tb=>exact⟨.list_int b tb pa hz,.list_int b tb pa hz,.list_int b tb pa hz⟩
  |str b tb=>exact⟨.list_str b tb pa hz,.list_str b tb pa hz,.list_str b tb pa hz⟩
  |tup _ _ _ p=>exact⟨.list_tuple pa p hz,.list_tuple pa p hz,.list_tuple pa p hz⟩
  |@lst cb vsb oY dsb eb rb YM pb=>
   have hd:A.units+(gJ Nv+1)<cLine:=hu;have t:=YK hz pa pb (YL.length.symm.trans ra.length) (YM.length.symm.trans rb.length) λj h1 h2=>zX I sb Nv (A:=A.in1) ra rb YL YM (by show A.units+1+gJ Nv<cLine;lia) (tN uL j h1) (tN oY j h2);refine⟨?_,t.1,t.2⟩;by_cases hc:ca=cb
   .subst hc;obtain rfl:=Jh ea eb;obtain rfl:=bE.uniq ra rb;show SeqAt.EqAt A s _ _ (qV Nv Nv);rw[oh];exact .same _
   .exact .of_refs hc t.1
theorem zX(I:Inv X pins O H s)(sb:Sub F H):∀(ds:List D){es:List D}{A:Around}{vs ws:List V}{us us':AAL}{j:Nat}{u w':Value},bE F vs ds->bE F ws es->Vals vs us->Vals ws us'->A.units+gJ ds<cLine->us[j]? =some u->us'[j]? =some w'->SeqAt.EqAt A s u w' (uy ds es j):=λds {es A vs ws us us' j u w'} r1 r2 v1 v2 hu h1 h2=>by
 cases r1 with
 |nil=>cases v1;simp at h1
 |@cons v d vs ds r rs=>
  cases v1 with
  |cons q qs=>
   cases r2 with
   |nil=>cases v2;simp at h2
   |@cons w e ws es r' rs'=>
    cases v2 with
    |cons q' qs'=>
     have hd:A.units+max (lU d) (gJ ds)<cLine:=hu;cases j with
     |zero=>
      simp at h1 h2;subst h1 h2;exact(QV I sb d r r' q q' (by lia)).eq
     |succ j=>
      simp at h1 h2;have:=zX I sb ds (A:=A) rs rs' qs qs' (j:=j) (by lia) h1 h2
      simpa[uy] using this
end
def lD:List D->Option U
 |[a,b]=>if lU a<=40 then some (.t (.bl (De a b))) else none
 |_=>none
def BG:List D->Option U
 |[a,b]=>if lU a<=40 then some (.t (.bl (!De a b))) else none
 |_=>none
def cG(hu:X.A.units+64<cLine):Bv X (compareOp .Eq) lD:=by
 intro pins s O H x y v u Q I rx ry ⟨F,ds,w,sb,rs,hw,q⟩;obtain⟨d,e,rfl,r1,r2⟩:=qR rs;obtain⟨hd,rfl⟩:=cj (show(if lU d<=40 then some (U.t (.bl (De d e))) else none)=some w from hw);exact(QV I sb d r1 r2 rx ry (by lia)).rc _ _ _ _ ⟨.bl _,H,I,rfl,q _ F H (fW.refl ..) sb (.bl _)⟩
def lV(hu:X.A.units+64<cLine):Bv X (compareOp .NotEq) BG:=by
 intro pins s O H x y v u Q I rx ry ⟨F,ds,w,sb,rs,hw,q⟩;obtain⟨d,e,rfl,r1,r2⟩:=qR rs;obtain⟨hd,rfl⟩:=cj (show(if lU d<=40 then some (U.t (.bl (!De d e))) else none)=some w from hw);exact(QV I sb d r1 r2 rx ry (by lia)).ne _ _ _ _ ⟨.bl _,H,I,rfl,q _ F H (fW.refl ..) sb (.bl _)⟩
def inD(x:D)(ds:List D):Bool:=ds.any λy=>De y x
def Gx:List D->Option U
 |[x,.tup ds]=>if gJ ds<=40 then some (.t (.bl (inD x ds))) else none
 |[x,.lst ds]=>if gJ ds<=40 then some (.t (.bl (inD x ds))) else none
 |[.str i,.str j]=>some (.t (.bl (!(Builtin.Str.occurrences j i 0 j.length 1).isEmpty)))
 |_=>none
def RelV.uniq{v w':V}{u:Value}(a:RelV v u)(b:RelV w' u):v=w':=by
 cases v<;>cases w'<;>simp only[RelV]at a b<;>first
  |rfl
  |(subst a;cases b;done)
  |(subst a;cases b;rfl)
  |(obtain⟨t,rfl⟩:=a;obtain⟨t',e⟩:=b;cases e;done)
  |(obtain⟨t,rfl⟩:=a;obtain⟨t',e⟩:=b;cases e;rfl)
  |(obtain⟨t,rfl⟩:=a;cases b;done)
  |(obtain⟨t,rfl⟩:=b;cases a;done)
open Classical in
def Ho(F:Hp)(d:D)(y:Value):Bool:=if h:∃(v:V)(dd:D),RelV v y/\Rep F v dd then De (Classical.choose (af0 h)) d else false
def Nx{v:V}{dd d:D}(a:RelV v y)(r:Rep F v dd):Ho F d y=De dd d:=by
 unfold Ho;have h:∃(v:V)(dd:D),RelV v y/\Rep F v dd:=⟨v,dd,a,r⟩
 rw[dif_pos h];have k:=af0 (af0 h);have e1:=RelV.uniq k.1 a;have r':Rep F (Classical.choose h) dd:=by rw[e1];exact r
 rw[Rep.uniq k.2 r']
theorem vP(I:Inv X pins O H s)(sb:Sub F H){A:Around}{x:V}{u:Value}{d:D}(r:Rep F x d)(rx:RelV x u):∀{vs:List V}{ds:List D}{its:AAL},bE F vs ds->Vals vs its->A.units+gJ ds<cLine->
  (∀y∈its,SeqAt.EqAt A s y u (Ho F d y))/\its.any (Ho F d)=inD d ds
 |_,_,_,.nil,.nil,_=>⟨(λy hy=>absurd hy (by simp)),rfl⟩
 |_,_,_,@bE.cons _ v dd vs ds r1 rs,.cons q qs,hu=>by
  have hd:A.units+max (lU dd) (gJ ds)<cLine:=hu;obtain⟨h1,h2⟩:=vP I sb (A:=A) r rx rs qs (by lia);refine⟨λy hy=>?_,?_⟩
  .rcases aat.mp hy with rfl|hy
   .rw[Nx q r1];exact(QV I sb dd r1 r q rx (by lia)).eq
   .exact h1 y hy
  .rw[adW,h2,Nx q r1];rfl
def pD(hu:X.A.units+64<cLine):Bv X (compareOp .In) Gx:=by
 intro pins s O H x y v u Q I rx ry ⟨F,ds,w,sb,rs,hw,q⟩;obtain⟨d,e,rfl,r1,r2⟩:=qR rs;cases e with
 |tup ds=>
  obtain⟨hd,rfl⟩:=cj (show(if gJ ds<=40 then some (U.t (.bl (inD d ds))) else none)=some w by cases d<;>exact hw);obtain⟨a,vs,rfl,fa,ha,rs⟩:=sb.qo r2;cases ry;obtain⟨its,rv,p⟩:=sb.isTup I fa;obtain⟨h1,h2⟩:=vP I sb (A:=X.A.in1) r1 rx rs rv (by show X.A.units+1+gJ ds<cLine;lia);refine SeqAt.in_tupleAt (Ho F d) p (λy hy=>h1 y (by simpa using hy)) ⟨.bl _,H,I,rfl,?_⟩;rw[show its.toArray.any (Ho F d)=its.any (Ho F d) by simp,h2];exact q _ F H (fW.refl ..) sb (.bl _)
 |lst ds=>
  obtain⟨hd,rfl⟩:=cj (show(if gJ ds<=40 then some (U.t (.bl (inD d ds))) else none)=some w by cases d<;>exact hw);obtain⟨a,vs,rfl,fa,ha,rs⟩:=sb.jo r2;cases ry;obtain⟨its,rv,p⟩:=sb.ux I fa;obtain⟨h1,h2⟩:=vP I sb (A:=X.A.in1) r1 rx rs rv (by show X.A.units+1+gJ ds<cLine;lia);refine SeqAt.in_listAt (Ho F d) p (λy hy=>h1 y (by simpa using hy)) ⟨.bl _,H,I,rfl,?_⟩;rw[show its.toArray.any (Ho F d)=its.any (Ho F d) by simp,h2];exact q _ F H (fW.refl ..) sb (.bl _)
 |str j=>
  cases d<;>try (cases hw;done)
  rename_i i;cases hw;cases r1;cases r2;exact Ku pins s O H _ _ v u Q I rx ry ⟨i,j,rfl,rfl,q _ F H (fW.refl ..) sb (.bl _)⟩
 |cD=>cases d<;>(cases hw;done)
 |bl b=>cases d<;>(cases hw;done)
 |int b=>cases d<;>(cases hw;done)
end
def K0(T:String)(d:D):Option Bool:=match T with
 | "tuple"=>some (M6 d)
 | "list"=>some (M7 d)
 | "str"=>some (M8 d)
 | "bool"=>some (Ti d)
 | "int"=>some (M9 d)
 |_=>none
def Ny{d:D}{b:Bool}(h:K0 T d=some b):PySem.W.kitOne K (.type (U0 d)) (.type T)=some b:=by
 unfold K0 at h;split at h
 .cases h;exact QA d
 .cases h;exact QB d
 .cases h;exact Na d
 .cases h;exact U1 d
 .cases h;exact QC d
 .cases h
def ES:List String->D->Option Bool
 |[],_=>some false
 |T::Ts,d=>match K0 T d with
  |some true=>some true
  |some false=>ES Ts d
  |none=>none
section
variable {X:Cx}{pins:AAG}{O:St}{F H:Hp}{s:Shared}
def QW(I:Inv X pins O H s)(sb:Sub F H){x:V}{u:Value}{d:D}{c:Value}{b:Bool}(r:Rep F x d)(rx:RelV x u)(e:PySem.W.kitOne X.K (.type (U0 d)) c=some b)(h:∀tk,Q (.bool b) {s with toks:=tk}):
  wpAny (model X.prog X.w) A (call (.builtin "isinstance") [u,c]) Q E s:=by
 cases r with
 |cD=>cases rx;exact aeT PySem.W.kitx_none I.uh True.intro e (λz=>nomatch z) h
 |bl y=>cases rx;exact aeT PySem.W.kitx_bool I.uh True.intro e (λz=>nomatch z) h
 |int i=>obtain⟨t,rfl⟩:=rx;exact aeT PySem.W.kitx_int I.uh True.intro e (λz=>nomatch z) h
 |str y=>obtain⟨t,rfl⟩:=rx;exact aeT PySem.W.kitx_str I.uh True.intro e (λz=>nomatch z) h
 |tup ea _=>
  cases rx;obtain⟨its,_,o,h1,h2,_⟩:=sb.isTup I ea;exact aeT PySem.W.kitx_tuple I.uh ⟨o,h1,h2⟩ e (λz=>nomatch z) h
 |lst ea _=>
  cases rx;obtain⟨its,_,o,h1,h2,_⟩:=sb.ux I ea;exact aeT PySem.W.kitx_list I.uh ⟨o,h1,h2⟩ e (λz=>nomatch z) h
end
def Vd(Ts:List String)(g:GD):GD:=λS=>(g S).bind λp=>(ES Ts p.1).map λb=>(.bl b,p.2)
section
variable {X:Cx}{a b e:Expr}{pos p px:Pos}{x y:Str}{ga:GD}
def K1{d:D}{b:Bool}(h:ES [T] d=some b):K0 T d=some b:=by
 unfold ES at h;cases e:K0 T d with
 |none=>rw[e]at h;cases h
 |some k=>rw[e]at h;cases k<;>exact h
def oq(hg:Gl X "isinstance")(hm:X.mg "isinstance" =none)(Mf:Gl X y)(hm2:X.mg y=none)(hv2:bootBuiltins y=some (.type T))(ha:JD X a ga)(hn2:y≠"__name__":=by decide)(hd2:BBT y:=by decide)
  (hs:starEach [a,.Name y px] X.env=(false,eval a X.env)::starEach [.Name y px] X.env:=by rfl)(hs2:starEach [.Name y px] X.env=(false,eval (.Name y px) X.env)::starEach [] X.env:=by rfl)(hpl:(backTo pos (starEach [.Name y px] X.env)).any (·.1)=false:=by rfl):
  JD X (.Call (.Name "isinstance" p) [a,.Name y px] [] pos) (Vd [T] ga):=⟨λB=>
 (n8 (r:=λxs H Q=>∃x F d b,xs=[x,.ty T]/\Sub F H/\Rep F x d/\K0 T d=some b/\Q (.bl b) H) (λpins s O H xs us Q I r hh=>by
   obtain⟨x,F,d,b,e1,sb,rd,hk,q⟩:=hh;subst e1;obtain⟨u,w',rfl,ru,rw'⟩:=vals2 r;cases rw';exact QW I sb rd ru (Ny hk) λtk=>⟨.bl b,H,I.tok tk,rfl,q⟩) hg hm PyProof.Rows.Boot.isinstance (mR (ha.h B) (mR (PX (v:=.ty T) Mf hm2 hv2 rfl hn2 hd2) wW hs2) hs) (by decide) (by decide) hs hpl).imp λO H Q hh=>by
 obtain⟨S,F,d,S',R,hg,q⟩:=hh;obtain⟨⟨d1,S1⟩,h1,hg⟩:=ah hg;obtain⟨k,h2,hg⟩:=aB hg;cases hg;exact⟨S,F,d1,_,R,h1,λv F1 H1 R1 st1 r1=>⟨v,F1,d1,k,rfl,R1.sub,r1,K1 h2,q _ F1 H1 R1 st1 (.bl k)⟩⟩⟩
noncomputable def pF:List D->Option (List Bool)
 |[]=>some []
 |.bl b::ds=>(pF ds).map λbs=>b::bs
 |_=>none
def ET{F:Hp}{bs:List Bool}(r:bE F vs ds)(h:pF ds=some bs):vs=bs.map V.bl:=by
 induction r using bE.ind generalizing bs with
 |nil=>cases h;rfl
 |@cons v d vs ds r rs ih=>
  cases d<;>try (cases h;done)
  obtain⟨bs,h1,h2⟩:=aB (show(pF ds).map _=_ from h);subst h2;rw[iX r,ih h1];rfl
def Nz:List D->Option U
 |[.lst ds]=>(pF ds).map λbs=>.t (.bl (bs.all id))
 |_=>none
def vQ{P:D->Prop}{F:Hp}{f:List D->Option U}{w':U}(rs:bE F xs ds)(h:f ds=some w')(hn:f []=none)(h2:∀a b r,f (a::b::r)=none):∃x d,xs=[x]/\ds=[d]/\Rep F x d:=by
 cases rs with
 |nil=>rw[hn]at h;cases h
 |cons r rs=>
  cases rs with
  |nil=>exact⟨_,_,rfl,rfl,r⟩
  |cons _ _=>rw[h2]at h;cases h
def xg(hc:X.calm=true):fU X (.builtin "all") (rP Nz):=by
 intro pins s O H xs us Q I r ⟨F,ds,w,sb,rs,hw,q⟩;obtain⟨x,d,rfl,rfl,r1⟩:=vQ (P:=λ_=>True) rs hw rfl (λd _ _=>by cases d<;>rfl);cases d<;>try (cases hw;done)
 rename_i ds;obtain⟨bs,h1,rfl⟩:=aB (show(pF ds).map _=some w from hw);obtain⟨a,vs,rfl,fa,ha,vG⟩:=sb.jo r1;obtain rfl:=ET vG h1;exact KO hc pins s O H _ us Q I r ⟨a,bs,rfl,.inl ha,q _ F H (fW.refl ..) sb (.bl _)⟩
noncomputable def YN:List D->Option U
 |[.int i,.int j,.int k]=>some (.t (.int (if j<i then(if k<j then k else j) else if k<i then k else i)))
 |_=>none
noncomputable def YO:List D->Option U
 |[.int i,.int j]=>some (.t (.int (if j<i then j else i)))
 |_=>none
noncomputable def Jj:List D->Option U
 |[.int i,.int j]=>some (.t (.int (if j > i then j else i)))
 |_=>none
def Hq(hc:X.calm=true):fU X (.builtin "max") (rP Jj):=by
 intro pins s O H xs us Q I r ⟨F,ds,w,sb,rs,hw,q⟩;unfold Jj at hw;split at hw
 .rename_i i j;cases hw;cases rs with
  |cons r1 rs=>cases rs with
   |cons r2 rs=>
    cases rs;rw[eL r1,eL r2]at r;exact Kv hc pins s O H _ us Q I r ⟨i,j,rfl,q _ F H (fW.refl ..) sb (.int _)⟩
 .cases hw
noncomputable def Tu:List D->Option U
 |[.tup ds]=>some (.m (.lst ds))
 |[.lst ds]=>some (.m (.lst ds))
 |_=>none
noncomputable def Dg:List D->Option U
 |[.tup ds]=>some (.t (.tup ds))
 |[.lst ds]=>some (.t (.tup ds))
 |_=>none
def EU:fU X (.type "tuple") (rP Dg):=by
 intro pins s O H xs us Q I r ⟨F,ds,w,sb,rs,hw,q⟩;obtain⟨x,d,rfl,rfl,r1⟩:=vQ (P:=λ_=>True) rs hw rfl (λd _ _=>by cases d<;>rfl);cases d<;>try (cases hw;done)
 .cases hw;have r0:=r1;obtain⟨a,vs,rfl,fa,ha,vG⟩:=sb.qo r1;exact uw pins s O H _ us Q I r ⟨a,vs,rfl,.inr ⟨.inl ha,q _ F H (fW.refl ..) sb r0⟩⟩
 .cases hw;obtain⟨a,vs,rfl,fa,ha,vG⟩:=sb.jo r1;exact uw pins s O H _ us Q I r ⟨a,vs,rfl,.inl ⟨.inl ha,λp hp=>q _ _ _ (fW.root sb hp _) (sb.wZ hp) (.tup aZ (vG.le (pq (sb.fresh hp))))⟩⟩
end
def qO.ky{y:V}{k:Key}(e:H a=some (.dK kvs))(h:UP y k):qO H a y (uP kvs k):=.inl ⟨kvs,k,.inl e,h,rfl⟩
def Ew.ky{y:V}{k:Key}{v:V}(e:H a=some (.dK kvs))(h:UP y k)(hl:kvs.length<sizeLine):Ew H a y v (upd H a (.dK (putK kvs k v))):=.inl ⟨kvs,k,e,h,hl,rfl⟩
def keyOf:D->Option Key
 |.bl b=>some (.inl (bI b))
 |.int i=>some (.inl i)
 |.str z=>some (.inr z)
 |_=>none
def tR{F:Hp}{v:V}{d:D}{k:Key}(r:Rep F v d)(h:keyOf d=some k):UP v k:=by
 cases r<;>cases h<;>first|exact .inl rfl|exact .inr ⟨_,rfl,rfl⟩
noncomputable def dY{κ:Type}[DecidableEq κ](kvs:List (κ×D))(k:κ):Option D:=(kvs.find? λkv=>decide (kv.1=k)).map (·.2)
noncomputable def putD{κ:Type}[DecidableEq κ](kvs:List (κ×D))(k:κ)(d:D):List (κ×D):=
 if(kvs.any λkv=>decide (kv.1=k))=true then kvs.map (λkv=>if kv.1=k then(kv.1,d) else kv) else kvs++[(k,d)]
def zY[DecidableEq κ](q:κ×D)(kvs:List (κ×D))(k:κ):dY (q::kvs) k=if q.1=k then some q.2 else dY kvs k:=by
 by_cases e:q.1=k<;>simp[dY,acD,e]
def xh{κ:Type}[DecidableEq κ]{F:Hp}{k:κ}{d:D}{ws:List (κ×V)}{kvs:List (κ×D)}(p:Paired (dP F) ws kvs)(h:dY kvs k=some d):∃v,uP ws k=some v/\Rep F v d:=by
 induction p with
 |nil=>cases h
 |@cons p q _ _ r _ ih=>
  rw[zY]at h;by_cases e:q.1=k
  .rw[if_pos e]at h;cases h;exact⟨p.2,vI (r.1.trans e),r.2⟩
  .rw[if_neg e]at h;rw[qM λz=>e (r.1.symm.trans z)];exact ih h
def K2{κ:Type}[DecidableEq κ]{F:Hp}{k:κ}{ws:List (κ×V)}{kvs:List (κ×D)}(p:Paired (dP F) ws kvs)(h:dY kvs k=none):uP ws k=none:=by
 induction p with
 |nil=>rfl
 |@cons p q _ _ r _ ih=>
  rw[zY]at h;by_cases e:q.1=k
  .rw[if_pos e]at h;cases h
  .rw[if_neg e]at h;rw[qM λz=>e (r.1.symm.trans z)];exact ih h
def NC{κ:Type}[DecidableEq κ]{F:Hp}{k:κ}{ws:List (κ×V)}{kvs:List (κ×D)}(p:Paired (dP F) ws kvs):(ws.any λkv=>decide (kv.1=k))=(kvs.any λkv=>decide (kv.1=k)):=by
 induction p with
 |nil=>rfl
 |cons r _ ih=>rw[adW,adW,ih,r.1]
theorem EV{κ:Type}[DecidableEq κ]{F:Hp}{k:κ}{v:V}{d:D}(r:Rep F v d):∀{ws:List (κ×V)}{kvs:List (κ×D)},Paired (dP F) ws kvs->Paired (dP F) (ws.map λkv=>if kv.1=k then(kv.1,v) else kv) (kvs.map λkv=>if kv.1=k then(kv.1,d) else kv)
 |_,_,.nil=>.nil
 |_,_,@Paired.cons _ _ _ p q ws kvs h hs=>by
  refine .cons ?_ (EV r hs);show dP F (if p.1=k then(p.1,v) else p) (if q.1=k then(q.1,d) else q);rw[h.1];by_cases e:q.1=k
  .rw[if_pos e,if_pos e];exact⟨rfl,r⟩
  .rw[if_neg e,if_neg e];exact h
def EW{α β:Type}{P:α->β->Prop}{x:α}{y:β}(p:P x y){l:List α}{r:List β}(h:Paired P l r):Paired P (l++[x]) (r++[y]):=h.snoc p
def zZ{κ:Type}[DecidableEq κ]{F:Hp}{k:κ}{v:V}{d:D}{ws:List (κ×V)}{kvs:List (κ×D)}(h:Paired (dP F) ws kvs)(r:Rep F v d):Paired (dP F) (putK ws k v) (putD kvs k d):=by
 unfold putK putD;rw[NC h];by_cases e:(kvs.any λkv=>decide (kv.1=k))=true
 .rw[if_pos e,if_pos e];exact EV r h
 .rw[if_neg e,if_neg e];exact EW ⟨rfl,r⟩ h
def xj:D->Option D
 |.tup ds=>if jF 8 (.tup ds)=true then some (nf (.tup ds)) else none
 |_=>none
def vR{F:Hp}{v:V}{d:D}{ks:D}(sb:Sub F H)(r:Rep F v d)(h:xj d=some ks):∃b,v= .ref b/\Kd H b ks:=by
 cases r with
 |@tup a vs ds e rs=>
  obtain⟨h1,h2⟩:=cj (show(if jF 8 (.tup ds)=true then some (nf (.tup ds)) else none)=some ks from h);subst h2;exact⟨a,rfl,_,Rep.le sb (.tup e rs),h1,rfl⟩
 |cD=>cases h
 |bl _=>cases h
 |int _=>cases h
 |str _=>cases h
 |lst _ _=>cases h
noncomputable def Ve:D ⊕ Addr->Option D
 |.inl d=>some d
 |.inr _=>none
def Hr{α β:Type}{P:α->β->Prop}{l:List α}{r:List β}{i:Int}{y:β}(p:Paired P l r)(h:ia r i=some y):∃x,ia l i=some x/\P x y:=by
 obtain⟨j,h1,h2⟩:=ah h;obtain⟨x,k1,k2⟩:=uR p h2;refine⟨x,?_,k2⟩;unfold ia;rw[p.length,h1];exact k1
def uz:U->D->Option D
 |.t (.tup ds),.int i=>ia ds i
 |.t (.lst ds),.int i=>ia ds i
 |.m (.lst ds),.int i=>ia ds i
 |.b (.lst ds),.int i=>ia ds i
 |.s ns,.int i=>(ia ns i).map D.int
 |.m (.dct kvs),k=>(keyOf k).bind (dY kvs)
 |.b (.dct kvs),k=>(keyOf k).bind (dY kvs)
 |.m (.fT kvs),k=>(xj k).bind (dY kvs)
 |.b (.fT kvs),k=>(xj k).bind (dY kvs)
 |.m (.gap es),.int i=>(ia es i).bind Ve
 |.b (.gap es),.int i=>(ia es i).bind Ve
 |_,_=>none
def b9(i:Nat)(gb:GD):GD:=λS=>match S[i]? with
 |some (some _)=>(gb S).bind λp=>match p.2[i]? with
  |some (some u)=>(uz u p.1).map λd=>(d,p.2)
  |_=>none
 |_=>none
def QX(f:α->β){l:List α}{i:Int}{x:α}(h:ia l i=some x):ia (l.map f) i=some (f x):=by
 unfold ia at h ⊢;rw[aaw];obtain⟨j,h1,h2⟩:=ah h;rw[h1];show(l.map f)[j]? =_;rw[abx,h2];rfl
section
variable {X:Cx}{a b c:Expr}{es:BBC}{pos p px:Pos}{x y:Str}{gb:GD}
def Vf(hu:X.A.units+20<cLine)(hb:JD X b gb)(hs:zq b:=by first|(intro _ _;rfl))(hN:X.N[i]? =some x:=by rfl)(hv:wR X.env.scope x:=by trivial)
  (hd:BBT x:=by decide)(hcd:BBU x:=by decide):JD X (.Subscript (.Name x px) b pos) (b9 i gb):=⟨λB=>PE.orelse λO H Q hh=>by
 obtain⟨S,F,d,S',R,hg,q⟩:=hh;unfold b9 at hg;split at hg
 .rename_i u0 K3;obtain⟨v0,hv0,_⟩:=R.rep i u0 K3;obtain⟨⟨k,S1⟩,h1,hg⟩:=ah hg;dsimp only at hg;split at hg
  .rename_i u hS;obtain⟨d',hr,hg⟩:=aB hg;cases hg;have Gw:∀F1 H1,Rel X.K B S' O F1 H1->C4 X.K F1 H1 v0 u:=λF1 H1 R1=>by
    obtain⟨v,k1,k2⟩:=R1.rep i u hS;rw[hv0]at k1;cases k1;exact k2
   have seq:∀(Y:V->V->Hp->VK->Prop),PE X (.Subscript (.Name x px) b pos) (WX Y (Kp i) (tD X.K B gb))->(∀v F1 H1,Rel X.K B S' O F1 H1->Step S S' O F H F1 H1->Rep F1 v k->Y v0 v H1 Q)->∃t',PE X (.Subscript (.Name x px) b pos) t'/\t' O H Q:=λY hY h=>
    ⟨_,hY,v0,hv0,S,F,k,S',R,h1,λv F1 H1 R1 st1 r1=>h v F1 H1 R1 st1 r1⟩
   have dict:∀kvs,(∀F1 H1,Rel X.K B S' O F1 H1->∃a ws,v0= .ref a/\H1 a=some (.dK ws)/\Paired (dP F1) ws kvs)->(keyOf k).bind (dY kvs)=some d->∃t',PE X (.Subscript (.Name x px) b pos) t'/\t' O H Q:=λkvs hat hr=>by
    obtain⟨kk,e1,e2⟩:=ah hr;refine⟨_,IM hu (dG hN hv hd hcd) (hb.h B) hs,v0,hv0,S,F,k,S',R,h1,λv F1 H1 R1 st1 r1=>?_⟩;obtain⟨a,ws,rfl,ha,pr⟩:=hat F1 H1 R1;obtain⟨w',z1,z2⟩:=xh pr e2;exact⟨a,w',rfl,by rw[<-z1];exact qO.ky ha (tR r1 e1),q w' F1 H1 R1 st1 z2⟩
   have EX:∀kvs,(∀F1 H1,Rel X.K B S' O F1 H1->∃a ws,v0= .ref a/\H1 a=some (.dT ws)/\Paired (dP F1) ws kvs)->(xj k).bind (dY kvs)=some d->∃t',PE X (.Subscript (.Name x px) b pos) t'/\t' O H Q:=λkvs hat hr=>by
    obtain⟨kk,e1,e2⟩:=ah hr;refine⟨_,IM hu (dG hN hv hd hcd) (hb.h B) hs,v0,hv0,S,F,k,S',R,h1,λv F1 H1 R1 st1 r1=>?_⟩;obtain⟨a,ws,rfl,ha,pr⟩:=hat F1 H1 R1;obtain⟨w',z1,z2⟩:=xh pr e2;obtain⟨b',rfl,hb'⟩:=vR R1.sub r1 e1;exact⟨a,w',rfl,by rw[<-z1];exact qO.t ha hb',q w' F1 H1 R1 st1 z2⟩
   have list:∀ds ii,k= .int ii->ia ds ii=some d->(∀F1 H1,Rel X.K B S' O F1 H1->∃a vs,v0= .ref a/\(oW X.K H1 a vs\/Ef X.K H1 a vs)/\bE F1 vs ds)->∃t',PE X (.Subscript (.Name x px) b pos) t'/\t' O H Q:=λds ii ek hrr hat=>by
    subst ek;refine seq _ (IV G0 (dG hN hv hd hcd) (hb.h B) hs) λv F1 H1 R1 st1 r1=>?_;obtain⟨a,vs,rfl,ha,rs⟩:=hat F1 H1 R1;obtain⟨w',z1,z2⟩:=rs.ia hrr;rw[eL r1];rcases ha with ha|ha
    .exact .inl ⟨a,vs,ii,w',rfl,rfl,ha,z1,q w' F1 H1 R1 st1 z2⟩
    .exact .inr (.inl ⟨a,vs,ii,w',rfl,rfl,ha,z1,q w' F1 H1 R1 st1 z2⟩)
   have gap:∀es ii,k= .int ii->(ia es ii).bind Ve=some d->(∀F1 H1,Rel X.K B S' O F1 H1->∃a vs,v0= .ref a/\H1 a=some (.lst vs)/\Paired (G9 F1) vs es)->∃t',PE X (.Subscript (.Name x px) b pos) t'/\t' O H Q:=λes ii ek hrr hat=>by
    subst ek;obtain⟨y,e1,e2⟩:=ah hrr;cases y with
    |inr c=>cases e2
    |inl d'=>
     cases e2;refine seq _ (IV G0 (dG hN hv hd hcd) (hb.h B) hs) λv F1 H1 R1 st1 r1=>?_;obtain⟨a,vs,rfl,ha,rs⟩:=hat F1 H1 R1;obtain⟨w',z1,z2⟩:=Hr rs e1;rw[eL r1];exact .inl ⟨a,vs,ii,w',rfl,rfl,oW.of ha,z1,q w' F1 H1 R1 st1 z2⟩
   unfold uz at hr;split at hr
   .rename_i ds ii;exact list ds ii rfl hr λF1 H1 R1=>let⟨a,vs,e1,fa,ha,rs⟩:=R1.sub.qo (Gw F1 H1 R1);⟨a,vs,e1,.inr (.inl ha),rs⟩
   .rename_i ds ii;exact list ds ii rfl hr λF1 H1 R1=>let⟨a,vs,e1,fa,ha,rs⟩:=R1.sub.jo (Gw F1 H1 R1);⟨a,vs,e1,.inl (.inl ha),rs⟩
   .rename_i ds ii;exact list ds ii rfl hr λF1 H1 R1=>let⟨a,e1,fa,vs,ha,rs⟩:=Gw F1 H1 R1;⟨a,vs,e1,.inl (oW.of ha),rs⟩
   .rename_i ds ii;exact list ds ii rfl hr λF1 H1 R1=>let⟨a,e1,fa,vs,ha,rs⟩:=Gw F1 H1 R1;⟨a,vs,e1,.inl (oW.of ha),rs⟩
   .rename_i ns ii;obtain⟨n,z1,z2⟩:=aB hr;subst z2;refine seq _ (IV G0 (dG hN hv hd hcd) (hb.h B) hs) λv F1 H1 R1 st1 r1=>?_;obtain⟨a,e1,ha⟩:=Gw F1 H1 R1;rw[eL r1];exact .inl ⟨a,ns.map V.int,ii,.int n,e1,rfl,ha.sq,QX V.int z1,q _ F1 H1 R1 st1 (.int n)⟩
   .rename_i kvs;exact dict kvs (λF1 H1 R1=>let⟨a,e1,fa,ws,ha,pr⟩:=Gw F1 H1 R1;⟨a,ws,e1,ha,pr⟩) hr
   .rename_i kvs;exact dict kvs (λF1 H1 R1=>let⟨a,e1,fa,ws,ha,pr⟩:=Gw F1 H1 R1;⟨a,ws,e1,ha,pr⟩) hr
   .rename_i kvs;exact EX kvs (λF1 H1 R1=>let⟨a,e1,fa,ws,ha,pr⟩:=Gw F1 H1 R1;⟨a,ws,e1,ha,pr⟩) hr
   .rename_i kvs;exact EX kvs (λF1 H1 R1=>let⟨a,e1,fa,ws,ha,pr⟩:=Gw F1 H1 R1;⟨a,ws,e1,ha,pr⟩) hr
   .rename_i es ii;exact gap es ii rfl hr λF1 H1 R1=>let⟨a,e1,fa,vs,ha,pr⟩:=Gw F1 H1 R1;⟨a,vs,e1,ha,pr⟩
   .rename_i es ii;exact gap es ii rfl hr λF1 H1 R1=>let⟨a,e1,fa,vs,ha,pr⟩:=Gw F1 H1 R1;⟨a,vs,e1,ha,pr⟩
   .cases hr
  .cases hg
 .cases hg⟩
noncomputable def EY:U->Option Nat
 |.t (.tup ds)=>some ds.length
 |.t (.lst ds)=>some ds.length
 |.t (.str z)=>if z.length<=100000 then some z.length else none
 |.m (.lst ds)=>some ds.length
 |.b (.lst ds)=>some ds.length
 |.m (.dct ds)=>some ds.length
 |.b (.dct ds)=>some ds.length
 |.m (.fT ds)=>some ds.length
 |.b (.fT ds)=>some ds.length
 |.s ns=>some ns.length
 |_=>none
def lE(i:Nat):GD:=λS=>match S[i]? with
 |some (some u)=>(EY u).map λn=>(.int (n:Nat),S)
 |_=>none
theorem cL{α β:Type}{P:α->β->Prop}:∀{l:List α}{r:List β},Paired P l r->l.length=r.length
 |_,_,.nil=>rfl
 |_,_,.cons _ ps=>congrArg Nat.succ (cL ps)
def Hs{K:Type}[DecidableEq K](knd:HeapKind prog w K)(d:Addr)(hd:(d == sysModules)=false):
  MeetsIn prog w (Builtin.«dict.__len__» ⟨[.ref d],[]⟩) (λ_ R s=>∃xs,s.heap.DictOfH knd d xs/\R (.ok (.ret (.int xs.length s.toks))) {s with toks:=s.toks+1}):=
 .of_wp λA R s hh=>by
  obtain⟨xs,hm,h⟩:=hh;obtain⟨o,es,ep,ho,hc,hdat,he,his,hn⟩:=hm;show wpAny _ _ (dictSize d >>= _) _ _ s;unfold dictSize;refine aal (aal (wpAny_dictEntries ho hdat (aan ?_)));show wpAny _ _ (Builtin.Dict.pendingCount d >>= _) _ _ s;refine aal (wpAny_pendingCount_other hd ?_);refine wpAny_ret_mkInt ?_;rw[Nat.add_zero,size_of_entries he];exact h
def K4{K:Type}[DecidableEq K]{knd:HeapKind prog w K}{s:Shared}{d:Addr}{xs:List (K×Addr×Value)}(hd:(d == sysModules)=false)(hm:s.heap.DictOfH knd d xs)(hfit:(xs.length:Int)<2 ^ 63)
  (h:Q (.int xs.length (s.toks+1)) {s with toks:=s.toks+1+1}):wpAny (model prog w) A (Builtin.«len» ⟨[.ref d],[]⟩) (λfin s'=>∃r,fin= .done (.ret r)/\Q r s') E s:=by
 unfold Builtin.«len»
 refine aal (m:=oneArg "len" _) (aan ?_);refine aal (m:=callSpecial? (.ref d) (Str.ofString "__len__")) (ab4 (name:=Str.ofString "__len__") hm.typeIs F.slot_dict_len
  (call_meetsIn F.slot_dict_len hm.typeIs F.entry_dict_len (F.args_dict_len_1 _) (Hs knd d hd) ⟨xs,hm,?_⟩))
 show wpAny _ _ _ _ _ {s with toks:=s.toks+1};refine aal (abz (aan ?_));refine aal (adO ?_);show wpAny _ _ (if((xs.length:Nat):Int)<0 then _ else _) _ _ _;rw[if_neg (by lia)];show wpAny _ _ (if((xs.length:Nat):Int)≥2 ^ 63 then _ else _) _ _ _;rw[if_neg (by lia)];exact aal (wpAny_mkInt (aan ⟨_,rfl,h⟩))
def Ht:fU X (.builtin "len") (λxs H Q=>∃a kvs,xs=[V.ref a]/\H a=some (.dT kvs)/\Q (.int kvs.length) H):=by
 intro pins s O H xs us Q I r h;obtain⟨a,kvs,rfl,ha,q⟩:=h;obtain⟨u,rfl,ru⟩:=vals1 r;cases ru;obtain⟨z,hd,ys,rel,dd⟩:=Te I.hok ha;have hl:kvs.length=ys.length:=agp rel;refine Calls.call_function_entry kind_len plain_len entry_len (args_len1 _) (K4 hd dd (by rw[<-hl];rw[afR]at z;lia) ?_);rw[<-hl];exact⟨.int kvs.length,H,I.tok _,⟨_,rfl⟩,q⟩
def gK(hg:Gl X "len")(hm:X.mg "len" =none)(hN:X.N[i]? =some x:=by rfl)(hv:wR X.env.scope x:=by trivial)
  (hd:BBT x:=by decide)(hcd:BBU x:=by decide)(he:starEach [.Name x px] X.env=(false,eval (.Name x px) X.env)::starEach [] X.env:=by rfl)(hpl:(backTo pos (starEach [] X.env)).any (·.1)=false:=by rfl):
  JD X (.Call (.Name "len" p) [.Name x px] [] pos) (lE i):=⟨λB=>PE.orelse λO H Q hh=>by
 obtain⟨S,F,d,S',R,hg',q⟩:=hh;unfold lE at hg';split at hg'
 .rename_i u hS;obtain⟨n,hn,hg'⟩:=aB hg';cases hg';obtain⟨v0,hv0,r0⟩:=R.rep i u hS;have fin:=q (.int n) F H R (Step.refl ..) (.int _);have arg:PA X [.Name x px] (S7 (Kp i) UL):=mR (dG hN hv hd hcd) wW he;have list:∀a vs,v0= .ref a->(oW X.K H a vs\/Ef X.K H a vs)->vs.length=n->∃t',PE X (.Call (.Name "len" p) [.Name x px] [] pos) t'/\t' O H Q:=λa vs e1 ha hl=>
   ⟨_,n8 o8 hg hm adL arg (by decide) (by decide) he hpl,v0,hv0,a,vs,by rw[e1],ha,by rw[hl];exact fin⟩
  have dict:∀a ws,v0= .ref a->H a=some (.dK ws)->ws.length=n->∃t',PE X (.Call (.Name "len" p) [.Name x px] [] pos) t'/\t' O H Q:=λa vs e1 ha hl=>
   ⟨_,n8 KN hg hm adL arg (by decide) (by decide) he hpl,v0,hv0,a,vs,by rw[e1],ha,by rw[hl];exact fin⟩
  have EX:∀a ws,v0= .ref a->H a=some (.dT ws)->ws.length=n->∃t',PE X (.Call (.Name "len" p) [.Name x px] [] pos) t'/\t' O H Q:=λa vs e1 ha hl=>
   ⟨_,n8 Ht hg hm adL arg (by decide) (by decide) he hpl,v0,hv0,a,vs,by rw[e1],ha,by rw[hl];exact fin⟩
  unfold EY at hn;split at hn
  .cases hn;obtain⟨a,vs,e1,fa,ha,rs⟩:=R.sub.qo r0;exact list a vs e1 (.inr (.inl ha)) rs.length
  .cases hn;obtain⟨a,vs,e1,fa,ha,rs⟩:=R.sub.jo r0;exact list a vs e1 (.inl (.inl ha)) rs.length
  .rename_i z;obtain⟨hl,rfl⟩:=cj hn;exact⟨_,n8 vK hg hm adL arg (by decide) (by decide) he hpl,v0,hv0,z,by rw[Jc r0],lA hl,fin⟩
  .cases hn;obtain⟨a,e1,fa,vs,ha,rs⟩:=r0;exact list a vs e1 (.inl (oW.of ha)) rs.length
  .cases hn;obtain⟨a,e1,fa,vs,ha,rs⟩:=r0;exact list a vs e1 (.inl (oW.of ha)) rs.length
  .cases hn;obtain⟨a,e1,fa,ws,ha,pr⟩:=r0;exact dict a ws e1 ha (cL pr)
  .cases hn;obtain⟨a,e1,fa,ws,ha,pr⟩:=r0;exact dict a ws e1 ha (cL pr)
  .cases hn;obtain⟨a,e1,fa,ws,ha,pr⟩:=r0;exact EX a ws e1 ha (cL pr)
  .cases hn;obtain⟨a,e1,fa,ws,ha,pr⟩:=r0;exact EX a ws e1 ha (cL pr)
  .cases hn;obtain⟨a,e1,ha⟩:=r0;exact list a _ e1 (.inl ha.sq) (by simp)
  .cases hn
 .cases hg'⟩
end
def uU(o:MO)(k d:D):Option MO:=match o with
 |.dct kvs=>(keyOf k).bind λkk=>if kvs.length<100000 then some (.dct (putD kvs kk d)) else none
 |.fT kvs=>(xj k).bind λkk=>if kvs.length<10000000 then some (.fT (putD kvs kk d)) else none
 |.lst ds=>match k with
  |.int i=>(IT ds.length i).map λj=>.lst (ds.set j d)
  |_=>none
 |.gap es=>match k with
  |.int i=>(IT es.length i).map λj=>.gap (es.set j (.inl d))
  |_=>none
 |_=>none
theorem z7{α β:Type}{P:α->β->Prop}{x:α}{y:β}(h:P x y):∀{l:List α}{r:List β}(_:Paired P l r)(j:Nat),Paired P (l.set j x) (r.set j y)
 |_,_,.nil,_=>.nil
 |_,_,.cons p ps,0=>.cons h ps
 |_,_,.cons p ps,j+1=>.cons p (z7 h ps j)
def ND(i:Nat)(gk gv:GD):GS:=λS=>(gv S).bind λp=>match p.2[i]? with
 |some (some _)=>(gk p.2).bind λr=>(BF r.2 i λo=>(uU o r.1 p.1).map λo'=>(.cD,o')).map λz=>.nx z.2
 |_=>none
theorem bE.set{F:Hp}{v:V}{d:D}(r:Rep F v d):∀{vs:List V}{ds:List D}(j:Nat),bE F vs ds->bE F (vs.set j v) (ds.set j d)
 |_,_,_,.nil=>.nil
 |_,_,0,.cons _ rs=>.cons r rs
 |_,_,j+1,.cons q rs=>.cons q (bE.set r j rs)
section
variable {X:Cx}{a b c e value k:Expr}{pos p px pos':Pos}{x y:Str}{g gk gv:GD}
def Hu(hu:X.A.units+20<cLine)(hk:JD X k gk)(hval:JD X value gv)(hN:X.N[i]? =some x:=by rfl)(hv:wR X.env.scope x:=by trivial)
  (hd:BBT x:=by decide)(hcd:BBU x:=by decide)
  (hs:swapsWith value (some (.Subscript (.Name x px) k pos')) pos.line X.env=pure false:=by rfl)
  (hs1:swapsWithSole [.Subscript (.Name x px) k pos'] value pos.line X.env=pure false:=by rfl)(hs2:swappedStores [.Subscript (.Name x px) k pos'] value X.env=pure none:=by rfl)
  (Vg:(assignEach [.Subscript (.Name x px) k pos'] X.env).map (·.2)=[assign (.Subscript (.Name x px) k pos') X.env]:=by rfl)
  (hs4:∀v,assign (.Subscript (.Name x px) k pos') X.env v=(do
   let ov <-holding [v] (eval (.Name x px) X.env)
   let iv <-holding [v,ov] (eval k X.env)
   standAt pos'
   holding [v,ov,iv] (setItem ov iv v)
   release [v,ov,iv] []):=by intro _;rfl):
  JS X (.Assign [.Subscript (.Name x px) k pos'] value pos) (ND i gk gv):=⟨λB=>PS.orelse λD O H hh=>by
 obtain⟨S,F,o,R,hg,q⟩:=hh;obtain⟨⟨d,S1⟩,h1,hg⟩:=ah hg;dsimp only at hg;split at hg
 .rename_i u0 K3;obtain⟨⟨kd,S2⟩,h2,hg⟩:=ah hg;obtain⟨⟨nd,S3⟩,h3,hg⟩:=aB hg;subst hg;obtain⟨u,u',mo,mo',hS,Hj,hio,hf,PD,rfl⟩:=tH h3;obtain⟨mo2,hw,hf2⟩:=aB hf;cases hf2;have hv0:∀F1 H1,Rel X.K B S1 O F1 H1->∃v,O[i]? =some (some v):=λF1 H1 R1=>let⟨v,k1,_⟩:=R1.rep i u0 K3;⟨v,k1⟩
  cases mo with
  |dct kvs=>
   obtain⟨kk,e1,hw⟩:=ah hw;obtain⟨hl,rfl⟩:=cj hw;refine⟨_,IP hu (dG hN hv hd hcd) (hk.h B) (hval.h B) hs,S,F,d,S1,R,h1,λv F1 H1 R1 st1 r1=>?_⟩;obtain⟨v0,hv0⟩:=hv0 F1 H1 R1;refine⟨v0,hv0,S1,F1,kd,S2,R1,h2,λy F2 H2 R2 st2 r2=>?_⟩;obtain⟨v',k1,k2⟩:=R2.rep i u hS;rw[hv0]at k1;cases k1;obtain⟨a,o2,rfl,fa,eo,k3⟩:=k2.dw Hj;rw[hio]at eo;cases eo;obtain⟨ws,ha,pr⟩:=k3;refine⟨a,_,rfl,Ew.ky ha (tR r2 e1) (by rw[cL pr];exact aax hl (by decide)),?_⟩;obtain⟨R3,st3⟩:=R2.write (ho:=.dK (putK ws kk v)) hS PD hv0 ⟨_,aZ,zZ pr (r1.le st2.ext.le)⟩;exact q O F2 _ R3 λb o z=>st2.ext.le b o (st1.ext.le b o z)
  |ins C kvs=>cases hw
  |lat _ _=>cases hw
  |Mb _ _=>cases hw
  |Mc _ _=>cases hw
  |fT kvs=>
   obtain⟨kk,e1,hw⟩:=ah hw;obtain⟨hl,rfl⟩:=cj hw;refine⟨_,IP hu (dG hN hv hd hcd) (hk.h B) (hval.h B) hs,S,F,d,S1,R,h1,λv F1 H1 R1 st1 r1=>?_⟩;obtain⟨v0,hv0⟩:=hv0 F1 H1 R1;refine⟨v0,hv0,S1,F1,kd,S2,R1,h2,λy F2 H2 R2 st2 r2=>?_⟩;obtain⟨v',k1,k2⟩:=R2.rep i u hS;rw[hv0]at k1;cases k1;obtain⟨a,o2,rfl,fa,eo,k3⟩:=k2.dw Hj;rw[hio]at eo;cases eo;obtain⟨ws,ha,pr⟩:=k3;obtain⟨b',rfl,hb'⟩:=vR R2.sub r2 e1;refine⟨a,_,rfl,Ew.t ha hb' (by rw[cL pr];exact aax hl (by decide)),?_⟩;obtain⟨R3,st3⟩:=R2.write (ho:=.dT (putK ws kk v)) hS PD hv0 ⟨_,aZ,zZ pr (r1.le st2.ext.le)⟩;exact q O F2 _ R3 λb o z=>st2.ext.le b o (st1.ext.le b o z)
  |lst ds=>
   unfold uU at hw;dsimp only at hw;split at hw
   .rename_i ii;obtain⟨j,e1,rfl⟩:=aB hw;refine⟨_,GG (hval.h B) (MB (dG hN hv hd hcd) (hk.h B) set_list hs4) hs1 hs2 Vg,S,F,d,S1,R,h1,λv F1 H1 R1 st1 r1=>?_⟩;obtain⟨v0,hv0⟩:=hv0 F1 H1 R1;refine⟨v0,hv0,S1,F1,_,S2,R1,h2,λy F2 H2 R2 st2 r2=>?_⟩;obtain⟨v',k1,k2⟩:=R2.rep i u hS;rw[hv0]at k1;cases k1;obtain⟨a,o2,rfl,fa,eo,k3⟩:=k2.dw Hj;rw[hio]at eo;cases eo;obtain⟨vs,ha,rs⟩:=k3;rw[eL r2];refine⟨a,vs,_,j,rfl,rfl,ha,by rw[rs.length];exact e1,?_⟩;obtain⟨R3,st3⟩:=R2.write (ho:=.lst (vs.set j v)) hS PD hv0 ⟨_,aZ,rs.set (r1.le st2.ext.le) j⟩;exact q O F2 _ R3 λb o z=>st2.ext.le b o (st1.ext.le b o z)
   .cases hw
  |gap ds=>
   unfold uU at hw;dsimp only at hw;split at hw
   .rename_i ii;obtain⟨j,e1,rfl⟩:=aB hw;refine⟨_,GG (hval.h B) (MB (dG hN hv hd hcd) (hk.h B) set_list hs4) hs1 hs2 Vg,S,F,d,S1,R,h1,λv F1 H1 R1 st1 r1=>?_⟩;obtain⟨v0,hv0⟩:=hv0 F1 H1 R1;refine⟨v0,hv0,S1,F1,_,S2,R1,h2,λy F2 H2 R2 st2 r2=>?_⟩;obtain⟨v',k1,k2⟩:=R2.rep i u hS;rw[hv0]at k1;cases k1;obtain⟨a,o2,rfl,fa,eo,k3⟩:=k2.dw Hj;rw[hio]at eo;cases eo;obtain⟨vs,ha,rs⟩:=k3;rw[eL r2];refine⟨a,vs,_,j,rfl,rfl,ha,by rw[cL rs];exact e1,?_⟩;obtain⟨R3,st3⟩:=R2.write (ho:=.lst (vs.set j v)) hS PD hv0 ⟨_,aZ,z7 (show G9 _ v (.inl d) from r1.le st2.ext.le) rs j⟩;exact q O F2 _ R3 λb o z=>st2.ext.le b o (st1.ext.le b o z)
   .cases hw
 .cases hg⟩
def Rel.acK{F:Hp}{a:Addr}{o':HO}(R:Rel K B S O F H)(hn:¬dw S O a)(hf:F a=none)(hB:B.H a=none)(hh:H a=some o)(hz:∀ob u,o≠.kg ob u):Rel K B S O F (upd H a o'):=by
 have W4:∀b ob w,H b=some (.kg ob w)->upd H a o' b=some (.kg ob w):=λb ob w z=>by
  rw[aR (λe=>by rw[e,hh]at z;cases z;exact hz _ _ rfl)];exact z
 refine⟨λb u z=>?_,R.len,λj w z=>?_,R.Hf,R.own,R.bor,R.par,⟨R.ext.le,λb u z n=>?_,R.ext.kh,λb u z=>?_,λb ob w z=>W4 b ob w (R.ext.kg b ob w z)⟩⟩
 .have hb:b≠a:=λe=>by rw[e,hf]at z;cases z
  rw[aR hb];exact R.sub b u z
 .obtain⟨v,h1,h2⟩:=R.rep j w z;refine⟨v,h1,h2.le (λ_ _ z=>z) W4 λc hm hc=>?_⟩;have hca:c≠a:=λe=>hn ⟨j,w,z,hm,by rw[h1,hc,e]⟩;obtain⟨c',_,e,f,_⟩:=h2.dw hm;rw[hc]at e;cases e;exact⟨λo z=>by rw[aR hca];exact z,f⟩
 .rw[aR (λe=>by rw[e,hB]at z;cases z)];exact R.ext.keep b u z n
 .by_cases hb:b=a
  .exact⟨o',by rw[hb,aZ]⟩
  .rw[aR hb];exact R.ext.there b u z
noncomputable def z9:List (Str×GD)->SS->Option (List (Key×D)×SS)
 |[],S=>some ([],S)
 |(z,g)::r,S=>(g S).bind λp=>(z9 r p.2).map λq=>((.inr z,p.1)::q.1,q.2)
def Aa(kvs more:List (Key×D)):List (Key×D):=more.foldl (λacc kv=>putD acc kv.1 kv.2) kvs
def Hv{F:Hp}{more:List (Key×V)}{Tv:List (Key×D)}{ws:List (Key×V)}{kvs:List (Key×D)}(p:Paired (dP F) more Tv)(h:Paired (dP F) ws kvs):Paired (dP F) (qP ws more) (Aa kvs Tv):=by
 induction p generalizing ws kvs with
 |nil=>exact h
 |@cons p q _ _ r _ ih=>
  show Paired (dP F) (qP (putK ws p.1 p.2) _) (Aa (putD kvs q.1 q.2) _);rw[r.1];exact ih (zZ (k:=q.1) h r.2)
def Jk(Eg:List (Str×GD)):GE:=λS=>(z9 Eg S).map λp=>(.m (.dct (Aa [] p.1)),p.2)
structure JPs(X:Cx)(pos:Pos)(keys:List (BBL))(values:BBC)(Eg:List (Str×GD)):Prop where
 h:∀B,Yg X pos keys values (Eg.map λp=>(tC (.str p.1),tD X.K B p.2))
def QY:JPs X pos [] [] []:=⟨λB=>Qk⟩
def Ab{pk:Pos}{v:Expr}{ks:List (BBL)}{vs:BBC}(hv:JD X v g)(hr:JPs X pos ks vs Eg):JPs X pos (some (.Constant (.str z) j pk)::ks) (v::vs) ((z,g)::Eg):=⟨λB=>MQ Mx (hv.h B) (hr.h B)⟩
theorem EZ{B:Base}{O:St}:∀{Eg:List (Str×GD)}{S0 S:SS}{F0 H0 F H:Hp}{kvs:List (Key×D)}{S':SS}{Q:List (V×V)->Hp->Prop},Rel X.K B S O F H->Step S0 S O F0 H0 F H->z9 Eg S=some (kvs,S')->
  (∀(ws:List (Key×V))(F' H':Hp),Rel X.K B S' O F' H'->Step S0 S' O F0 H0 F' H'->Paired (dP F') ws kvs->Q (ws.map λkv=>(kV kv.1,kv.2)) H')->zP (Eg.map λp=>(tC (.str p.1),tD X.K B p.2)) O H Q
 |[],S0,S,F0,H0,F,H,kvs,S',Q,R,st,h,q=>by cases h;exact q [] F H R st .nil
 |(z,g)::r,S0,S,F0,H0,F,H,kvs,S',Q,R,st,h,q=>by
  obtain⟨⟨d,S1⟩,h1,h⟩:=ah h;obtain⟨⟨QZ,S2⟩,h2,h⟩:=aB h;cases h;show tC (.str z) O H λx H1=>tD X.K B g O H1 λy H2=>zP _ O H2 λps H3=>Q ((x,y)::ps) H3;refine⟨S,F,d,S1,R,h1,λv F1 H1 R1 st1 r1=>?_⟩;refine EZ (S0:=S1) (F0:=F1) (H0:=H1) R1 (Step.refl ..) h2 λws F2 H2 R2 st2 pr=>?_;exact q ((.inr z,v)::ws) F2 H2 R2 ((st.trans st1).trans st2) (.cons ⟨rfl,r1.le st2.ext.le⟩ pr)
def Q0{keys:List (BBL)}{values:BBC}(h:JPs X pos keys values Eg)(hall:keys.all (·.isSome)=true:=by rfl)(hl:keys.length=values.length:=by rfl)(h0:keys≠[]:=by decide)(h15:keys.length<=15:=by decide)(hk:Eg.length<=15:=by decide):
  JE X (.Dict keys values pos) (Jk Eg):=⟨λB=>(Ql (h.h B) hall hl h0 h15).imp λO H Q hh=>by
 obtain⟨S,F,u,S',R,hg,q⟩:=hh;obtain⟨⟨kvs,S1⟩,h1,hg⟩:=aB hg;cases hg;intro p hp;have n:=fW.obj (F:=F) hp (.dK []);have hn:¬dw S O p:=λm=>by obtain⟨o,ho⟩:=R.has m;rw[hp]at ho;cases ho
 refine EZ (S0:=S) (F0:=F) (H0:=upd H p (.dK [])) (R.new n (R.sub.same n.same)) (Step.refl ..) h1 λws F1 H1 R1 st1 pr=>?_;have hp1:H1 p=some (.dK []):=st1.ext.keep p _ aZ hn;have hf1:F1 p=none:=st1.ext.kh p _ aZ hn (R.sub.fresh hp);have hn1:¬dw S1 O p:=λm=>hn (st1.mu p m);have hB:B.H p=none:=none_of R.ext.there hp;have len:ws.length<=15:=by
  rw[cL pr];have:∀{Eg:List (Str×GD)}{S:SS}{kvs:List (Key×D)}{S':SS},z9 Eg S=some (kvs,S')->kvs.length=Eg.length:=λ{Eg}=>by
   induction Eg with
   |nil=>intro S kvs S' h;cases h;rfl
   |cons p r ih=>
    intro S kvs S' h;obtain⟨⟨d,T1⟩,k1,h⟩:=ah (show(p.2 S).bind _=_ from h);obtain⟨⟨kv2,T2⟩,k2,h⟩:=aB h;cases h;show kv2.length+1=r.length+1;rw[ih k2]
  rw[this h1];exact hk
 refine⟨hp1,ws,rfl,len,?_⟩;have R2:=R1.acK (o':=.dK (qP [] ws)) hn1 hf1 hB hp1 (λ_ _ z=>by cases z);refine q (.ref p) F1 _ R2 ⟨⟨st1.ext.le,λb o z m=>?_,λb o z m f=>?_,λb o z=>?_,λb ob w z=>?_⟩,st1.mu,st1.slots⟩ ⟨p,rfl,hp,hf1,⟨_,aZ,Hv pr .nil⟩,hn1,hB⟩
 .have hb:b≠p:=bJ z hp;rw[aR hb];exact st1.ext.keep b o (by rw[aR hb];exact z) m
 .have hb:b≠p:=bJ z hp;exact st1.ext.kh b o (by rw[aR hb];exact z) m f
 .have hb:b≠p:=bJ z hp;rw[aR hb];exact st1.ext.there b o (by rw[aR hb];exact z)
 .have hb:b≠p:=bJ z hp;rw[aR hb];exact st1.ext.kg b ob w (by rw[aR hb];exact z)⟩
end
noncomputable def mT(g:Option GD)(S:SS):Option (BBM×SS):=match g with
 |none=>some (none,S)
 |some g=>(g S).bind λp=>match p.1 with
  |.int i=>some (some i,p.2)
  |_=>none
inductive tPO(K:AAD)(B:Base)(g:Option GD)(O:St)(H:Hp)(Q:BBM->Hp->Prop):Prop
 |mk(S:SS)(F:Hp)(o:BBM)(S':SS)(R:Rel K B S O F H)(hg:mT g S=some (o,S'))(q:∀F' H',Rel K B S' O F' H'->Step S S' O F H F' H'->Q o H')
structure JO(X:Cx)(e:BBL)(g:Option GD):Prop where
 h:∀B,PO X e (tPO X.K B g)
def PO.imp{e:BBL}{t t':TO}(h:PO X e t)(k:∀O H Q,t' O H Q->t O H Q):PO X e t':=λpins s O H Q I q=>h pins s O H Q I (k O H Q q)
def zz :JO X none none:=⟨λB=>Qp.imp λO H Q ⟨S,F,o,S',R,h,q⟩=>by cases h;exact q F H R (Step.refl ..)⟩
def tU{e:Expr}(h:JD X e g):JO X (some e) (some g):=⟨λB=>(Qq (h.h B)).imp λO H Q hh=>by
 obtain⟨S,F,o,S',R,h,q⟩:=hh;obtain⟨⟨d,S1⟩,h1,h⟩:=ah (show(g S).bind _=_ from h);cases d<;>try (cases h)
 exact⟨S,F,_,_,R,h1,λv F1 H1 R1 st1 r1=>⟨_,eL r1,q F1 H1 R1 st1⟩⟩⟩
def Q2(d:D)(lo hi:BBM):Option U:=match d with
 |.tup ds=>some (.t (.tup (cutD ds lo hi)))
 |.lst ds=>some (.m (.lst (cutD ds lo hi)))
 |.str z=>if z.length<=100000 then some (.t (.str (Txt.slice z lo hi))) else none
 |_=>none
def bE.cut{F:Hp}(rs:bE F vs ds)(lo hi:BBM):bE F (Ey vs lo hi) (cutD ds lo hi):=by
 unfold Ey cutD;rw[rs.length];exact(rs.drop _).take _
def acL:V->BBM->BBM->Hp->VK->Prop:=λx lo hi H Q=>∃F d u,Sub F H/\Rep F x d/\Q2 d lo hi=some u/\∀v F' H',fW F H F' H'->Sub F' H'->KQ H F' H' v u->Q v H'
def acM :Yj X acL:=by
 intro pins s O H x v vl vu lo hi sl Q I rx hs pl pu ⟨F,d,u,sb,r,hf,q⟩;cases d with
 |tup ds=>
  cases hf;have r0:=r;obtain⟨a,xs,rfl,fa,ha,rs⟩:=sb.qo r;have hl:=rs.length;by_cases hw:HT.iz xs.length 0 lo=0/\HT.iz xs.length xs.length hi=xs.length
  .cases rx;obtain⟨its,rv,ht,hz⟩:=I.tuple (.inl ha);have hlen:its.toArray.size=xs.length:=by rw[aao];exact rv.length.symm
   refine⟨"tuple",_,abY.lookup,ht.typeIs,?_⟩;refine HT.KP ht hs pl pu (by rw[hlen];exact hw) ⟨.ref a,H,I,rfl,q _ F H (fW.refl ..) sb ?_⟩;have e:cutD ds lo hi=ds:=by
    unfold cutD;rw[<-hl,hw.1,hw.2,afI,Nat.sub_zero,afT (by rw[hl];exact aaq _)]
   show Rep F _ (.tup (cutD ds lo hi));rw[e];exact r0
  .exact US pins s O H (.ref a) v vl vu lo hi sl Q I rx hs pl pu ⟨a,xs,rfl,.inl ha,hw,λp hp=>q _ _ _ (fW.root sb hp _) (sb.wZ hp) (.tup aZ ((rs.cut lo hi).le (pq (sb.fresh hp))))⟩
 |lst ds=>
  cases hf;obtain⟨a,xs,rfl,fa,ha,rs⟩:=sb.jo r;exact Qt pins s O H (.ref a) v vl vu lo hi sl Q I rx hs pl pu ⟨a,xs,rfl,.inl ha,λp hp=>q _ F _ (fW.obj hp _) (sb.same (fW.obj (F:=F) hp _).same) ⟨p,rfl,hp,sb.fresh hp,_,aZ,rs.cut lo hi⟩⟩
 |str z=>
  obtain⟨hl,rfl⟩:=cj hf;cases r;exact UZ pins s O H _ v vl vu lo hi sl Q I rx hs pl pu ⟨z,rfl,lA hl,λ_=>q _ F H (fW.refl ..) sb (.str _)⟩
 |cD=>cases hf
 |bl b=>cases hf
 |int b=>cases hf
def NF(g:GD)(lo hi:Option GD):GE:=λS=>(g S).bind λp=>(mT lo p.2).bind λl=>(mT hi l.2).bind λh=>(Q2 p.1 l.1 h.1).map λu=>(u,h.2)
section
variable {X:Cx}{a b e:Expr}{lo hi:BBL}{pos p p2:Pos}{x:Str}{g:GD}{gl gh:Option GD}
def qW(he:JD X e g)(hl:JO X lo gl)(hh:JO X hi gh):JE X (.Subscript e (.Slice lo hi none p2) pos) (NF g gl gh):=⟨λB=>(MT acM (he.h B) (hl.h B) (hh.h B)).imp λO H Q hh=>by
 obtain⟨S,F,u,S',R,hg,q⟩:=hh;obtain⟨⟨d,S1⟩,h1,hg⟩:=ah hg;obtain⟨⟨l,S2⟩,h2,hg⟩:=ah hg;obtain⟨⟨h,S3⟩,h3,hg⟩:=ah hg;obtain⟨u',h4,hg⟩:=aB hg;cases hg;exact⟨S,F,d,S1,R,h1,λv F1 H1 R1 st1 r1=>⟨S1,F1,l,S2,R1,h2,λF2 H2 R2 st2=>⟨S2,F2,h,_,R2,h3,λF3 H3 R3 st3=>⟨F3,d,_,R3.sub,r1.le (λb o z=>st3.ext.le b o (st2.ext.le b o z)),h4,λv F4 H4 n s4 r4=>q v F4 H4 (R3.new n s4) (((st1.trans st2).trans st3).trans n.step) (r4.Nf R3 ((st1.trans st2).trans st3))⟩⟩⟩⟩⟩
def K5(d:D):Prop:=(toPy d).showable=true/\(toPy d).depth<=20/\(toPy d).shown.length<=sizeLine
noncomputable instance (d:D):Decidable (K5 d):=by unfold K5;infer_instance
def E1:List D->Option U
 |[d]=>if K5 d then some (.t (.str (toPy d).shown)) else none
 |_=>none
def Rep.Vh{F:Hp}{s:Shared}(I:Inv X pins O H s)(sb:Sub F H):(∀{v d},Rep F v d->∀u,RelV v u->∃as,Reads s.heap u (toPy d) as)/\∀{vs ds},bE F vs ds->∀us,Vals vs us->∃as,ReadsAll s.heap us (iO ds) as:=
 Rep.both (λ_ r=>by cases r;exact⟨[],.none⟩) (λb _ r=>by cases r;exact⟨[],.bool b⟩) (λi _ r=>by obtain⟨t,rfl⟩:=r;exact⟨[],.int i t⟩) (λz _ r=>by obtain⟨t,rfl⟩:=r;exact⟨[],.str z t⟩)
  (λe q _ r=>by
   cases r;obtain⟨its,rv,p⟩:=sb.isTup I e;obtain⟨as,h⟩:=q _ rv;obtain⟨o,ho,hc,n,hd⟩:=p;exact⟨as,.tuple ho hc hd (by simpa using h)⟩)
  (λe q _ r=>by
   cases r;obtain⟨its,rv,p⟩:=sb.ux I e;obtain⟨as,h⟩:=q _ rv;obtain⟨o,ho,hc,n,hd⟩:=p;exact⟨_::as,.list ho hc hd (by simpa using h)⟩)
  (λ_ r=>by cases r;exact⟨[],.nil⟩) (λp q _ r=>by
   cases r with
   |cons r rs=>
    obtain⟨as,h⟩:=p _ r;obtain⟨bs,k⟩:=q _ rs;exact⟨as++bs,.cons h k⟩)
def Rep.Vi{F:Hp}{s:Shared}(I:Inv X pins O H s)(sb:Sub F H){v:V}{d:D}{u:Value}(h:Rep F v d)(r:RelV v u):∃as,Reads s.heap u (toPy d) as:=(Rep.Vh I sb).1 h u r
def Ac(hg:X.A.guards=some [])(hu:X.A.units+64<cLine):fU X (.builtin "repr") (rP E1):=by
 intro pins s O H xs us Q I r ⟨F,ds,w,sb,rs,hw,q⟩;obtain⟨x,d,rfl,rfl,r1⟩:=vQ (P:=λ_=>True) rs hw rfl (λd _ _=>rfl);obtain⟨hok,rfl⟩:=cj (show(if K5 d then some (U.t (.str (toPy d).shown)) else none)=some w from hw);have fin:=q (.str (toPy d).shown) F H (fW.refl ..) sb (.str _);obtain⟨u,rfl,ru⟩:=vals1 r;obtain⟨h1,h2,h3⟩:=hok;have seq:∀a,x= .ref a->wpAny (model X.prog X.w) X.A (call (.builtin "repr") [u]) (EP X pins O Q) X.xe s:=λa e1=>by
  subst e1;cases ru;obtain⟨as,hr⟩:=Rep.Vi I sb r1 (u:=.ref a) rfl;exact repr_of_reads' hr h1 (λz=>by rw[yw]at z;cases z) hg (by lia) (λ_ _ e=>e) (λh' u tk hk=>⟨.str _,H,I.kept (t':=tk) hk,⟨u,rfl⟩,fin⟩) h3
 cases r1 with
 |cD=>cases ru;exact PySem.P.repr_of_none ⟨.str _,H,I.tok _,⟨_,rfl⟩,fin⟩
 |bl b=>cases ru;exact PySem.P.repr_of_bool ⟨.str _,H,I.tok _,⟨_,rfl⟩,fin⟩
 |int i=>obtain⟨t,rfl⟩:=ru;exact PySem.P.repr_of_int (by simpa[toPy,PyData.showable] using h1) ⟨.str _,H,I.tok _,⟨_,rfl⟩,fin⟩
 |str z=>obtain⟨t,rfl⟩:=ru;exact PySem.P.repr_of_str ⟨.str _,H,I.tok _,⟨_,rfl⟩,fin⟩ h3
 |tup e rs=>exact seq _ rfl
 |lst e rs=>exact seq _ rfl
def Q3{t:Tok}(hg:Gl X x)(hm:X.mg x=some (.str z t))(hd:BBT x:=by decide):JD X (.Name x pos) (eC (.str z)):=KR rfl (mQ (v:=.str z) hg hm ⟨t,rfl⟩ hd)
def cN{i:Int}{t:Tok}(hg:Gl X x)(hm:X.mg x=some (.int i t))(hd:BBT x:=by decide):JD X (.Name x pos) (eC (.int i)):=KR rfl (mQ (v:=.int i) hg hm ⟨t,rfl⟩ hd)
end
def NG{y:Str}{c:Addr}(clos:closureFor scope X.env=pure [(y,c)])(lR:∀z∈scope.names,z.2≠.cell)(kind:scope.kind= .function)(names:∀z∈scope.names,z.2= .local->scope.names.lookup z.1=some .local)
  (loc:scope.names.lookup x=some .local)(hc:X.env.cells.lookup y=some c)(only:∀z∈scope.names,z.2= .free->z.1=y)(ne:x≠y)(hN:X.N[i]? =some y)(vis:X.env.scope.names.lookup y=some .cell)(rel:(relabel scope X.env).names.lookup y=some .cell):
  fK X x [y] [i] scope [(y,c)]:=by
 have look:∀n c',([(y,c)]:List (Str×Addr)).lookup n=some c'->n=y/\c'=c:=λn c' h=>by
  rw[aeI]at h;cases e:n == y with
  |true=>rw[e]at h;cases h;exact⟨eq_of_beq e,rfl⟩
  |false=>rw[e]at h;cases h
 have self:([(y,c)]:List (Str×Addr)).lookup y=some c:=by rw[aeI,aeg]
 refine⟨clos,lR,kind,names,loc,λn c' h=>?_,λn h=>?_,?_,rfl,λj n h=>?_,λn h=>?_⟩
 .obtain⟨rfl,rfl⟩:=look n c' h;exact hc
 .have key:n=y:=by
   have go:∀k,(k=NameKind.cell\/k=NameKind.free)->(relabel scope X.env).names.lookup n=some k->n=y:=λk hk e=>by
    have m:=acj e;unfold relabel at m;obtain⟨⟨n',k'⟩,hm,q⟩:=afE.mp m;by_cases hf:k'= .free
    .have h0:n'=y:=only _ hm hf;have e1:n'=n:=by
      have h1:=congrArg Prod.fst q;dsimp only at h1;split at h1<;>exact h1
     exact e1.symm.trans h0
    .have z:(k' == NameKind.free)=false:=by simpa using hf
     simp only[z,agi]at q;have q2:k'=k:=by
      have:=congrArg Prod.snd q
      simpa using this
     rcases hk with rfl|rfl
     .exact absurd q2 (lR _ hm)
     .exact absurd q2 hf
   rcases h with h|h
   .exact go _ (.inl rfl) h
   .exact go _ (.inr rfl) h
  subst key;exact⟨c,self⟩
 .simp[ne]
 .cases j with
  |zero=>cases h;exact⟨i,rfl,hN,.inr (.inl vis)⟩
  |succ j=>simp at h
 .have e:n=y:=by simpa using h
  subst e;exact⟨.inl rel,⟨c,self⟩,by rw[vis];decide⟩
section
variable {X:Cx}{a b e:Expr}{x y:Str}{k:Nat}
def tV(a:List D)(o:MO)(h:ux o=false):hAppend a o=none:=by
 cases o with
 |lst ds=>cases h
 |dct k=>unfold hAppend;split<;>first|rfl|(rename_i e;cases e)
 |fT k=>unfold hAppend;split<;>first|rfl|(rename_i e;cases e)
 |ins C k=>unfold hAppend;split<;>first|rfl|(rename_i e;cases e)
 |gap _=>unfold hAppend;split<;>first|rfl|(rename_i e;cases e)
 |lat _ _=>unfold hAppend;split<;>first|rfl|(rename_i e;cases e)
 |Mb _ _=>unfold hAppend;split<;>first|rfl|(rename_i e;cases e)
 |Mc _ _=>unfold hAppend;split<;>first|rfl|(rename_i e;cases e)
def Hx(a:List D)(o:MO)(h:ux o=false):ff a o=none:=by
 cases o with
 |lst ds=>cases h
 |dct k=>unfold ff;split<;>first|rfl|(rename_i e;cases e)
 |fT k=>unfold ff;split<;>first|rfl|(rename_i e;cases e)
 |ins C k=>unfold ff;split<;>first|rfl|(rename_i e;cases e)
 |gap _=>unfold ff;split<;>first|rfl|(rename_i e;cases e)
 |lat _ _=>unfold ff;split<;>first|rfl|(rename_i e;cases e)
 |Mb _ _=>unfold ff;split<;>first|rfl|(rename_i e;cases e)
 |Mc _ _=>unfold ff;split<;>first|rfl|(rename_i e;cases e)
noncomputable def agx:List D->Option U
 |[.bl a,.bl b]=>some (.t (.bl (a == b)))
 |_=>none
noncomputable def mU:List D->Option U
 |[.bl a,.bl b]=>some (.t (.bl (a != b)))
 |_=>none
def xu:Bv X (compareOp .IsNot) mU:=by
 intro pins s O H x y v u Q I rx ry ⟨F,ds,w,sb,rs,hw,q⟩;obtain⟨d,e,rfl,r1,r2⟩:=qR rs;cases d<;>cases e<;>try (cases hw;done)
 cases hw;rw[iX r1]at rx;rw[iX r2]at ry;cases rx;cases ry;exact isnot_bool ⟨.bl _,H,I,rfl,q _ F H (fW.refl ..) sb (.bl _)⟩
end
noncomputable def ou:List D->Option (BBD)
 |[]=>some []
 |.int b::ds=>(ou ds).map λbs=>b::bs
 |_=>none
def Ad{F:Hp}(r:bE F vs ds)(h:ou ds=some bs):vs=bs.map V.int:=by
 induction r using bE.ind generalizing bs with
 |nil=>cases h;rfl
 |@cons v d vs ds r rs ih=>
  cases d<;>try (cases h;done)
  obtain⟨bs,h1,h2⟩:=aB (show(ou ds).map _=_ from h);subst h2;rw[eL r,ih h1];rfl
def YQ:List D->Option U
 |[.lst ds]=>(ou ds).map λbs=>.t (.int (preSum (λi=>bs.getD i 0) bs.length))
 |_=>none
def Q4(r:Vals (bs.map V.int) its){v:Value}(h:its[i]? =some v):∃t,v= .int (bs.getD i 0) t:=by
 induction bs generalizing its i with
 |nil=>cases r;cases h
 |cons b bs ih=>
  cases r with
  |cons r rs=>
   obtain⟨t,rfl⟩:=r;cases i with
   |zero=>cases h;exact⟨t,rfl⟩
   |succ i=>exact ih rs h
section
variable {X:Cx}
def K6(hc:X.calm=true):fU X (.builtin "sum") (rP YQ):=by
 intro pins s O H xs us Q I r ⟨F,ds,w,sb,rs,hw,q⟩;obtain⟨x,d,rfl,rfl,r1⟩:=vQ (P:=λ_=>True) rs hw rfl (λd _ _=>by cases d<;>rfl);cases d<;>try (cases hw;done)
 rename_i ds;obtain⟨bs,h1,rfl⟩:=aB (show(ou ds).map _=some w from hw);obtain⟨a,vs,rfl,fa,ha,vG⟩:=sb.jo r1;obtain rfl:=Ad vG h1;obtain⟨u,rfl,ru⟩:=vals1 r;cases ru;obtain⟨its,rv,pl,hz⟩:=I.list (.inl ha);have hlt:a<s.heap.objs.size:=by obtain⟨_,e,_⟩:=pl.isList;exact aap e
 have hlen:its.length=bs.length:=by have:=rv.length;simpa using this.symm
 refine call_sum_walkAnyS (aeU pl.isList ?_);refine⟨s.heap.objs.size,[s.heap.objs.size,a],[s.heap.objs.size],_,_,_,_,λi=>bs.getD i 0,rfl,(Walks.list (A:=X.A.in1) (I.ok.hd hc) _ a (aaD hlt) _).toS,
  ⟨⟨_,aas _ rfl,rfl,rfl⟩,pl.isList.push _⟩,λb hb=>?_,λi v hP=>?_,λs' t' hm=>?_⟩
 .rw[abP];rcases aat.mp hb with rfl|hb
  .exact ae5 _
  .rw[aaK.mp hb];exact afQ hlt
 .exact Q4 rv (by simpa using hP)
 .obtain⟨h',g',d',tk',os'⟩:=s';have eg:g'=s.gens:=hm.gens;have ed:d'=s.drawn:=hm.drawn;have eo:os'=s.os:=hm.os;subst eg;subst ed;subst eo;rw[aao,hlen];exact⟨.int _,H,I.kept (t':=tk') λb o e=>hm.heap b o (λhm=>by rw[aaK.mp hm]at e;exact ack _ (aap e)) (aam _ e),⟨t',rfl⟩,q _ F H (fW.refl ..) sb (.int _)⟩
end
noncomputable def mJ(val:Nat->Str)(i:Nat):BBB:=((List.range i).map val).foldl step_dedup []
def Ce(val:Nat->Str)(i:Nat):mJ val (i+1)=step_dedup (mJ val i) (val i):=by
 unfold mJ;rw[List.range_succ,afB,List.foldl_append];rfl
def Q5(val:Nat->Str)(i:Nat):(mJ val i).length<=i:=by
 have:=foldl_step_dedup_nil_length_le ((List.range i).map val)
 simpa[mJ] using this
def Vj(l:BBB)(v k:Str):(step_dedup l v).any (· == k)=(l.any (· == k) || decide (k=v)):=by
 unfold step_dedup;split
 .rename_i h;by_cases e:k=v
  .subst e;simp[h]
  .simp[e]
 .rw[List.any_append];have:(List.any [v] λx=>x == k)=decide (k=v):=by
   by_cases e:k=v
   .subst e;simp
   .simp[e];exact λz=>e z.symm
  rw[this]
def Vk(l:BBB)(v:Str):(step_dedup l v).length=if l.any (· == v) then l.length else l.length+1:=by
 unfold step_dedup;split<;>simp
section
variable {prog:Program}{w:World}{A:Around}{R:Result->Shared->Prop}{I:Addr}{fp wr:BBE}{G:Array GenState->Array GenState->Prop}{n:Nat}{P:Nat->Value->Prop}{St:Nat->Shared->Prop}
def K7(W:WalksS prog w A.in1 I fp wr G n P St)(S:Addr)(hSf:S∉fp)(val:Nat->Str)(hval:∀i v,P i v->∃t,v= .str (val i) t)(hb:n+1<scanBound):
  ∀(k i:Nat)(s:Shared),n-i=k->i<=n->St i s->s.heap.SetOf (strKind prog w) S (λz=>(mJ val i).any (· == z)) (mJ val i).length->
   (∀s',Moved (S::wr) G s s'->s'.heap.SetOf (strKind prog w) S (λz=>(mJ val n).any (· == z)) (mJ val n).length->R (.ok (.ret .none)) s')->
   codeAny (model prog w) A (.builtin "set.update.loop" ⟨[.ref S,.ref I],[]⟩) R s:=by
 have W6:S∉wr:=λh=>hSf (W.sub _ h);have hsub:∀b∈wr,b∈S::wr:=λb hb=>aar _ hb;have keep:∀{i:Nat}{s s':Shared},Moved wr G s s'->s.heap.SetOf (strKind prog w) S (λz=>(mJ val i).any (· == z)) (mJ val i).length->s'.heap.SetOf (strKind prog w) S (λz=>(mJ val i).any (· == z)) (mJ val i).length:=
  λhm ⟨o,es,ep,t,ho,rest⟩=>⟨o,es,ep,t,hm.heap S _ W6 ho,rest⟩
 intro k
 induction k with
 |zero=>
  intro i s hk hi hst hS hR;obtain rfl:i=n:=by lia
  refine adR F.entry_set_update_loop ?_;rw[acI afM _];show wpAny _ A.in1 (pyNext (.ref I) >>= _) _ _ s;refine aal (W.done s _ _ hst λs' hm=>?_);show wpAny _ A.in1 (ret Value.none) _ _ s';exact aan (hR s' (hm.mono hsub) (keep hm hS))
 |succ k ih=>
  intro i s hk hi hst hS hR;have hlt:i<n:=by lia
  refine adR F.entry_set_update_loop ?_;rw[acI afM _];show wpAny _ A.in1 (pyNext (.ref I) >>= _) _ _ s;refine aal (W.item i s _ _ hlt hst λv s' hP K8 hm=>?_);obtain⟨t,rfl⟩:=hval i v hP;have hS':=keep hm hS;show wpAny _ A.in1 (holding [Value.str (val i) t] (setAdd S (.str (val i) t)) >>= _) _ _ s';refine aal (abz ?_);unfold setAdd;refine abz ?_;have his:(strKind prog w).is (val i) (.str (val i) t)=true:=by show Value.isStrOf (val i) (.str (val i) t)=true;simp[Value.isStrOf]
  refine aal ((strKind prog w).pyHash (k:=val i) his ?_);have hroom:(mJ val i).length+1<scanBound:=by have:=Q5 val i;lia
  refine wpAny_setAddHashed_of (knd:=strKind prog w) his rfl hS' hroom λh' hsb hS2=>?_;have hSi:h'.SetOf (strKind prog w) S (λz=>(mJ val (i+1)).any (· == z)) (mJ val (i+1)).length:=
   SetOf_congr hS2 (λz=>by rw[Ce,Vj]) (by rw[Ce,Vk])
  refine aan ⟨aeO afM _,ih (i+1) _ (by lia) hlt (W.frame _ s' _ _ K8 (afp _) λb hb o e=>?_) hSi λs'' acN acO=>?_⟩
  .rw[hsb.2 b (λh:b=S=>hSf (by rw[<-h];exact hb))];exact e
  .refine hR s'' (Moved.trans W.gtrans ((hm.mono hsub).then_heap (afp _) λb o hb e=>?_) acN) acO;rw[hsb.2 b (λh:b=S=>hb (by rw[h];exact aav))];exact e
end
section
variable {prog:Program}{w:World}{A:Around}{E:AAE}{s:Shared}
noncomputable def fX(led:Bool):Obj:={cls:=.type "set",dict:=none,data:=.set #[] 0 (.fresh 0 0 led)}
def BH(a:Value){Q₁:AAE}(h:∀led:Bool,Q₁ (.ref s.heap.objs.size) {s with heap:=s.heap.push (fX led)}):
  codeAny (model prog w) A (.call (.builtin "set.__new__") ⟨[.type "set",a],[]⟩) (wants Q₁ E) s:=code_set_new_1 a h
set_option maxHeartbeats 3200000 in
def Ae{zs:BBB}(hh:A.handled=none)(hl:s.heap.IsList l its.toArray)(hi:∀(i:Nat)(v:Value),its[i]? =some v->∃t,v=Value.str (zs.getD i ⟨#[]⟩) t)(hb:its.length+1<scanBound)
  (h:∀(h':Heap)(tk:Nat),h'.SetOf (strKind prog w) s.heap.objs.size (λz=>(mJ (λi=>zs.getD i ⟨#[]⟩) its.length).any (· == z)) (mJ (λi=>zs.getD i ⟨#[]⟩) its.length).length->
   (∀b o,b<s.heap.objs.size->s.heap.get? b=some o->h'.get? b=some o)->Q (.ref s.heap.objs.size) {s with heap:=h',toks:=tk}):
  wpAny (model prog w) A (call (.type "set") [.ref l]) Q E s:=by
 obtain⟨c,tl,agz⟩:=aeJ.mro;have hmade:=aeJ.made;have hsub:=aeJ.sub;refine ae6 (codeAny_of_tree ?_);show wpAny _ _ (callAny (.type "set") _) _ _ _;refine aan ⟨agl _ (by decide +kernel),adR F.entry_type_call ?_⟩;rw[Around.under_plain (weight_type_call_type "set" [.ref l] []) rfl];have h1:=aeJ.notType;have h2:=aeJ.canCreate;have hct:=F.typeCall_set_1 (.ref l)
 repeat (any_goals (first|assumption|wp_step))
 refine aeH (BH (.ref l) (E:=E) (Q₁:=λobj s₁=>∃led:Bool,obj= .ref s.heap.objs.size/\s₁={s with heap:=s.heap.push (fX led)}) λled=>⟨led,rfl,rfl⟩) λr s₁ hr=>?_;cases r with
 |error e=>exact hr
 |ok fl=>
  cases fl with
  |ret obj=>
   obtain⟨led,rfl,rfl⟩:=hr;have hS:(s.heap.push (fX led)).get? s.heap.objs.size=some (fX led):=aas _ rfl;have hT:Shared.TypeIs {s with heap:=s.heap.push (fX led)} (.ref s.heap.objs.size) "set":=⟨_,hS,rfl⟩
   have hli:=aeJ.init.lookup;have hbi:=aeJ.init.bind (.ref s.heap.objs.size)
   repeat (any_goals (first|assumption|wp_step))
   refine aeH (afo (R:=wants (λr s₂=>r= .none/\∃h' tk,s₂={s with heap:=h',toks:=tk}/\
     h'.SetOf (strKind prog w) s.heap.objs.size (λz=>(mJ (λi=>zs.getD i ⟨#[]⟩) its.length).any (· == z)) (mJ (λi=>zs.getD i ⟨#[]⟩) its.length).length/\
     (∀b o,b<s.heap.objs.size->s.heap.get? b=some o->h'.get? b=some o)) E) aeJ.init.plain F.entry_set_init (check_set_init_1 hT ?_)) λr₂ s₂ NH=>?_
   .obtain⟨ol,hol,hcl,nl,hdl⟩:=hl;obtain⟨agA,YR,ae2,Vl⟩:=ol;simp only at hcl hdl;subst hcl;subst hdl;have acP:(s.heap.push (fX led)).get? l=some {cls:=.type "list",dict:=YR,data:=.seq its.toArray nl,slots:=Vl}:=aam _ hol;have agB:=F.sub_list_set;have agC:=F.sub_list_frozenset;have hne:(Value.type "list" == Value.type "dict")=false:=by decide
    have hl1:(s.heap.push (fX led)).IsList l its.toArray:=⟨_,acP,rfl,nl,rfl⟩
    unfold Builtin.«set.__init__» noKeywords Builtin.Frozenset.updateFrom
    generalize hPI:pyIter=PI
    wp_walk
    subst hPI;refine aeU hl1 ?_;refine aal (wpAny_runValue ?_);have hlS:l<s.heap.objs.size:=aap hol;have hh3:A.in1.in1.in1.handled=none:=by simp[hh]
    have acQ:l≠(s.heap.push (fX led)).objs.size:=by
     rw[abP];exact aaD (afQ hlS)
    have hSf:s.heap.objs.size∉[(s.heap.push (fX led)).objs.size,l]:=by
     rw[abP];simp only[aat,aaK,abt,afF,not_or];exact⟨aaD (ae5 _),adP hlS⟩
    have hb':its.toArray.size+1<scanBound:=by rw[aao];exact hb
    have hval:∀(i:Nat)(v:Value),its.toArray[i]? =some v->∃t,v= .str ((λi=>zs.getD i ⟨#[]⟩) i) t:=λi v hv=>hi i v (by simpa using hv);refine K7 ((Walks.list hh3 _ l acQ its.toArray).toS) s.heap.objs.size
     hSf (λi=>zs.getD i ⟨#[]⟩) hval hb' (its.toArray.size-0) 0 _ (by lia) (abX _)
     ⟨⟨_,aas _ rfl,rfl,rfl⟩,(hl1.push _)⟩ ?K3 ?hR
    case K3=>
     have hget:((s.heap.push (fX led)).push {cls:=.type "list_iterator",data:=.fields #[.ref l,.int 0 0]}).get? s.heap.objs.size=some (fX led):=aam _ hS;exact SetOf_congr ((setObjOf_fresh (knd:=strKind prog w) led).setOf hget (by unfold scanBound;decide)) (λ_=>rfl) rfl
    case hR=>
     intro s' hm hS';rw[aao]at hS';obtain⟨h',g',d',tk',os'⟩:=s';have eg:g'=s.gens:=hm.gens;have ed:d'=s.drawn:=hm.drawn;have eo:os'=s.os:=hm.os;subst eg;subst ed;subst eo;show wpAny _ _ _ _ _ _;refine aan ?_;show wpAny _ _ (ret Value.none) _ _ _;refine aan ⟨rfl,h',tk',rfl,hS',λb o hb e=>?_⟩;have hb1:b≠s.heap.objs.size:=aaD hb;have hb2:b≠(s.heap.push (fX led)).objs.size:=by
      rw[abP];exact aaD (afQ hb)
     exact hm.heap b o (by simp only[aat,aaK,abt,afF,not_or];exact⟨hb1,hb2⟩) (aam _ (aam _ e))
   .cases r₂ with
    |error e=>exact NH
    |ok YS=>
     cases YS with
     |ret r=>
      obtain⟨rfl,h',tk,rfl,hS',hk'⟩:=NH
      repeat (any_goals (first|assumption|wp_step))
      exact h _ _ hS' hk'
     |_=>exact NH.elim
  |_=>exact hr.elim
end
noncomputable def qX:List D->Option (BBB)
 |[]=>some []
 |.str b::ds=>(qX ds).map λbs=>b::bs
 |_=>none
def Af{F:Hp}{bs:BBB}(r:bE F vs ds)(h:qX ds=some bs):vs=bs.map V.str:=by
 induction r using bE.ind generalizing bs with
 |nil=>cases h;rfl
 |@cons v d vs ds r rs ih=>
  cases d<;>try (cases h;done)
  obtain⟨bs,h1,h2⟩:=aB (show(qX ds).map _=_ from h);subst h2;cases r;rw[ih h1];rfl
def Q6{bs:BBB}(r:Vals (bs.map V.str) its){v:Value}(h:its[i]? =some v):∃t,v=Value.str (bs.getD i ⟨#[]⟩) t:=by
 induction bs generalizing its i with
 |nil=>cases r;cases h
 |cons b bs ih=>
  cases r with
  |cons r rs=>
   obtain⟨t,rfl⟩:=r;cases i with
   |zero=>cases h;exact⟨t,rfl⟩
   |succ i=>exact ih rs h
def Dh:List D->Option U
 |[.lst ds]=>(qX ds).bind λzs=>if zs.length<=1000 then some (.t (.int (mJ (λi=>zs.getD i ⟨#[]⟩) zs.length).length)) else none
 |_=>none
def E2{d:D}(h:Dh [d]=some u):∃ds zs,d= .lst ds/\qX ds=some zs/\zs.length<=1000/\u= .t (.int (mJ (λi=>zs.getD i ⟨#[]⟩) zs.length).length):=by
 cases d with
 |lst ds=>
  obtain⟨zs,h5,h6⟩:=ah (show(qX ds).bind _=some u from h);split at h6
  .rename_i hl;cases h6;exact⟨ds,zs,rfl,h5,hl,rfl⟩
  .cases h6
 |_=>cases h
section
variable {X:Cx}{a:Expr}{pos p p1 p2:Pos}{ga:GD}
def K9(hc:X.calm=true)(hg1:Gl X "len")(hm1:X.mg "len" =none)(Mf:Gl X "set")(hm2:X.mg "set" =none)(ha:JD X a ga)
  (hs1:starEach [.Call (.Name "set" p1) [a] [] p2] X.env=(false,eval (.Call (.Name "set" p1) [a] [] p2) X.env)::starEach [] X.env:=by rfl)
  (hs2:starEach [a] X.env=(false,eval a X.env)::starEach [] X.env:=by rfl):
  JE X (.Call (.Name "len" p) [.Call (.Name "set" p1) [a] [] p2] [] pos) (eP Dh (aa ga ak)):=⟨λB=>by
 rintro pins s O H Q I ⟨S,F,u,S',R,hg,q⟩;obtain⟨⟨dl,S1⟩,h1,hg⟩:=ah hg;obtain⟨w',h2,hg⟩:=aB hg;cases hg;obtain⟨⟨d,S2⟩,h3,h1⟩:=ah h1;obtain⟨⟨dr,S3⟩,h4,h1⟩:=aB h1;cases h4;cases h1;obtain⟨ds,zs,rfl,h5,hlen,rfl⟩:=E2 h2;refine abU (lP I hg1 hm1 adL ?_ (by decide) (by decide));refine af7 ?_ hs1 rfl;rw[hs1];show wpAny _ _ (spliced ((false,eval (.Call (.Name "set" p1) [a] [] p2) X.env)::backTo pos (starEach [] X.env))) _ _ s;refine ab9 ?_;refine abU (lP I Mf hm2 PyProof.Rows.Boot.set ?_ (by decide) (by decide));refine abW (cS (mR (ha.h B) wW hs2 p2 pins s O H (λvs H1=>∃v F1,vs=[v]/\Rel X.K B S2 O F1 H1/\Step S S2 O F H F1 H1/\Rep F1 v (.lst ds)) I ⟨S,F,_,S2,R,h3,λv F1 H1 R1 st1 r1=>⟨v,F1,rfl,R1,st1,r1⟩⟩) ?_) hs2 rfl;rintro us s1 ⟨vs,H1,I1,r1,v,F1,rfl,R1,st1,rd⟩;obtain⟨a',vs',rfl,fa,hla,vG⟩:=R1.sub.jo rd;obtain rfl:=Af vG h5;obtain⟨u',rfl,ru⟩:=vals1 r1;cases ru;obtain⟨its,rv,pl,hz⟩:=I1.list (.inl hla);have hil:its.length=zs.length:=by have:=rv.length;simpa using this.symm
 refine Ae (zs:=zs) (I1.ok.hd hc) pl.isList (λi v hv=>Q6 rv hv) (by rw[hil];unfold scanBound;lia) λh' tk hS hk=>?_;rw[hil]at hS;refine aeB ?_;obtain⟨o,es,ep,t,ho,hex,hd,hel,hmem,hbd,hf,hn⟩:=hS;refine call_len_set ho hex hd hf (by unfold scanBound at hbd;lia) ?_;rw[hn];exact⟨.int _,H1,I1.kept (t':=tk+1+1) λb o e=>hk b o (aap e) e,⟨_,rfl⟩,q (.int _) F1 H1 R1 st1 (.int _)⟩⟩
end
noncomputable def look:U->Option D
 |.t d=>some d
 |.m (.lst ds)=>some (.lst ds)
 |.b (.lst ds)=>some (.lst ds)
 |_=>none
section
variable (S:SS)(i:Nat)(g:GD)
@[simp] theorem W7(ds:List D):ff [] (.lst ds)=some (.cD,.lst ds.reverse):=rfl
end
section
variable {X:Cx}{a b c e:Expr}{es:BBC}{pos p:Pos}{x y:Str}
def YT:R2:=λx y H Q=>∃l k xs,x= .ref l/\y= .int k/\Rd H l (.lst xs)/\-(2 ^ 63)<=k/\k<2 ^ 63/\xs.length*k.toNat<=sizeLine/\
 ∀p,H p=none->Q (.ref p) (upd H p (.lst (List.replicate k.toNat xs).flatten))
def Q7:zp X (binaryOp .Mult) YT:=by
 intro pins s O H x y v u Q I rx ry h;obtain⟨l,k,xs,rfl,rfl,hH,h1,h2,hz,q⟩:=h;cases rx;obtain⟨t,rfl⟩:=ry;obtain⟨z,its,n,r,hl,e⟩:=hH.Ez I;have hlen:its.toArray.size*k.toNat<=sizeLine:=by rw[aao,<-hl];exact hz
 have hcap:¬its.toArray.size*k.toNat > (2 ^ 63-1) / 8:=by
  have:(sizeLine:Nat)<=(2 ^ 63-1) / 8:=by decide
  lia
 have hfit:¬(!Builtin.List.listFitsIndex k)=true:=by
  rw[fitsIndex_both h1 h2];exact acZ
 have NI:¬Builtin.List.listTooLong (its.toArray.size*k.toNat)=true:=by
  rw[EA hlen];exact acZ
 have hnew:List.foldl (λx1 x2=>x1++x2) #[] (List.replicate (if its.toArray.isEmpty=true then 0 else k.toNat) its.toArray)=(List.replicate k.toNat its).flatten.toArray:=by
  have f0:∀m:Nat,List.foldl (λx1 x2=>x1++x2) #[] (List.replicate m its.toArray)=(List.replicate m its).flatten.toArray:=λm=>by
   have:=foldl_rep its m [];rw[agb]at this;exact this
  rw[f0];cases its with
  |nil=>simp
  |cons a r'=>rw[if_neg (by simp)]
 refine wpAny_binaryOp_repeat_ref (T:="list") (U:="int") (by decide) ⟨_,e,rfl⟩ (λs'=>typeIs_int s' k t) noFill_list_mul F.fills_int_mul F.slot_int_rmul repeat_list F.slot_int_index.lookup
  (aeS F.slot_int_rmul (typeIs_int s k t) F.entry_int_rmul (F.args_int_rmul_2 _ _) (int___rmul___int_list k t l its.toArray n)
   ⟨e,rfl,⟨_,e,rfl⟩,aeS F.slot_list_mul ⟨_,e,rfl⟩ F.entry_list_mul (F.args_list_mul_2 _ _) (AutoListH.list___mul___list_int_3 l its.toArray n k t hfit hcap NI) ⟨e,?_⟩⟩)
 rw[hnew];exact⟨.ref _,_,I.Yr (t':=s.toks) (r.rep k.toNat) (by rw[len_rep,Nat.mul_comm];exact hz),rfl,q _ I.fresh⟩
theorem bE.rep{F:Hp}{vs:List V}{ds:List D}(r:bE F vs ds):∀k:Nat,bE F (List.replicate k vs).flatten (List.replicate k ds).flatten
 |0=>.nil
 |k+1=>by rw[abQ,abQ,acS,acS];exact r.append (bE.rep r k)
noncomputable def NJ:List D->Option U
 |[.lst ds,.int k]=>if 0<=k/\k.toNat<=100000/\ds.length*k.toNat<=100000 then some (.m (.lst (List.replicate k.toNat ds).flatten)) else none
 |_=>none
def Jl:Bv X (binaryOp .Mult) NJ:=by
 intro pins s O H x y v u Q I rx ry ⟨F,ds,w,sb,rs,hw,q⟩;obtain⟨d,e,rfl,r1,r2⟩:=qR rs;cases d<;>cases e<;>try (cases hw;done)
 rename_i ds k;obtain⟨⟨h1,h2,h3⟩,rfl⟩:=cj hw;obtain⟨a,vs,rfl,fa,ha,vG⟩:=sb.jo r1;have hy:=eL r2;subst hy;exact Q7 pins s O H _ _ v u Q I rx ry ⟨a,k,vs,rfl,rfl,ha,by lia,by lia,by rw[vG.length];exact aaC h3 (by decide),
  λp hp=>q _ F _ (fW.obj hp _) (sb.same (fW.obj (F:=F) hp _).same) ⟨p,rfl,hp,sb.fresh hp,_,aZ,vG.rep _⟩⟩
noncomputable def Q8:List D->Option U
 |[.int i]=>some (.t (.int i))
 |[.bl k]=>some (.t (.int (if k then 1 else 0)))
 |_=>none
def La:fU X (.type "int") (rP Q8):=by
 intro pins s O H xs us Q I r ⟨F,ds,w,sb,rs,hw,q⟩;obtain⟨x,d,rfl,rfl,r1⟩:=vQ (P:=λ_=>True) rs hw rfl (λd _ _=>by cases d<;>rfl);cases d<;>try (cases hw;done)
 .cases hw;have hx:=iX r1;subst hx;exact B4 pins s O H _ us Q I r (.inr ⟨_,rfl,q _ F H (fW.refl ..) sb (.int _)⟩)
 .cases hw;have hx:=eL r1;subst hx;exact B4 pins s O H _ us Q I r (.inl ⟨_,rfl,q _ F H (fW.refl ..) sb (.int _)⟩)
def E3:V->List V->Hp->VK->Prop:=λx vs H Q=>∃l b xs zs,x= .ref l/\vs=[.ref b]/\H l=some (.lst xs)/\Rd H b (.lst zs)/\xs.length+zs.length<=sizeLine/\Q .cD (upd H l (.lst (xs++zs)))
def Ag:Yl X "list.extend" E3:=by
 intro pins s O H x vs v us Q I rx rv h;obtain⟨l,b,xs,zs,rfl,rfl,hH,hB,hz,q⟩:=h;cases rx;obtain⟨u,rfl,ru⟩:=rv.one;cases ru;obtain⟨z,its,n,r,hl,e⟩:=I.Ez hH;obtain⟨z2,its2,n2,r2,hl2,e2⟩:=hB.Ez I;have hsz:its.toArray.size+its2.toArray.size<=sizeLine:=by rw[aao,aao];lia
 have NI:¬(!its.toArray.isEmpty && Builtin.List.listTooLong (its.toArray.size+its2.toArray.size))=true:=by
  rw[EA hsz,ag1];exact acZ
 refine aeS F.slot_list_extend ⟨_,e,rfl⟩ F.entry_list_extend (F.args_list_extend_2 _ _)
  (AutoSeq1.list_extend_list_list_0 l its.toArray n b its2.toArray n2 NI (by rw[aao];lia) (by lia)) ⟨e,e2,?_⟩
 refine⟨.cD,_,I.UW (its':=its++its2) hH e (by simp) (r.append r2) ?_,rfl,q⟩;rw[aaG];lia
noncomputable def ir:List D->MO->Option (D×MO)
 |[.lst es],.lst ds=>if ds.length+es.length<=100000 then some (.cD,.lst (ds++es)) else none
 |_,_=>none
def Cf:YE E3 ir:=by
 intro F H a vs xs ds args res o' sb hH fa rs rx hw Q q;unfold ir at hw;split at hw
 .rename_i es ds' e2;cases e2;obtain⟨hl,hw⟩:=cj hw;cases hw;cases rx with
  |cons r rr=>
   cases rr;obtain⟨b,zs,rfl,fb,hb,QH⟩:=sb.jo r;exact⟨a,b,vs,zs,rfl,rfl,hH,hb,by rw[rs.length,QH.length];exact aaC hl (by decide),q .cD _ .cD ⟨_,aZ,rs.append QH⟩⟩
 .cases hw
def Cg(a:List D)(o:MO)(h:ux o=false):ir a o=none:=by
 cases o with
 |lst ds=>cases h
 |dct k=>unfold ir;split<;>first|rfl|(rename_i e;cases e)
 |fT k=>unfold ir;split<;>first|rfl|(rename_i e;cases e)
 |ins C k=>unfold ir;split<;>first|rfl|(rename_i e;cases e)
 |gap _=>unfold ir;split<;>first|rfl|(rename_i e;cases e)
 |lat _ _=>unfold ir;split<;>first|rfl|(rename_i e;cases e)
 |Mb _ _=>unfold ir;split<;>first|rfl|(rename_i e;cases e)
 |Mc _ _=>unfold ir;split<;>first|rfl|(rename_i e;cases e)
noncomputable def vU:D->Bool
 |.cD=>true
 |_=>false
def E4:List D->Option U
 |[d,.cD]=>some (.t (.bl (vU d)))
 |_=>none
def zA:Bv X (compareOp .Is) E4:=by
 intro pins s O H x y v u Q I rx ry ⟨F,ds,w,sb,rs,hw,q⟩;obtain⟨d,e,rfl,r1,r2⟩:=qR rs;cases e<;>try (cases d<;>cases hw;done)
 cases hw;cases r2;refine UH pins s O H _ _ v u Q I rx ry ⟨rfl,?_⟩;have k:Rep F (V.bl (decide (x= .cD))) (.bl (vU d)):=by
  cases r1<;>exact .bl _
 exact q _ F H (fW.refl ..) sb k
def Hy(f:Int->Int->Int)(i:Nat)(g:GD):GS:=λS=>match S[i]? with
 |some (some (.t (.int n)))=>(g S).bind λp=>match p.1 with
  |.int m=>(qU i (.t (.int (f n m))) p.2).map .nx
  |_=>none
 |_=>none
def Vm{f:Int->Int->Int}(ho:PIp X op (ipI f))(hN:X.N.Nodup)(hi:X.N[i]? =some x)(hx:Loc X.env.scope x)(he:JD X e g)
  (hf:X.fn x=true\/X.env.scope.names.lookup x=some .local:=by trivial):JS X (.AugAssign (.Name x pos') op e pos) (Hy f i g):=
 ⟨λB=>(Uv hN hi hx (he.h B) ho hf).imp λD O H hh=>by
 obtain⟨S,F,o,R,h,k⟩:=hh;unfold Hy at h;split at h
 .rename_i n hS;obtain⟨⟨d,S1⟩,h1,h⟩:=ah h;dsimp only at h;split at h
  .rename_i m;obtain⟨S2,h2,h⟩:=aB h;subst h;obtain⟨v,k1,k2⟩:=R.rep i _ hS;have hv:v= .int n:=eL k2;subst hv;refine⟨_,k1,S,F,_,S1,R,h1,λy F1 H1 R1 st1 r1=>⟨n,m,rfl,eL r1,?_⟩⟩;exact k _ F1 H1 (R1.put h2 (.int _)) st1.ext.le
  .cases h
 .cases h⟩
def Hz(clos:closureFor scope X.env=pure cl)(lR:∀z∈scope.names,z.2≠.cell)(kind:scope.kind= .function)(names:∀z∈scope.names,z.2= .local->scope.names.lookup z.1=some .local)
  (loc:scope.names.lookup x=some .local)(hc:cl.map (λp=>X.env.cells.lookup p.1)=cl.map (λp=>some p.2))(only:∀z∈scope.names,z.2= .free->z.1∈cI)(hcl:cl.map (·.1)=cI.reverse\/cl.map (·.1)=cI)(nd:(x::cI).Nodup)
  (slot:cap.map (λi=>X.N[i]?)=cI.map some)(vis:cI.map (λn=>X.env.scope.names.lookup n)=cI.map λ_=>some .cell)(rel:cI.map (λn=>(relabel scope X.env).names.lookup n)=cI.map λ_=>some .cell):
  fK X x cI cap scope cl:=by
 have all:∀{α β:Type}{f g:α->β}{l:List α},l.map f=l.map g->∀a∈l,f a=g a:=λ{α β f g l} h=>by
  induction l with
  |nil=>intro a m;cases m
  |cons b r ih=>
   intro a m;rw[abR,abR]at h;injection h with h1 h2
   rcases aat.mp m with z|z
   .rw[z];exact h1
   .exact ih h2 a z
 have YU:∀n,n∈cI->∃c,cl.lookup n=some c:=λn hn=>lookup_some (hcl.elim (λz=>by rw[z];exact List.mem_reverse.mpr hn) λz=>by rw[z];exact hn);have len:cap.length=cI.length:=by have:=congrArg List.length slot;simpa using this
 refine⟨clos,lR,kind,names,loc,λn c h=>all hc (n,c) (acj h),λn h=>?_,nd,len,λj n h=>?_,λn h=>⟨.inl (all rel n h),YU n h,by rw[all vis n h];decide⟩⟩
 .refine YU n ?_;have go:∀k,(k=NameKind.cell\/k=NameKind.free)->(relabel scope X.env).names.lookup n=some k->n∈cI:=λk hk e=>by
   have m:=acj e;unfold relabel at m;obtain⟨⟨n',k'⟩,hm,q⟩:=afE.mp m;by_cases hf:k'= .free
   .have h0:n'∈cI:=only _ hm hf;have e1:n'=n:=by
     have h1:=congrArg Prod.fst q;dsimp only at h1;split at h1<;>exact h1
    rw[<-e1];exact h0
   .have z:(k' == NameKind.free)=false:=by simpa using hf
    simp only[z,agi]at q;have q2:k'=k:=by
     have:=congrArg Prod.snd q
     simpa using this
    rcases hk with rfl|rfl
    .exact absurd q2 (lR _ hm)
    .exact absurd q2 hf
  rcases h with h|h
  .exact go _ (.inl rfl) h
  .exact go _ (.inr rfl) h
 .have e:=congrArg (λl=>l[j]?) slot;simp only[abx,h,Option.map_some]at e;cases q:cap[j]? with
  |none=>rw[q]at e;cases e
  |some i=>
   rw[q]at e;exact⟨i,rfl,abv e,.inr (.inl (all vis n (adQ h)))⟩
end
open AutoSeq1 (wpAny_loadPart')
def uA(k:Bool)(h:Heap)(a:Addr)(its:AAK):Prop:=match k with
 |true=>h.IsList a its
 |false=>h.IsTuple a its
def nU(k:Bool)(h:Heap)(it a:Addr)(i:Nat):Prop:=match k with
 |true=>h.IsListIter it a i
 |false=>h.IsTupleIter it a i
noncomputable def itN:Bool->String
 |true=>"list_iterator"
 |false=>"tuple_iterator"
def Mg(k:Bool)(a:Addr):Obj:={cls:=.type (itN k),data:=.fields #[.ref a,.int 0 0]}
def uA.at{h:Heap}{its:AAK}(x:uA k h a its)(g:∀o,h.get? a=some o->h'.get? a=some o):uA k h' a its:=by
 cases k<;>exact let⟨o,ho,r⟩:=x;⟨o,g o ho,r⟩
def nU.at{h:Heap}{it:Addr}(x:nU k h it a i)(g:∀o,h.get? it=some o->h'.get? it=some o):nU k h' it a i:=by
 cases k<;>exact let⟨o,ho,r⟩:=x;⟨o,g o ho,r⟩
def nU.obj{h:Heap}{it:Addr}(x:nU k h it a i):∃o,h.get? it=some o/\∀v,o.data≠.cell v:=by
 cases k<;>exact let⟨o,ho,_,r⟩:=x;⟨o,ho,λv z=>by rw[r]at z;cases z⟩
def nU.new(k:Bool)(h:Heap)(a:Addr):nU k (h.push (Mg k a)) h.objs.size a 0:=by
 cases k<;>exact⟨_,aas _ rfl,rfl,rfl⟩
section
variable {prog:Program}{w:World}{A:Around}{E:AAE}{s:Shared}
def Tz{its:AAK}(h:uA k s.heap a its)(q:Q (.ref s.heap.objs.size) {s with heap:=s.heap.push (Mg k a)}):wpAny (model prog w) A (pyIter (.ref a)) Q E s:=by
 cases k with
 |true=>exact aeU h q
 |false=>exact aeQ h q
def Q9{t:Addr}(st:s.heap.IsTupleIter ad t n)(hv:s.heap.IsTuple t vals)(hy:vals[n]? =some y)
  (q:∀h',h'.IsTupleIter ad t (n+1)->Heap.SameBut ad s.heap h'->Q y {s with heap:=h'}):wpAny (model prog w) A (Builtin.SmallTypes.nextOf (.ref ad)) Q E s:=by
 obtain⟨ob,hob,hcl,hdat⟩:=id st;obtain⟨ob2,Vn,_,nn,NK⟩:=hv;unfold Builtin.SmallTypes.nextOf;refine aal (ab4 (name:=Str.ofString "__next__") st.typeIs aeA (acV aeA st.typeIs F.entry_tuple_iterator_next ?_ (F.args_tuple_iterator_next_1 _)));show wpAny _ _ (field (.ref ad) 0 >>= _) _ _ s;refine aal (aaJ hob hdat (x:=.ref t) rfl ?_);show wpAny _ _ (if(Value.ref t == Value.none)=true then _ else _) _ _ s;rw[if_neg (show ¬((Value.ref t == Value.none)=true) from acZ)];show wpAny _ _ (field (.ref ad) 1 >>= _) _ _ s;refine aal (aaJ hob hdat (x:=.int n 0) rfl ?_);show wpAny _ _ (seqItems? (.ref t) >>= _) _ _ s;refine aal (aby Vn NK ?_);simp only[aeV,hy];refine aal (aeX hob hdat (by simp) (aan ⟨y,rfl,aan (q _ ?_ (agh ..))⟩));exact⟨_,abh _ hob (aew (acF hdat _)),(Obj.cls_mapFields ..).trans hcl,by rw[acF hdat];kernel_rfl⟩
def Vo{t:Addr}(hn:A.handled=none)(st:s.heap.IsTupleIter ad t n)(hv:s.heap.IsTuple t vals)(hy:vals[n]? =none)
  (q:∀h' e,Heap.ExtBut ad s.heap h'->(∃o,h'.get? e=some o/\o.cls= .type "StopIteration")->E (.ref e) {s with heap:=h'}):wpAny (model prog w) A (Builtin.SmallTypes.nextOf (.ref ad)) Q E s:=by
 obtain⟨ob,hob,hcl,hdat⟩:=id st;obtain⟨ob2,Vn,_,nn,NK⟩:=hv;unfold Builtin.SmallTypes.nextOf;refine aal (ab4 (name:=Str.ofString "__next__") st.typeIs aeA (acV aeA st.typeIs F.entry_tuple_iterator_next ?_ (F.args_tuple_iterator_next_1 _)));show wpAny _ _ (field (.ref ad) 0 >>= _) _ _ s;refine aal (aaJ hob hdat (x:=.ref t) rfl ?_);show wpAny _ _ (if(Value.ref t == Value.none)=true then _ else _) _ _ s;rw[if_neg (show ¬((Value.ref t == Value.none)=true) from acZ)];show wpAny _ _ (field (.ref ad) 1 >>= _) _ _ s;refine aal (aaJ hob hdat (x:=.int n 0) rfl ?_);show wpAny _ _ (seqItems? (.ref t) >>= _) _ _ s;refine aal (aby Vn NK ?_);simp only[aeV,hy];refine aal (afl (aal (aeX hob hdat (by simp) ?_)));show wpAny _ _ (newExc (.type "StopIteration") [] >>= _) _ _ _;refine aal ?_;simp only[newExc,newTuple];refine aal (acB ?_ (by size_fits));refine aal (m:=firstArgMember _ _) (wpAny_of_eq (a:=Value.none) (by first|rfl|(simp only[firstArgMember];rfl)) ?_);refine acB ?_ (by size_fits);simp only[raiseNew];refine aal (wpAny_handled ?_)
 first|rw[show A.in1.handled=none from hn]|rw[hn]
 refine aal (aan (wpAny_throw ?_));exact q _ _ (((agh ..).extBut.push _).push _) ⟨_,aas _ rfl,rfl⟩
def nextK{t:Addr}(st:nU k s.heap ad t n)(hv:uA k s.heap t vals)(hy:vals[n]? =some y)
  (q:∀h',nU k h' ad t (n+1)->Heap.SameBut ad s.heap h'->Q y {s with heap:=h'}):wpAny (model prog w) A (Builtin.SmallTypes.nextOf (.ref ad)) Q E s:=by
 cases k with
 |true=>exact wpAny_nextOf_list_item st hv hy q
 |false=>exact Q9 st hv hy q
def Lb{t:Addr}(hn:A.handled=none)(st:nU k s.heap ad t n)(hv:uA k s.heap t vals)(hy:vals[n]? =none)
  (q:∀h' e,Heap.ExtBut ad s.heap h'->(∃o,h'.get? e=some o/\o.cls= .type "StopIteration")->E (.ref e) {s with heap:=h'}):wpAny (model prog w) A (Builtin.SmallTypes.nextOf (.ref ad)) Q E s:=by
 cases k with
 |true=>exact wpAny_nextOf_list_end hn st hv hy q
 |false=>exact Vo hn st hv hy q
def Vp(hn:A.handled=none)(ad t:Addr)(hne:t≠ad)(vals:AAK):Draws prog w A ad [ad,t] vals.size (λi v=>vals[i]? =some v) (λi h=>nU k h ad t i/\uA k h t vals) where
 live:=λ_ _ st=>let⟨o,ho,_⟩:=st.1.obj;⟨o,ho⟩
 frame:=λ_ _ _ st hk=>⟨st.1.at λo e=>hk ad (by simp) o e,st.2.at λo e=>hk t (by simp) o e⟩
 item:=λi s Q E hi st hQ=>nextK st.1 st.2 (y:=vals[i]) (by simp[hi]) λh' Vq hs'=>hQ _ h' s.toks (by simp[hi]) ⟨Vq,st.2.at λo e=>hs'.extBut _ _ hne e⟩ hs'
 done:=λs Q E st hE=>Lb hn st.1 st.2 (by simp) hE
end
def NL(l:Addr)(vals:AAK)(n:Nat)(dct:BBN)(sl:Array (BBP)):
  Meets (Builtin.«enumerate.__new__» ⟨[.type "enumerate",.ref l],[]⟩) (λ_ R s=>s.heap.get? l=some {cls:=.type "tuple",dict:=dct,data:=.seq vals n,slots:=sl}/\
   R (.ok (.ret (.ref (s.heap.push (Mg false l)).objs.size))) {s with heap:=(s.heap.push (Mg false l)).push {cls:=.type "enumerate",data:=.fields #[.none,.bool false,.ref s.heap.objs.size,rawInt 0,.none,.none]}}):=
 .of_wp λprog w A R s h=>by
  obtain⟨hp,g,d,tk,os⟩:=s;obtain⟨hl,h⟩:=h;have hsub:=sub_enumerate;have hT:Heap.IsTuple (Shared.heap ⟨hp,g,d,tk,os⟩) l vals:=⟨_,hl,rfl,n,rfl⟩
  wp_walk using wpAny_loadPart' hl
  refine wpAny_stack_any λst=>aan ?_;split
  .rename_i c _ _ _ _ _;cases(c == Value.type "enumerate")
   .wp_walk using wpAny_loadPart' hl,aeQ hT;exact⟨_,rfl,h⟩
   .wp_walk using wpAny_loadPart' hl,aeQ hT;exact⟨_,rfl,h⟩
  .wp_walk using wpAny_loadPart' hl,aeQ hT;exact⟨_,rfl,h⟩
section
variable {prog:Program}{w:World}{A:Around}{E:AAE}{s:Shared}
def HA(hL:uA k s.heap l vals)
  (h:∀h',IsEnum h' (s.heap.objs.size+1) s.heap.objs.size 0 .none->nU k h' s.heap.objs.size l 0->(∀b o,s.heap.get? b=some o->h'.get? b=some o)->Q (.ref (s.heap.objs.size+1)) {s with heap:=h'}):
  wpAny (model prog w) A (call (.type "enumerate") [.ref l]) Q E s:=by
 cases k with
 |true=>exact call_enumerate_list hL λh' a b _ c=>h h' a b c
 |false=>
  obtain⟨⟨c,dct,dt,sl⟩,hl,hc,n,hd⟩:=hL;have hc:c= .type "tuple":=hc;have hd:dt= .seq vals n:=hd;subst hc hd;refine callType_new F.called_enumerate (by decide) (F.typeCall_enumerate_1 _) (F.newCall_enumerate_1 _) (λobj=>F.args_object_init_2 obj _) F.entry_enumerate_new (NL l vals n dct sl) ⟨hl,?_⟩;have hz:(s.heap.push (Mg false l)).objs.size=s.heap.objs.size+1:=abP ..;show _/\_;rw[hz];have he:IsEnum ((s.heap.push (Mg false l)).push {cls:=.type "enumerate",data:=.fields #[.none,.bool false,.ref s.heap.objs.size,rawInt 0,.none,.none]}) (s.heap.objs.size+1) s.heap.objs.size 0 .none:=by
   have:=aas (s.heap.push (Mg false l)) (o:={cls:=.type "enumerate",data:=.fields #[.none,.bool false,.ref s.heap.objs.size,rawInt 0,.none,.none]}) rfl;rw[hz]at this;exact this
  exact⟨⟨_,he,rfl⟩,h _ he ((nU.new false s.heap l).at λo e=>aam _ e) λb o x=>aam _ (aam _ x)⟩
end
def Vr(hn:A.handled=none)(ad t:Addr)(vals:AAK)(n:Nat)(he:vals[n]? =none):Draws prog w A ad [ad,t] n (λ_ _=>True) (λi h=>nU k h ad t i/\uA k h t vals/\i=n) where
 live:=λ_ _ st=>let⟨o,ho,_⟩:=st.1.obj;⟨o,ho⟩
 frame:=λ_ _ _ st hk=>⟨st.1.at λo e=>hk ad (by simp) o e,st.2.1.at λo e=>hk t (by simp) o e,st.2.2⟩
 item:=λi s Q E hi st hQ=>absurd hi (by rw[st.2.2];exact ack _)
 done:=λs Q E st hE=>Lb hn st.1 st.2.1 he hE
def Mh(K:AAD)(H:Hp)(k:Bool)(a:Addr)(xs:List V):Prop:=match k with
 |true=>oW K H a xs
 |false=>Ef K H a xs
section
variable {X:Cx}{pins:AAG}{O:St}{H:Hp}{s:Shared}
def Inv.Rb(I:Inv X pins O H s)(h:Mh X.K H k a xs):∃its:BBG,Vals xs its/\uA k s.heap a its.toArray/\xs.length<=sizeLine:=by
 cases k with
 |true=>obtain⟨its,r,p,z⟩:=I.list h;exact⟨its,r,p.isList,z⟩
 |false=>obtain⟨its,r,p,z⟩:=I.tuple h;exact⟨its,r,p,z⟩
def Inv.Rc(I:Inv X pins O H s){ys:List V}(h:Mh X.K H k a xs)(h':Mh X.K H k a ys):xs=ys:=by
 cases k with
 |true=>exact I.zK h h'
 |false=>exact I.BZ h h'
def Inv.Di{t':Nat}(I:Inv X pins O H s)(k:∀b o,b∉fp->s.heap.get? b=some o->h'.get? b=some o)(hf:∀b∈fp,nZ X pins H b):Inv X pins O H {s with heap:=h',toks:=t'}:=by
 have XA:∀b u,H b=some u->b∉fp:=λb u e z=>by rw[(hf b z).1]at e;cases e
 refine I.step (g':=s.gens) (d':=s.drawn) (ch:=fp) (λb hb=>?_) (λb o _ _ hc e _=>k b o hc e) (λb o _ _ hc e _=>⟨o.slots,k b o hc e⟩) (λ_ _ _ _ n=>n)
  (λb o hc e=>⟨o,k b o hc e⟩) (λ_ _ e=>e) (λ_ _ _ e=>e) (λ_ _ e=>e) (λm hm=>?_) (λb u e=>?_) I.bare
 .obtain⟨_,f1,_,f3,f4,f5⟩:=hf b hb;exact⟨f3,f1,f4,f5⟩
 .obtain⟨o,es,ep,ho,r⟩:=hm;exact⟨o,es,ep,k _ o (λz=>(hf _ z).2.1 rfl) ho,r⟩
 .refine(I.hok b u e).stay (λc v hc q=>k c v ?_ q) (λ_ q=>q) (λ_ _ q=>q) λ_ _ _ q=>q;rcases hc with z|z
  .rw[z];exact XA b u e
  .exact XA c _ z
def Inv.handed{t':Nat}(I:Inv X pins O H s)(hf:∀b∈fp,nZ X pins H b)(hlt:∀b∈fp,b<s.heap.objs.size)(k:∀b o,b∉fp->s.heap.get? b=some o->h'.get? b=some o)
  (ht:h'.get? s.heap.objs.size=some {cls:=.type "tuple",data:=.seq its.toArray})(hv:Vals xs its)(hz:xs.length<=sizeLine):Inv X pins O (upd H s.heap.objs.size (.tup xs)) {s with heap:=h',toks:=t'}:=by
 have I1:Inv X pins O (upd H s.heap.objs.size (.tup xs)) {s with heap:=s.heap.push {cls:=.type "tuple",data:=.seq its.toArray},toks:=t'}:=
  I.laid (λ_ _ q=>aam _ q) (aaq _) ⟨hz,its,hv,IsTup.new s.heap _⟩
 refine Inv.Di (s:={s with heap:=s.heap.push {cls:=.type "tuple",data:=.seq its.toArray},toks:=t'}) (t':=t') (fp:=fp) I1 (λb o hb e=>?_) λb hb=>?_
 .rcases Heap.get?_push_cases (show(s.heap.push {cls:=.type "tuple",data:=.seq its.toArray}).get? b=some o from e) with⟨z1,z2⟩|z
  .rw[z1,z2];exact ht
  .exact k b o hb z
 .obtain⟨f0,f1,f2,f3,f4,f5⟩:=hf b hb;exact⟨by rw[aR (aaD (hlt b hb))];exact f0,f1,f2,f3,f4,f5⟩
end
def Ite(K:AAD)(k:Bool)(a:Addr):It:=
 ⟨λi H=>∃xs x,Mh K H k a xs/\xs[i]? =some x,λi H x H'=>∃p y,H p=none/\x= .ref p/\H'=upd H p (.tup [.int i,y])/\∀xs,Mh K H k a xs->xs[i]? =some y,λi H=>∃xs,Mh K H k a xs/\xs.length<=i⟩
def Lc{P:Program}{elts:BBC}(k:Bool)(a it e:Addr)(hai:a≠it)(hae:e≠a)(hei:e≠it):Turn P w K (.Tuple elts j pos) (Ite K k a) [e,it] e (λi h=>(∃old,IsEnum h e it (i:Int) old)/\nU k h it a i) where
 mem:=by simp
 obj:=λi h ⟨⟨old,he⟩,st⟩ b hb=>by
  rcases aat.mp hb with z|z
  .subst z;exact⟨_,he,λv z=>by cases z⟩
  .have z:b=it:=by simpa using z
   subst z;exact st.obj
 keep:=λi h h' ⟨⟨old,he⟩,st⟩ g=>⟨⟨old,g e (by simp) _ he⟩,st.at λo q=>g it (by simp) o q⟩
 item:=by
  intro X hP hw hK hc i pins s O H E I hf st hg;subst hP hw hK;obtain⟨xs,x,hq,hx⟩:=hg;obtain⟨its,rv,p,hz⟩:=I.Rb hq;obtain⟨u,hu,ru⟩:=rv.get hx;obtain⟨⟨old,he⟩,hit⟩:=st;have hsz:i<its.toArray.size:=by rw[aao];exact(aaA.mp hu).1
  refine wpAny_pyNext_enum_itemD (Vp (k:=k) (A:=X.A.in1) (I.ok.hd hc) it a hai its.toArray) he ⟨hit,p⟩ hsz hei (by simp[hae,hei]) λy h' tk hy ho hs' hT YV hk=>?_;obtain⟨Vq,p'⟩:=hs';have ey:y=u:=by
   have h1:its.toArray[i]? =some u:=by simpa using hu
   rw[h1]at hy;exact(abv hy).symm
  subst ey;refine⟨_,rfl,wpAny_letOwnedTupleGo_enum ho λh2 he2 hs2=>?_⟩;have hs2:Heap.SameBut e h' h2:=hs2;have elt:e<s.heap.objs.size:=aap he;obtain⟨oi,hoi,_⟩:=hit.obj;have ilt:it<s.heap.objs.size:=aap hoi;have YW:∀b∈[e,it],b<s.heap.objs.size:=λb hb=>by
   rcases aat.mp hb with z|z
   .rw[z];exact elt
   .rw[show b=it by simpa using z];exact ilt
  have I2:Inv X pins O (upd H s.heap.objs.size (.tup [.int i,x])) {s with heap:=h2,toks:=tk+1}:=
   I.handed (its:=[.int i tk,y]) hf YW (λb o hb q=>(hs2.2 b λz=>hb (by simp[z])).trans (hk b o (λz=>hb (by simp[z])) (λz=>hb (by simp[z])) q))
    ((hs2.2 _ (adP elt)).trans hT) (.cons ⟨tk,rfl⟩ (.cons ru .nil)) (show 2<=sizeLine by decide)
  refine⟨.ref s.heap.objs.size,_,I2,rfl,⟨_,x,I.fresh,rfl,rfl,λys hy2=>by rw[I.Rc hy2 hq];exact hx⟩,⟨⟨y,by simpa using he2⟩,Vq.at λo q=>(hs2.2 _ (abO hei)).trans q⟩,λb hb=>?_⟩;rw[aR (aaD (YW b hb))];exact(hf b hb).1
 done:=by
  intro X hP hw hK hc i pins s O H E I hf st hg;subst hP hw hK;obtain⟨xs,hq,hx⟩:=hg;obtain⟨its,rv,p,hz⟩:=I.Rb hq;obtain⟨⟨old,he⟩,hit⟩:=st;have hl:=rv.length;refine wpAny_pyNext_enum_endD (n:=i) (Vr (k:=k) (A:=X.A.in1) (I.ok.hd hc) it a its.toArray i (by simp;lia)) he ⟨hit,p,rfl⟩ λh' hx=>?_;exact⟨rfl,I.Di (t':=s.toks) (λb o hb q=>hx b o (λz=>hb (by simp[z])) q) hf⟩
 self:=λ_ _ _ _ _ st h=>by
  obtain⟨⟨old,he⟩,_⟩:=st;exact wpAny_pyIter_enum he h
end L2
end
section
def L2.HB(N a:Nat):N≠N+(a+1):=aaD (Nat.lt_add_of_pos_right (Nat.succ_pos a))
def L2.E5(N a:Nat):N+(a+1)≠N:=(L2.HB N a).symm
def L2.mV{N a b:Nat}(h:Nat.beq a b=false):N+a≠N+b:=λe=>Nat.ne_of_beq_eq_false h (Nat.add_left_cancel e)
namespace L2
open PySem PySem.Spec PyProof.Rows
variable {N i l0 l1:Nat}{k0 k1:Bool}{v0 v1:AAK}{Q:BBP->Shared->Prop}{a:Addr}{K:AAD}{H:Hp}{B:Base}{O:St}
abbrev TupAt(h:Heap)(T:Addr)(vals:AAK):Prop:=h.get? T=some {cls:=.type "tuple",data:=.seq vals}
section
variable {prog:Program}{w:World}{A:Around}{E:AAE}{s:Shared}
def NN{T:Addr}{vals:AAK}{x:Value}{k:Nat}{Q:Unit->Shared->Prop}(hT:TupAt s.heap T vals)(hz:vals.size<=sizeLine)(h:∀h',TupAt h' T (vals.setIfInBounds k x)->Heap.SameBut T s.heap h'->Q () {s with heap:=h'}):
  wpAny (model prog w) A (updateSeq T (·.setIfInBounds k x)) Q E s:=by
 refine adS hT rfl (h _ ?_ (agh ..)) hz (by simp only[Array.size_setIfInBounds];lia);rw[TupAt,abh _ hT rfl];simp[Obj.mapSeq]
structure NO(N:Nat)(k0 k1:Bool)(l0 l1:Nat)(i:Nat)(f0:Value)(h:Heap):Prop where
 z:IsZip h (N+4) (N+2) (N+3) f0
 ti:TupAt h (N+2) #[.ref N,.ref (N+1)]
 to:∃v:BBG,v.length=2/\TupAt h (N+3) v.toArray
 c0:nU k0 h N l0 i
 c1:nU k1 h (N+1) l1 i
noncomputable def jG(N:Nat):BBE:=[(N+4),(N+2),(N+3),N,(N+1)]
def bu{b:Nat}:b∈jG N↔N<=b/\b<=N+4:=by
 unfold jG;simp only[aat,abt,afF];lia
def YX{x0 x1:Value}(st:NO N k0 k1 l0 l1 i .none s.heap)
  (Vs:uA k0 s.heap l0 v0)(HC:v0[i]? =some x0)(NP:l0<N)
  (Rf:uA k1 s.heap l1 v1)(Gy:v1[i]? =some x1)(NQ:l1<N)
  (q:∀h',NO N k0 k1 l0 l1 (i+1) (rawInt s.heap.objs.size) h'->TupAt h' s.heap.objs.size #[x0,x1]->(∀(b:Nat) o,b∉jG N->s.heap.get? b=some o->h'.get? b=some o)->Q (some (.ref s.heap.objs.size)) {s with heap:=h'}):
  wpAny (model prog w) A (pyNext (.ref (N+4))) Q E s:=by
 obtain⟨hz,hTI,⟨w0,hw0,hTO⟩,d0,d1⟩:=st;obtain⟨a0,a1,rfl⟩:∃a0 a1,w0=[a0,a1]:=by
  match w0,hw0 with
  |[a0,a1],_=>exact⟨_,_,rfl⟩
 have hT:s.TypeIs (.ref (N+4)) "zip":=⟨_,hz,rfl⟩
 unfold pyNext;refine aal (agq (ab4 (name:=Str.ofString "__next__") hT aex (acV aex hT agE ?_ (agt _))));show wpAny _ _ (field (.ref (N+4)) 2 >>= _) _ _ _;refine aal (aaJ hz rfl (x:=.bool false) rfl ?_);show wpAny _ _ (field (.ref (N+4)) 3 >>= _) _ _ _;refine aal (aaJ hz rfl (x:=.ref (N+2)) rfl ?_);refine aal (aby hTI rfl ?_);show wpAny _ _ (Builtin.SmallTypes.ownedTupleIsFree (.ref (N+4)) >>= _) _ _ _;refine aal ?_;unfold Builtin.SmallTypes.ownedTupleIsFree;refine aal (aaJ hz rfl (x:=.none) rfl (aan ?_));simp only[if_true];refine aal (afl ?_);refine aal (aaJ hz rfl (x:=.ref (N+3)) rfl ?_);refine aal (ace hz (by simp) λg0 z0 e0=>?_);have z0:IsZip g0 (N+4) (N+2) (N+3) .ellipsis:=z0;have e0:Heap.SameBut (N+4) s.heap g0:=e0;refine aal ?_;simp only[agF,agQ,aeu,afJ];have t0:TupAt g0 (N+3) #[a0,a1]:=(e0.2 _ (mV rfl)).trans hTO;have m0:∀(b:Nat) o,b∉jG N->s.heap.get? b=some o->g0.get? b=some o:=λb o hb y=>(e0.2 b λz=>hb (bu.mpr (by have z:@Eq Nat b _:=z;lia))).trans y;have W8:nU k0 g0 N l0 i:=d0.at λo y=>(e0.2 _ (HB _ _)).trans y;have NR:nU k1 g0 (N+1) l1 i:=d1.at λo y=>(e0.2 _ (mV rfl)).trans y;refine aal (aal (aeP ?_));show wpAny _ _ (Builtin.SmallTypes.nextOf (.ref N) >>= _) _ _ _;refine aal (nextK W8 (Vs.at λo y=>m0 _ o (λz=>by have:=bu.mp z;lia) y) HC λg1 c0 e1=>aan ?_);have e1:Heap.SameBut N g0 g1:=e1;have t1:TupAt g1 (N+3) #[a0,a1]:=(e1.2 _ (E5 _ _)).trans t0;refine aal (aby t1 rfl ?_);refine aal (NN t1 (show 2<=sizeLine by decide) λg2 t2 e2=>?_);have t2:TupAt g2 (N+3) #[x0,a1]:=t2;have e2:Heap.SameBut (N+3) g1 g2:=e2;have z1:IsZip g2 (N+4) (N+2) (N+3) .ellipsis:=(e2.2 _ (mV rfl)).trans ((e1.2 _ (E5 _ _)).trans z0);have m2:∀(b:Nat) o,b∉jG N->s.heap.get? b=some o->g2.get? b=some o:=λb o hb y=>(e2.2 b λz=>hb (bu.mpr (by have z:@Eq Nat b _:=z;lia))).trans ((e1.2 b λz=>hb (bu.mpr (by have z:@Eq Nat b _:=z;lia))).trans (m0 b o hb y));refine aal (adO (aan ?_));have c0:nU k0 g2 N l0 (i+1):=c0.at λo y=>(e2.2 _ (HB _ _)).trans y;have NR:nU k1 g2 (N+1) l1 i:=NR.at λo y=>(e2.2 _ (mV rfl)).trans ((e1.2 _ (E5 _ _)).trans y);have i0:g2.get? (N+2)=s.heap.get? (N+2):=by rw[e2.2 _ (mV rfl),e1.2 _ (E5 _ _),e0.2 _ (mV rfl)]
 have s0:g2.objs.size=s.heap.objs.size:=by rw[e2.1,e1.1,e0.1]
 refine aal (aal (aeP ?_));show wpAny _ _ (Builtin.SmallTypes.nextOf (.ref (N+1)) >>= _) _ _ _;refine aal (nextK NR (Rf.at λo y=>m2 _ o (λz=>by have:=bu.mp z;lia) y) Gy λg3 c1 e3=>aan ?_);have e3:Heap.SameBut (N+1) g2 g3:=e3;have t3:TupAt g3 (N+3) #[x0,a1]:=(e3.2 _ (mV rfl)).trans t2;refine aal (aby t3 rfl ?_);refine aal (NN t3 (show 2<=sizeLine by decide) λg4 t4 e4=>?_);have t4:TupAt g4 (N+3) #[x0,x1]:=t4;have e4:Heap.SameBut (N+3) g3 g4:=e4;have z2:IsZip g4 (N+4) (N+2) (N+3) .ellipsis:=(e4.2 _ (mV rfl)).trans ((e3.2 _ (mV rfl)).trans z1);have m4:∀(b:Nat) o,b∉jG N->s.heap.get? b=some o->g4.get? b=some o:=λb o hb y=>(e4.2 b λz=>hb (bu.mpr (by have z:@Eq Nat b _:=z;lia))).trans ((e3.2 b λz=>hb (bu.mpr (by have z:@Eq Nat b _:=z;lia))).trans (m2 b o hb y));refine aal (adO (aan (aan ?_)));have c0:nU k0 g4 N l0 (i+1):=c0.at λo y=>(e4.2 _ (HB _ _)).trans ((e3.2 _ (HB _ _)).trans y);have c1:nU k1 g4 (N+1) l1 (i+1):=c1.at λo y=>(e4.2 _ (mV rfl)).trans y;have i1:g4.get? (N+2)=s.heap.get? (N+2):=by rw[e4.2 _ (mV rfl),e3.2 _ (mV rfl),i0]
 have s1:g4.objs.size=s.heap.objs.size:=by rw[e4.1,e3.1,s0]
 refine aal (aby t4 rfl ?_);refine aal (wpAny_newTuple ?_);have YY:(N+4)<g4.objs.size:=aap z2;show wpAny _ _ (Builtin.SmallTypes.ownedTupleHandOut (.ref (N+4)) (.ref g4.objs.size) >>= _) _ _ _;refine aal ?_;unfold Builtin.SmallTypes.ownedTupleHandOut;have y0:IsZip (g4.push {cls:=.type "tuple",data:=.seq #[x0,x1]}) (N+4) (N+2) (N+3) .ellipsis:=aam _ z2;refine aal (ace y0 (by simp) λf1 y1 r1=>?_);have y1:IsZip f1 (N+4) (N+2) (N+3) (rawInt g4.objs.size):=y1;refine ace y1 (by simp) λf2 y2 r2=>?_;have y2:IsZip f2 (N+4) (N+2) (N+3) (rawInt g4.objs.size):=y2;have up:∀b o,b≠(N+4)->g4.get? b=some o->f2.get? b=some o:=λb o hb y=>r2.extBut _ _ hb (r1.extBut _ _ hb (aam _ y));have tt:TupAt f2 g4.objs.size #[x0,x1]:=r2.extBut _ _ (adP YY) (r1.extBut _ _ (adP YY) (aas _ rfl));rw[s1]at y2 tt;refine aan ⟨_,rfl,aan ?_⟩;rw[s1];exact q f2 ⟨y2,up _ _ (mV rfl) (i1.trans hTI),⟨[x0,x1],rfl,up _ _ (mV rfl) t4⟩,c0.at λo y=>up _ o (HB _ _) y,c1.at λo y=>up _ o (mV rfl) y⟩ tt λb o hb y=>up b o (λz=>hb (bu.mpr (by have z:@Eq Nat b _:=z;lia))) (m4 b o hb y)
def vV{M:Model}{Q:Option Obj->Shared->Prop}(h:Q (s.heap.get? a) s):wpAny M A (loadIfAlive a) Q E s:=λΓ p _=>by
 unfold loadIfAlive;rw[Sem.wp_loadIfAlive];exact(aan h:wpAny M A (pure (s.heap.get? a)) Q E s) Γ p (by assumption)
abbrev jH(h:Heap)(z TI TO:Addr)(f0 f1:Value):Prop:=h.get? z=some {cls:=.type "zip",dict:=none,data:=.fields #[f0,f1,.bool false,.ref TI,.ref TO],slots:=#[]}
def ZF0(f0 f1:Value):Prop:=(f0= .none\/∃T:Int,f0=rawInt T)/\∃b,f1= .bool b
structure uV(N:Nat)(k0 k1:Bool)(l0 l1:Nat)(i:Nat)(h:Heap):Prop where
 z:∃f0 f1,ZF0 f0 f1/\jH h (N+4) (N+2) (N+3) f0 f1
 ti:TupAt h (N+2) #[.ref N,.ref (N+1)]
 to:∃v:BBG,v.length=2/\TupAt h (N+3) v.toArray
 c0:nU k0 h N l0 i
 c1:nU k1 h (N+1) l1 i
def NO.l{h:Heap}(x:NO N k0 k1 l0 l1 i .none h):uV N k0 k1 l0 l1 i h:=⟨⟨_,_,⟨.inl rfl,_,rfl⟩,x.z⟩,x.ti,x.to,x.c0,x.c1⟩
def E6{z TI TO:Addr}{f0 f1:Value}{Q:Bool->Shared->Prop}(hz:jH s.heap z TI TO f0 f1)(hf:ZF0 f0 f1)
  (q:∀b h' g0 g1,ZF0 g0 g1->jH h' z TI TO g0 g1->Heap.SameBut z s.heap h'->Q b {s with heap:=h'}):wpAny (model prog w) A (Builtin.SmallTypes.ownedTupleIsFree (.ref z)) Q E s:=by
 unfold Builtin.SmallTypes.ownedTupleIsFree;have same:Heap.SameBut z s.heap s.heap:=⟨rfl,λ_ _=>rfl⟩
 obtain⟨h0,b1,rfl⟩:=id hf;rcases h0 with rfl|⟨T,rfl⟩
 .exact aal (aaJ hz rfl (x:=.none) rfl (aan (q true s.heap _ _ hf hz same)))
 .refine aal (aaJ hz rfl (x:=rawInt T) rfl ?_);show wpAny _ _ (loadIfAlive T.toNat >>= _) _ _ _;refine aal (vV ?_);cases hl:s.heap.get? T.toNat with
  |none=>exact aan (q true s.heap _ _ hf hz same)
  |some o=>
   show wpAny _ _ (field (.ref z) 1 >>= _) _ _ _;refine aal (aaJ hz rfl (x:=.bool b1) rfl ?_);cases b1 with
   |true=>exact aan (q false s.heap _ _ hf hz same)
   |false=>
    show wpAny _ _ (setField (.ref z) 1 (.bool true) >>= _) _ _ _;refine aal (ace hz (by simp) λh' hz' e'=>?_);exact aan (q false h' (rawInt T) (.bool true) ⟨.inr ⟨T,rfl⟩,true,rfl⟩ hz' e')
def Rg(hn:A.handled=none)(st:uV N k0 k1 l0 l1 i s.heap)
  (Vs:uA k0 s.heap l0 v0)(NP:l0<N)
  (Rf:uA k1 s.heap l1 v1)(NQ:l1<N)
  (hend:v0[i]? =none\/v1[i]? =none)
  (q:∀h',(∀(b:Nat) o,b∉jG N->s.heap.get? b=some o->h'.get? b=some o)->Q none {s with heap:=h'}):
  wpAny (model prog w) A (pyNext (.ref (N+4))) Q E s:=by
 obtain⟨⟨f0,f1,hf,hz⟩,hTI,⟨w0,hw0,hTO⟩,d0,d1⟩:=st;obtain⟨a0,a1,rfl⟩:∃a0 a1,w0=[a0,a1]:=by
  match w0,hw0 with
  |[a0,a1],_=>exact⟨_,_,rfl⟩
 have hT:s.TypeIs (.ref (N+4)) "zip":=⟨_,hz,rfl⟩
 unfold pyNext;refine aal (agq (ab4 (name:=Str.ofString "__next__") hT aex (acV aex hT agE ?_ (agt _))));show wpAny _ _ (field (.ref (N+4)) 2 >>= _) _ _ _;refine aal (aaJ hz rfl (x:=.bool false) rfl ?_);show wpAny _ _ (field (.ref (N+4)) 3 >>= _) _ _ _;refine aal (aaJ hz rfl (x:=.ref (N+2)) rfl ?_);refine aal (aby hTI rfl ?_);show wpAny _ _ (Builtin.SmallTypes.ownedTupleIsFree (.ref (N+4)) >>= _) _ _ _;refine aal (E6 hz hf λfr Ah q0 fl hf' hz' Ci=>?_);clear hf hz hT;have Ci:Heap.SameBut (N+4) s.heap Ah:=Ci;cases fr
 case false=>
  have TF:∀(b:Nat) o,b∉jG N->s.heap.get? b=some o->Ah.get? b=some o:=λb o hb y=>(Ci.2 b λz=>hb (bu.mpr (by have z:@Eq Nat b _:=z;lia))).trans y;have d0:nU k0 Ah N l0 i:=d0.at λo y=>(Ci.2 _ (HB _ _)).trans y;have d1:nU k1 Ah (N+1) l1 i:=d1.at λo y=>(Ci.2 _ (mV rfl)).trans y;have hTO:TupAt Ah (N+3) #[a0,a1]:=(Ci.2 _ (mV rfl)).trans hTO;have hTI:TupAt Ah (N+2) #[.ref N,.ref (N+1)]:=(Ci.2 _ (mV rfl)).trans hTI;have HD:uA k0 Ah l0 v0:=Vs.at λo y=>TF _ o (λz=>by have:=bu.mp z;lia) y;have HE:uA k1 Ah l1 v1:=Rf.at λo y=>TF _ o (λz=>by have:=bu.mp z;lia) y;simp only[acp,aey];refine aal ?_;rw[<-afC];simp only[aeu,afJ];refine aal (aal (abz ?_));show wpAny _ _ (Builtin.SmallTypes.nextOf (.ref N) >>= _) _ _ _;cases HC:v0[i]? with
  |none=>
   refine aal (Lb hn d0 HD HC λu1 e r1 he=>?_);have r1:Heap.ExtBut N Ah u1:=r1;obtain⟨oe,Ld,hce⟩:=he;exact aal (ae3 (T:="StopIteration") (b:=true) ⟨oe,Ld,hce⟩ agj (aan (q _ λb o hb y=>r1 _ _ (λz=>hb (bu.mpr (by have z:@Eq Nat b _:=z;lia))) (TF b o hb y))))
  |some x0=>
   refine aal (nextK d0 HD HC λg1 c0 e1=>aan (aan ?_));have e1:Heap.SameBut N Ah g1:=e1;have m1:∀(b:Nat) o,b∉jG N->s.heap.get? b=some o->g1.get? b=some o:=λb o hb y=>(e1.2 b λz=>hb (bu.mpr (by have z:@Eq Nat b _:=z;lia))).trans (TF b o hb y);have d1:nU k1 g1 (N+1) l1 i:=d1.at λo y=>(e1.2 _ (E5 _ _)).trans y;have HE:uA k1 g1 l1 v1:=Rf.at λo y=>m1 _ o (λz=>by have:=bu.mp z;lia) y;refine aal (aal (abz ?_));show wpAny _ _ (Builtin.SmallTypes.nextOf (.ref (N+1)) >>= _) _ _ _;cases Gy:v1[i]? with
   |none=>
    refine aal (Lb hn d1 HE Gy λu1 e r1 he=>?_);have r1:Heap.ExtBut (N+1) g1 u1:=r1;obtain⟨oe,Ld,hce⟩:=he;exact aal (ae3 (T:="StopIteration") (b:=true) ⟨oe,Ld,hce⟩ agj (aan (q _ λb o hb y=>r1 _ _ (λz=>hb (bu.mpr (by have z:@Eq Nat b _:=z;lia))) (m1 b o hb y))))
   |some x1=>exact absurd hend (by simp only[HC,Gy];rintro(h|h)<;>cases h)
 simp only[if_true];refine aal (afl ?_);refine aal (aaJ hz' rfl (x:=.ref (N+3)) rfl ?_);refine aal (ace hz' (by simp) λg0 z0 e0=>?_);have e0:Heap.SameBut (N+4) Ah g0:=e0;have e0:Heap.SameBut (N+4) s.heap g0:=⟨e0.1.trans Ci.1,λb hb=>(e0.2 b hb).trans (Ci.2 b hb)⟩
 have z0:jH g0 (N+4) (N+2) (N+3) .ellipsis fl:=z0;have e0:Heap.SameBut (N+4) s.heap g0:=e0;refine aal ?_;simp only[agF,agQ,aeu,afJ];have t0:TupAt g0 (N+3) #[a0,a1]:=(e0.2 _ (mV rfl)).trans hTO;have m0:∀(b:Nat) o,b∉jG N->s.heap.get? b=some o->g0.get? b=some o:=λb o hb y=>(e0.2 b λz=>hb (bu.mpr (by have z:@Eq Nat b _:=z;lia))).trans y;have W8:nU k0 g0 N l0 i:=d0.at λo y=>(e0.2 _ (HB _ _)).trans y;have NR:nU k1 g0 (N+1) l1 i:=d1.at λo y=>(e0.2 _ (mV rfl)).trans y;refine aal (aal (aeP ?_));show wpAny _ _ (Builtin.SmallTypes.nextOf (.ref N) >>= _) _ _ _;have HD:uA k0 g0 l0 v0:=Vs.at λo y=>m0 _ o (λz=>by have:=bu.mp z;lia) y;cases HC:v0[i]? with
 |none=>
  refine aal (Lb hn W8 HD HC λu1 e r1 he=>?_);have r1:Heap.ExtBut N g0 u1:=r1;obtain⟨oe,Ld,hce⟩:=he;have y1:jH u1 (N+4) (N+2) (N+3) .ellipsis fl:=r1 _ _ (E5 _ _) z0;have hez:e≠(N+4):=λx=>by subst x;rw[y1]at Ld;cases Ld;simp at hce
  refine ace y1 (by simp) λu2 _ r2=>?_;have r2:Heap.SameBut (N+4) u1 u2:=r2;refine aal (ae3 (T:="StopIteration") (b:=true) ⟨oe,r2.extBut _ _ hez Ld,hce⟩ agj (aan (q _ λb o hb y=>r2.extBut _ _ (λz=>hb (bu.mpr (by have z:@Eq Nat b _:=z;lia))) (r1 _ _ (λz=>hb (bu.mpr (by have z:@Eq Nat b _:=z;lia))) (m0 b o hb y)))))
 |some x0=>
  refine aal (nextK W8 HD HC λg1 c0 e1=>aan ?_);have e1:Heap.SameBut N g0 g1:=e1;have t1:TupAt g1 (N+3) #[a0,a1]:=(e1.2 _ (E5 _ _)).trans t0;refine aal (aby t1 rfl ?_);refine aal (NN t1 (show 2<=sizeLine by decide) λg2 t2 e2=>?_);have t2:TupAt g2 (N+3) #[x0,a1]:=t2;have e2:Heap.SameBut (N+3) g1 g2:=e2;have z1:jH g2 (N+4) (N+2) (N+3) .ellipsis fl:=(e2.2 _ (mV rfl)).trans ((e1.2 _ (E5 _ _)).trans z0);have m2:∀(b:Nat) o,b∉jG N->s.heap.get? b=some o->g2.get? b=some o:=λb o hb y=>(e2.2 b λz=>hb (bu.mpr (by have z:@Eq Nat b _:=z;lia))).trans ((e1.2 b λz=>hb (bu.mpr (by have z:@Eq Nat b _:=z;lia))).trans (m0 b o hb y));refine aal (adO (aan ?_));have NR:nU k1 g2 (N+1) l1 i:=NR.at λo y=>(e2.2 _ (mV rfl)).trans ((e1.2 _ (E5 _ _)).trans y);refine aal (aal (aeP ?_));show wpAny _ _ (Builtin.SmallTypes.nextOf (.ref (N+1)) >>= _) _ _ _;have HE:uA k1 g2 l1 v1:=Rf.at λo y=>m2 _ o (λz=>by have:=bu.mp z;lia) y;cases Gy:v1[i]? with
  |none=>
   refine aal (Lb hn NR HE Gy λu1 e r1 he=>?_);have r1:Heap.ExtBut (N+1) g2 u1:=r1;obtain⟨oe,Ld,hce⟩:=he;have y1:jH u1 (N+4) (N+2) (N+3) .ellipsis fl:=r1 _ _ (mV rfl) z1;have hez:e≠(N+4):=λx=>by subst x;rw[y1]at Ld;cases Ld;simp at hce
   refine ace y1 (by simp) λu2 _ r2=>?_;have r2:Heap.SameBut (N+4) u1 u2:=r2;refine aal (ae3 (T:="StopIteration") (b:=true) ⟨oe,r2.extBut _ _ hez Ld,hce⟩ agj (aan (q _ λb o hb y=>r2.extBut _ _ (λz=>hb (bu.mpr (by have z:@Eq Nat b _:=z;lia))) (r1 _ _ (λz=>hb (bu.mpr (by have z:@Eq Nat b _:=z;lia))) (m2 b o hb y)))))
  |some x1=>
    exact absurd hend (by simp only[HC,Gy];rintro(h|h)<;>cases h)
end
abbrev Jm(h:Heap)(k0 k1:Bool)(l0 l1:Nat):Heap:=((h.push (Mg k0 l0)).push (Mg k1 l1))
abbrev Jo(h:Heap)(k0 k1:Bool)(l0 l1:Nat):Heap:=(Jm h k0 k1 l0 l1).push {cls:=.type "tuple",data:=.seq #[.ref h.objs.size,.ref (h.push (Mg k0 l0)).objs.size]}
abbrev Jp(h:Heap)(k0 k1:Bool)(l0 l1:Nat):Heap:=(Jo h k0 k1 l0 l1).push {cls:=.type "tuple",data:=.seq #[.none,.none]}
abbrev Cj(h:Heap)(k0 k1:Bool)(l0 l1:Nat):Heap:=(Jp h k0 k1 l0 l1).push {cls:=.type "zip",data:=.fields #[.none,.bool false,.bool false,.ref (Jm h k0 k1 l0 l1).objs.size,.ref (Jo h k0 k1 l0 l1).objs.size]}
def Rh(k0 k1:Bool)(l0 l1:Nat)(v0 v1:AAK):Meets (Builtin.«zip.__new__» ⟨[.type "zip",.ref l0,.ref l1],[]⟩) (λ_ R s=>uA k0 s.heap l0 v0/\uA k1 s.heap l1 v1/\R (.ok (.ret (.ref (Jp s.heap k0 k1 l0 l1).objs.size))) {s with heap:=Cj s.heap k0 k1 l0 l1}):=
 .of_wp λprog w A R s h=>by
  obtain⟨hp,g,d,tk,os⟩:=s;obtain⟨q0,q1,h⟩:=h;have hsub:=sub_zip;have p0:uA k0 (Shared.heap ⟨hp,g,d,tk,os⟩) l0 v0:=q0.at λo e=>e;have p1:uA k1 (Shared.heap ⟨(hp.push (Mg k0 l0)),g,d,tk,os⟩) l1 v1:=q1.at λo e=>aam _ (e)
  wp_walk using Tz p0,Tz p1
  exact⟨_,rfl,h⟩
def NS{prog:Program}{w:World}{A:Around}{E:AAE}{s:Shared}{Q:AAE}(q0:uA k0 s.heap l0 v0)(q1:uA k1 s.heap l1 v1)
  (h:∀h',NO s.heap.objs.size k0 k1 l0 l1 0 .none h'->(∀c o,s.heap.get? c=some o->h'.get? c=some o)->Q (.ref (s.heap.objs.size+4)) {s with heap:=h'}):wpAny (model prog w) A (call (.type "zip") [.ref l0,.ref l1]) Q E s:=by
 refine callType_new F.called_zip (by decide) (F.typeCall_zip_2 _ _) (F.newCall_zip_2 _ _) (λobj=>F.args_object_init_3 obj _ _) F.entry_zip_new (Rh k0 k1 l0 l1 v0 v1) ⟨q0,q1,?_⟩;have e0:(Jm s.heap k0 k1 l0 l1).objs.size=s.heap.objs.size+2:=by simp only[abP]
 have e1:(Jo s.heap k0 k1 l0 l1).objs.size=s.heap.objs.size+3:=by rw[abP,e0]
 have e2:(Jp s.heap k0 k1 l0 l1).objs.size=s.heap.objs.size+4:=by rw[abP,e1]
 have g2:(Cj s.heap k0 k1 l0 l1).get? (Jp s.heap k0 k1 l0 l1).objs.size=some _:=aas _ rfl;have g1:(Cj s.heap k0 k1 l0 l1).get? (Jo s.heap k0 k1 l0 l1).objs.size=some _:=aam _ (aas _ rfl);have g0:(Cj s.heap k0 k1 l0 l1).get? (Jm s.heap k0 k1 l0 l1).objs.size=some _:=aam _ (aam _ (aas _ rfl));rw[e2,e0,e1]at g2;rw[e1]at g1;rw[e0]at g0;simp only[abP]at g0;show _/\_;rw[e2];refine⟨⟨_,g2,rfl⟩,h _ ⟨g2,g0,⟨[.none,.none],rfl,g1⟩,?_,?_⟩ λc o x=>aam _ (aam _ (aam _ (aam _ (aam _ (x)))))⟩
 .have:=(nU.new k0 (s.heap) l0).at (h':=Cj s.heap k0 k1 l0 l1) λo e=>aam _ (aam _ (aam _ (aam _ (e))))
  simpa only[abP] using this
 .have:=(nU.new k1 ((s.heap).push (Mg k0 l0)) l1).at (h':=Cj s.heap k0 k1 l0 l1) λo e=>aam _ (aam _ (aam _ (e)))
  simpa only[abP] using this
section
variable {X:Cx}{a b e:Expr}{elts:BBC}{pos p tpos:Pos}{jt:Nat}
def uA.lt{k:Bool}{h:Heap}{a:Addr}{its:AAK}(x:uA k h a its):a<h.objs.size:=by
 cases k<;>exact let⟨o,ho,_⟩:=x;aap ho
def YZ(K:AAD)(ta:TA):TI:=λO H R=>ta O H λvs H1=>∃k a xs,vs=[.ref a]/\Mh K H1 k a xs/\R (Ite K k a) H1
def Ri{ta:TA}(hg:Gl X "enumerate")(hm:X.mg "enumerate" =none)(ha:PA X [a] ta)(hs:starEach [a] X.env=[(false,eval a X.env)]:=by rfl):PI X (.Tuple elts jt tpos) (.Call (.Name "enumerate" p) [a] [] pos) (YZ X.K ta):=by
 intro pins s O H R I h;refine Call_ (lP I hg hm boot_enumerate (abW (cS (ha pos pins s O H _ I h) λus s1 hh=>?_) hs rfl));obtain⟨vs,H1,I1,r1,q1⟩:=hh;obtain⟨k,a,xs,rfl,hq,q⟩:=q1;cases r1 with
 |cons r rr=>
  cases rr;cases r;obtain⟨its,rv,p,hz⟩:=I1.Rb hq;refine HA p λh' he hit hk=>wpAny_pyIter_enum he ?_;have lt:=p.lt;refine⟨s1.heap.objs.size+1,[s1.heap.objs.size+1,s1.heap.objs.size],_,_,H1,rfl,I1.kept (t':=s1.toks) hk,Lc k a s1.heap.objs.size (s1.heap.objs.size+1) (aaD lt) (adP (afQ lt)) (Nat.succ_ne_self _),⟨⟨.none,he⟩,hit⟩,λb hb=>?_,q⟩;have hb:s1.heap.objs.size<=b:=by
   rcases aat.mp hb with z|z
   .rw[z];exact afp _
   .rw[show b=s1.heap.objs.size by simpa using z];exact aaq _
  exact I1.Er hb (I1.hok.fresh hb)
def WalkN(J:It)(F:Hp)(ds:List D):Prop:=∀F' H',(∀b o,F b=some o->F' b=some o)->Sub F' H'->∀i,(∀d,ds[i]? =some d->J.go i H'/\∀x H2,J.S5 i H' x H2->∃F2,fW F' H' F2 H2/\Sub F2 H2/\Rep F2 x d)/\(ds.length<=i->J.stop i H')
inductive acU(K:AAD)(B:Base)(gi:GI)(O:St)(H:Hp)(Q:It->Hp->Prop):Prop
 |mk(S:SS)(F:Hp)(ds:List D)(S':SS)(R:Rel K B S O F H)(hg:gi S=some (ds,S'))(q:∀J F' H',Rel K B S' O F' H'->Step S S' O F H F' H'->WalkN J F' ds->Q J H')
structure Y0(X:Cx)(tg e:Expr)(gi:GI):Prop where
 h:∀B,PI X tg e (acU X.K B gi)
noncomputable def xw:D->Option (Bool×List D)
 |.lst ds=>some (true,ds)
 |.tup ds=>some (false,ds)
 |_=>none
def Sub.NU{F:Hp}{v:V}{d:D}{k:Bool}{ds:List D}(sb:Sub F H)(r:Rep F v d)(e:xw d=some (k,ds)):
  ∃a vs,v= .ref a/\bE F vs ds/\∀F' H',(∀b o,F b=some o->F' b=some o)->Sub F' H'->Mh K H' k a vs:=by
 cases d<;>try (cases e;done)
 .cases e;obtain⟨a,vs,rfl,fa,ha,rs⟩:=sb.qo r;exact⟨a,vs,rfl,rs,λF' H' le sb'=>.inl (Rd.of (sb' a _ (le _ _ fa)))⟩
 .cases e;obtain⟨a,vs,rfl,fa,ha,rs⟩:=sb.jo r;exact⟨a,vs,rfl,rs,λF' H' le sb'=>.inl (fa.same λb o z=>sb' b o (le b o z))⟩
noncomputable def Jq(ds:List D):List D:=ds.mapIdx λi d=>.tup [.int i,d]
def Jr(gA:GA):GI:=λS=>(gA S).bind λp=>match p.1 with
 |[d]=>(xw d).map λq=>(Jq q.2,p.2)
 |_=>none
def Js{gA:GA}(hg:Gl X "enumerate")(hm:X.mg "enumerate" =none)(ha:JA X [a] gA)(hs:starEach [a] X.env=[(false,eval a X.env)]:=by rfl):Y0 X (.Tuple elts jt tpos) (.Call (.Name "enumerate" p) [a] [] pos) (Jr gA):=
 ⟨λB=>PI.orelse λO H R0 hh=>by
 obtain⟨S,F,ds,S',R,hg',k⟩:=hh;obtain⟨⟨args,S1⟩,h1,hg'⟩:=ah hg';refine⟨_,Ri hg hm (ha.h B) hs,S,F,args,S1,R,h1,λvs F1 H1 R1 st1 r1=>?_⟩;dsimp only at hg';split at hg'
 .obtain⟨⟨kk,es⟩,h2,hg'⟩:=aB hg';cases hg';cases r1 with
  |cons r rr=>
   cases rr;obtain⟨a,ws,rfl,rs,sq⟩:=R1.sub.NU (K:=X.K) r h2;refine⟨kk,a,ws,rfl,sq F1 H1 (λ_ _ z=>z) R1.sub,k _ F1 H1 R1 st1 λF' H' le sb i=>⟨λd hd=>?_,λhl=>⟨ws,sq F' H' le sb,by rw[rs.length];simpa[Jq] using hl⟩⟩⟩;unfold Jq at hd;rw[List.getElem?_mapIdx]at hd;obtain⟨d0,hd0,rfl⟩:=aB hd;obtain⟨v,k1,k2⟩:=rs.get hd0;refine⟨⟨ws,v,sq F' H' le sb,k1⟩,λx H2 y=>?_⟩;obtain⟨p,y,hp,rfl,rfl,hy⟩:=y;have ey:=hy ws (sq F' H' le sb);rw[k1]at ey;cases ey;exact⟨_,fW.root sb hp _,sb.wZ hp,.tup aZ (.cons (.int _) (.cons (k2.le λb o z=>pq (sb.fresh hp) b o (le b o z)) .nil))⟩
 .cases hg'⟩
def Rj{tg iter:Expr}{stmts:BBH}{s1:GS}{bd:GB}{gi:GI}(hp:PassesOwn (model X.prog X.w) X.A X.env X.xe)(hc:X.calm=true)(hi:Y0 X tg iter gi)(hg:JG X tg bd)(hb:JB X stmts s1)(hs:∀x,foldedSetIterable iter X.env x=pure x:=by intro _;rfl):
  JS X (.For tg iter stmts [] pos) (qz bd gi s1):=⟨λB=>(ME hp hc (hi.h B) (hg.h B) (hb.h B) hs).imp λD O H hh=>by
 obtain⟨S,F,o,R,h,k⟩:=hh;obtain⟨⟨ds,S1⟩,h1,h⟩:=ah h;refine⟨S,F,ds,S1,R,h1,λJ F1 H1 R1 st1 w=>?_⟩;refine⟨λi m O' H'=>∃S' F',Rel X.K B S' O' F' H'/\(∀b o,F1 b=some o->F' b=some o)/\i<=ds.length/\m=ds.length-i/\loop bd s1 (ds.drop i) S'=some o,⟨_,S1,F1,R1,λ_ _ z=>z,abX _,rfl,h⟩,?_⟩;rintro i m O' H' ⟨S',F',R',le,hl,rfl,fC⟩;have w':=w F' H' le R'.sub i;by_cases hlt:i<ds.length
 .have hd:ds[i]? =some ds[i]:=aaz hlt;obtain⟨go,yl⟩:=w'.1 _ hd;rw[adN hlt]at fC;obtain⟨S2,e2,fC⟩:=ah fC;obtain⟨o2,e3,fC⟩:=ah fC;refine .inr ⟨go,_,λO2 H2 n=>⟨ds.length-(i+1),by lia,n⟩,λx H2 y=>?_⟩;obtain⟨F2,nw,Y3,rx⟩:=yl x H2 y;have R2:=R'.new nw Y3;have le:∀b o,F1 b=some o->F2 b=some o:=λb o z=>nw.le b o (le b o z);refine⟨S',F2,_,S2,R2,rx,e2,λO3 R3=>⟨S2,F2,o2,R3,e3,?_⟩⟩;cases o2 with
  |nx S3=>exact λHi F4 H4 R4 BE=>⟨S3,F4,R4,λb o z=>BE b o (le b o z),hlt,rfl,fC⟩
  |ct S3=>exact λHi F4 H4 R4 BE=>⟨S3,F4,R4,λb o z=>BE b o (le b o z),hlt,rfl,fC⟩
  |bk S3=>cases fC;exact λHi F4 H4 R4 BE=>k Hi F4 H4 R4 λb o z=>BE b o (le b o (st1.ext.le b o z))
  |rt u S3=>cases fC;exact λv Hi F4 H4 R4 BE=>k v Hi F4 H4 R4 λb o z=>BE b o (le b o (st1.ext.le b o z))
 .have e:i=ds.length:=by lia
  subst e;rw[afm]at fC;cases fC;exact .inl ⟨w'.2 (aaq _),k O' F' H' R' λb o z=>le b o (st1.ext.le b o z)⟩⟩
end
noncomputable def NV:GE:=λS=>some (.m (.fT []),S)
section
variable {X:Cx}{a b e k:Expr}{x y:Str}{p pos:Pos}{gk:GD}
def Rk:JE X (.Dict [] [] pos) NV:=⟨λB=>MP.imp λO H Q hh=>by
 obtain⟨S,F,u,S',R,hg,q⟩:=hh;cases hg;intro p hp;have n:=fW.obj (F:=F) hp (.dT []);have hn:¬dw S O p:=λm=>by obtain⟨o,ho⟩:=R.has m;rw[hp]at ho;cases ho
 exact q (.ref p) F _ (R.new n (R.sub.same n.same)) n.step ⟨p,rfl,hp,R.sub.fresh hp,⟨[],aZ,.nil⟩,hn,none_of R.ext.there hp⟩⟩
def Rm:U->D->Option Bool
 |.m (.dct kvs),k=>(keyOf k).map λkk=>(dY kvs kk).isSome
 |.b (.dct kvs),k=>(keyOf k).map λkk=>(dY kvs kk).isSome
 |.m (.fT kvs),k=>(xj k).map λkk=>(dY kvs kk).isSome
 |.b (.fT kvs),k=>(xj k).map λkk=>(dY kvs kk).isSome
 |_,_=>none
def NW(n:Bool)(i:Nat)(g:GD):GD:=λS=>(g S).bind λp=>match p.2[i]? with
 |some (some u)=>(Rm u p.1).map λh=>(.bl (n != h),p.2)
 |_=>none
def vW{κ:Type}[DecidableEq κ]{F:Hp}{ws:List (κ×V)}{kvs:List (κ×D)}(pr:Paired (dP F) ws kvs)(k:κ):(uP ws k).isSome=(dY kvs k).isSome:=by
 cases e:dY kvs k with
 |none=>rw[K2 pr e];rfl
 |some d=>obtain⟨v,h,_⟩:=xh pr e;rw[h];rfl
def Rn{F:Hp}{v w:V}{u:U}{d:D}{h:Bool}(sb:Sub F H)(r:C4 K F H v u)(rk:Rep F w d)(e:Rm u d=some h):∃a o,v= .ref a/\qO H a w o/\o.isSome=h:=by
 unfold Rm at e;split at e
 .obtain⟨kk,e1,rfl⟩:=aB e;obtain⟨a,rfl,fa,ws,ha,pr⟩:=r;exact⟨a,_,rfl,qO.ky ha (tR rk e1),vW pr kk⟩
 .obtain⟨kk,e1,rfl⟩:=aB e;obtain⟨a,rfl,fa,ws,ha,pr⟩:=r;exact⟨a,_,rfl,qO.ky ha (tR rk e1),vW pr kk⟩
 .obtain⟨kk,e1,rfl⟩:=aB e;obtain⟨a,rfl,fa,ws,ha,pr⟩:=r;obtain⟨b,rfl,hb⟩:=vR sb rk e1;exact⟨a,_,rfl,qO.t ha hb,vW pr kk⟩
 .obtain⟨kk,e1,rfl⟩:=aB e;obtain⟨a,rfl,fa,ws,ha,pr⟩:=r;obtain⟨b,rfl,hb⟩:=vR sb rk e1;exact⟨a,_,rfl,qO.t ha hb,vW pr kk⟩
 .cases e
def Ro{n:Bool}{Q:VK}(h:tD X.K B (NW n i gk) O H Q):tD X.K B gk O H λy H1=>Kp i O H1 λx H2=>∃a o,x= .ref a/\qO H2 a y o/\Q (.bl (n != o.isSome)) H2:=by
 obtain⟨S,F,d,S',R,hg,q⟩:=h;obtain⟨⟨d1,S1⟩,h1,hg⟩:=ah hg;dsimp only at hg;split at hg
 .rename_i u hS;obtain⟨h,h2,hg⟩:=aB hg;cases hg;refine⟨S,F,d1,_,R,h1,λv F1 H1 R1 st1 r1=>?_⟩;obtain⟨v0,hv0,r0⟩:=R1.rep i u hS;obtain⟨a,o,e1,g1,e2⟩:=Rn R1.sub r0 r1 h2;refine⟨v0,hv0,a,o,e1,g1,?_⟩;rw[e2];exact q (.bl _) F1 H1 R1 st1 (.bl _)
 .cases hg
end
section
variable {X:Cx}{k v:Expr}{pos:Pos}{gk:GD}
def Le{x:Str}{px:Pos}(hu:X.A.units+20<cLine)(hk:JD X k gk)(hN:X.N[i]? =some x:=by rfl)(hv:wR X.env.scope x:=by trivial)(hd:BBT x:=by decide)(hcd:BBU x:=by decide)
  (hm:behindInMarks .NotIn (.Name x px)=false:=by with_unfolding_all rfl):JT X (.Compare k [.NotIn] [.Name x px] pos) (qB (NW true i gk)):=⟨λB=>(GF (KG hu (hk.h B) (dG hN hv hd hcd)) hm).imp λO H Q hh=>by
 obtain⟨S,F,kk,S',R,hg,q⟩:=hh;have h:tD X.K B (NW true i gk) O H (λv H'=>∃d,v= .bl d/\Q d H'):=⟨S,F,.bl kk,S',R,lB hg,λv F' H' R' st r=>⟨kk,iX r,q F' H' R' st⟩⟩
 have h2:=Ro h
 simpa[tB,IL] using h2⟩
end
noncomputable def gw(kvs:AAJ)(z:Str):BBM:=(kvs.find? λp=>decide (p.1=z)).map (·.2)
def Vt:BBM->BBP->Prop
 |some i,u=>∃t,u=some (.int i t)
 |none,u=>u=none
def KTab(P:Program)(w:World)(K:AAD)(a:Addr)(kvs:AAJ):Prop:=
 (a == sysModules)=false/\∃o es ep,K.lookup a=some o/\o.ExactDict/\o.data= .dict es ep/\KeysOf (cY P w) es/\∀z,Vt (gw kvs z) (findBy (cY P w).is es (.inr z))
def Dj(w:World):List (Str×Int)->List DictEntry->Prop
 |[],[]=>True
 |(z,i)::r,e::es=>(e.hash=hashStr w z/\(∃t,e.key= .str z t)/\∃t,e.val= .int i t)/\Dj w r es
 |_,_=>False
theorem Ck{P:Program}{w:World}:∀{kvs:AAJ}{es:List DictEntry},Dj w kvs es->∀e∈es,∃k,(cY P w).is k e.key=true/\e.hash=(cY P w).hash k
 |[],[],_,e,he=>by cases he
 |(z,i)::r,e::es,h,e',he=>by
  obtain⟨⟨h1,⟨t,h2⟩,_⟩,h3⟩:=h;rcases aat.mp he with rfl|q
  .exact⟨.inr z,by rw[h2];exact qI P w z t,h1⟩
  .exact Ck h3 e' q
 |[],_::_,h,_,_=>h.elim
 |_::_,[],h,_,_=>h.elim
theorem Cm{P:Program}{w:World}(z:Str):∀{kvs:AAJ}{es:List DictEntry},Dj w kvs es->Vt (gw kvs z) ((es.find? λe=>(cY P w).is (.inr z) e.key).map (·.val))
 |[],[],_=>rfl
 |(y,i)::r,e::es,h=>by
  obtain⟨⟨h1,⟨t,h2⟩,u,h4⟩,h3⟩:=h;have k:(cY P w).is (.inr z) e.key=decide ((.inr z:Key)= .inr y):=KeyKind.is_eq_decide (knd:=cY P w) (k:=.inr y) (by rw[h2];exact qI P w y t) (.inr z);unfold gw;by_cases q:y=z
  .subst q;rw[List.find?_cons_of_pos (by simp),List.find?_cons_of_pos (by rw[k];simp)];exact⟨u,by rw[Option.map_some,h4]⟩
  .rw[List.find?_cons_of_neg (by simpa using q),List.find?_cons_of_neg (by rw[k];simp only[aeW,Sum.inr.injEq];exact λe=>q e.symm)];exact Cm z h3
 |[],_::_,h=>h.elim
 |_::_,[],h=>h.elim
def Dk{P:Program}{w:World}{kvs:AAJ}{es:List DictEntry}{ep:Nat}(h:K.lookup a=some ⟨.type "dict",none,.dict es.toArray ep,#[]⟩)(hs:(a == sysModules)=false)(he:Dj w kvs es):KTab P w K a kvs:=by
 refine⟨hs,_,es.toArray,ep,h,⟨rfl,rfl,rfl⟩,rfl,λe q=>Ck he e (by simpa using q),λz=>?_⟩;have:=Cm (P:=P) z he;unfold findBy;rw[List.find?_toArray];exact this
section
variable {X:Cx}{pins:AAG}{O:St}{H:Hp}{s:Shared}{a:Addr}{kvs:AAJ}
def KTab.map(I:Inv X pins O H s)(h:KTab X.prog X.w X.K a kvs):∃f:Key->BBP,s.heap.MapOf (cY X.prog X.w) a f/\∀z,Vt (gw kvs z) (f (.inr z)):=by
 obtain⟨_,o,es,ep,h1,h2,h3,h4,h5⟩:=h;exact⟨_,⟨o,es,ep,I.uh a o h1,h2,h3,h4,λ_=>rfl⟩,h5⟩
end
def Lg(kvs:AAJ)(g:GD):GD:=λS=>(g S).bind λp=>match p.1 with
 |.str z=>(gw kvs z).map λi=>(.int i,p.2)
 |_=>none
def Jt(kvs:AAJ)(g gd:GD):GD:=λS=>(g S).bind λp=>(gd p.2).bind λq=>match p.1,q.1 with
 |.str z,.int j=>some (.int ((gw kvs z).getD j),q.2)
 |_,_=>none
def qY(n:Bool)(kvs:AAJ)(g:GD):GD:=λS=>(g S).bind λp=>match p.1 with
 |.str z=>some (.bl (n != (gw kvs z).isSome),p.2)
 |_=>none
section
variable {X:Cx}{e f:Expr}{x:Str}{px pos apos cpos:Pos}{ty tx:TE}{g gd:GD}{a:Addr}{kvs:AAJ}
def Vu(hg:Gl X x)(hm:X.mg x=some (.ref a))(hk:KTab X.prog X.w X.K a kvs)(he:PE X e ty)(hs:Qi e)(hd:BBT x):
  PE X (.Subscript (.Name x px) e pos) (λO H Q=>ty O H λy H1=>∃z i,y= .str z/\gw kvs z=some i/\Q (.int i) H1):=by
 intro pins s O H Q I h;refine IK agw.lookup hs (cS (mQ (v:=.ref a) hg hm rfl hd pins s O H (λv H1=>v= .ref a/\H1=H) I ⟨rfl,rfl⟩) λu s1 hh=>?_);obtain⟨x',H1,I1,rx,ex,eH⟩:=hh;subst ex eH;obtain rfl:u=Value.ref a:=rx;refine cS (he pins s1 O _ _ I1 h) λiv s2 hh=>?_;obtain⟨y,H2,I2,ry,z,i,ey,el,q⟩:=hh;subst ey;obtain⟨fm,m1,m2⟩:=hk.map I2;have r:=m2 z;rw[el]at r;obtain⟨t,r⟩:=r;exact⟨m1.typeIs,wpAny_getItem_of (k:=.inr z) (zO (k:=.inr z) ry) m1 r ⟨.int i,H2,I2.tok _,⟨t,rfl⟩,q⟩⟩
def Lh(hg:Gl X x)(hm:X.mg x=some (.ref a))(hk:KTab X.prog X.w X.K a kvs)(he:PE X e ty)(hf:PE X f tx)(m:M2 X (.Name x px) "get" apos e f cpos)(hd:BBT x):
  PE X (.Call (.Attribute (.Name x px) "get" apos) [e,f] [] cpos) (λO H Q=>ty O H λy H1=>tx O H1 λy2 H2=>∃z j,y= .str z/\y2= .int j/\Q (.int ((gw kvs z).getD j)) H2):=by
 intro pins s O H Q I h;refine agu m.base m.few m.line agM aeY PySem.F.type_dict_get (cS (mQ (v:=.ref a) hg hm rfl hd pins s O H (λv H1=>v= .ref a/\H1=H) I ⟨rfl,rfl⟩) λu s1 hh=>?_);obtain⟨x',H1,I1,rx,ex,eH⟩:=hh;subst ex eH;obtain rfl:u=Value.ref a:=rx;obtain⟨fm,m1,m2⟩:=hk.map I1;refine⟨m1.typeIs,λb hb=>?_,?_⟩
 .cases hb;obtain⟨ob,_,_,h1,h2,_⟩:=m1;exact⟨ob,h1,h2.2.1⟩
 rw[m.trees];refine aer rfl (afj (ab9 (cS (he pins s1 O _ _ I1 h) λiv s2 ⟨y,H2,I2,ry,q2⟩=>
  ab9 (cS (hf pins s2 O H2 _ I2 q2) λfv s3 ⟨y2,H3,I3,Vb,z,j,ey,ey2,q3⟩=>aeB ?_))))
 subst ey ey2;obtain⟨Y4,k1,k2⟩:=hk.map I3;refine call_meetsIn aeY k1.typeIs PySem.F.entry_dict_get (agN _ _ _) (meets_dict_get_default (k:=.inr z) (cY X.prog X.w) a (zO (k:=.inr z) ry) hk.1 fv) ⟨Y4,k1,.int ((gw kvs z).getD j),H3,I3.tok _,?_,q3⟩;have r:=k2 z;cases el:gw kvs z with
 |none=>rw[el]at r;rw[show Y4 (.inr z)=none from r];exact Vb
 |some i=>rw[el]at r;obtain⟨t,r⟩:=r;rw[r];exact⟨t,rfl⟩
def NX(hg:Gl X x)(hm:X.mg x=some (.ref a))(hk:KTab X.prog X.w X.K a kvs)(he:PE X e ty)(hd:BBT x):
  PC X .In e (.Name x px) (λO H Q=>ty O H λy H1=>∃z,y= .str z/\Q (.bl (gw kvs z).isSome) H1):=by
 intro pins s O H Q I h;refine cS (he pins s O H _ I h) λiv s1 ⟨y,H1,I1,ry,z,ey,q⟩=>cS (mQ (v:=.ref a) hg hm rfl hd pins s1 O H1 (λv H2=>v= .ref a/\H2=H1) I1 ⟨rfl,rfl⟩) λu s2 hh=>?_;obtain⟨x',H2,I2,rx,ex,eH⟩:=hh;subst ex eH ey;obtain rfl:u=Value.ref a:=rx;obtain⟨fm,m1,m2⟩:=hk.map I2;refine wpAny_in_of (k:=.inr z) (zO (k:=.inr z) ry) hk.1 m1 ?_;have r:=m2 z;have e:(fm (.inr z)).isSome=(gw kvs z).isSome:=by
  cases el:gw kvs z with
  |none=>rw[el]at r;rw[show fm (.inr z)=none from r];rfl
  |some i=>rw[el]at r;obtain⟨t,r⟩:=r;rw[r];rfl
 rw[e];exact⟨.bl _,_,I2.tok _,rfl,q⟩
def E7(hg:Gl X x)(hm:X.mg x=some (.ref a))(hk:KTab X.prog X.w X.K a kvs)(he:PE X e ty)(hd:BBT x):
  PC X .NotIn e (.Name x px) (λO H Q=>ty O H λy H1=>∃z,y= .str z/\Q (.bl (!(gw kvs z).isSome)) H1):=by
 intro pins s O H Q I h;refine cS (he pins s O H _ I h) λiv s1 ⟨y,H1,I1,ry,z,ey,q⟩=>cS (mQ (v:=.ref a) hg hm rfl hd pins s1 O H1 (λv H2=>v= .ref a/\H2=H1) I1 ⟨rfl,rfl⟩) λu s2 hh=>?_;obtain⟨x',H2,I2,rx,ex,eH⟩:=hh;subst ex eH ey;obtain rfl:u=Value.ref a:=rx;obtain⟨fm,m1,m2⟩:=hk.map I2;refine wpAny_notIn_of (k:=.inr z) (zO (k:=.inr z) ry) hk.1 m1 ?_;have r:=m2 z;have e:(fm (.inr z)).isSome=(gw kvs z).isSome:=by
  cases el:gw kvs z with
  |none=>rw[el]at r;rw[show fm (.inr z)=none from r];rfl
  |some i=>rw[el]at r;obtain⟨t,r⟩:=r;rw[r];rfl
 rw[e];exact⟨.bl _,_,I2.tok _,rfl,q⟩
def Dl(hg:Gl X x)(hm:X.mg x=some (.ref a))(hk:KTab X.prog X.w X.K a kvs)(he:JD X e g)(hs:Qi e:=by intro _ _;rfl)(hd:BBT x:=by decide):JD X (.Subscript (.Name x px) e pos) (Lg kvs g):=
 ⟨λB=>(Vu hg hm hk (he.h B) hs hd).imp λO H Q hh=>by
  obtain⟨S,F,d,S',R,hg',q⟩:=hh;obtain⟨⟨d1,S1⟩,h1,hg'⟩:=ah hg';cases d1<;>try (cases hg')
  rename_i z;obtain⟨i,h2,hg'⟩:=aB hg';cases hg';exact⟨S,F,.str z,_,R,h1,λv F1 H1 R1 st1 r1=>by cases r1;exact⟨z,i,rfl,h2,q (.int i) F1 H1 R1 st1 (.int i)⟩⟩⟩
def Li(hg:Gl X x)(hm:X.mg x=some (.ref a))(hk:KTab X.prog X.w X.K a kvs)(he:JD X e g)(hf:JD X f gd)(hb:attributeBase (.Name x px) "get" X.env (eval (.Name x px) X.env)=eval (.Name x px) X.env:=by rfl)
  (hfew:((backTo cpos (starEach [e,f] X.env)).all (λx=>!x.1) && (backToKw cpos (keywordEach [] X.env)).all (λx=>x.1.isSome) && decide (([e,f]:BBC).length+([]:BBI).length+(if([]:BBI).isEmpty then 0 else 1)<30))=true:=by rfl)
  (hline:(apos.endLine == cpos.line)=true:=by rfl)(htr:backTo cpos (starEach [e,f] X.env)=[(false,eval e X.env),(false,eval f X.env)]:=by rfl)(hd:BBT x:=by decide):
  JD X (.Call (.Attribute (.Name x px) "get" apos) [e,f] [] cpos) (Jt kvs g gd):=
 ⟨λB=>(Lh hg hm hk (he.h B) (hf.h B) ⟨hb,hfew,hline,htr⟩ hd).imp λO H Q hh=>by
  obtain⟨S,F,d,S',R,hg',q⟩:=hh;obtain⟨⟨d1,S1⟩,h1,hg'⟩:=ah hg';obtain⟨⟨d2,S2⟩,h2,Mf⟩:=ah hg';clear hg';cases d1<;>try (cases Mf)
  rename_i z;cases d2<;>try (cases Mf)
  rename_i j;exact⟨S,F,.str z,_,R,h1,λv F1 H1 R1 st1 r1=>by cases r1;exact⟨_,F1,.int j,_,R1,h2,λv2 F2 H2 R2 st2 r2=>by cases r2;exact⟨z,j,rfl,rfl,q (.int _) F2 H2 R2 (st1.trans st2) (.int _)⟩⟩⟩⟩
def Cn{n:Bool}{Q:VK}(h:tD X.K B (qY n kvs g) O H Q):tD X.K B g O H λy H1=>∃z,y= .str z/\Q (.bl (n != (gw kvs z).isSome)) H1:=by
 obtain⟨S,F,d,S',R,hg',q⟩:=h;obtain⟨⟨d1,S1⟩,h1,hg'⟩:=ah hg';cases d1<;>try (cases hg')
 rename_i z;exact⟨S,F,.str z,_,R,h1,λv F1 H1 R1 st1 r1=>by cases r1;exact⟨z,rfl,q (.bl _) F1 H1 R1 st1 (.bl _)⟩⟩
def E8(hg:Gl X x)(hm:X.mg x=some (.ref a))(hk:KTab X.prog X.w X.K a kvs)(he:JD X e g)(hd:BBT x:=by decide)(hi:behindInMarks .In (.Name x px)=false:=by with_unfolding_all rfl):JD X (.Compare e [.In] [.Name x px] pos) (qY false kvs g):=
 ⟨λB=>(Uk (NX hg hm hk (he.h B) hd) hi).imp λO H Q h=>by simpa using Cn h⟩
def E9(hg:Gl X x)(hm:X.mg x=some (.ref a))(hk:KTab X.prog X.w X.K a kvs)(he:JD X e g)(hd:BBT x:=by decide)(hi:behindInMarks .NotIn (.Name x px)=false:=by with_unfolding_all rfl):JT X (.Compare e [.NotIn] [.Name x px] pos) (qB (qY true kvs g)):=
 ⟨λB=>(GF (E7 hg hm hk (he.h B) hd) hi).imp λO H Q hh=>by
  obtain⟨S,F,kk,S',R,hg',q⟩:=hh;have h:tD X.K B (qY true kvs g) O H (λv H'=>∃d,v= .bl d/\Q d H'):=⟨S,F,.bl kk,S',R,lB hg',λv F' H' R' st r=>⟨kk,iX r,q F' H' R' st⟩⟩
  simpa[tB] using Cn h⟩
end
def NY(K:AAD)(a:Addr)(zs:BBB):Prop:=∃(o:Obj)(its:AAL)(n:Nat),K.lookup a=some o/\o.cls= .type "tuple"/\o.data= .seq its.toArray n/\its.length<=1000/\Vals (zs.map V.str) its
def HF:BBB->BBG->Prop
 |[],[]=>True
 |z::r,v::vs=>(∃t,v= .str z t)/\HF r vs
 |_,_=>False
theorem Co:∀{zs:BBB}{vs:AAL},HF zs vs->Vals (zs.map V.str) vs
 |[],[],_=>.nil
 |z::r,v::vs,h=>.cons h.1 (Co h.2)
 |[],_::_,h=>h.elim
 |_::_,[],h=>h.elim
def Rp{zs:BBB}{its:AAL}{n:Nat}{od:BBN}{sl:Array (BBP)}(h:K.lookup a=some ⟨.type "tuple",od,.seq its.toArray n,sl⟩)(hl:its.length<=1000)(hs:HF zs its):NY K a zs:=
 ⟨_,its,n,h,rfl,rfl,hl,Co hs⟩
theorem Cp{F:Hp}:∀zs:BBB,bE F (zs.map V.str) (zs.map D.str)
 |[]=>.nil
 |z::zs=>.cons (.str z) (Cp zs)
theorem Fb:∀zs:BBB,gJ (zs.map D.str)=0
 |[]=>rfl
 |z::zs=>by show max (lU (.str z)) (gJ (zs.map D.str))=0;rw[Fb zs];rfl
def Ai(n:Bool)(zs:BBB)(g:GD):GD:=λS=>(g S).map λp=>(.bl (n != inD p.1 (zs.map D.str)),p.2)
section
variable {X:Cx}{e:Expr}{x:Str}{px pos:Pos}{g:GD}{a:Addr}{zs:BBB}
def Vv(I:Inv X pins O H s)(hk:NY X.K a zs)(hu:X.A.units+64<cLine){F:Hp}{d:D}{v:V}{u:Value}(sb:Sub F H)(r:Rep F v d)(rv:RelV v u):∃its:BBG,IsTup s.heap a its.toArray/\(∀y∈its,SeqAt.EqAt X.A.in1 s y u (Ho F d y))/\its.any (Ho F d)=inD d (zs.map D.str):=by
 obtain⟨o,its,n,h1,h2,h3,h4,h5⟩:=hk;obtain⟨k1,k2⟩:=vP I sb (A:=X.A.in1) r rv (Cp zs) h5 (by rw[Fb];show X.A.units+1+0<cLine;lia);exact⟨its,⟨o,I.uh a o h1,h2,n,h3⟩,k1,k2⟩
def Vw(hu:X.A.units+64<cLine)(hg:Gl X x)(hm:X.mg x=some (.ref a))(hk:NY X.K a zs)(he:PE X e (tD X.K B g))(hd:BBT x):
  PC X .In e (.Name x px) (tD X.K B (Ai false zs g)):=by
 intro pins s O H Q I h;obtain⟨S,F,d,S',R,hg',q⟩:=h;obtain⟨⟨d1,S1⟩,h1,hg'⟩:=aB hg';cases hg';refine cS (he pins s O H (λy H1=>∃F',Sub F' H1/\Rep F' y d1/\Q (.bl (false != inD d1 (zs.map D.str))) H1) I ⟨S,F,d1,_,R,h1,λv F1 H1 R1 st1 r1=>⟨F1,R1.sub,r1,q (.bl _) F1 H1 R1 st1 (.bl _)⟩⟩) λiv s1 hh=>?_;obtain⟨y,H1,I1,ry,F',sb,r',q'⟩:=hh;refine cS (mQ (v:=.ref a) hg hm rfl hd pins s1 O H1 (λv H2=>v= .ref a/\H2=H1) I1 ⟨rfl,rfl⟩) λu s2 hh=>?_;obtain⟨x',H2,I2,rx,ex,eH⟩:=hh;subst ex eH;obtain rfl:u=Value.ref a:=rx;obtain⟨its,p,k1,k2⟩:=Vv I2 hk hu sb r' ry;refine SeqAt.in_tupleAt (Ho F' d1) p (λy hy=>k1 y (by simpa using hy)) ⟨.bl _,_,I2,rfl,?_⟩;rw[show its.toArray.any (Ho F' d1)=its.any (Ho F' d1) by simp,k2]
 simpa using q'
def Y5{Q:Bool->Hp->Prop}(h:tQ X.K B (qB g) O H Q):tB (tD X.K B g) O H Q:=by
 obtain⟨S,F,kk,S',R,hg',q⟩:=h;exact⟨S,F,.bl kk,S',R,lB hg',λv F' H' R' st r=>⟨kk,iX r,q F' H' R' st⟩⟩
def xx(hu:X.A.units+64<cLine)(hg:Gl X x)(hm:X.mg x=some (.ref a))(hk:NY X.K a zs)(he:JD X e g)(hd:BBT x:=by decide)(hi:behindInMarks .In (.Name x px)=false:=by with_unfolding_all rfl):JT X (.Compare e [.In] [.Name x px] pos) (qB (Ai false zs g)):=
 ⟨λB=>(GF (Vw hu hg hm hk (he.h B) hd) hi).imp λO H Q h=>Y5 h⟩
end
end L2
end
section
namespace HT
open PySem PySem.Spec PyProof.Rows
end HT
namespace L2
open PySem PySem.Spec PyProof.Rows
noncomputable def uq:BBD->Int
 |[]=>0
 |[a]=>a
 |a::b::r=>max a (uq (b::r))
theorem Rq:∀{ns:BBD}{M:Int},M∈ns->(∀a∈ns,a<=M)->uq ns=M
 |[],_,h,_=>by cases h
 |[a],M,h,_=>by rw[aaK.mp h];rfl
 |a::b::r,M,h,k=>by
  have hb:∀x∈b::r,x<=uq (b::r):=by
   have:∀(l:BBD),∀x∈l,x<=uq l:=by
    intro l
    induction l with
    |nil=>intro x hx;cases hx
    |cons a l ih=>
     intro x hx;cases l with
     |nil=>rw[aaK.mp hx];exact Int.le_refl _
     |cons b r=>
      show x<=max a (uq (b::r));rcases aat.mp hx with rfl|q
      .lia
      .have:=ih x q;lia
   exact this _
  have hm:∀(l:BBD),l≠[]->uq l∈l:=by
   intro l
   induction l with
   |nil=>intro z;exact absurd rfl z
   |cons a l ih=>
    intro _;cases l with
    |nil=>exact aaK.mpr rfl
    |cons b r=>
     have:=ih (by simp);show max a (uq (b::r))∈_;by_cases c:a<=uq (b::r)
     .rw[Int.max_eq_right c];exact aar _ this
     .rw[Int.max_eq_left (by lia)];exact aav
  have h1:=hm (a::b::r) (by simp);have h2:=k _ h1;show max a (uq (b::r))=M;have h3:max a (uq (b::r))<=M:=h2;rcases aat.mp h with rfl|q
  .lia
  .have:=hb M q;lia
def Y6:List D->Option U
 |[.lst ds]=>(ou ds).bind λbs=>if bs=[] then none else some (.t (.int (uq bs)))
 |_=>none
@[simp] theorem aaE(ds:List D):Y6 [.lst ds]=(ou ds).bind λbs=>if bs=[] then none else AAC (uq bs):=rfl
end L2
namespace HT
open PySem PySem.Spec PyProof.Rows
end HT
namespace L2
open PySem PySem.Spec PyProof.Rows
noncomputable def N1:List D->Option U
 |[.bl a,.bl b]=>some (.t (.bl (a == b)))
 |_=>none
def N2{X:Cx}:Bv X (compareOp .Is) N1:=by
 intro pins s O H x y v u Q I rx ry ⟨F,ds,w,sb,rs,hw,q⟩;obtain⟨d,e,rfl,r1,r2⟩:=qR rs;cases d<;>cases e<;>try (cases hw;done)
 cases hw;rw[iX r1]at rx;rw[iX r2]at ry;cases rx;cases ry;exact is_bool ⟨.bl _,H,I,rfl,q _ F H (fW.refl ..) sb (.bl _)⟩
@[simp] theorem aaF(a b:Bool):N1 [.bl a,.bl b]=AAA (.bl (a == b)):=rfl
end L2
end
section
namespace L2
open PySem PySem.Spec PyProof.Rows PySem.Calls
end L2
end
section
namespace L2
open PySem PySem.Spec PyProof.Rows
end L2
end
section
namespace L2
open PySem PySem.Spec PyProof.Rows PySem.Calls
variable {ds:List D}{u:U}
section
variable {X:Cx}{o e:Expr}{m:Str}{apos cpos:Pos}{id:String}{go ge:GD}{f:List D->Option U}
def iQ(hc:fU X (.builtin id) (rP f))(slot:Slot "str" m id)(ty:typeOf (.builtin id)=pure (.type "method_descriptor"))(hstr:∀d1 d2 u,f [d1,d2]=some u->∃z,d1= .str z)(ho:JD X o go)(he:JD X e ge)
  (hb:attributeBase o m X.env (eval o X.env)=eval o X.env:=by rfl)
  (hfew:((backTo cpos (starEach [e] X.env)).all (λx=>!x.1) && (backToKw cpos (keywordEach [] X.env)).all (λx=>x.1.isSome) && decide (([e]:BBC).length+([]:BBI).length+(if([]:BBI).isEmpty then 0 else 1)<30))=true:=by rfl)
  (hline:(apos.endLine == cpos.line)=true:=by rfl)(htr:backTo cpos (starEach [e] X.env)=[(false,eval e X.env)]:=by rfl):
  JE X (.Call (.Attribute o m apos) [e] [] cpos) (eP f (aa go (aa ge ak))):=⟨λB=>by
 rintro pins s O H Q I ⟨S,F,u,S',R,hg,q⟩;obtain⟨⟨dl,S1⟩,h1,hg⟩:=ah hg;obtain⟨w,hf,hg⟩:=aB hg;cases hg;obtain⟨⟨d1,Sa⟩,k1,h1⟩:=ah h1;obtain⟨⟨dr,Sb⟩,kk,h1⟩:=aB h1;cases h1;obtain⟨⟨d2,Sc⟩,k2,h2⟩:=ah kk;clear kk;obtain⟨⟨dn,Sd⟩,k3,h2⟩:=aB h2;cases k3;cases h2;obtain⟨z,rfl⟩:=hstr _ _ _ hf;refine agu hb hfew hline PySem.F.plainAttrs_str slot ty (cS (ho.h B pins s O H (λv H1=>∃F1,Rel X.K B Sa O F1 H1/\Step S Sa O F H F1 H1/\Rep F1 v (.str z)) I ⟨S,F,_,Sa,R,k1,λv F1 H1 R1 st1 r1=>⟨F1,R1,st1,r1⟩⟩) ?_);rintro ov s1 ⟨x,H1,I1,rx,F1,R1,st1,r1⟩;cases r1;obtain⟨t,rfl⟩:∃t,ov= .str z t:=rx;refine⟨ae7 _ _ _,(λ_ e=>nomatch e),?_⟩;rw[htr];refine aer rfl (afj (ab9 (cS (he.h B pins s1 O H1 (λv H2=>∃F2,Rel X.K B Sc O F2 H2/\Step Sa Sc O F1 H1 F2 H2/\Rep F2 v d2) I1 ⟨Sa,F1,d2,Sc,R1,k2,λv F2 H2 R2 st2 r2=>⟨F2,R2,st2,r2⟩⟩) ?_)));rintro iv s2 ⟨y,H2,I2,ry,F2,R2,st2,r2⟩;refine aeB ?_;exact hc pins s2 O H2 [.str z,y] _ Q I2 (.cons ⟨t,rfl⟩ (.cons ry .nil)) ⟨F2,[.str z,d2],u,R2.sub,.cons (.str z) (.cons r2 .nil),hf,λv F3 H3 n s3 r3=>q v F3 H3 (R2.new n s3) ((st1.trans st2).trans n.step) (r3.Nf R2 (st1.trans st2))⟩⟩
end
theorem Cq:∀{zs:BBB}{its:AAL},Vals (zs.map V.str) its->∃l:List (Str×Tok),its=strValues l/\l.map (·.1)=zs
 |[],_,h=>by cases h;exact⟨[],rfl,rfl⟩
 |z::zs,_,h=>by
  cases h with
  |cons r rs=>
   obtain⟨t,rfl⟩:=r;obtain⟨l,rfl,e⟩:=Cq rs;exact⟨(z,t)::l,rfl,by rw[abR,e]⟩
theorem Cr:∀(l:List (Str×Tok)),Vals ((l.map (·.1)).map V.str) (strValues l)
 |[]=>.nil
 |p::l=>.cons ⟨p.2,rfl⟩ (Cr l)
theorem Cs(F:Hp):∀zs:BBB,bE F (zs.map V.str) (zs.map D.str)
 |[]=>.nil
 |z::zs=>.cons (.str z) (Cs F zs)
def ow:List D->Option U
 |[.str sep,.lst ds]=>(qX ds).bind λzs=>if JoinOk sep zs=true then some (.t (.str (Txt.join sep zs))) else none
 |_=>none
def Fc(h:ow ds=some u):∃sep l zs,ds=[.str sep,.lst l]/\qX l=some zs/\JoinOk sep zs=true/\u= .t (.str (Txt.join sep zs)):=by
 unfold ow at h;split at h
 .obtain⟨zs,h1,h2⟩:=ah h;obtain⟨h3,rfl⟩:=cj h2;exact⟨_,_,zs,rfl,h1,h3,rfl⟩
 .cases h
section
variable {X:Cx}
def pG:fU X (.builtin "str.join") (rP ow):=by
 intro pins s O H xs us Q I r ⟨F,ds,w,sb,rs,hw,q⟩;obtain⟨sep,l,zs,rfl,h1,h2,rfl⟩:=Fc hw;cases rs with
 |cons r1 rs=>
  cases rs with
  |cons r2 rs=>
   cases rs;cases r1;obtain⟨a,vs,rfl,fa,ha,vG⟩:=sb.jo r2;obtain rfl:=Af vG h1;obtain⟨t,u2,rfl,hu2⟩:∃t u2,us=[.str sep t,u2]/\RelV (.ref a) u2:=by
    cases r with
    |cons a1 r=>cases r with|cons a2 r=>cases r;obtain⟨t,rfl⟩:=a1;exact⟨t,_,rfl,a2⟩
   obtain rfl:u2= .ref a:=hu2;obtain⟨its,rv,pl,hz⟩:=I.list (.inl ha);obtain⟨l',rfl,hl'⟩:=Cq rv;exact SC.join pl.isList hl' h2 λt' k=>⟨.str _,H,I.tok _,⟨t',rfl⟩,q _ F H (fW.refl ..) sb (.str _)⟩
noncomputable def iZ:List D->Option U
 |[.str x,.str y]=>if(y.length == 0)=false/\x.length<=100000/\(Txt.split x y).length<=100000 then some (.m (.lst ((Txt.split x y).map D.str))) else none
 |_=>none
def Ct(h:iZ ds=some u):∃x y,ds=[.str x,.str y]/\(y.length == 0)=false/\x.length<=100000/\(Txt.split x y).length<=100000/\u= .m (.lst ((Txt.split x y).map D.str)):=by
 unfold iZ at h;split at h
 .obtain⟨h3,rfl⟩:=cj h;exact⟨_,_,rfl,h3.1,h3.2.1,h3.2.2,rfl⟩
 .cases h
def Fd{F:Hp}{xs:List V}{us:AAL}{x y:Str}(rs:bE F xs [.str x,.str y])(r:Vals xs us):∃t u,us=[.str x t,.str y u]:=by
 cases rs with
 |cons r1 rs=>
  cases rs with
  |cons r2 rs=>
   cases rs;cases r1;cases r2;cases r with
   |cons a1 r=>cases r with|cons a2 r=>cases r;obtain⟨t,rfl⟩:=a1;obtain⟨u,rfl⟩:=a2;exact⟨t,u,rfl⟩
def kC:fU X (.builtin "str.split") (rP iZ):=by
 intro pins s O H xs us Q I r ⟨F,ds,w,sb,rs,hw,q⟩;obtain⟨x,y,rfl,hy,hx,hn,rfl⟩:=Ct hw;obtain⟨t,u,rfl⟩:=Fd rs r;have line:∀{n:Nat},n<=100000->n<=sizeLine:=λh=>aaC h (by decide);have fin:∀(l:List (Str×Tok))(k:Nat),l.map (·.1)=Txt.split x y->EP X pins O Q (.ref s.heap.objs.size) {s with toks:=k,heap:=s.heap.push {cls:=.type "list",data:=.seq (strValues l).toArray}}:=λl k e=>by
  have hp:=I.hok.fresh (aaq s.heap.objs.size);have hl:l.length=(Txt.split x y).length:=by rw[<-e,aaw]
  refine⟨.ref s.heap.objs.size,_,I.laid (t':=k) (o:=.lst ((l.map (·.1)).map V.str)) (λb ob q=>aam _ q) (aaq _) ⟨by rw[aaw,aaw];exact line (by lia),strValues l,0,Cr l,aas _ rfl⟩,rfl,?_⟩;refine q _ F _ (fW.obj hp _) (sb.same (fW.obj (F:=F) hp _).same) ⟨_,rfl,hp,sb.fresh hp,_,aZ,?_⟩;rw[e];exact Cs F _
 cases c1:(decide (x.length<y.length) || decide (Builtin.Str.strKind x<Builtin.Str.strKind y)) with
 |true=>
  have e:Txt.split x y=[x]:=by unfold Txt.split;rw[if_pos c1]
  exact aeS aci (ae7 _ _ _) afN (afG _ _) (meets_str_split_cannot_occur x y t u c1) (fin [(x,t)] s.toks e.symm)
 |false=>
  cases c2:(Builtin.Str.occurrences x y 0 x.length (x.length+1)).isEmpty with
  |true=>
   have e:Txt.split x y=[x]:=by unfold Txt.split;rw[if_neg (by rw[c1];decide),if_pos c2]
   exact aeS aci (ae7 _ _ _) afN (afG _ _) (meets_str_split_not_found x y t u c1 hy c2) (fin [(x,t)] s.toks e.symm)
  |false=>
   have e:Txt.split x y=Builtin.Str.partsBetween x (Builtin.Str.occurrences x y 0 x.length (x.length+1)) y.length:=by unfold Txt.split;rw[if_neg (by rw[c1];decide),if_neg (by rw[c2];decide)]
   refine aeS aci (ae7 _ _ _) afN (afG _ _) (meets_str_split_sep x y t u c1 hy c2 (line hx) (by rw[<-e];exact line hn)) ?_;rw[strsFrom_eq];exact fin (numbered s.toks _) _ ((numbered_texts _ _).trans e.symm)
noncomputable def Fe:List D->Option U
 |[.str x,.str y]=>if(y.length == 0)=false/\x.length<=100000 then some (.t (.tup [.str (Txt.partition x y).1,.str (Txt.partition x y).2.1,.str (Txt.partition x y).2.2])) else none
 |_=>none
def Ff(h:Fe ds=some u):∃x y,ds=[.str x,.str y]/\(y.length == 0)=false/\x.length<=100000/\u= .t (.tup [.str (Txt.partition x y).1,.str (Txt.partition x y).2.1,.str (Txt.partition x y).2.2]):=by
 unfold Fe at h;split at h
 .obtain⟨h3,rfl⟩:=cj h;exact⟨_,_,rfl,h3.1,h3.2,rfl⟩
 .cases h
def HG:fU X (.builtin "str.partition") (rP Fe):=by
 intro pins s O H xs us Q I r ⟨F,ds,w,sb,rs,hw,q⟩;obtain⟨x,y,rfl,hy,hx,rfl⟩:=Ff hw;obtain⟨t,u,rfl⟩:=Fd rs r;have hp:=I.hok.fresh (aaq s.heap.objs.size);have fin:∀(a b c:Str)(ta tb tc:Tok)(k:Nat),Txt.partition x y=(a,b,c)->EP X pins O Q (.ref s.heap.objs.size) {s with toks:=k,heap:=s.heap.push {cls:=.type "tuple",data:=.seq [.str a ta,.str b tb,.str c tc].toArray}}:=λa b c ta tb tc k e=>by
  rw[e]at q;exact⟨.ref s.heap.objs.size,_,I.laid (t':=k) (o:=.tup [.str a,.str b,.str c]) (λb ob q=>aam _ q) (aaq _) ⟨by show 3<=sizeLine;decide,[.str a ta,.str b tb,.str c tc],.cons ⟨ta,rfl⟩ (.cons ⟨tb,rfl⟩ (.cons ⟨tc,rfl⟩ .nil)),IsTup.new _ _⟩,rfl,
   q _ _ _ (fW.root sb hp _) (sb.wZ hp) (.tup aZ (.cons (.str a) (.cons (.str b) (.cons (.str c) .nil))))⟩
 refine aeS agr (ae7 _ _ _) PySem.F.entry_str_partition (PySem.F.args_str_partition_2 _ _) (meets_str_partition x y t u hy (aaC hx (by decide))) ?_;cases c:Builtin.Str.occurrences x y 0 x.length 1 with
 |nil=>exact fin x Str.empty Str.empty t s.toks s.toks (s.toks+1) (by unfold Txt.partition;rw[c])
 |cons i r=>exact fin _ _ _ s.toks u (s.toks+1) (s.toks+1+1) (by unfold Txt.partition;rw[c])
noncomputable def N3:List D->Option U
 |[.int a]=>if a.natAbs<10 ^ 30 then some (.t (.str (toString a))) else none
 |_=>none
def N4(h:N3 ds=some u):∃a,ds=[.int a]/\a.natAbs<10 ^ 30/\u= .t (.str (toString a)):=by
 unfold N3 at h;split at h
 .obtain⟨h3,rfl⟩:=cj h;exact⟨_,rfl,h3,rfl⟩
 .cases h
def HH:fU X (.type "str") (rP N3):=by
 intro pins s O H xs us Q I r ⟨F,ds,w,sb,rs,hw,q⟩;obtain⟨a,rfl,ha,rfl⟩:=N4 hw;obtain⟨t,rfl⟩:∃t,us=[.int a t]:=by
  cases rs with
  |cons r1 rs=>cases rs;cases r1;cases r with|cons a1 r=>cases r;obtain⟨t,rfl⟩:=a1;exact⟨t,rfl⟩
 have hl:a.natAbs.log2<1920:=by
  by_cases hz:a.natAbs=0
  .rw[hz];decide
  .exact(Nat.log2_lt hz).mpr (Nat.lt_trans ha (aax (show(10:Nat) ^ 30<2 ^ 100 by decide) (Nat.pow_le_pow_right (by decide) (by decide))))
 exact P.str_of_int hl ⟨.str _,H,I.tok _,⟨_,rfl⟩,q _ F H (fW.refl ..) sb (.str _)⟩
end
def vX(d1 d2:D)(u:U)(h:ow [d1,d2]=some u):∃z,d1= .str z:=by obtain⟨sep,l,zs,e,_⟩:=Fc h;cases e;exact⟨_,rfl⟩
def oz(d1 d2:D)(u:U)(h:iZ [d1,d2]=some u):∃z,d1= .str z:=by obtain⟨x,y,e,_⟩:=Ct h;cases e;exact⟨_,rfl⟩
def N5(d1 d2:D)(u:U)(h:Fe [d1,d2]=some u):∃z,d1= .str z:=by obtain⟨x,y,e,_⟩:=Ff h;cases e;exact⟨_,rfl⟩
noncomputable def wN:GS:=λ_=>none
def jq{X:Cx}{st:Stmt}:JS X st wN:=⟨λB pins s O H Q I ⟨_,_,_,_,hg,_⟩=>by cases hg⟩
end L2
end
section
namespace L2
open PySem PySem.Spec PyProof.Rows
variable {K:AAD}{B:Base}{i:Nat}{q:GT}{g:GD}{O:St}{H:Hp}{Q:VK}{S S':SS}{kvs:List (Str×D)}{u:U}{us:List U}{vs:List V}{pl:Sem Bool}
def xy(i:Nat)(q:GT)(g:GD):GE:=λS=>match S[i]? with
 |some (some (.m (.lst ds)))=>if ds.length<=100000 then(cM [] q g ds S []).map λr=>(.m (.lst r.1),r.2) else none
 |some (some (.b (.lst ds)))=>if ds.length<=100000 then(cM [] q g ds S []).map λr=>(.m (.lst r.1),r.2) else none
 |_=>none
def Fg{Sf:SS}{F:Hp}{ds res:List D}{a:Addr}(R:Rel K B S O F H)(hi:O[i]? =some (some (.ref a)))(at':∀F' H',Rel K B S O F' H'->∃vs,H' a=some (.lst vs)/\bE F' vs ds)(hlen:ds.length<=100000)(h2:cM [] q g ds S []=some (res,Sf))
  (k:∀v F' H',Rel K B Sf O F' H'->Step S Sf O F H F' H'->gD K B Sf O H F' H' v (.m (.lst res))->Q v H'):W0 (MC K (Kp i)) [] (λO H Q=>∃B,tQ K B q O H Q) (λO H Q=>∃B,tD K B g O H Q) O H Q:=by
 obtain⟨x,_⟩:∃x:Str,True:=⟨"",trivial⟩
 obtain⟨WZ,ha0,_⟩:=at' F H R;refine⟨.ref a,hi,a,rfl,⟨WZ,oW.of ha0⟩,?_⟩;refine⟨λj m ys H'=>∃F2 acc,Rel K B S O F2 H'/\Step S S O F H F2 H'/\bE F2 ys acc/\acc.length<=j/\j<=ds.length/\m=ds.length-j/\cM [] q g (ds.drop j) S acc=some (res,Sf),
  ⟨_,F,[],R,Step.refl ..,.nil,aaq _,abX _,rfl,h2⟩,?_⟩
 rintro j m ys H' ⟨F2,acc,R2,st2,ry,hac,hl,rfl,fC⟩;refine⟨by rw[ry.length];exact agk (aaC hac (aaC hl hlen)) (by decide),?_⟩;obtain⟨vs,ha,rs⟩:=at' F2 H' R2;by_cases hlt:j<ds.length
 .have hd:ds[j]? =some ds[j]:=aaz hlt;obtain⟨xv,hx,rx⟩:=rs.get hd;rw[adN hlt]at fC;refine .inr ⟨⟨vs,xv,oW.of ha,hx⟩,λxv' H3 y=>?_⟩;obtain⟨rfl,y2⟩:=y;have e0:=y2 vs (oW.of ha);rw[hx]at e0;cases e0;obtain⟨us,e1,fC⟩:=ah fC;cases e1;split at fC
  .rename_i hnd;obtain⟨ws,e2,fC⟩:=ah fC;cases e2;obtain⟨⟨bk,T1⟩,e3,fC⟩:=ah fC;have rr:Paired (λv u=>gD K B S O H3 F2 H3 v u) [xv] [.t ds[j]]:=.cons rx .nil;have er:=EN R2 ds[j] (us:=[]) (ws:=[]) rfl;have ar:=pC R2 rr er;have nd:=gI R2 rr er hnd.1 hnd.2;have R3:=tM (n:=1) R2.sub ar nd (List.replicate 1 x) (by simp);have es:start (List.replicate 1 x) [xv]=some xv::ki [] O:=rfl;have eS:[U.t ds[j]].map some++List.replicate (1 - [U.t ds[j]].length) none=[some (U.t ds[j])]:=by simp
   rw[es,eS]at R3;have back:∀(T2:SS)(F3 H4:Hp)(outs:List MO)(S3:SS),Rel K ⟨lent [xv] [U.t ds[j]],F2,H3⟩ T2 (some xv::ki [] O) F3 H4->b8 [U.t ds[j]] T2=some outs->wb [] outs S=some S3->S3=S/\Rel K B S3 O F3 H4/\Step S S3 O F H F3 H4/\(∀b o,F2 b=some o->F3 b=some o):=λT2 F3 H4 outs S3 RT ho hw=>by
    have po:=post_of ar T2 _ F3 H4 outs RT ho;obtain⟨Ra,KZ,_⟩:=iY (S0:=S) (F0:=F2) (H0:=H3) R2 (Step.refl ..) rr er (show wb [U.t ds[j]] outs S=some S3 by cases outs<;>exact hw) hnd.1 po;refine⟨?_,Ra,st2.trans KZ,KZ.ext.le⟩;cases outs with
    |nil=>cases hw;rfl
    |cons _ _=>cases hw
   refine⟨_,_,F2,bk,T1,R3,e3,λF3 H4 YI acH=>?_⟩;cases bk with
   |true=>
    obtain⟨⟨yd,T2⟩,e4,fC⟩:=ah (show(g T1).bind _=_ from fC);obtain⟨outs,e5,fC⟩:=ah fC;obtain⟨S3,e6,Vx⟩:=ah fC;refine G5 ⟨_,T1,F3,yd,T2,YI,e4,λyv F4 H5 RT2 acJ Vb=>?_⟩;obtain⟨rfl,Ra,KZ,QT⟩:=back T2 F4 H5 outs S3 RT2 e5 e6;exact⟨ds.length-(j+1),by lia,F4,acc++[yd],Ra,KZ,(ry.le QT).append (.cons Vb .nil),by simp;lia,hlt,rfl,Vx⟩
   |false=>
    obtain⟨outs,e5,fC⟩:=ah (show(b8 [U.t ds[j]] T1).bind _=_ from fC);obtain⟨S3,e6,Vx⟩:=ah fC;obtain⟨rfl,Ra,KZ,QT⟩:=back T1 F3 H4 outs S3 YI e5 e6;exact G4 ⟨ds.length-(j+1),by lia,F3,acc,Ra,KZ,ry.le QT,by lia,hlt,rfl,Vx⟩
  .cases fC
 .have e:j=ds.length:=by lia
  subst e;rw[afm]at fC;cases fC;refine .inl ⟨⟨vs,oW.of ha,by rw[rs.length];exact aaq _⟩,λp hp=>?_⟩;have n:=fW.obj (F:=F2) hp (.lst ys);refine k (.ref p) F2 _ (R2.new n (R2.sub.same n.same)) (st2.trans n.step) ⟨p,rfl,none_of st2.ext.there hp,R2.sub.fresh hp,⟨ys,aZ,ry⟩,λm=>?_,none_of R2.ext.there hp⟩;obtain⟨o,ho⟩:=R2.has m;rw[hp]at ho;cases ho
def Lj(h:tE K B (xy i q g) O H Q):W0 (MC K (Kp i)) [] (λO H Q=>∃B,tQ K B q O H Q) (λO H Q=>∃B,tD K B g O H Q) O H Q:=by
 obtain⟨S,F,u,S',R,hg,k⟩:=h;unfold xy at hg;split at hg
 .rename_i ds e;split at hg
  .rename_i hlen;obtain⟨⟨res,Sf⟩,h2,hg⟩:=aB hg;cases hg;obtain⟨v,e1,a,rfl,_⟩:=R.rep i _ e;exact Fg R e1 (λF' H' R'=>by
    obtain⟨v',e2,a',rfl,_,r⟩:=R'.rep i _ e;rw[e1]at e2;cases e2;exact r) hlen h2 k
  .cases hg
 .rename_i ds e;split at hg
  .rename_i hlen;obtain⟨⟨res,Sf⟩,h2,hg⟩:=aB hg;cases hg;obtain⟨v,e1,a,rfl,_⟩:=R.rep i _ e;exact Fg R e1 (λF' H' R'=>by
    obtain⟨v',e2,a',rfl,_,r⟩:=R'.rep i _ e;rw[e1]at e2;cases e2;exact r) hlen h2 k
  .cases hg
 .cases hg
def Aj{X:Cx}{elt:Expr}{ifs:BBC}{x y:Str}{px py pos:Pos}{scope:Scope}{cl:List (Str×Addr)}(i:Nat)(T:fK X x [] [] scope cl)(hc:X.calm=true)
  (ht:∀C s H fp,W5 (d9 X [x] scope cl C s H fp) ifs q)(he:∀C s H fp,JD (d9 X [x] scope cl C s H fp) elt g)
  (hN:X.N[i]? =some y:=by rfl)(hv:wR X.env.scope y:=by trivial)(hd:BBT y:=by decide)(hcd:BBU y:=by decide)
  (hs:∀x,foldedSetIterable (.Name y py) X.env x=pure x:=by intro _;rfl):JE X (.ListComp elt [⟨.Name x px,.Name y py,ifs,0⟩] scope pos) (xy i q g):=⟨λB=>by
 exact(EF (tc:=λO H Q=>∃B,tQ X.K B q O H Q) (te:=λO H Q=>∃B,tD X.K B g O H Q) T hc (IF (dG hN hv hd hcd)) (λC s H fp pins s' O H' Q I ⟨B',z⟩=>(ht C s H fp).h B' pins s' O H' Q I z) (λC s H fp pins s' O H' Q I ⟨B',z⟩=>(he C s H fp).h B' pins s' O H' Q I z) hs).imp λO H Q h=>Lj h⟩
noncomputable def vY(C:Addr)(S:SS)(i:Nat):Option (List (Str×D)):=match S[i]? with
 |some (some (.m (.ins C' kvs)))=>if C'=C then some kvs else none
 |some (some (.b (.ins C' kvs)))=>if C'=C then some kvs else none
 |_=>none
def jI{C:Addr}(h:vY C S i=some kvs):∃u,S[i]? =some (some u)/\fE u=true/\Tq u=some (.ins C kvs):=by
 unfold vY at h;split at h
 .rename_i C' kvs' e;obtain⟨hc,hk⟩:=fc h;subst hc;cases hk;exact⟨_,e,rfl,rfl⟩
 .rename_i C' kvs' e;obtain⟨hc,hk⟩:=fc h;subst hc;cases hk;exact⟨_,e,rfl,rfl⟩
 .cases h
theorem Ak{F:Hp}{f:Str}{d:D}:∀{ws:List (Str×V)}{kvs:List (Str×D)},Paired (dP F) ws kvs->kvs.lookup f=some d->∃v,ws.lookup f=some v/\Rep F v d
 |_,_,.nil,h=>by cases h
 |_,_,@Paired.cons _ _ _ (k,v) (k',d') ws kvs r rs,h=>by
  obtain⟨e,r⟩:=r;have e:k=k':=e;subst e;rw[aeI]at h ⊢;split at h
  .rename_i q;cases h;exact⟨v,rfl,r⟩
  .rename_i q;exact Ak rs h
theorem vZ{F:Hp}{f:Str}:∀{ws:List (Str×V)}{kvs:List (Str×D)},Paired (dP F) ws kvs->kvs.lookup f=none->ws.lookup f=none
 |_,_,.nil,h=>rfl
 |_,_,@Paired.cons _ _ _ (k,v) (k',d') ws kvs r rs,h=>by
  obtain⟨e,r⟩:=r;have e:k=k':=e;subst e;rw[aeI]at h ⊢;split at h
  .cases h
  .rename_i q;exact vZ rs h
noncomputable def Cu(f:Str)(d:D):List (Str×D)->List (Str×D)
 |[]=>[(f,d)]
 |(g,x)::r=>if g=f then(g,d)::r else(g,x)::Cu f d r
theorem Cv{F:Hp}{f:Str}{v:V}{d:D}(r:Rep F v d):∀{ws:List (Str×V)}{kvs:List (Str×D)},Paired (dP F) ws kvs->Paired (dP F) (mH f v ws) (Cu f d kvs)
 |_,_,.nil=>.cons ⟨rfl,r⟩ .nil
 |_,_,@Paired.cons _ _ _ (k,v') (k',d') ws kvs q qs=>by
  obtain⟨e,q⟩:=q;have e:k=k':=e;subst e;unfold mH Cu;split
  .exact .cons ⟨rfl,r⟩ qs
  .exact .cons ⟨rfl,q⟩ (Cv r qs)
def tW{F:Hp}{C:Addr}(R:Rel K B S O F H)(hS:S[i]? =some (some u))(hm:fE u=true)(hi:Tq u=some (.ins C kvs)):∃a ws dx,O[i]? =some (some (.ref a))/\H a=some (.ins C dx ws)/\Paired (dP F) ws kvs:=by
 obtain⟨v,e,r⟩:=R.rep i u hS;obtain⟨a,o,rfl,_,e2,h⟩:=r.dw hm;rw[hi]at e2;cases e2;obtain⟨ws,⟨dx,h1⟩,h2⟩:=h;exact⟨a,ws,dx,e,h1,h2⟩
def pH(C:Addr)(i:Nat)(f:Str):GD:=λS=>(vY C S i).bind λkvs=>(kvs.lookup f).map λd=>(d,S)
def Fi(C:Addr)(i:Nat)(f:Str)(g:GD):GS:=λS=>(g S).bind λp=>(vY C p.2 i).bind λkvs=>if kvs.length<900 then(BF p.2 i λ_=>some (.cD,.ins C (Cu f p.1 kvs))).map λz=>.nx z.2 else none
def yx(op:Int->Int->Int)(C:Addr)(i:Nat)(f:Str)(g:GD):GS:=λS=>(vY C S i).bind λY7=>match Y7.lookup f with
 |some (.int n)=>(g S).bind λp=>match p.1 with
  |.int m=>(vY C p.2 i).bind λkvs=>if kvs.length<900 then(BF p.2 i λ_=>some (.cD,.ins C (Cu f (.int (op n m)) kvs))).map λz=>.nx z.2 else none
  |_=>none
 |_=>none
noncomputable def Al(i:Nat)(gu:GU):GU:=λS=>(gu S).map λp=>(.v i::p.1,p.2)
def fh(C:Addr)(m:Str)(i:Nat)(f:FM)(gu:GU):GE:=λS=>(vY C S i).bind λkvs=>if kvs.lookup m=none then aO f (Al i gu) S else none
def Cw(C:Addr)(f:FM)(gu:GU):GE:=λS=>(gu S).bind λp=>if slotsOf p.1=[]/\cu p.1=0 then(bT p.2 p.1).bind λus=>(f (.b (.ins C [])::us)).bind λr=>match r with
 |(.t .cD,[o])=>some (.m o,p.2)
 |_=>none else none
section
variable {X:Cx}{C:Addr}{e value:Expr}{es:BBC}{gu:GU}{x y m:Str}{px p pos pos' apos tpos:Pos}{f:Str}{fm:FM}{fa:Addr}{fd:FuncData}{ps:BBB}{k n i:Nat}{g:GD}
def kN(i:Nat)(c:BC X.K C)(na:dQ X.K C f)(hN:X.N[i]? =some x:=by rfl)(hv:wR X.env.scope x:=by trivial)
  (hd:BBT x:=by decide)(hcd:BBU x:=by decide)(hb:attributeBase (.Name x px) f X.env (eval (.Name x px) X.env)=eval (.Name x px) X.env:=by rfl):JD X (.Attribute (.Name x px) f pos) (pH C i f):=
 ⟨λB=>(UJ (dG hN hv hd hcd) hb).imp λO H Q hh=>by
 obtain⟨S,F,d,S',R,hg,q⟩:=hh;obtain⟨kvs,h1,hg⟩:=ah hg;obtain⟨d',h2,hg⟩:=aB hg;cases hg;obtain⟨u,hS,hm,hi⟩:=jI h1;obtain⟨a,ws,dx,e1,e2,e3⟩:=tW R hS hm hi;obtain⟨v,l1,r1⟩:=Ak e3 h2;exact⟨.ref a,e1,a,C,dx,ws,v,rfl,e2,c,na,l1,q v F H R (Step.refl ..) r1⟩⟩
def Cy{F:Hp}{dd:D}{d:D}{v:V}(R:Rel X.K B S O F H)(h1:vY C S i=some kvs)(h3:BF S i (λ_=>some (.cD,.ins C (Cu f d kvs)))=some (dd,S'))(rv:Rep F v d):
  ∃a ws dx,O[i]? =some (some (.ref a))/\H a=some (.ins C dx ws)/\ws.length=kvs.length/\Rel X.K B S' O F (upd H a (.ins C dx (mH f v ws)))/\Step S S' O F H F (upd H a (.ins C dx (mH f v ws))):=by
 obtain⟨u0,K3,hm0,hi0⟩:=jI h1;obtain⟨a,ws,dx,e1,e2,e3⟩:=tW R K3 hm0 hi0;obtain⟨u,u',o,o',hS,Hj,hio,hf,PD,rfl⟩:=tH h3;cases hf;obtain⟨R3,st3⟩:=R.write (ho:=.ins C dx (mH f v ws)) hS PD e1 ⟨_,⟨dx,aZ⟩,Cv rv e3⟩;exact⟨a,ws,dx,e1,e2,cL e3,R3,st3⟩
def Dm(i:Nat)(c:BC X.K C)(na:dQ X.K C f)(hval:JD X value g)(hN:X.N[i]? =some x:=by rfl)(hv:wR X.env.scope x:=by trivial)
  (hd:BBT x:=by decide)(hcd:BBU x:=by decide)(hs:swapsWith value (some (.Attribute (.Name x px) f pos')) pos.line X.env=pure false:=by rfl):
  JS X (.Assign [.Attribute (.Name x px) f pos'] value pos) (Fi C i f g):=⟨λB=>(UK (dG hN hv hd hcd) (hval.h B) hs).imp λD O H hh=>by
 obtain⟨S,F,o,R,hg,q⟩:=hh;obtain⟨⟨d,S1⟩,h1,hg⟩:=ah hg;obtain⟨kvs,h2,hg⟩:=ah hg;obtain⟨hl,hg⟩:=fc hg;obtain⟨⟨dd,S2⟩,h3,hg⟩:=aB hg;subst hg;refine⟨S,F,d,S1,R,h1,λv F1 H1 R1 st1 r1=>?_⟩;obtain⟨a,ws,dx,e1,e2,e3,R3,st3⟩:=Cy R1 h2 h3 r1;exact⟨.ref a,e1,a,C,dx,ws,rfl,e2,c,na,by rw[e3];lia,q O F1 _ R3 st1.ext.le⟩⟩
def v5(i:Nat){op:Operator}{fo:Int->Int->Int}(c:BC X.K C)(na:dQ X.K C f)(ho:UI X op λx y H Q=>∃i j,x= .int i/\y= .int j/\Q (.int (fo i j)) H)(hval:JD X value g)(hN:X.N[i]? =some x:=by rfl)(hv:wR X.env.scope x:=by trivial)
  (hd:BBT x:=by decide)(hcd:BBU x:=by decide):
  JS X (.AugAssign (.Attribute (.Name x px) f tpos) op value pos) (yx fo C i f g):=⟨λB=>(Kw (dG hN hv hd hcd) (hval.h B) ho).imp λD O H hh=>by
 obtain⟨S,F,o,R,hg,q⟩:=hh;obtain⟨Y7,h0,hg⟩:=ah hg;split at hg
 .rename_i nn hn;obtain⟨⟨d,S1⟩,h1,hg⟩:=ah hg;dsimp only at hg;split at hg
  .rename_i mm;obtain⟨kvs,h2,hg⟩:=ah hg;obtain⟨hl,hg⟩:=fc hg;obtain⟨⟨dd,S2⟩,h3,hg⟩:=aB hg;subst hg;obtain⟨u,hS,hm,hi⟩:=jI h0;obtain⟨a,ws,dx,e1,e2,e3⟩:=tW R hS hm hi;obtain⟨v0,l1,r1⟩:=Ak e3 hn;obtain rfl:=eL r1;refine⟨.ref a,e1,a,C,dx,ws,.int nn,rfl,e2,c,na,l1,S,F,_,S1,R,h1,λy F1 H1 R1 st1 r1=>⟨nn,mm,rfl,eL r1,?_⟩⟩;obtain⟨a',ws',WY,f1,f2,f3,R3,st3⟩:=Cy (v:=.int (fo nn mm)) R1 h2 h3 (.int _);rw[e1]at f1;cases f1;exact⟨WY,ws',f2,by rw[f3];lia,q O F1 _ R3 st1.ext.le⟩
  .cases hg
 .cases hg⟩
def Ju{S1:SS}{F0 F1 H1:Hp}{u0:U}{a:Addr}(hS:S[i]? =some (some u0))(hv:O[i]? =some (some (.ref a)))(R1:Rel X.K B S1 O F1 H1)(st1:Step S S1 O F0 H F1 H1)(rr:Paired (λv u=>gD X.K B S1 O H F1 H1 v u) vs us)(hlen:vs.length+1=n)
  (hg:(if(slotsOf (U.v i::us)).Nodup/\cu (U.v i::us)<=1 then(bT S1 (.v i::us)).bind λws=>(fm ws).bind λr=>(wb (.v i::us) r.2 S1).map λS2=>(r.1,S2) else none)=some (u,S'))
  (q:∀v F' H',Rel X.K B S' O F' H'->Step S S' O F0 H F' H'->gD X.K B S' O H F' H' v u->Q v H'):spT X.K n fm (.ref a::vs) H1 Q E0:=by
 obtain⟨hc,hg⟩:=fc hg;obtain⟨ws,h2,hg⟩:=ah hg;obtain⟨⟨r,outs⟩,h3,hg⟩:=ah hg;obtain⟨S2,h4,hg⟩:=aB hg;cases hg;have N6:Paired (λv u=>gD X.K B S1 O H F1 H1 v u) (.ref a::vs) (.v i::us):=.cons ⟨hv,st1.slots i u0 hS⟩ rr;refine⟨by show vs.length+1=n;exact hlen,F1,ws,r,outs,R1.sub,pC R1 N6 h2,gI R1 N6 h2 hc.1 hc.2,h3,λv F2 H2 po rn=>?_⟩;obtain⟨R2,st2,mu⟩:=iY R1 st1 N6 h2 h4 hc.1 po;refine q v F2 H2 R2 st2 ?_;cases r with
 |t d=>exact rn
 |b o=>cases rn
 |v i=>cases rn
 |s i=>cases rn
 |f i=>cases rn
 |x cx kx=>cases rn
 |m o=>
  obtain⟨a2,e,h0,f,h⟩:=rn;refine⟨a2,e,none_of st1.ext.there h0,f,h,λm=>?_,none_of R1.ext.there h0⟩;obtain⟨o',ho⟩:=R1.has (mu a2 m);rw[h0]at ho;cases ho
def Rr(i:Nat)(c:BC X.K C)(hm:Meth X.K C m fa)(F:fV X.prog X.w X.K X.mg X.base wM k fa fd ps (spT X.K n fm))(hr:c7 k X.A)(hb:Binds X.K fd ps [])(ha:JU X (e::es) gu)(hn:(e::es).length+1=n:=by rfl)
  (hN:X.N[i]? =some x:=by rfl)(hv:wR X.env.scope x:=by trivial)(hd:BBT x:=by decide)(hcd:BBU x:=by decide)
  (hst:starEach (e::es) X.env=(false,eval e X.env)::starEach es X.env:=by rfl)(hpl:(backTo pos (starEach es X.env)).any (·.1)=false:=by rfl)
  (ht:eval (.Call (.Attribute (.Name x px) m apos) (e::es) [] pos) X.env=(do
   let ov <-eval (.Name x px) X.env
   standAt apos.atName
   let(f,first) <-holding [ov] (getMethod ov m pl)
   callWith pos f first (backTo pos (starEach (e::es) X.env)) (backToKw pos (keywordEach [] X.env))):=by rfl):
  JE X (.Call (.Attribute (.Name x px) m apos) (e::es) [] pos) (fh C m i fm gu):=⟨λB=>(Qe (pl:=pl) (dG hN hv hd hcd) c hm F hr hb .nil IY (ha.h B) hst hpl ht).imp λO H Q hh=>by
 obtain⟨S,F0,u,S',R,hg,q⟩:=hh;obtain⟨kvs,h0,hg⟩:=ah hg;obtain⟨hl,hg⟩:=fc hg;obtain⟨⟨us',S1⟩,h1,hg⟩:=ah hg;obtain⟨⟨us,S1'⟩,Ug,hq⟩:=aB h1;cases hq;obtain⟨u0,hS,Hj,hi⟩:=jI h0;obtain⟨a,ws,dx,e1,e2,e3⟩:=tW R hS Hj hi;refine⟨.ref a,e1,a,dx,ws,rfl,e2,vZ e3 hl,S,F0,us,S1',R,Ug,λvs F1 H1 R1 st1 rr=>?_⟩;show spT X.K n fm (.ref a::(vs++[])) H1 Q E0;rw[abE];exact Ju hS e1 R1 st1 rr (by rw[rr.length,ha.len _ _ _ Ug];exact hn) hg q⟩
def N7(i:Nat)(c:BC X.K C)(hm:Meth X.K C m fa)(F:fV X.prog X.w X.K X.mg X.base wM k fa fd ps (spT X.K 1 fm))(hr:c7 k X.A)(hb:Binds X.K fd ps [])
  (hN:X.N[i]? =some x:=by rfl)(hv:wR X.env.scope x:=by trivial)(hd:BBT x:=by decide)(hcd:BBU x:=by decide)
  (ht:eval (.Call (.Attribute (.Name x px) m apos) [] [] pos) X.env=(do
   let ov <-eval (.Name x px) X.env
   standAt apos.atName
   let(f,first) <-holding [ov] (getMethod ov m pl)
   callWith pos f first (backTo pos (starEach [] X.env)) (backToKw pos (keywordEach [] X.env))):=by rfl):
  JE X (.Call (.Attribute (.Name x px) m apos) [] [] pos) (fh C m i fm aY):=⟨λB=>(MI (pl:=pl) (dG hN hv hd hcd) c hm F hr hb .nil IY ht).imp λO H Q hh=>by
 obtain⟨S,F0,u,S',R,hg,q⟩:=hh;obtain⟨kvs,h0,hg⟩:=ah hg;obtain⟨hl,hg⟩:=fc hg;obtain⟨⟨us',S1⟩,h1,hg⟩:=ah hg;cases h1;obtain⟨u0,hS,Hj,hi⟩:=jI h0;obtain⟨a,ws,dx,e1,e2,e3⟩:=tW R hS Hj hi;refine⟨.ref a,e1,a,dx,ws,rfl,e2,vZ e3 hl,?_⟩;exact Ju (S:=S) (F0:=F0) (H:=H) (vs:=[]) (us:=[]) hS e1 R (Step.refl ..) .nil rfl hg q⟩
theorem oA{B:Base}{S:SS}{O:St}{H0 F H H':Hp}(k:∀b o,H b=some o->H' b=some o):∀{vs:List V}{us:List U},slotsOf us=[]->cu us=0->Paired (λv u=>gD X.K B S O H0 F H v u) vs us->Paired (λv u=>gD X.K B S O H0 F H' v u) vs us
 |[],[],_,_,_=>.nil
 |[],_::_,_,_,z=>by cases z
 |_::_,[],_,_,z=>by cases z
 |v::vs,u::us,h1,h2,z=>by
  obtain⟨r,rs⟩:gD X.K B S O H0 F H v u/\Paired (λv u=>gD X.K B S O H0 F H v u) vs us:=by cases z with|cons r rs=>exact⟨r,rs⟩
  cases u with
  |t d=>exact .cons r (oA k h1 h2 rs)
  |m o=>exact absurd h2 (Nat.succ_ne_zero _)
  |b o=>cases r
  |v j=>cases h1
  |s ns=>
   refine .cons ?_ (oA k h1 h2 rs);obtain⟨a,e,z⟩:=r;refine⟨a,e,?_⟩;rcases z with⟨o,z⟩|z
   .exact .inl ⟨o,k _ _ z⟩
   .exact .inr z
  |f a=>exact .cons r (oA k h1 h2 rs)
  |x cx kx=>exact .cons r (oA k h1 h2 rs)
theorem qZ{S:SS}:∀{us ws:List U},slotsOf us=[]->cu us=0->bT S us=some ws->wb us [] S=some S
 |[],_,_,_,_=>rfl
 |u::us,ws,h1,h2,h3=>by
  obtain⟨w,e1,h3⟩:=ah h3;obtain⟨ws',e2,h3⟩:=aB h3;cases u with
  |t d=>exact qZ (us:=us) h1 h2 e2
  |m o=>exact absurd h2 (Nat.succ_ne_zero _)
  |b o=>cases e1
  |v j=>cases h1
  |s ns=>exact qZ (us:=us) h1 h2 e2
  |f a=>exact qZ (us:=us) h1 h2 e2
  |x cx kx=>exact qZ (us:=us) h1 h2 e2
def Rt{S1:SS}{F0 F1 H1:Hp}{ws:List U}{o:MO}{xa dx:Addr}(R1:Rel X.K B S1 O F1 H1)(st1:Step S S1 O F0 H F1 H1)(rr:Paired (λv u=>gD X.K B S1 O H F1 H1 v u) vs us)(hlen:vs.length+1=n)(hc:slotsOf us=[]/\cu us=0)(h2:bT S1 us=some ws)
  (h3:fm (.b (.ins C [])::ws)=some (.t .cD,[o]))(hx:H1 xa=none)(hdx:H1 dx=none)(ne:dx≠xa)
  (q:∀v F' H',Rel X.K B S1 O F' H'->Step S S1 O F0 H F' H'->gD X.K B S1 O H F' H' v (.m o)->Q v H'):spT X.K n fm (.ref xa::vs) (upd (upd H1 dx (.own xa)) xa (.ins C dx [])) (λv H2=>v= .cD/\Q (.ref xa) H2) E0:=by
 have n1:fW F1 H1 F1 (upd H1 dx (.own xa)):=fW.obj hdx _;have hx':(upd H1 dx (.own xa)) xa=none:=by rw[aR (abO ne)];exact hx
 have n12:=n1.trans (fW.obj hx' (.ins C dx []));have R1':=R1.new n12 (R1.sub.same n12.same);have acW:=st1.trans (n12.step (S:=S1) (O:=O));have nm:¬dw S1 O xa:=λm=>by
  obtain⟨o',ho⟩:=R1.has m;rw[hx]at ho;cases ho
 have N6:Paired (λv u=>gD X.K B S1 O H F1 (upd (upd H1 dx (.own xa)) xa (.ins C dx [])) v u) (.ref xa::vs) (.m (.ins C [])::us):=
  .cons ⟨xa,rfl,none_of st1.ext.there hx,R1.sub.fresh hx,⟨[],⟨dx,aZ⟩,.nil⟩,nm,none_of R1.ext.there hx⟩ (oA n12.same hc.1 hc.2 rr)
 have hr':bT S1 (.m (.ins C [])::us)=some (.b (.ins C [])::ws):=by
  show(some (U.b (.ins C []))).bind (λw=>(bT S1 us).map λws=>w::ws)=_;rw[h2];rfl
 have nd:(slotsOf (U.m (.ins C [])::us)).Nodup:=by
  show(slotsOf us).Nodup;rw[hc.1];exact afH
 refine⟨hlen,F1,_,_,_,R1'.sub,pC R1' N6 hr',gI R1' N6 hr' nd (by show cu us+1<=1;lia),h3,λv F2 H2 po rn=>?_⟩;obtain⟨R2,st2,mu⟩:=iY R1' acW N6 hr' (show wb (.m (.ins C [])::us) [o] S1=some S1 from qZ hc.1 hc.2 h2) nd po;refine⟨QE rn,q (.ref xa) F2 H2 R2 st2 ?_⟩;have out:=po.out;cases out with
 |cons z zs=>exact⟨xa,rfl,none_of st1.ext.there hx,z.1,z.2,nm,none_of R1.ext.there hx⟩
def Lk(h:Cw C fm gu S=some (u,S')):∃us ws o,gu S=some (us,S')/\(slotsOf us=[]/\cu us=0)/\bT S' us=some ws/\fm (.b (.ins C [])::ws)=some (.t .cD,[o])/\u= .m o:=by
 obtain⟨⟨us,S1⟩,h1,h⟩:=ah h;obtain⟨hc,h⟩:=fc h;obtain⟨ws,h2,h⟩:=ah h;obtain⟨r,h3,h⟩:=ah h;dsimp only at h;split at h
 .cases h;exact⟨us,ws,_,h1,hc,h2,h3,rfl⟩
 .cases h
def Ru(M:Mk X.K C fa)(F:fV X.prog X.w X.K X.mg X.base wM k fa fd ps (spT X.K n fm))(hr:c7 (k+1) X.A)(hg:Gl X x)(hm:X.mg x=some (.ref C))(hb:Binds X.K fd ps [])(ha:JU X (e::es) gu)(hn:(e::es).length+1=n:=by rfl)
  (hdb:BBT x:=by decide)(he:starEach (e::es) X.env=(false,eval e X.env)::starEach es X.env:=by rfl)(hpl:(backTo pos (starEach es X.env)).any (·.1)=false:=by rfl):
  JE X (.Call (.Name x p) (e::es) [] pos) (Cw C fm gu):=⟨λB=>(Qg M F hr hg hm hb .nil IY (ha.h B) hdb he hpl).imp λO H Q hh=>by
 obtain⟨S,F0,u,S',R,hg,q⟩:=hh;obtain⟨us,ws,o,h1,hc,h2,h3,hu⟩:=Lk hg;subst hu;refine⟨S,F0,us,S',R,h1,λvs F1 H1 R1 st1 rr=>λxa dx hx hdx ne=>?_⟩;show spT X.K n fm (.ref xa::(vs++[])) _ _ E0;rw[abE];exact Rt R1 st1 rr (by rw[rr.length,ha.len _ _ _ h1];exact hn) hc h2 h3 hx hdx ne q⟩
end
end L2
end
section
namespace L2
open PySem PySem.Spec PyProof.Rows PySem.Calls
variable {N i l0 l1:Nat}{k0 k1:Bool}{H:Hp}{ds:List D}{K:AAD}
noncomputable def Jv:List D->Option U
 |[.int a]=>if a.natAbs<10 ^ 30 then some (.t (.str (toString a))) else none
 |[.str z]=>some (.t (.str z))
 |_=>none
section
variable {X:Cx}
def Am:fU X (.type "str") (rP Jv):=by
 intro pins s O H xs us Q I r ⟨F,ds,w,sb,rs,hw,q⟩;unfold Jv at hw;split at hw
 .rename_i a;exact HH pins s O H xs us Q I r ⟨F,_,w,sb,rs,hw,q⟩
 .rename_i z;cases hw;obtain⟨t,rfl⟩:∃t,us=[.str z t]:=by
   cases rs with
   |cons r1 rs=>cases rs;cases r1;cases r with|cons a1 r=>cases r;obtain⟨t,rfl⟩:=a1;exact⟨t,rfl⟩
  exact P.str_of_str ⟨.str _,H,I,⟨_,rfl⟩,q _ F H (fW.refl ..) sb (.str _)⟩
 .cases hw
end
def An(kvs:AAJ)(g gd:GD):GD:=λS=>(g S).bind λp=>(gd p.2).bind λq=>match p.1 with
 |.str z=>some ((match gw kvs z with|some i=>.int i|none=>q.1),q.2)
 |_=>none
section
variable {X:Cx}{e f:Expr}{x:Str}{px apos cpos:Pos}{ty tx:TE}{g gd:GD}{a:Addr}{kvs:AAJ}
def HJ(hg:Gl X x)(hm:X.mg x=some (.ref a))(hk:KTab X.prog X.w X.K a kvs)(he:PE X e ty)(hf:PE X f tx)(m:M2 X (.Name x px) "get" apos e f cpos)(hd:BBT x):
  PE X (.Call (.Attribute (.Name x px) "get" apos) [e,f] [] cpos) (λO H Q=>ty O H λy H1=>tx O H1 λy2 H2=>∃z,y= .str z/\Q (match gw kvs z with|some i=>V.int i|none=>y2) H2):=by
 intro pins s O H Q I h;refine agu m.base m.few m.line agM aeY PySem.F.type_dict_get (cS (mQ (v:=.ref a) hg hm rfl hd pins s O H (λv H1=>v= .ref a/\H1=H) I ⟨rfl,rfl⟩) λu s1 hh=>?_);obtain⟨x',H1,I1,rx,ex,eH⟩:=hh;subst ex eH;obtain rfl:u=Value.ref a:=rx;obtain⟨fm,m1,m2⟩:=hk.map I1;refine⟨m1.typeIs,λb hb=>?_,?_⟩
 .cases hb;obtain⟨ob,_,_,h1,h2,_⟩:=m1;exact⟨ob,h1,h2.2.1⟩
 rw[m.trees];refine aer rfl (afj (ab9 (cS (he pins s1 O _ _ I1 h) λiv s2 ⟨y,H2,I2,ry,q2⟩=>
  ab9 (cS (hf pins s2 O H2 _ I2 q2) λfv s3 ⟨y2,H3,I3,Vb,z,ey,q3⟩=>aeB ?_))))
 subst ey;obtain⟨Y4,k1,k2⟩:=hk.map I3;refine call_meetsIn aeY k1.typeIs PySem.F.entry_dict_get (agN _ _ _) (meets_dict_get_default (k:=.inr z) (cY X.prog X.w) a (zO (k:=.inr z) ry) hk.1 fv) ⟨Y4,k1,(match gw kvs z with|some i=>V.int i|none=>y2),H3,I3.tok _,?_,q3⟩;have r:=k2 z;cases el:gw kvs z with
 |none=>rw[el]at r;rw[show Y4 (.inr z)=none from r];exact Vb
 |some i=>rw[el]at r;obtain⟨t,r⟩:=r;rw[r];exact⟨t,rfl⟩
def HK(hg:Gl X x)(hm:X.mg x=some (.ref a))(hk:KTab X.prog X.w X.K a kvs)(he:JD X e g)(hf:JD X f gd)(hb:attributeBase (.Name x px) "get" X.env (eval (.Name x px) X.env)=eval (.Name x px) X.env:=by rfl)
  (hfew:((backTo cpos (starEach [e,f] X.env)).all (λx=>!x.1) && (backToKw cpos (keywordEach [] X.env)).all (λx=>x.1.isSome) && decide (([e,f]:BBC).length+([]:BBI).length+(if([]:BBI).isEmpty then 0 else 1)<30))=true:=by rfl)
  (hline:(apos.endLine == cpos.line)=true:=by rfl)(htr:backTo cpos (starEach [e,f] X.env)=[(false,eval e X.env),(false,eval f X.env)]:=by rfl)(hd:BBT x:=by decide):
  JD X (.Call (.Attribute (.Name x px) "get" apos) [e,f] [] cpos) (An kvs g gd):=
 ⟨λB=>(HJ hg hm hk (he.h B) (hf.h B) ⟨hb,hfew,hline,htr⟩ hd).imp λO H Q hh=>by
  obtain⟨S,F,d,S',R,hg',q⟩:=hh;obtain⟨⟨d1,S1⟩,h1,hg'⟩:=ah hg';obtain⟨⟨d2,S2⟩,h2,Mf⟩:=ah hg';clear hg';cases d1<;>try (cases Mf)
  rename_i z;exact⟨S,F,.str z,_,R,h1,λv F1 H1 R1 st1 r1=>by cases r1;exact⟨_,F1,d2,_,R1,h2,λv2 F2 H2 R2 st2 r2=>⟨z,rfl,q _ F2 H2 R2 (st1.trans st2) (by cases gw kvs z with|none=>exact r2|some i=>exact .int i)⟩⟩⟩⟩
end
section
variable {prog:Program}{w:World}{A:Around}{E:AAE}{s:Shared}
def N8{v0 v1:AAK}{x0 x1:Value}{Q:BBP->Shared->Prop}(st:uV N k0 k1 l0 l1 i s.heap)
  (Vs:uA k0 s.heap l0 v0)(HC:v0[i]? =some x0)(NP:l0<N)
  (Rf:uA k1 s.heap l1 v1)(Gy:v1[i]? =some x1)(NQ:l1<N)
  (q:∀h',uV N k0 k1 l0 l1 (i+1) h'->TupAt h' s.heap.objs.size #[x0,x1]->(∀(b:Nat) o,b∉jG N->s.heap.get? b=some o->h'.get? b=some o)->Q (some (.ref s.heap.objs.size)) {s with heap:=h'}):
  wpAny (model prog w) A (pyNext (.ref (N+4))) Q E s:=by
 obtain⟨⟨f0,f1,hf,hz⟩,hTI,⟨w0,hw0,hTO⟩,d0,d1⟩:=st;obtain⟨a0,a1,rfl⟩:∃a0 a1,w0=[a0,a1]:=by
  match w0,hw0 with
  |[a0,a1],_=>exact⟨_,_,rfl⟩
 have hT:s.TypeIs (.ref (N+4)) "zip":=⟨_,hz,rfl⟩
 unfold pyNext;refine aal (agq (ab4 (name:=Str.ofString "__next__") hT aex (acV aex hT agE ?_ (agt _))));show wpAny _ _ (field (.ref (N+4)) 2 >>= _) _ _ _;refine aal (aaJ hz rfl (x:=.bool false) rfl ?_);show wpAny _ _ (field (.ref (N+4)) 3 >>= _) _ _ _;refine aal (aaJ hz rfl (x:=.ref (N+2)) rfl ?_);refine aal (aby hTI rfl ?_);show wpAny _ _ (Builtin.SmallTypes.ownedTupleIsFree (.ref (N+4)) >>= _) _ _ _;refine aal (E6 hz hf λfr Ah q0 fl hf' hz' Ci=>?_);clear hf hz hT;have Ci:Heap.SameBut (N+4) s.heap Ah:=Ci;cases fr
 case false=>
  have TF:∀(b:Nat) o,b∉jG N->s.heap.get? b=some o->Ah.get? b=some o:=λb o hb y=>(Ci.2 b λz=>hb (bu.mpr (by have z:@Eq Nat b _:=z;lia))).trans y;have d0:nU k0 Ah N l0 i:=d0.at λo y=>(Ci.2 _ (HB _ _)).trans y;have d1:nU k1 Ah (N+1) l1 i:=d1.at λo y=>(Ci.2 _ (mV rfl)).trans y;have hTO:TupAt Ah (N+3) #[a0,a1]:=(Ci.2 _ (mV rfl)).trans hTO;have hTI:TupAt Ah (N+2) #[.ref N,.ref (N+1)]:=(Ci.2 _ (mV rfl)).trans hTI;have HD:uA k0 Ah l0 v0:=Vs.at λo y=>TF _ o (λz=>by have:=bu.mp z;lia) y;have HE:uA k1 Ah l1 v1:=Rf.at λo y=>TF _ o (λz=>by have:=bu.mp z;lia) y;simp only[acp,aey];refine aal ?_;rw[<-afC];simp only[aeu,afJ];refine aal (aal (abz ?_));show wpAny _ _ (Builtin.SmallTypes.nextOf (.ref N) >>= _) _ _ _;refine aal (nextK d0 HD HC λg1 c0 e1=>aan (aan ?_));have e1:Heap.SameBut N Ah g1:=e1;have m1:∀(b:Nat) o,b∉jG N->s.heap.get? b=some o->g1.get? b=some o:=λb o hb y=>(e1.2 b λz=>hb (bu.mpr (by have z:@Eq Nat b _:=z;lia))).trans (TF b o hb y);have d1:nU k1 g1 (N+1) l1 i:=d1.at λo y=>(e1.2 _ (E5 _ _)).trans y;have HE:uA k1 g1 l1 v1:=Rf.at λo y=>m1 _ o (λz=>by have:=bu.mp z;lia) y;refine aal (aal (abz ?_));show wpAny _ _ (Builtin.SmallTypes.nextOf (.ref (N+1)) >>= _) _ _ _;refine aal (nextK d1 HE Gy λg2 c1 e2=>aan (aan (aan ?_)));have e2:Heap.SameBut (N+1) g1 g2:=e2;have s2:g2.objs.size=s.heap.objs.size:=by rw[e2.1,e1.1,Ci.1]
  refine aal (wpAny_newTuple ?_ (show 2<=sizeLine by decide));refine aan ⟨_,rfl,aan ?_⟩;have keep:∀(b:Nat) o,b≠N->b≠N+1->Ah.get? b=some o->(g2.push {cls:=.type "tuple",data:=.seq #[x0,x1]}).get? b=some o:=λb o h1 h2 y=>aam _ ((e2.2 _ h2).trans ((e1.2 _ h1).trans y));have tt:TupAt (g2.push {cls:=.type "tuple",data:=.seq #[x0,x1]}) g2.objs.size #[x0,x1]:=aas _ rfl;have q':=q (g2.push {cls:=.type "tuple",data:=.seq #[x0,x1]}) ⟨⟨_,_,hf',keep _ _ (E5 _ _) (mV rfl) hz'⟩,keep _ _ (E5 _ _) (mV rfl) hTI,⟨[a0,a1],rfl,keep _ _ (E5 _ _) (mV rfl) hTO⟩,c0.at λo y=>aam _ ((e2.2 _ (HB _ _)).trans y),c1.at λo y=>aam _ y⟩ (by rw[<-s2];exact tt) λb o hb y=>aam _ ((e2.2 b λz=>hb (bu.mpr (by have z:@Eq Nat b _:=z;lia))).trans (m1 b o hb y));rw[<-s2]at q';exact q'
 simp only[if_true];refine aal (afl ?_);refine aal (aaJ hz' rfl (x:=.ref (N+3)) rfl ?_);refine aal (ace hz' (by simp) λg0 z0 e0=>?_);have e0:Heap.SameBut (N+4) Ah g0:=e0;have e0:Heap.SameBut (N+4) s.heap g0:=⟨e0.1.trans Ci.1,λb hb=>(e0.2 b hb).trans (Ci.2 b hb)⟩
 have z0:jH g0 (N+4) (N+2) (N+3) .ellipsis fl:=z0;have e0:Heap.SameBut (N+4) s.heap g0:=e0;refine aal ?_;simp only[agF,agQ,aeu,afJ];have t0:TupAt g0 (N+3) #[a0,a1]:=(e0.2 _ (mV rfl)).trans hTO;have m0:∀(b:Nat) o,b∉jG N->s.heap.get? b=some o->g0.get? b=some o:=λb o hb y=>(e0.2 b λz=>hb (bu.mpr (by have z:@Eq Nat b _:=z;lia))).trans y;have W8:nU k0 g0 N l0 i:=d0.at λo y=>(e0.2 _ (HB _ _)).trans y;have NR:nU k1 g0 (N+1) l1 i:=d1.at λo y=>(e0.2 _ (mV rfl)).trans y;refine aal (aal (aeP ?_));show wpAny _ _ (Builtin.SmallTypes.nextOf (.ref N) >>= _) _ _ _;refine aal (nextK W8 (Vs.at λo y=>m0 _ o (λz=>by have:=bu.mp z;lia) y) HC λg1 c0 e1=>aan ?_);have e1:Heap.SameBut N g0 g1:=e1;have t1:TupAt g1 (N+3) #[a0,a1]:=(e1.2 _ (E5 _ _)).trans t0;refine aal (aby t1 rfl ?_);refine aal (NN t1 (show 2<=sizeLine by decide) λg2 t2 e2=>?_);have t2:TupAt g2 (N+3) #[x0,a1]:=t2;have e2:Heap.SameBut (N+3) g1 g2:=e2;have z1:jH g2 (N+4) (N+2) (N+3) .ellipsis fl:=(e2.2 _ (mV rfl)).trans ((e1.2 _ (E5 _ _)).trans z0);have m2:∀(b:Nat) o,b∉jG N->s.heap.get? b=some o->g2.get? b=some o:=λb o hb y=>(e2.2 b λz=>hb (bu.mpr (by have z:@Eq Nat b _:=z;lia))).trans ((e1.2 b λz=>hb (bu.mpr (by have z:@Eq Nat b _:=z;lia))).trans (m0 b o hb y));refine aal (adO (aan ?_));have c0:nU k0 g2 N l0 (i+1):=c0.at λo y=>(e2.2 _ (HB _ _)).trans y;have NR:nU k1 g2 (N+1) l1 i:=NR.at λo y=>(e2.2 _ (mV rfl)).trans ((e1.2 _ (E5 _ _)).trans y);have i0:g2.get? (N+2)=s.heap.get? (N+2):=by rw[e2.2 _ (mV rfl),e1.2 _ (E5 _ _),e0.2 _ (mV rfl)]
 have s0:g2.objs.size=s.heap.objs.size:=by rw[e2.1,e1.1,e0.1]
 refine aal (aal (aeP ?_));show wpAny _ _ (Builtin.SmallTypes.nextOf (.ref (N+1)) >>= _) _ _ _;refine aal (nextK NR (Rf.at λo y=>m2 _ o (λz=>by have:=bu.mp z;lia) y) Gy λg3 c1 e3=>aan ?_);have e3:Heap.SameBut (N+1) g2 g3:=e3;have t3:TupAt g3 (N+3) #[x0,a1]:=(e3.2 _ (mV rfl)).trans t2;refine aal (aby t3 rfl ?_);refine aal (NN t3 (show 2<=sizeLine by decide) λg4 t4 e4=>?_);have t4:TupAt g4 (N+3) #[x0,x1]:=t4;have e4:Heap.SameBut (N+3) g3 g4:=e4;have z2:jH g4 (N+4) (N+2) (N+3) .ellipsis fl:=(e4.2 _ (mV rfl)).trans ((e3.2 _ (mV rfl)).trans z1);have m4:∀(b:Nat) o,b∉jG N->s.heap.get? b=some o->g4.get? b=some o:=λb o hb y=>(e4.2 b λz=>hb (bu.mpr (by have z:@Eq Nat b _:=z;lia))).trans ((e3.2 b λz=>hb (bu.mpr (by have z:@Eq Nat b _:=z;lia))).trans (m2 b o hb y));refine aal (adO (aan (aan ?_)));have c0:nU k0 g4 N l0 (i+1):=c0.at λo y=>(e4.2 _ (HB _ _)).trans ((e3.2 _ (HB _ _)).trans y);have c1:nU k1 g4 (N+1) l1 (i+1):=c1.at λo y=>(e4.2 _ (mV rfl)).trans y;have i1:g4.get? (N+2)=s.heap.get? (N+2):=by rw[e4.2 _ (mV rfl),e3.2 _ (mV rfl),i0]
 have s1:g4.objs.size=s.heap.objs.size:=by rw[e4.1,e3.1,s0]
 refine aal (aby t4 rfl ?_);refine aal (wpAny_newTuple ?_);have YY:(N+4)<g4.objs.size:=aap z2;show wpAny _ _ (Builtin.SmallTypes.ownedTupleHandOut (.ref (N+4)) (.ref g4.objs.size) >>= _) _ _ _;refine aal ?_;unfold Builtin.SmallTypes.ownedTupleHandOut;have y0:jH (g4.push {cls:=.type "tuple",data:=.seq #[x0,x1]}) (N+4) (N+2) (N+3) .ellipsis fl:=aam _ z2;refine aal (ace y0 (by simp) λf1 y1 r1=>?_);have y1:jH f1 (N+4) (N+2) (N+3) (rawInt g4.objs.size) fl:=y1;refine ace y1 (by simp) λf2 y2 r2=>?_;have y2:jH f2 (N+4) (N+2) (N+3) (rawInt g4.objs.size) (.bool false):=y2;have up:∀b o,b≠(N+4)->g4.get? b=some o->f2.get? b=some o:=λb o hb y=>r2.extBut _ _ hb (r1.extBut _ _ hb (aam _ y));have tt:TupAt f2 g4.objs.size #[x0,x1]:=r2.extBut _ _ (adP YY) (r1.extBut _ _ (adP YY) (aas _ rfl));rw[s1]at y2 tt;refine aan ⟨_,rfl,aan ?_⟩;rw[s1];exact q f2 ⟨⟨_,_,⟨.inr ⟨_,rfl⟩,false,rfl⟩,y2⟩,up _ _ (mV rfl) (i1.trans hTI),⟨[x0,x1],rfl,up _ _ (mV rfl) t4⟩,c0.at λo y=>up _ o (HB _ _) y,c1.at λo y=>up _ o (mV rfl) y⟩ tt λb o hb y=>up b o (λz=>hb (bu.mpr (by have z:@Eq Nat b _:=z;lia))) (m4 b o hb y)
end
def HL:typeLookup (.type "zip") "__len__" =pure none:=by rw[typeLookup_type,builtinLookup_eq_fast];kernel_rfl
def Fj:typeLookup (.type "zip") "__length_hint__" =pure none:=by rw[typeLookup_type,builtinLookup_eq_fast];kernel_rfl
def uV.keep{h h':Heap}(x:uV N k0 k1 l0 l1 i h)(g:∀b∈jG N,∀o,h.get? b=some o->h'.get? b=some o):uV N k0 k1 l0 l1 i h':=by
 obtain⟨⟨f0,f1,hf,hz⟩,hTI,⟨w0,hw0,hTO⟩,d0,d1⟩:=x;exact⟨⟨f0,f1,hf,g _ (by rw[bu];lia) _ hz⟩,g _ (by rw[bu];lia) _ hTI,⟨w0,hw0,g _ (by rw[bu];lia) _ hTO⟩,d0.at λo q=>g _ (by rw[bu];lia) o q,d1.at λo q=>g _ (by rw[bu];lia) o q⟩
def uV.typeIs{s:Shared}(x:uV N k0 k1 l0 l1 i s.heap):s.TypeIs (.ref (N+4)) "zip":=by
 obtain⟨⟨f0,f1,hf,hz⟩,_⟩:=x;exact⟨_,hz,rfl⟩
def uV.lt{N:Nat}{k0 k1:Bool}{l0 l1 i:Nat}{h:Heap}(x:uV N k0 k1 l0 l1 i h):@LT.lt Nat _ (N+4) h.objs.size:=by
 obtain⟨⟨f0,f1,hf,hz⟩,_⟩:=x;exact aap hz
def ZW(K:AAD)(k0 k1:Bool)(l0 l1:Addr)(yU yV:List V)(S:Addr)(W:Nat->List V->Hp->Prop):Prop:=∀i ys H,W i ys H->Mh K H k0 l0 yU/\Mh K H k1 l1 yV/\H S=some (.lst ys)/\ys.length=i/\
 ∀x0 x1 p,yU[i]? =some x0->yV[i]? =some x1->H p=none->W (i+1) (ys++[.ref p]) (upd (upd H p (.tup [x0,x1])) S (.lst (ys++[.ref p])))
def Vals.snoc{xs:List V}{us:AAL}{x:V}{u:Value}(r:Vals xs us)(q:RelV x u):Vals (xs++[x]) (us++[u]):=r.append (.cons q .nil)
section
variable {X:Cx}{pins:AAG}{O:St}{A:Around}{R:Result->Shared->Prop}{N:Nat}{k0 k1:Bool}{l0 l1:Nat}{yU yV:List V}{S:Addr}{W:Nat->List V->Hp->Prop}{res:Value}
def Rv(hh:A.handled=none)(NP:l0<N)(NQ:l1<N)(zw:ZW X.K k0 k1 l0 l1 yU yV S W)
  (hR:∀ys H s',Inv X pins O H s'->W (min yU.length yV.length) ys H->R (.ok (.ret res)) s'):
  ∀(k i:Nat)(s:Shared)(H:Hp)(ys:List V),min yU.length yV.length-i=k->i<=min yU.length yV.length->Inv X pins O H s->(∀b∈jG N,nZ X pins H b)->uV N k0 k1 l0 l1 i s.heap->W i ys H->
  codeAny (model X.prog X.w) A (.builtin "list.extend.loop" ⟨[.ref S,.ref (N+4),res],[]⟩) R s:=by
 intro k
 induction k with
 |zero=>
  intro i s H ys hk hi I hf st hw;have hin:i=min yU.length yV.length:=by lia
  subst hin;obtain⟨h0,h1,hS,hl,_⟩:=zw _ _ _ hw;obtain⟨Y8,rv0,p0,hz0⟩:=I.Rb h0;obtain⟨Y9,rv1,p1,hz1⟩:=I.Rb h1;have e0:=rv0.length;have e1:=rv1.length;refine adR F.entry_extend_loop ?_;rw[acI afq _];show wpAny _ A.in1 (pyNext (.ref (N+4)) >>= _) _ _ s;refine aal (Rg hh st p0 NP p1 NQ ?_ λh' hk'=>aan (hR ys H _ (I.Di (t':=s.toks) hk' hf) hw));simp only[List.getElem?_toArray,List.getElem?_eq_none_iff];lia
 |succ k ih=>
  intro i s H ys hk hi I hf st hw;have hlt:i<min yU.length yV.length:=by lia
  obtain⟨h0,h1,hS,hl,hstep⟩:=zw _ _ _ hw;obtain⟨Y8,rv0,p0,hz0⟩:=I.Rb h0;obtain⟨Y9,rv1,p1,hz1⟩:=I.Rb h1;obtain⟨x0,HC⟩:∃x,yU[i]? =some x:=⟨yU[i]'(by lia),aaz _⟩
  obtain⟨x1,Gy⟩:∃x,yV[i]? =some x:=⟨yV[i]'(by lia),aaz _⟩
  obtain⟨u0,hu0,ru0⟩:=rv0.get HC;obtain⟨u1,hu1,ru1⟩:=rv1.get Gy;have slt:∀b∈jG N,b<s.heap.objs.size:=λb hb=>by have h1:=bu.mp hb;have h2:=st.lt;show @LT.lt Nat _ b s.heap.objs.size;lia
  refine adR F.entry_extend_loop ?_;rw[acI afq _];show wpAny _ A.in1 (pyNext (.ref (N+4)) >>= _) _ _ s;refine aal (N8 st p0 (by simpa using hu0) NP p1 (by simpa using hu1) NQ λh' st' hT hk'=>?_);have I2:Inv X pins O (upd H s.heap.objs.size (.tup [x0,x1])) {s with heap:=h',toks:=s.toks}:=
   I.handed (its:=[u0,u1]) hf slt hk' hT (.cons ru0 (.cons ru1 .nil)) (show 2<=sizeLine by decide)
  have hS2:upd H s.heap.objs.size (.tup [x0,x1]) S=some (.lst ys):=by rw[aR (bJ hS I.fresh)];exact hS
  obtain⟨hzS,its,n,rvS,hoS⟩:=(show cR X.prog X.w _ _ S (.lst ys) from I2.hok S _ hS2)
  show wpAny _ A.in1 (updateSeq S (·.push (.ref s.heap.objs.size)) >>= _) _ _ _;have hS':h'.get? S=some {cls:=.type "list",data:=.seq its.toArray n}:=hoS;have eit:=rvS.length;have hyl:its.length<=sizeLine:=by rw[<-eit];exact hzS
  refine aal (adS hS' rfl (aan ⟨aeO afq _,?_⟩) (by simpa using hyl) (by show(its.toArray.push _).size<=sizeLine+1;rw[Array.size_push,aao];lia));have hS3:=abh (Obj.mapSeq λx=>x.push (.ref s.heap.objs.size)) hS' rfl;have Bw:∀b o,b≠S->h'.get? b=some o->(h'.update S (Obj.mapSeq λx=>x.push (.ref s.heap.objs.size))).get? b=some o:=λb o hb e=>(aaH _ _ (abO hb)).trans e;have hSz:S∉jG N:=λz=>by have:=(hf S z).1;rw[hS]at this;cases this
  have hl2:ys.length+1<=sizeLine:=by rw[hl];lia
  have I3:=I2.write (o:=.lst (ys++[.ref s.heap.objs.size])) (t':=s.toks) (h':=h'.update S (Obj.mapSeq λx=>x.push (.ref s.heap.objs.size))) (x:=S) (e:=S) (by rw[hS2];exact True.intro) (.inl rfl) Bw ⟨_,hS3⟩
   (show cR X.prog X.w _ _ S (.lst _) from⟨by rw[aaG];exact hl2,its++[.ref s.heap.objs.size],_,rvS.snoc (show RelV (.ref s.heap.objs.size) (.ref s.heap.objs.size) from rfl),by
    have e:(its++[Value.ref s.heap.objs.size]).toArray=its.toArray.push (.ref s.heap.objs.size):=by simp
    rw[e];exact hS3⟩)
  refine ih (i+1) _ _ _ (by lia) hlt I3 (λb hb=>?_) (st'.keep λb hb o q=>Bw b o (λz=>hSz (z▸hb)) q) (hstep x0 x1 _ HC Gy I.fresh);obtain⟨f0,f1,f2,f3,f4,f5⟩:=hf b hb;have Ll:b≠S:=λz=>hSz (z▸hb);exact⟨by rw[aR Ll,aR (aaD (slt b hb))];exact f0,f1,f2,f3,f4,f5⟩
def N9{s:Shared}{ys:List V}(I:Inv X pins O H s)(hS:H S=some (.lst ys)):ys.length<=sizeLine/\∃(its:AAL)(n:Nat),Vals ys its/\s.heap.get? S=some {cls:=.type "list",data:=.seq its.toArray n}:=
 (show cR X.prog X.w _ _ S (.lst ys) from I.hok S _ hS)
def TH{s:Shared}{h':Heap}{n:Nat}(I:Inv X pins O H s)(hS:H S=some (.lst []))(Bw:∀b o,b≠S->s.heap.get? b=some o->h'.get? b=some o)(hn:h'.get? S=some {cls:=.type "list",data:=.seq #[] n}):Inv X pins O H {s with heap:=h'}:=by
 have e:upd H S (.lst [])=H:=by
  funext b;by_cases hb:b=S
  .subst hb;rw[aZ,hS]
  .rw[aR hb]
 have I2:=I.write (o:=.lst []) (t':=s.toks) (h':=h') (x:=S) (e:=S) (by rw[hS];exact True.intro) (.inl rfl) Bw ⟨_,hn⟩ (show cR X.prog X.w _ _ S (.lst []) from⟨abX _,[],n,.nil,hn⟩);rw[e]at I2;exact I2
def Lm{s:Shared}(hh:A.handled=none)(NP:l0<N)(NQ:l1<N)(TJ:S∉jG N)(zw:ZW X.K k0 k1 l0 l1 yU yV S W)
  (hR:∀ys H s',Inv X pins O H s'->W (min yU.length yV.length) ys H->R (.ok (.ret res)) s')(I:Inv X pins O H s)(hf:∀b∈jG N,nZ X pins H b)(st:uV N k0 k1 l0 l1 0 s.heap)(hw:W 0 [] H):
  wpAny (model X.prog X.w) A.in1 (Builtin.List.listExtendWith (.ref S) (.ref (N+4)) res)
   (λfin s'=>match fin with|.done f=>R (.ok f) s'|.again c'=>c'.quiet=true/\codeAny (model X.prog X.w) A c' R s') (λe s'=>R (.error e) s') s:=by
 obtain⟨_,_,K3,_,_⟩:=zw _ _ _ hw;obtain⟨_,its,n,rv,hS⟩:=N9 I K3;cases rv;have hSI:S≠(N+4):=λe=>TJ (e▸bu.mpr (by lia));unfold Builtin.List.listExtendWith;refine aal (af8 st.typeIs ?_);have h1:Builtin.List.listSameRef (.ref S) (.ref (N+4))=false:=by simp[Builtin.List.listSameRef,hSI]
 have h2:(Value.type "zip" == Value.type "list")=false:=by decide
 have h3:(Value.type "zip" == Value.type "tuple")=false:=by decide
 simp only[h1,h2,h3,Bool.or_false,acp,aey];obtain⟨⟨f0,f1,hf0,hz⟩,_⟩:=id st;refine aal (wpAny_pyIter_slot st.typeIs F.slot_zip_iter (acV F.slot_zip_iter st.typeIs F.entry_zip_iter (show wpAny _ _ (ret (.ref (N+4))) _ _ s from aan ⟨_,rfl,"zip",_,st.typeIs,aex.lookup,?_⟩) (F.args_zip_iter_1 _)));refine aal (abz ?_);unfold Builtin.List.listLengthHint;refine aal (af3 st.typeIs HL ?_);show wpAny _ A.in1 (specialOf (Value.ref (N+4)) (Str.ofString "__length_hint__") >>= _) _ _ _;refine aal (af3 st.typeIs Fj ?_);refine aan ?_;show wpAny _ A.in1 (rule "list.extend.makes-room" >>= λ_=>Builtin.List.listTouch (.ref S) >>= λ_=>
  again (.builtin "list.extend.loop" ⟨[.ref S,.ref (N+4),res],[]⟩)) _ _ _
 refine aal (afl ?_);refine aal ?_;show wpAny _ A.in1 (updateSeq S (·.push .none) >>= λ_=>updateSeq S (·.pop)) _ _ _;refine aal (adS hS rfl ?_);have Jw:=abh (Obj.mapSeq (·.push Value.none)) hS rfl;refine adS (hz:=by seq_fits) Jw rfl ?_;have Za:=abh (Obj.mapSeq (·.pop)) Jw rfl;have Bw:∀b o,b≠S->s.heap.get? b=some o->((s.heap.update S (Obj.mapSeq (·.push Value.none))).update S (Obj.mapSeq (·.pop))).get? b=some o:=
  λb o hb e=>(aaH _ _ (abO hb)).trans ((aaH _ _ (abO hb)).trans e)
 have I9:=TH I K3 Bw Za;exact aan ⟨aeO afq _,Rv hh NP NQ zw hR _ 0 _ H [] rfl (abX _) I9 hf (st.keep λb hb o e=>Bw b o (λz=>TJ (z▸hb)) e) hw⟩
def Rx{s:Shared}(hh:A.handled=none)(NP:l0<N)(NQ:l1<N)(TJ:S∉jG N)(zw:ZW X.K k0 k1 l0 l1 yU yV S W)
  (hR:∀ys H s',Inv X pins O H s'->W (min yU.length yV.length) ys H->R (.ok (.ret .none)) s')(I:Inv X pins O H s)(hf:∀b∈jG N,nZ X pins H b)(st:uV N k0 k1 l0 l1 0 s.heap)(hw:W 0 [] H):
  wpAny (model X.prog X.w) A.in1 (Builtin.«list.__init__» ⟨[.ref S,.ref (N+4)],[]⟩)
   (λfin s'=>match fin with|.done f=>R (.ok f) s'|.again c'=>c'.quiet=true/\codeAny (model X.prog X.w) A c' R s') (λe s'=>R (.error e) s') s:=by
 obtain⟨_,_,K3,_,_⟩:=zw _ _ _ hw;obtain⟨_,its,n,rv,hS⟩:=N9 I K3;cases rv;show wpAny _ A.in1 (do let old <-Builtin.List.listItems (.ref S);Builtin.List.listUpdate (.ref S) (λ_=>#[]);letGo old.toList.reverse;Builtin.List.listExtendWith (.ref S) (.ref (N+4)) .none) _ _ s;refine aal ?_;unfold Builtin.List.listItems;refine aal (aby hS rfl (aan ?_));show wpAny _ A.in1 (updateSeq S (λ_=>#[]) >>= λ_=>letGo (#[]:AAK).toList.reverse >>= λ_=>Builtin.List.listExtendWith (.ref S) (.ref (N+4)) .none) _ _ s;refine aal (adS hS rfl ?_);have Jw:=abh (Obj.mapSeq (λ_=>(#[]:AAK))) hS rfl;have Bw:∀b o,b≠S->s.heap.get? b=some o->(s.heap.update S (Obj.mapSeq (λ_=>(#[]:AAK)))).get? b=some o:=
  λb o hb e=>(aaH _ _ (abO hb)).trans e
 refine aal (adO ?_);exact Lm hh NP NQ TJ zw hR (TH I K3 Bw Jw) hf (st.keep λb hb o e=>Bw b o (λz=>TJ (z▸hb)) e) hw
end
section
variable {X:Cx}{pins:AAG}{O:St}{A:Around}{E:AAE}{N:Nat}{k0 k1:Bool}{l0 l1:Nat}{yU yV:List V}
def Fo{s:Shared}{Q:AAE}(hh:A.handled=none)(NP:l0<N)(NQ:l1<N)(I:Inv X pins O H s)(hf:∀b∈jG N,nZ X pins H b)(st:uV N k0 k1 l0 l1 0 s.heap)
  (h:∀S,H S=none->∃W,ZW X.K k0 k1 l0 l1 yU yV S W/\W 0 [] (upd H S (.lst []))/\∀ys H' s',Inv X pins O H' s'->W (min yU.length yV.length) ys H'->Q (.ref S) s'):wpAny (model X.prog X.w) A (call (.type "list") [.ref (N+4)]) Q E s:=by
 refine callType_codes (Q₁:=λobj s₁=>obj= .ref s.heap.objs.size/\s₁={s with heap:=s.heap.push {cls:=.type "list",data:=.seq #[]}}) F.called_list (F.typeCall_list_1 _) F.entry_list_init
  (code_list_new _ ⟨rfl,rfl⟩) λobj s₁ h₁=>?_
 obtain⟨rfl,rfl⟩:=h₁;have hS:(s.heap.push {cls:=.type "list",data:=.seq #[]}).get? s.heap.objs.size=some {cls:=.type "list",data:=.seq #[]}:=aas _ rfl;have hn:H s.heap.objs.size=none:=I.hok.fresh (aaq _);obtain⟨W,zw,w0,q⟩:=h _ hn;have I1:=I.laid (a:=s.heap.objs.size) (o:=.lst []) (t':=s.toks) (h':=s.heap.push {cls:=.type "list",data:=.seq #[]}) (λ_ _ z=>aam _ z) (aaq _) (show cR X.prog X.w _ _ _ (.lst []) from⟨abX _,[],0,.nil,hS⟩);have TJ:s.heap.objs.size∉jG N:=λz=>by have h1:=bu.mp z;have h2:=st.lt;lia
 refine⟨⟨_,hS,rfl⟩,F.args_list_init_2 _ _,Rx (A:=A.in1) hh NP NQ TJ zw (λys H' s' I' w'=>⟨rfl,q ys H' s' I' w'⟩) I1 (λb hb=>?_) (st.keep λb hb o e=>aam _ e) w0⟩;obtain⟨f0,f1,f2,f3,f4,f5⟩:=hf b hb;have Ll:b≠s.heap.objs.size:=λz=>TJ (z▸hb);exact⟨by rw[aR Ll];exact f0,f1,f2,f3,f4,f5⟩
end
noncomputable def Dn(a b:List D):List D:=List.zipWith (λa b=>.tup [a,b]) a b
def Cz:List D->Option U
 |[d,e]=>(xw d).bind λq=>(xw e).map λr=>.m (.lst (Dn q.2 r.2))
 |_=>none
def Oa{u:U}(h:Cz ds=some u):∃d e k0 Jf k1 Mi,ds=[d,e]/\xw d=some (k0,Jf)/\xw e=some (k1,Mi)/\u= .m (.lst (Dn Jf Mi)):=by
 unfold Cz at h;split at h
 .obtain⟨⟨k0,Jf⟩,h1,h⟩:=ah h;obtain⟨⟨k1,Mi⟩,h2,rfl⟩:=aB h;exact⟨_,_,k0,Jf,k1,Mi,rfl,h1,h2,rfl⟩
 .cases h
def take_snoc{α:Type}{l:List α}{x:α}(h:l[i]? =some x):l.take (i+1)=l.take i++[x]:=by
 rw[List.take_succ,h];rfl
section
variable {X:Cx}{a b:Expr}{p p2 pos pos2:Pos}{t:TA}{gA:GA}
def acX{F0 H1:Hp}{S:Addr}{a0 a1:Addr}{yU yV:List V}{Jf Mi:List D}(hS:H1 S=none)(r0:bE F0 yU Jf)(r1:bE F0 yV Mi)
  (s0:∀F' H',(∀b o,F0 b=some o->F' b=some o)->Sub F' H'->Mh K H' k0 a0 yU)(s1:∀F' H',(∀b o,F0 b=some o->F' b=some o)->Sub F' H'->Mh K H' k1 a1 yV):
  ZW K k0 k1 a0 a1 yU yV S λi ys H=>∃F,fW F0 H1 F H/\Sub F H/\F S=none/\H S=some (.lst ys)/\ys.length=i/\bE F ys ((Dn Jf Mi).take i):=by
 rintro i ys H ⟨F,n,sb,fS,hSl,hl,rs⟩;refine⟨s0 F H n.le sb,s1 F H n.le sb,hSl,hl,λx0 x1 q h0 h1 hq=>?_⟩;have hqS:q≠S:=λz=>by rw[z,hSl]at hq;cases hq
 have fq:F q=none:=sb.fresh hq;have le:∀b o,F b=some o->upd F q (.tup [x0,x1]) b=some o:=pq fq;obtain⟨d0,e0,k0'⟩:∃d,Jf[i]? =some d/\Rep F0 x0 d:=by
  have hl0:=r0.length;have:i<Jf.length:=by rw[<-hl0];exact(aaA.mp h0).1
  obtain⟨v,e1,e2⟩:=r0.get (i:=i) (d:=Jf[i]) (aaz this);rw[h0]at e1;cases e1;exact⟨_,aaz this,e2⟩
 obtain⟨d1,e1,k1'⟩:∃d,Mi[i]? =some d/\Rep F0 x1 d:=by
  have hl0:=r1.length;have:i<Mi.length:=by rw[<-hl0];exact(aaA.mp h1).1
  obtain⟨v,e1,e2⟩:=r1.get (i:=i) (d:=Mi[i]) (aaz this);rw[h1]at e1;cases e1;exact⟨_,aaz this,e2⟩
 have ez:(Dn Jf Mi)[i]? =some (.tup [d0,d1]):=by
  unfold Dn;rw[List.getElem?_zipWith,e0,e1]
 refine⟨upd F q (.tup [x0,x1]),⟨λc o z=>le c o (n.le c o z),λc o z=>?_,λc o z f=>?_⟩,λc o z=>?_,?_,aZ,by simp[hl],?_⟩
 .have h1:c≠S:=bJ z hS;have h2:c≠q:=bJ (n.same c o z) hq;rw[aR h1,aR h2];exact n.same c o z
 .have h2:c≠q:=bJ (n.same c o z) hq;rw[aR h2];exact n.kh c o z f
 .by_cases h2:c=q
  .subst h2;rw[aZ]at z;rw[aR hqS,aZ];exact z
  .rw[aR h2]at z;have h1:c≠S:=λw=>by rw[w,fS]at z;cases z
   rw[aR h1,aR h2];exact sb c o z
 .rw[aR (abO hqS)];exact fS
 .rw[take_snoc ez];exact(rs.le le).append (.cons (.tup aZ (.cons (k0'.le λc o z=>le c o (n.le c o z)) (.cons (k1'.le λc o z=>le c o (n.le c o z)) .nil))) .nil)
def HM(hc:X.calm=true)(hg:Gl X "list")(hm:X.mg "list" =none)(Mf:Gl X "zip")(hm2:X.mg "zip" =none)(ha:PA X [a,b] t)(hs:starEach [a,b] X.env=[(false,eval a X.env),(false,eval b X.env)]:=by rfl)(hs2:starEach [b] X.env=[(false,eval b X.env)]:=by rfl)
  (Vg:starEach [.Call (.Name "zip" p2) [a,b] [] pos2] X.env=[(false,eval (.Call (.Name "zip" p2) [a,b] [] pos2) X.env)]:=by rfl):
  PE X (.Call (.Name "list" p) [.Call (.Name "zip" p2) [a,b] [] pos2] [] pos) (λO H Q=>t O H λvs H1=>rP Cz vs H1 Q):=by
 intro pins s O H Q I h;refine abU (lP I hg hm PyProof.Rows.Boot.list ?_);refine abW ?_ (by rw[Vg];rfl) rfl;rw[Vg];refine ab9 (Call_ (lP I Mf hm2 boot_zip (abW (cS (ha pos2 pins s O H _ I h) λus s1 hh=>?_) (by rw[hs,hs2]) (by rw[hs2];rfl))));obtain⟨vs,H1,I1,r1,q1⟩:=hh;obtain⟨F0,ds,w,sb,rs,hw,q⟩:=q1;obtain⟨d,e,k0,Jf,k1,Mi,rfl,e0,e1,rfl⟩:=Oa hw;cases rs with
 |cons ra rs=>
  cases rs with
  |cons rb rs=>
   cases rs;obtain⟨a0,yU,rfl,y0,z0⟩:=sb.NU (K:=X.K) ra e0;obtain⟨a1,yV,rfl,y1,z1⟩:=sb.NU (K:=X.K) rb e1;obtain⟨u0,u1,rfl,v0,v1⟩:=r1.two;cases v0;cases v1;obtain⟨Y8,rv0,p0,hz0⟩:=I1.Rb (z0 F0 H1 (λ_ _ z=>z) sb);obtain⟨Y9,rv1,p1,hz1⟩:=I1.Rb (z1 F0 H1 (λ_ _ z=>z) sb);refine NS p0 p1 λh' st hk=>aeB ?_;have I2:=I1.kept (t':=s1.toks) hk;refine Fo (X:=X) (yU:=yU) (yV:=yV) (I1.ok.hd hc) p0.lt p1.lt I2 (λb hb=>?_) st.l λS hS=>⟨_,acX hS y0 y1 z0 z1,⟨F0,fW.obj hS _,sb.same (fW.obj (F:=F0) hS _).same,sb.fresh hS,aZ,rfl,.nil⟩,λys H' s' I' w'=>?_⟩
   .have hb:s1.heap.objs.size<=b:=(bu.mp hb).1;exact I1.Er hb (I1.hok.fresh hb)
   .obtain⟨F,n,sb',fS,hSl,hl,rs⟩:=w';refine⟨.ref S,H',I',rfl,q _ F H' n sb' ⟨S,rfl,hS,fS,ys,hSl,?_⟩⟩;rw[afT (by unfold Dn;rw[List.length_zipWith,<-y0.length,<-y1.length];exact aaq _)]at rs;exact rs
def HN(hc:X.calm=true)(hg:Gl X "list")(hm:X.mg "list" =none)(Mf:Gl X "zip")(hm2:X.mg "zip" =none)(ha:JA X [a,b] gA)(hs:starEach [a,b] X.env=[(false,eval a X.env),(false,eval b X.env)]:=by rfl)(hs2:starEach [b] X.env=[(false,eval b X.env)]:=by rfl)
  (Vg:starEach [.Call (.Name "zip" p2) [a,b] [] pos2] X.env=[(false,eval (.Call (.Name "zip" p2) [a,b] [] pos2) X.env)]:=by rfl):
  JE X (.Call (.Name "list" p) [.Call (.Name "zip" p2) [a,b] [] pos2] [] pos) (eP Cz gA):=
 ⟨λB=>(HM hc hg hm Mf hm2 (ha.h B) hs hs2 Vg).imp λO H Q h=>lT (λ_ _ _ z=>z) h⟩
end
noncomputable def Itv(K:AAD)(a:Addr)(n:Nat):It:=
 ⟨λi H=>∃xs,oW K H a xs/\xs.length=n/\i<n,λi H x H'=>H'=H/\∀xs,oW K H a xs->xs[n-1-i]? =some x,λi H=>∃xs,oW K H a xs/\xs.length=n/\n<=i⟩
def Ob{P:Program}{w:World}{tg:Expr}(a it:Addr)(n:Nat):Turn P w K tg (Itv K a n) [it] it (λi h=>i<=n/\h.IsRevIter it a ((n:Int)-1-(i:Int))) where
 mem:=by simp
 obj:=λi h st b hb=>by
  have e:b=it:=by simpa using hb
  subst e;obtain⟨_,o,e,c,d⟩:=st;exact⟨o,e,λv z=>by rw[d]at z;cases z⟩
 keep:=λi h h' st k=>⟨st.1,st.2.at λo e=>k it (by simp) o e⟩
 item:=by
  intro X hP hw hK hc i pins s O H E I hf st hg;subst hP hw hK;obtain⟨xs,hq,hl,hi⟩:=hg;obtain⟨its,rv,p,hz⟩:=I.list hq;have el:=rv.length;obtain⟨x,hx⟩:∃x,xs[n-1-i]? =some x:=⟨xs[n-1-i]'(by lia),aaz _⟩
  obtain⟨u,hu,ru⟩:=rv.get hx;obtain⟨f0,f1,f2,f3,f4,f5⟩:=hf it (by simp);have e:(n:Int)-1-(i:Int)=((n-1-i:Nat):Int):=by lia
  have hit:=st.2;rw[e]at hit;refine wpAny_pyNext_rev_item hit p.isList (x:=u) (by simpa using hu) λh' st' sb=>?_;have I1:Inv X pins O H {s with heap:=h'}:=I.turned (t':=s.toks) (λb o hb e=>(sb.2 b hb).trans e) f0 f1 f3 f4 f5;have e2:((n-1-i:Nat):Int)-1=(n:Int)-1-((i+1:Nat):Int):=by lia
  rw[e2]at st';obtain⟨o,e,c,d⟩:=id st';exact⟨u,rfl,IE (s:={s with heap:=h'}) e c d (by decide) ⟨x,H,I1,ru,⟨rfl,λys hy=>by rw[I.zK hy hq];exact hx⟩,⟨hi,st'⟩,λb hb=>(hf b hb).1⟩⟩
 done:=by
  intro X hP hw hK hc i pins s O H E I hf st hg;subst hP hw hK;obtain⟨xs,hq,hl,hi⟩:=hg;obtain⟨f0,f1,f2,f3,f4,f5⟩:=hf it (by simp);have e:(n:Int)-1-(i:Int)=-1:=by have:=st.1;lia
  have hit:=st.2;rw[e]at hit;exact wpAny_pyNext_rev_end (I.ok.hd hc) hit λh' eb=>⟨rfl,I.turned (t':=s.toks) (λb o hb e=>eb b o hb e) f0 f1 f3 f4 f5⟩
 self:=λ_ _ _ _ _ st h=>wpAny_pyIter_revIter st.2 h
section
variable {X:Cx}{tg a b:Expr}{p pos:Pos}{ta:TA}{gA:GA}
def ac0(K:AAD)(ta:TA):TI:=λO H R=>ta O H λvs H1=>∃c xs,vs=[.ref c]/\oW K H1 c xs/\R (Itv K c xs.length) H1
def Vy(hg:Gl X "reversed")(hm:X.mg "reversed" =none)(ha:PA X [a] ta)(hs:starEach [a] X.env=[(false,eval a X.env)]:=by rfl):PI X tg (.Call (.Name "reversed" p) [a] [] pos) (ac0 X.K ta):=by
 intro pins s O H R I h;refine Call_ (lP I hg hm boot_reversed (abW (cS (ha pos pins s O H _ I h) λus s1 hh=>?_) hs rfl));obtain⟨vs,H1,I1,r1,q1⟩:=hh;obtain⟨c,xs,e,hq,q⟩:=q1;subst e;cases r1 with
 |cons r rr=>
  cases rr;cases r;obtain⟨its,rv,pl,hz⟩:=I1.list hq;have el:=rv.length;refine call_reversed_list pl.isList ?_;have I2:Inv X pins O H1 {s1 with heap:=s1.heap.push (revObj c ((its.toArray.size:Int)-1))}:=I1.kept (t':=s1.toks) λb o e=>aam _ e;have st:(s1.heap.push (revObj c ((its.toArray.size:Int)-1))).IsRevIter s1.heap.objs.size c ((its.toArray.size:Int)-1):=⟨_,aas _ rfl,rfl,rfl⟩
  refine wpAny_pyIter_revIter (s:={s1 with heap:=s1.heap.push (revObj c ((its.toArray.size:Int)-1))}) st ?_;refine⟨s1.heap.objs.size,[s1.heap.objs.size],_,_,H1,rfl,I2,Ob c _ xs.length,⟨abX _,?_⟩,λb hb=>?_,q⟩
  .have e:(its.toArray.size:Int)-1=(xs.length:Int)-1-((0:Nat):Int):=by simp;lia
   rw[<-e];exact st
  .have e:b=s1.heap.objs.size:=by simpa using hb
   subst e;exact I1.Er (aaq _) (I1.hok.fresh (aaq _))
def Oc{F:Hp}{c:Addr}{vs:List V}(fa:Rd F c (.lst vs))(rs:bE F vs ds):Walk (Itv K c vs.length) F ds.reverse:=λF' H' le sb i=>by
 have ha:oW K H' c vs:=.inl (fa.same λb o z=>sb b o (le b o z));have hl:=rs.length;refine⟨λd hd=>?_,λhi=>⟨vs,ha,rfl,by rw[agg]at hi;lia⟩⟩;have hi:i<ds.length:=by have:=(aaA.mp hd).1;simpa using this
 rw[List.getElem?_reverse hi]at hd;obtain⟨v,h1,h2⟩:=rs.get hd;refine⟨⟨vs,ha,rfl,by lia⟩,λx H2 y=>⟨y.1,?_⟩⟩;have:=y.2 vs ha;rw[hl,h1]at this;cases this;exact h2.le le
noncomputable def Vz(gA:GA):GI:=λS=>(gA S).bind λp=>match p.1 with
 |[.lst ds]=>some (ds.reverse,p.2)
 |_=>none
def VA(hg:Gl X "reversed")(hm:X.mg "reversed" =none)(ha:JA X [a] gA)(hs:starEach [a] X.env=[(false,eval a X.env)]:=by rfl):JI X tg (.Call (.Name "reversed" p) [a] [] pos) (Vz gA):=⟨λB=>PI.orelse λO H R0 hh=>by
 obtain⟨S,F,ds,S',R,hg',k⟩:=hh;obtain⟨⟨args,S1⟩,h1,hg'⟩:=ah hg';dsimp only at hg';split at hg'
 .rename_i l;cases hg';refine⟨_,Vy hg hm (ha.h B) hs,S,F,_,_,R,h1,λvs F1 H1 R1 st1 r1=>?_⟩;cases r1 with
  |cons r rr=>
   cases rr;obtain⟨c,xs,rfl,fa,hq,rs⟩:=R1.sub.jo r;exact⟨c,xs,rfl,.inl hq,k _ F1 H1 R1 st1 (Oc fa rs)⟩
 .cases hg'⟩
variable {p2 pos2:Pos}
end
end L2
end
section
namespace L2
open PySem PySem.Spec PyProof.Rows
def Zb:List D->Option U
 |[.lst ds]=>(ou ds).bind λns=>if ns.length<=1000 then some (.t (.int (firstMet (λi=>ns.getD i 0) ns.length).length)) else none
 |_=>none
def mW:List D->Option U
 |[d,.cD]=>some (.t (.bl (!vU d)))
 |_=>none
def Ao{X:Cx}:Bv X (compareOp .IsNot) mW:=by
 intro pins s O H x y v u Q I rx ry ⟨F,ds,w,sb,rs,hw,q⟩;obtain⟨d,e,rfl,r1,r2⟩:=qR rs;cases e<;>try (cases d<;>cases hw;done)
 cases hw;cases r2;refine P6 pins s O H _ _ v u Q I rx ry ⟨rfl,?_⟩;have k:Rep F (V.bl (!decide (x= .cD))) (.bl (!vU d)):=by
  cases r1<;>exact .bl _
 exact q _ F H (fW.refl ..) sb k
@[simp] theorem W9(d:D):mW [d,.cD]=AAA (.bl (!vU d)):=rfl
structure NB(B B':Base)(N:BBE):Prop where
 p:B'.P=B.P
 f:B'.F=B.F
 out:∀c,c∉N->B'.H c=B.H c
 new:∀c,c∈N->B.H c=none/\¬B.M c/\B.F c=none
abbrev GN:=Addr->SS->List (List D)->Option (SS×List (List D))
end L2
end
section
namespace L2
open PySem PySem.Spec PyProof.Rows PySem.Calls
end L2
end
section
namespace L2
open PySem PySem.Spec PyProof.Rows PySem.Calls PyProof.V
end L2
end
section
namespace L2
open PySem PySem.Spec PyProof.Rows
section
variable (S:SS)(d e:D)(o:MO)(i j:Nat)(g ga gb gc:GD)(ge:GE)(q q1 q2:GT)(gA:GA)(gu:GU)(a b:GS)(f f':List D->Option U)(fm:FM)(bd:GB)(gi:GI)
@[simp] theorem ac1:ao i S=match S[i]? with|some (some (.t d))=>some (.t d,S)|some (some (.s d))=>some (.s d,S)|some (some (.f d))=>some (.f d,S)|some (some (.x C k))=>some (.x C k,S)|some (some _)=>some (.v i,S)|_=>none:=rfl
@[simp] theorem agU:eC d S=some (d,S):=rfl
@[simp] theorem ac2:ak S=some ([],S):=rfl
@[simp] theorem aaL:aa g gA S=(g S).bind λp=>(gA p.2).map λq=>(p.1::q.1,q.2):=rfl
@[simp] theorem agV:eP f gA S=(gA S).bind λp=>(f p.1).map λu=>(u,p.2):=rfl
@[simp] theorem agW:eF ge S=(ge S).bind λp=>fz p.1 p.2:=rfl
@[simp] theorem agX:eT g S=(g S).map λp=>(.t p.1,p.2):=rfl
@[simp] theorem ac3:fz (.t d) S=some (d,S):=rfl
@[simp] theorem ac4(ds:List D):fz (.m (.lst ds)) S=some (.lst ds,S):=rfl
@[simp] theorem ac5:fz (.v i) S=match S[i]? with|some (some (.t d))=>some (d,S)|some (some (.m (.lst ds)))=>some (.lst ds,S.set i (some (.t (.lst ds))))|_=>none:=rfl
@[simp] theorem agY:qB g S=(g S).bind λp=>match p.1 with|.bl k=>some (k,p.2)|_=>none:=rfl
@[simp] theorem ac6:qx q S=(q S).map λp=>(!p.1,p.2):=rfl
@[simp] theorem ac7:qy q1 q2 S=(q1 S).bind λp=>if p.1 then q2 p.2 else some (false,p.2):=rfl
@[simp] theorem Zd:nu q1 q2 S=(q1 S).bind λp=>if p.1 then some (true,p.2) else q2 p.2:=rfl
@[simp] theorem agZ:eQ q S=(q S).map λp=>(.bl p.1,p.2):=rfl
@[simp] theorem aaM:iy S=some (true,S):=rfl
@[simp] theorem ae8:eCh f f' ga gb gc S=(ga S).bind λp=>(gb p.2).bind λq=>match f [p.1,q.1] with
 |some (.t (.bl k))=>if k then(gc q.2).bind λr=>match f' [q.1,r.1] with
   |some (.t (.bl k'))=>some (.bl k',r.2)
   |_=>none
  else some (.bl false,q.2)
 |_=>none:=rfl
@[simp] theorem ae9(g1 g2:GE):eIf q g1 g2 S=(q S).bind λp=>if p.1 then g1 p.2 else g2 p.2:=rfl
@[simp] theorem ac8:b7 S=some (.nx S):=rfl
@[simp] theorem ac9:aW a b S=(a S).bind λo=>match o with|.nx S1=>b S1|o=>some o:=rfl
@[simp] theorem ada:bX i ge S=(ge S).bind λp=>match p.1 with|.m o=>(qU i (.m o) p.2).map .nx|u=>(fz u p.2).bind λq=>(qU i (.t q.1) q.2).map .nx:=rfl
@[simp] theorem fM(u:U):qU i u S=match S[i]? with|some (some (.b _))=>none|some _=>some (S.set i (some u))|none=>none:=rfl
@[simp] theorem aaN:kq ge S=(ge S).map λp=>.nx p.2:=rfl
@[simp] theorem adb:bK ge S=(ge S).bind λp=>match p.1 with
 |.v i=>match p.2[i]? with
  |some (some (.t d))=>some (.rt (.t d) p.2)
  |some (some (.m o))=>some (.rt (.m o) (p.2.set i none))
  |_=>none
 |.s _=>none
 |.f _=>none
 |.x _ _=>none
 |u=>some (.rt u p.2):=rfl
@[simp] theorem Od:fH q a b S=(q S).bind λp=>if p.1 then a p.2 else b p.2:=rfl
@[simp] theorem ade:U7 bd g S=(g S).bind λp=>(bd p.1 p.2).map .nx:=rfl
@[simp] theorem aaO:bName i d S=qU i (.t d) S:=rfl
@[simp] theorem Oe:qz bd gi a S=(gi S).bind λp=>loop bd a p.1 p.2:=rfl
@[simp] theorem mX:gH gA S=(gA S).bind λp=>match p.1 with|[.int j]=>if j<1000000/\-1000000<j then some (vF 0 j.toNat,p.2) else none|_=>none:=rfl
@[simp] theorem VB:loop bd a [] S=some (.nx S):=rfl
@[simp] theorem adf:aY S=some ([],S):=rfl
@[simp] theorem adg:aQ g gu S=(g S).bind λp=>(gu p.2).map λq=>(.t p.1::q.1,q.2):=rfl
@[simp] theorem adh:iD ge gu S=(ge S).bind λp=>(gu p.2).map λq=>(p.1::q.1,q.2):=rfl
@[simp] theorem aaP:aO fm gu S=(gu S).bind λp=>if(slotsOf p.1).Nodup/\cu p.1<=1 then(bT p.2 p.1).bind λus=>(fm us).bind λr=>(wb p.1 r.2 p.2).map λS2=>(r.1,S2) else none:=rfl
@[simp] theorem Xa:bT S []=some []:=rfl
@[simp] theorem VC(u:U)(us:List U):bT S (u::us)=(resolve S u).bind λw=>(bT S us).map λws=>w::ws:=rfl
@[simp] theorem aaQ:resolve S (.t d)=AAA d:=rfl
@[simp] theorem aaR:resolve S (.m o)=some (.b o):=rfl
@[simp] theorem aaS(ns:BBD):resolve S (.s ns)=some (.s ns):=rfl
@[simp] theorem aaT:resolve S (.v i)=match S[i]? with|some (some (.m o))=>some (.b o)|some (some (.b o))=>some (.b o)|_=>none:=rfl
@[simp] theorem Ze:slotsOf []=[]:=rfl
@[simp] theorem adi(us:List U):slotsOf (.t d::us)=slotsOf us:=rfl
@[simp] theorem adk(us:List U):slotsOf (.m o::us)=slotsOf us:=rfl
@[simp] theorem adl(ns:BBD)(us:List U):slotsOf (.s ns::us)=slotsOf us:=rfl
@[simp] theorem adm(us:List U):slotsOf (.v i::us)=i::slotsOf us:=rfl
@[simp] theorem Zf:cu []=0:=rfl
@[simp] theorem adn(us:List U):cu (.t d::us)=cu us:=rfl
@[simp] theorem ado(us:List U):cu (.m o::us)=cu us+1:=rfl
@[simp] theorem adp(ns:BBD)(us:List U):cu (.s ns::us)=cu us:=rfl
@[simp] theorem adq(us:List U):cu (.v i::us)=cu us:=rfl
@[simp] theorem Zg:wb [] [] S=some S:=rfl
@[simp] theorem ads(us:List U)(os:List MO):wb (.t d::us) os S=wb us os S:=by cases os<;>rfl
@[simp] theorem adt(ns:BBD)(us:List U)(os:List MO):wb (.s ns::us) os S=wb us os S:=by cases os<;>rfl
@[simp] theorem adu(us:List U)(os:List MO):wb (.m o::us) (o'::os) S=wb us os S:=rfl
@[simp] theorem adv(us:List U)(os:List MO):wb (.v i::us) (o::os) S=match S[i]? with|some (some (.m _))=>wb us os (S.set i (some (.m o)))|some (some (.b _))=>wb us os (S.set i (some (.b o)))|_=>none:=rfl
@[simp] theorem adw:b9 i gb S=match S[i]? with|some (some _)=>(gb S).bind λp=>(match p.2[i]? with|some (some u)=>(uz u p.1).map λd=>(d,p.2)|_=>none)|_=>none:=rfl
@[simp] theorem adx:lE i S=match S[i]? with|some (some u)=>(EY u).map λn=>(.int (n:Nat),S)|_=>none:=rfl
@[simp] theorem ag0(h:List D->MO->Option (D×MO)):eM i h gA S=if YF S i then(gA S).bind λp=>BF p.2 i (h p.1) else none:=rfl
@[simp] theorem ady(gk gv:GD):ND i gk gv S=(gv S).bind λp=>match p.2[i]? with|some (some _)=>(gk p.2).bind λr=>(BF r.2 i λo=>(uU o r.1 p.1).map λo'=>(.cD,o')).map λz=>.nx z.2|_=>none:=rfl
@[simp] theorem afa(Ts:List String):Vd Ts g S=(g S).bind λp=>(ES Ts p.1).map λb=>(.bl b,p.2):=rfl
@[simp] theorem VD(ds:List D)(k:Int):uz (.t (.tup ds)) (.int k)=ia ds k:=rfl
@[simp] theorem VE(ds:List D)(k:Int):uz (.t (.lst ds)) (.int k)=ia ds k:=rfl
@[simp] theorem VF(ds:List D)(k:Int):uz (.m (.lst ds)) (.int k)=ia ds k:=rfl
@[simp] theorem VG(ds:List D)(k:Int):uz (.b (.lst ds)) (.int k)=ia ds k:=rfl
@[simp] theorem VH(kvs:List (Key×D))(k:D):uz (.b (.dct kvs)) k=(keyOf k).bind (dY kvs):=by cases k<;>rfl
@[simp] theorem Xb(ns:BBD)(k:Int):uz (.s ns) (.int k)=(ia ns k).map D.int:=rfl
@[simp] theorem aaU(k:Int):keyOf (.int k)=some (.inl k):=rfl
@[simp] theorem aaV(k:Str):keyOf (.str k)=some (.inr k):=rfl
@[simp] theorem Xc(ds:List D):EY (.t (.tup ds))=some ds.length:=rfl
@[simp] theorem Xd(ds:List D):EY (.t (.lst ds))=some ds.length:=rfl
@[simp] theorem Xe(ds:List D):EY (.m (.lst ds))=some ds.length:=rfl
@[simp] theorem Xf(ds:List D):EY (.b (.lst ds))=some ds.length:=rfl
@[simp] theorem Zh(ns:BBD):EY (.s ns)=some ns.length:=rfl
@[simp] theorem afb(C:Int->Int->Bool)(h:Int->Int->D)(x y:Int):Me C h [.int x,.int y]=if C x y then AAA (h x y) else none:=rfl
@[simp] theorem Zi(x y:Int):dg [.int x,.int y]=AAC (x+y):=rfl
@[simp] theorem Zj(x y:Str):dg [.str x,.str y]=if x.length+y.length<=100000 then AAA (.str (x++y)) else none:=rfl
@[simp] theorem Zk(x y:List D):dg [.tup x,.tup y]=if x.length+y.length<=100000 then AAA (.tup (x++y)) else none:=rfl
@[simp] theorem Zl(x y:List D):dg [.lst x,.lst y]=if x.length+y.length<=100000 then AAB (x++y) else none:=rfl
@[simp] theorem adz(x y:Int):EJ [.int x,.int y]=if((decide (-(2 ^ 64)<x) && decide (x<2 ^ 64)) || (decide (-(2 ^ 64)<y) && decide (y<2 ^ 64))) then AAC (x*y) else none:=rfl
@[simp] theorem adA(x:Int):C5 [.int x]=AAC (-x):=rfl
@[simp] theorem adB(ds:List D):cK ds=if ds.length<=100000 then AAA (.tup ds) else none:=rfl
@[simp] theorem adC(ds:List D):kj ds=if ds.length<=100000 then AAB ds else none:=rfl
@[simp] theorem aaW(ds:List D)(k:Int):Pz [.tup ds,.int k]=(ia ds k).map .t:=rfl
@[simp] theorem aaX(ds:List D)(k:Int):Pz [.lst ds,.int k]=(ia ds k).map .t:=rfl
@[simp] theorem afc:lD [d,e]=if lU d<=40 then AAA (.bl (De d e)) else none:=rfl
@[simp] theorem afd:BG [d,e]=if lU d<=40 then AAA (.bl (!De d e)) else none:=rfl
@[simp] theorem aaY(x y z:Int):YN [.int x,.int y,.int z]=AAC (if y<x then(if z<y then z else y) else if z<x then z else x):=rfl
@[simp] theorem aaZ(x y:Int):Jj [.int x,.int y]=AAC (if y > x then y else x):=rfl
@[simp] theorem Zm(ds:List D):C6 [.tup ds]=AAC ds.length:=rfl
@[simp] theorem Zn(ds:List D):C6 [.lst ds]=AAC ds.length:=rfl
@[simp] theorem Xg(ds:List D):Tu [.tup ds]=AAB ds:=rfl
@[simp] theorem Xh(ds:List D):Tu [.lst ds]=AAB ds:=rfl
@[simp] theorem VI(ds:List D):Dg [.tup ds]=AAA (.tup ds):=rfl
@[simp] theorem VJ(ds:List D):Dg [.lst ds]=AAA (.tup ds):=rfl
@[simp] theorem adD(ds:List D):Nz [.lst ds]=(pF ds).map λbs=>.t (.bl (bs.all id)):=rfl
@[simp] theorem Ry:E1 [d]=if K5 d then AAA (.str (toPy d).shown) else none:=rfl
@[simp] theorem aa0(x y:Str):De (.str x) (.str y)=(x == y):=by kernel_rfl
@[simp] theorem aa1(x y:Int):De (.int x) (.int y)=(x == y):=by kernel_rfl
@[simp] theorem aa2(x y:Bool):De (.bl x) (.bl y)=(x == y):=by kernel_rfl
@[simp] theorem aa3(x:Str):lU (.str x)=0:=by kernel_rfl
@[simp] theorem aa4(x:Int):lU (.int x)=0:=by kernel_rfl
@[simp] theorem aa5(x:Bool):lU (.bl x)=0:=by kernel_rfl
@[simp] theorem adE(h:MO->Option (D×MO)):BF S i h=match S[i]? with|some (some (.m o))=>(h o).map λr=>(r.1,S.set i (some (.m r.2)))|some (some (.b o))=>(h o).map λr=>(r.1,S.set i (some (.b r.2)))|_=>none:=rfl
@[simp] theorem afe:YF S i=match S[i]? with|some (some (.m (.lst _)))=>true|some (some (.b (.lst _)))=>true|_=>false:=rfl
@[simp] theorem Xi(kvs:List (Key×D))(k:D):uU (.dct kvs) k d=(keyOf k).bind λkk=>if kvs.length<100000 then some (.dct (putD kvs kk d)) else none:=rfl
@[simp] theorem Xj(ds:List D)(k:Int):uU (.lst ds) (.int k) d=(IT ds.length k).map λj=>.lst (ds.set j d):=rfl
@[simp] theorem Zo(ds:List D):hAppend [d] (.lst ds)=if ds.length<100000 then some (.cD,.lst (ds++[d])) else none:=rfl
@[simp] theorem Xk:b8 [] S=some []:=rfl
@[simp] theorem aa6(us:List U)(o2:MO):b8 (.b o2::us) (some (.b o)::S)=(b8 us S).map λos=>o::os:=rfl
@[simp] theorem Jx(us:List U)(x:Option U):b8 (.t d::us) (x::S)=b8 us S:=rfl
@[simp] theorem aa7(ns:BBD)(us:List U)(x:Option U):b8 (.s ns::us) (x::S)=b8 us S:=rfl
@[simp] theorem aa8(us:List U)(x:Option U):b8 (.m o::us) (x::S)=b8 us S:=rfl
@[simp] theorem aa9(us:List U)(x:Option U):b8 (.v i::us) (x::S)=b8 us S:=rfl
@[simp] theorem aba(a:Addr)(us:List U)(x:Option U):b8 (.f a::us) (x::S)=b8 us S:=rfl
end
structure dh where
 c:Int
 l:Int
 n:Int
noncomputable def eO(t:dh):List (Key×D):=[(.inr "cell",.int t.c),(.inr "left",.int t.l),(.inr "turn",.int t.n)]
noncomputable def Dp:List (Key×D)->Option dh
 |[(k1,.int c),(k2,.int l),(k3,.int n)]=>if k1= .inr "cell"/\k2= .inr "left"/\k3= .inr "turn" then some ⟨c,l,n⟩ else none
 |_=>none
@[simp] theorem VL(t:dh):Dp (eO t)=some t:=by kernel_rfl
def Fp{kvs:List (Key×D)}{t:dh}(h:Dp kvs=some t):kvs=eO t:=by
 unfold Dp at h;split at h
 .obtain⟨⟨rfl,rfl,rfl⟩,rfl⟩:=cj h;rfl
 .cases h
@[simp] theorem adF(t:dh):dY (eO t) (.inr "cell")=some (.int t.c):=by rfl
@[simp] theorem adG(t:dh):dY (eO t) (.inr "left")=some (.int t.l):=by rfl
@[simp] theorem adH(t:dh):dY (eO t) (.inr "turn")=some (.int t.n):=by rfl
@[simp] theorem abb(t:dh)(x:Int):putD (eO t) (.inr "turn") (.int x)=eO {t with n:=x}:=by rfl
@[simp] theorem abd(t:dh)(x:Int):putD (eO t) (.inr "left") (.int x)=eO {t with l:=x}:=by rfl
@[simp] theorem Zp(t:dh):(eO t).length=3:=rfl
noncomputable def mixed(c n:Int):Int:=(((c % 2147483647+31*(n+1)*(n+1)+1)*48271) % 2147483629+7*(n+1))*69621 % 2147483587 / 7
def yy(t:dh)(m:Int):Int:=if 0<t.l then t.l % m else mixed t.c t.n % m
noncomputable def Aq(t:dh)(m:Int):dh:=if 0<t.l then⟨t.c,t.l / m,t.n+1⟩ else⟨t.c,t.l,t.n+1⟩
def jr:FM
 |[.b (.dct kvs),.t (.int m)]=>(Dp kvs).bind λt=>if 0<m/\m<1000000/\0<=t.n/\t.n<1000000 then some (.t (.int (yy t m)),[.dct (eO (Aq t m))]) else none
 |_=>none
def q8:GS:=
 (aW (bX 2 (eP dg (aa (b9 0 (eC (.str "turn"))) (aa (eC (.int 1)) ak))))
 (aW (ND 0 (eC (.str "turn")) (eF (ao 2)))
 (aW (fH (qB (eF (eP Tn (aa (b9 0 (eC (.str "left"))) (aa (eC (.int 0)) ak))))) (aW (bX 3 (eP EI (aa (b9 0 (eC (.str "left"))) (aa (eF (ao 1)) ak))))
 (aW (ND 0 (eC (.str "left")) (eF (eP Nh (aa (b9 0 (eC (.str "left"))) (aa (eF (ao 1)) ak)))))
 (bK (ao 3)))) b7)
 (aW (bX 4 (eP EJ (aa (eF (eP dg (aa (eF (eP dg (aa (eF (eP EI (aa (b9 0 (eC (.str "cell"))) (aa (eC (.int 2147483647)) ak)))) (aa (eF (eP EJ (aa (eF (eP EJ (aa (eC (.int 31)) (aa (eF (ao 2)) ak)))) (aa (eF (ao 2)) ak)))) ak)))) (aa (eC (.int 1)) ak)))) (aa (eC (.int 48271)) ak))))
 (aW (bX 4 (eP EJ (aa (eF (eP dg (aa (eF (eP EI (aa (eF (ao 4)) (aa (eC (.int 2147483629)) ak)))) (aa (eF (eP EJ (aa (eC (.int 7)) (aa (eF (ao 2)) ak)))) ak)))) (aa (eC (.int 69621)) ak))))
 (bK (eP EI (aa (eF (eP Nh (aa (eF (eP EI (aa (eF (ao 4)) (aa (eC (.int 2147483587)) ak)))) (aa (eC (.int 7)) ak)))) (aa (eF (ao 1)) ak)))))))))
def pick_run:∀us r,jr us=some r->bz 5 q8 us=some r:=by
 intro us r h;unfold jr at h;split at h
 .rename_i kvs m;obtain⟨t,h1,h⟩:=ah h;obtain⟨⟨h2,h3,h4,h5⟩,rfl⟩:=cj h;obtain rfl:=Fp h1;have e1:-18446744073709551616<t.n+1:=by lia
  have e2:t.n+1<18446744073709551616:=by lia
  have e3:m<1073741824:=by lia
  by_cases hl:0<t.l
  .simp[bz,q8,yy,Aq,hl,h2,e3]
  .simp[bz,q8,yy,Aq,hl,h2,e3,mixed,e1,e2]
 .cases h
noncomputable def CA:Option U->Bool
 |some (.b _)=>true
 |_=>false
@[simp] theorem afg:CA none=false:=rfl
@[simp] theorem afh(d:D):CA (AAA d)=false:=rfl
@[simp] theorem afi(o:MO):CA (some (.m o))=false:=rfl
def dj(i:Nat)(u:U)(S:SS):qU i u S=(S[i]?).bind λx=>if CA x then none else some (S.set i (some u)):=by
 unfold qU;cases S[i]? with
 |none=>rfl
 |some x=>cases x with
  |none=>rfl
  |some u=>cases u<;>rfl
def Dq:FM
 |[.t d,.t (.int l),.t (.int m)]=>some (.t (.bl (U3 d l m)),[])
 |_=>none
def q9:GS:=
 (aW (bX 2 (ao 1))
 (aW (fH (qB (eF (eP Tn (aa (lE 0) (aa (eC (.int 0)) ak))))) (bX 2 (eP dg (aa (b9 0 (eF (eP EI (aa (eF (ao 1)) (aa (lE 0) ak))))) (aa (eF (eP Nh (aa (eF (ao 1)) (aa (lE 0) ak)))) ak)))) b7)
 (bK (Jk [("cell",(eF (ao 2))),("left",(eF (eP Jj (aa (eC (.int 0)) (aa (eF (eP uo (aa (eF (ao 2)) (aa (eF (eP YA (aa (eC (.int 10)) (aa (eC (.int 18)) ak)))) ak)))) ak))))),("turn",(eC (.int 0)))]))))
def Fq(ns:BBD)(k:Int):Int:=if 0<ns.length then(ia ns (k % ns.length)).getD 0+k / ns.length else k
def CB(ns:BBD)(k:Int):dh:=⟨Fq ns k,if Fq ns k-10 ^ 18 > 0 then Fq ns k-10 ^ 18 else 0,0⟩
def Ar:FM
 |[.s ns,.t (.int k)]=>if 0<=k/\k<1000000/\ns.length<1000000 then some (.m (.dct (eO (CB ns k))),[]) else none
 |_=>none
def Of{α:Type}{l:List α}{i:Int}(h0:0<=i)(h1:i<l.length):∃x,ia l i=some x:=by
 unfold ia IT;rw[if_pos h0,if_pos h1];have:i.toNat<l.length:=by lia
 exact⟨l[i.toNat],aaz this⟩
@[simp] theorem Zq(k1 k2 k3:Str)(g1 g2 g3:GD)(S:SS):Jk [(k1,g1),(k2,g2),(k3,g3)] S=(g1 S).bind λa=>(g2 a.2).bind λb=>(g3 b.2).map λc=>(.m (.dct (Aa [] [(.inr k1,a.1),(.inr k2,b.1),(.inr k3,c.1)])),c.2):=by
 simp only[Jk,z9];cases g1 S with
 |none=>rfl
 |some a=>
  simp only[aau];cases g2 a.2 with
  |none=>rfl
  |some b=>
   simp only[aau];cases g3 b.2 with
   |none=>rfl
   |some c=>rfl
def As(c l n:Int):Aa [] [(.inr "cell",.int c),(.inr "left",.int l),(.inr "turn",.int n)]=eO ⟨c,l,n⟩:=rfl
def Og:∀us r,Ar us=some r->bz 3 q9 us=some r:=by
 intro us r h;unfold Ar at h;split at h
 .rename_i ns k;obtain⟨⟨h1,h2,h3⟩,rfl⟩:=cj h;by_cases hl:0<ns.length
  .have e0:(0:Int)<ns.length:=by lia
   obtain⟨x,hx⟩:=Of (l:=ns) (i:=k % ns.length) (agR _ (by lia)) (agm _ e0);have e1:(ns.length:Int)<1073741824:=by lia
   simp[bz,q9,e0,e1,hx,As,CB,Fq,hl]
  .have e0:¬(0:Int)<ns.length:=by lia
   simp[bz,q9,e0,As,CB,Fq,hl]
 .cases h
end L2
end
section
namespace Sw
open PySem PySem.Spec PyProof.Rows L2
variable {K:AAD}
def yz{t:dh}{m:Int}(h:0<m):0<=yy t m/\yy t m<m:=by
 unfold yy;split
 .exact⟨agR _ (by lia),agm _ h⟩
 .exact⟨agR _ (by lia),agm _ h⟩
@[simp] theorem Rz(t:dh)(m:Int):(Aq t m).n=t.n+1:=by unfold Aq;split<;>rfl
def Oh{t:dh}{m:Int}(h1:0<m)(h2:m<1000000)(h3:0<=t.n)(h4:t.n<1000000):jr [.b (.dct (eO t)),.t (.int m)]=some (.t (.int (yy t m)),[.dct (eO (Aq t m))]):=by
 simp[jr,h1,h2,h3,h4]
@[simp] theorem Zr(g:GD)(lo hi:Option GD)(S:SS):NF g lo hi S=(g S).bind λp=>(mT lo p.2).bind λl=>(mT hi l.2).bind λh=>(Q2 p.1 l.1 h.1).map λu=>(u,h.2):=rfl
@[simp] theorem adI(S:SS):mT none S=some (none,S):=rfl
@[simp] theorem adJ(g:GD)(S:SS):mT (some g) S=(g S).bind λp=>match p.1 with|.int i=>some (some i,p.2)|_=>none:=rfl
@[simp] theorem RA(ds:List D)(lo hi:BBM):Q2 (.tup ds) lo hi=AAA (.tup (cutD ds lo hi)):=rfl
@[simp] theorem RB(ds:List D)(lo hi:BBM):Q2 (.lst ds) lo hi=AAB (cutD ds lo hi):=rfl
@[simp] theorem abe(z:Str)(lo hi:BBM):Q2 (.str z) lo hi=if z.length<=100000 then AAA (.str (Txt.slice z lo hi)) else none:=rfl
theorem Oi:∀(ts:List D)(S:SS),S.length=ts.length->b8 (ts.map U.t) S=some []
 |[],S,_=>by cases S<;>rfl
 |d::ts,[],h=>by cases h
 |d::ts,x::S,h=>by
  show b8 (U.t d::ts.map U.t) (x::S)=_;rw[Jx];exact Oi ts S (by simpa using h)
theorem TL(S:SS):∀ts:List D,bT S (ts.map U.t)=some (ts.map U.t)
 |[]=>rfl
 |d::ts=>by
  show(some (U.t d)).bind _=_;rw[TL S ts];rfl
theorem Zs:∀ts:List D,slotsOf (ts.map U.t)=[]
 |[]=>rfl
 |d::ts=>Zs ts
theorem Zt:∀ts:List D,cu (ts.map U.t)=0
 |[]=>rfl
 |d::ts=>Zt ts
theorem VM(S:SS):∀ts:List D,wb (ts.map U.t) [] S=some S
 |[]=>rfl
 |d::ts=>VM S ts
theorem Dr{cap:BBJ}{q:GT}{g:GD}{S:SS}{ts:List D}(hc:ie S cap=some (ts.map U.t))(p:D->Bool)(f:D->D):∀(ds acc:List D),
  (∀d∈ds,q (AAA d::ts.map λx=>AAA x)=some (p d,AAA d::ts.map λx=>AAA x))->(∀d∈ds,p d=true->g (AAA d::ts.map λx=>AAA x)=some (f d,AAA d::ts.map λx=>AAA x))->
  cM cap q g ds S acc=some (acc++(ds.filter p).map f,S)
 |[],acc,_,_=>by simp[cM]
 |d::ds,acc,hq,hg=>by
  have em:(ts.map U.t).map some=ts.map λx=>some (U.t x):=by simp
  have eo:b8 (.t d::ts.map U.t) (AAA d::ts.map λx=>AAA x)=some []:=by rw[Jx];exact Oi ts _ (by simp)
  have q0:=hq d (aav);unfold cM;rw[hc];simp only[aau];rw[if_pos ⟨by rw[Zs];exact afH,by rw[Zt];exact abX _⟩,TL];simp only[aau];rw[em,q0];simp only[aau];by_cases hp:p d=true
  .rw[if_pos hp,hg d aav hp];simp only[aau];rw[eo];simp only[aau];rw[VM];simp only[aau];rw[Dr hc p f ds (acc++[f d]) (λe he=>hq e (aar _ he)) (λe he=>hg e (aar _ he)),List.filter_cons_of_pos hp];simp
  .rw[if_neg hp,eo];simp only[aau];rw[VM];simp only[aau];rw[Dr hc p f ds acc (λe he=>hq e (aar _ he)) (λe he=>hg e (aar _ he)),List.filter_cons_of_neg hp]
@[simp] theorem abf(cap:BBJ)(gi:GI)(q:GT)(g:GD)(S:SS):iP cap gi q g S=(gi S).bind λp=>if p.1.length<=100000 then(cM cap q g p.1 p.2 []).map λr=>(.m (.lst r.1),r.2) else none:=rfl
def iE(g:GD)(S:SS):nv g S=(g S).bind λp=>match p.1 with|.tup ds=>some (ds,p.2)|.lst ds=>some (ds,p.2)|.str z=>some (z.cps.toList.map λc=>.str ⟨#[c]⟩,p.2)|_=>none:=rfl
noncomputable def CC(p:Str×Int):D:=.tup [.str p.1,.int p.2]
mutual
def Sane:D->Prop
 |.int i=>i.natAbs<10 ^ 30
 |.str z=>∀c∈z.cps.toList,c<16 ^ 8
 |.tup ds=>Ft ds
 |.lst ds=>Ft ds
 |.cD=>True
 |.bl _=>True
def Ft:List D->Prop
 |[]=>True
 |d::ds=>Sane d/\Ft ds
end
mutual
noncomputable def wD:D->Nat
 |.cD=>6
 |.bl _=>6
 |.int _=>40
 |.str z=>10*z.length+2
 |.tup ds=>VN ds+4
 |.lst ds=>VN ds+4
noncomputable def VN:List D->Nat
 |[]=>0
 |d::ds=>wD d+2+VN ds
end
def Ln(s:String):(Str.ofString s).length=s.length:=PySem.ofString_length s
theorem Jy:∀(ts:BBB)(k:Nat)(acc:Str),(textFrom k acc ts).length<=acc.length+piled ts
 |[],k,acc=>aaq _
 |t::ts,k,acc=>by
  have ih:=Jy ts (k+1) (acc++(if k > 0 then ", " else "":String)++t);have e:(acc++(if k > 0 then ", " else "":String)++t).length<=acc.length+2+t.length:=by
   rw[afW,afW];split
   .show acc.length+2+t.length<=_;lia
   .show acc.length+0+t.length<=_;lia
  rw[piled_cons];show(textFrom (k+1) _ ts).length<=_;lia
mutual
theorem shown_le:∀d:D,Sane d->(toPy d).shown.length<=wD d
 |.cD,_=>by show(Str.ofString "None").length<=6;decide
 |.bl b,_=>by cases b<;>(show(Str.ofString _).length<=6;decide)
 |.int i,h=>by
  show(Str.ofString (toString i)).length<=40;rw[Ln];exact aaC (int_text_length_le10 (k:=30) (by decide) h) (by decide)
 |.str z,h=>PySem.StrLaws.reprText_len z h
 |.tup ds,h=>by
  have k:=xA ds h;show(tupleText (PyData.shownAll (iO ds))).length<=VN ds+4;unfold tupleText;rw[afW,afW];have e1:("(":Str).length=1:=rfl;have e2:((if(PyData.shownAll (iO ds)).length == 1 then ",)" else ")":String):Str).length<=2:=by split<;>decide
  by_cases hn:PyData.shownAll (iO ds)=[]
  .rw[hn]at e2 ⊢;have e3:(Str.join ", " []).length=0:=rfl;lia
  .have:=join_length_add _ hn;lia
 |.lst ds,h=>by
  have k:=xA ds h;show(listText (PyData.shownAll (iO ds))).length<=VN ds+4;unfold listText;rw[afW];have e1:=Jy (PyData.shownAll (iO ds)) 0 "[";have e2:("[":Str).length=1:=rfl;have e3:("]":Str).length=1:=rfl;lia
theorem xA:∀ds:List D,Ft ds->piled (PyData.shownAll (iO ds))<=VN ds
 |[],_=>aaq _
 |d::ds,h=>by
  show piled ((toPy d).shown::PyData.shownAll (iO ds))<=wD d+2+VN ds;rw[piled_cons];have:=shown_le d h.1;have:=xA ds h.2;lia
end
mutual
theorem yC:∀d:D,Sane d->(toPy d).showable=true
 |.cD,_=>rfl
 |.bl b,_=>rfl
 |.int i,h=>by
  show decide (i.natAbs.log2<1920)=true;rw[aeW];by_cases hz:i.natAbs=0
  .rw[hz];decide
  .exact(Nat.log2_lt hz).mpr (Nat.lt_trans h (aax (show(10:Nat) ^ 30<2 ^ 100 by decide) (Nat.pow_le_pow_right (by decide) (by decide))))
 |.str z,_=>rfl
 |.tup ds,h=>by show PyData.showableAll (iO ds)=true;exact pI ds h
 |.lst ds,h=>by show PyData.showableAll (iO ds)=true;exact pI ds h
theorem pI:∀ds:List D,Ft ds->PyData.showableAll (iO ds)=true
 |[],_=>rfl
 |d::ds,h=>by
  show((toPy d).showable && PyData.showableAll (iO ds))=true;rw[yC d h.1,pI ds h.2];rfl
end
mutual
theorem depth_eq:∀d:D,(toPy d).depth=lU d
 |.cD=>rfl
 |.bl _=>rfl
 |.int _=>rfl
 |.str _=>rfl
 |.tup ds=>by show PyData.depthAll (iO ds)+1=gJ ds+1;rw[xB ds]
 |.lst ds=>by show PyData.depthAll (iO ds)+1=gJ ds+1;rw[xB ds]
theorem xB:∀ds:List D,PyData.depthAll (iO ds)=gJ ds
 |[]=>rfl
 |d::ds=>by show max (toPy d).depth (PyData.depthAll (iO ds))=max (lU d) (gJ ds);rw[depth_eq d,xB ds]
end
def VO{d:D}(h:Sane d)(hw:wD d<=1000000)(hd:lU d<=20):K5 d:=
 ⟨yC d h,by rw[depth_eq];exact hd,aaC (shown_le d h) (aaC hw (by decide))⟩
def getD_mem{α:Type}{l:List α}{i:Nat}{x:α}(h:i<l.length):l.getD i x∈l:=by simp[List.getD,h]
noncomputable def Ds(n:Nat):FM
 |[.s ns]=>if ns.length<=n then some (.t (.bl true),[]) else none
 |_=>none
def Oj{P:Program}{w:World}{mg:AAF}{base:Heap}{f:Addr}{fd:FuncData}{n k:Nat}{ps:BBB}{fm:FM}(h:∀us,fm us=none):fV P w K mg base wM n f fd ps (spT K k fm):=by
 have no:∀vs H Q E,¬spT K k fm vs H Q E:=λvs H Q E ⟨_,F,us,r,outs,_,_,_,e,_⟩=>by rw[h us]at e;cases e
 exact⟨λvs H Q E h=>absurd h (no vs H Q E),λA outer s H args us vs Q E _ _ _ _ h=>absurd h (no vs H Q E)⟩
def VP{H:Hp}{a:Addr}{ns:BBD}{n:Nat}{E:XK}(hl:ns.length<=n)(hO:Qu H)(hS:oW K H a (ns.map V.int)):spT K 1 (Ds n) [.ref a] H (λv _=>v= .bl true) E:=by
 have sc:QD K H a ns:=by
  rcases hS with(h|h)|h
  .rcases hO a with z|⟨o,xs,z⟩|z<;>(rw[h]at z;cases z)
  .exact .inl h
  .exact .inr h
 exact⟨rfl,λ_=>none,[.s ns],.t (.bl true),[],(λb o z=>by cases z),.cons ⟨a,rfl,sc⟩ .nil,afH,by simp[Ds,hl],λv F' H' _ r=>iX r⟩
end Sw
end
section
namespace L2
open PySem PySem.Spec PyProof.Rows
variable {op:Operator}{x:Str}{st a:Stmt}{od an dd:BBN}{osl:Array (BBP)}{kV doc pm cdv ct:Value}{N ps sn:BBB}{k n:Nat}{g s1:GS}{pl:Sem Bool}{mN:AAF}{us bm bmB bs sub:AAL}{fI C:Addr}{Q E:AAE}{oe:Obj}{vs:AAK}{X:Cx}{pins:AAG}{O:St}{H:Hp}{fd:FuncData}{K:AAD}{r b1 b2 body stmts:BBH}{newId initId:String}{cl:BBE}{iter tg:Expr}{bd:GB}{gi:GI}{hdct:Bool}{col:Option Bool}{k0 k1 k2 k3 k5:BBP}
section
variable {X:Cx}{e elt iter:Expr}{ifs:BBC}{b:Expr}{g:GE}{gd gb:GD}{gi:GI}{q:GT}{x y:Str}{p pos pos' px py spos:Pos}{k:Nat}{scope:Scope}{cl:List (Str×Addr)}{cI:BBB}{cap:BBJ}
def zs(hN:X.N.Nodup)(i:Nat)(he:JE X e g)(hi:X.N[i]? =some x:=by rfl)(hx:Loc X.env.scope x:=by trivial)(hs:swapsWith e (some (.Name x pos')) pos.line X.env=pure false:=by rfl)
  (hf:X.fn x=true\/X.env.scope.names.lookup x=some .local:=by trivial):JS X (.Assign [.Name x pos'] e pos) (bX i g):=U5 hN hi hx he hs hf
def zg(hN:X.N.Nodup)(i:Nat)(hi:X.N[i]? =some x:=by rfl)(hx:Loc X.env.scope x:=by trivial)(hf:X.fn x=true\/X.env.scope.names.lookup x=some .local:=by trivial):JG X (.Name x pos) (bName i):=QK hN hi hx hf
def za{f:Int->Int->Int}(ho:PIp X op (ipI f))(hN:X.N.Nodup)(i:Nat)(he:JD X e gd)(hi:X.N[i]? =some x:=by rfl)(hx:Loc X.env.scope x:=by trivial)
  (hf:X.fn x=true\/X.env.scope.names.lookup x=some .local:=by trivial):JS X (.AugAssign (.Name x pos') op e pos) (Hy f i gd):=Vm ho hN hi hx he hf
def zc(hN:X.N.Nodup)(i:Nat)(T:fK X x cI cap scope cl)(hi:JI X (.Name x px) iter gi)(ht:∀C s H fp,W5 (d9 X (x::cI) scope cl C s H fp) ifs q)(he:∀C s H fp,JD (d9 X (x::cI) scope cl C s H fp) elt gd)
  (hy:X.N[i]? =some y:=by rfl)(hx:Loc X.env.scope y:=by trivial)(hc:X.calm=true:=by rfl)
  (hsw:swapsWith (.ListComp elt [⟨.Name x px,iter,ifs,0⟩] scope pos) (some (.Name y py)) spos.line X.env=pure true:=by rfl)(hf:X.fn y=true\/X.env.scope.names.lookup y=some .local:=by trivial)
  (hs:∀x,foldedSetIterable iter X.env x=pure x:=by intro _;rfl):JS X (.Assign [.Name y py] (.ListComp elt [⟨.Name x px,iter,ifs,0⟩] scope pos) spos) (bX i (iP cap gi q gd)):=Nr hN hy hx T hc hi ht he hsw hf hs
def ys(hr:c7 k X.A)(i:Nat)(hb:JD X b gb)(hs:zq b:=by first|(intro _ _;rfl))(hN:X.N[i]? =some x:=by rfl)(hv:wR X.env.scope x:=by trivial)
  (hd:BBT x:=by decide)(hcd:BBU x:=by decide):JD X (.Subscript (.Name x px) b pos) (b9 i gb):=Vf (ED hr) hb hs hN hv hd hcd
def jv(i:Nat)(hN:X.N[i]? =some x:=by rfl)(hv:wR X.env.scope x:=by trivial)(hd:BBT x:=by decide)
  (hcd:BBU x:=by decide):JD X (.Name x pos) (eF (ao i)):=(cA i hN hv hd hcd).d
def cp(h1:∀y∈scope.names,y.2≠.free:=by decide)(h2:∀y∈scope.names,y.2≠.cell:=by decide)(h3:scope.kind= .function:=by rfl)(h4:∀y∈scope.names,y.2= .local->scope.names.lookup y.1=some .local:=by decide)(h5:scope.names.lookup x=some .local:=by rfl):
  fK X x [] [] scope []:=G8 h1 h2 h3 h4 h5
def cc{c:Addr}(i:Nat)(clos:closureFor scope X.env=pure [(y,c)]:=by rfl)(lR:∀z∈scope.names,z.2≠.cell:=by decide)(kind:scope.kind= .function:=by rfl)(names:∀z∈scope.names,z.2= .local->scope.names.lookup z.1=some .local:=by decide)
  (loc:scope.names.lookup x=some .local:=by rfl)(hc:X.env.cells.lookup y=some c:=by rfl)(only:∀z∈scope.names,z.2= .free->z.1=y:=by decide)(ne:x≠y:=by decide)(hN:X.N[i]? =some y:=by rfl)(vis:X.env.scope.names.lookup y=some .cell:=by rfl)(rel:(relabel scope X.env).names.lookup y=some .cell:=by rfl):
  fK X x [y] [i] scope [(y,c)]:=NG clos lR kind names loc hc only ne hN vis rel
def cs(cI:BBB)(cap:BBJ)(clos:closureFor scope X.env=pure cl:=by rfl)(lR:∀z∈scope.names,z.2≠.cell:=by decide)(kind:scope.kind= .function:=by rfl)(names:∀z∈scope.names,z.2= .local->scope.names.lookup z.1=some .local:=by decide)
  (loc:scope.names.lookup x=some .local:=by rfl)(hc:cl.map (λp=>X.env.cells.lookup p.1)=cl.map (λp=>some p.2):=by rfl)(only:∀z∈scope.names,z.2= .free->z.1∈cI:=by decide)(hcl:cl.map (·.1)=cI.reverse\/cl.map (·.1)=cI:=by trivial)(nd:(x::cI).Nodup:=by decide)
  (slot:cap.map (λi=>X.N[i]?)=cI.map some:=by rfl)(vis:cI.map (λn=>X.env.scope.names.lookup n)=cI.map λ_=>some .cell:=by rfl)(rel:cI.map (λn=>(relabel scope X.env).names.lookup n)=cI.map λ_=>some .cell:=by rfl):
  fK X x cI cap scope cl:=Hz clos lR kind names loc hc only hcl nd slot vis rel
end
section
variable {P:Program}{w:World}{K:AAD}{mg:AAF}{base:Heap}{h:Heap}
structure Df(K:AAD)(mg:AAF)(x:Str)(st:Stmt):Prop where
 ex:∃f fd,IZ K x x st f fd/\mg x=some (.ref f)
def TM{f:Addr}{oc:Value}(X:K.In h)(G:h.Ns mainGlobals mg)(a:PySem.W.nsIn K mainGlobals x=some (some (.ref f)))
  (l:K.lookup f=some ⟨oc,od,.func (PySem.W.fnOf x x (lz st) (dc st) (aD st) .none kV doc pm an cdv ct),osl⟩)(c:PySem.W.codeIn K cdv x=true)(k:PySem.W.keepIn K (.ref f)=true):Df K mg x st:=
 ⟨_,_,G3 l c k,abC X G a⟩
structure lM(P:Program)(w:World)(K:AAD)(mg:AAF)(base:Heap)(n:Nat)(x:Str)(ps:BBB)(fm:FM):Prop where
 ex:∃a d,fV P w K mg base wM n a d ps (spT K ps.length fm)/\Binds K d ps []/\PySem.W.keepIn K (.ref a)=true/\mg x=some (.ref a)
def lM.mono{j k:Nat}{x:Str}{ps:BBB}{fm:FM}(c:lM P w K mg base j x ps fm)(h:j<=k):lM P w K mg base k x ps fm:=
 let⟨a,d,G,r⟩:=c.ex;⟨a,d,G.mono h,r⟩
def Bd(x:Str)(st:Stmt)(ps:BBB):Prop:=∀(kV doc pm:Value)(an:BBN)(cdv ct:Value)(us:AAL),us.length=ps.length->bindArgs (PySem.W.fnOf x x (lz st) (dc st) (aD st) .none kV doc pm an cdv ct) ⟨us,[]⟩=pure (ps.zip us)
def sI{sc:Scope}(a:sc.kind= .function:=by rfl)(b:sc.isCoroutine=false:=by rfl)(c:sc.isGenerator=false:=by rfl)(d:N.Nodup:=by decide +kernel)(e:N.take ps.length=ps:=by rfl)
  (f:∀x∈ps,sc.names.lookup x=some .local\/sc.names.lookup x=some .cell:=by decide +kernel)(g:∀y∈sc.names,y.2≠.free:=by decide +kernel):bq N ps sc:=⟨a,b,c,d,e,f,g⟩
def oB{fm:FM}(D:Df K mg x st)(Sc:bq N ps (aD st))
  (hf:∀us r,fm us=some r->bz N.length g us=some r)
  (hb:∀(f:Addr)(cdv:Value)(A:Around)(outer:BBF)(s:Shared)(H:Hp)(E:XK),c7 k (A.deeper (envOfC x (aD st) s.heap.objs.size f cdv))->JB (uO wM P w K mg base N x (aD st) f cdv A outer s H E).Ma (dc st) g)
  (bd:Bd x st ps:=by trivial):lM P w K mg base (k+1) x ps fm:=by
 obtain⟨f,fd,F,m⟩:=D.ex;exact⟨f,fd,okT F Sc (hb f) hf,F.binds bd,F.kp,m⟩
end
section
variable {X:Cx}{e:Expr}{es:BBC}{gu:GU}{x:Str}{p pos:Pos}{k j:Nat}{ps:BBB}{fm:FM}
def jc(c:lM X.prog X.w X.K X.mg X.base j x ps fm)(hr:c7 k X.A)(ha:JU X (e::es) gu)(hj:j<=k:=by lia)(hg:Gl X x:=by rfl)(hn:(e::es).length=ps.length:=by rfl)
  (hdb:BBT x:=by decide)(he:starEach (e::es) X.env=(false,eval e X.env)::starEach es X.env:=by rfl)(hpl:(backTo pos (starEach es X.env)).any (·.1)=false:=by rfl):
  JE X (.Call (.Name x p) (e::es) [] pos) (aO fm gu):=by
 obtain⟨a,d,G,b,kp,m⟩:=c.ex;exact QN (G.mono hj) hr hg m kp b ha hn hdb he hpl
end
section
variable {P:Program}{w:World}{K:AAD}{mg:AAF}{base:Heap}{h:Heap}{C:Addr}{m q x:Str}{st:Stmt}{ps:BBB}{fm:FM}
def pJ(D:Df K mg x st)(z:∀us,fm us=none)(bd:Bd x st ps:=by trivial):lM P w K mg base n x ps fm:=by
 obtain⟨f,fd,F,m⟩:=D.ex;exact⟨f,fd,Sw.Oj z,F.binds bd,F.kp,m⟩
structure BI(K:AAD)(C:Addr)(m q:Str)(st:Stmt):Prop where
 ex:∃f fd,IZ K m q st f fd/\Meth K C m f
def VQ{f:Addr}{oc:Value}(a:PySem.W.findIn K (.ref C) m=some (some (.ref f)))
  (l:K.lookup f=some ⟨oc,od,.func (PySem.W.fnOf m q (lz st) (dc st) (aD st) .none kV doc pm an cdv ct),osl⟩)(c:PySem.W.codeIn K cdv q=true)(k:PySem.W.keepIn K (.ref f)=true)(y:PySem.W.isFn K (.ref f)=true):BI K C m q st:=
 ⟨_,_,G3 l c k,a,y,k⟩
structure ur(P:Program)(w:World)(K:AAD)(mg:AAF)(base:Heap)(n:Nat)(C:Addr)(m:Str)(ps:BBB)(fm:FM):Prop where
 ex:∃a d,fV P w K mg base wM n a d ps (spT K ps.length fm)/\Binds K d ps []/\Meth K C m a
def ur.mono{j k:Nat}(c:ur P w K mg base j C m ps fm)(h:j<=k):ur P w K mg base k C m ps fm:=
 let⟨a,d,G,r⟩:=c.ex;⟨a,d,G.mono h,r⟩
def Zu(x q:Str)(st:Stmt)(ps:BBB):Prop:=∀(kV doc pm:Value)(an:BBN)(cdv ct:Value)(us:AAL),us.length=ps.length->bindArgs (PySem.W.fnOf x q (lz st) (dc st) (aD st) .none kV doc pm an cdv ct) ⟨us,[]⟩=pure (ps.zip us)
def TN(D:BI K C m q st)(Sc:bq N ps (aD st))
  (hf:∀us r,fm us=some r->bz N.length g us=some r)
  (hb:∀(f:Addr)(cdv:Value)(A:Around)(outer:BBF)(s:Shared)(H:Hp)(E:XK),c7 k (A.deeper (envOfC q (aD st) s.heap.objs.size f cdv))->JB (uO wM P w K mg base N q (aD st) f cdv A outer s H E).Ma (dc st) g)
  (bd:Zu m q st ps:=by trivial):ur P w K mg base (k+1) C m ps fm:=by
 obtain⟨f,fd,F,m⟩:=D.ex;exact⟨f,fd,okT F Sc (hb f) hf,F.binds bd,m⟩
def Ol(D:BI K C m q st)(z:∀us,fm us=none)(bd:Zu m q st ps:=by trivial):ur P w K mg base n C m ps fm:=by
 obtain⟨f,fd,F,m⟩:=D.ex;exact⟨f,fd,Sw.Oj z,F.binds bd,m⟩
structure Xl(K:AAD)(mg:AAF)(x:Str)(C:Addr):Prop where
 nm:mg x=some (.ref C)
 mks:PySem.W.makesIn K C=true
 kp:PySem.W.keepIn K (.ref C)=true
def VR(X:K.In h)(G:h.Ns mainGlobals mg)(a:PySem.W.nsIn K mainGlobals x=some (some (.ref C)))(b:PySem.W.makesIn K C=true)(c:PySem.W.keepIn K (.ref C)=true):Xl K mg x C:=⟨abC X G a,b,c⟩
end
section
variable {X:Cx}{C:Addr}{e:Expr}{es:BBC}{gu:GU}{x m:Str}{px p pos apos:Pos}{k j:Nat}{ps:BBB}{fm:FM}
def jm(i:Nat)(c:BC X.K C)(F:ur X.prog X.w X.K X.mg X.base j C m ps fm)(hr:c7 k X.A)(ha:JU X (e::es) gu)(hj:j<=k:=by lia)(hn:(e::es).length+1=ps.length:=by rfl)
  (hN:X.N[i]? =some x:=by rfl)(hv:wR X.env.scope x:=by trivial)(hd:BBT x:=by decide)(hcd:BBU x:=by decide)
  (hst:starEach (e::es) X.env=(false,eval e X.env)::starEach es X.env:=by rfl)(hpl:(backTo pos (starEach es X.env)).any (·.1)=false:=by rfl)
  (ht:eval (.Call (.Attribute (.Name x px) m apos) (e::es) [] pos) X.env=(do
   let ov <-eval (.Name x px) X.env
   standAt apos.atName
   let(f,first) <-holding [ov] (getMethod ov m pl)
   callWith pos f first (backTo pos (starEach (e::es) X.env)) (backToKw pos (keywordEach [] X.env))):=by rfl):
  JE X (.Call (.Attribute (.Name x px) m apos) (e::es) [] pos) (fh C m i fm gu):=by
 obtain⟨a,d,G,b,me⟩:=F.ex;exact Rr i c me (G.mono hj) hr b ha hn hN hv hd hcd hst hpl ht
def TQ{y:Str}(i:Nat)(c:BC X.K C)(F:ur X.prog X.w X.K X.mg X.base j C m [y] fm)(hr:c7 k X.A)(hj:j<=k:=by lia)
  (hN:X.N[i]? =some x:=by rfl)(hv:wR X.env.scope x:=by trivial)(hd:BBT x:=by decide)(hcd:BBU x:=by decide)
  (ht:eval (.Call (.Attribute (.Name x px) m apos) [] [] pos) X.env=(do
   let ov <-eval (.Name x px) X.env
   standAt apos.atName
   let(f,first) <-holding [ov] (getMethod ov m pl)
   callWith pos f first (backTo pos (starEach [] X.env)) (backToKw pos (keywordEach [] X.env))):=by rfl):
  JE X (.Call (.Attribute (.Name x px) m apos) [] [] pos) (fh C m i fm aY):=by
 obtain⟨a,d,G,b,me⟩:=F.ex;exact N7 i c me (G.mono hj) hr b hN hv hd hcd ht
def jk(M:Xl X.K X.mg x C)(F:ur X.prog X.w X.K X.mg X.base j C "__init__" ps fm)(hr:c7 k X.A)(ha:JU X (e::es) gu)(hj:j+1<=k:=by lia)(hg:Gl X x:=by rfl)(hn:(e::es).length+1=ps.length:=by rfl)
  (hdb:BBT x:=by decide)(he:starEach (e::es) X.env=(false,eval e X.env)::starEach es X.env:=by rfl)(hpl:(backTo pos (starEach es X.env)).any (·.1)=false:=by rfl):
  JE X (.Call (.Name x p) (e::es) [] pos) (Cw C fm gu):=by
 obtain⟨a,d,G,b,me⟩:=F.ex;exact Ru ⟨M.mks,me.at_,me.fn,M.kp⟩ G (hr.mono hj) hg M.nm b ha hn hdb he hpl
end
noncomputable def Dt(C:Addr)(dx:BBN)(t:Addr):Obj:={cls:=.ref C,dict:=dx,data:=.fields #[.ref t,.none,.none,.none,.bool false,.none]}
section
variable {prog:Program}{w:World}{A:Around}{E:AAE}{h:Heap}{g:Array GenState}{d:Drawn}{t:Nat}{os:OsState}
variable {nm q:Str}{C N:Addr}{bs bm bmB:AAL}{hdct:Bool}{sn:BBB}{sub:AAL}{ab:Bool}{col:Option Bool}{dd:BBN}{k0 k1 k2 k3 k5:BBP}{B newId initId:String}
def RD(F:ExcBaseFacts B newId initId bmB)(T:OwnTail h bmB bm){oI:Obj}{Q:Fin->Shared->Prop}
  (hC:h.get? C=some (excClassObj nm q C N bs bm hdct sn sub ab col dd k0 k1 k2 k3 k5 newId))(hn:h.Ns N mN)(hi:mN "__init__" =some (.ref fI))(hfI:h.get? fI=some oI)(hfc:oI.cls= .type "function")
  (hq:∀h' e,Heap.MadeExcOf h h' e (.ref C) us->wpAny (model prog w) A (call (.ref fI) (.ref e::us)) (λr s'=>r= .none/\Q (.done (.ret (.ref e))) s') E ⟨h',g,d,t,os⟩)(Ys:us.length<=sizeLine):
  wpAny (model prog w) A (Builtin.«type.__call__» ⟨.ref C::us,[]⟩) Q E ⟨h,g,d,t,os⟩:=by
 repeat (first|with_reducible refine adU hC ?_|with_reducible refine wpAny_madeBy_exc hC ?_|wp_step)
 refine codeAny_call_builtin_code (agl _ F.quiet) (wpAny_check_new_subT F T hC ?_);refine codeAny_exc_new_subT F T hC ?_ Ys;show wpAny _ _ _ _ _ _;have kp:∀b o,h.get? b=some o->((h.push {cls:=.type "tuple",data:=.seq us.toArray}).push (Dt C none h.objs.size)).get? b=some o:=λb o e=>aam _ (aam _ e);have hget:((h.push {cls:=.type "tuple",data:=.seq us.toArray}).push (Dt C none h.objs.size)).get? (h.objs.size+1)=some (Dt C none h.objs.size):=by unfold Dt;heap_get
 have hcC:(Value.ref C::bm).contains (.ref C)=true:=by simp
 have hC1:=kp _ _ hC;have hn1:=hn.keeps kp;have hf1:=kp _ _ hfI;have T1:=T.keeps kp;have mk:Heap.MadeExcOf h ((h.push {cls:=.type "tuple",data:=.seq us.toArray}).push (Dt C none h.objs.size)) (h.objs.size+1) (.ref C) us:=
  ⟨kp,af5 (afp _),h.objs.size,hget,af5 (aaq _),aam _ (Heap.get?_push_at rfl rfl)⟩
 unfold Dt at hget hC1 hn1 hf1 T1 mk;clear kp;unfold isInstance
 repeat (first|with_reducible refine adU hget ?_|(with_reducible refine afr hC1 ?_;rw[hcC])|wp_step)
 show wpAny _ _ (typeLookup (.ref C) _) _ _ _;refine wpAny_typeLookup_tail hC1 hn1 T1 F.mroIs F.init.lookup ?_;rw[hi];refine abz (aal ?_);unfold bindSpecial;refine aal (af8 (T:="function") ⟨_,hf1,hfc⟩ ?_);rw[if_pos (by decide)];refine aan (aal (aaB (hq _ (h.objs.size+1) mk) (λr s' hr=>?_) λ_ _ x=>x));obtain⟨rfl,hQ⟩:=hr
 wp_walk
 exact hQ
def RE(F:ExcBaseFacts B newId initId bmB)(T:OwnTail h bmB bm){oI:Obj}
  (hC:h.get? C=some (excClassObj nm q C N bs bm hdct sn sub ab col dd k0 k1 k2 k3 k5 newId))(hn:h.Ns N mN)(hi:mN "__init__" =some (.ref fI))(hfI:h.get? fI=some oI)(hfc:oI.cls= .type "function")
  (hq:∀h' e,Heap.MadeExcOf h h' e (.ref C) us->wpAny (model prog w) (A.under (.builtin "type.__call__" ⟨.ref C::us,[]⟩)) (call (.ref fI) (.ref e::us)) (λr s'=>r= .none/\Q (.ref e) s') E ⟨h',g,d,t,os⟩)(Ys:us.length<=sizeLine):
  wpAny (model prog w) A (call (.ref C) us) Q E ⟨h,g,d,t,os⟩:=by
 have f1:=tc_lookup;have f2:=tc_bind (.ref C);have hT:(⟨h,g,d,t,os⟩:Shared).TypeIs (.ref C) "type":=⟨_,hC,rfl⟩
 refine ae6 (codeAny_of_tree ?_);show wpAny _ _ (callAny (.ref C) _) _ _ _
 repeat (any_goals (first|assumption|with_reducible refine adU hC ?_|wp_step))
 refine⟨rfl,?_⟩;exact codeAny_call_builtin_at (agl _ (by decide +kernel)) entry_typeCall (wpAny_check_type_call_sub hC (RD F T hC hn hi hfI hfc (λh' e hm=>hq h' e hm) Ys))
end
section
variable {M:Model}{A:Around}{E:AAE}{env:Env}
variable {nm q:Str}{C N:Addr}{bs bm:AAL}{hdct:Bool}{sn:BBB}{sub:AAL}{ab:Bool}{col:Option Bool}{dd:BBN}{k0 k1 k2 k3 k5:BBP}{newId:String}
def Om{s:Shared}{x:Sem Value}{Q:Flow->Shared->Prop}(hbase:bm.contains (.type "BaseException")=true)(hh:A.handled=none)
  (h:wpAny M A x (λv s1=>∃e t dx,v= .ref e/\s1.heap.get? C=some (excClassObj nm q C N bs bm hdct sn sub ab col dd k0 k1 k2 k3 k5 newId)/\s1.heap.get? e=some (Dt C dx t)/\E (.ref e) s1) E s):
  wpAny M A (raiseStmt env (some x) none) Q E s:=by
 have hcB:(Value.ref C::bm).contains (.type "BaseException")=true:=by rw[List.contains_cons,hbase,Bool.or_true]
 unfold raiseStmt;refine aal (aaB h (λv s1 h1=>?_) λ_ _ x=>x);obtain⟨e,t,dx,rfl,hC,he,hE⟩:=h1;obtain⟨hp,g,d,tk,os⟩:=s1;unfold Dt at he
 repeat (first|with_reducible refine adU he ?_|with_reducible refine adU hC ?_|(with_reducible refine afr hC ?_;rw[hcB])|wp_step)
 exact wpAny_raiseNew_none hh hE
end
inductive Fl(h:Heap)(e C:Addr)(dx:BBN)(T:Addr)(fl:Value):Prop
 |mk(oe:Obj)(vs:AAK)(oT:Obj)(ts:AAK)(he:h.get? e=some oe)(hc:oe.cls= .ref C)(hx:oe.dict=dx)(hd:oe.data= .fields vs)(h1:vs[1]? =some (.ref T))(ne:T≠e)
   (hT:h.get? T=some oT)(Fv:oT.data= .fields ts)(h3:ts[3]? =some fl)
structure Ch(fs:BBE)(e T:Addr)(h h':Heap):Prop where
 keep:∀b o,b∉fs->b≠e->b≠T->h.get? b=some o->h'.get? b=some o
 slot:∀b o,b∈fs->h.get? b=some o->∃sl,h'.get? b=some {o with slots:=sl}
 size:h.objs.size<=h'.objs.size
section
variable {M:Model}{A:Around}{E:AAE}{s:Shared}{base:Heap}{env:Env}{outer:BBF}{L e C T:Addr}{dx:BBN}{fl:Value}{Q:Unit->Shared->Prop}
def Jz{l:BBF}{h:Heap}(hl:h.FunFrames base l)(he:h.get? e=some oe)(hd:oe.data= .fields vs):e∉l.filterMap (·.frame):=λhm=>by
 obtain⟨_,o,ho,hnf⟩:=hl.mem hm;rw[he]at ho;cases ho;exact hnf vs hd
def Lo(o:Obj)(f:Array Value->Array Value):(o.mapFields f).dict=o.dict:=by
 obtain⟨c,d,dt,sl⟩:=o;cases dt<;>rfl
def Fw{head:Value}{hadNext:Bool}(hfr:A.frames=some (env::outer))(hl:s.heap.FunFrames base (env::outer))(hf:env.frame=some L)
  (he:s.heap.get? e=some oe)(hc:oe.cls= .ref C)(hx:oe.dict=dx)(hd:oe.data= .fields vs)(hsz:1<vs.size)
  (h:∀h' T,s.heap.objs.size<=T->Ch ((env::outer).filterMap (·.frame)) e e s.heap h'->Fl h' e C dx T (rawInt L)->Q () {s with heap:=h'}):
  wpAny M A (do let a <-frameOf env;let pl <-entryPlaceOf L hadNext;let b <-EntryCells.newEntry head a .none (rawInt L) .none pl;setField (.ref e) 1 b) Q E s:=by
 have Zv:=Jz hl he hd;refine aal (wpAny_frameOf_fun hfr hl hf λh1 hs1=>?_);refine aal (wpAny_entryPlaceOf λpl hpl=>?_);unfold EntryCells.newEntry newFields;refine aal (acB ?_ (hpl.sizeOk5 _ _ _ _ _));have he1:h1.get? e=some oe:=(hs1.2.1 e Zv).trans he;generalize hob:({cls:=.type "traceback",dict:=none,data:=.fields ([head,.ref L,.none,rawInt L,.none]++(if pl.isEmpty then List.replicate 6 Value.none else pl)).toArray}:Obj)=ob;have he2:=aam (h:=h1) ob he1;refine aeX he2 hd hsz (h _ h1.objs.size ?_ ⟨λb o hb IA _ q=>?_,λb o hb q=>?_,?_⟩ ?_)
 .rw[hs1.1];exact aaq _
 .rw[aaH _ _ (abO IA)];exact aam _ ((hs1.2.1 b hb).trans q)
 .obtain⟨sl,hs⟩:=hs1.2.2 b o q;refine⟨sl,?_⟩;rw[aaH _ _ (λz:e=b=>Zv (by rw[z];exact hb))];exact aam _ hs
 .show _<=((h1.push ob).update e _).objs.size;rw[aes,abP,hs1.1];exact afp _
 .have hTe:h1.objs.size≠e:=adP (aap he1);have hd3:=acF hd (·.setIfInBounds 1 (Value.ref h1.objs.size));refine⟨_,_,_,_,abh _ he2 (aew hd3),(Obj.cls_mapFields _ _).trans hc,(Lo _ _).trans hx,hd3,by simp[hsz],hTe,(aaH _ _ (abO hTe)).trans (aas h1 (by subst hob;rfl)),by subst hob;rfl,?_⟩
  first|(simp;done)|(rcases hpl with rfl|⟨_,_,_,_,_,_,_,rfl⟩<;>simp)
def Au{t:Addr}(hfr:A.frames=some (env::outer))(hl:s.heap.FunFrames base (env::outer))(hf:env.frame=some L)(he:s.heap.get? e=some (Dt C dx t))
  (h:∀h' T,s.heap.objs.size<=T->Ch ((env::outer).filterMap (·.frame)) e e s.heap h'->Fl h' e C dx T (rawInt L)->Q () {s with heap:=h'}):wpAny M A (noteFrame (.ref e) env) Q E s:=by
 unfold noteFrame;simp only[hf];refine aal (aaJ he (vs:=#[.ref t,.none,.none,.none,.bool false,.none]) rfl (x:=.none) rfl ?_);rw[if_neg (by decide)];exact Fw hfr hl hf he rfl rfl rfl (by simp) h
def RG{o:Obj}{g:Array Value->Array Value}(hd:o.data= .fields vs)(hg:g vs=vs):o.mapFields g=o:=by
 obtain⟨c,d,dt,sl⟩:=o;cases hd;show Obj.mk c d (.fields (g vs)) sl=_;rw[hg]
def Av(hfr:A.frames=some (env::outer))(hl:s.heap.FunFrames base (env::outer))(hf:env.frame=some L)(hF:Fl s.heap e C dx T .none)
  (h:∀h' T',s.heap.objs.size<=T'->Ch ((env::outer).filterMap (·.frame)) e e s.heap h'->Fl h' e C dx T' (rawInt L)->Q () {s with heap:=h'}):wpAny M A (noteFrame (.ref e) env) Q E s:=by
 obtain⟨oe,vs,oT,ts,he,hc,hx,hd,h1,ne,hT,Fv,h3⟩:=hF;unfold noteFrame;simp only[hf];refine aal (aaJ he hd h1 ?_);rw[if_pos (show(Value.ref T != Value.none)=true from by simp)];refine aal (aaJ hT Fv h3 ?_);rw[if_neg (show ¬((Value.none == rawInt L)=true) from by simp[rawInt])];refine aal (aeX hT Fv (acq.mp h3).1 ?_);have idt:ts.setIfInBounds 3 Value.none=ts:=by
  apply Array.ext_getElem?
  intro i;rw[Array.getElem?_setIfInBounds];split
  .rename_i z;subst z;rw[h3];simp[(acq.mp h3).1]
  .rfl
 have all:∀b o,s.heap.get? b=some o->(s.heap.update T (Obj.mapFields (·.setIfInBounds 3 Value.none))).get? b=some o:=λb o q=>by
  by_cases z:b=T
  .subst z;rw[hT]at q;cases q;rw[abh _ hT (aew (acF Fv _)),RG Fv idt]
  .rw[aaH _ _ (abO z)];exact q
 refine Fw (base:=base) hfr (hl.of_keeps λb o hb _=>⟨o,all b o hb,rfl⟩) hf (all e oe he) hc hx hd (acq.mp h1).1 λh' T' hT' ch fF=>h h' T' ?_ ⟨λb o hb IA _ q=>ch.keep b o hb IA IA (all b o q),λb o hb q=>ch.slot b o hb (all b o q),?_⟩ fF
 .rw[aes]at hT';exact hT'
 .have:=ch.size;rw[aes]at this;exact this
def Aw(hf:env.frame=some L)(hF:Fl s.heap e C dx T (rawInt L))(h:Q () s):wpAny M A (noteFrame (.ref e) env) Q E s:=by
 obtain⟨oe,vs,oT,ts,he,hc,hx,hd,h1,ne,hT,Fv,h3⟩:=hF;unfold noteFrame;simp only[hf];refine aal (aaJ he hd h1 ?_);rw[if_pos (show(Value.ref T != Value.none)=true from by simp)];refine aal (aaJ hT Fv h3 ?_);rw[if_pos (show(rawInt L == rawInt L)=true from by simp)];exact aan h
def pK(hF:Fl s.heap e C dx T fl)(h:∀h',h'.objs.size=s.heap.objs.size->(∀b o,b≠T->s.heap.get? b=some o->h'.get? b=some o)->Fl h' e C dx T .none->Q () {s with heap:=h'}):wpAny M A (setFlight (.ref e) none) Q E s:=by
 obtain⟨oe,vs,oT,ts,he,hc,hx,hd,h1,ne,hT,Fv,h3⟩:=hF;have hz:3<ts.size:=(acq.mp h3).1;unfold setFlight;refine aal (aaJ he hd h1 ?_);rw[if_pos (show(Value.ref T != Value.none)=true from by simp)];have other:∀b,b≠T->(s.heap.update T (Obj.mapFields (·.setIfInBounds 3 ((none:BBN).elim Value.none λf=>rawInt f)))).get? b=s.heap.get? b:=λb hb=>aaH _ _ (abO hb);refine aeX hT Fv hz (h _ (aes _ _ _) (λb o hb q=>(other b hb).trans q) ⟨oe,vs,_,_,(other e (abO ne)).trans he,hc,hx,hd,h1,ne,abh _ hT (aew (acF Fv _)),acF Fv _,by simp[hz]⟩)
end
structure Lp(K:AAD)(C:Addr)(cd:ClassData):Prop where
 cls:PySem.W.clsIn K C=some cd
 nem:cd.mro.isEmpty=false
 Zw:cd.mro.contains (.type "BaseException")=true
 ga:PySem.W.findIn K (.ref C) "__getattribute__" =some (some (.builtin "BaseException.__getattribute__"))
 gt:PySem.W.findIn K (.ref C) "__getattr__" =some none
section
variable {prog:Program}{w:World}{A:Around}{E:AAE}{s:Shared}{K:AAD}{e C:Addr}{oe:Obj}{od:Option Obj}{cd:ClassData}{name:Str}{expr:Bool}{v:Value}{Q:AAE}
def RH{M:Model}{h:Heap}(X:K.In h)(I:PySem.W.InstAt h e oe C od)(c:Lp K C cd)(b:Value):PySem.W.Looks M h (isInstance (.ref e) b) (cd.mro.contains b):=
 I.type.andThen (PySem.W.looks_mroIn X (by unfold PySem.W.mroIn;rw[c.cls,aau,if_neg (by rw[c.nem];decide)]))
def VS(X:K.In s.heap)(I:PySem.W.InstAt s.heap e oe C od)(c:Lp K C cd)(hf:PySem.W.findObj K C od name=some (.value v))(hh:PySem.W.handedIn v=true)(h:Q v {s with toks:=s.toks+1}):
  wpAny (model prog w) A (getAttr (.ref e) name expr) Q E s:=by
 obtain⟨hp,g,d,t,os⟩:=s;have L0:=I.type (M:=model prog w);have L1:=ae4 (M:=model prog w) X c.ga;have L2:=ae4 (M:=model prog w) X c.gt;have L3:=PySem.W.looks_find (M:=model prog w) X I hf;have L4:=RH (M:=model prog w) X I c (.type "BaseException");rw[c.Zw]at L4;have nX:(expr && onTheHeap (Value.builtin "BaseException.__getattribute__"))=false:=by cases expr<;>rfl
 have nO:(Value.builtin "BaseException.__getattribute__" == Value.builtin "object.__getattribute__")=false:=by decide +kernel
 have FX:ExcAttrFacts "ValueError":=F.attr_ValueError;unfold getAttr getAttrBy;refine aal (wpAny_mkText (abz (aal (L0.at (aal (L1.at ?_))))));dsimp only;rw[if_neg (by rw[nO];simp)];unfold getAttrByItsOwn;refine aal (show wpAny _ _ (typeLookup (.ref C) "__getattr__") _ _ _ from L2.at ?_);refine aal (agq (abz ?_));unfold callGetattribute;rw[if_neg (by rw[nX];decide)];unfold boundAndCalled;refine aal (wpAny_of_eq (FX.ga.bind (.ref e)) ?_);refine ae6 (afo FX.ga.plain F.entry_bexc_ga ?_);have kB:builtinKind "BaseException.__getattribute__" =some .slot:=by decide +kernel
 have sB:splitId "BaseException.__getattribute__" =some ("BaseException","__getattribute__"):=by decide +kernel
 have ha:=F.args_bexc_ga (.ref e) (.str name t);simp only[checkBuiltinCall,kB,sB];refine aal (L4.at ?_);rw[if_neg (by decide)];have main:wpAny (model prog w) A.in1 (Builtin.«object.__getattribute__» {pos:=[Value.ref e]++[Value.str name t]})
   (λfin s'=>fin= .done (.ret v)/\s'=⟨hp,g,d,t+1,os⟩) (λ_ _=>False) ⟨hp,g,d,t+1,os⟩:=by
  refine aal (aan (aal (aan (aal (L0.at (aal (L3.at ?_)))))));exact aan ⟨rfl,rfl⟩
 have fin:∀(P:Fin->Shared->Prop)(G:AAE),P (.done (.ret v)) ⟨hp,g,d,t+1,os⟩->wpAny (model prog w) A.in1 (Builtin.«object.__getattribute__» {pos:=[Value.ref e]++[Value.str name t]}) P G ⟨hp,g,d,t+1,os⟩:=λP G hP=>
  aaB main (λa s' z=>by rw[z.1,z.2];exact hP) λ_ _ z=>z.elim
 have out:wpAny (model prog w) A (handedOut v) Q E ⟨hp,g,d,t+1,os⟩:=by rw[PySem.W.handedOut_of hh];exact aan h
 cases VT:Manifest.signature? "BaseException.__getattribute__" with
 |none=>exact aan (fin _ _ out)
 |some sig=>
  simp only[argsOk,VT]at ha;have h2:Bind.checkArgs "BaseException.__getattribute__" sig ⟨[.ref e,.str name t],[]⟩=pure ():=ha;show wpAny _ _ (Bind.checkArgs "BaseException.__getattribute__" sig ⟨[.ref e,.str name t],[]⟩) _ _ _;rw[h2];exact aan (fin _ _ out)
end
open PySem.Builtin PySem.Builtin.ObjectAttr
section
variable {prog:Program}{w:World}{A:Around}{s:Shared}{K:AAD}{x C:Addr}{ox:Obj}{od:Option Obj}{cd:ClassData}{name:Str}{v:Value}{tk:Tok}{R:Result->Shared->Prop}
structure Lq(K:AAD)(C:Addr)(cd:ClassData):Prop where
 cls:PySem.W.clsIn K C=some cd
 nem:cd.mro.isEmpty=false
 obj:cd.mro.contains (.type "object")=true
 hd:cd.hasDict=true
 sa:PySem.W.findIn K (.ref C) "__setattr__" =some (some (.builtin "object.__setattr__"))
 pas:∀self:Value,refuseLoop self "__setattr__" cd.mro=pure ()
def RI(X:K.In s.heap)(I:PySem.W.InstAt s.heap x ox C od)(c:Lq K C cd)(n:dQ K C name)
  (h:∀b,wpAny (model prog w) A.in1 (storeInOwnDict (.ref x) (.ref C) (.str name tk) name v b)
   (λfin s'=>match fin with|.done f=>R (.ok f) s'|.again c'=>c'.quiet=true/\codeAny (model prog w) A c' R s') (λe s'=>R (.error e) s') s):
  codeAny (model prog w) A (.call (.builtin "object.__setattr__") ⟨[.ref x,.str name tk,v],[]⟩) R s:=by
 have SF:=PySem.F.store_object;have sub:PySem.W.Looks (model prog w) s.heap (isInstance (.ref x) (.type "object")) true:=I.type.andThen (PySem.W.looks_mroIn X (by unfold PySem.W.mroIn;rw[c.cls,aau,if_neg (by rw[c.nem];decide),c.obj]));refine afo SF.slot.plain SF.entry (@PySem.W.check_slot (model prog w) _ _ s "object.__setattr__" "object" "__setattr__" (.ref x) [.str name tk,v] [] _ SF.kind SF.split sub (SF.args (.ref x) (.str name tk) v) ?_);have hm:PySem.W.Looks (model prog w) s.heap (mroOf (.ref C)) cd.mro:=(agf X c.cls).andThen .now;have L3:PySem.W.Looks (model prog w) s.heap (storeTaker? none) none:=.now;rw[PySem.W.osa_eq,refuse_eq];refine aal (aal (I.type.here (aal (hm.here ?_))));rw[c.pas];refine aan (aal (I.type.here (aal ((ae4 X n).here (aal (L3.here ?_))))));exact h _
end
open PySem.Builtin PySem.Builtin.ObjectAttr
section
variable {prog:Program}{w:World}{A:Around}{E:AAE}{s:Shared}{K:AAD}{x C t:Addr}{cd:ClassData}{name:Str}{v:Value}{Q:Unit->Shared->Prop}
def Oo(X:K.In s.heap)(hx:s.heap.get? x=some (Dt C none t))(c:Lq K C cd)(n:dQ K C name)
  (h:∀h' tk,h'.get? x=some (Dt C (some s.heap.objs.size) t)->h'.Ns1 s.heap.objs.size (λy=>if y=name then some v else none)->(∀b o,b≠x->s.heap.get? b=some o->h'.get? b=some o)->Q () {s with heap:=h',toks:=tk}):
  wpAny (model prog w) A (setAttr (.ref x) name v) Q E s:=by
 have J:PySem.W.InstAt s.heap x (Dt C none t) C none:=⟨hx,rfl,rfl,trivial⟩
 refine PySem.W.set_plain X J c.sa (RI (s:={s with toks:=s.toks+1}) X J c n λb=>?_);refine aal (aan (aal (aal (wpAny_loadPart hx (aal (PySem.W.Looks.here (s:={s with toks:=s.toks+1}) (agf X c.cls) ?_))))));rw[c.hd];have hxs:x≠s.heap.objs.size:=aaD (aap hx);have Gy:(s.heap.push {cls:=.type "dict",data:=.dict #[]}).get? x=some (Dt C none t):=aam _ hx;show wpAny _ _ (do
   let d <-alloc {cls:=Value.type "dict",data:=Data.dict #[]}
   update x λo=>{cls:=o.cls,dict:=some d,data:=o.data,slots:=o.slots}
   dictMade (Dt C none t).cls x d) _ _ _
 refine aal (wpAny_alloc' (aal (wpAny_update' Gy (aan ?_))));have hgd:((s.heap.push {cls:=.type "dict",data:=.dict #[]}).update x λo=>{cls:=o.cls,dict:=some s.heap.objs.size,data:=o.data,slots:=o.slots}).get? s.heap.objs.size=some {cls:=.type "dict",data:=.dict #[]}:=
  (Heap.get?_update_ne _ _ _ _ hxs.symm).trans (Heap.get?_push_at rfl rfl)
 have hnd:((s.heap.push {cls:=.type "dict",data:=.dict #[]}).update x λo=>{cls:=o.cls,dict:=some s.heap.objs.size,data:=o.data,slots:=o.slots}).Ns s.heap.objs.size (λ_=>none):=⟨_,#[],_,hgd,rfl,λe he=>absurd he (by simp),λ_=>rfl⟩
 show wpAny _ _ (storeInDict s.heap.objs.size (.str name s.toks) name v) _ _ _;unfold storeInDict newKeyGuard;refine aal (aan (aal (wpAny_nsSet1 (Heap.Ns1.of_empty hnd) λh' hn' hs=>?_)));obtain⟨oD,esD,epD,hoD,hdD,hcD⟩:=hn'.count (Within.cons name v Within.nil);refine aal (wpAny_lookBehind hoD (by rw[hdD];exact pastItsLine_dict (aaC hcD (by rw[aaI,aeR,afR];lia))) ?_);refine aan (h h' _ ?_ hn' λb o RJ hb=>?_)
 .refine(hs.2 x hxs).trans (abh _ Gy rfl)
 .exact(hs.2 b (aaD (aap hb))).trans ((Heap.get?_update_ne _ _ _ _ RJ).trans (aam _ hb))
end
structure TR(P:Program)(w:World)(H':Hp)(s':Shared)(e C dx T:Addr)(fs:List (Str×V)):Prop where
 at_:H' e=some (.wL C dx fs)
 fly:Fl s'.heap e C (some dx) T .none
 nt:H' T=none
def Fx(P:Program)(w:World):Ky:=λouter H s E ev s'=>∃e C dx T fs H',ev= .ref e/\s'.os=s.os/\AllBare s'.gens/\Un (frs outer) [] H H' s.heap s'.heap/\nY P w H' s'.heap/\TR P w H' s' e C dx T fs/\s.heap.objs.size<=T/\E ev (some e) H'
section
variable {P:Program}{w:World}{H:Hp}{h h':Heap}{e C dx T T':Addr}{fs:List (Str×V)}{fr:BBE}
def HP(ok:nY P w H h)(ch:Ch fr e T h h')(hf:∀b∈fr,H b=none)(hT:H T=none)(he:H e=some (.wL C dx fs))(hF:∃oe vs,h'.get? e=some oe/\oe.cls= .ref C/\oe.dict=some dx/\oe.data= .fields vs):nY P w H h':=λa o q=>by
 have kp:∀b u v,H b=some v->b≠e->h.get? b=some u->h'.get? b=some u:=λb u v hb hne z=>ch.keep b u (λm=>by rw[hf b m]at hb;cases hb) hne (λm=>by rw[m,hT]at hb;cases hb) z;by_cases ha:a=e
 .subst ha;rw[he]at q;cases q;obtain⟨d,z,ne,_,mA,⟨od,es,ep,e2,c⟩,r⟩:=(show cR P w H h a (.wL C dx fs) from ok a _ he)
  exact⟨d,z,ne,hF,mA,⟨od,es,ep,kp dx _ _ d ne e2,c⟩,r⟩
 .refine(ok a o q).stay (λb u hb z=>?_) (λ_ z=>z) (λ_ _ z=>z) λ_ _ _ z=>z;rcases hb with rfl|hb
  .exact kp b u o q ha z
  .refine kp b u _ hb (λm=>?_) z;rw[m,he]at hb;cases hb
def Ch.land{h1 h2:Heap}(ch:Ch fr e T' h h1)(hz:h.objs.size<=T)(sz:h2.objs.size=h1.objs.size)(kp:∀b o,b≠T->h1.get? b=some o->h2.get? b=some o):Ch fr e T' h h2:=
 ⟨λb o hb IA hbT q=>kp b o (λz=>absurd (aap q) (by rw[z];exact agc.mpr hz)) (ch.keep b o hb IA hbT q),λb o hb q=>let⟨sl,z⟩:=ch.slot b o hb q;⟨sl,kp b _ (λz'=>absurd (aap q) (by rw[z'];exact agc.mpr hz)) z⟩,by rw[sz];exact ch.size⟩
def Fl.obj{fl:Value}(x:Fl h e C (some dx) T fl):∃oe vs,h.get? e=some oe/\oe.cls= .ref C/\oe.dict=some dx/\oe.data= .fields vs:=by
 obtain⟨oe,vs,oT,ts,he,hc,hx,hd,_⟩:=x;exact⟨oe,vs,he,hc,hx,hd⟩
end
section
variable {X:Cx}{pins:AAG}{O:St}{H:Hp}{s:Shared}{e C dx T0:Addr}{fs:List (Str×V)}{E0:XK}
def Oq{h2:Heap}(I:Inv X pins O H s)(hst:X.stack=X.env::X.outer)(hfr:X.env.frame=some X.env.locals)(hex:X.ex=[])(ch:Ch (frs X.stack) e T0 s.heap h2)(he:H e=some (.wL C dx fs))(Ld:∃o,h2.get? e=some o)(Zx:T0=e\/X.s₀.heap.objs.size<=T0):Un (frs X.outer) [] X.H₀ H X.s₀.heap h2:=by
 have B:=I.base;rw[hex]at B;have nT:∀b o,X.s₀.heap.get? b=some o->b≠e->b≠T0:=λb o q hb z=>by
  rcases Zx with r|r
  .exact hb (z.trans r)
  .exact absurd (aap q) (by rw[z];exact agc.mpr r)
 have nL:∀b o,X.s₀.heap.get? b=some o->b∈frs X.stack->b∈frs X.outer:=λb o q hb=>by
  rw[hst]at hb;unfold frs at hb;rw[aeM,hfr]at hb;rcases aat.mp hb with z|z
  .exact absurd (aap q) (by rw[z];exact agc.mpr I.ok.above)
  .exact z
 have ne:∀b o,X.s₀.heap.get? b=some o->X.H₀ b=none->b≠e:=λb o q n z=>by
  have:=B.free b o q n (by simp);rw[z,he]at this;cases this
 have sub:∀b,b∈frs X.outer->b∈frs X.stack:=λb hb=>by
  rw[hst];unfold frs;rw[aeM,hfr];exact aar _ hb
 refine⟨λb o q n hb hx=>ch.keep b o (λm=>hb (nL b o q m)) (ne b o q n) (nT b o q (ne b o q n)) (B.keep b o q n hb hx),λb o q n hb hx=>?_,B.free,λb o q hx=>?_,B.tups,B.vH,B.wQ⟩
 .obtain⟨sl,z⟩:=B.slot b o q n hb hx;obtain⟨sl',z'⟩:=ch.slot b _ (sub b hb) z;exact⟨sl',z'⟩
 .obtain⟨o',z⟩:=B.there b o q hx;by_cases hb:b=e
  .rw[hb];exact Ld
  .by_cases hm:b∈frs X.stack
   .obtain⟨sl,z'⟩:=ch.slot b o' hm z;exact⟨_,z'⟩
   .exact⟨o',ch.keep b o' hm hb (nT b o q hb) z⟩
def Fy{t:Addr}(I:Inv X pins O H s)(hst:X.stack=X.env::X.outer)(hfr:X.env.frame=some X.env.locals)(hex:X.ex=[])(he:H e=some (.wL C dx fs))(ho:s.heap.get? e=some (Dt C (some dx) t))(hE:E0 (.ref e) (some e) H):
  wpAny (model X.prog X.w) X.A (leaving X.env (.ref e)) (λ_ s''=>Fx X.prog X.w X.outer X.H₀ X.s₀ E0 (.ref e) s'') (λe' s''=>Fx X.prog X.w X.outer X.H₀ X.s₀ E0 e' s'') s:=by
 have fr:X.A.frames=some (X.env::X.outer):=by rw[I.ok.frames,hst]
 have st:=I.stack;rw[hst]at st;have Zy:∀b∈(X.env::X.outer).filterMap (·.frame),H b=none:=λb hb=>I.sZ b (by rw[hst];exact hb);refine aal (Au fr st hfr ho λh1 T hT ch hF=>pK hF λh2 sz kp yW=>?_);have c2:=ch.land hT sz kp;have nt:H T=none:=I.hok.fresh hT;have c3:Ch ((X.env::X.outer).filterMap (·.frame)) e T s.heap h2:=⟨λb o h1 h2 _ q=>c2.keep b o h1 h2 h2 q,c2.slot,c2.size⟩
 exact⟨e,C,dx,T,fs,H,rfl,I.os,I.bare,Oq I hst hfr hex (by rw[hst];exact c2) he (let⟨oe,_,z,_⟩:=yW.obj;⟨oe,z⟩) (.inl rfl),HP I.hok c3 Zy nt he yW.obj,⟨he,yW,nt⟩,aaC I.sz hT,hE⟩
def HQ(I:Inv X pins O H s)(hst:X.stack=X.env::X.outer)(hfr:X.env.frame=some X.env.locals)(hex:X.ex=[])(fl:TR X.prog X.w H s e C dx T0 fs)(Zx:X.s₀.heap.objs.size<=T0)(hE:E0 (.ref e) (some e) H):
  wpAny (model X.prog X.w) X.A (leaving X.env (.ref e)) (λ_ s''=>Fx X.prog X.w X.outer X.H₀ X.s₀ E0 (.ref e) s'') (λe' s''=>Fx X.prog X.w X.outer X.H₀ X.s₀ E0 e' s'') s:=by
 have fr:X.A.frames=some (X.env::X.outer):=by rw[I.ok.frames,hst]
 have st:=I.stack;rw[hst]at st;have Zy:∀b∈(X.env::X.outer).filterMap (·.frame),H b=none:=λb hb=>I.sZ b (by rw[hst];exact hb);refine aal (Av fr st hfr fl.fly λh1 T hT ch hF=>pK hF λh2 sz kp yW=>?_);have c2:=ch.land hT sz kp;have nt:H T=none:=I.hok.fresh hT;have c3:Ch ((X.env::X.outer).filterMap (·.frame)) e T s.heap h2:=⟨λb o h1 h2 _ q=>c2.keep b o h1 h2 h2 q,c2.slot,c2.size⟩
 exact⟨e,C,dx,T,fs,H,rfl,I.os,I.bare,Oq I hst hfr hex (by rw[hst];exact c2) fl.at_ (let⟨oe,_,z,_⟩:=yW.obj;⟨oe,z⟩) (.inl rfl),HP I.hok c3 Zy nt fl.at_ yW.obj,⟨fl.at_,yW,nt⟩,aaC I.sz hT,hE⟩
def Fz(I:Inv X pins O H s)(hst:X.stack=X.env::X.outer)(hfr:X.env.frame=some X.env.locals)(hex:X.ex=[])(he:H e=some (.wL C dx fs))(hF:Fl s.heap e C (some dx) T0 (rawInt X.env.locals))(nt:H T0=none)(Zx:X.s₀.heap.objs.size<=T0)(hE:E0 (.ref e) (some e) H):
  wpAny (model X.prog X.w) X.A (leaving X.env (.ref e)) (λ_ s''=>Fx X.prog X.w X.outer X.H₀ X.s₀ E0 (.ref e) s'') (λe' s''=>Fx X.prog X.w X.outer X.H₀ X.s₀ E0 e' s'') s:=by
 have st:=I.stack;rw[hst]at st;have Zy:∀b∈(X.env::X.outer).filterMap (·.frame),H b=none:=λb hb=>I.sZ b (by rw[hst];exact hb);obtain⟨_,_,oT,tt,_,_,_,_,_,_,hT,Fv,_⟩:=id hF;have nT:=Jz st hT Fv;refine aal (Aw hfr hF (pK hF λh2 sz kp yW=>?_));have c2:Ch ((X.env::X.outer).filterMap (·.frame)) e T0 s.heap h2:=⟨λb o _ _ hbT q=>kp b o hbT q,λb o hb q=>⟨o.slots,kp b o (λz=>nT (by rw[<-z];exact hb)) q⟩,Nat.le_of_eq sz.symm⟩
 exact⟨e,C,dx,T0,fs,H,rfl,I.os,I.bare,Oq I hst hfr hex (by rw[hst];exact c2) he (let⟨oe,_,z,_⟩:=yW.obj;⟨oe,z⟩) (.inr Zx),HP I.hok c2 Zy nt he yW.obj,⟨he,yW,nt⟩,Zx,hE⟩
end
abbrev XQ:=St->Addr->Hp->Prop
inductive Mj(X:Cx)(pins:AAG)(Q:XQ)(ev:Value)(s':Shared):Prop
 |mk(e C dx:Addr)(fs:List (Str×V))(O':St)(H':Hp)(hv:ev= .ref e)(I:Inv X pins O' H' s')(at_:H' e=some (.wL C dx fs))
   (fl:(∃t,s'.heap.get? e=some (Dt C (some dx) t))\/∃T fl,(fl= .none\/fl=rawInt X.env.locals)/\Fl s'.heap e C (some dx) T fl/\H' T=none/\X.s₀.heap.objs.size<=T/\∀p∈X.pn++pins,p.1≠T)(q:Q O' e H')
abbrev TX:=St->Hp->XQ->Prop
def TU(X:Cx)(e:Expr)(t:TX):Prop:=∀(pins:AAG)(s:Shared)(O:St)(H:Hp)(Q:XQ),Inv X pins O H s->t O H Q->wpAny (model X.prog X.w) X.A (eval e X.env) (λ_ _=>False) (Mj X pins Q) s
def VU(X:Cx)(st:Stmt)(t:TX):Prop:=∀(pins:AAG)(s:Shared)(O:St)(H:Hp)(Q:XQ),Inv X pins O H s->t O H Q->wpAny (model X.prog X.w) X.A (exec st X.env) (λ_ _=>False) (Mj X pins Q) s
def HR(X:Cx)(st:BBH)(t:TX):Prop:=∀(pins:AAG)(s:Shared)(O:St)(H:Hp)(Q:XQ),Inv X pins O H s->t O H Q->wpAny (model X.prog X.w) X.A (execs st X.env) (λ_ _=>False) (Mj X pins Q) s
def PS.wait{t:TS}(h:PS X st t)(hx:X.xe=λ_ _=>False){s:Shared}{D:Ends}(I:Inv X pins O H s)(hw:t D O H):
  wpAny (model X.prog X.w) X.A (exec st X.env) (SP X pins D) E s:=aaB (h pins s O H D I hw) (λ_ _ z=>z) λe s' z=>by rw[hx]at z;exact z.elim
def PE.wait{e:Expr}{t:TE}(h:PE X e t)(hx:X.xe=λ_ _=>False){s:Shared}{Q:VK}(I:Inv X pins O H s)(hw:t O H Q):
  wpAny (model X.prog X.w) X.A (eval e X.env) (EP X pins O Q) E s:=aaB (h pins s O H Q I hw) (λ_ _ z=>z) λe s' z=>by rw[hx]at z;exact z.elim
def PT.wait{e:Expr}{t:TT}(h:PT X e t)(hx:X.xe=λ_ _=>False){s:Shared}{Q:Bool->Hp->Prop}(I:Inv X pins O H s)(hw:t O H Q):
  wpAny (model X.prog X.w) X.A (isTrue e X.env (eval e X.env)) (TP X pins O Q) E s:=aaB (h pins s O H Q I hw) (λ_ _ z=>z) λe s' z=>by rw[hx]at z;exact z.elim
section
variable {X:Cx}{a:Stmt}{r:BBH}{t u:TX}{ts:TS}
def CD(h:VU X a t):HR X (a::r) t:=λpins s O H Q I hw=>afX (aaB (h pins s O H Q I hw) (λ_ _ z=>z.elim) λ_ _ z=>z)
def JC(hx:X.xe=λ_ _=>False)(h:PS X a ts)(h2:HR X r u):HR X (a::r) λO H Q=>ts {nx:=λO' H'=>u O' H' Q,rt:=λ_ _=>False} O H:=λpins s O H Q I hw=>
 afX (aaB (h.wait hx I hw) (λf s' z=>by
  cases f with
  |next=>obtain⟨O',H',I',q⟩:=z;exact h2 pins s' O' H' Q I' q
  |brk=>obtain⟨_,_,_,q⟩:=z;exact q.elim
  |cont=>obtain⟨_,_,_,q⟩:=z;exact q.elim
  |ret v=>obtain⟨_,_,_,_,_,q⟩:=z;exact q.elim) λ_ _ z=>z)
end
section
variable {P:Program}{w:World}{K:AAD}{mg:AAF}{base:Heap}
def IZ.okX{qual:Str}{f:Addr}{sp:Sp}(F:IZ K x qual st f fd)(S:bq N ps (aD st))(len:∀vs H Q E,sp vs H Q E->vs.length=ps.length)
  (hbody:∀(cdv:Value)(A:Around)(outer:BBF)(s:Shared)(H:Hp)(vs:List V)(Q:VK)(E:XK),c7 k (A.deeper (envOfC qual (aD st) s.heap.objs.size f cdv))->sp vs H Q E->
   ∃t,HR (uO wM P w K mg base N qual (aD st) f cdv A outer s H E).Ma (dc st) t/\t (start N vs) H λ_ e H'=>E (.ref e) (some e) H'):fV P w K mg base (Fx P w) (k+1) f fd ps sp:=by
 obtain⟨oc,od,kV,doc,pm,an,cdv,ct,osl,rfl,lk,hcd⟩:=F.ex;refine S9 lk hcd S len λA outer s H vs Q E hr Py=>?_;obtain⟨t,h,q⟩:=hbody cdv A outer s H vs Q E hr Py;refine⟨λ_ O H1=>t O H1 λ_ e H'=>E (.ref e) (some e) H',λpins s1 O H1 D I hw=>?_,q⟩;have I0:Inv (uO wM P w K mg base N qual (aD st) f cdv A outer s H E).Ma pins O H1 s1:=⟨⟨I.ok.mod,I.ok.kind,I.ok.glob,I.ok.blt,I.ok.above,I.ok.inj,I.ok.has,I.ok.SV,I.ok.hd,I.ok.frames,I.ok.stk,I.ok.WV,I.ok.bs,I.ok.L8,I.ok.Em,I.ok.En,I.ok.uM,I.ok.Px,I.ok.tab⟩,I.os,I.bare,I.base,I.loc,I.cell,I.free,I.mO,I.pin,I.hok,I.len⟩
 refine aaB (h pins s1 O H1 _ I0 hw) (λ_ _ z=>z.elim) λev s' z=>?_;obtain⟨e,C,dx,fs,O',H',rfl,I',at_,fl,hq⟩:=z;have I2:Inv (uO (Fx P w) P w K mg base N qual (aD st) f cdv A outer s H E) pins O' H' s':=⟨⟨I'.ok.mod,I'.ok.kind,I'.ok.glob,I'.ok.blt,I'.ok.above,I'.ok.inj,I'.ok.has,I'.ok.SV,I'.ok.hd,I'.ok.frames,I'.ok.stk,I'.ok.WV,I'.ok.bs,I'.ok.L8,I'.ok.Em,I'.ok.En,I'.ok.uM,I'.ok.Px,I'.ok.tab⟩,I'.os,I'.bare,I'.base,I'.loc,I'.cell,I'.free,I'.mO,I'.pin,I'.hok,I'.len⟩
 rcases fl with⟨tt,ho⟩|⟨T,f1,hf,hF,nt,hT,_⟩
 .exact Fy I2 rfl rfl rfl at_ ho hq
 .rcases hf with rfl|rfl
  .exact HQ I2 rfl rfl rfl ⟨at_,hF,nt⟩ hT hq
  .exact Fz I2 rfl rfl rfl at_ hF nt hT hq
end
section
variable {X:Cx}{k:Nat}{f:Addr}{fd:FuncData}{ps:BBB}{sp:Sp}{um:List V}{ds:AAL}{x:Str}{p pos:Pos}{e:Expr}{es:BBC}{t:TA}
def PA.wait(h:PA X es t)(hx:X.xe=λ_ _=>False){s:Shared}{Q:List V->Hp->Prop}(I:Inv X pins O H s)(hw:t O H Q):
  wpAny (model X.prog X.w) X.A (spliced (backTo pos (starEach es X.env))) (AP X pins O Q) E s:=aaB (h pos pins s O H Q I hw) (λ_ _ z=>z) λe s' z=>by rw[hx]at z;exact z.elim
def JF{s:Shared}{Q:XQ}{vs:List V}(F:fV X.prog X.w X.K X.mg X.base (Fx X.prog X.w) k f fd ps sp)(hr:c7 k X.A)(hb:Binds X.K fd ps ds)(hd:Vals um ds)
  (I:Inv X pins O H s)(r:Vals vs us)(h:sp (vs++um) H (λ_ _=>False) λev _ H'=>∃a,ev= .ref a/\Q O a H'):wpAny (model X.prog X.w) X.A (call (.ref f) us) (λ_ _=>False) (Mj X pins Q) s:=by
 have r2:Vals (vs++um) (us++ds):=r.append hd;have hl:(us++ds).length=ps.length:=by rw[<-r2.length];exact F.len _ _ _ _ h
 refine ae6 (aeH (F.run X.A X.stack s H ⟨us,[]⟩ (us++ds) (vs++um) _ _ hr I.Qc (hb s us I.uh hl) r2 h) λr s' hq=>?_);cases r with
 |error ev=>
  obtain⟨e,C,dx,T,fs,H',rfl,os,bare,un,hok,fl,hT,a,z,hq⟩:=(show Fx X.prog X.w X.stack H s (λev _ H'=>∃a,ev= .ref a/\Q O a H') ev s' from hq)
  cases z;exact⟨e,C,dx,fs,O,H',rfl,I.SX (ch:=[]) os un hok bare λb z=>absurd z (by simp),fl.at_,.inr ⟨T,.none,.inl rfl,fl.fly,fl.nt,aaC I.sz hT,λp hp z=>absurd (aap (I.pin p hp).1) (by rw[z];exact agc.mpr hT)⟩,hq⟩
 |ok fl=>
  cases fl with
  |ret u=>obtain⟨_,_,_,_,_,_,_,z⟩:=(show CE X.stack X.prog X.w H s (λ_ _=>False) u s' from hq);exact z
  |next=>exact False.elim hq
  |brk=>exact False.elim hq
  |cont=>exact False.elim hq
def RK(F:fV X.prog X.w X.K X.mg X.base (Fx X.prog X.w) k f fd ps sp)(hx:X.xe=λ_ _=>False)(hr:c7 k X.A)(hg:Gl X x)(hm:X.mg x=some (.ref f))(hk:PySem.W.keepIn X.K (.ref f)=true)(hb:Binds X.K fd ps ds)(hd:Vals um ds)
  (ha:PA X (e::es) t)(hdb:BBT x:=by decide)(he:starEach (e::es) X.env=(false,eval e X.env)::starEach es X.env:=by rfl)(hpl:(backTo pos (starEach es X.env)).any (·.1)=false:=by rfl):
  TU X (.Call (.Name x p) (e::es) [] pos) λO H Q=>t O H λvs H1=>sp (vs++um) H1 (λ_ _=>False) λev _ H'=>∃a,ev= .ref a/\Q O a H':=by
 intro pins s O H Q I h;refine abU (o7 I hg hm ?_ hdb);refine adK (h₀:=X.base) I.ok.mod.PU hk (cS (ha.wait hx I h) λus s1 hh=>?_) he hpl;obtain⟨vs,H1,I1,r,q⟩:=hh;exact⟨I1.uh,JF F hr hb hd I1 r q⟩
def Ot{g:Str}{tx:TX}{gf:Addr}(h:TU X e tx)(hg:Gl X g)(hm:X.mg g=some (.ref gf))(hk:PySem.W.keepIn X.K (.ref gf)=true)(hdb:BBT g:=by decide)
  (he:starEach [e] X.env=[(false,eval e X.env)]:=by rfl):TU X (.Call (.Name g p) [e] [] pos) tx:=by
 intro pins s O H Q I hw;refine abU (o7 I hg hm ?_ hdb);refine adK (h₀:=X.base) I.ok.mod.PU hk ?_ he rfl;rw[he];exact ab9 (aaB (h pins s O H Q I hw) (λ_ _ z=>z.elim) λ_ _ z=>z)
end
def Eh(a C t:Addr)(dx:BBN):HO:=.ext λh=>h.get? a=some (Dt C dx t)
section
variable {X:Cx}{pins:AAG}{O:St}{H:Hp}{s:Shared}{a C t:Addr}{cd:ClassData}{f:Str}{y:V}{u:Value}{A:Around}{E:AAE}{Q:Unit->Shared->Prop}
def VW(I:Inv X pins O H s)(e:H a=some (Eh a C t none))(c:Lq X.K C cd)(n:dQ X.K C f)(ry:RelV y u)
  (h:∀s',H s.heap.objs.size=none->s.heap.objs.size≠a->Inv X pins O (upd (upd H s.heap.objs.size (.xd [(f,y)])) a (Eh a C t (some s.heap.objs.size))) s'->Q () s'):wpAny (model X.prog X.w) A (setAttr (.ref a) f u) Q E s:=by
 have hx:s.heap.get? a=some (Dt C none t):=(I.hok a _ e).1;have hz:H s.heap.objs.size=none:=I.hok.fresh (aaq _);have ne:s.heap.objs.size≠a:=adP (aap hx);refine Oo I.uh hx c n λh' tk ho hN kp=>h _ hz ne ?_;have ed:upd (upd H s.heap.objs.size (.xd [(f,y)])) a (Eh a C t (some s.heap.objs.size)) s.heap.objs.size=some (.xd [(f,y)]):=by rw[aR ne,aZ]
 have Bw:∀b,b≠a->b≠s.heap.objs.size->upd (upd H s.heap.objs.size (.xd [(f,y)])) a (Eh a C t (some s.heap.objs.size)) b=H b:=λb h1 h2=>by rw[aR h1,aR h2]
 have lt:∀b o,s.heap.get? b=some o->b≠s.heap.objs.size:=λb o q=>aaD (aap q);have na:∀b,H b=none->b≠a:=λb q z=>by rw[z,e]at q;cases q
 have nz:∀b v,H b=some v->b≠s.heap.objs.size:=λb v q z=>by rw[z,hz]at q;cases q
 refine I.un ⟨λb o q m _ _=>kp b o (na b m) q,λb o q m _ _=>⟨o.slots,kp b o (na b m) q⟩,λb o q m _=>by rw[Bw b (na b m) (lt b o q)];exact m,λb o q _=>?_,λb xs q=>?_,λb o v q=>?_,λb ps q=>?_⟩ λb o q=>?_
 .by_cases hb:b=a
  .rw[hb];exact⟨_,ho⟩
  .exact⟨o,kp b o hb q⟩
 .rw[Bw b (λz=>by rw[z,e]at q;cases q) (nz b _ q)];exact q
 .rw[Bw b (λz=>by rw[z,e]at q;cases q) (nz b _ q)];exact q
 .rw[Bw b (λz=>by rw[z,e]at q;cases q) (nz b _ q)];exact q
 .by_cases hb:b=a
  .subst hb;rw[aZ]at q;cases q;exact⟨ho,⟨_,ho⟩,λh1 h2 p k=>k _ p⟩
  .by_cases hd:b=s.heap.objs.size
   .subst hd;rw[ed]at q;cases q;refine⟨_,hN,λg=>?_,λg hg=>?_⟩
    .by_cases z:g=f
     .subst z;simp[List.lookup];exact ry
     .have:(g == f)=false:=by simpa using z
      simp[List.lookup,this,z];trivial
    .by_cases z:g=f
     .simp[z]
     .simp[z]at hg
   .rw[Bw b hb hd]at q;refine(I.hok b o q).stay (λd v hd' z=>kp d v (λz'=>?_) z) (λd z=>?_) (λd xs z=>?_) λd o u z=>?_
    .rcases hd' with r|r
     .exact hb (r.symm.trans z')
     .rw[z',e]at r;cases r
    .rw[Bw d (λz'=>by rw[z',e]at z;cases z) (nz d _ z)];exact z
    .rw[Bw d (λz'=>by rw[z',e]at z;cases z) (nz d _ z)];exact z
    .rw[Bw d (λz'=>by rw[z',e]at z;cases z) (nz d _ z)];exact z
end
section
variable {X:Cx}{C:Addr}{cd:ClassData}{f:Str}{o value:Expr}{ta tv:TE}{pos pos':Pos}
def VX(c:Lq X.K C cd)(n:dQ X.K C f)(ha:PE X o ta)(hv:PE X value tv)(hs:swapsWith value (some (.Attribute o f pos')) pos.line X.env=pure false):PS X (.Assign [.Attribute o f pos'] value pos)
  λD O H=>tv O H λy H1=>ta O H1 λx H2=>∃a t,x= .ref a/\H2 a=some (Eh a C t none)/\∀dx,H2 dx=none->dx≠a->D.nx O (upd (upd H2 dx (.xd [(f,y)])) a (Eh a C t (some dx))):=by
 intro pins s O H D I h;refine af2 (cS (hv pins s O H _ I h) λu s1 h1=>?_) hs;obtain⟨y,H1,I1,ry,q⟩:=h1;refine cS (ha pins s1 O H1 _ I1 q) λov s2 hh=>?_;obtain⟨x,H2,I2,rx,a,t,ex,ea,q2⟩:=hh;subst ex;obtain rfl:ov=Value.ref a:=rx;exact VW I2 ea c n ry λs3 hz ne I3=>⟨O,_,I3,q2 _ hz ne⟩
end
def cR.has{P:Program}{w:World}{h:Heap}{a:Addr}{o:HO}(x:cR P w H h a o):∃ob,h.get? a=some ob:=by
 cases o with
 |lst xs=>obtain⟨_,_,_,_,e⟩:=x;exact⟨_,e⟩
 |tup xs=>obtain⟨_,_,_,ob,e,_⟩:=x;exact⟨_,e⟩
 |dK kvs=>obtain⟨_,_,_,_,o,_,_,e,_⟩:=x;exact⟨_,e⟩
 |dT kvs=>obtain⟨_,_,_,_,o,_,_,e,_⟩:=x;exact⟨_,e⟩
 |set S n=>obtain⟨o,_,_,_,e,_⟩:=x;exact⟨_,e⟩
 |ins C dx fs=>obtain⟨_,_,_,e,_⟩:=x;exact⟨_,e⟩
 |wL C dx fs=>obtain⟨_,_,_,⟨_,_,e,_⟩,_⟩:=x;exact⟨_,e⟩
 |own y=>exact x
 |xd fs=>obtain⟨_,⟨_,_,_,e,_⟩,_⟩:=x;exact⟨_,e⟩
 |vF lo hi=>obtain⟨_,_,_,e⟩:=x;exact⟨_,e⟩
 |kg ob u=>obtain⟨e,_⟩:=x;exact⟨_,e⟩
 |Gv ps=>obtain⟨_,e,_⟩:=x;exact⟨_,e⟩
 |met f y=>exact⟨_,(show h.get? a=some _ from x)⟩
 |ext φ=>obtain⟨_,e,_⟩:=x;exact e
structure XMk(K:AAD)(C fI:Addr)(bm bmB:AAL)(B newId initId:String):Prop where
 obj:∃nm q N bs hdct sn sub ab col dd k0 k1 k2 k3 k5,K.lookup C=some (excClassObj nm q C N bs bm hdct sn sub ab col dd k0 k1 k2 k3 k5 newId)/\PySem.W.nsOkIn K N=true/\PySem.W.nsIn K N "__init__" =some (some (.ref fI))
 tail:PySem.W.tailIn K bmB bm=true
 fac:ExcBaseFacts B newId initId bmB
 Zw:bmB.contains (.type "BaseException")=true
 fn:∃oI,K.lookup fI=some oI/\oI.cls= .type "function"
section
variable {X:Cx}{pins:AAG}{O:St}{H:Hp}{s:Shared}{a C t dx:Addr}{fs:List (Str×V)}
def Inv.Zz{h':Heap}(I:Inv X pins O H s)(m:Heap.MadeExcOf s.heap h' a (.ref C) us):∃t,H a=none/\Inv X pins O (upd H a (Eh a C t none)) {s with heap:=h'}:=by
 obtain⟨t,ho,_,_⟩:=m.there;have hn:H a=none:=by
  cases q:H a with
  |none=>rfl
  |some o=>obtain⟨ob,z⟩:=(I.hok a o q).has;rw[m.new]at z;cases z
 refine⟨t,hn,?_⟩;have na:∀b o,s.heap.get? b=some o->b≠a:=λb o q z=>by rw[z,m.new]at q;cases q
 have nh:∀b v,H b=some v->b≠a:=λb v q z=>by rw[z,hn]at q;cases q
 refine I.un (t':=s.toks) ⟨λb o q _ _ _=>m.keeps b o q,λb o q _ _ _=>⟨o.slots,m.keeps b o q⟩,λb o q z _=>by rw[aR (na b o q)];exact z,λb o q _=>⟨o,m.keeps b o q⟩,λb xs q=>by rw[aR (nh b _ q)];exact q,λb o v q=>by rw[aR (nh b _ q)];exact q,λb ps q=>by rw[aR (nh b _ q)];exact q⟩ λb o q=>?_;by_cases hb:b=a
 .subst hb;rw[aZ]at q;cases q;exact⟨ho,⟨_,ho⟩,λh1 h2 p k=>k _ p⟩
 .rw[aR hb]at q;exact(I.hok b o q).stay (λc v _ z=>m.keeps c v z) (λc z=>by rw[aR (nh c _ z)];exact z) (λc xs z=>by rw[aR (nh c _ z)];exact z) λc o u z=>by rw[aR (nh c _ z)];exact z
def Inv.VY(I:Inv X pins O H s)(e:H a=some (Eh a C t (some dx)))(ed:H dx=some (.xd fs))(hl:fs.length<=1000):Inv X pins O (upd (upd H dx (.own a)) a (.wL C dx fs)) s:=by
 have ne:dx≠a:=λz=>by rw[z,e]at ed;cases ed
 have ho:s.heap.get? a=some (Dt C (some dx) t):=(I.hok a _ e).1;obtain⟨mA,hN,r,wi⟩:=(show cR X.prog X.w H s.heap dx (.xd fs) from I.hok dx _ ed)
 have hd:∃o,s.heap.get? dx=some o:=let⟨o,_,_,z,_⟩:=hN;⟨o,z⟩
 have I1:Inv X pins O (upd H dx (.own a)) s:=I.write (x:=dx) (e:=dx) (t':=s.toks) (by rw[ed];exact True.intro) (.inl rfl) (λb q _ z=>z) hd hd;exact I1.write (x:=a) (e:=a) (t':=s.toks) (by rw[aR ne.symm,e];exact True.intro) (.inl rfl) (λb q _ z=>z) ⟨_,ho⟩ ⟨by rw[aR ne,aZ],hl,ne,⟨_,_,ho,rfl,rfl,rfl⟩,mA,hN,r,wi⟩
end
def HS{h:Heap}{N:Addr}{mg:AAF}{n:Str}{v:Value}(X:K.In h)(G:h.Ns N mg)(e:PySem.W.nsIn K N n=some (some v)):mg n=some v:=by
 obtain⟨ob,ee,e0,gb,gd,_,fnd⟩:=G;unfold PySem.W.nsIn at e;split at e
 .rename_i k1 k2 k3 k4 k5 look;have w:=X _ _ look;rw[gb]at w;cases w;cases gd;split at e
  .rename_i en hit;cases e;rw[<-fnd];unfold nsFind findBy;rw[<-Array.find?_toList,hit];rfl
  .split at e<;>cases e
 .cases e
section
variable {X:Cx}{C fI:Addr}{bm bmB:AAL}{B newId initId:String}{kI:Nat}{TV:FuncData}{PF:BBB}{RL:Sp}{x:Str}{np cpos pos:Pos}{e:Expr}{es:BBC}{t:TA}
def Ou(M:XMk X.K C fI bm bmB B newId initId)(FI:fV X.prog X.w X.K X.mg X.base wM kI fI TV PF RL)(hx:X.xe=λ_ _=>False)(hc:X.calm=true)(hr:c7 (kI+1) X.A)(hg:Gl X x)(hm:X.mg x=some (.ref C))(hk:PySem.W.keepIn X.K (.ref C)=true)(hb:Binds X.K TV PF [])
  (ha:PA X (e::es) t)(hdb:BBT x:=by decide)(he:starEach (e::es) X.env=(false,eval e X.env)::starEach es X.env:=by rfl)(hpl:(backTo cpos (starEach es X.env)).any (·.1)=false:=by rfl):
  VU X (.Raise (some (.Call (.Name x np) (e::es) [] cpos)) none pos) λO H Q=>t O H λvs H1=>vs.length<=sizeLine/\∀a tt,H1 a=none->
   RL (.ref a::vs) (upd H1 a (Eh a C tt none)) (λv H2=>v= .cD/\∃dx fs,H2 a=some (Eh a C tt (some dx))/\H2 dx=some (.xd fs)/\fs.length<=1000/\Q O a (upd (upd H2 dx (.own a)) a (.wL C dx fs))) E0:=by
 intro pins s O H Q I h;obtain⟨nm,q,N,bs,hdct,sn,sub,ab,col,dd,k0,k1,k2,k3,k5,lk,nso,nsi⟩:=M.obj;obtain⟨oI,lkI,hfc⟩:=M.fn;have tl:∀{h:Heap},X.K.In h->OwnTail h bmB bm:=λ{h} z=>PySem.W.tail_of_in z M.tail;rw[arm_exec_Raise];refine aal (afV (Om (C:=C) (nm:=nm) (q:=q) (N:=N) (bs:=bs) (bm:=bm) (hdct:=hdct) (sn:=sn) (sub:=sub) (ab:=ab) (col:=col) (dd:=dd) (k0:=k0) (k1:=k1) (k2:=k2) (k3:=k3) (k5:=k5) (newId:=newId) ((tl I.uh).hasType M.Zw) (I.ok.hd hc) (aal (aaB ?_ (λv s1 z=>aal (afV (aan z))) λ_ _ z=>z))));refine abU (o7 I hg hm ?_ hdb);refine adK (h₀:=X.base) I.ok.mod.PU hk (cS (ha.wait hx I h) λus s1 hh=>?_) he hpl;obtain⟨vs,H1,I1,r,hz,q1⟩:=hh;refine⟨I1.uh,?_⟩;obtain⟨hp,g,d,tk,os⟩:=s1;have KI:X.K.In hp:=I1.uh;have Nn:hp.Ns N (hp.nsMap N):=.of_isNs (PySem.W.isNs_of_in KI nso);refine RE M.fac (tl KI) (KI _ _ lk) Nn (HS KI Nn nsi) (KI _ _ lkI) hfc (λh' a m=>?_) (by show us.length<=sizeLine;rw[<-r.length];exact hz);obtain⟨tt,hn,I2⟩:=I1.Zz m;have sp:=q1 a tt hn;have r2:Vals (V.ref a::vs) (Value.ref a::us):=.cons rfl r;have hl:(Value.ref a::us).length=PF.length:=by rw[<-r2.length];exact FI.len _ _ _ _ sp
 refine ae6 (aeH (FI.run (X.A.under (.builtin "type.__call__" ⟨.ref C::us,[]⟩)) X.stack _ _ ⟨.ref a::us,[]⟩ (.ref a::us) _ _ E0 (hr.make C us []) (I2.Qc.make C us []) (by have:=hb _ (.ref a::us) I2.uh (by rw[abE];exact hl);rw[abE]at this;exact this) r2 sp) λr s' hq=>?_);cases r with
 |error ev=>exact(show False from hq).elim
 |ok fl=>
  cases fl with
  |next=>exact False.elim hq
  |brk=>exact False.elim hq
  |cont=>exact False.elim hq
  |ret u=>
   obtain⟨v,H3,I3,rv,ev,dx,fs,e1,e2,e3,q3⟩:=I2.after hq;subst ev;exact⟨rv,a,tt,some dx,rfl,I3.uh _ _ lk,(I3.hok a _ e1).1,⟨a,C,dx,fs,O,_,rfl,I3.VY e1 e2 e3,aZ,.inl ⟨tt,(I3.hok a _ e1).1⟩,q3⟩⟩
end
section
variable {X:Cx}{pins:AAG}{O:St}{H:Hp}{s:Shared}{M:Model}{A:Around}{E:AAE}
def VZ{i:Nat}{n:Str}{Q:Bool->Shared->Prop}(I:Inv X pins O H s)(hN:X.N.Nodup)(hi:X.N[i]? =some n)(v:V)(hs:O[i]? =some (some v))(hk:X.env.kindOf n=some .local)
  (h:∀s',Inv X pins (O.set i none) H s'->Q true s'):wpAny M A (nsDel X.env.locals n) Q E s:=by
 obtain⟨m,hn,hl⟩:=id I.loc;have hb:(m n).isSome=true:=by
  obtain⟨u,_,z⟩:=hl i n v hi hs (.inl hk);rcases z with⟨_,z⟩|⟨z,_⟩
  .rw[z];rfl
  .rcases z with z|z<;>(rw[hk]at z;cases z)
 refine wpAny_nsDel_keeps hn λh' w hn' sb=>?_;rw[hb];have WW:∀b o,X.s₀.heap.get? b=some o->b≠X.env.locals:=λb o q=>aaD (aax (aap q) I.ok.above);have Ko:i<O.length:=by rw[I.len];exact(aaA.mp hi).1
 refine h _ ⟨I.ok,I.os,I.bare,⟨λb o q z hb hx=>(sb.2 b (WW b o q)).trans (I.base.keep b o q z hb hx),λb o q z hb hx=>?_,I.base.free,λb o q hx=>?_,I.base.tups,I.base.vH,I.base.wQ⟩,⟨_,hn',λj y v' e1 e2 e3=>?_⟩,λy c q=>?_,I.free,I.mO,λp hp=>?_,λb o q=>?_,by simpa using I.len⟩
 .obtain⟨sl,r⟩:=I.base.slot b o q z hb hx;exact⟨sl,(sb.2 b (WW b o q)).trans r⟩
 .obtain⟨o',r⟩:=I.base.there b o q hx;exact⟨o',(sb.2 b (WW b o q)).trans r⟩
 .by_cases hj:j=i
  .subst hj;rw[abD Ko]at e2;cases e2
  .rw[abg (abO hj)]at e2;obtain⟨u,r,q⟩:=hl j y v' e1 e2 e3;refine⟨u,r,?_⟩;rcases q with⟨k,q⟩|⟨k,c,q,z⟩
   .have:y≠n:=λz=>hj (zJ hN e1 (z▸hi));exact .inl ⟨k,by simp[this,q]⟩
   .exact .inr ⟨k,c,q,z.sameBut sb (I.PV y c q)⟩
 .obtain⟨u,z⟩:=I.cell y c q;exact⟨u,z.sameBut sb (I.PV y c q)⟩
 .obtain⟨q,z,ne,nf,d⟩:=I.pin p hp;exact⟨(sb.2 p.1 ne).trans q,z,ne,nf,d⟩
 .refine(I.hok b o q).stay (λc u hc z=>(sb.2 c λz'=>?_).trans z) (λ_ z=>z) (λ_ _ z=>z) λ_ _ _ z=>z;rcases hc with r|r
  .rw[<-r,z',I.free]at q;cases q
  .rw[z',I.free]at r;cases r
def zB{i:Nat}{n:Str}{pos:Pos}{Q:Unit->Shared->Prop}(I:Inv X pins O H s)(hN:X.N.Nodup)(hi:X.N[i]? =some n)(hk:X.env.kindOf n=some .local)(h:∀s',Inv X pins (O.set i none) H s'->Q () s'):
  wpAny M A (do bindName X.env n .none;unbindBehindTheSuite X.env n pos) Q E s:=by
 have hp:(X.env.scope.kind == .class || (X.env.scope.kind == .module && X.env.locals != X.env.globals))=false:=by rw[I.ok.kind];rfl
 have Ko:i<O.length:=by rw[I.len];exact(aaA.mp hi).1
 refine aal (wpAny_bindName (qJ (v:=.cD) I hN hi (.inl hk) rfl (λs1 I1=>?_) (.inr hk)));unfold unbindBehindTheSuite;refine aeP ?_;unfold unbindName;refine aal (wpAny_point (aal ?_));unfold deleteName;simp only[hk,hp];rw[if_neg (by decide)];refine aal (VZ I1 hN hi .cD (abD Ko) hk λs2 I2=>?_);rw[List.set_set]at I2;simp only[if_true,ag2,acp,aey];exact aan (wpAny_point (h _ (I2.tok _)))
def Inv.ch{h':Heap}{e C dx:Addr}{fs:List (Str×V)}(I:Inv X pins O H s)(ch:Ch (frs X.stack) e e s.heap h')(he:H e=some (.wL C dx fs))(hF:∃oe vs,h'.get? e=some oe/\oe.cls= .ref C/\oe.dict=some dx/\oe.data= .fields vs):Inv X pins O H {s with heap:=h'}:=by
 have ne:∀b,H b=none->b≠e:=λb q z=>by rw[z,he]at q;cases q
 have hok:nY X.prog X.w H h':=λa o q=>by
  have kp:∀b u v,H b=some v->b≠e->s.heap.get? b=some u->h'.get? b=some u:=λb u v hb hne z=>ch.keep b u (λm=>by rw[I.sZ b m]at hb;cases hb) hne hne z;by_cases ha:a=e
  .subst ha;rw[he]at q;cases q;obtain⟨d,z,n1,_,mA,⟨od,es,ep,e2,c⟩,r⟩:=(show cR X.prog X.w H s.heap a (.wL C dx fs) from I.hok a _ he)
   exact⟨d,z,n1,hF,mA,⟨od,es,ep,kp dx _ _ d n1 e2,c⟩,r⟩
  .refine(I.hok a o q).stay (λb u hb z=>?_) (λ_ z=>z) (λ_ _ z=>z) λ_ _ _ z=>z;rcases hb with r|r
   .rw[r]at z ⊢;exact kp a u o q ha z
   .exact kp b u _ r (λm=>by rw[m,he]at r;cases r) z
 refine I.call (g':=s.gens) (d':=s.drawn) (t':=s.toks) (ch:=[]) ⟨λb o q z hb _=>ch.keep b o hb (ne b z) (ne b z) q,λb o q z hb _=>ch.slot b o hb q,λ_ _ _ z _=>z,λb o q _=>?_,λ_ _ z=>z,λ_ _ _ z=>z,λ_ _ z=>z⟩ hok I.bare λb z=>absurd z (by simp);by_cases hb:b=e
 .rw[hb];obtain⟨oe,_,z,_⟩:=hF;exact⟨oe,z⟩
 .by_cases hm:b∈frs X.stack
  .obtain⟨sl,z⟩:=ch.slot b o hm q;exact⟨_,z⟩
  .exact⟨o,ch.keep b o hm hb hb q⟩
def Inv.chT{h':Heap}{e dx T:Addr}{fs:List (Str×V)}{oT:Obj}{tt:AAK}(I:Inv X pins O H s)(kp:∀b o,b≠T->s.heap.get? b=some o->h'.get? b=some o)(he:H e=some (.wL C dx fs))(hT:H T=none)(hz:X.s₀.heap.objs.size<=T)(hp:∀p∈X.pn++pins,p.1≠T)(gT:s.heap.get? T=some oT)(dT:oT.data= .fields tt)(hT':∃o,h'.get? T=some o):Inv X pins O H {s with heap:=h'}:=by
 have nh:∀b v,H b=some v->b≠T:=λb v q z=>by rw[z,hT]at q;cases q
 have hok:nY X.prog X.w H h':=λa o q=>(I.hok a o q).stay (λb u hb z=>kp b u (by
  rcases hb with r|r
  .rw[r];exact nh a o q
  .exact nh b _ r) z) (λ_ z=>z) (λ_ _ z=>z) λ_ _ _ z=>z
 refine I.call (g':=s.gens) (d':=s.drawn) (t':=s.toks) (ch:=[T]) ⟨λb o q _ _ hx=>kp b o (λz=>hx (by simp[z])) q,λb o q _ _ hx=>⟨o.slots,kp b o (λz=>hx (by simp[z])) q⟩,λ_ _ _ z _=>z,λb o q hx=>⟨o,kp b o (λz=>hx (by simp[z])) q⟩,λ_ _ z=>z,λ_ _ _ z=>z,λ_ _ z=>z⟩ hok I.bare λb hb=>?_;obtain rfl:b=T:=by simpa using hb
 refine⟨.inr hz,λz=>?_,λx c q z=>?_,hp⟩
 .obtain⟨m,⟨o,es,ep,g,d,_⟩,_⟩:=I.loc;rw[<-z,gT]at g;cases g;rw[dT]at d;cases d
 .obtain⟨v,o,g,d⟩:=I.cell x c q;rw[z,gT]at g;cases g;rw[dT]at d;cases d
end
noncomputable def Cx.hand(X:Cx)(e:Addr):Cx:={X with A:=X.A.mark (some (.ref e)),calm:=false}
section
variable {X:Cx}{pins:AAG}{O:St}{H:Hp}{s:Shared}{e:Addr}
def Inv.hand(I:Inv X pins O H s)(e:Addr):Inv (X.hand e) pins O H s:=
 ⟨⟨I.ok.mod,I.ok.kind,I.ok.glob,I.ok.blt,I.ok.above,I.ok.inj,I.ok.has,I.ok.SV,(λz=>by cases z),I.ok.frames,I.ok.stk,I.ok.WV,I.ok.bs,I.ok.L8,I.ok.Em,I.ok.En,I.ok.uM,I.ok.Px,I.ok.tab⟩,I.os,I.bare,I.base,I.loc,I.cell,I.free,I.mO,I.pin,I.hok,I.len⟩
def Inv.Du(I:Inv (X.hand e) pins O H s)(ok:X.Ok):Inv X pins O H s:=⟨ok,I.os,I.bare,I.base,I.loc,I.cell,I.free,I.mO,I.pin,I.hok,I.len⟩
end
def Ax(K:AAD)(C:Addr)(bm:AAL):Prop:=∃nm q N bs hdct sn sub ab col dd k0 k1 k2 k3 k5 newId,K.lookup C=some (excClassObj nm q C N bs bm hdct sn sub ab col dd k0 k1 k2 k3 k5 newId)
def Ov{M:Model}{A:Around}{s:Shared}{e C0:Addr}{RM:AAL}{Q:Bool->Shared->Prop}(X:K.In s.heap)(hC:Ax K C bm)(h0:Ax K C0 RM)(he:s.heap.get? e=some oe)(hc:oe.cls= .ref C)
  (hb:RM.contains (.type "BaseException")=true)(hin:(Value.ref C::bm).contains (.ref C0)=true)(h:Q true s):wpAny M A (excMatches (.ref e) (.ref C0)) Q E s:=by
 obtain⟨nm,q,N,bs,hdct,sn,sub,ab,col,dd,k0,k1,k2,k3,k5,ni,lC⟩:=hC;obtain⟨nm',q',N',bs',afn,sn',sub',ab',col',Tf,j0,j1,j2,j3,j5,ni',l0⟩:=h0;obtain⟨hp,g,d,tk,os⟩:=s;have gC:hp.get? C=some _:=X _ _ lC;have g0:hp.get? C0=some _:=X _ _ l0;have hcB:(Value.ref C0::RM).contains (.type "BaseException")=true:=by rw[List.contains_cons,hb,Bool.or_true]
 have hnt:=tc_notTuple;unfold excMatches
 repeat (first|(with_reducible refine adU he ?_;rw[hc])|with_reducible refine adU g0 ?_|(with_reducible refine afr g0 ?_;rw[hcB])|(with_reducible refine afr gC ?_;rw[hin])|wp_step)
 exact h
section
variable {X:Cx}{body suite:BBH}{b0:Stmt}{x n:Str}{np hpos pos:Pos}{tx:TX}{ts:Addr->TS}{i:Nat}{C0:Addr}{RM:AAL}
def V0(hx:X.xe=λ_ _=>False)(hst:X.stack=X.env::X.outer)(hfr:X.env.frame=some X.env.locals)(hN:X.N.Nodup)(hi:X.N[i]? =some n)(hk:X.env.kindOf n=some .local)(hg:Gl X x)(hm:X.mg x=some (.ref C0))(h0:Ax X.K C0 RM)(hb0:RM.contains (.type "BaseException")=true)
  (hb:HR X body tx)(hs:∀a,CT (X.hand a) (b0::suite) (ts a))(hdb:BBT x:=by decide):PS X (.Try body [.ExceptHandler (some (.Name x np)) (some n) (b0::suite) hpos] [] [] pos)
  λD O H=>tx O H λO1 a H1=>∃C dx fs bm,H1 a=some (.wL C dx fs)/\Ax X.K C bm/\(Value.ref C::bm).contains (.ref C0)=true/\
   ts a {nx:=λO2 H2=>D.nx (O2.set i none) H2,rt:=D.rt,bk:=λO2 H2=>D.bk (O2.set i none) H2,ct:=λO2 H2=>D.ct (O2.set i none) H2} (O1.set i (some (.ref a))) H1:=by
 intro pins s O H D I h;refine wpAny_Try_except (aaB (hb pins s O H _ I h) (λ_ _ z=>z.elim) λev s1 thr=>?_);obtain⟨e,C,dx,fs,O1,H1,rfl,I1,at_,fl,C',WY,fs',bm,e1,hC,hin,q⟩:=thr;rw[at_]at e1;cases e1;have fr:X.A.frames=some (X.env::X.outer):=by rw[I1.ok.frames,hst]
 have st:=I1.stack;rw[hst]at st;have key:∀h2 T,Inv X pins O1 H1 {s1 with heap:=h2}->(∀h3:Heap,h3.objs.size=h2.objs.size->(∀b o,b≠T->h2.get? b=some o->h3.get? b=some o)->Fl h3 e C (some dx) T .none->Inv X pins O1 H1 {s1 with heap:=h3})->Fl h2 e C (some dx) T .none->
   wpAny (model X.prog X.w) X.A (handleBy (.ref e) X.env [.ExceptHandler (some (.Name x np)) (some n) (b0::suite) hpos]) (SP X pins D) X.xe {s1 with heap:=h2}:=by
  intro h2 T I2 nxt hF;refine wpAny_handleBy_cons (codeAny_handlers_test ?_) (by intro q;cases q);refine o7 (X:=X.hand e) (I2.hand e) hg hm ?_ hdb;obtain⟨oe,vs,ho,hc,_,_⟩:=hF.obj;refine Ov I2.uh hC h0 ho hc hb0 hin ?_;refine codeAny_handlers_suite_as ?_;refine pK (s:={s1 with heap:=h2}) hF λh3 sz kp ZA=>?_;have I3:=nxt h3 sz kp ZA;refine qJ (v:=.ref e) I3 hN hi (.inl hk) rfl (λs4 I4=>?_) (.inr hk);refine aaB (hs e pins s4 _ H1 _ (I4.hand e) q) (λf s5 z=>?_) λev s5 z=>?_
  .cases f with
   |next=>obtain⟨O5,H5,I5,z⟩:=z;exact zB (I5.Du I.ok) hN hi hk λs6 I6=>⟨_,H5,I6,z⟩
   |brk=>obtain⟨O5,H5,I5,z⟩:=z;exact zB (I5.Du I.ok) hN hi hk λs6 I6=>⟨_,H5,I6,z⟩
   |cont=>obtain⟨O5,H5,I5,z⟩:=z;exact zB (I5.Du I.ok) hN hi hk λs6 I6=>⟨_,H5,I6,z⟩
   |ret u=>obtain⟨v,O5,H5,I5,rv,z⟩:=z;exact zB (I5.Du I.ok) hN hi hk λs6 I6=>⟨v,_,H5,I6,rv,z⟩
  .exact(show False from by have:X.xe ev s5:=z;rw[hx]at this;exact this).elim
 have Ow:∀h2 T,s1.heap.objs.size<=T->Ch (frs X.stack) e e s1.heap h2->Fl h2 e C (some dx) T .none->
   wpAny (model X.prog X.w) X.A (handleBy (.ref e) X.env [.ExceptHandler (some (.Name x np)) (some n) (b0::suite) hpos]) (SP X pins D) X.xe {s1 with heap:=h2}:=λh2 T hT ch hF=>
  key h2 T (I1.ch ch at_ hF.obj) (λh3 sz kp ZA=>I1.ch (ch.land hT sz kp) at_ ZA.obj) hF
 rcases fl with⟨t,ho⟩|⟨T,f1,hf,hF,nt,hz,hp⟩
 .refine Au fr st hfr ho λh1 T hT ch hF=>pK (s:={s1 with heap:=h1}) hF λh2 sz kp yW=>?_;exact Ow h2 T hT (by rw[hst];exact ch.land hT sz kp) yW
 .rcases hf with rfl|rfl
  .refine Av fr st hfr hF λh1 T hT ch hF=>pK (s:={s1 with heap:=h1}) hF λh2 sz kp yW=>?_;exact Ow h2 T hT (by rw[hst];exact ch.land hT sz kp) yW
  .obtain⟨_,_,oT,tt,_,_,_,_,_,_,gT,dT,_⟩:=id hF;refine Aw hfr hF (pK hF λh2 sz kp yW=>?_);have tT:∀{h:Heap},Fl h e C (some dx) T .none->∃o,h.get? T=some o:=λ{h} z=>by obtain⟨_,_,o,_,_,_,_,_,_,_,g,_,_⟩:=z;exact⟨o,g⟩
   exact key h2 T (I1.chT kp at_ nt hz hp gT dT (tT yW)) (λh3 sz3 kp3 ZA=>I1.chT (λb o hb z=>kp3 b o hb (kp b o hb z)) at_ nt hz hp gT dT (tT ZA)) yW
def RN{h0:ExceptHandler}{hs:List ExceptHandler}{tb:TS}(hx:X.xe=λ_ _=>False)(hb:CT X body tb):PS X (.Try body (h0::hs) [] [] pos) tb:=λpins s O H D I h=>
 wpAny_Try_except (aaB (hb pins s O H D I h) (λf s' z=>by cases f<;>first|exact af6 z|exact z) λev s' z=>by rw[hx]at z;exact z.elim)
end
abbrev XV:=Addr×List (Str×D)
abbrev GX:=SS->Option (XV×SS)
inductive tX(K:AAD)(B:Base)(g:GX)(O:St)(H:Hp)(Q:XQ):Prop
 |mk(S:SS)(F:Hp)(r:XV)(S':SS)(R:Rel K B S O F H)(hg:g S=some (r,S'))(q:∀O' a F' H',Rel K B S' O' F' H'->(∀b o,F b=some o->F' b=some o)->vL F' (.ref a) r.1 r.2->Q O' a H')
inductive tXE(K:AAD)(B:Base)(g:GX)(O:St)(H:Hp)(Q:XQ):Prop
 |mk(S:SS)(F:Hp)(r:XV)(S':SS)(R:Rel K B S O F H)(hg:g S=some (r,S'))(q:∀a F' H',Rel K B S' O F' H'->Step S S' O F H F' H'->vL F' (.ref a) r.1 r.2->Q O a H')
def TU.imp{e:Expr}{t t':TX}(h:TU X e t)(k:∀O H Q,t' O H Q->t O H Q):TU X e t':=λpins s O H Q I q=>h pins s O H Q I (k O H Q q)
def VU.imp{e:Stmt}{t t':TX}(h:VU X e t)(k:∀O H Q,t' O H Q->t O H Q):VU X e t':=λpins s O H Q I q=>h pins s O H Q I (k O H Q q)
structure JH(X:Cx)(e:Expr)(g:GX):Prop where
 h:∀B,TU X e (tXE X.K B g)
structure Ml(X:Cx)(st:Stmt)(g:GX):Prop where
 h:∀B,VU X st (tX X.K B g)
structure Bx(X:Cx)(st:BBH)(g:GX):Prop where
 h:∀B,HR X st (tX X.K B g)
abbrev FX:=List U->Option (XV×List MO)
def RO(K:AAD)(n:Nat)(f:FX):Sp:=λvs H _ E=>vs.length=n/\∃F us r outs,Sub F H/\Paired (EM K F H) vs us/\(addrs vs us).Nodup/\f us=some (r,outs)/\∀a F' H',Post F H F' H' (addrs vs us) outs->vL F' (.ref a) r.1 r.2->E (.ref a) (some a) H'
def mK(n:Nat)(g:GX):FX:=λus=>(g (us.map some++List.replicate (n-us.length) none)).bind λo=>(b8 us o.2).map λos=>(o.1,os)
section
variable {P:Program}{w:World}{K:AAD}{mg:AAF}{base:Heap}
def okX{x qual:Str}{st:Stmt}{f:Addr}{fd:FuncData}{N ps:BBB}{k:Nat}{fx:FX}{g:GX}(F:IZ K x qual st f fd)(Sc:bq N ps (aD st))
  (hb:∀(cdv:Value)(A:Around)(outer:BBF)(s:Shared)(H:Hp)(E:XK),c7 k (A.deeper (envOfC qual (aD st) s.heap.objs.size f cdv))->Bx (uO wM P w K mg base N qual (aD st) f cdv A outer s H E).Ma (dc st) g)
  (hf:∀us r,fx us=some r->mK N.length g us=some r):fV P w K mg base (Fx P w) (k+1) f fd ps (RO K ps.length fx):=by
 refine F.okX Sc (λvs H Q E h=>h.1) λcdv A outer s H vs Q E hr h=>?_;obtain⟨hlen,F0,us,r,outs,sb,ar,nd,hfm,q⟩:=h;have hrun:=hf us (r,outs) hfm;refine⟨_,(hb cdv A outer s H E hr).h ⟨lent vs us,F0,H⟩,?_⟩;have R0:=tM sb ar nd N rfl;obtain⟨⟨rr,S'⟩,ho,hrun⟩:=ah hrun;obtain⟨os,h1,h2⟩:=aB hrun;cases h2;exact⟨_,F0,_,S',R0,ho,λO' a F' H' R' le xr=>q a F' H' (post_of ar S' O' F' H' outs R' h1) xr⟩
end
section
variable {X:Cx}
noncomputable def Lr(ga:GX)(g:GS)(gb:GX):GX:=λS=>match ga S with
 |some r=>some r
 |none=>match g S with
  |some (.nx S1)=>gb S1
  |_=>none
def V1{ga gb:GX}(hx:X.xe=λ_ _=>False)(ha:Ml X a ga)(h:JS X a g)(hb:Bx X r gb):Bx X (a::r) (Lr ga g gb):=⟨λB pins s O H Q I hw=>by
 obtain⟨S,F,rr,S',R,hg,q⟩:=hw;unfold Lr at hg;cases e:ga S with
 |some v=>
  rw[e]at hg;cases hg;exact CD (ha.h B) pins s O H Q I ⟨S,F,_,S',R,e,q⟩
 |none=>
  rw[e]at hg;dsimp only at hg;split at hg
  .rename_i S1 e2;refine JC hx (h.h B) (hb.h B) pins s O H Q I ⟨S,F,_,R,e2,λO1 F1 H1 R1 le=>?_⟩;exact⟨S1,F1,rr,S',R1,hg,λO' a F' H' R' le' xr=>q O' a F' H' R' (λb o z=>le' b o (le b o z)) xr⟩
  .cases hg⟩
noncomputable def JJ(g:GS)(gb:GX):GX:=λS=>match g S with
 |some (.nx S1)=>gb S1
 |_=>none
def ZC{gb:GX}(hx:X.xe=λ_ _=>False)(h:JS X a g)(hb:Bx X r gb):Bx X (a::r) (JJ g gb):=⟨λB pins s O H Q I hw=>by
 obtain⟨S,F,rr,S',R,hg,q⟩:=hw;unfold JJ at hg;split at hg
 .rename_i S1 e2;refine JC hx (h.h B) (hb.h B) pins s O H Q I ⟨S,F,_,R,e2,λO1 F1 H1 R1 le=>?_⟩;exact⟨S1,F1,rr,S',R1,hg,λO' a F' H' R' le' xr=>q O' a F' H' R' (λb o z=>le' b o (le b o z)) xr⟩
 .cases hg⟩
def kO{g:GX}(ha:Ml X a g):Bx X (a::r) g:=⟨λB=>CD (ha.h B)⟩
end
section
variable {X:Cx}{e:Expr}{es:BBC}{gx:GX}{pos pos':Pos}
def tX.ofS{B:Base}{g:GX}{Q:XQ}(h:tX K B g O H Q):tXE K B g O H Q:=by
 obtain⟨S,F,r,S',R,hg,q⟩:=h;exact⟨S,F,r,S',R,hg,λa F' H' R' st xr=>q O a F' H' R' st.ext.le xr⟩
def Dv(h:JH X e gx)(hs:swapsWith e (some (.Name x pos')) pos.line X.env=pure false:=by rfl):Ml X (.Assign [.Name x pos'] e pos) gx:=⟨λB pins s O H Q I hw=>wpAny_Assign_Name (aaB (h.h B pins s O H Q I hw.ofS) (λ_ _ z=>z.elim) λ_ _ z=>z) hs⟩
noncomputable def ZD(q:GT)(a b:GX):GX:=λS=>(q S).bind λp=>if p.1 then a p.2 else b p.2
noncomputable def xNo:GX:=λ_=>none
def Ox{st:BBH}:Bx X st xNo:=⟨λB pins s O H Q I hw=>by obtain⟨_,_,_,_,_,hg,_⟩:=hw;cases hg⟩
def ZE{c:Expr}{q1:GT}{g1 g2:GX}(hx:X.xe=λ_ _=>False)(hc:JT X c q1)(ha:Bx X b1 g1)(hb:Bx X b2 g2):Ml X (.If c b1 b2 pos) (ZD q1 g1 g2):=⟨λB pins s O H Q I hw=>by
 obtain⟨S,F,r,S',R,hg,q⟩:=hw;obtain⟨⟨d,S1⟩,h1,hg⟩:=ah hg;refine wpAny_If (aaB ((hc.h B).wait hx (Q:=λb H1=>∃F1,b=d/\Rel X.K B S1 O F1 H1/\Step S S1 O F H F1 H1) I ⟨S,F,d,S1,R,h1,λF1 H1 R1 st1=>⟨F1,rfl,R1,st1⟩⟩) (λb s1 hh=>?_) λ_ _ z=>z);obtain⟨H1,I1,F1,rfl,R1,st1⟩:=hh;cases b with
 |true=>exact ha.h B pins s1 O H1 Q I1 ⟨S1,F1,r,S',R1,hg,λO' a F' H' R' le xr=>q O' a F' H' R' (λb o z=>le b o (st1.ext.le b o z)) xr⟩
 |false=>exact hb.h B pins s1 O H1 Q I1 ⟨S1,F1,r,S',R1,hg,λO' a F' H' R' le xr=>q O' a F' H' R' (λb o z=>le b o (st1.ext.le b o z)) xr⟩⟩
def yD(f:FX)(gu:GU):GX:=λS=>(gu S).bind λp=>
 if(slotsOf p.1).Nodup/\cu p.1<=1 then(bT p.2 p.1).bind λus=>(f us).bind λr=>(wb p.1 r.2 p.2).map λS2=>(r.1,S2) else none
def RP{fa:Addr}{f:FX}{p:Pos}{gu:GU}(F:fV X.prog X.w X.K X.mg X.base (Fx X.prog X.w) k fa fd ps (RO X.K n f))(hx:X.xe=λ_ _=>False)(hr:c7 k X.A)(hg:Gl X x)(hm:X.mg x=some (.ref fa))(hk:PySem.W.keepIn X.K (.ref fa)=true)(hb:Binds X.K fd ps [])(ha:JU X (e::es) gu)(hn:(e::es).length=n)
  (hdb:BBT x:=by decide)(he:starEach (e::es) X.env=(false,eval e X.env)::starEach es X.env:=by rfl)(hpl:(backTo pos (starEach es X.env)).any (·.1)=false:=by rfl):
  JH X (.Call (.Name x p) (e::es) [] pos) (yD f gu):=⟨λB=>(RK F hx hr hg hm hk hb .nil (ha.h B) hdb he hpl).imp λO H Q hh=>by
 obtain⟨S,F0,r,S',R,hg,q⟩:=hh;obtain⟨⟨us,S1⟩,h1,hg⟩:=ah hg;dsimp only at hg;split at hg
 .rename_i hc;obtain⟨ws,h2,hg⟩:=ah hg;obtain⟨⟨r',outs⟩,h3,hg⟩:=ah hg;obtain⟨S2,h4,hg⟩:=aB hg;cases hg;refine⟨S,F0,us,S1,R,h1,λvs F1 H1 R1 st1 rr=>?_⟩;show RO X.K n f (vs++[]) H1 _ _;rw[abE];have hlen:vs.length=n:=by rw[rr.length,ha.len _ _ _ h1];exact hn
  refine⟨hlen,F1,ws,_,outs,R1.sub,pC R1 rr h2,gI R1 rr h2 hc.1 hc.2,h3,λa F2 H2 po xr=>⟨a,rfl,?_⟩⟩;obtain⟨R2,st2,mu⟩:=iY R1 st1 rr h2 h4 hc.1 po;exact q a F2 H2 R2 st2 xr
 .cases hg⟩
noncomputable def Ay(C:Addr)(ns:BBB)(ga:GA):GX:=λS=>(ga S).bind λp=>if p.1.length=ns.length then some ((C,ns.zip p.1),p.2) else none
theorem Az{F:Hp}:∀{ns:BBB}{vs:List V}{ds:List D},bE F vs ds->Paired (dP F) (ns.zip vs) (ns.zip ds)
 |[],_,_,_=>.nil
 |_::_,_,_,.nil=>.nil
 |n::ns,_,_,.cons r rs=>.cons ⟨rfl,r⟩ (Az rs)
def Oz{B0:String}{kI:Nat}{TV:FuncData}{PF:BBB}{RL:Sp}{np cpos:Pos}{ns:BBB}{ga:GA}(M:XMk X.K C fI bm bmB B0 newId initId)(FI:fV X.prog X.w X.K X.mg X.base wM kI fI TV PF RL)
  (hI:∀(a tt:Addr)(vs:List V)(H:Hp)(Q:VK),vs.length=ns.length->H a=none->(∀dx H2,H dx=none->dx≠a->H2 a=some (Eh a C tt (some dx))->H2 dx=some (.xd (ns.zip vs))->(∀b,b≠a->b≠dx->H2 b=H b)->Q .cD H2)->RL (.ref a::vs) (upd H a (Eh a C tt none)) Q E0)
  (hx:X.xe=λ_ _=>False)(hc:X.calm=true)(hl:ns.length<=1000)(hr:c7 (kI+1) X.A)(hg:Gl X x)(hm:X.mg x=some (.ref C))(hk:PySem.W.keepIn X.K (.ref C)=true)(hb:Binds X.K TV PF [])(ha:JA X (e::es) ga)
  (hdb:BBT x:=by decide)(he:starEach (e::es) X.env=(false,eval e X.env)::starEach es X.env:=by rfl)(hpl:(backTo cpos (starEach es X.env)).any (·.1)=false:=by rfl):
  Ml X (.Raise (some (.Call (.Name x np) (e::es) [] cpos)) none pos) (Ay C ns ga):=⟨λB=>(Ou M FI hx hc hr hg hm hk hb (ha.h B) hdb he hpl).imp λO H Q hh=>by
 obtain⟨S,F,r,S',R,hg,q⟩:=hh;obtain⟨⟨ds,S1⟩,h1,hg⟩:=ah hg;dsimp only at hg;split at hg
 .rename_i hlen;cases hg;refine⟨S,F,ds,_,R,h1,λvs F1 H1 R1 st1 rs=>⟨?_,λa tt hn=>hI a tt vs H1 _ (rs.length.trans hlen) hn λdx H2 hd ne e1 e2 Bw=>⟨rfl,dx,ns.zip vs,e1,e2,?_,?_⟩⟩⟩
  .rw[rs.length,hlen];exact aaC hl (by decide)
  .rw[agS];exact aaC (Nat.min_le_left _ _) hl
  .have fa:F1 a=none:=R1.sub.fresh hn;have fd':F1 dx=none:=R1.sub.fresh hd;have hH:∀b o,H1 b=some o->b≠a/\b≠dx:=λb o z=>⟨(λy=>by rw[y,hn]at z;cases z),(λy=>by rw[y,hd]at z;cases z)⟩
   have hF:∀b o,F1 b=some o->b≠a/\b≠dx:=λb o z=>⟨(λy=>by rw[y,fa]at z;cases z),(λy=>by rw[y,fd']at z;cases z)⟩
   have le:∀b o,F1 b=some o->upd (upd F1 dx (.own a)) a (.wL C dx (ns.zip vs)) b=some o:=λb o z=>by rw[aR (hF b o z).1,aR (hF b o z).2];exact z
   have nw:fW F1 H1 (upd (upd F1 dx (.own a)) a (.wL C dx (ns.zip vs))) (upd (upd H2 dx (.own a)) a (.wL C dx (ns.zip vs))):=
    ⟨le,λb o z=>by rw[aR (hH b o z).1,aR (hH b o z).2,Bw b (hH b o z).1 (hH b o z).2];exact z,λb o z f=>by rw[aR (hH b o z).1,aR (hH b o z).2];exact f⟩
   have sb:Sub (upd (upd F1 dx (.own a)) a (.wL C dx (ns.zip vs))) (upd (upd H2 dx (.own a)) a (.wL C dx (ns.zip vs))):=λb o z=>by
    by_cases h1:b=a
    .rw[h1,aZ]at z ⊢;exact z
    .rw[aR h1]at z ⊢;by_cases h2:b=dx
     .rw[h2,aZ]at z ⊢;exact z
     .rw[aR h2]at z ⊢;rw[Bw b h1 h2];exact R1.sub b o z
   exact q O a _ _ (R1.new nw sb) (λb o z=>le b o (st1.ext.le b o z)) ⟨a,dx,ns.zip vs,rfl,aZ,by rw[aR ne,aZ],Az (rs.le le)⟩
 .cases hg⟩
end
section
variable {K:AAD}{B:Base}{S:SS}{O:St}{F H:Hp}{i:Nat}
def Rel.clear(R:Rel K B S O F H)(hi:∀a,B.P[i]?≠some (some a)):Rel K B (S.set i none) (O.set i none) F H:=by
 have back:∀(j:Nat)(u:U),(S.set i none)[j]? =some (some u)->i≠j/\S[j]? =some (some u):=λj u h=>by
  rcases get_set h with⟨_,q,_⟩|q
  .cases q
  .exact q
 have out:∀{j:Nat},i≠j->(O.set i none)[j]? =O[j]?:=λne=>abg ne;refine⟨R.sub,by rw[acT,acT];exact R.len,λj u h=>?_,λj k u w a h1 m1 h2 m2 v1 v2=>?_,λj o a h v=>?_,λj o a h v=>?_,λj a h=>?_,R.ext⟩
 .obtain⟨ne,h⟩:=back j u h;rw[out ne];exact R.rep j u h
 .obtain⟨n1,h1⟩:=back j u h1;obtain⟨n2,h2⟩:=back k w h2;rw[out n1]at v1;rw[out n2]at v2;exact R.Hf j k u w a h1 m1 h2 m2 v1 v2
 .obtain⟨ne,h⟩:=back j _ h;rw[out ne]at v;exact R.own j o a h v
 .obtain⟨ne,h⟩:=back j _ h;rw[out ne]at v;exact R.bor j o a h v
 .have ne:i≠j:=λz=>hi a (by rw[z];exact h);obtain⟨h1,o,h2⟩:=R.par j a h;exact⟨by rw[out ne];exact h1,o,by rw[abg ne];exact h2⟩
end
section
variable {X:Cx}{body suite:BBH}{b0:Stmt}{x n:Str}{np hpos pos:Pos}{i:Nat}{C0:Addr}{RM:AAL}{gb gs:GS}{gx:GX}
def Ls(i:Nat)(cl:BBE)(gb:GS)(gx:GX)(gs:GS):GS:=λS=>match gx S with
 |some (r,S1)=>if r.1∈cl then(qU i (.x r.1 r.2) S1).bind λS2=>(gs S2).bind λo=>match o with
  |.nx S3=>some (.nx (S3.set i none))
  |.rt (.t d) S3=>some (.rt (.t d) (S3.set i none))
  |_=>none else none
 |none=>gb S
def V2(hx:X.xe=λ_ _=>False)(hst:X.stack=X.env::X.outer)(hfr:X.env.frame=some X.env.locals)(hN:X.N.Nodup)(hi:X.N[i]? =some n)(hk:X.env.kindOf n=some .local)(hg:Gl X x)(hm:X.mg x=some (.ref C0))(h0:Ax X.K C0 RM)(hb0:RM.contains (.type "BaseException")=true)
  (hcl:∀C∈cl,∃bm,Ax X.K C bm/\(Value.ref C::bm).contains (.ref C0)=true)(hb:Bx X body gx)(hb2:JB X body gb)(hs:∀a,JB (X.hand a) (b0::suite) gs)(hdb:BBT x:=by decide):
  JS X (.Try body [.ExceptHandler (some (.Name x np)) (some n) (b0::suite) hpos] [] [] pos) (Ls i cl gb gx gs):=⟨λB pins s O H D I hw=>by
 obtain⟨S,F,o,R,hg',k⟩:=hw;unfold Ls at hg';cases e:gx S with
 |none=>
  rw[e]at hg';exact RN hx (hb2.h B) pins s O H D I ⟨S,F,o,R,hg',k⟩
 |some r=>
  obtain⟨⟨C,kvs⟩,S1⟩:=r;rw[e]at hg';dsimp only at hg';split at hg'
  .rename_i hC;obtain⟨S2,h2,hg'⟩:=ah hg';obtain⟨o3,h3,hg'⟩:=ah hg';obtain⟨bm,hO,hin⟩:=hcl C hC;refine V0 (ts:=λa=>tO X.K B gs) hx hst hfr hN hi hk hg hm h0 hb0 (hb.h B) (λa=>(hs a).h B) hdb pins s O H D I ⟨S,F,(C,kvs),S1,R,e,λO1 a F1 H1 R1 le1 xr=>?_⟩;obtain⟨a',dx,fs,ea,fa,fd,pr⟩:=id xr;cases ea;have R2:Rel X.K B S2 (O1.set i (some (.ref a))) F1 H1:=R1.put h2 xr;refine⟨C,dx,fs,bm,R1.sub _ _ fa,hO,hin,S2,F1,o3,R2,h3,?_⟩;have np:∀{S3:SS}{O3:St}{F3 H3:Hp},Rel X.K B S3 O3 F3 H3->∀c,B.P[i]?≠some (some c):=λ{S3 O3 F3 H3} R3 c z=>by
    obtain⟨_,ob,q⟩:=R1.par i c z;exact(Cc h2).2.2 ob q
   cases o3 with
   |nx S3=>
    cases hg';exact λO3 F3 H3 R3 le3=>k (O3.set i none) F3 H3 (R3.clear (np R3)) λb o z=>le3 b o (le1 b o z)
   |bk S3=>cases hg'
   |ct S3=>cases hg'
   |rt u S3=>
    cases u with
    |t d=>
     cases hg';exact λv O3 F3 H3 R3 le3 rr=>k v (O3.set i none) F3 H3 (R3.clear (np R3)) (λb o z=>le3 b o (le1 b o z)) rr
    |m d=>cases hg'
    |b d=>cases hg'
    |v d=>cases hg'
    |s d=>cases hg'
    |f d=>cases hg'
    |x c d=>cases hg'
  .cases hg'⟩
end
section
variable {M:Model}{A:Around}{E:AAE}{s:Shared}{env:Env}{L e C T:Addr}{dx:BBN}{fl:Value}
def Dw(hf:env.frame=some L)(hF:Fl s.heap e C dx T fl)(h:∀h',h'.objs.size=s.heap.objs.size->(∀b o,b≠T->s.heap.get? b=some o->h'.get? b=some o)->Fl h' e C dx T (rawInt L)->E (.ref e) {s with heap:=h'}):cameBackBy M A env E (.ref e) s:=by
 obtain⟨oe,vs,oT,ts,he,hc,hx,hd,h1,ne,hT,Fv,h3⟩:=hF;have hz:3<ts.size:=(acq.mp h3).1;unfold cameBackBy;refine aal (aaJ he hd h1 ?_);rw[if_neg (show ¬((Value.ref T == Value.none)=true) from by simp)];rw[hf];unfold setFlight;refine aal (aaJ he hd h1 ?_);rw[if_pos (show(Value.ref T != Value.none)=true from by simp)];have other:∀b,b≠T->(s.heap.update T (Obj.mapFields (·.setIfInBounds 3 ((some L:BBN).elim Value.none λf=>rawInt f)))).get? b=s.heap.get? b:=λb hb=>aaH _ _ (abO hb);refine aeX hT Fv hz (h _ (aes _ _ _) (λb o hb q=>(other b hb).trans q) ⟨oe,vs,_,_,(other e (abO ne)).trans he,hc,hx,hd,h1,ne,abh _ hT (aew (acF Fv _)),acF Fv _,by simp[hz]⟩)
end
section
variable {X:Cx}{pins:AAG}{Q:XQ}
def RQ(hst:X.stack=X.env::X.outer)(hfr:X.env.frame=some X.env.locals):PassesOwn (model X.prog X.w) X.A X.env (Mj X pins Q):=by
 intro ev s1 thr;obtain⟨e,C,dx,fs,O1,H1,rfl,I1,at_,fl,q⟩:=thr;have fr:X.A.frames=some (X.env::X.outer):=by rw[I1.ok.frames,hst]
 have st:=I1.stack;rw[hst]at st;have np:∀T,s1.heap.objs.size<=T->∀p∈X.pn++pins,p.1≠T:=λT hT p hp z=>absurd (aap (I1.pin p hp).1) (by rw[z];exact agc.mpr hT);have Ow:∀h2 T,s1.heap.objs.size<=T->Ch (frs X.stack) e e s1.heap h2->Fl h2 e C (some dx) T (rawInt X.env.locals)->Mj X pins Q (.ref e) {s1 with heap:=h2}:=λh2 T hT ch hF=>
  ⟨e,C,dx,fs,O1,H1,rfl,I1.ch ch at_ hF.obj,at_,.inr ⟨T,_,.inr rfl,hF,I1.hok.fresh hT,aaC I1.sz hT,np T hT⟩,q⟩
 rcases fl with⟨t,ho⟩|⟨T,f1,hf,hF,nt,hz,hp⟩
 .exact Au fr st hfr ho λh1 T hT ch hF=>Dw (s:={s1 with heap:=h1}) hfr hF λh2 sz kp yW=>Ow h2 T hT (by rw[hst];exact ch.land hT sz kp) yW
 .rcases hf with rfl|rfl
  .exact Av fr st hfr hF λh1 T hT ch hF=>Dw (s:={s1 with heap:=h1}) hfr hF λh2 sz kp yW=>Ow h2 T hT (by rw[hst];exact ch.land hT sz kp) yW
  .obtain⟨_,_,oT,tt,_,_,_,_,_,_,gT,dT,_⟩:=id hF;refine Aw hfr hF (Dw hfr hF λh2 sz kp yW=>?_);have tT:∃o,h2.get? T=some o:=by obtain⟨_,_,o,_,_,_,_,_,_,_,g,_,_⟩:=id yW;exact⟨o,g⟩
   exact⟨e,C,dx,fs,O1,H1,rfl,I1.chT kp at_ nt hz hp gT dT tT,at_,.inr ⟨T,_,.inr rfl,yW,nt,hz,hp⟩,q⟩
def Mj.ZF{pl:AAG}{ev:Value}{s':Shared}(h:Mj X (pins++pl) Q ev s'):Mj X pins Q ev s':=by
 obtain⟨e,C,dx,fs,O1,H1,rfl,I1,at_,fl,q⟩:=h;refine⟨e,C,dx,fs,O1,H1,rfl,I1.lQ,at_,?_,q⟩;rcases fl with z|⟨T,f1,hf,hF,nt,hz,hp⟩
 .exact .inl z
 .exact .inr ⟨T,f1,hf,hF,nt,hz,λp hp'=>hp p (by
   rcases aev.mp hp' with z|z
   .exact acG _ z
   .exact aay _ (acG _ z))⟩
variable {tg:Expr}
noncomputable def ZG(wi:TI)(g:TG)(tb:TS)(tx:TX):TX:=λO H Q=>wi O H λJ H1=>∃W:Nat->Nat->St->Hp->Prop,(∃m,W 0 m O H1)/\∀i m O H,W i m O H->
 J.go i H/\((∃N:St->Hp->Prop,(∀O' H',N O' H'->∃m',m' < m/\W (i+1) m' O' H')/\∀x H',J.S5 i H x H'->g x O H' λO2 H2=>tb {nx:=N,ct:=N,bk:=λ_ _=>False,rt:=λ_ _=>False} O2 H2)\/
  ∀x H',J.S5 i H x H'->g x O H' λO2 H2=>tx O2 H2 Q)
def V3{wi:TI}{g:TG}{tb:TS}{tx:TX}{pos:Pos}(hx:X.xe=λ_ _=>False)(hst:X.stack=X.env::X.outer)(hfr:X.env.frame=some X.env.locals)(hc:X.calm=true)(hi:PI X tg iter wi)(hg:PG X tg g)(hb:CT X body tb)(RJ:HR X body tx)
  (hs:∀x,foldedSetIterable iter X.env x=pure x:=by intro _;rfl):VU X (.For tg iter body [] pos) (ZG wi g tb tx):=by
 intro pins s O H Q I h;have no:∀{E:AAE}{e:Value}{s':Shared},X.xe e s'->E e s':=λ{E e s'} z=>by rw[hx]at z;exact z.elim
 have hp:PassesOwn (model X.prog X.w) X.A X.env (Mj X pins Q):=RQ hst hfr;refine wpAny_For (aaB (hi pins s O H _ I h) (λv s1 h1=>aaB h1 (λitv s2 h2=>?_) λ_ _ z=>no z) λ_ _ z=>no z) hs;obtain⟨it,fp,tn,J,H2,e,I2,T,st2,f2,W,⟨m0,w0⟩,turn⟩:=h2;subst e;have Ks:∀{H':Hp},(∀b∈fp,H' b=none)->∀b∈fp,nZ X pins H' b:=λhn b hb=>⟨hn b hb,(f2 b hb).2⟩
 refine codeAny_forLoop_any (λn s'=>∃i O' H',Inv X pins O' H' s'/\tn i s'.heap/\(∀b∈fp,H' b=none)/\W i n O' H') ?_ m0 ⟨0,O,H2,I2,st2,λb hb=>(f2 b hb).1,w0⟩;rintro n s3 ⟨i,O3,H3,I3,st3,fr3,w3⟩;obtain⟨go,step⟩:=turn i n O3 H3 w3;refine acm hp (cS (T.item X rfl rfl rfl hc i pins s3 O3 H3 (Mj X pins Q) I3 (Ks fr3) st3 go) λr s4 hh=>?_);obtain⟨u,hr,h4⟩:=hh;subst hr;refine acm hp (cS h4 λ_ s5 hh=>?_);obtain⟨x,H5,I5,r5,y5,Ux,fr5⟩:=hh;have I5':=I5.pinned (Ks fr5) (T.obj _ _ Ux);rcases step with⟨N,hN,step⟩|step
 .refine acm hp (aaB (hg _ s5 O3 H5 x u _ I5' r5 (step x H5 y5)) (λ_ s6 hh=>?_) λ_ _ z=>no z);obtain⟨XS,H6,I6,q6⟩:=hh;refine acm hp (aaB (hb _ s6 XS H6 _ I6 q6) (λf s7 q7=>?_) λ_ _ z=>no z);have again:∀{BB:St}{H7:Hp},Inv X (pins++qL fp s5.heap) BB H7 s7->N BB H7->∃m,m<n/\∃i O' H',Inv X pins O' H' s7/\tn i s7.heap/\(∀b∈fp,H' b=none)/\W i m O' H':=λ{BB H7} I7 n7=>by
   obtain⟨m',hm,w7⟩:=hN BB H7 n7;refine⟨m',hm,i+1,BB,H7,I7.lQ,T.keep _ _ _ Ux λb hb o e=>(I7.pin (b,o) (aay _ (aay _ (fJ hb e)))).1,λb hb=>?_,w7⟩;obtain⟨o,e,d⟩:=T.obj _ _ Ux b hb;exact(I7.pin (b,o) (aay _ (aay _ (fJ hb e)))).2.1
  cases f with
  |next=>obtain⟨BB,H7,I7,n7⟩:=q7;exact again I7 n7
  |cont=>obtain⟨BB,H7,I7,n7⟩:=q7;exact again I7 n7
  |brk=>obtain⟨BB,H7,I7,q7⟩:=q7;exact q7.elim
  |ret v=>obtain⟨x7,BB,H7,I7,r7,q7⟩:=q7;exact q7.elim
 .refine acm hp (aaB (hg _ s5 O3 H5 x u _ I5' r5 (step x H5 y5)) (λ_ s6 hh=>?_) λ_ _ z=>no z);obtain⟨XS,H6,I6,q6⟩:=hh;exact acm hp (aaB (RJ _ s6 XS H6 _ I6 q6) (λ_ _ z=>z.elim) λ_ _ z=>z.ZF)
end
noncomputable def v7(bd:GB)(gx:GX)(g:GS):List D->SS->Option (XV×SS)
 |[],_=>none
 |d::ds,S=>(bd d S).bind λS1=>match gx S1 with
  |some r=>some r
  |none=>(g S1).bind λo=>match o with
   |.nx S2=>v7 bd gx g ds S2
   |.ct S2=>v7 bd gx g ds S2
   |_=>none
def Lu(bd:GB)(gi:GI)(gx:GX)(g:GS):GX:=λS=>(gi S).bind λp=>v7 bd gx g p.1 p.2
section
variable {X:Cx}{pos:Pos}
def JK{gx:GX}(hx:X.xe=λ_ _=>False)(hst:X.stack=X.env::X.outer)(hfr:X.env.frame=some X.env.locals)(hc:X.calm=true)(hi:Y0 X tg iter gi)(hg:JG X tg bd)(hb:JB X stmts s1)(RJ:Bx X stmts gx)(hs:∀x,foldedSetIterable iter X.env x=pure x:=by intro _;rfl):
  Ml X (.For tg iter stmts [] pos) (Lu bd gi gx s1):=⟨λB=>(V3 hx hst hfr hc (hi.h B) (hg.h B) (hb.h B) (RJ.h B) hs).imp λO H Q hh=>by
 obtain⟨S,F,r,Sr,R,h,k⟩:=hh;obtain⟨⟨ds,S1⟩,h1,h⟩:=ah h;refine⟨S,F,ds,S1,R,h1,λJ F1 H1 R1 st1 w=>?_⟩;refine⟨λi m O' H'=>∃S' F',Rel X.K B S' O' F' H'/\(∀b o,F1 b=some o->F' b=some o)/\i<=ds.length/\m=ds.length-i/\v7 bd gx s1 (ds.drop i) S'=some (r,Sr),⟨_,S1,F1,R1,λ_ _ z=>z,abX _,rfl,h⟩,?_⟩;rintro i m O' H' ⟨S',F',R',le,hl,rfl,fC⟩;have w':=w F' H' le R'.sub i;by_cases hlt:i<ds.length
 .have hd:ds[i]? =some ds[i]:=aaz hlt;obtain⟨go,yl⟩:=w'.1 _ hd;rw[adN hlt]at fC;obtain⟨S2,e2,fC⟩:=ah fC;refine⟨go,?_⟩;cases e:gx S2 with
  |some v=>
   rw[e]at fC;cases fC;refine .inr λx H2 y=>?_;obtain⟨F2,nw,Y3,rx⟩:=yl x H2 y;have R2:=R'.new nw Y3;exact⟨S',F2,_,S2,R2,rx,e2,λO3 R3=>⟨S2,F2,r,Sr,R3,e,λHi a F4 H4 R4 BE xr=>k Hi a F4 H4 R4 (λb o z=>BE b o (nw.le b o (le b o (st1.ext.le b o z)))) xr⟩⟩
  |none=>
   rw[e]at fC;obtain⟨o2,e3,fC⟩:=ah fC;refine .inl ⟨_,λO2 H2 n=>⟨ds.length-(i+1),by lia,n⟩,λx H2 y=>?_⟩;obtain⟨F2,nw,Y3,rx⟩:=yl x H2 y;have R2:=R'.new nw Y3;have le:∀b o,F1 b=some o->F2 b=some o:=λb o z=>nw.le b o (le b o z);refine⟨S',F2,_,S2,R2,rx,e2,λO3 R3=>⟨S2,F2,o2,R3,e3,?_⟩⟩;cases o2 with
   |nx S3=>exact λHi F4 H4 R4 BE=>⟨S3,F4,R4,λb o z=>BE b o (le b o z),hlt,rfl,fC⟩
   |ct S3=>exact λHi F4 H4 R4 BE=>⟨S3,F4,R4,λb o z=>BE b o (le b o z),hlt,rfl,fC⟩
   |bk S3=>cases fC
   |rt u S3=>cases fC
 .have e:i=ds.length:=by lia
  subst e;rw[afm]at fC;cases fC⟩
end
section
variable {X:Cx}{e:Expr}{gx:GX}{pos p:Pos}
def OA{g:Str}{gf:Addr}(h:JH X e gx)(hg:Gl X g)(hm:X.mg g=some (.ref gf))(hk:PySem.W.keepIn X.K (.ref gf)=true)(hdb:BBT g:=by decide)
  (he:starEach [e] X.env=[(false,eval e X.env)]:=by rfl):JH X (.Call (.Name g p) [e] [] pos) gx:=⟨λB=>Ot (h.h B) hg hm hk hdb he⟩
end
section
variable {X:Cx}{pins:AAG}{O:St}{H:Hp}{s:Shared}{a C dx:Addr}{cd:ClassData}{f:Str}{v:V}{A:Around}{E:AAE}{fs:List (Str×V)}
def V4(I:Inv X pins O H s)(e:H a=some (.wL C dx fs)):∃(oe od:Obj)(mA:AAF),PySem.W.InstAt s.heap a oe C (some od)/\(∀f,PySem.W.lookIn f od=some (mA f))/\∀f,oZ (fs.lookup f) (mA f):=by
 obtain⟨_,_,_,⟨oe,vs,g,hc,hd,hf⟩,mA,hN,r,_⟩:=(show cR X.prog X.w H s.heap a (.wL C dx fs) from I.hok a _ e)
 obtain⟨od,ho,hl⟩:=B5 hN;exact⟨oe,od,mA,⟨g,hc,by unfold PySem.W.notCls;rw[hf],by rw[hd];exact ho⟩,hl,r⟩
def RS{b:Bool}(I:Inv X pins O H s)(e:H a=some (.wL C dx fs))(c:Lp X.K C cd)(hd:PySem.W.hasDictIn X.K C=true)(n:dQ X.K C f)(l:fs.lookup f=some v)
  (h:∀u s',Inv X pins O H s'->RelV v u->Q u s'):wpAny (model X.prog X.w) A (getAttr (.ref a) f b) Q E s:=by
 obtain⟨oe,od,mA,J,hl,r⟩:=V4 I e;obtain⟨u,hu,ru⟩:=oZ.some_of (v:=v) (o:=mA f) (by rw[<-l];exact r f);exact VS I.uh J c (PySem.W.findObj_own hd n rfl (by rw[hl,hu])) (B6 ru) (h u _ (I.tok _) ru)
end
section
variable {X:Cx}{e:Expr}{g:GE}{f:Str}{pos:Pos}{ta:TE}
def RU(he:PE X e ta)(hb:attributeBase e f X.env (eval e X.env)=eval e X.env):PE X (.Attribute e f pos) λO H Q=>ta O H λx H1=>∃a C dx fs cd v,x= .ref a/\H1 a=some (.wL C dx fs)/\Lp X.K C cd/\PySem.W.hasDictIn X.K C=true/\dQ X.K C f/\fs.lookup f=some v/\Q v H1:=by
 intro pins s O H Q I h;refine IG hb (cS (he pins s O H _ I h) λu s1 hh=>?_);obtain⟨x,H1,I1,rx,a,C,dx,fs,cd,v,ex,ea,c,hd,n,l,q⟩:=hh;subst ex;obtain rfl:u=Value.ref a:=rx;exact RS I1 ea c hd n l λu' s2 I2 ru=>⟨v,H1,I2,ru,q⟩
noncomputable def JL(cl:BBE)(f:Str)(g:GE):GD:=λS=>(g S).bind λp=>match p.1 with
 |.x C k=>if C∈cl then(k.lookup f).map λd=>(d,p.2) else none
 |_=>none
theorem uB{F:Hp}{f:Str}:∀{fs:List (Str×V)}{k:List (Str×D)}{d:D},Paired (dP F) fs k->k.lookup f=some d->∃v,fs.lookup f=some v/\Rep F v d
 |_,_,_,.nil,h=>by cases h
 |(_,v)::_,(y,d')::_,d,.cons ⟨e,r⟩ rs,h=>by
  dsimp only at e;subst e;rw[aeI]at h ⊢;split at h
  .cases h;exact⟨v,rfl,r⟩
  .exact uB rs h
def JM(hcl:∀C∈cl,(∃cd,Lp X.K C cd)/\PySem.W.hasDictIn X.K C=true/\dQ X.K C f)(he:JE X e g)(hb:attributeBase e f X.env (eval e X.env)=eval e X.env:=by rfl):JD X (.Attribute e f pos) (JL cl f g):=⟨λB=>(RU (he.h B) hb).imp λO H Q hh=>by
 obtain⟨S,F,d,S',R,hg,q⟩:=hh;obtain⟨⟨u,S1⟩,h1,hg⟩:=ah hg;dsimp only at hg;split at hg
 .rename_i C k;split at hg
  .rename_i hC;obtain⟨d',h2,hg⟩:=aB hg;cases hg;refine⟨S,F,_,S',R,h1,λv F1 H1 R1 st1 r1=>?_⟩;obtain⟨a,dx,fs,rfl,ea,_,pr⟩:=(show vL F1 v C k from r1)
   obtain⟨w,l,rw'⟩:=uB pr h2;obtain⟨⟨cd,c⟩,hd,n⟩:=hcl C hC;exact⟨a,C,dx,fs,cd,w,rfl,R1.sub _ _ ea,c,hd,n,l,q w F1 H1 R1 st1 rw'⟩
  .cases hg
 .cases hg⟩
end
def V5(C:Addr)(f:Str):Sp:=λvs H Q _=>∃a tt y,vs=[.ref a,y]/\H a=some (Eh a C tt none)/\∀dx,H dx=none->dx≠a->Q .cD (upd (upd H dx (.xd [(f,y)])) a (Eh a C tt (some dx)))
section
variable {P:Program}{w:World}{K:AAD}{mg:AAF}{base:Heap}{C:Addr}{cd:ClassData}{f s0 a0 x qual:Str}{st:Stmt}{fI:Addr}{fd:FuncData}{p1 p2 p3 p4:Pos}
def OB(F:IZ K x qual st fI fd)(S:bq [s0,a0] [s0,a0] (aD st))(hb:dc st=[.Assign [.Attribute (.Name s0 p1) f p2] (.Name a0 p3) p4])(c:Lq K C cd)(n:dQ K C f)
  (v0:wR (aD st) s0)(v1:wR (aD st) a0)(d0:BBT s0:=by decide)(d1:BBT a0:=by decide)(c0:BBU s0:=by decide)(c1:BBU a0:=by decide):
  fV P w K mg base wM 1 fI fd [s0,a0] (V5 C f):=by
 refine F.ok S (λvs H Q E h=>by obtain⟨a,tt,y,rfl,_⟩:=h;rfl) λcdv A outer s H vs Q E hr h=>?_;rw[hb];obtain⟨a,tt,y,rfl,ea,q⟩:=h;exact⟨_,IC (VX c n (dG (i:=0) rfl v0 d0 c0) (dG (i:=1) rfl v1 d1 c1) rfl),y,rfl,.ref a,rfl,a,tt,rfl,ea,q⟩
def hI1(a tt:Addr)(vs:List V)(H:Hp)(Q:VK)(hl:vs.length=[f].length)(hn:H a=none)(k:∀dx H2,H dx=none->dx≠a->H2 a=some (Eh a C tt (some dx))->H2 dx=some (.xd ([f].zip vs))->(∀b,b≠a->b≠dx->H2 b=H b)->Q .cD H2):V5 C f (.ref a::vs) (upd H a (Eh a C tt none)) Q E0:=by
 match vs,hl with
 |[y],_=>
  refine⟨a,tt,y,rfl,aZ,λdx hd ne=>?_⟩;rw[aR ne]at hd;exact k dx _ hd ne aZ (by rw[aR ne,aZ];rfl) λb h1 h2=>by rw[aR h1,aR h2,aR h1]
end
section
variable {P:Program}{w:World}{K:AAD}{mg:AAF}{base:Heap}
structure RV(P:Program)(w:World)(K:AAD)(mg:AAF)(base:Heap)(n:Nat)(x:Str)(ps:BBB)(fx:FX):Prop where
 ex:∃a d,fV P w K mg base (Fx P w) n a d ps (RO K ps.length fx)/\Binds K d ps []/\PySem.W.keepIn K (.ref a)=true/\mg x=some (.ref a)
def ZI{fx:FX}{g:GX}(D:Df K mg x st)(Sc:bq N ps (aD st))
  (hf:∀us r,fx us=some r->mK N.length g us=some r)
  (hb:∀(f:Addr)(cdv:Value)(A:Around)(outer:BBF)(s:Shared)(H:Hp)(E:XK),c7 k (A.deeper (envOfC x (aD st) s.heap.objs.size f cdv))->Bx (uO wM P w K mg base N x (aD st) f cdv A outer s H E).Ma (dc st) g)
  (bd:Bd x st ps:=by trivial):RV P w K mg base (k+1) x ps fx:=by
 obtain⟨f,fd,F,m⟩:=D.ex;exact⟨f,fd,okX F Sc (hb f) hf,F.binds bd,F.kp,m⟩
structure Rai(P:Program)(w:World)(K:AAD)(mg:AAF)(base:Heap)(x:Str)(C:Addr)(ns:BBB):Prop where
 ex:∃fI bm bmB B newId initId TV PF RL,XMk K C fI bm bmB B newId initId/\fV P w K mg base wM 1 fI TV PF RL/\Binds K TV PF []/\
  ∀(a tt:Addr)(vs:List V)(H:Hp)(Q:VK),vs.length=ns.length->H a=none->(∀dx H2,H dx=none->dx≠a->H2 a=some (Eh a C tt (some dx))->H2 dx=some (.xd (ns.zip vs))->(∀b,b≠a->b≠dx->H2 b=H b)->Q .cD H2)->RL (.ref a::vs) (upd H a (Eh a C tt none)) Q E0
 nm:mg x=some (.ref C)
 kp:PySem.W.keepIn K (.ref C)=true
 ln:ns.length<=1000
structure XIn(K:AAD)(C fI:Addr)(bm bmB:AAL)(B newId initId:String)(m q:Str)(st:Stmt)(fd:FuncData):Prop where
 xm:XMk K C fI bm bmB B newId initId
 fn:IZ K m q st fI fd
def V6{N:Addr}{B:String}{m qn nm q:Str}{ab:Bool}
  (lC:K.lookup C=some (excClassObj nm q C N bs bm hdct sn sub ab col dd k0 k1 k2 k3 k5 newId))(ni:PySem.W.nsIn K N "__init__" =some (some (.ref fI)))(l:K.lookup fI=some ⟨.type "function",od,.func (PySem.W.fnOf m qn (lz st) (dc st) (aD st) .none kV doc pm an cdv ct),osl⟩)
  (c:PySem.W.codeIn K cdv qn=true)(k:PySem.W.keepIn K (.ref fI)=true)(no:PySem.W.nsOkIn K N=true)(tl:PySem.W.tailIn K bmB bm=true)(fac:ExcBaseFacts B newId initId bmB)(Zw:bmB.contains (.type "BaseException")=true):
  ∃fd,XIn K C fI bm bmB B newId initId m qn st fd:=⟨_,⟨⟨_,_,_,_,_,_,_,_,_,_,_,_,_,_,_,lC,no,ni⟩,tl,fac,Zw,⟨_,l,rfl⟩⟩,G3 l c k⟩
def JN{N:Addr}{nm q:Str}{ab:Bool}
  (lC:K.lookup C=some (excClassObj nm q C N bs bm hdct sn sub ab col dd k0 k1 k2 k3 k5 newId)):Ax K C bm:=⟨_,_,_,_,_,_,_,_,_,_,_,_,_,_,_,_,lC⟩
def adX{B:String}{m qn s0 a0 f:Str}{cd:ClassData}{p1 p2 p3 p4:Pos}(M:∃fd,XIn K C fI bm bmB B newId initId m qn st fd)(nm:mg x=some (.ref C))(kp:PySem.W.keepIn K (.ref C)=true)(c:Lq K C cd)(n:dQ K C f)
  (S:bq [s0,a0] [s0,a0] (aD st))(hb:dc st=[.Assign [.Attribute (.Name s0 p1) f p2] (.Name a0 p3) p4])(v0:wR (aD st) s0)(v1:wR (aD st) a0)(bd:Zu m qn st [s0,a0])
  (d0:BBT s0:=by decide)(d1:BBT a0:=by decide)(c0:BBU s0:=by decide)(c1:BBU a0:=by decide):Rai P w K mg base x C [f]:=by
 obtain⟨fd,M,F⟩:=M;exact⟨⟨fI,bm,bmB,B,newId,initId,fd,[s0,a0],V5 C f,M,OB F S hb c n v0 v1 d0 d1 c0 c1,F.binds bd,λa tt vs H Q=>hI1 a tt vs H Q⟩,nm,kp,Nat.le_of_ble_eq_true rfl⟩
end
section
variable {X:Cx}{e:Expr}{es:BBC}{gu:GU}{ga:GA}{x:Str}{p pos cpos:Pos}{k j:Nat}{ps ns:BBB}{fx:FX}{C:Addr}
def xc(c:RV X.prog X.w X.K X.mg X.base j x ps fx)(hr:c7 k X.A)(ha:JU X (e::es) gu)(hj:j<=k:=by lia)(hx:X.xe=λ_ _=>False:=by rfl)(hg:Gl X x:=by rfl)(hn:(e::es).length=ps.length:=by rfl)
  (hdb:BBT x:=by decide)(he:starEach (e::es) X.env=(false,eval e X.env)::starEach es X.env:=by rfl)(hpl:(backTo pos (starEach es X.env)).any (·.1)=false:=by rfl):
  JH X (.Call (.Name x p) (e::es) [] pos) (yD fx gu):=by
 obtain⟨a,d,G,b,kp,m⟩:=c.ex;exact RP (G.mono hj) hx hr hg m kp b ha hn hdb he hpl
def xr(R:Rai X.prog X.w X.K X.mg X.base x C ns)(hr:c7 k X.A)(ha:JA X (e::es) ga)(hj:2<=k:=by lia)(hx:X.xe=λ_ _=>False:=by rfl)(hc:X.calm=true:=by rfl)(hg:Gl X x:=by rfl)
  (hdb:BBT x:=by decide)(he:starEach (e::es) X.env=(false,eval e X.env)::starEach es X.env:=by rfl)(hpl:(backTo cpos (starEach es X.env)).any (·.1)=false:=by rfl):
  Ml X (.Raise (some (.Call (.Name x p) (e::es) [] cpos)) none pos) (Ay C ns ga):=by
 obtain⟨fI,bm,bmB,B,ni,ii,fd,PF,RL,M,FI,hb,hI⟩:=R.ex;exact Oz M FI hI hx hc R.ln (hr.mono hj) hg R.nm R.kp hb ha hdb he hpl
def xa{fm:FM}{gx:GX}(c:lM X.prog X.w X.K X.mg X.base j x ps fm)(h:JH X e gx)(hg:Gl X x:=by rfl)(hdb:BBT x:=by decide)(he:starEach [e] X.env=[(false,eval e X.env)]:=by rfl):JH X (.Call (.Name x p) [e] [] pos) gx:=by
 obtain⟨a,d,G,b,kp,m⟩:=c.ex;exact OA h hg m kp hdb he
variable {a:Stmt}{r:BBH}{gx gb g1 g2:GX}{g:GS}{q1:GT}
def xq(ha:Ml X a gx)(h:JS X a g)(hb:Bx X r gb)(hx:X.xe=λ_ _=>False:=by rfl):Bx X (a::r) (Lr gx g gb):=V1 hx ha h hb
def xo(h:JS X a g)(hb:Bx X r gb)(hx:X.xe=λ_ _=>False:=by rfl):Bx X (a::r) (JJ g gb):=ZC hx h hb
def xi{c:Expr}(hc:JT X c q1)(ha:Bx X b1 g1)(hb:Bx X b2 g2)(hx:X.xe=λ_ _=>False:=by rfl):Ml X (.If c b1 b2 pos) (ZD q1 g1 g2):=ZE hx hc ha hb
def xfn(hi:Y0 X tg iter gi)(hg:JG X tg bd)(hb:JB X stmts s1)(RJ:Bx X stmts gx)(hx:X.xe=λ_ _=>False:=by rfl)(hst:X.stack=X.env::X.outer:=by rfl)(hfr:X.env.frame=some X.env.locals:=by rfl)(hc:X.calm=true:=by rfl)(hs:∀x,foldedSetIterable iter X.env x=pure x:=by intro _;rfl):
  Ml X (.For tg iter stmts [] pos) (Lu bd gi gx s1):=JK hx hst hfr hc hi hg hb RJ hs
def xt{suite:BBH}{b0:Stmt}{n:Str}{np hpos:Pos}{gb gs:GS}{C0:Addr}(hN:X.N.Nodup)(i:Nat)(hm:X.mg x=some (.ref C0))(h0:∃bm,Ax X.K C0 bm/\bm.contains (.type "BaseException")=true)
  (hcl:∀C∈cl,∃bm,Ax X.K C bm/\(Value.ref C::bm).contains (.ref C0)=true)(hb:Bx X body gx)(hb2:JB X body gb)(hs:∀a,JB (X.hand a) (b0::suite) gs)(hx:X.xe=λ_ _=>False:=by rfl)(hst:X.stack=X.env::X.outer:=by rfl)(hfr:X.env.frame=some X.env.locals:=by rfl)
  (hi:X.N[i]? =some n:=by rfl)(hk:X.env.kindOf n=some .local:=by rfl)(hg:Gl X x:=by rfl)(hdb:BBT x:=by decide):
  JS X (.Try body [.ExceptHandler (some (.Name x np)) (some n) (b0::suite) hpos] [] [] pos) (Ls i cl gb gx gs):=by
 obtain⟨bm,o,b⟩:=h0;exact V2 hx hst hfr hN hi hk hg hm o b hcl hb hb2 hs hdb
end
def Dy{Q:Addr->Prop}:∀C∈([]:BBE),Q C:=λ_ h=>by cases h
def zC{Q:Addr->Prop}(h:Q C)(r:∀C∈cl,Q C):∀C'∈C::cl,Q C':=λC' e=>by
 rcases aat.mp e with rfl|e
 .exact h
 .exact r C' e
section
variable {X:Cx}{o e:Expr}{es:BBC}{ta:TE}{t:TA}{C f:Addr}{fd:FuncData}{ps:BBB}{k:Nat}{sp:Sp}{m:Str}{ds:AAL}{um:List V}{pos apos:Pos}
noncomputable def V7(C:Addr)(m:Str)(sp:Sp)(um:List V)(ta:TE)(t:TA):TX:=λO H Q=>ta O H λx H1=>∃a dx fs,x= .ref a/\H1 a=some (.ins C dx fs)/\fs.lookup m=none/\t O H1 λvs H2=>sp (x::(vs++um)) H2 (λ_ _=>False) λev _ H'=>∃a,ev= .ref a/\Q O a H'
def RW(he:PE X o ta)(c:BC X.K C)(hm:Meth X.K C m f)(F:fV X.prog X.w X.K X.mg X.base (Fx X.prog X.w) k f fd ps sp)(hx:X.xe=λ_ _=>False)(hr:c7 k X.A)(hb:Binds X.K fd ps ds)(hd:Vals um ds)(ha:PA X (e::es) t)
  (hst:starEach (e::es) X.env=(false,eval e X.env)::starEach es X.env)(hpl:(backTo pos (starEach es X.env)).any (·.1)=false)
  (ht:eval (.Call (.Attribute o m apos) (e::es) [] pos) X.env=(do
   let ov <-eval o X.env
   standAt apos.atName
   let(f,first) <-holding [ov] (getMethod ov m pl)
   callWith pos f first (backTo pos (starEach (e::es) X.env)) (backToKw pos (keywordEach [] X.env)))):
  TU X (.Call (.Attribute o m apos) (e::es) [] pos) (V7 C m sp um ta t):=by
 intro pins s O H Q I h;refine afY (pl:=pl) (cS (he.wait hx I h) λu s1 hh=>?_) ht;obtain⟨x,H1,I1,rx,a,dx,fs,ex,ea,l,q⟩:=hh;subst ex;obtain rfl:u=Value.ref a:=rx;refine uN I1 ea c hm l ?_;refine adK (first:=[.ref a]) (h₀:=X.base) I.ok.mod.PU hm.kp (cS (ha.wait hx I1 q) λus s2 ⟨vs,H2,I2,r,q2⟩=>⟨I2.uh,?_⟩) hst hpl;exact JF (us:=.ref a::us) (vs:=.ref a::vs) F hr hb hd I2 (.cons rfl r) q2
end
def uC(C:Addr)(m:Str)(i:Nat)(f:FX)(gu:GU):GX:=λS=>(vY C S i).bind λkvs=>if kvs.lookup m=none then yD f (Al i gu) S else none
section
variable {X:Cx}{C:Addr}{e:Expr}{es:BBC}{gu:GU}{x m:Str}{px pos apos:Pos}{fx:FX}{fa:Addr}{fd:FuncData}{ps:BBB}{k n i:Nat}
def OC{B:Base}{S S1 S':SS}{F0 F1 H1:Hp}{Q:XQ}{r:XV}{u0:U}{us:List U}{vs:List V}{a:Addr}(hS:S[i]? =some (some u0))(hv:O[i]? =some (some (.ref a)))(R1:Rel X.K B S1 O F1 H1)(st1:Step S S1 O F0 H F1 H1)(rr:Paired (λv u=>gD X.K B S1 O H F1 H1 v u) vs us)(hlen:vs.length+1=n)
  (hg:(if(slotsOf (U.v i::us)).Nodup/\cu (U.v i::us)<=1 then(bT S1 (.v i::us)).bind λws=>(fx ws).bind λr=>(wb (.v i::us) r.2 S1).map λS2=>(r.1,S2) else none)=some (r,S'))
  (q:∀a F' H',Rel X.K B S' O F' H'->Step S S' O F0 H F' H'->vL F' (.ref a) r.1 r.2->Q O a H'):RO X.K n fx (.ref a::vs) H1 (λ_ _=>False) λev _ H'=>∃a,ev= .ref a/\Q O a H':=by
 obtain⟨hc,hg⟩:=fc hg;obtain⟨ws,h2,hg⟩:=ah hg;obtain⟨⟨r',outs⟩,h3,hg⟩:=ah hg;obtain⟨S2,h4,hg⟩:=aB hg;cases hg;have N6:Paired (λv u=>gD X.K B S1 O H F1 H1 v u) (.ref a::vs) (.v i::us):=.cons ⟨hv,st1.slots i u0 hS⟩ rr;refine⟨by show vs.length+1=n;exact hlen,F1,ws,_,outs,R1.sub,pC R1 N6 h2,gI R1 N6 h2 hc.1 hc.2,h3,λa2 F2 H2 po xr=>⟨a2,rfl,?_⟩⟩;obtain⟨R2,st2,mu⟩:=iY R1 st1 N6 h2 h4 hc.1 po;exact q a2 F2 H2 R2 st2 xr
def RX(i:Nat)(c:BC X.K C)(hm:Meth X.K C m fa)(F:fV X.prog X.w X.K X.mg X.base (Fx X.prog X.w) k fa fd ps (RO X.K n fx))(hx:X.xe=λ_ _=>False)(hr:c7 k X.A)(hb:Binds X.K fd ps [])(ha:JU X (e::es) gu)(hn:(e::es).length+1=n)
  (hN:X.N[i]? =some x)(hv:wR X.env.scope x)(hd:BBT x)(hcd:BBU x)
  (hst:starEach (e::es) X.env=(false,eval e X.env)::starEach es X.env)(hpl:(backTo pos (starEach es X.env)).any (·.1)=false)
  (ht:eval (.Call (.Attribute (.Name x px) m apos) (e::es) [] pos) X.env=(do
   let ov <-eval (.Name x px) X.env
   standAt apos.atName
   let(f,first) <-holding [ov] (getMethod ov m pl)
   callWith pos f first (backTo pos (starEach (e::es) X.env)) (backToKw pos (keywordEach [] X.env)))):
  JH X (.Call (.Attribute (.Name x px) m apos) (e::es) [] pos) (uC C m i fx gu):=⟨λB=>(RW (pl:=pl) (dG hN hv hd hcd) c hm F hx hr hb .nil (ha.h B) hst hpl ht).imp λO H Q hh=>by
 obtain⟨S,F0,r,S',R,hg,q⟩:=hh;obtain⟨kvs,h0,hg⟩:=ah hg;obtain⟨hl,hg⟩:=fc hg;obtain⟨⟨us',S1⟩,h1,hg⟩:=ah hg;obtain⟨⟨us,S1'⟩,Ug,hq⟩:=aB h1;cases hq;obtain⟨u0,hS,Hj,hi⟩:=jI h0;obtain⟨a,ws,dx,e1,e2,e3⟩:=tW R hS Hj hi;refine⟨.ref a,e1,a,dx,ws,rfl,e2,vZ e3 hl,S,F0,us,S1',R,Ug,λvs F1 H1 R1 st1 rr=>?_⟩;show RO X.K n fx (.ref a::(vs++[])) H1 _ _;rw[abE];exact OC hS e1 R1 st1 rr (by rw[rr.length,ha.len _ _ _ Ug];exact hn) hg q⟩
end
section
variable {P:Program}{w:World}{K:AAD}{mg:AAF}{base:Heap}{C:Addr}{m q:Str}{st:Stmt}{ps:BBB}{fx:FX}
structure uD(P:Program)(w:World)(K:AAD)(mg:AAF)(base:Heap)(n:Nat)(C:Addr)(m:Str)(ps:BBB)(fx:FX):Prop where
 ex:∃a d,fV P w K mg base (Fx P w) n a d ps (RO K ps.length fx)/\Binds K d ps []/\Meth K C m a
def uD.mono{j k:Nat}(c:uD P w K mg base j C m ps fx)(h:j<=k):uD P w K mg base k C m ps fx:=
 let⟨a,d,G,r⟩:=c.ex;⟨a,d,G.mono h,r⟩
def RY{g:GX}(D:BI K C m q st)(Sc:bq N ps (aD st))
  (hf:∀us r,fx us=some r->mK N.length g us=some r)
  (hb:∀(f:Addr)(cdv:Value)(A:Around)(outer:BBF)(s:Shared)(H:Hp)(E:XK),c7 k (A.deeper (envOfC q (aD st) s.heap.objs.size f cdv))->Bx (uO wM P w K mg base N q (aD st) f cdv A outer s H E).Ma (dc st) g)
  (bd:Zu m q st ps:=by trivial):uD P w K mg base (k+1) C m ps fx:=by
 obtain⟨f,fd,F,m⟩:=D.ex;exact⟨f,fd,okX F Sc (hb f) hf,F.binds bd,m⟩
def Lv(D:BI K C m q st)(z:∀us,fx us=none)(bd:Zu m q st ps:=by trivial):uD P w K mg base n C m ps fx:=by
 obtain⟨f,fd,F,m⟩:=D.ex;have no:∀vs H Q E,¬RO K ps.length fx vs H Q E:=λvs H Q E ⟨_,F,us,r,outs,_,_,_,e,_⟩=>by rw[z us]at e;cases e
 exact⟨f,fd,⟨λvs H Q E h=>absurd h (no vs H Q E),λA outer s H args us vs Q E _ _ _ _ h=>absurd h (no vs H Q E)⟩,F.binds bd,m⟩
end
section
variable {X:Cx}{C:Addr}{e:Expr}{es:BBC}{gu:GU}{x m:Str}{px p pos apos:Pos}{k j:Nat}{ps:BBB}{fx:FX}{gx:GX}
def xm(i:Nat)(c:BC X.K C)(F:uD X.prog X.w X.K X.mg X.base j C m ps fx)(hr:c7 k X.A)(ha:JU X (e::es) gu)(hj:j<=k:=by lia)(hn:(e::es).length+1=ps.length:=by rfl)(hx:X.xe=λ_ _=>False:=by rfl)
  (hN:X.N[i]? =some x:=by rfl)(hv:wR X.env.scope x:=by trivial)(hd:BBT x:=by decide)(hcd:BBU x:=by decide)
  (hst:starEach (e::es) X.env=(false,eval e X.env)::starEach es X.env:=by rfl)(hpl:(backTo pos (starEach es X.env)).any (·.1)=false:=by rfl)
  (ht:eval (.Call (.Attribute (.Name x px) m apos) (e::es) [] pos) X.env=(do
   let ov <-eval (.Name x px) X.env
   standAt apos.atName
   let(f,first) <-holding [ov] (getMethod ov m pl)
   callWith pos f first (backTo pos (starEach (e::es) X.env)) (backToKw pos (keywordEach [] X.env))):=by rfl):
  JH X (.Call (.Attribute (.Name x px) m apos) (e::es) [] pos) (uC C m i fx gu):=by
 obtain⟨a,d,G,b,me⟩:=F.ex;exact RX i c me (G.mono hj) hx hr b ha hn hN hv hd hcd hst hpl ht
def xex(h:JH X e gx)(hs:swapsWith e none pos.line X.env=pure false:=by rfl)(hq:X.calm=true:=by rfl):Ml X (.Expr e pos) gx:=⟨λB pins s O H Q I hw=>wpAny_Expr_any (aaB (h.h B pins s O H Q I hw.ofS) (λ_ _ z=>z.elim) λ_ _ z=>z) I.quiet hs⟩
def PXA(X:Cx)(es:BBC)(t:TX):Prop:=∀(pos:Pos)(pins:AAG)(s:Shared)(O:St)(H:Hp)(Q:XQ),Inv X pins O H s->t O H Q->wpAny (model X.prog X.w) X.A (spliced (backTo pos (starEach es X.env))) (λ_ _=>False) (Mj X pins Q) s
structure JXA(X:Cx)(es:BBC)(g:GX):Prop where
 h:∀B,PXA X es (tXE X.K B g)
noncomputable def xAn(g:GD)(gx:GX):GX:=λS=>(g S).bind λp=>gx p.2
def xa1(h:JH X e gx)(hs:starEach (e::es) X.env=(false,eval e X.env)::starEach es X.env:=by rfl):JXA X (e::es) gx:=⟨λB pos pins s O H Q I hw=>by
 rw[hs];show wpAny _ _ (spliced ((false,eval e X.env)::backTo pos (starEach es X.env))) _ _ s;exact ab9 (aaB (h.h B pins s O H Q I hw) (λ_ _ z=>z.elim) λ_ _ z=>z)⟩
def xtu{x1:Nat}(h:JXA X es gx):JH X (.Tuple es x1 pos) gx:=⟨λB pins s O H Q I hw=>wpAny_Tuple_spliced (aaB (h.h B pos pins s O H Q I hw) (λ_ _ z=>z.elim) λ_ _ z=>z)⟩
def xop{a b:Expr}{g:GD}(ha:JD X a g)(hb:JH X b gx)(hx:X.xe=λ_ _=>False:=by rfl):JH X (.BinOp a op b pos) (xAn g gx):=⟨λB pins s O H Q I hw=>by
 obtain⟨S,F,rr,S',R,hg,q⟩:=hw;obtain⟨⟨d,S1⟩,h1,hg⟩:=ah hg;refine wpAny_BinOp (cS ((ha.h B).wait hx (Q:=λv H1=>∃F1,Rel X.K B S1 O F1 H1/\Step S S1 O F H F1 H1) I ⟨S,F,d,S1,R,h1,λv F1 H1 R1 st1 _=>⟨F1,R1,st1⟩⟩) λu s1 hh=>?_);obtain⟨v,H1,I1,_,F1,R1,st1⟩:=hh;exact aaB (hb.h B pins s1 O H1 Q I1 ⟨S1,F1,rr,S',R1,hg,λa F' H' R' st xr=>q a F' H' R' (st1.trans st) xr⟩) (λ_ _ z=>z.elim) λ_ _ z=>z⟩
def JI.nn(h:JI X tg e gi):Y0 X tg e gi:=⟨λB pins s O H Q I hw=>by
 obtain⟨S,F,ds,S',R,hg,q⟩:=hw;refine h.h B pins s O H Q I ⟨S,F,ds,S',R,hg,λJ F' H' R' st wk=>q J F' H' R' st λF2 H2 le sb i=>?_⟩;obtain⟨w1,w2⟩:=wk F2 H2 le sb i;refine⟨λd hd=>?_,w2⟩;obtain⟨go,yl⟩:=w1 d hd;refine⟨go,λx H3 y=>?_⟩;obtain⟨rfl,rx⟩:=yl x H3 y;exact⟨F2,fW.refl ..,sb,rx⟩⟩
def xf(hi:JI X tg iter gi)(hg:JG X tg bd)(hb:JB X stmts s1)(RJ:Bx X stmts gx)(hx:X.xe=λ_ _=>False:=by rfl)(hst:X.stack=X.env::X.outer:=by rfl)(hfr:X.env.frame=some X.env.locals:=by rfl)(hc:X.calm=true:=by rfl)(hs:∀x,foldedSetIterable iter X.env x=pure x:=by intro _;rfl):
  Ml X (.For tg iter stmts [] pos) (Lu bd gi gx s1):=JK hx hst hfr hc hi.nn hg hb RJ hs
end
end L2
end
section
namespace L2
open PySem PySem.Spec PyProof.Rows PySem.Calls PyProof.V
section
variable {prog:Program}{w:World}{A:Around}{R:Result->Shared->Prop}{I S:Addr}{fp wr:BBE}{n:Nat}{P:Nat->Value->Prop}{St:Nat->Heap->Prop}{kw:List (Str×Value)}
def pL:(toString "max" ++toString ".loop":String)="max.loop":=by decide
def Lw(W:Walks prog w A.in1 I fp wr n P St)(bt:Nat->Nat->Bool)(hcmp:CmpOf prog w A.in1 .Gt P bt)(hSf:S∉fp):∀(k j:Nat)(s:Shared)(vb:Value)(c:Nat),n-(j+1)=k->j+1<=n->St (j+1) s.heap->P (argBest bt j) vb->
  s.heap.get? S=some {cls:=.type "list",dict:=none,data:=.seq #[vb,vb] c,slots:=#[]}->
  (∀v h' tk,P (argBest bt (n-1)) v->(∀b o,b∉wr->b≠S->s.heap.get? b=some o->h'.get? b=some o)->R (.ok (.ret v)) {s with heap:=h',toks:=tk})->
  codeAny (model prog w) A (.builtin "max.loop" ⟨[.ref I,.none,.ref S],kw⟩) R s:=by
 have W6:S∉wr:=λh=>hSf (W.sub _ h);intro k
 induction k with
 |zero=>
  intro j s vb c hk hj hst hPb hS hR;obtain rfl:n=j+1:=by lia
  refine adR afU ?_;rw[acI acA _];show wpAny _ A.in1 (seqItems? (.ref S) >>= _) _ _ s;refine aal (aby hS rfl ?_);show wpAny _ A.in1 (tryCatch (pyNext (.ref I)) _ >>= _) _ _ s;refine aal (afK (W.done s _ _ hst λh' tk hk'=>?_));show wpAny _ A.in1 (updateSeq S (λ_=>#[]) >>= _) _ _ _;refine aal (adS (hk' S _ W6 hS) rfl (aal (adO (aan ?_))));exact hR vb _ tk hPb λb o Mm Ll e=>(aaH _ _ (abO Ll)).trans (hk' b o Mm e)
 |succ k ih=>
  intro j s vb c hk hj hst hPb hS hR;have hlt:j+1<n:=by lia
  refine adR afU ?_;rw[acI acA _];show wpAny _ A.in1 (seqItems? (.ref S) >>= _) _ _ s;refine aal (aby hS rfl ?_);show wpAny _ A.in1 (tryCatch (pyNext (.ref I)) _ >>= _) _ _ s;refine aal (afK (W.item (j+1) s _ _ hlt hst λv h' tk hP K8 hk'=>?_));have hS':=hk' S _ W6 hS;show wpAny _ A.in1 (tryCatch (holding [v,v] (richCompare .Gt v vb >>= _)) _ >>= _) _ _ _;refine aal (afK (abz (aal (hcmp (j+1) (argBest bt j) v vb _ _ _ hP hPb ?_))));refine aal (abz (acR ?_));refine aal (adO (aan ?_));cases hb:bt (j+1) (argBest bt j) with
  |true=>
   simp only[if_true];refine aal (adS hS' rfl (aal (adO ?_)));rw[pL];refine aan ⟨aeO acA _,ih (j+1) _ v _ (by lia) hlt (W.frame _ _ _ K8 λb hbf o e=>(aaH _ _ (λh:S=b=>hSf (by rw[h];exact hbf))).trans e) (by simp only[argBest,hb,if_true];exact hP) (abh _ hS' rfl) λv' h'' OD hP' OE=>?_⟩;exact hR v' h'' OD hP' λb o Mm Ll e=>OE b o Mm Ll ((aaH _ _ (abO Ll)).trans (hk' b o Mm e))
  |false=>
   simp only[acp,aey];refine aal (adO ?_);rw[pL];exact aan ⟨aeO acA _,ih (j+1) _ vb c (by lia) hlt K8 (by simp only[argBest,hb,acp,aey];exact hPb) hS' λv' h'' OD hP' OE=>hR v' h'' OD hP' λb o Mm Ll e=>OE b o Mm Ll (hk' b o Mm e)⟩
def HU{s:Shared}{c:Nat}{d:Value}{x:Str}(W:Walks prog w A.in1 I fp wr n P St)(bt:Nat->Nat->Bool)(hcmp:CmpOf prog w A.in1 .Gt P bt)(hSf:S∉fp)(hst:St 0 s.heap)
  (hS:s.heap.get? S=some {cls:=.type "list",dict:=none,data:=.seq #[] c,slots:=#[]})
  (hR:∀v h' tk,(n=0/\v=d\/0<n/\P (argBest bt (n-1)) v)->(∀b o,b∉wr->b≠S->s.heap.get? b=some o->h'.get? b=some o)->R (.ok (.ret v)) {s with heap:=h',toks:=tk}):
  codeAny (model prog w) A (.builtin "max.loop" ⟨[.ref I,.none,.ref S],[(x,d)]⟩) R s:=by
 have W6:S∉wr:=λh=>hSf (W.sub _ h);refine adR afU ?_;rw[acI acA _];show wpAny _ A.in1 (seqItems? (.ref S) >>= _) _ _ s;refine aal (aby hS rfl ?_);show wpAny _ A.in1 (tryCatch (pyNext (.ref I)) _ >>= _) _ _ s;by_cases h0:n=0
 .subst h0;refine aal (afK (W.done s _ _ hst λh' tk hk'=>?_));refine aal (afl (aan ?_));exact hR d h' tk (.inl ⟨rfl,rfl⟩) λb o Mm _ e=>hk' b o Mm e
 .have hn:0<n:=Nat.pos_of_ne_zero h0;refine aal (afK (W.item 0 s _ _ hn hst λv h' tk hP K8 hk'=>?_));have hS':=hk' S _ W6 hS;show wpAny _ A.in1 (updateSeq S (λ_=>#[v,v]) >>= _) _ _ _;refine aal (adS hS' rfl ?_);rw[pL];refine aan ⟨aeO acA _,Lw W bt hcmp hSf _ 0 _ v _ rfl hn (W.frame _ _ _ K8 λb hbf o e=>(aaH _ _ (λh:S=b=>hSf (by rw[h];exact hbf))).trans e) hP (abh _ hS' rfl) λv' h'' OD hP' OE=>?_⟩;exact hR v' h'' OD (.inr ⟨hn,hP'⟩) λb o Mm Ll e=>OE b o Mm Ll ((aaH _ _ (abO Ll)).trans (hk' b o Mm e))
end
def Lx(a v:Value):argsOk "max" ⟨[a],[(Str.ofString "default",v)]⟩:=by unfold argsOk;kernel_rfl
def Ly(v:Value):Builtin.Builtins.bindParams "max" ["key","default"] 0 ⟨[],[(Str.ofString "default",v)]⟩=pure [none,some v]:=rfl
section
variable {prog:Program}{w:World}{A:Around}{E:AAE}{s:Shared}{l:Addr}{xs:Array (Int×Tok)}
def Lz{d:Value}{Q:AAE}(hh:A.handled=none)(hl:s.heap.IsList l (intItems xs))
  (h:∀v h' tk,(xs.size=0/\v=d\/0<xs.size/\(intItems xs)[argBest (λi j=>decide (numAt xs i > numAt xs j)) (xs.size-1)]? =some v)->(∀b o,s.heap.get? b=some o->h'.get? b=some o)->Q v {s with heap:=h',toks:=tk}):
  wpAny (model prog w) A (call (.builtin "max") [.ref l] [(Str.ofString "default",d)]) Q E s:=by
 refine ae6 (afo PySem.F.plain_max PySem.F.entry_max ?_);have go:wpAny (model prog w) A.in1 (Builtin.«max» ⟨[.ref l],[(Str.ofString "default",d)]⟩) (λfin s'=>match fin with
   |.done f=>(match(Except.ok f:Result) with|.ok (.ret v)=>Q v s'|.ok _=>False|.error e=>E e s')
   |.again c'=>c'.quiet=true/\codeAny (model prog w) A c' (λr s'=>match r with|.ok (.ret v)=>Q v s'|.ok _=>False|.error e=>E e s') s') E s:=by
  show wpAny _ A.in1 (Builtin.Builtins.bindParams "max" ["key","default"] 0 ⟨[],[(Str.ofString "default",d)]⟩ >>= _) _ _ s;refine aal (wpAny_of_eq (Ly d) ?_);refine aal (aan ?_);refine aal (iter_intList hl λs₂ e st hfp hlI=>?_);subst e;refine aal (acB ?_);have W:=Walks.list (prog:=prog) (w:=w) (A:=A.in1) hh s.heap.objs.size l hlI (intItems xs);have hz:(intItems xs).size=xs.size:=by simp[intItems]
  rw[pL];refine aan ⟨aeO acA _,HU W _ (CmpOf.ints_gt (numAt xs) (λ_ _=>intItems_at)) (λhm=>ack _ (hfp _ hm)) (W.frame _ _ _ st λb _ o e=>aam _ e) (aas _ rfl) λv h' tk hP hk=>?_⟩;rw[hz]at hP;exact h v h' tk hP (old_kept λb o hb e=>hk b o hb (aaD (aap e)) (aam _ e))
 simp only[checkBuiltinCall,PySem.F.kind_max];cases VT:Manifest.signature? "max" with
 |none=>exact aan go
 |some sig=>
  have ha:=Lx (.ref l) d;simp only[argsOk,VT]at ha;have h2:Bind.checkArgs "max" sig ⟨[.ref l],[(Str.ofString "default",d)]⟩=pure ():=ha;show wpAny _ A.in1 (Bind.checkArgs "max" sig ⟨[.ref l],[(Str.ofString "default",d)]⟩) _ _ s;rw[h2];exact aan go
end
def FA(k:Int):List D->Option U
 |[.lst ds]=>(ou ds).map λbs=>.t (.int (if bs=[] then k else uq bs))
 |_=>none
def LA{k:Int}{d:D}{u:U}(h:FA k [d]=some u):∃ds bs,d= .lst ds/\ou ds=some bs/\u= .t (.int (if bs=[] then k else uq bs)):=by
 cases d with
 |lst ds=>obtain⟨bs,h1,h2⟩:=aB (show(ou ds).map _=some u from h);exact⟨ds,bs,rfl,h1,h2.symm⟩
 |_=>cases h
section
variable {X:Cx}{a:Expr}{pos p kp cp:Pos}{kk:Nat}{ga:GD}{k:Int}
def RZ(hc:X.calm=true)(hg1:Gl X "max")(hm1:X.mg "max" =none)(ha:JD X a ga)(hs2:starEach [a] X.env=(false,eval a X.env)::starEach [] X.env:=by rfl):
  JE X (.Call (.Name "max" p) [a] [⟨some (Str.ofString "default"),.Constant (.int k) kk cp,kp⟩] pos) (eP (FA k) (aa ga ak)):=⟨λB=>by
 rintro pins s O H Q I ⟨S,F,u,S',R,hg,q⟩;obtain⟨⟨dl,S1⟩,h1,hg⟩:=ah hg;obtain⟨w',h2,hg⟩:=aB hg;cases hg;obtain⟨⟨d,S2⟩,h3,h1⟩:=ah h1;obtain⟨⟨dr,S3⟩,h4,h1⟩:=aB h1;cases h4;cases h1;obtain⟨ds,bs,rfl,hb,rfl⟩:=LA h2;refine abU (lP I hg1 hm1 PyProof.Rows.Boot.max ?_ (by decide) (by decide));refine callWith_kw (cS (mR (ha.h B) wW hs2 pos pins s O H (λvs H1=>∃v F1,vs=[v]/\Rel X.K B S2 O F1 H1/\Step S S2 O F H F1 H1/\Rep F1 v (.lst ds)) I ⟨S,F,_,S2,R,h3,λv F1 H1 R1 st1 r1=>⟨v,F1,rfl,R1,st1,r1⟩⟩) ?_) (by rw[hs2];rfl) (by rw[hs2];rfl);rintro us s1 ⟨vs,H1,I1,r1,v,F1,rfl,R1,st1,rd⟩;obtain⟨u',rfl,ru⟩:=vals1 r1;refine kws_cons (cS (Mw (i:=k) (j:=kk) (pos:=cp) pins s1 O H1 (λv H2=>v= .int k/\H2=H1) I1 ⟨rfl,rfl⟩) ?_);rintro dv s2 ⟨v2,H2,I2,rv2,rfl,rfl⟩;obtain⟨t2,rfl⟩:=rv2;refine kws_nil ?_;obtain⟨a',vs',rfl,fa,hla,vG⟩:=R1.sub.jo rd;obtain rfl:=Ad vG hb;cases ru;obtain⟨its,rv,pl,hz⟩:=I2.list (.inl hla);have hi:IntsAre its.toArray.toList bs:=intsAre_of rv;obtain⟨ys,e⟩:=hi.allInts.items;have hns:bs=ys.toList.map (·.1):=by rw[<-hi.numsOf,<-nums_intItems,<-e]
 have hl:=pl.isList;have e':its.toArray=intItems ys:=by rw[<-e]
 rw[e']at hl;have hlen:bs.length=ys.size:=by rw[hns,aaw,adZ]
 refine Lz (I2.ok.hd hc) hl λv h' tk hv hk=>?_;have fin:∀m t,(if bs=[] then k else uq bs)=m->v= .int m t->EP X pins O Q v {s2 with heap:=h',toks:=tk}:=λm t e1 e2=>by
  subst e2;refine⟨.int m,_,I2.kept (t':=tk) hk,⟨t,rfl⟩,?_⟩;rw[<-e1];exact q _ F1 _ R1 st1 (.int _)
 rcases hv with⟨h0,rfl⟩|⟨h0,hv⟩
 .have:bs=[]:=List.eq_nil_of_length_eq_zero (hlen.trans h0);exact fin k _ (by rw[if_pos this]) rfl
 .obtain⟨t,rfl⟩:=intItems_at hv;obtain⟨k1,k2⟩:=argBest_gt (numAt ys) (ys.size-1);refine fin _ t ?_ rfl;rw[if_neg (λz=>by rw[z]at hlen;simp at hlen;lia)];refine Rq ?_ λa ha=>?_
  .rw[hns,numAt_eq];exact getD_mem (by rw[aaw,adZ];lia)
  .rw[hns]at ha;obtain⟨j,hj,rfl⟩:=mem_getD ha;rw[aaw,adZ]at hj;rw[<-numAt_eq];exact k2 j (by lia)⟩
end
def leX(a b:Str):Prop:=¬b.cps.toList<a.cps.toList
noncomputable instance abj(a b:Str):Decidable (leX a b):=inferInstanceAs (Decidable (¬b.cps.toList<a.cps.toList))
end L2
end
section
namespace L2
open PySem PySem.Spec PyProof.Rows
section
variable (S:SS)(d:D)(i:Nat)(g ga gb gc:GD)(gA:GA)
@[simp] theorem ad0(f:Int->Int->Int):Hy f i g S=match S[i]? with
 |some (some (.t (.int n)))=>(g S).bind λp=>match p.1 with
  |.int m=>(qU i (.t (.int (f n m))) p.2).map .nx
  |_=>none
 |_=>none:=rfl
@[simp] theorem ad1:E4 [d,.cD]=AAA (.bl (vU d)):=rfl
@[simp] theorem abk(k:Bool):Q8 [.bl k]=AAC (if k then 1 else 0):=rfl
@[simp] theorem ad2(ds:List D)(k:Int):NJ [.lst ds,.int k]=if 0<=k/\k.toNat<=100000/\ds.length*k.toNat<=100000 then some (.m (.lst (List.replicate k.toNat ds).flatten)) else none:=rfl
@[simp] theorem Xm(es ds:List D):ir [.lst es] (.lst ds)=if ds.length+es.length<=100000 then some (.cD,.lst (ds++es)) else none:=rfl
@[simp] theorem abl:Jr gA S=(gA S).bind λp=>match p.1 with
 |[d]=>(xw d).map λq=>(Jq q.2,p.2)
 |_=>none:=rfl
@[simp] theorem OF(ds:List D):xw (.lst ds)=some (true,ds):=rfl
@[simp] theorem OG(ds:List D):xw (.tup ds)=some (false,ds):=rfl
@[simp] theorem abm(x y:Int):YO [.int x,.int y]=AAC (if y<x then y else x):=rfl
end
end L2
namespace Sq
open PySem PySem.Spec PyProof.Rows L2 Sw
theorem v8{bd:GB}{body:GS}:∀(ds:List D)(I:List D->SS->Prop)(S:SS),I ds S->(∀d r S,I (d::r) S->∃S1 S2,bd d S=some S1/\body S1=some (.nx S2)/\I r S2)->∃S',loop bd body ds S=some (.nx S')/\I [] S'
 |[],I,S,h,_=>⟨S,rfl,h⟩
 |d::ds,I,S,h,k=>by
  obtain⟨S1,S2,e1,e2,h2⟩:=k d ds S h;obtain⟨S',e,h'⟩:=v8 ds I S2 h2 k;refine⟨S',?_,h'⟩;show((bd d S).bind λS1=>(body S1).bind _)=_;rw[e1,aau,e2,aau];exact e
def uW(cap:BBJ)(q:GT)(g:GD)(d:D)(ds:List D)(S:SS)(acc:List D):cM cap q g (d::ds) S acc=(cM cap q g [d] S acc).bind λr=>cM cap q g ds r.2 r.1:=by
 simp only[cM];cases ie S cap with
 |none=>rfl
 |some us=>
  simp only[aau];split
  .cases bT S us with
   |none=>rfl
   |some ws=>
    simp only[aau];cases q (AAA d::ws.map some) with
    |none=>rfl
    |some p=>
     simp only[aau];split
     .cases g p.2 with
      |none=>rfl
      |some r=>
       simp only[aau];cases b8 (.t d::ws) r.2 with
       |none=>rfl
       |some outs=>
        simp only[aau];cases wb us outs S with
        |none=>rfl
        |some S'=>rfl
     .cases b8 (.t d::ws) p.2 with
      |none=>rfl
      |some outs=>
       simp only[aau];cases wb us outs S with
       |none=>rfl
       |some S'=>rfl
  .rfl
def AA{α:Type}{l:List α}{i:Int}{x:α}(h0:0<=i)(h:l[i.toNat]? =some x):ia l i=some x:=by
 have hl:=(aaA.mp h).1;unfold ia IT;rw[if_pos h0,if_pos (by lia)];exact h
def V8{α:Type}{l:List α}{i:Int}(h0:0<=i)(h1:i<l.length):∃x,ia l i=some x/\l[i.toNat]? =some x:=by
 have h:i.toNat<l.length:=by lia
 exact⟨l[i.toNat],AA h0 (aaz h),aaz h⟩
def oE{gA:GA}{S S':SS}{j:Int}(h:gA S=some ([.int j],S'))(h1:j<1000000)(h2:-1000000<j):gH gA S=some (vF 0 j.toNat,S'):=by
 unfold gH;rw[h];simp only[aau];rw[if_pos ⟨h1,h2⟩]
def V9(i n:Nat)(j:Int)(S:SS)(h:S[i]? =some (AAC j))(hj:j.toNat=n)(h1:j<1000000)(h2:-1000000<j):gH (aa (eF (ao i)) ak) S=some (vF 0 n,S):=by
 have e:(aa (eF (ao i)) ak) S=some ([.int j],S):=by simp[h]
 rw[oE e h1 h2,hj]
def Wa(n:Nat):(-1000000:Int)<n:=Int.lt_of_lt_of_le (by decide) (Int.natCast_nonneg n)
def Wb(i n:Nat)(S:SS)(h:S[i]? =some (AAC n))(hn:n<1000000):gH (aa (eF (ao i)) ak) S=some (vF 0 n,S):=
 V9 i n n S h (aeV n) (Int.ofNat_lt.mpr hn) (Wa n)
noncomputable abbrev fd(c i l:Int):MO:=.lst [.int c,.int i,.int l]
end Sq
end
section
namespace L2
open PySem PySem.Spec PyProof.Rows
@[simp] theorem ad3(n:Nat)(bs:PB)(ds:List D)(S:SS):C7 n bs (.tup ds) S=if ds.length=n then bs ds S else none:=rfl
@[simp] theorem abn(b:GB)(bs:PB)(d:D)(r:List D)(S:SS):mS b bs (d::r) S=(b d S).bind λS1=>bs r S1:=rfl
@[simp] theorem ad4(S:SS):EK [] S=some S:=rfl
@[simp] theorem abo(S:SS):NV S=some (.m (.fT []),S):=rfl
@[simp] theorem Wc(kvs:List (D×D))(k:D):uz (.b (.fT kvs)) k=(xj k).bind (dY kvs):=by cases k<;>rfl
@[simp] theorem Xn(kvs:List (D×D))(k d:D):uU (.fT kvs) k d=(xj k).bind λkk=>if kvs.length<10000000 then some (.fT (putD kvs kk d)) else none:=by cases k<;>rfl
@[simp] theorem ZJ(z:Str):Cb (.str z)=true:=rfl
@[simp] theorem ZK(b:Bool):Cb (.bl b)=true:=rfl
@[simp] theorem ZL(b:Int):Cb (.int b)=true:=rfl
@[simp] theorem Zr(g:GD)(lo hi:Option GD)(S:SS):NF g lo hi S=(g S).bind λp=>(mT lo p.2).bind λl=>(mT hi l.2).bind λh=>(Q2 p.1 l.1 h.1).map λu=>(u,h.2):=rfl
@[simp] theorem Xo(S:SS):mT none S=some (none,S):=rfl
@[simp] theorem Xp(g:GD)(S:SS):mT (some g) S=(g S).bind λp=>match p.1 with|.int i=>some (some i,p.2)|_=>none:=rfl
@[simp] theorem RA(ds:List D)(lo hi:BBM):Q2 (.tup ds) lo hi=AAA (.tup (cutD ds lo hi)):=rfl
@[simp] theorem RB(ds:List D)(lo hi:BBM):Q2 (.lst ds) lo hi=AAB (cutD ds lo hi):=rfl
@[simp] theorem Wd(ds:List D):ff [] (.lst ds)=some (.cD,.lst ds.reverse):=rfl
theorem comp_map{cap:BBJ}{g:GD}{S:SS}(f:D->D):∀(ds acc:List D),(∀d∈ds,∀acc,cM cap iy g [d] S acc=some (acc++[f d],S))->cM cap iy g ds S acc=some (acc++ds.map f,S)
 |[],acc,_=>by simp[cM]
 |d::ds,acc,h=>by
  rw[Sq.uW,h d aav,aau,comp_map f ds (acc++[f d]) λe he=>h e (aar _ he)];simp
end L2
end
section
namespace T9
open PySem PySem.Spec PyProof.Rows L2 Sw
variable {ws W zs r:BBB}{z:Str}{S S1:SS}{bd:D}{k j n i:Nat}{a:Int}{l c:List Bool}{A:GS}{kvs':List (D×D)}{x y w:Option U}{R:Row}{rs:List D}{T T':MO}
@[simp] theorem ad5(kvs:AAJ)(g:GD)(S:SS):Lg kvs g S=(g S).bind λp=>match p.1 with|.str z=>(gw kvs z).map λi=>(.int i,p.2)|_=>none:=rfl
@[simp] theorem ad6(n:Bool)(zs:BBB)(g:GD)(S:SS):Ai n zs g S=(g S).map λp=>(.bl (n != inD p.1 (zs.map D.str)),p.2):=rfl
def AB(a:D)(r:List D):ia (a::r) 0=some a:=by
 unfold ia IT;rw[if_pos (by decide),if_pos (by simp only[aaI];lia)];rfl
def R5(a b:D)(r:List D):ia (a::b::r) 1=some b:=by
 unfold ia IT;rw[if_pos (by decide),if_pos (by simp only[aaI];lia)];rfl
inductive Tr where
 |lf(d:D)(ws:BBB)
 |un(z:Str)(t:Tr)
 |bi(z:Str)(t u:Tr)
noncomputable def Tr.d:Tr->D
 |.lf d _=>d
 |.un z t=>.tup [.str z,t.d]
 |.bi z t u=>.tup [.str z,t.d,u.d]
noncomputable def Tr.wr:Tr->BBB
 |.lf _ ws=>ws
 |.un z t=>z::t.wr
 |.bi z t u=>z::(t.wr++u.wr)
noncomputable def Tr.sz:Tr->Nat
 |.lf _ _=>1
 |.un _ t=>t.sz+1
 |.bi _ t u=>t.sz+u.sz+1
noncomputable def Tr.dp:Tr->Nat
 |.lf _ _=>1
 |.un _ t=>t.dp+1
 |.bi _ t u=>max t.dp u.dp+1
inductive Lf:D->BBB->Prop
 |any:Lf (.tup [.str "now",.tup [.str "any"]]) ["now","any"]
 |name:Lf (.tup [.str "now",.tup [.str "name",.str "a"]]) ["now","name","a"]
 |more:Lf (.tup [.str "now",.tup [.str "more",.int 0]]) ["now","more","0"]
 |yes:Lf (.tup [.str "yes"]) ["yes"]
inductive On:Str->Prop
 |a:On "not"
 |b:On "next"
 |c:On "always"
 |d:On "some"
inductive Tw:Str->Prop
 |a:Tw "both"
 |b:Tw "either"
 |c:Tw "till"
inductive Tr.Ok:Tr->Prop
 |lf{d:D}{ws:BBB}(h:Lf d ws):(Tr.lf d ws).Ok
 |un{z:Str}{t:Tr}(hz:On z)(h:t.Ok):(Tr.un z t).Ok
 |bi{z:Str}{t u:Tr}(hz:Tw z)(h:t.Ok)(k:u.Ok):(Tr.bi z t u).Ok
def HV:GS:=
 (aW (fH (nu (qx (qB (Vd ["int"] (eF (ao 0))))) (qB (Vd ["bool"] (eF (ao 0))))) (bK (eT (eC (.bl false)))) b7)
 (bK (eT (eQ (qy (qB (eF (eP KS (aa (eF (ao 1)) (aa (eF (ao 0)) ak))))) (qB (eF (eP KS (aa (eF (ao 0)) (aa (eF (ao 2)) ak))))))))))
def HW:GS:=
 (bK (eT (eQ (qy (qB (Vd ["tuple"] (eF (ao 0)))) (qy (qB (eF (eP KS (aa (eF (ao 1)) (aa (lE 0) ak))))) (qB (eF (eP KS (aa (lE 0) (aa (eF (ao 2)) ak))))))))))
def LB:GS:=
 (aW (fH (nu (qx (qB (Vd ["str"] (eF (ao 0))))) (nu (qB (eF (eP QF (aa (lE 0) (aa (eC (.int 1)) ak))))) (qB (eF (eP Tn (aa (lE 0) (aa (eC (.int 8)) ak))))))) (bK (eT (eC (.bl false)))) b7)
 (bK (eP Nz (aa (eF (iP [] (nv (eF (ao 0))) iy (eF (eP Gx (aa (eF (ao 0)) (aa (eC (.str "abcdefghijklmnopqrstuvwxyz")) ak)))))) ak))))
def yX(jJ iR xC:FM):GS:=
 (aW (fH (qx (qB (eF (aO jJ (aQ (eF (ao 0)) (aQ (eC (.int 1)) (aQ (eC (.int 2)) aY))))))) (bK (eT (eC (.bl false)))) b7)
 (aW (fH (qB (eF (eP lD (aa (lE 0) (aa (eC (.int 1)) ak))))) (bK (eP lD (aa (b9 0 (eC (.int 0))) (aa (eC (.str "any")) ak)))) b7)
 (aW (fH (qB (eF (eP lD (aa (b9 0 (eC (.int 0))) (aa (eC (.str "name")) ak))))) (bK (aO iR (aQ (b9 0 (eC (.int 1))) aY))) b7)
 (bK (eT (eQ (qy (qB (eF (eP Gx (aa (b9 0 (eC (.int 0))) (aa (eF (eP cK (aa (eC (.str "less")) (aa (eC (.str "same")) (aa (eC (.str "more")) ak))))) ak))))) (qB (eQ (nu (qB (eF (aO xC (aQ (b9 0 (eC (.int 1))) (aQ (eC (.int 0)) (aQ (eC (.int 9)) aY)))))) (qB (eF (eP Gx (aa (b9 0 (eC (.int 1))) (aa (eF (ao 1)) ak)))))))))))))))
def FD(jJ AD iR:FM):GS:=
 (aW (fH (nu (qx (qB (eF (aO jJ (aQ (eF (ao 0)) (aQ (eC (.int 1)) (aQ (eC (.int 4)) aY))))))) (qx (qB (Vd ["str"] (b9 0 (eC (.int 0))))))) (bK (eT (eC (.bl false)))) b7)
 (aW (bX 2 (eT (b9 0 (eC (.int 0)))))
 (aW (fH (qB (eF (eP BG (aa (Jt [("yes",1),("no",1),("now",2),("not",2),("both",3),("either",3),("next",2),("till",3),("within",3),("always",2),("some",2),("each",4),("one",4)] (eF (ao 2)) (eC (.int 0))) (aa (lE 0) ak))))) (bK (eT (eC (.bl false)))) b7)
 (aW (fH (qB (eF (eP lD (aa (eF (ao 2)) (aa (eC (.str "now")) ak))))) (bK (aO AD (aQ (b9 0 (eC (.int 1))) (aQ (eF (ao 1)) aY)))) b7)
 (aW (fH (qB (eF (eP lD (aa (eF (ao 2)) (aa (eC (.str "within")) ak))))) wN b7)
 (aW (fH (qB (Ai false ["each","one"] (eF (ao 2)))) (bK (eT (eQ (qy (qB (eF (aO iR (aQ (b9 0 (eC (.int 1))) aY)))) (qB (eF (aO iR (aQ (b9 0 (eC (.int 2))) aY)))))))) b7)
 (bK (eT (eC (.bl true))))))))))
def AE:GS:=
 (aW (fH (qB (Ai false ["each","one"] (b9 0 (eC (.int 0))))) (bK (eP dg (aa (eF (ao 1)) (aa (eF (eP cK (aa (b9 0 (eC (.int 2))) ak))) ak)))) b7)
 (bK (ao 1)))
def HX:GS:=
 (bK (NF (eF (ao 0)) (some (Lg [("yes",1),("no",1),("now",2),("not",1),("both",1),("either",1),("next",1),("till",1),("within",2),("always",1),("some",1),("each",3),("one",3)] (b9 0 (eC (.int 0))))) none))
def gM(HY cF fj uX:FM):GS:=
 (aW (fH (nu (qB (eF (eP lD (aa (eF (ao 2)) (aa (eC (.int 0)) ak))))) (qx (qB (eF (aO HY (aQ (eF (ao 0)) (aQ (eF (ao 1)) aY))))))) (bK (eT (eC (.bl false)))) b7)
 (aW (bX 3 (aO cF (aQ (eF (ao 0)) (aQ (eF (ao 1)) aY))))
 (bK (eP Nz (aa (eF (iP [3,2] (nv (eF (aO fj (aQ (eF (ao 0)) aY)))) iy (eF (aO uX (aQ (eF (ao 0)) (aQ (eF (ao 1)) (aQ (eF (eP uo (aa (eF (ao 2)) (aa (eC (.int 1)) ak)))) aY))))))) ak)))))
def Dq:FM:=bz 3 HV
def AF:FM:=bz 3 HW
def AG:FM:=bz 1 LB
def TY:FM:=bz 2 (yX AF AG Dq)
def tY:FM:=bz 3 (FD AF TY AG)
def nB:FM:=bz 2 AE
def iF:FM:=bz 1 HX
def CF:Nat->FM
 |0=>λ_=>none
 |j+1=>bz 4 (gM tY nB iF (CF j))
structure Nd(d:D)(pl:List D):Prop where
 sh:tY [.t d,.t (.tup [])]=some (.t (.bl true),[])
 bw:nB [.t d,.t (.tup [])]=some (.t (.tup []),[])
 pa:iF [.t d]=some (.t (.tup pl),[])
def Lf.nd{d:D}(h:Lf d ws):Nd d []:=by cases h<;>exact⟨by kernel_rfl,by kernel_rfl,by kernel_rfl⟩
def On.nd(h:On z)(p:D):Nd (.tup [.str z,p]) [p]:=by cases h<;>exact⟨by kernel_rfl,by kernel_rfl,by kernel_rfl⟩
def Tw.nd(h:Tw z)(p q:D):Nd (.tup [.str z,p,q]) [p,q]:=by cases h<;>exact⟨by kernel_rfl,by kernel_rfl,by kernel_rfl⟩
def HZ(j:Nat)(d b:D):CF (j+1) [.t d,.t b,.t (.int (0:Nat))]=some (.t (.bl false),[]):=by kernel_rfl
section
variable {f4:FM}{d p q:D}{m:Int}{b c:Bool}
def We(m0:m≠0)(h:Nd d []):bz 4 (gM tY nB iF f4) [.t d,.t (.tup []),.t (.int m)]=some (.t (.bl true),[]):=by
 have e1:=h.sh;have e2:=h.bw;have e3:=h.pa;simp[bz,gM,m0,e1,e2,iE,e3,cM,pF]
def Wf(m0:m≠0)(h:Nd d [p])(e4:f4 [.t p,.t (.tup []),.t (.int (m-1))]=some (.t (.bl b),[])):bz 4 (gM tY nB iF f4) [.t d,.t (.tup []),.t (.int m)]=some (.t (.bl b),[]):=by
 have e1:=h.sh;have e2:=h.bw;have e3:=h.pa;simp[bz,gM,m0,e1,e2,iE,e3,cM,ie,uS,e4,pF]
def Wg(m0:m≠0)(h:Nd d [p,q])(e4:f4 [.t p,.t (.tup []),.t (.int (m-1))]=some (.t (.bl b),[]))(e5:f4 [.t q,.t (.tup []),.t (.int (m-1))]=some (.t (.bl c),[])):bz 4 (gM tY nB iF f4) [.t d,.t (.tup []),.t (.int m)]=some (.t (.bl (b && c)),[]):=by
 have e1:=h.sh;have e2:=h.bw;have e3:=h.pa;simp[bz,gM,m0,e1,e2,iE,e3,cM,ie,uS,e4,e5,pF]
end
def Xq(n:Nat):((n+1:Nat):Int)≠0/\((n+1:Nat):Int)-1=n:=by lia
def Tr.Ok.form{t:Tr}(h:t.Ok):∀{n j:Nat},n<=j->CF (j+1) [.t t.d,.t (.tup []),.t (.int (n:Int))]=some (.t (.bl (decide (t.dp<=n))),[]):=by
 induction h with
 |@lf d ws h=>
  intro n j hj;cases n with
  |zero=>exact HZ _ _ _
  |succ n=>rw[acY (show(Tr.lf d ws).dp<=n+1 from Nat.le_add_left 1 n)];exact We (Xq n).1 h.nd
 |@un z t hz _ ih=>
  intro n j hj;cases n with
  |zero=>exact HZ _ _ _
  |succ n=>
   cases j with
   |zero=>cases hj
   |succ j=>rw[show decide ((Tr.un z t).dp<=n+1)=decide (t.dp<=n) from decide_eq_decide.mpr Nat.succ_le_succ_iff];exact Wf (Xq n).1 (hz.nd _) (by rw[(Xq n).2];exact ih (abr hj))
 |@bi z t u hz _ _ i1 i2=>
  intro n j hj;cases n with
  |zero=>exact HZ _ _ _
  |succ n=>
   cases j with
   |zero=>cases hj
   |succ j=>
    have hj:=abr hj;rw[show decide ((Tr.bi z t u).dp<=n+1)=(decide (t.dp<=n) && decide (u.dp<=n)) by rw[<-Bool.decide_and];exact decide_eq_decide.mpr (by show max t.dp u.dp+1<=n+1↔_;lia)];exact Wg (Xq n).1 (hz.nd _ _) (by rw[(Xq n).2];exact i1 hj) (by rw[(Xq n).2];exact i2 hj)
def xD(fj pM:FM):GS:=
 (kq (eT (eM 1 ir (aa (eF (aO pM (aQ (eF (ao 2)) aY))) ak))))
def lW(fj pM:FM):GS:=
 (aW (bX 1 (eP kj (aa (eF (ao 0)) ak)))
 (aW (qz (bName 2) (nv (eF (aO fj (aQ (eF (ao 0)) aY)))) (xD fj pM))
 (bK (ao 1))))
def OH(pM:FM):GS:=
 (bK (eP C6 (aa (eF (aO pM (aQ (eF (ao 0)) aY))) ak)))
def v9(pM:FM):GS:=
 (bK (eP C6 (aa (eF (iP [] (nv (eF (aO pM (aQ (eF (ao 0)) aY)))) (qB (Ai false ["each","one"] (b9 0 (eC (.int 0))))) (eF (ao 0)))) ak)))
def mY(uX bV FE:FM):GS:=
 (aW (fH (qx (qB (eF (aO uX (aQ (eF (ao 0)) (aQ (eF (eP cK ak)) (aQ (eC (.int 8)) aY))))))) (bK (eT (eC (.bl false)))) b7)
 (bK (eT (eQ (qy (qB (eF (eP KS (aa (eF (aO bV (aQ (eF (ao 0)) aY))) (aa (eC (.int 16)) ak))))) (qB (eF (eP KS (aa (eF (aO FE (aQ (eF (ao 0)) aY))) (aa (eC (.int 3)) ak))))))))))
def OI:Nat->FM
 |0=>λ_=>none
 |j+1=>bz 3 (lW iF (OI j))
def AH:FM:=bz 1 (OH (OI 9))
def JP:FM:=bz 1 (v9 (OI 9))
def kP:FM:=bz 1 (mY (CF 9) AH JP)
noncomputable def Tr.al:Tr->List D
 |.lf d _=>[d]
 |.un z t=>(Tr.un z t).d::t.al
 |.bi z t u=>(Tr.bi z t u).d::(t.al++u.al)
def Tr.OJ(t:Tr):1<=t.sz:=by cases t<;>simp[Tr.sz]
def Tr.AI(t:Tr):t.al.length=t.sz:=by
 induction t with
 |lf _ _=>rfl
 |un z t ih=>show t.al.length+1=_;rw[ih];rfl
 |bi z t u i1 i2=>show(t.al++u.al).length+1=_;rw[aaG,i1,i2];rfl
section
variable {f:FM}{d p q:D}{A B:List D}
def ZM(h:Nd d []):bz 3 (lW iF f) [.t d]=some (.m (.lst [d]),[]):=by
 have e:=h.pa;simp[bz,lW,iE,e,loop]
def ZN(h:Nd d [p])(e1:f [.t p]=some (.m (.lst A),[]))(hl:A.length<=100):bz 3 (lW iF f) [.t d]=some (.m (.lst (d::A)),[]):=by
 have e:=h.pa;have l:1+A.length<=100000:=by lia
 simp[bz,lW,xD,iE,e,loop,e1,l]
def ZO(h:Nd d [p,q])(e1:f [.t p]=some (.m (.lst A),[]))(e2:f [.t q]=some (.m (.lst B),[]))(hl:A.length+B.length<=100):bz 3 (lW iF f) [.t d]=some (.m (.lst (d::(A++B))),[]):=by
 have e:=h.pa;have l:1+A.length<=100000:=by lia
 have l2:A.length+1+B.length<=100000:=by lia
 simp[bz,lW,xD,iE,e,loop,e1,e2,l,l2]
end
def Tr.Ok.all{t:Tr}(h:t.Ok):∀{j:Nat},t.dp<=j->t.sz<=100->OI j [.t t.d]=some (.m (.lst t.al),[]):=by
 induction h with
 |lf h=>
  intro j hj _;cases j with
  |zero=>cases hj
  |succ j=>exact ZM h.nd
 |@un z t hz _ ih=>
  intro j hj hs;have hs:t.sz+1<=100:=hs;cases j with
  |zero=>cases hj
  |succ j=>exact ZN (hz.nd _) (ih (abr hj) (by lia)) (by rw[t.AI];lia)
 |@bi z t u hz _ _ i1 i2=>
  intro j hj hs;have hs:t.sz+u.sz+1<=100:=hs;cases j with
  |zero=>cases hj
  |succ j=>
   have hj:max t.dp u.dp<=j:=abr hj;exact ZO (hz.nd _ _) (i1 (by lia) (by lia)) (i2 (by lia) (by lia)) (by rw[t.AI,u.AI];lia)
inductive Nb:D->Prop
 |mk{z:Str}{r:List D}(h:inD (.str z) [.str "each",.str "one"]=false):Nb (.tup (.str z::r))
def Tr.Ok.nb{t:Tr}(h:t.Ok):∀x∈t.al,Nb x:=by
 induction h with
 |lf h=>intro x hx;cases aaK.mp hx;cases h<;>exact⟨by kernel_rfl⟩
 |un hz _ ih=>
  intro x hx;rcases aat.mp hx with rfl|hx
  .cases hz<;>exact⟨by kernel_rfl⟩
  .exact ih x hx
 |bi hz _ _ i1 i2=>
  intro x hx;rcases aat.mp hx with rfl|hx
  .cases hz<;>exact⟨by kernel_rfl⟩
  .rcases aev.mp hx with hx|hx
   .exact i1 x hx
   .exact i2 x hx
def R6{A:List D}(h:∀x∈A,Nb x):cM [] (qB (Ai false ["each","one"] (b9 0 (eC (.int 0))))) (eF (ao 0)) A S []=some ([],S):=by
 have:=Dr (cap:=[]) (q:=qB (Ai false ["each","one"] (b9 0 (eC (.int 0))))) (g:=eF (ao 0)) (S:=S) (ts:=[]) rfl (λ_=>false) (λd=>d) A [] (λx hx=>by obtain⟨e⟩:=h x hx;simp[AB,e]) (λ_ _ h=>by cases h);rw[this,List.filter_eq_nil_iff.mpr (λ_ _ h=>by cases h)];rfl
def Tr.Ok.size{t:Tr}(h:t.Ok)(hd:t.dp<=9)(hs:t.sz<=100):AH [.t t.d]=some (.t (.int (t.sz:Int)),[]):=by
 have e:=h.all hd hs;have l:=t.AI;simp[AH,bz,OH,e,l]
def Tr.Ok.say{t:Tr}(h:t.Ok)(hd:t.dp<=9)(hs:t.sz<=100):kP [.t t.d]=some (.t (.bl (decide (t.dp<=8) && decide (t.sz<=16))),[]):=by
 have e1:CF 9 [.t t.d,.t (.tup []),.t (.int 8)]=_:=h.form (n:=8) (aaq _);have e2:=h.size hd hs;have e3:JP [.t t.d]=some (.t (.int 0),[]):=by
  have e:=h.all hd hs;have c:=R6 (S:=[AAA t.d]) h.nb;have l:t.al.length<=100000:=by rw[t.AI];lia
  simp[JP,bz,v9,e,iE,c,l]
 by_cases a:t.dp<=8
 .by_cases b:t.sz<=16
  .have b':(t.sz:Int)<=16:=by lia
   simp[kP,bz,mY,e1,e2,e3,a,b,b']
  .have b':¬(t.sz:Int)<=16:=by lia
   simp[kP,bz,mY,e1,e2,a,b,b']
 .simp[kP,bz,mY,e1,a]
def rm(fj oF:FM):GS:=
 (kq (eT (eM 3 ir (aa (eF (aO oF (aQ (eF (ao 4)) aY))) ak))))
def lX(fj oF:FM):GS:=
 (aW (bX 1 (aO fj (aQ (eF (ao 0)) aY)))
 (aW (bX 2 (eIf (qB (eF (eP lD (aa (b9 0 (eC (.int 0))) (aa (eC (.str "now")) ak))))) (eT (b9 0 (eC (.int 1)))) (NF (eF (ao 0)) (some (eC (.int 1))) (some (eF (eP uo (aa (lE 0) (aa (lE 1) ak))))))))
 (aW (bX 3 (eP dg (aa (eF (eP kj (aa (b9 0 (eC (.int 0))) ak))) (aa (eF (iP [] (nv (eF (ao 2))) iy (eF (eP Jv (aa (eF (ao 0)) ak))))) ak))))
 (aW (qz (bName 4) (nv (eF (ao 1))) (rm fj oF))
 (bK (ao 3))))))
def Dz:Nat->FM
 |0=>λ_=>none
 |j+1=>bz 5 (lX iF (Dz j))
noncomputable def sL(ws:BBB):List D:=ws.map D.str
def AJ(a:BBB):(sL a).length=a.length:=aaw ..
def On.now{z:Str}(h:On z):z≠"now":=by cases h<;>decide
def Tw.now{z:Str}(h:Tw z):z≠"now":=by cases h<;>decide
section
variable {f:FM}{z:Str}{p q:D}{V W:List D}
def ad7(hz:z≠"now")(h:Nd (.tup [.str z,p]) [p])(e2:f [.t p]=some (.m (.lst W),[]))(hl:W.length<=1000):bz 5 (lX iF f) [.t (.tup [.str z,p])]=some (.m (.lst (.str z::W)),[]):=by
 have e1:=h.pa;have c:L2.cutD [D.str z,p] (some 1) (some 1)=[]:=rfl;have l:1+W.length<=100000:=by lia
 simp[bz,lX,rm,e1,hz,iE,cM,loop,ie,AB,c,e2,l]
def ad8(hz:z≠"now")(h:Nd (.tup [.str z,p,q]) [p,q])(e2:f [.t p]=some (.m (.lst W),[]))(e3:f [.t q]=some (.m (.lst V),[]))(hl:W.length+V.length<=1000):bz 5 (lX iF f) [.t (.tup [.str z,p,q])]=some (.m (.lst (.str z::(W++V))),[]):=by
 have e1:=h.pa;have c:L2.cutD [D.str z,p,q] (some 1) (some 1)=[]:=rfl;have l:1+W.length<=100000:=by lia
 have l2:W.length+1+V.length<=100000:=by lia
 simp[bz,lX,rm,e1,hz,iE,cM,loop,ie,AB,c,e2,e3,l,l2]
end
def Tr.Ok.len{t:Tr}(h:t.Ok):t.wr.length<=3*t.sz:=by
 induction h with
 |lf h=>cases h<;>decide
 |@un z t _ _ ih=>show t.wr.length+1<=3*(t.sz+1);lia
 |@bi z t u _ _ _ i1 i2=>show(t.wr++u.wr).length+1<=3*(t.sz+u.sz+1);rw[aaG];lia
def Tr.Ok.words{t:Tr}(h:t.Ok):∀{j:Nat},t.dp<=j->t.sz<=100->Dz j [.t t.d]=some (.m (.lst (sL t.wr)),[]):=by
 induction h with
 |lf h=>
  intro j hj _;cases j with
  |zero=>cases hj
  |succ j=>cases h<;>kernel_rfl
 |@un z t hz h ih=>
  intro j hj hs;have hs:t.sz+1<=100:=hs;have l:=h.len;cases j with
  |zero=>cases hj
  |succ j=>exact ad7 hz.now (hz.nd _) (ih (abr hj) (by lia)) (by rw[aaw];lia)
 |@bi z t u hz h k i1 i2=>
  intro j hj hs;have hs:t.sz+u.sz+1<=100:=hs;have l:=h.len;have m:=k.len;cases j with
  |zero=>cases hj
  |succ j=>
   have hj:max t.dp u.dp<=j:=abr hj;have:=ad8 hz.now (hz.nd t.d u.d) (i1 (j:=j) (by lia) (by lia)) (i2 (by lia) (by lia)) (by rw[AJ,AJ];lia);rw[show sL (Tr.bi z t u).wr= .str z::(sL t.wr++sL u.wr) by show D.str z::(t.wr++u.wr).map D.str=_;rw[afB];rfl];exact this
theorem OL{c:Nat}:∀{a b r s:BBJ},c∉a->c∉b->a++c::r=b++c::s->a=b/\r=s
 |[],[],r,s,_,_,h=>by cases h;exact⟨rfl,rfl⟩
 |[],y::b,r,s,_,hb,h=>by cases h;exact absurd aav hb
 |x::a,[],r,s,ha,_,h=>by cases h;exact absurd aav ha
 |x::a,y::b,r,s,ha,hb,h=>by
  injection h with h1 h2
  obtain⟨e1,e2⟩:=OL (λm=>ha (aar _ m)) (λm=>hb (aar _ m)) h2;rw[h1,e1];exact⟨rfl,e2⟩
def rq(c:Nat)(a b:Str)(r:BBB):(Str.join ⟨#[c]⟩ (a::b::r)).cps.toList=a.cps.toList++c::(Str.join ⟨#[c]⟩ (b::r)).cps.toList:=by
 show(a++⟨#[c]⟩++Str.join ⟨#[c]⟩ (b::r)).cps.toList=_;simp only[Str.cps_append,Array.toList_append];simp
theorem FF{c:Nat}:∀{as bs:BBB},as≠[]->bs≠[]->(∀p∈as,c∉p.cps.toList)->(∀p∈bs,c∉p.cps.toList)->Str.join ⟨#[c]⟩ as=Str.join ⟨#[c]⟩ bs->as=bs
 |[],_,h,_,_,_,_=>absurd rfl h
 |_,[],_,h,_,_,_=>absurd rfl h
 |[a],[b],_,_,_,_,h=>by rw[show a=b from h]
 |[a],b::b2::r,_,_,ha,hb,h=>by
  have e:=congrArg (λz:Str=>z.cps.toList) h;rw[rq]at e;refine absurd ?_ (ha a aav);rw[show a.cps.toList=_ from e];exact aay _ aav
 |a::a2::r,[b],_,_,ha,hb,h=>by
  have e:=congrArg (λz:Str=>z.cps.toList) h;rw[rq]at e;refine absurd ?_ (hb b aav);rw[show b.cps.toList=_ from e.symm];exact aay _ aav
 |a::a2::r,b::b2::s,_,_,ha,hb,h=>by
  have e:=congrArg (λz:Str=>z.cps.toList) h;rw[rq,rq]at e;obtain⟨e1,e2⟩:=OL (ha a aav) (hb b aav) e;have q:Str.join ⟨#[c]⟩ (a2::r)=Str.join ⟨#[c]⟩ (b2::s):=Str.ext' (agG.mp e2);have ab:a=b:=Str.ext' (agG.mp e1);rw[ab,FF (agH _ _) (agH _ _) (λp hp=>ha p (aar _ hp)) (λp hp=>hb p (aar _ hp)) q]
noncomputable def txt(W:BBB):Str:=Txt.join " " W
def DA(W:BBB):txt W=Str.join ⟨#[32]⟩ W:=StrLaws.glued_eq_join _ _
structure Wk(z:Str):Prop where
 len:z.length<=8
 fr:32∉z.cps.toList
def LC(h0:ws≠[])(h:∀p∈ws,Wk p):Txt.split (txt ws) " " =ws:=by
 have e:(" ":Str)=⟨#[32]⟩:=rfl;rw[e,DA];refine FF (λz=>?_) h0 (StrLaws.split_free _ 32) (λp hp=>(h p hp).fr) (StrLaws.join_split _ _);have:=PyProof.Rows.split_pos (Str.join ⟨#[32]⟩ ws) ⟨#[32]⟩;rw[z]at this;exact absurd this (by decide)
theorem JQ:∀W:BBB,qX (sL W)=some W
 |[]=>rfl
 |z::W=>by show(qX (sL W)).map _=_;rw[JQ W];rfl
theorem Wh:∀{W:BBB},(∀z∈W,Wk z)->(W.map (·.length)).sum<=8*W.length
 |[],_=>aaq _
 |z::W,h=>by
  have:=Wh λq hq=>h q (aar _ hq);have:=(h z aav).len;simp only[abR,List.sum_cons,aaI];lia
def DB(h:∀z∈W,Wk z):(txt W).length<=9*W.length:=by
 have a:=StrLaws.join_length_le (⟨#[32]⟩:Str) W;have b:=Wh h;have c:(⟨#[32]⟩:Str).length=1:=rfl;rw[DA];rw[c]at a;lia
def AK(h:∀z∈W,Wk z)(hl:W.length<=2048):ow [.str " ",.lst (sL W)]=AAA (.str (txt W)):=by
 show((qX (sL W)).bind λzs=>if JoinOk " " zs=true then some (U.t (.str (Txt.join " " zs))) else none)=_;have:=Wh h;rw[JQ,aau,if_pos (joinOk_of_weight (by lia) (by decide))];rfl
def LD(h0:W≠[])(h:∀z∈W,Wk z)(hl:W.length<=2048):iZ [.str (txt W),.str " "]=AAB (sL W):=by
 have e:=LC h0 h;have l1:=DB h;show(if _ then some (U.m (.lst ((Txt.split (txt W) " ").map D.str))) else none)=_;rw[if_pos ⟨by decide,by lia,by rw[e];lia⟩,e];rfl
def FG(z w:Str)(ws:BBB):txt (z::w::ws)=z++" " ++txt (w::ws):=by
 rw[DA,DA];refine Str.ext' (agG.mp ?_);rw[rq];show _=(z.cps++#[32]++(Str.join ⟨#[32]⟩ (w::ws)).cps).toList;simp
def Wi(h:(zs.all λz=>decide (z.length<=8) && decide (32∉z.cps.toList))=true):∀z∈zs,Wk z:=λz hz=>by
 have:=afk.mp h z hz;simp only[acf,aeW]at this;exact⟨this.1,this.2⟩
def On.wk(h:On z):Wk z:=by cases h<;>exact⟨by decide +kernel,by decide +kernel⟩
def Tw.wk(h:Tw z):Wk z:=by cases h<;>exact⟨by decide +kernel,by decide +kernel⟩
def Tr.Ok.wk{t:Tr}(h:t.Ok):∀z∈t.wr,Wk z:=by
 induction h with
 |lf h=>cases h<;>exact Wi (by decide +kernel)
 |un hz _ ih=>intro x hx;rcases aat.mp hx with rfl|hx;exact hz.wk;exact ih x hx
 |bi hz _ _ i1 i2=>intro x hx;rcases aat.mp hx with rfl|hx;exact hz.wk;rcases aev.mp hx with hx|hx;exact i1 x hx;exact i2 x hx
def Tr.Ok.ne{t:Tr}(h:t.Ok):∃z r,t.wr=z::r:=by
 cases h with
 |lf h=>cases h<;>exact⟨_,_,rfl⟩
 |un _ _=>exact⟨_,_,rfl⟩
 |bi _ _ _=>exact⟨_,_,rfl⟩
def JR(oF:FM):GS:=
 (bK (eP ow (aa (eC (.str " ")) (aa (eF (aO oF (aQ (eF (ao 0)) aY))) ak))))
def nC:FM:=bz 1 (JR (Dz 9))
def Tr.Ok.shown{t:Tr}(h:t.Ok)(hd:t.dp<=9)(hs:t.sz<=100):nC [.t t.d]=some (.t (.str (txt t.wr)),[]):=by
 have l:=h.len;have e1:=h.words hd hs;have e2:=AK h.wk (by lia);simp[nC,bz,JR,e1,e2]
noncomputable def chain:BBB->Tr->Tr
 |[],t=>t
 |z::zs,t=>.un z (chain zs t)
def wc(h:∀z∈zs,On z){t:Tr}(ht:t.Ok):(chain zs t).Ok:=by
 induction zs with
 |nil=>exact ht
 |cons z zs ih=>exact .un (h z aav) (ih λx hx=>h x (aar _ hx))
def rA(zs:BBB)(t:Tr):(chain zs t).dp=zs.length+t.dp/\(chain zs t).sz=zs.length+t.sz:=by
 induction zs with
 |nil=>exact⟨(agd _).symm,(agd _).symm⟩
 |cons z zs ih=>show(chain zs t).dp+1=_/\(chain zs t).sz+1=_;rw[ih.1,ih.2,aaI];lia
def we(fj bG:FM):GS:=
 (bK (eP dg (aa (eC (.int 1)) (aa (eF (eP (FA 0) (aa (eF (iP [] (nv (eF (aO fj (aQ (eF (ao 0)) aY)))) iy (eF (aO bG (aQ (eF (ao 0)) aY))))) ak))) ak))))
def xE:Nat->FM
 |0=>λ_=>none
 |j+1=>bz 1 (we iF (xE j))
section
variable {f2:FM}{d p:D}{i:Int}
def ad9(h:Nd d []):bz 1 (we iF f2) [.t d]=some (.t (.int 1),[]):=by
 have e1:=h.pa;simp[bz,we,e1,iE,cM,FA,ou]
def aea(h:Nd d [p])(e2:f2 [.t p]=some (.t (.int i),[])):bz 1 (we iF f2) [.t d]=some (.t (.int (1+i)),[]):=by
 have e1:=h.pa;simp[bz,we,e1,e2,iE,cM,ie,FA,ou,uq]
end
theorem FH{d:D}{ws:BBB}(h:Lf d ws):∀{zs:BBB},(∀z∈zs,On z)->∀{j:Nat},zs.length+1<=j->xE j [.t (chain zs (.lf d ws)).d]=some (.t (.int ((zs.length:Int)+1)),[])
 |[],_,j,hj=>by
  cases j with
  |zero=>cases hj
  |succ j=>exact ad9 h.nd
 |z::zs,hz,j,hj=>by
  cases j with
  |zero=>cases hj
  |succ j=>
   have:=aea ((hz z aav).nd _) (FH h (zs:=zs) (λx hx=>hz x (aar _ hx)) (j:=j) (abr hj));rw[aaI,show(((zs.length+1:Nat):Int)+1)=1+((zs.length:Int)+1) by lia];exact this
structure Gd(d:D)(n k:Nat):Prop where
 s:Sane d
 w:wD d<=n
 p:lU d<=k
def OM(h:Wk z)(h2:(z.cps.toList.all λc=>decide (c<16 ^ 8))=true):Gd (.str z) 82 0:=⟨λc hc=>afO (afk.mp h2 c hc),by show 10*z.length+2<=82;have:=h.len;lia,aaq _⟩
def On.gd(h:On z):Gd (.str z) 82 0:=OM h.wk (by cases h<;>decide +kernel)
def Tw.gd(h:Tw z):Gd (.str z) 82 0:=OM h.wk (by cases h<;>decide +kernel)
def LF(z:Str)(h:(z.cps.toList.all λc=>decide (c<16 ^ 8))=true):Sane (.str z):=λc hc=>afO (afk.mp h c hc)
def Tr.Ok.gd{t:Tr}(h:t.Ok):Gd t.d (200*t.sz) (t.dp+1):=by
 induction h with
 |lf h=>
  have s3:=LF "now" (by decide +kernel);cases h with
  |any=>exact⟨⟨s3,⟨LF "any" (by decide +kernel),trivial⟩,trivial⟩,by decide,by decide⟩
  |name=>exact⟨⟨s3,⟨LF "name" (by decide +kernel),LF "a" (by decide +kernel),trivial⟩,trivial⟩,by decide,by decide⟩
  |more=>exact⟨⟨s3,⟨LF "more" (by decide +kernel),(by decide:(0:Int).natAbs<10 ^ 30),trivial⟩,trivial⟩,by decide,by decide⟩
  |yes=>exact⟨⟨LF "yes" (by decide +kernel),trivial⟩,by decide,by decide⟩
 |@un z t hz _ ih=>
  have a:=hz.gd.w;have b:=ih.w;have c:=hz.gd.p;have d:=ih.p;exact⟨⟨hz.gd.s,ih.s,trivial⟩,by show wD (.str z)+2+(wD t.d+2+0)+4<=200*(t.sz+1);lia,by show max (lU (.str z)) (max (lU t.d) 0)+1<=t.dp+1+1;lia⟩
 |@bi z t u hz _ _ i1 i2=>
  have a:=hz.gd.w;have b:=i1.w;have b2:=i2.w;have c:=hz.gd.p;have d:=i1.p;have d2:=i2.p;exact⟨⟨hz.gd.s,i1.s,i2.s,trivial⟩,by show wD (.str z)+2+(wD t.d+2+(wD u.d+2+0))+4<=200*(t.sz+u.sz+1);lia,by show max (lU (.str z)) (max (lU t.d) (max (lU u.d) 0))+1<=max t.dp u.dp+1+1;lia⟩
def Tr.Ok.K5{t:Tr}(h:t.Ok)(hd:t.dp<=9)(hs:t.sz<=100):L2.K5 t.d:=VO h.gd.s (by have:=h.gd.w;lia) (by have:=h.gd.p;lia)
section
variable (S:SS)(g:GS)(ge:GE)(gd:GD)(ga gb:GX)(q:GT)(gA:GA)(C:Addr)(ns:BBB)(i:Nat)(gu:GU)(fx:FX)
@[simp] theorem afs:JJ g gb S=match g S with|some (.nx S1)=>gb S1|_=>none:=rfl
@[simp] theorem aeb:Lr ga g gb S=match ga S with|some r=>some r|none=>(match g S with|some (.nx S1)=>gb S1|_=>none):=rfl
@[simp] theorem aft:ZD q ga gb S=(q S).bind λp=>if p.1 then ga p.2 else gb p.2:=rfl
@[simp] theorem afu:xAn gd gb S=(gd S).bind λp=>gb p.2:=rfl
@[simp] theorem ZP:Ay C ns gA S=(gA S).bind λp=>if p.1.length=ns.length then some ((C,ns.zip p.1),p.2) else none:=rfl
@[simp] theorem abp:yD fx gu S=(gu S).bind λp=>if(slotsOf p.1).Nodup/\cu p.1<=1 then(bT p.2 p.1).bind λus=>(fx us).bind λr=>(wb p.1 r.2 p.2).map λS2=>(r.1,S2) else none:=rfl
@[simp] theorem abq:Al i gu S=(gu S).map λp=>(.v i::p.1,p.2):=rfl
@[simp] theorem afv:wN S=none:=rfl
end
noncomputable abbrev RC:Addr:=308
noncomputable abbrev NT:Addr:=175
section
variable {L:BBB}{k:Nat}{s b a:Int}{w:Str}{S:SS}{m:Str}{f:FM}{fx:FX}{gu:GU}
def Mn(L:BBB)(k:Nat)(s b:Int):List (Str×D):=[("words",.lst (sL L)),("at",.int k),("sayings",.int s),("binders",.int b)]
def rd(L:BBB)(k:Nat)(s b:Int):MO:=.ins RC (Mn L k s b)
@[simp] theorem ahj:pH RC 0 "at" (some (.b (rd L k s b))::S)=some (.int k,some (.b (rd L k s b))::S):=rfl
@[simp] theorem ahk:pH RC 0 "words" (some (.b (rd L k s b))::S)=some (.lst (sL L),some (.b (rd L k s b))::S):=rfl
@[simp] theorem f_s:pH RC 0 "sayings" (some (.b (rd L k s b))::S)=some (.int s,some (.b (rd L k s b))::S):=rfl
@[simp] theorem f_b:pH RC 0 "binders" (some (.b (rd L k s b))::S)=some (.int b,some (.b (rd L k s b))::S):=rfl
@[simp] theorem ahl:yx (λi j=>i+j) RC 0 "at" (eC (.int 1)) (some (.b (rd L k s b))::S)=some (.nx (some (.b (rd L (k+1) s b))::S)):=rfl
@[simp] theorem a_s:yx (λi j=>i+j) RC 0 "sayings" (eC (.int 1)) (some (.b (rd L k s b))::S)=some (.nx (some (.b (rd L k (s+1) b))::S)):=rfl
@[simp] theorem ahm:fh RC m 0 f gu (some (.b (rd L k s b))::S)=if(Mn L k s b).lookup m=none then aO f (Al 0 gu) (some (.b (rd L k s b))::S) else none:=rfl
@[simp] theorem ahn:uC RC m 0 fx gu (some (.b (rd L k s b))::S)=if(Mn L k s b).lookup m=none then yD fx (Al 0 gu) (some (.b (rd L k s b))::S) else none:=rfl
@[simp] theorem aho:(Mn L k s b).lookup ("taken":Str)=none:=rfl
@[simp] theorem ahp:(Mn L k s b).lookup ("wanted":Str)=none:=rfl
@[simp] theorem ahq:(Mn L k s b).lookup ("name_taken":Str)=none:=rfl
@[simp] theorem ahr:(Mn L k s b).lookup ("head_taken":Str)=none:=rfl
@[simp] theorem ahs:(Mn L k s b).lookup ("test_taken":Str)=none:=rfl
@[simp] theorem aht:(Mn L k s b).lookup ("begin_taken":Str)=none:=rfl
@[simp] theorem ahu:(Mn L k s b).lookup ("saying_taken":Str)=none:=rfl
def rB(bf:Addr):GS:=
 (aW (fH (qB (eF (eP lD (aa (pH bf 0 "at") (aa (eF (eP C6 (aa (pH bf 0 "words") ak))) ak))))) wN b7)
 (aW (yx (λi j=>i+j) bf 0 "at" (eC (.int 1)))
 (bK (eP Pz (aa (pH bf 0 "words") (aa (eF (eP uo (aa (pH bf 0 "at") (aa (eC (.int 1)) ak)))) ak))))))
def yY:GS:=
 (fH (qx (qB (eF (ao 1)))) wN b7)
def oG(bf iu:Addr):GX:=
 (ZD (qx (qB (eF (ao 1)))) (Ay iu ["at"] (aa (eF (eP uo (aa (pH bf 0 "at") (aa (eC (.int 1)) ak)))) ak)) xNo)
def k8(dz cO iR:FM)(bf:Addr):GS:=
 (aW (bX 1 (fh bf "taken" 0 dz aY))
 (aW (kq (fh bf "wanted" 0 cO (aQ (eF (aO iR (aQ (eF (ao 1)) aY))) aY)))
 (bK (ao 1))))
def LG:GS:=
 (bK (eT (qY false [("yes",1),("no",1),("now",2),("not",2),("both",3),("either",3),("next",2),("till",3),("within",3),("always",2),("some",2),("each",4),("one",4)] (eF (ao 0)))))
def k9(dz cO wg:FM)(bf:Addr):GS:=
 (aW (bX 2 (fh bf "taken" 0 dz aY))
 (aW (yx (λi j=>i+j) bf 0 "sayings" (eC (.int 1)))
 (aW (fH (qB (Ai false ["each","one"] (eF (ao 2)))) (yx (λi j=>i+j) bf 0 "binders" (eC (.int 1))) b7)
 (aW (kq (fh bf "wanted" 0 cO (aQ (eQ (qy (qB (eF (aO wg (aQ (eF (ao 2)) aY)))) (qB (eF (eP KS (aa (pH bf 0 "sayings") (aa (eC (.int 16)) ak))))))) aY)))
 (aW (kq (fh bf "wanted" 0 cO (aQ (eQ (qy (qB (eF (eP QF (aa (eF (ao 1)) (aa (eC (.int 8)) ak))))) (qB (eF (eP KS (aa (pH bf 0 "binders") (aa (eC (.int 3)) ak))))))) aY)))
 (bK (ao 2)))))))
def dZ(cO wg dz:FM)(rC:FX)(bf:Addr):GX:=
 (JJ (bX 2 (fh bf "taken" 0 dz aY))
 (JJ (yx (λi j=>i+j) bf 0 "sayings" (eC (.int 1)))
 (JJ (fH (qB (Ai false ["each","one"] (eF (ao 2)))) (yx (λi j=>i+j) bf 0 "binders" (eC (.int 1))) b7)
 (Lr (uC bf "wanted" 0 rC (aQ (eQ (qy (qB (eF (aO wg (aQ (eF (ao 2)) aY)))) (qB (eF (eP KS (aa (pH bf 0 "sayings") (aa (eC (.int 16)) ak))))))) aY)) (kq (fh bf "wanted" 0 cO (aQ (eQ (qy (qB (eF (aO wg (aQ (eF (ao 2)) aY)))) (qB (eF (eP KS (aa (pH bf 0 "sayings") (aa (eC (.int 16)) ak))))))) aY)))
 (uC bf "wanted" 0 rC (aQ (eQ (qy (qB (eF (eP QF (aa (eF (ao 1)) (aa (eC (.int 8)) ak))))) (qB (eF (eP KS (aa (pH bf 0 "binders") (aa (eC (.int 3)) ak))))))) aY))))))
def Ia:FM:=bz 1 (rB RC)
def CG:FM:=bz 2 yY
def FJ:FX:=mK 2 (oG RC NT)
def ZQ:FM:=bz 2 (k8 Ia CG AG RC)
def JV:FM:=bz 1 LG
def Wj:FM:=bz 3 (k9 Ia CG JV RC)
def R7:FX:=mK 3 (dZ CG JV Ia FJ RC)
def Wl(j:Int):XV:=(NT,[((Str.ofString "at"),D.int j)])
def rD(h:L[k]? =some w)(hl:L.length<=1000):Ia [.b (rd L k s b)]=some (.t (.str w),[rd L (k+1) s b]):=by
 have hk:k<L.length:=(aaA.mp h).1;have e1:¬(k:Int)=(L.length:Int):=by lia
 have e3:ia (sL L) (k:Int)=some (.str w):=Sq.AA (by lia) (by rw[aeV];show(L.map D.str)[k]? =_;rw[abx,h];rfl);have e4:=AJ L;simp[Ia,bz,rB,e1,e3,e4]
def wj(o:MO):CG [.b o,.t (.bl true)]=some (.t .cD,[o]):=by kernel_rfl
def FL(o:MO):FJ [.b o,.t (.bl true)]=none:=by kernel_rfl
def ON:FJ [.b (rd L (k+1) s b),.t (.bl false)]=some (Wl k,[rd L (k+1) s b]):=by
 simp[FJ,mK,oG,Wl]
structure Hw(w:Str):Prop where
 hd:JV [.t (.str w)]=some (.t (.bl true),[])
 nb:inD (.str w) [.str "each",.str "one"]=false
def On.hw(h:On z):Hw z:=by cases h<;>exact⟨by kernel_rfl,by kernel_rfl⟩
def Tw.hw(h:Tw z):Hw z:=by cases h<;>exact⟨by kernel_rfl,by kernel_rfl⟩
def JX(h:L[k]? =some w)(hl:L.length<=1000)(hw:Hw w)(h1:s+1<=16)(h2:a<8):Wj [.b (rd L k s 0),.t (.int a)]=some (.t (.str w),[rd L (k+1) (s+1) 0]):=by
 have e1:=rD (s:=s) (b:=0) h hl;have e2:=hw.hd;have e3:=hw.nb;simp[Wj,bz,k9,e1,e2,e3,wj,h1,h2]
def DC(h:L[k]? =some w)(hl:L.length<=1000)(hw:Hw w)(h1:s+1<=16)(h2:a<8):R7 [.b (rd L k s 0),.t (.int a)]=none:=by
 have e1:=rD (s:=s) (b:=0) h hl;have e2:=hw.hd;have e3:=hw.nb;simp[R7,mK,dZ,e1,e2,e3,wj,FL,h1,h2]
def Wm(h:L[k]? =some w)(hl:L.length<=1000)(hw:Hw w)(hn:¬(s+1<=16/\a<8)):R7 [.b (rd L k s 0),.t (.int a)]=some (Wl k,[rd L (k+1) (s+1) 0]):=by
 have e1:=rD (s:=s) (b:=0) h hl;have e2:=hw.hd;have e3:=hw.nb;have e4:=ON (L:=L) (k:=k) (s:=s+1) (b:=0);by_cases h1:s+1<=16
 .have h2:¬a<8:=λz=>hn ⟨h1,z⟩;simp[R7,mK,dZ,e1,e2,e3,wj,FL,e4,h1,h2]
 .simp[R7,mK,dZ,e1,e2,e3,e4,h1]
def eU(dz fO cO:FM)(bf:Addr):GS:=
 (aW (bX 2 (fh bf "taken" 0 dz aY))
 (aW (fH (qB (eF (eP lD (aa (eF (ao 2)) (aa (eC (.str "any")) ak))))) (bK (eP cK (aa (eC (.str "any")) ak))) b7)
 (aW (fH (qB (eF (eP lD (aa (eF (ao 2)) (aa (eC (.str "name")) ak))))) (bK (eP cK (aa (eC (.str "name")) (aa (eF (fh bf "name_taken" 0 fO aY)) ak)))) b7)
 (aW (kq (fh bf "wanted" 0 cO (aQ (eF (eP Gx (aa (eF (ao 2)) (aa (eF (eP cK (aa (eC (.str "less")) (aa (eC (.str "same")) (aa (eC (.str "more")) ak))))) ak)))) aY)))
 (aW (bX 3 (fh bf "taken" 0 dz aY))
 (aW (kq (fh bf "wanted" 0 cO (aQ (eQ (nu (qB (qY false [("0",0),("1",1),("2",2),("3",3),("4",4),("5",5),("6",6),("7",7),("8",8),("9",9)] (eF (ao 3)))) (qB (eF (eP Gx (aa (eF (ao 3)) (aa (eF (ao 1)) ak))))))) aY)))
 (bK (eP cK (aa (eF (ao 2)) (aa (An [("0",0),("1",1),("2",2),("3",3),("4",4),("5",5),("6",6),("7",7),("8",8),("9",9)] (eF (ao 3)) (eF (ao 3))) ak))))))))))
def gO(lY uY fO:FM)(bf:Addr):GS:=
 (aW (bX 3 (fh bf "head_taken" 0 lY (aQ (eF (ao 2)) aY)))
 (aW (fH (qB (eF (eP lD (aa (eF (ao 3)) (aa (eC (.str "now")) ak))))) (bK (eP cK (aa (eF (ao 3)) (aa (eF (fh bf "test_taken" 0 uY (aQ (eF (ao 1)) aY))) ak)))) b7)
 (aW (fH (qB (eF (eP lD (aa (eF (ao 3)) (aa (eC (.str "within")) ak))))) wN b7)
 (aW (fH (qB (Ai false ["each","one"] (eF (ao 3)))) (aW (bX 4 (fh bf "name_taken" 0 fO aY))
 (bK (eP cK (aa (eF (ao 3)) (aa (eF (ao 4)) (aa (eF (fh bf "name_taken" 0 fO aY)) ak)))))) b7)
 (bK (eP cK (aa (eF (ao 3)) ak)))))))
def gm(lY:FM)(uZ:FX)(bf:Addr):GX:=
 (uC bf "head_taken" 0 uZ (aQ (eF (ao 2)) aY))
def PJ:FM:=bz 4 (eU Ia ZQ CG RC)
def TZ:FM:=bz 5 (gO Wj PJ ZQ RC)
def T5:FX:=mK 5 (gm Wj R7 RC)
def fP(h:L.drop k=w::ws):L[k]? =some w/\L.drop (k+1)=ws:=by
 constructor
 .have:(L.drop k)[0]? =some w:=by rw[h];rfl
  rw[List.getElem?_drop]at this;exact this
 .have:(L.drop k).drop 1=ws:=by rw[h];rfl
  rw[List.drop_drop]at this;exact this
def Wn(hw:Hw w)(n1:w≠"now")(n2:w≠"within")(e:Wj [.b (rd L k s 0),.t (.int a)]=some (.t (.str w),[rd L (k+1) (s+1) 0])):TZ [.b (rd L k s 0),.t bd,.t (.int a)]=some (.t (.tup [.str w]),[rd L (k+1) (s+1) 0]):=by
 have e3:=hw.nb;simp[TZ,bz,gO,e,n1,n2,e3]
def ZR{r:XV}{o:MO}(e:R7 [.b (rd L k s 0),.t (.int a)]=some (r,[o])):T5 [.b (rd L k s 0),.t bd,.t (.int a)]=some (r,[o]):=by
 simp[T5,mK,gm,e]
def JY(e:R7 [.b (rd L k s 0),.t (.int a)]=none):T5 [.b (rd L k s 0),.t bd,.t (.int a)]=none:=by
 simp[T5,mK,gm,e]
def Wo{t:D}{k':Nat}(e:Wj [.b (rd L k s 0),.t (.int a)]=some (.t (.str "now"),[rd L (k+1) (s+1) 0]))(e2:PJ [.b (rd L (k+1) (s+1) 0),.t (.tup [])]=some (.t t,[rd L k' (s+1) 0])):TZ [.b (rd L k s 0),.t (.tup []),.t (.int a)]=some (.t (.tup [.str "now",t]),[rd L k' (s+1) 0]):=by
 simp[TZ,bz,gO,e,e2]
def Wq(h:L[k]? =some "any")(hl:L.length<=1000):PJ [.b (rd L k s 0),.t (.tup [])]=some (.t (.tup [.str "any"]),[rd L (k+1) s 0]):=by
 have e1:=rD (s:=s) (b:=0) h hl;simp[PJ,bz,eU,e1]
def R8(h:L[k]? =some "name")(h2:L[k+1]? =some "a")(hl:L.length<=1000):PJ [.b (rd L k s 0),.t (.tup [])]=some (.t (.tup [.str "name",.str "a"]),[rd L (k+1+1) s 0]):=by
 have e1:=rD (s:=s) (b:=0) h hl;have e2:=rD (s:=s) (b:=0) h2 hl;have e3:AG [.t (.str "a")]=some (.t (.bl true),[]):=by kernel_rfl
 have ne:¬(("name":Str)="any"):=by decide
 have e4:ZQ [.b (rd L (k+1) s 0)]=some (.t (.str "a"),[rd L (k+1+1) s 0]):=by simp[ZQ,bz,k8,e2,e3,wj]
 simp[PJ,bz,eU,e1,e4,ne]
def R9(h:L[k]? =some "more")(h2:L[k+1]? =some "0")(hl:L.length<=1000):PJ [.b (rd L k s 0),.t (.tup [])]=some (.t (.tup [.str "more",.int 0]),[rd L (k+1+1) s 0]):=by
 have e1:=rD (s:=s) (b:=0) h hl;have e2:=rD (s:=s) (b:=0) h2 hl;have n1:¬(("more":Str)="any"):=by decide
 have n2:¬(("more":Str)="name"):=by decide
 have i1:Gx [.str "more",.tup [.str "less",.str "same",.str "more"]]=AAA (.bl true):=by kernel_rfl
 have i2:∀S:SS,S[3]? =some (AAA (.str "0"))->qY false [("0",0),("1",1),("2",2),("3",3),("4",4),("5",5),("6",6),("7",7),("8",8),("9",9)] (eF (ao 3)) S=some (.bl true,S)/\An [("0",0),("1",1),("2",2),("3",3),("4",4),("5",5),("6",6),("7",7),("8",8),("9",9)] (eF (ao 3)) (eF (ao 3)) S=some (.int 0,S):=λS hS=>by
  have:eF (ao 3) S=some (.str "0",S):=by simp[hS]
  constructor
  .show((eF (ao 3) S).bind _)=_;rw[this];kernel_rfl
  .show((eF (ao 3) S).bind _)=_;rw[this];show((eF (ao 3) S).bind _)=_;rw[this];kernel_rfl
 have i3:=λS hS=>(i2 S hS).1;have i4:=λS hS=>(i2 S hS).2;simp[PJ,bz,eU,e1,e2,n1,n2,i1,wj,i3,i4]
end
def AL:GS:=
 (bK (eP uo (aa (Lg [("yes",1),("no",1),("now",2),("not",2),("both",3),("either",3),("next",2),("till",3),("within",3),("always",2),("some",2),("each",4),("one",4)] (eF (ao 0))) (aa (Lg [("yes",1),("no",1),("now",2),("not",1),("both",1),("either",1),("next",1),("till",1),("within",2),("always",1),("some",1),("each",3),("one",3)] (eF (ao 0))) ak))))
def fQ(bY cF cT bB:FM)(bf:Addr):GS:=
 (bX 3 (eP dg (aa (eF (ao 3)) (aa (eF (eP cK (aa (eF (fh bf "saying_taken" 0 bB (aQ (eF (ao 4)) (aQ (eF (eP dg (aa (eF (ao 2)) (aa (eC (.int 1)) ak)))) aY)))) ak))) ak))))
def dJ(bY cF cT bB:FM)(bf:Addr):GS:=
 (aW (bX 3 (fh bf "begin_taken" 0 bY (aQ (eF (ao 1)) (aQ (eF (ao 2)) aY))))
 (aW (bX 4 (aO cF (aQ (eF (ao 3)) (aQ (eF (ao 1)) aY))))
 (aW (qz (bName 5) (gH (aa (eF (aO cT (aQ (b9 3 (eC (.int 0))) aY))) ak)) (fQ bY cF cT bB bf))
 (bK (ao 3)))))
def dm(cT bB cF bY:FM)(cB c8:FX)(bf:Addr):GS:=
 (bX 3 (eP dg (aa (eF (ao 3)) (aa (eF (eP cK (aa (eF (fh bf "saying_taken" 0 bB (aQ (eF (ao 4)) (aQ (eF (eP dg (aa (eF (ao 2)) (aa (eC (.int 1)) ak)))) aY)))) ak))) ak))))
def cP(cT bB cF bY:FM)(cB c8:FX)(bf:Addr):GX:=
 (xAn (eF (ao 3)) (uC bf "saying_taken" 0 cB (aQ (eF (ao 4)) (aQ (eF (eP dg (aa (eF (ao 2)) (aa (eC (.int 1)) ak)))) aY))))
def cg(cT bB cF bY:FM)(cB c8:FX)(bf:Addr):GX:=
 (Lr (uC bf "begin_taken" 0 c8 (aQ (eF (ao 1)) (aQ (eF (ao 2)) aY))) (bX 3 (fh bf "begin_taken" 0 bY (aQ (eF (ao 1)) (aQ (eF (ao 2)) aY))))
 (JJ (bX 4 (aO cF (aQ (eF (ao 3)) (aQ (eF (ao 1)) aY))))
 (Lu (bName 5) (gH (aa (eF (aO cT (aQ (b9 3 (eC (.int 0))) aY))) ak)) (cP cT bB cF bY cB c8 bf) (dm cT bB cF bY cB c8 bf))))
def Xr:FM:=bz 1 AL
def Se:Nat->FM
 |0=>λ_=>none
 |j+1=>bz 6 (dJ TZ nB Xr (Se j) RC)
def OO:Nat->FX
 |0=>λ_=>none
 |j+1=>mK 6 (cg Xr (Se j) nB TZ (OO j) T5 RC)
@[simp] theorem aec(bd:GB)(gi:GI)(gx:GX)(g:GS)(S:SS):Lu bd gi gx g S=(gi S).bind λp=>v7 bd gx g p.1 p.2:=rfl
@[simp] theorem afw(bd:GB)(gx:GX)(g:GS)(S:SS):v7 bd gx g [] S=none:=rfl
@[simp] theorem afx(bd:GB)(gx:GX)(g:GS)(d:D)(ds:List D)(S:SS):v7 bd gx g (d::ds) S=(bd d S).bind λS1=>match gx S1 with
  |some r=>some r
  |none=>(g S1).bind λo=>match o with
   |.nx S2=>v7 bd gx g ds S2
   |.ct S2=>v7 bd gx g ds S2
   |_=>none:=rfl
section
variable {L:BBB}{k k1 k2 k3:Nat}{s s1 s2 s3 a i:Int}{z:Str}{r:List D}{p q:D}{j:Nat}{o:MO}{x:XV}
def rg{n:Int}(h0:0<=n)(h1:n<1000000)(e3:Xr [.t (.str z)]=some (.t (.int n),[]))(hS:S[3]? =some (AAA (.tup (.str z::r)))):gH (aa (eF (aO Xr (aQ (b9 3 (eC (.int 0))) aY))) ak) S=some (vF 0 n.toNat,S):=by
 refine Sq.oE ?_ h1 (by lia);simp[hS,AB,e3]
structure Bg(L:BBB)(k k1:Nat)(s s1 a:Int)(z:Str)(r:List D)(n:Int):Prop where
 f:TZ [.b (rd L k s 0),.t (.tup []),.t (.int a)]=some (.t (.tup (.str z::r)),[rd L k1 s1 0])
 x:T5 [.b (rd L k s 0),.t (.tup []),.t (.int a)]=none
 b:nB [.t (.tup (.str z::r)),.t (.tup [])]=some (.t (.tup []),[])
 w:Xr [.t (.str z)]=some (.t (.int n),[])
structure OP(L:BBB)(j k k1:Nat)(s s1 a:Int)(d:D):Prop where
 f:Se j [.b (rd L k s 0),.t (.tup []),.t (.int a)]=some (.t d,[rd L k1 s1 0])
 x:OO j [.b (rd L k s 0),.t (.tup []),.t (.int a)]=none
inductive Sg(L:BBB)(j k:Nat)(s a i:Int):Prop
 |mk(o:MO)(x:OO j [.b (rd L k s 0),.t (.tup []),.t (.int a)]=some (Wl i,[o]))
def aed(h:T5 [.b (rd L k s 0),.t (.tup []),.t (.int a)]=some (Wl i,[o])):Sg L (j+1) k s a i:=
 ⟨o,by simp[OO,mK,cg,h]⟩
def ZS(h:Bg L k k1 s s1 a z r 0):OP L (j+1) k k1 s s1 a (.tup (.str z::r)):=by
 have⟨e1,e2,e3,e4⟩:=h;have g:=λ(S:SS)=>rg (S:=S) (r:=r) (n:=0) (by decide) (by decide) e4;have e0:vF 0 (0:Int).toNat=[]:=rfl;rw[e0]at g;constructor
 .simp[-mX,Se,bz,dJ,e1,e3,g]
 .simp[-mX,OO,mK,cg,e1,e2,e3,g]
def aee(h:Bg L k k1 s s1 a z [] 1)(c:OP L j k1 k2 s1 s2 (a+1) p):OP L (j+1) k k2 s s2 a (.tup [.str z,p]):=by
 have⟨e1,e2,e3,e4⟩:=h;have⟨c1,c2⟩:=c;have g:=λ(S:SS)=>rg (S:=S) (r:=[]) (n:=1) (by decide) (by decide) e4;have e0:vF 0 (1:Int).toNat=[.int 0]:=rfl;rw[e0]at g;constructor
 .simp[-mX,Se,bz,dJ,fQ,e1,e3,g,loop,c1]
 .simp[-mX,OO,mK,cg,dm,cP,e1,e2,e3,g,c1,c2]
def aef(h:Bg L k k1 s s1 a z [] 2)(c:OP L j k1 k2 s1 s2 (a+1) p)(d:OP L j k2 k3 s2 s3 (a+1) q):OP L (j+1) k k3 s s3 a (.tup [.str z,p,q]):=by
 have⟨e1,e2,e3,e4⟩:=h;have⟨c1,c2⟩:=c;have⟨d1,d2⟩:=d;have g:=λ(S:SS)=>rg (S:=S) (r:=[]) (n:=2) (by decide) (by decide) e4;have e0:vF 0 (2:Int).toNat=[.int 0,.int 1]:=rfl;rw[e0]at g;constructor
 .simp[-mX,Se,bz,dJ,fQ,e1,e3,g,loop,c1,d1]
 .simp[-mX,OO,mK,cg,dm,cP,e1,e2,e3,g,c1,c2,d1,d2]
def T6(h:Bg L k k1 s s1 a z [] 1)(c:Sg L j k1 s1 (a+1) i):Sg L (j+1) k s a i:=by
 have⟨e1,e2,e3,e4⟩:=h;obtain⟨o,c⟩:=c;have g:=λ(S:SS)=>rg (S:=S) (r:=[]) (n:=1) (by decide) (by decide) e4;have e0:vF 0 (1:Int).toNat=[.int 0]:=rfl;rw[e0]at g;exact⟨o,by simp[-mX,OO,mK,cg,cP,e1,e2,e3,g,c]⟩
def ZT(h:Bg L k k1 s s1 a z [] 2)(c:OP L j k1 k2 s1 s2 (a+1) p)(d:Sg L j k2 s2 (a+1) i):Sg L (j+1) k s a i:=by
 have⟨e1,e2,e3,e4⟩:=h;have⟨c1,c2⟩:=c;obtain⟨o,d⟩:=d;have g:=λ(S:SS)=>rg (S:=S) (r:=[]) (n:=2) (by decide) (by decide) e4;have e0:vF 0 (2:Int).toNat=[.int 0,.int 1]:=rfl;rw[e0]at g;exact⟨o,by simp[-mX,OO,mK,cg,dm,cP,e1,e2,e3,g,c1,c2,d]⟩
end
def FN{L:BBB}{a:BBB}(h:L.drop k=a++r):L.drop (k+a.length)=r:=by
 have:=congrArg (List.drop a.length) h;rw[List.drop_drop,List.drop_left]at this;exact this
section
variable {L:BBB}(hL:L.length<=1000)
include hL
def On.bg(hz:On z){s:Int}(h:L[k]? =some z)(h1:s+1<=16)(h2:a<8):Bg L k (k+1) s (s+1) a z [] 1:=by
 have e:=JX h hL hz.hw h1 h2;have x:=JY (bd:=.tup []) (DC h hL hz.hw h1 h2);cases hz<;>exact⟨Wn ⟨by kernel_rfl,by kernel_rfl⟩ (by decide) (by decide) e,x,by kernel_rfl,by kernel_rfl⟩
def Tw.bg(hz:Tw z){s:Int}(h:L[k]? =some z)(h1:s+1<=16)(h2:a<8):Bg L k (k+1) s (s+1) a z [] 2:=by
 have e:=JX h hL hz.hw h1 h2;have x:=JY (bd:=.tup []) (DC h hL hz.hw h1 h2);cases hz<;>exact⟨Wn ⟨by kernel_rfl,by kernel_rfl⟩ (by decide) (by decide) e,x,by kernel_rfl,by kernel_rfl⟩
def Lf.rds{d:D}(h:Lf d ws){s:Int}(e:L.drop k=ws++r)(h1:s+1<=16)(h2:a<8):OP L (j+1) k (k+ws.length) s (s+1) a d:=by
 have nw:Hw "now":=⟨by kernel_rfl,by kernel_rfl⟩
 have now:∀{t:D}{k':Nat},L[k]? =some "now"->PJ [.b (rd L (k+1) (s+1) 0),.t (.tup [])]=some (.t t,[rd L k' (s+1) 0])->nB [.t (.tup [.str "now",t]),.t (.tup [])]=some (.t (.tup []),[])->OP L (j+1) k k' s (s+1) a (.tup [.str "now",t]):=λa1 e b=>ZS ⟨Wo (JX a1 hL nw h1 h2) e,JY (DC a1 hL nw h1 h2),b,by kernel_rfl⟩;cases h with
 |any=>
  obtain⟨a1,e⟩:=fP e;obtain⟨a2,e⟩:=fP e;exact now a1 (Wq a2 hL) (by kernel_rfl)
 |name=>
  obtain⟨a1,e⟩:=fP e;obtain⟨a2,e⟩:=fP e;obtain⟨a3,e⟩:=fP e;exact now a1 (R8 a2 a3 hL) (by kernel_rfl)
 |more=>
  obtain⟨a1,e⟩:=fP e;obtain⟨a2,e⟩:=fP e;obtain⟨a3,e⟩:=fP e;exact now a1 (R9 a2 a3 hL) (by kernel_rfl)
 |yes=>
  obtain⟨a1,e⟩:=fP e;have hw:Hw "yes":=⟨by kernel_rfl,by kernel_rfl⟩
  exact ZS ⟨Wn hw (by decide) (by decide) (JX a1 hL hw h1 h2),JY (DC a1 hL hw h1 h2),by kernel_rfl,by kernel_rfl⟩
def Tr.Ok.rds{t:Tr}(h:t.Ok):∀{j k:Nat}{s a:Int}{r:BBB},t.dp<=j->L.drop k=t.wr++r->s+t.sz<=16->a+t.dp<=8->OP L j k (k+t.wr.length) s (s+t.sz) a t.d:=by
 induction h with
 |lf h=>
  intro j k s a r hj e hs ha;cases j with
  |zero=>cases hj
  |succ j=>exact h.rds hL e hs (by have:a+((1:Nat):Int)<=8:=ha;lia)
 |@un z t hz _ ih=>
  intro j k s a r hj e hs ha;have hs:s+((t.sz+1:Nat):Int)<=16:=hs;have ha:a+((t.dp+1:Nat):Int)<=8:=ha;cases j with
  |zero=>cases hj
  |succ j=>
   obtain⟨a1,e⟩:=fP (show L.drop k=z::(t.wr++r) from e);have q:=aee (hz.bg hL a1 (s:=s) (a:=a) (by lia) (by lia)) (ih (j:=j) (s:=s+1) (a:=a+1) (abr hj) e (by lia) (by lia));have e1:k+(Tr.un z t).wr.length=k+1+t.wr.length:=by show k+(t.wr.length+1)=_;lia
   have e2:s+((Tr.un z t).sz:Int)=s+1+t.sz:=by show s+((t.sz+1:Nat):Int)=_;lia
   rw[e1,e2];exact q
 |@bi z t u hz _ _ i1 i2=>
  intro j k s a r hj e hs ha;have hs:s+((t.sz+u.sz+1:Nat):Int)<=16:=hs;have ha:a+((max t.dp u.dp+1:Nat):Int)<=8:=ha;cases j with
  |zero=>cases hj
  |succ j=>
   have hj:max t.dp u.dp<=j:=abr hj;obtain⟨a1,e⟩:=fP (show L.drop k=z::(t.wr++u.wr++r) from e);rw[adT]at e;have q:=aef (hz.bg hL a1 (s:=s) (a:=a) (by lia) (by lia)) (i1 (j:=j) (s:=s+1) (a:=a+1) (by lia) e (by lia) (by lia)) (i2 (s:=s+1+t.sz) (a:=a+1) (by lia) (FN e) (by lia) (by lia));have e1:k+(Tr.bi z t u).wr.length=k+1+t.wr.length+u.wr.length:=by show k+((t.wr++u.wr).length+1)=_;rw[aaG];lia
   have e2:s+((Tr.bi z t u).sz:Int)=s+1+t.sz+u.sz:=by show s+((t.sz+u.sz+1:Nat):Int)=_;lia
   rw[e1,e2];exact q
noncomputable def Tr.lp:Tr->Nat
 |.lf _ _=>0
 |.un _ t=>t.lp+1
 |.bi _ t u=>t.wr.length+u.lp+1
omit hL in
def Tr.Ok.hw{t:Tr}(h:t.Ok):∃z r,t.wr=z::r/\Hw z:=by
 cases h with
 |lf h=>cases h<;>exact⟨_,_,rfl,by kernel_rfl,by kernel_rfl⟩
 |un hz _=>exact⟨_,_,rfl,hz.hw⟩
 |bi hz _ _=>exact⟨_,_,rfl,hz.hw⟩
def Tr.Ok.full{t:Tr}(h:t.Ok){s:Int}(e:L.drop k=t.wr++r)(hn:¬(s+1<=16/\a<8)):Sg L (j+1) k s a k:=by
 obtain⟨z,q,hw,hz⟩:=h.hw;rw[hw]at e;exact aed (ZR (Wm (fP e).1 hL hz hn))
def Tr.Ok.no{t:Tr}(h:t.Ok):∀{j k:Nat}{s a:Int}{r:BBB},t.dp<=j->L.drop k=t.wr++r->s+t.sz=17->a+t.dp<=8->Sg L j k s a ((k+t.lp:Nat):Int):=by
 induction h with
 |lf h=>
  intro j k s a r hj e hs ha;have hs:s+((1:Nat):Int)=17:=hs;cases j with
  |zero=>cases hj
  |succ j=>exact(Tr.Ok.lf h).full hL e (by lia)
 |@un z t hz _ ih=>
  intro j k s a r hj e hs ha;have hs:s+((t.sz+1:Nat):Int)=17:=hs;have ha:a+((t.dp+1:Nat):Int)<=8:=ha;have:=t.OJ;cases j with
  |zero=>cases hj
  |succ j=>
   obtain⟨a1,e⟩:=fP (show L.drop k=z::(t.wr++r) from e);have q:=T6 (hz.bg hL a1 (s:=s) (a:=a) (by lia) (by lia)) (ih (j:=j) (s:=s+1) (a:=a+1) (abr hj) e (by lia) (by lia));rw[show k+(Tr.un z t).lp=k+1+t.lp by show k+(t.lp+1)=_;lia];exact q
 |@bi z t u hz ht _ i1 i2=>
  intro j k s a r hj e hs ha;have hs:s+((t.sz+u.sz+1:Nat):Int)=17:=hs;have ha:a+((max t.dp u.dp+1:Nat):Int)<=8:=ha;have:=u.OJ;cases j with
  |zero=>cases hj
  |succ j=>
   have hj:max t.dp u.dp<=j:=abr hj;obtain⟨a1,e⟩:=fP (show L.drop k=z::(t.wr++u.wr++r) from e);rw[adT]at e;have q:=ZT (hz.bg hL a1 (s:=s) (a:=a) (by lia) (by lia)) (ht.rds hL (j:=j) (s:=s+1) (a:=a+1) (by lia) e (by lia) (by lia)) (i2 (s:=s+1+t.sz) (a:=a+1) (by lia) (FN e) (by lia) (by lia));rw[show k+(Tr.bi z t u).lp=k+1+t.wr.length+u.lp by show k+(t.wr.length+u.lp+1)=_;lia];exact q
def OQ(h:∀z∈zs,On z){t:Tr}(ht:t.Ok):∀{j n k:Nat}{s a:Int}{r:BBB},n<=zs.length->n<j->L.drop k=(chain zs t).wr++r->s+n<=16->a+n=8->Sg L j k s a ((k+n:Nat):Int):=by
 induction zs with
 |nil=>
  intro j n k s a r hn hj e _ ha;cases Nat.le_zero.mp hn;cases j with
  |zero=>cases hj
  |succ j=>exact ht.full hL e (by lia)
 |cons z zs ih=>
  intro j n k s a r hn hj e hs ha;have hc:=wc h ht;cases j with
  |zero=>cases hj
  |succ j=>
   cases n with
   |zero=>exact hc.full hL e (by lia)
   |succ n=>
    obtain⟨a1,e⟩:=fP (show L.drop k=z::((chain zs t).wr++r) from e);have q:=T6 ((h z aav).bg hL a1 (s:=s) (a:=a) (by lia) (by lia)) (ih (λx hx=>h x (aar _ hx)) (n:=n) (j:=j) (s:=s+1) (a:=a+1) (abr hn) (by lia) e (by lia) (by lia));rw[show k+(n+1)=k+1+n by lia];exact q
end
def wm(bf:Addr):GS:=
 (aW (Fi bf 0 "words" (eF (ao 1)))
 (aW (Fi bf 0 "at" (eC (.int 0)))
 (aW (Fi bf 0 "sayings" (eC (.int 0)))
 (Fi bf 0 "binders" (eC (.int 0))))))
def uE(jK bB:FM)(bf:Addr):GS:=
 (aW (bX 1 (Cw bf jK (aQ (eF (eP iZ (aa (eF (ao 0)) (aa (eC (.str " ")) ak)))) aY)))
 (aW (bX 2 (fh bf "saying_taken" 1 bB (aQ (eF (eP cK ak)) (aQ (eC (.int 0)) aY))))
 (aW (fH (qB (eF (eP QF (aa (pH bf 1 "at") (aa (eF (eP C6 (aa (pH bf 1 "words") ak))) ak))))) wN b7)
 (bK (ao 2)))))
def rE(bB jK:FM)(cB:FX)(bf:Addr):GX:=
 (JJ (bX 1 (Cw bf jK (aQ (eF (eP iZ (aa (eF (ao 0)) (aa (eC (.str " ")) ak)))) aY)))
 (uC bf "saying_taken" 1 cB (aQ (eF (eP cK ak)) (aQ (eC (.int 0)) aY))))
def yE(aF:FM)(DE:FX)(iu:Addr):GS:=
 (aW (bX 1 (eT (eC .cD)))
 (aW (Ls 2 [iu] (kq (aO aF (aQ (eF (ao 0)) aY))) (yD DE (aQ (eF (ao 0)) aY)) (bX 1 (eT (JL [iu] "at" (ao 2)))))
 (bK (ao 1))))
def JZ:FM:=bz 2 (wm RC)
def OR:FM:=bz 3 (uE JZ (Se 9) RC)
def rsX:FX:=mK 3 (rE (Se 9) JZ (OO 9) RC)
def OS:FM:=bz 3 (yE OR rsX NT)
def J0(W:BBB):JZ [.b (.ins RC []),.t (.lst (sL W))]=some (.t .cD,[rd W 0 0 0]):=by kernel_rfl
@[simp] theorem abu(C:Addr)(f:FM)(gu:GU)(S:SS):Cw C f gu S=(gu S).bind λp=>if slotsOf p.1=[]/\cu p.1=0 then(bT p.2 p.1).bind λus=>(f (.b (.ins C [])::us)).bind λr=>match r with
 |(.t .cD,[o])=>some (.m o,p.2)
 |_=>none else none:=rfl
section
variable {L:BBB}{k:Nat}{s b:Int}{t0 t2:Option U}{m:Str}{f:FM}{fx:FX}{gu:GU}{z:Str}{d:D}{i:Int}
@[simp] theorem ahv:pH RC 1 "at" [t0,some (.m (rd L k s b)),t2]=some (.int k,[t0,some (.m (rd L k s b)),t2]):=rfl
@[simp] theorem ahw:pH RC 1 "words" [t0,some (.m (rd L k s b)),t2]=some (.lst (sL L),[t0,some (.m (rd L k s b)),t2]):=rfl
@[simp] theorem afy:fh RC m 1 f gu [t0,some (.m (rd L k s b)),t2]=if(Mn L k s b).lookup m=none then aO f (Al 1 gu) [t0,some (.m (rd L k s b)),t2] else none:=rfl
@[simp] theorem afz:uC RC m 1 fx gu [t0,some (.m (rd L k s b)),t2]=if(Mn L k s b).lookup m=none then yD fx (Al 1 gu) [t0,some (.m (rd L k s b)),t2] else none:=rfl
def ZU(e0:iZ [.str z,.str " "]=AAB (sL L))(h:OP L 9 0 L.length 0 s 0 d):OR [.t (.str z)]=some (.t d,[]):=by
 have e1:=J0 L;have e2:=h.f;have e3:=AJ L;simp[OR,bz,uE,e0,e1,e2,e3]
def T7(e0:iZ [.str z,.str " "]=AAB (sL L))(h:Sg L 9 0 0 0 i):OS [.t (.str z)]=some (.t (.int i),[]):=by
 have e1:=J0 L;obtain⟨o,e2⟩:=h;have e3:rsX [.t (.str z)]=some (Wl i,[]):=by simp[rsX,mK,rE,e0,e1,e2]
 simp[-fM,dj,OS,bz,yE,Ls,JL,e3,Wl]
end
section
variable {t:Tr}(h:t.Ok)(hs:t.sz<=100)
include h hs
def Tr.Ok.split:iZ [.str (txt t.wr),.str " "]=AAB (sL t.wr):=by
 have l:=h.len;obtain⟨z,r,e⟩:=h.ne;exact LD (by rw[e];exact agH _ _) h.wk (by lia)
def Tr.Ok.rsd(hd:t.dp<=8)(h16:t.sz<=16):OR [.t (.str (txt t.wr))]=some (.t t.d,[]):=by
 have l:=h.len;have:=h.rds (L:=t.wr) (by lia) (j:=9) (k:=0) (s:=0) (a:=0) (r:=[]) (by lia) (by rw[afI,abE]) (by lia) (by lia);rw[agd]at this;exact ZU (h.split hs) this
def Tr.Ok.wide(hd:t.dp<=8)(h17:t.sz=17):OS [.t (.str (txt t.wr))]=some (.t (.int (t.lp:Int)),[]):=by
 have l:=h.len;have:=h.no (L:=t.wr) (by lia) (j:=9) (k:=0) (s:=0) (a:=0) (r:=[]) (by lia) (by rw[afI,abE]) (by lia) (by lia);rw[agd]at this;exact T7 (h.split hs) this
end
def Sh(hz:∀z∈zs,On z){t:Tr}(h:t.Ok)(h8:zs.length=8)(hs:t.sz<=50):OS [.t (.str (txt (chain zs t).wr))]=some (.t (.int 8),[]):=by
 have ok:=wc hz h;have l:=ok.len;have e:=(rA zs t).2;exact T7 (ok.split (by lia)) (OQ (L:=(chain zs t).wr) (by lia) hz h (j:=9) (n:=8) (k:=0) (s:=0) (a:=0) (r:=[]) (by lia) (by decide) (by rw[afI,abE]) (by decide) (by decide))
inductive EO:Str->Prop
 |a:EO "each"
 |b:EO "one"
noncomputable def Mp(z v:Str)(d:D):D:=.tup [.str z,.str "a",.str v,d]
noncomputable def Mq:D:=.tup [.str "now",.tup [.str "less",.str "x"]]
def PK(a b c:Str):D:=Mp c "x" (Mp b "ab" (Mp a "x" Mq))
def bd4(a b c e:Str):D:=Mp e "ab" (PK a b c)
noncomputable def bw3(a b c:Str):BBB:=[c,"a","x",b,"a","ab",a,"a","x","now","less","x"]
structure LH(f5 f6 f7:FM)(s:D):Prop where
 a:f5 [.t s]=some (.t (.bl true),[])
 b:∃z,f7 [.t s]=some (.t (.str z),[])/\f6 [.t (.str z)]=some (.t s,[])
 c:K5 s
def ZV{a b c:Str}(ha:EO a)(hb:EO b)(hc:EO c):LH kP OR nC (PK a b c):=by
 have:kP [.t (PK a b c)]=some (.t (.bl true),[])/\nC [.t (PK a b c)]=some (.t (.str (txt (bw3 a b c))),[])/\OR [.t (.str (txt (bw3 a b c)))]=some (.t (PK a b c),[])/\K5 (PK a b c):=by
  cases ha<;>cases hb<;>cases hc<;>exact⟨by kernel_rfl,by kernel_rfl,by kernel_rfl,by decide +kernel⟩
 exact⟨this.1,⟨_,this.2.1,this.2.2.1⟩,this.2.2.2⟩
def T8{a b c e:Str}(ha:EO a)(hb:EO b)(hc:EO c)(he:EO e):kP [.t (bd4 a b c e)]=some (.t (.bl false),[])/\nC [.t (bd4 a b c e)]=some (.t (.str (txt (e :: "a" :: "ab" :: bw3 a b c))),[])/\OS [.t (.str (txt (e :: "a" :: "ab" :: bw3 a b c)))]=some (.t (.int 9),[]):=by
 cases ha<;>cases hb<;>cases hc<;>cases he<;>exact⟨by kernel_rfl,by kernel_rfl,by kernel_rfl⟩
noncomputable abbrev rF:Str:="both each a x yes both one ab x now less x either each a k yes "
def ZX:OS [.t (.str (rF++"now any"))]=some (.t .cD,[]):=by kernel_rfl
def aeh:OS [.t (.str (rF++"one a x yes"))]=some (.t (.int 17),[]):=by kernel_rfl
def Ib(jJ iR xC:FM):GS:=
 (bK (eT (eQ (qy (qB (eF (aO jJ (aQ (eF (ao 0)) (aQ (eC (.int 2)) (aQ (eC (.int 2)) aY)))))) (qy (qB (eF (aO iR (aQ (b9 0 (eC (.int 0))) aY)))) (qB (eF (aO xC (aQ (b9 0 (eC (.int 1))) (aQ (eC (.int 0)) (aQ (eC (.int 5)) aY)))))))))))
def Ic(jJ LI:FM):GS:=
 (aW (fH (nu (qx (qB (eF (aO jJ (aQ (eF (ao 0)) (aQ (eC (.int 1)) (aQ (eC (.int 4)) aY))))))) (qx (qB (eF (eP Nz (aa (eF (iP [] (nv (eF (ao 0))) iy (eF (aO LI (aQ (eF (ao 0)) aY))))) ak)))))) (bK (eT (eC (.bl false)))) b7)
 (aW (bX 1 (iP [] (nv (eF (ao 0))) iy (b9 0 (eC (.int 0)))))
 (bK (eT (eQ (qy (qB (eF (eP lD (aa (eF (eP Dh (aa (eF (ao 1)) ak))) (aa (lE 1) ak))))) (qB (eF (eP KS (aa (eF (eP YQ (aa (eF (iP [] (nv (eF (ao 0))) iy (eF (eP dg (aa (b9 0 (eC (.int 1))) (aa (eC (.int 1)) ak)))))) ak))) (aa (eC (.int 12)) ak)))))))))))
def BJ:GS:=
 (bK (eP ow (aa (eC (.str " ")) (aa (eF (iP [] (nv (eF (ao 0))) iy (eF (eP dg (aa (eF (eP dg (aa (b9 0 (eC (.int 0))) (aa (eC (.str ".")) ak)))) (aa (eF (eP Jv (aa (b9 0 (eC (.int 1))) ak))) ak)))))) ak))))
def BK(DF:FM):GS:=
 (bK (aO DF (aQ (eF (ao 0)) aY)))
def FO(iR:FM):GS:=
 (aW (bX 1 (eP Fe (aa (eF (ao 0)) (aa (eC (.str ".")) ak))))
 (aW (fH (nu (qx (qB (eF (aO iR (aQ (b9 1 (eC (.int 0))) aY))))) (qB (qY true [("0",0),("1",1),("2",2),("3",3),("4",4),("5",5),("6",6),("7",7),("8",8),("9",9)] (b9 1 (eC (.int 2)))))) (bK (eT (eC .cD))) b7)
 (bK (eP cK (aa (b9 1 (eC (.int 0))) (aa (Lg [("0",0),("1",1),("2",2),("3",3),("4",4),("5",5),("6",6),("7",7),("8",8),("9",9)] (b9 1 (eC (.int 2)))) ak))))))
def BL(eB:FM):GS:=
 (aW (bX 5 (aO eB (aQ (eF (ao 4)) aY)))
 (aW (fH (nu (qB (eF (eP E4 (aa (eF (ao 5)) (aa (eC .cD) ak))))) (nu (qB (eF (eP Tn (aa (b9 5 (eC (.int 1))) (aa (eC (.int 5)) ak))))) (qB (eF (eP fGe (aa (eF (ao 3)) (aa (eC (.int 4)) ak))))))) wN b7)
 (aW (Hy (λi j=>i-j) 2 (eF (eP dg (aa (b9 5 (eC (.int 1))) (aa (eC (.int 1)) ak)))))
 (aW (fH (nu (qB (eF (eP QF (aa (eF (ao 2)) (aa (eC (.int 0)) ak))))) (qB (eF (eP Gx (aa (b9 5 (eC (.int 0))) (aa (eF (xy 1 iy (b9 0 (eC (.int 0))))) ak)))))) wN b7)
 (kq (eT (eM 1 hAppend (aa (eF (ao 5)) ak))))))))
def DG(eB:FM):GS:=
 (aW (bX 1 (eP kj ak))
 (aW (bX 2 (eT (eC (.int 12))))
 (aW (qz (C7 2 (mS (bName 3) (mS (bName 4) EK))) (Jr (aa (eF (eP iZ (aa (eF (ao 0)) (aa (eC (.str " ")) ak)))) ak)) (BL eB))
 (bK (eP Dg (aa (eF (ao 1)) ak))))))
def BN(eB:FM)(iu:Addr):GS:=
 (aW (bX 5 (aO eB (aQ (eF (ao 4)) aY)))
 (aW (fH (nu (qB (eF (eP E4 (aa (eF (ao 5)) (aa (eC .cD) ak))))) (nu (qB (eF (eP Tn (aa (b9 5 (eC (.int 1))) (aa (eC (.int 5)) ak))))) (qB (eF (eP fGe (aa (eF (ao 3)) (aa (eC (.int 4)) ak))))))) wN b7)
 (aW (Hy (λi j=>i-j) 2 (eF (eP dg (aa (b9 5 (eC (.int 1))) (aa (eC (.int 1)) ak)))))
 (aW (fH (nu (qB (eF (eP QF (aa (eF (ao 2)) (aa (eC (.int 0)) ak))))) (qB (eF (eP Gx (aa (b9 5 (eC (.int 0))) (aa (eF (xy 1 iy (b9 0 (eC (.int 0))))) ak)))))) wN b7)
 (kq (eT (eM 1 hAppend (aa (eF (ao 5)) ak))))))))
def BO(eB:FM)(iu:Addr):GX:=
 (JJ (bX 5 (aO eB (aQ (eF (ao 4)) aY)))
 (JJ (fH (nu (qB (eF (eP E4 (aa (eF (ao 5)) (aa (eC .cD) ak))))) (nu (qB (eF (eP Tn (aa (b9 5 (eC (.int 1))) (aa (eC (.int 5)) ak))))) (qB (eF (eP fGe (aa (eF (ao 3)) (aa (eC (.int 4)) ak))))))) wN b7)
 (JJ (Hy (λi j=>i-j) 2 (eF (eP dg (aa (b9 5 (eC (.int 1))) (aa (eC (.int 1)) ak)))))
 (ZD (nu (qB (eF (eP QF (aa (eF (ao 2)) (aa (eC (.int 0)) ak))))) (qB (eF (eP Gx (aa (b9 5 (eC (.int 0))) (aa (eF (xy 1 iy (b9 0 (eC (.int 0))))) ak)))))) (Ay iu ["at"] (aa (eF (ao 3)) ak)) xNo))))
def BP(eB:FM)(iu:Addr):GX:=
 (JJ (bX 1 (eP kj ak))
 (JJ (bX 2 (eT (eC (.int 12))))
 (Lu (C7 2 (mS (bName 3) (mS (bName 4) EK))) (Jr (aa (eF (eP iZ (aa (eF (ao 0)) (aa (eC (.str " ")) ak)))) ak)) (BO eB iu) (BN eB iu))))
def rG(FP:FM)(FQ:FX)(iu:Addr):GS:=
 (aW (bX 1 (eT (eC .cD)))
 (aW (Ls 2 [iu] (kq (aO FP (aQ (eF (ao 0)) aY))) (yD FQ (aQ (eF (ao 0)) aY)) (bX 1 (eT (JL [iu] "at" (ao 2)))))
 (bK (ao 1))))
def OT:FM:=bz 1 (Ib AF AG Dq)
def xF:FM:=bz 2 (Ic AF OT)
def OU:FM:=bz 1 BJ
def AM:FM:=bz 1 (BK OU)
def pairF:FM:=bz 2 (FO AG)
def rtF:FM:=bz 6 (DG pairF)
def rtX:FX:=mK 6 (BP pairF NT)
def LJ:FM:=bz 3 (rG rtF rtX NT)
noncomputable abbrev Si(a b:Int):List D:=[.tup [.str "a",.int 5],.tup [.str "ab",.int a],.tup [.str "b",.int b]]
inductive M5:Int->Int->Prop
 |a:M5 0 4
 |b:M5 1 3
 |c:M5 2 2
 |d:M5 3 1
 |e:M5 4 0
structure aei(a b:Int):Prop where
 i1:xF [.t (.tup (Si a b))]=some (.t (.bl true),[])
 i2:xF [.t (.tup (Si a b++[.tup [.str "x",.int 0]]))]=some (.t (.bl false),[])
 s:∃z:Str,z.length<=100/\AM [.t (.tup (Si a b))]=some (.t (.str z),[])/\LJ [.t (.str z)]=some (.t .cD,[])/\LJ [.t (.str (z++" x.0"))]=some (.t (.int 3),[])
def Wr{b:Int}(h:M5 a b):aei a b:=by
 cases h
 .exact⟨by kernel_rfl,by kernel_rfl,"a.5 ab.0 b.4",by decide,by kernel_rfl,by kernel_rfl,by kernel_rfl⟩
 .exact⟨by kernel_rfl,by kernel_rfl,"a.5 ab.1 b.3",by decide,by kernel_rfl,by kernel_rfl,by kernel_rfl⟩
 .exact⟨by kernel_rfl,by kernel_rfl,"a.5 ab.2 b.2",by decide,by kernel_rfl,by kernel_rfl,by kernel_rfl⟩
 .exact⟨by kernel_rfl,by kernel_rfl,"a.5 ab.3 b.1",by decide,by kernel_rfl,by kernel_rfl,by kernel_rfl⟩
 .exact⟨by kernel_rfl,by kernel_rfl,"a.5 ab.4 b.0",by decide,by kernel_rfl,by kernel_rfl,by kernel_rfl⟩
@[simp] theorem aej(gA:GA)(S:SS):Vz gA S=(gA S).bind λp=>match p.1 with
 |[.lst ds]=>some (ds.reverse,p.2)
 |_=>none:=rfl
@[simp] theorem abw(d e:D):Cz [d,e]=(xw d).bind λq=>(xw e).map λr=>.m (.lst (Dn q.2 r.2)):=rfl
@[simp] theorem OF(ds:List D):xw (.lst ds)=some (true,ds):=rfl
@[simp] theorem OG(ds:List D):xw (.tup ds)=some (false,ds):=rfl
noncomputable def bl(l:List Bool):List D:=l.map D.bl
def xG(l:List Bool):(bl l).length=l.length:=aaw ..
def OV(ds:List D)(d:D):ia (ds++[d]) (-1)=some d:=by
 unfold ia IT;rw[aaG,acE];have h1:¬(0:Int)<=-1:=by decide
 rw[if_neg h1];have h2:(-(((ds.length+1:Nat)):Int)<=-1):=by lia
 rw[if_pos h2,aau];have h3:((-1:Int)+((ds.length+1:Nat):Int)).toNat=ds.length:=by lia
 have h4:((((ds.length+1:Nat):Int))+(-1)).toNat=ds.length:=by lia
 first|rw[h3]|rw[h4]
 simp
def OW(ds:List D)(k:Nat):L2.cutD ds (some (k:Int)) none=ds.drop k:=by
 unfold L2.cutD;rw[HT.MR,HT.Qn];by_cases h:k<=ds.length
 .rw[Nat.min_eq_left h,afT (by rw[ael];lia)]
 .rw[Nat.min_eq_right (by lia),List.drop_of_length_le (aaq _),List.drop_of_length_le (by lia),List.take_nil]
def FT(ds:List D):L2.cutD ds none (some (-1))=ds.take (ds.length-1):=by
 unfold L2.cutD HT.iz;simp only[afI]
 congr 1
 simp;lia
def qp:GS:=
 (bK (iP [] (nv (eF (ao 0))) iy (eQ (qx (qB (eF (ao 0)))))))
def turnF:FM:=bz 1 qp
def LK(l:List Bool)(S:SS):cM [] iy (eQ (qx (qB (eF (ao 0))))) (bl l) S []=some (bl (l.map λb=>!b),S):=by
 have:=comp_map (cap:=[]) (g:=eQ (qx (qB (eF (ao 0))))) (S:=S) (λd=>match d with|.bl b=>.bl (!b)|d=>d) (bl l) [] (λd hd acc=>by
  obtain⟨b,_,rfl⟩:=afE.mp hd
  kernel_rfl)
 rw[this,agb]
 congr 2
 unfold bl;rw[List.map_map,List.map_map];rfl
def AN(h:l.length<=100000):turnF [.t (.lst (bl l))]=some (.m (.lst (bl (l.map λb=>!b))),[]):=by
 have e:=LK l [AAA (.lst (bl l))];have hl:=xG l;simp[turnF,bz,qp,iE,hl,h,e]
def jL:GS:=
 (kq (eT (eM 2 hAppend (aa (eQ (nu (qB (eF (ao 4))) (qB (eQ (qy (qB (eF (ao 3))) (qB (b9 2 (eF (eP C5 (aa (eC (.int 1)) ak)))))))))) ak))))
def CH:GS:=
 (aW (bX 2 (eP kj (aa (eC (.bl false)) ak)))
 (aW (qz (C7 2 (mS (bName 3) (mS (bName 4) EK))) (Vz (aa (eF (eP Cz (aa (eF (ao 0)) (aa (eF (ao 1)) ak)))) ak)) (jL))
 (aW (kq (eT (eM 2 ff ak)))
 (bK (ao 2)))))
def CI:FM:=bz 5 CH
noncomputable def jg:List (Bool×Bool)->List Bool
 |[]=>[false]
 |p::ps=>(p.2 || (p.1 && (jg ps).headD false))::jg ps
theorem FU:∀ps,∃h t,jg ps=h::t
 |[]=>⟨_,_,rfl⟩
 |_::_=>⟨_,_,rfl⟩
theorem xH:∀ps,(jg ps).length=ps.length+1
 |[]=>rfl
 |_::ps=>by show(jg ps).length+1=_;rw[xH ps];rfl
def pd(p:Bool×Bool):D:=.tup [.bl p.1,.bl p.2]
def LL(a b:D)(ps:List (Bool×Bool))(hb:ps.length<99999):∃x3 x4,loop (C7 2 (mS (bName 3) (mS (bName 4) EK))) jL (ps.map pd).reverse [AAA a,AAA b,AAB [.bl false],none,none]=
  some (.nx [AAA a,AAA b,AAB (bl (jg ps).reverse),x3,x4]):=by
 obtain⟨S',e,qs,ps',x3,x4,h1,h2,h3,rfl⟩:=Sq.v8 (bd:=C7 2 (mS (bName 3) (mS (bName 4) EK))) (body:=jL) (ps.map pd).reverse
  (λr S=>∃(qs ps':List (Bool×Bool))(x3 x4:Option U),r=(qs.map pd).reverse/\qs++ps'=ps/\(CA x3=false/\CA x4=false)/\S=[AAA a,AAA b,AAB (bl (jg ps').reverse),x3,x4]) _ ⟨ps,[],none,none,rfl,abE _,⟨rfl,rfl⟩,rfl⟩ (by
   rintro d r S ⟨qs,ps',x3,x4,h1,h2,⟨h3,h4⟩,rfl⟩;rcases List.eq_nil_or_concat qs with rfl|⟨qs',q,rfl⟩
   .cases h1
   .rw[List.concat_eq_append,afB,List.reverse_append]at h1;have h1:d::r=pd q::(qs'.map pd).reverse:=h1;injection h1 with h1 hr
    subst h1;obtain⟨hd,tl,hc⟩:=FU ps';have el:bl (jg ps').reverse=bl tl.reverse++[.bl hd]:=by rw[hc];simp[bl]
    have ea:=OV (bl tl.reverse) (.bl hd);rw[<-el]at ea;have hlen:(bl (jg ps').reverse).length<100000:=by
     have z:=congrArg List.length h2;rw[aaG]at z;rw[xG,agg,xH];lia
    have ew:bl (jg (q::ps')).reverse=bl (jg ps').reverse++[.bl (q.2 || (q.1 && hd))]:=by simp[jg,hc,bl]
    refine⟨[AAA a,AAA b,AAB (bl (jg ps').reverse),AAA (.bl q.1),AAA (.bl q.2)],[AAA a,AAA b,AAB (bl (jg (q::ps')).reverse),AAA (.bl q.1),AAA (.bl q.2)],?_,?_,qs',q::ps',_,_,hr,by rw[<-h2,List.concat_eq_append];simp,⟨rfl,rfl⟩,rfl⟩
    .simp[-fM,dj,pd,h3,h4]
    .obtain⟨q1,q2⟩:=q;rw[ew];cases q2 with
     |true=>simp[jL,hlen]
     |false=>
      cases q1 with
      |false=>simp[jL,hlen]
      |true=>simp[jL,ea,hlen])
 have:qs=[]:=by
  have:=congrArg List.length h1
  simpa using this.symm
 subst this;rw[agb]at h2;subst h2;exact⟨x3,x4,e⟩
def Sj(s c:List Bool):Dn (bl s) (bl c)=(s.zip c).map pd:=by
 unfold Dn bl;rw[List.zipWith_map,List.zip_eq_zipWith,List.map_zipWith];rfl
def OX(s c:List Bool)(h:c.length<99999):CI [.t (.lst (bl s)),.t (.lst (bl c))]=some (.m (.lst (bl (jg (s.zip c)))),[]):=by
 obtain⟨x3,x4,e⟩:=LL (.lst (bl s)) (.lst (bl c)) (s.zip c) (by rw[agS];lia);rw[<-Sj]at e;have er:(bl (jg (s.zip c)).reverse).reverse=bl (jg (s.zip c)):=by simp[bl]
 simp[CI,bz,CH,e,er]
def xJ(OY:FM):GS:=
 (bK (aO OY (aQ (eF (eP NJ (aa (eF (eP kj (aa (eC (.bl true)) ak))) (aa (lE 0) ak)))) (aQ (eF (ao 0)) aY))))
def AO(aM bF:FM):GS:=
 (bK (aO aM (aQ (eF (aO bF (aQ (eF (aO aM (aQ (eF (ao 0)) aY))) aY))) aY)))
def yF:FM:=bz 1 (xJ CI)
def AQ:FM:=bz 1 (AO turnF yF)
def Sk(n:Nat):(List.replicate n [D.bl true]).flatten=bl (List.replicate n true):=by
 induction n with
 |zero=>rfl
 |succ n ih=>rw[abQ,acS,ih,abQ];rfl
def uF(c:List Bool):List Bool:=jg ((List.replicate c.length true).zip c)
def yG(c:List Bool):List Bool:=(uF (c.map λb=>!b)).map λb=>!b
def tZ(c:List Bool):(uF c).length=c.length+1:=by unfold uF;rw[xH,agS,afZ,Nat.min_self]
def FW(h:c.length<99999):yF [.t (.lst (bl c))]=some (.m (.lst (bl (uF c))),[]):=by
 have e:=OX (List.replicate c.length true) c h;have h':c.length<=100000:=by lia
 have er:=Sk c.length;have hl:=xG c;show bz 1 (xJ CI) _=_;generalize CI=f at *;simp[bz,xJ,hl,h',er,e,uF]
def LM(h:c.length<99999):AQ [.t (.lst (bl c))]=some (.m (.lst (bl (yG c))),[]):=by
 have e1:=AN (l:=c) (by lia);have e2:=FW (c:=c.map λb=>!b) (by rw[aaw];exact h);have e3:=AN (l:=uF (c.map λb=>!b)) (by rw[tZ,aaw];lia);show bz 1 (AO turnF yF) _=_;generalize turnF=f at *;generalize yF=g at *;simp[bz,AO,e1,e2,e3,yG]
def rH(yZ:FM):GS:=
 (aW (fH (qB (NW true 2 (eF (ao 0)))) (ND 2 (eF (ao 0)) (eF (aO yZ (aQ (eF (ao 0)) (aQ (eF (ao 1)) (iD (ao 2) aY)))))) b7)
 (bK (eT (b9 2 (eF (ao 0))))))
def bZ(bQ br aM bR bF:FM):GS:=
 (aW (bX 3 (eT (b9 0 (eC (.int 0)))))
 (aW (fH (nu (qB (eF (eP lD (aa (eF (ao 3)) (aa (eC (.str "yes")) ak))))) (qB (eF (eP lD (aa (eF (ao 3)) (aa (eC (.str "no")) ak)))))) (bK (eP NJ (aa (eF (eP kj (aa (eF (eP lD (aa (eF (ao 3)) (aa (eC (.str "yes")) ak)))) ak))) (aa (eF (eP dg (aa (lE 1) (aa (eC (.int 1)) ak)))) ak)))) b7)
 (aW (fH (qB (eF (eP lD (aa (eF (ao 3)) (aa (eC (.str "now")) ak))))) (bK (eP dg (aa (eF (iP [0] (nv (eF (ao 1))) iy (eF (aO bQ (aQ (b9 1 (eC (.int 1))) (aQ (eF (ao 0)) aY)))))) (aa (eF (eP kj (aa (eC (.bl false)) ak))) ak)))) b7)
 (aW (fH (qB (eF (eP lD (aa (eF (ao 3)) (aa (eC (.str "each")) ak))))) wN b7)
 (aW (fH (qB (eF (eP lD (aa (eF (ao 3)) (aa (eC (.str "one")) ak))))) wN b7)
 (aW (bX 4 (aO br (aQ (b9 0 (eF (eP C5 (aa (eC (.int 1)) ak)))) (aQ (eF (ao 1)) (iD (ao 2) aY)))))
 (aW (fH (qB (eF (eP lD (aa (eF (ao 3)) (aa (eC (.str "not")) ak))))) (bK (aO aM (aQ (eF (ao 4)) aY))) b7)
 (aW (fH (qB (eF (eP lD (aa (eF (ao 3)) (aa (eC (.str "next")) ak))))) (bK (eP dg (aa (eF (NF (eF (ao 4)) (some (eC (.int 1))) none)) (aa (eF (eP kj (aa (eC (.bl false)) ak))) ak)))) b7)
 (aW (fH (qB (eF (eP lD (aa (eF (ao 3)) (aa (eC (.str "always")) ak))))) (bK (aO bR (aQ (eF (NF (eF (ao 4)) none (some (eF (eP C5 (aa (eC (.int 1)) ak)))))) aY))) b7)
 (aW (fH (qB (eF (eP lD (aa (eF (ao 3)) (aa (eC (.str "some")) ak))))) (bK (aO bF (aQ (eF (NF (eF (ao 4)) none (some (eF (eP C5 (aa (eC (.int 1)) ak)))))) aY))) b7)
 (aW (fH (qB (eF (eP lD (aa (eF (ao 3)) (aa (eC (.str "within")) ak))))) wN b7)
 (aW wN
 (aW wN
 (aW wN
 wN))))))))))))))
def th0(bQ br aM bR bF:FM):GS:=
 (bX 3 (eT (b9 0 (eC (.int 0)))))
def th1(bQ br aM bR bF:FM):GS:=
 (fH (nu (qB (eF (eP lD (aa (eF (ao 3)) (aa (eC (.str "yes")) ak))))) (qB (eF (eP lD (aa (eF (ao 3)) (aa (eC (.str "no")) ak)))))) (bK (eP NJ (aa (eF (eP kj (aa (eF (eP lD (aa (eF (ao 3)) (aa (eC (.str "yes")) ak)))) ak))) (aa (eF (eP dg (aa (lE 1) (aa (eC (.int 1)) ak)))) ak)))) b7)
def th2(bQ br aM bR bF:FM):GS:=
 (fH (qB (eF (eP lD (aa (eF (ao 3)) (aa (eC (.str "now")) ak))))) (bK (eP dg (aa (eF (iP [0] (nv (eF (ao 1))) iy (eF (aO bQ (aQ (b9 1 (eC (.int 1))) (aQ (eF (ao 0)) aY)))))) (aa (eF (eP kj (aa (eC (.bl false)) ak))) ak)))) b7)
def th3(bQ br aM bR bF:FM):GS:=
 (fH (qB (eF (eP lD (aa (eF (ao 3)) (aa (eC (.str "each")) ak))))) wN b7)
def th4(bQ br aM bR bF:FM):GS:=
 (fH (qB (eF (eP lD (aa (eF (ao 3)) (aa (eC (.str "one")) ak))))) wN b7)
def th5(bQ br aM bR bF:FM):GS:=
 (bX 4 (aO br (aQ (b9 0 (eF (eP C5 (aa (eC (.int 1)) ak)))) (aQ (eF (ao 1)) (iD (ao 2) aY)))))
def th6(bQ br aM bR bF:FM):GS:=
 (fH (qB (eF (eP lD (aa (eF (ao 3)) (aa (eC (.str "not")) ak))))) (bK (aO aM (aQ (eF (ao 4)) aY))) b7)
def th7(bQ br aM bR bF:FM):GS:=
 (fH (qB (eF (eP lD (aa (eF (ao 3)) (aa (eC (.str "next")) ak))))) (bK (eP dg (aa (eF (NF (eF (ao 4)) (some (eC (.int 1))) none)) (aa (eF (eP kj (aa (eC (.bl false)) ak))) ak)))) b7)
def th8(bQ br aM bR bF:FM):GS:=
 (fH (qB (eF (eP lD (aa (eF (ao 3)) (aa (eC (.str "always")) ak))))) (bK (aO bR (aQ (eF (NF (eF (ao 4)) none (some (eF (eP C5 (aa (eC (.int 1)) ak)))))) aY))) b7)
def th9(bQ br aM bR bF:FM):GS:=
 (fH (qB (eF (eP lD (aa (eF (ao 3)) (aa (eC (.str "some")) ak))))) (bK (aO bF (aQ (eF (NF (eF (ao 4)) none (some (eF (eP C5 (aa (eC (.int 1)) ak)))))) aY))) b7)
def ZY(bQ br aM bR bF:FM):GS:=
 (fH (qB (eF (eP lD (aa (eF (ao 3)) (aa (eC (.str "within")) ak))))) wN b7)
def ZZ(bQ br aM bR bF:FM):GS:=
 wN
def Z0(bQ br aM bR bF:FM):GS:=
 wN
def Z1(bQ br aM bR bF:FM):GS:=
 wN
def Z2(bQ br aM bR bF:FM):GS:=
 wN
def Z3(bQ br aM bR bF:FM):bZ bQ br aM bR bF=aW (th0 bQ br aM bR bF) (aW (th1 bQ br aM bR bF) (aW (th2 bQ br aM bR bF) (aW (th3 bQ br aM bR bF) (aW (th4 bQ br aM bR bF) (aW (th5 bQ br aM bR bF) (aW (th6 bQ br aM bR bF) (aW (th7 bQ br aM bR bF) (aW (th8 bQ br aM bR bF) (aW (th9 bQ br aM bR bF) (aW (ZY bQ br aM bR bF) (aW (ZZ bQ br aM bR bF) (aW (Z0 bQ br aM bR bF) (aW (Z1 bQ br aM bR bF) (Z2 bQ br aM bR bF)))))))))))))):=rfl
def J1(a b:D):ia [a,b] (-1)=some b:=rfl
def qA{a b:GS}(h:a S=some (.nx S1)):aW a b S=b S1:=by unfold aW;rw[h];rfl
def LN{a b:GS}{u:U}(h:a S=some (.rt u S1)):aW a b S=some (.rt u S1):=by unfold aW;rw[h];rfl
def fq(h:S[3]? =some (AAA (.str z)))(lit:Str):qB (eF (eP lD (aa (eF (ao 3)) (aa (eC (.str lit)) ak)))) S=some (decide (z=lit),S):=by
 by_cases c:z=lit
 .subst c;simp[h]
 .simp[h,c]
def DH{lit:Str}(h:S[3]? =some (AAA (.str z)))(hn:z≠lit):fH (qB (eF (eP lD (aa (eF (ao 3)) (aa (eC (.str lit)) ak))))) A b7 S=some (.nx S):=by
 have e:=fq h lit;rw[ab6 hn]at e;simp only[Od,e];rfl
def FY(h:S[3]? =some (AAA (.str z))):fH (qB (eF (eP lD (aa (eF (ao 3)) (aa (eC (.str z)) ak))))) A b7 S=A S:=by
 have e:=fq h z;rw[acY rfl]at e;simp only[Od,e];rfl
def Z4(h:S[3]? =some (AAA (.str z)))(h1:z≠"yes")(h2:z≠"no"):fH (nu (qB (eF (eP lD (aa (eF (ao 3)) (aa (eC (.str "yes")) ak))))) (qB (eF (eP lD (aa (eF (ao 3)) (aa (eC (.str "no")) ak)))))) A b7 S=some (.nx S):=by
 have e:=fq h "yes";have e':=fq h "no";rw[ab6 h1]at e;rw[ab6 h2]at e';simp only[Od,Zd,e,e',aau,acp,aey];rfl
def aem{g:GS}{a b:D}{kvs:List (D×D)}{u:MO}{z v:Option U}(h:g [AAA a,AAA b,some (.b (.fT kvs)),none,none,none]=some (.rt (.m u) [x,y,some (.b (.fT kvs')),z,v,w])):bz 6 g [.t a,.t b,.b (.fT kvs)]=some (.m u,[.fT kvs']):=by
 unfold bz;show(g [AAA a,AAA b,some (.b (.fT kvs)),none,none,none]).bind _=_;rw[h]
 kernel_rfl
section
variable {fp ft dB iS dD:FM}{p r:D}{kvs kvs' QZ:List (D×D)}{o:MO}{l l2:List D}{rs ds:List D}{z:Str}
noncomputable abbrev SA(z:Str)(ds:List D)(r:D)(kvs:List (D×D)):SS:=[AAA (.tup (.str z::ds)),AAA r,some (.b (.fT kvs)),AAA (.str z),none,none]
noncomputable abbrev SB(z:Str)(ds:List D)(r:D)(kvs:List (D×D))(l:List D):SS:=[AAA (.tup (.str z::ds)),AAA r,some (.b (.fT kvs)),AAA (.str z),AAA (.lst l),none]
def ta0:th0 fp ft dB iS dD [AAA (.tup (.str z::ds)),AAA r,some (.b (.fT kvs)),none,none,none]=some (.nx (SA z ds r kvs)):=by
 simp[th0,AB]
def ta5(hl:ia (.str z::ds) (-1)=some p)(e:ft [.t p,.t r,.b (.fT kvs)]=some (.t (.lst l),[.fT kvs'])):th5 fp ft dB iS dD (SA z ds r kvs)=some (.nx (SB z ds r kvs' l)):=by
 simp[th5,hl,e]
abbrev Ua(fp ft dB iS dD:FM):GS:=aW (th6 fp ft dB iS dD) (aW (th7 fp ft dB iS dD) (aW (th8 fp ft dB iS dD) (aW (th9 fp ft dB iS dD) (aW (ZY fp ft dB iS dD) (aW (ZZ fp ft dB iS dD) (aW (Z0 fp ft dB iS dD) (aW (Z1 fp ft dB iS dD) (Z2 fp ft dB iS dD))))))))
abbrev Z5(fp ft dB iS dD:FM):GS:=aW (th1 fp ft dB iS dD) (aW (th2 fp ft dB iS dD) (aW (th3 fp ft dB iS dD) (aW (th4 fp ft dB iS dD) (aW (th5 fp ft dB iS dD) (Ua fp ft dB iS dD)))))
def tb_start{v u:Option U}(h:Z5 fp ft dB iS dD (SA z ds r kvs)=some (.rt (.m o) [x,y,some (.b (.fT kvs')),v,w,u])):bz 6 (bZ fp ft dB iS dD) [.t (.tup (.str z::ds)),.t r,.b (.fT kvs)]=some (.m o,[.fT kvs']):=by
 refine aem (x:=x) (y:=y) (z:=v) (v:=w) (w:=u) ?_;rw[Z3];exact(qA ta0).trans h
structure Inner(z:Str):Prop where
 n1:z≠"yes"
 n2:z≠"no"
 n3:z≠"now"
 n4:z≠"each"
 n5:z≠"one"
def wu{v u:Option U}(hz:Inner z)(hl:ia (.str z::ds) (-1)=some p)(e:ft [.t p,.t r,.b (.fT kvs)]=some (.t (.lst l),[.fT kvs']))(h:Ua fp ft dB iS dD (SB z ds r kvs' l)=some (.rt (.m o) [x,y,some (.b (.fT QZ)),v,w,u])):bz 6 (bZ fp ft dB iS dD) [.t (.tup (.str z::ds)),.t r,.b (.fT kvs)]=some (.m o,[.fT QZ]):=
 tb_start (x:=x) (y:=y) (v:=v) (w:=w) (u:=u) ((qA (Z4 rfl hz.n1 hz.n2)).trans ((qA (DH rfl hz.n3)).trans ((qA (DH rfl hz.n4)).trans ((qA (DH rfl hz.n5)).trans ((qA (ta5 hl e)).trans h)))))
def Ws(hn:n<90000)(hr:r= .tup rs\/r= .lst rs)(hl:rs.length=n):
  bz 6 (bZ fp ft dB iS dD) [.t (.tup [.str "yes"]),.t r,.b (.fT kvs)]=some (.m (.lst (List.replicate (n+1) (.bl true))),[.fT kvs]):=by
 have h1:((n:Int)+1).toNat=n+1:=by lia
 have h2:(0:Int)<=(n:Int)+1:=by lia
 have h3:n+1<=100000:=by lia
 have e:∀b:D,(List.replicate (n+1) [b]).flatten=List.replicate (n+1) b:=λb=>by
  induction (n+1) with
  |zero=>rfl
  |succ m ih=>rw[abQ,acS,ih,abQ];rfl
 refine tb_start (x:=AAA (.tup [.str "yes"])) (y:=AAA r) (v:=AAA (.str "yes")) (w:=none) (u:=none) (LN ?_);rcases hr with rfl|rfl<;>simp[th1,hl,h1,h2,h3,e]
def Wt(e:ft [.t p,.t r,.b (.fT kvs)]=some (.t (.lst l),[.fT kvs']))(e2:dB [.t (.lst l)]=some (.m o,[])):
  bz 6 (bZ fp ft dB iS dD) [.t (.tup [.str "not",p]),.t r,.b (.fT kvs)]=some (.m o,[.fT kvs']):=
 wu (⟨by decide,by decide,by decide,by decide,by decide⟩) (J1 _ _) e (LN ((FY rfl).trans (by simp[e2];exact⟨rfl,rfl,rfl,rfl,rfl⟩)))
def Sl(e:ft [.t p,.t r,.b (.fT kvs)]=some (.t (.lst l),[.fT kvs']))(hl:(l.drop 1).length<90000):
  bz 6 (bZ fp ft dB iS dD) [.t (.tup [.str "next",p]),.t r,.b (.fT kvs)]=some (.m (.lst (l.drop 1++[.bl false])),[.fT kvs']):=by
 have c:L2.cutD l (some 1) none=l.drop 1:=OW l 1;have h:(l.drop 1).length+1<=100000:=by lia
 exact wu (⟨by decide,by decide,by decide,by decide,by decide⟩) (J1 _ _) e ((qA (DH rfl (by decide))).trans (LN ((FY rfl).trans (by simp[-List.drop_one,-List.length_drop,c,mT,h];exact⟨rfl,rfl,rfl,rfl,rfl⟩))))
def LO(e:ft [.t p,.t r,.b (.fT kvs)]=some (.t (.lst l),[.fT kvs']))(hc:l.take (l.length-1)=l2)(e2:iS [.t (.lst l2)]=some (.m o,[])):
  bz 6 (bZ fp ft dB iS dD) [.t (.tup [.str "always",p]),.t r,.b (.fT kvs)]=some (.m o,[.fT kvs']):=by
 have c:=(FT l).trans hc;exact wu (⟨by decide,by decide,by decide,by decide,by decide⟩) (J1 _ _) e ((qA (DH rfl (by decide))).trans ((qA (DH rfl (by decide))).trans (LN ((FY rfl).trans (by simp[c,mT,e2];exact⟨rfl,rfl,rfl,rfl,rfl⟩)))))
def Sm(e:ft [.t p,.t r,.b (.fT kvs)]=some (.t (.lst l),[.fT kvs']))(hc:l.take (l.length-1)=l2)(e2:dD [.t (.lst l2)]=some (.m o,[])):
  bz 6 (bZ fp ft dB iS dD) [.t (.tup [.str "some",p]),.t r,.b (.fT kvs)]=some (.m o,[.fT kvs']):=by
 have c:=(FT l).trans hc;exact wu (⟨by decide,by decide,by decide,by decide,by decide⟩) (J1 _ _) e ((qA (DH rfl (by decide))).trans ((qA (DH rfl (by decide))).trans ((qA (DH rfl (by decide))).trans (LN ((FY rfl).trans (by simp[c,mT,e2];exact⟨rfl,rfl,rfl,rfl,rfl⟩))))))
end
abbrev Row:=List (Str×Int)
def Rw(R:Row)(r:D):Prop:=r= .tup (R.map CC)\/r= .lst (R.map CC)
section
variable {fp ft dB iS dD Z6:FM}{r t:D}{kvs kvs':List (D×D)}{l:List D}{R:Row}
def OZ(d:D)(hd:d= .tup [.str "now",t])(b:Str×Int->Bool)(hp:∀h∈R,fp [.t t,.t (CC h)]=some (.t (.bl (b h)),[]))(hS:S1[0]? =some (AAA d)):
  cM [0] iy (eF (aO fp (aQ (b9 1 (eC (.int 1))) (aQ (eF (ao 0)) aY)))) (R.map CC) S1 []=some (bl (R.map b),S1):=by
 subst hd;have:∀(R':Row)(acc:List D),(∀h∈R',h∈R)->cM [0] iy (eF (aO fp (aQ (b9 1 (eC (.int 1))) (aQ (eF (ao 0)) aY)))) (R'.map CC) S1 acc=some (acc++bl (R'.map b),S1):=by
  intro R'
  induction R' with
  |nil=>intro acc _;simp[cM,bl]
  |cons h R' ih=>
   intro acc hm;have e:=hp h (hm h aav);rw[abR,Sq.uW];have e1:cM [0] iy (eF (aO fp (aQ (b9 1 (eC (.int 1))) (aQ (eF (ao 0)) aY)))) [CC h] S1 acc=some (acc++[.bl (b h)],S1):=by
    simp[cM,ie,uS,hS,R5,e]
   rw[e1,aau,ih _ λx hx=>hm x (aar _ hx)];simp[bl]
 simpa using this R [] λ_ h=>h
def Ie(b:Str×Int->Bool)(hp:∀h∈R,fp [.t t,.t (CC h)]=some (.t (.bl (b h)),[]))(hr:Rw R r)(hl:R.length<90000):
  bz 6 (bZ fp ft dB iS dD) [.t (.tup [.str "now",t]),.t r,.b (.fT kvs)]=some (.m (.lst (bl (R.map b++[false]))),[.fT kvs]):=by
 have e:=λS1 hS=>OZ (S1:=S1) (.tup [.str "now",t]) rfl b hp hS;have h1:(R.map CC).length<=100000:=by rw[aaw];lia
 have h2:(bl (R.map b)).length+1<=100000:=by rw[xG,aaw];lia
 have e2:bl (R.map b)++[.bl false]=bl (R.map b++[false]):=by simp[bl]
 refine tb_start (x:=AAA (.tup [.str "now",t])) (y:=AAA r) (v:=AAA (.str "now")) (w:=none) (u:=none) ((qA (Z4 rfl (by decide) (by decide))).trans (LN ((FY rfl).trans ?_)));rcases hr with rfl|rfl<;>simp[-List.length_map,iE,h1,h2,e,e2]
def Wu{d:D}(hk:xj d=some d)(h:dY kvs d=none)(e:Z6 [.t d,.t r,.b (.fT kvs)]=some (.m (.lst l),[.fT kvs']))(hl:kvs'.length<10000000)(h2:dY (putD kvs' d (.lst l)) d=some (.lst l)):
  bz 3 (rH Z6) [.t d,.t r,.b (.fT kvs)]=some (.t (.lst l),[.fT (putD kvs' d (.lst l))]):=by
 simp[bz,rH,NW,Rm,hk,h,e,hl,h2]
end
def BQ{κ:Type}[DecidableEq κ](kvs:List (κ×D))(k:κ)(v:D):dY (putD kvs k v) k=some v:=by
 unfold putD;split
 .rename_i h
  induction kvs with
  |nil=>simp at h
  |cons p ps ih=>
   by_cases e:p.1=k
   .simp[dY,acD,e]
   .have h':(ps.any λkv=>decide (kv.1=k))=true:=by simpa[adW,e] using h
    have:=ih h'
    simpa[dY,acD,e] using this
 .rename_i h
  induction kvs with
  |nil=>simp[dY]
  |cons p ps ih=>
   have e:¬p.1=k:=λq=>h (by simp[adW,q]);have h':¬(ps.any λkv=>decide (kv.1=k))=true:=λq=>h (by simp[adW,q]);have:=ih h'
   simpa[dY,acD,e] using this
def AR{κ:Type}[DecidableEq κ](kvs:List (κ×D))(k:κ)(v:D):(putD kvs k v).length<=kvs.length+1:=by
 unfold putD;split
 .rw[aaw];lia
 .simp
def O0:GS:=
 (aW (bX 2 (eT (b9 0 (eC (.int 0)))))
 (aW (fH (qB (eF (eP lD (aa (eF (ao 2)) (aa (eC (.str "any")) ak))))) (bK (eT (eC (.bl true)))) b7)
 (aW (fH (qB (eF (eP lD (aa (eF (ao 2)) (aa (eC (.str "name")) ak))))) (bK (eP lD (aa (b9 1 (eC (.int 0))) (aa (b9 0 (eC (.int 1))) ak)))) b7)
 (aW (fH (qB (eF (eP lD (aa (eF (ao 2)) (aa (eC (.str "less")) ak))))) wN b7)
 (aW (fH (qB (eF (eP lD (aa (eF (ao 2)) (aa (eC (.str "same")) ak))))) wN b7)
 (bK (eP Tn (aa (b9 1 (eC (.int 1))) (aa (b9 0 (eC (.int 1))) ak)))))))))
def AS:FM:=bz 3 O0
def O1(p:Str×Int):AS [.t (.tup [.str "any"]),.t (CC p)]=some (.t (.bl true),[]):=by kernel_rfl
def LP(p:Str×Int):AS [.t (.tup [.str "name",.str "a"]),.t (CC p)]=some (.t (.bl (p.1 == ("a":Str))),[]):=by kernel_rfl
def LQ(p:Str×Int):AS [.t (.tup [.str "more",.int 0]),.t (CC p)]=some (.t (.bl (decide (0<p.2))),[]):=by kernel_rfl
def Ub:Nat->FM×FM
 |0=>(λ_=>none,λ_=>none)
 |j+1=>(bz 3 (rH (Ub j).2),bz 6 (bZ AS (Ub j).1 turnF AQ yF))
def trF(j:Nat):FM:=(Ub j).1
def tbF(j:Nat):FM:=(Ub j).2
noncomputable def lv(R:Row):D->List Bool
 |.tup [_,.tup [_]]=>R.map (λ_=>true)++[false]
 |.tup [_,.tup [_,.str _]]=>R.map (λp=>p.1 == ("a":Str))++[false]
 |.tup [_,.tup [_,.int _]]=>R.map (λp=>decide (0<p.2))++[false]
 |_=>List.replicate (R.length+1) true
def hv(z:Str)(l:List Bool):List Bool:=if z="not" then l.map (λb=>!b) else if z="next" then l.drop 1++[false] else if z="always" then yG (l.take (l.length-1)) else uF (l.take (l.length-1))
def O2(l:List Bool):hv "not" l=l.map (λb=>!b):=if_pos rfl
def DI(l:List Bool):hv "next" l=l.drop 1++[false]:=by unfold hv;rw[if_neg (by decide),if_pos rfl]
def xK(l:List Bool):hv "always" l=yG (l.take (l.length-1)):=by unfold hv;rw[if_neg (by decide),if_neg (by decide),if_pos rfl]
def DJ(l:List Bool):hv "some" l=uF (l.take (l.length-1)):=by unfold hv;rw[if_neg (by decide),if_neg (by decide),if_neg (by decide)]
def tv(R:Row):BBB->D->List Bool
 |[],d=>lv R d
 |z::zs,d=>hv z (tv R zs d)
def Wv(R:Row){d:D}(h:Lf d ws):(lv R d).length=R.length+1:=by
 cases h with
 |yes=>exact afZ
 |_=>show(R.map _++[false]).length=_;rw[aaG,aaw];rfl
def Ww(hz:On z)(h:l.length=n+1):(hv z l).length=n+1:=by
 have e:(l.take (l.length-1)).length=n:=by rw[aek,h];lia
 cases hz
 .rw[O2,aaw,h]
 .rw[DI,aaG,ael,h];rfl
 .rw[xK];unfold yG;rw[aaw,tZ,aaw,e]
 .rw[DJ,tZ,e]
def AU(R:Row)(hz:∀z∈zs,On z){d:D}(h:Lf d ws):(tv R zs d).length=R.length+1:=by
 induction zs with
 |nil=>exact Wv R h
 |cons z zs ih=>exact Ww (hz z aav) (ih λx hx=>hz x (aar _ hx))
def So(l:List Bool)(n:Nat):(bl l).take n=bl (l.take n):=by unfold bl;rw[List.map_take]
def Wx(m:Nat)(z:Str):jF m (.str z)=true:=by cases m<;>rfl
theorem Uc{d:D}{ws:BBB}(h:Lf d ws):∀(zs:BBB){n:Nat},zs.length+2<=n->jF n (chain zs (.lf d ws)).d=true
 |[],n,hn=>by
  obtain⟨m,rfl⟩:∃m,n=m+1+1:=⟨n-2,by have:0+2<=n:=hn;lia⟩
  cases h<;>cases m<;>rfl
 |z::zs,n,hn=>by
  have hn:zs.length+1+2<=n:=hn;obtain⟨m,rfl⟩:∃m,n=m+1:=⟨n-1,by lia⟩
  show(jF m (.str z) && (jF m (chain zs (.lf d ws)).d && true))=true;rw[Wx,Uc h zs (by lia)];rfl
theorem Ud{d:D}{ws:BBB}(h:Lf d ws):∀zs:BBB,nf (chain zs (.lf d ws)).d=(chain zs (.lf d ws)).d
 |[]=>by cases h<;>rfl
 |z::zs=>by show D.tup [nf (.str z),nf (chain zs (.lf d ws)).d]=_;rw[Ud h zs];rfl
def Ss{d:D}(h:Lf d ws)(hz:zs.length<=6):xj (chain zs (.lf d ws)).d=some (chain zs (.lf d ws)).d:=by
 obtain⟨ds,e⟩:∃ds,(chain zs (.lf d ws)).d= .tup ds:=by cases zs with|nil=>cases h<;>exact⟨_,rfl⟩|cons z zs=>exact⟨_,rfl⟩
 have k:=Uc h zs (n:=8) (by lia);have n:=Ud h zs;rw[e]at k n ⊢;show(if jF 8 (.tup ds)=true then some (nf (.tup ds)) else none)=_;rw[if_pos k,n]
def Z7{r:D}(hr:Rw R r)(hl:R.length<90000){d:D}(h:Lf d ws)(hz:∀z∈zs,On z)(h7:zs.length<=6):∀{j:Nat},2*zs.length+2<=j->∃kvs',trF j [.t (chain zs (.lf d ws)).d,.t r,.b (.fT [])]=some (.t (.lst (bl (tv R zs d))),[.fT kvs'])/\kvs'.length<=zs.length+1:=by
 have step:∀{i:Nat}{e:D}{l:List Bool}{kvs:List (D×D)},xj e=some e->tbF i [.t e,.t r,.b (.fT [])]=some (.m (.lst (bl l)),[.fT kvs])->kvs.length<=8->trF (i+1) [.t e,.t r,.b (.fT [])]=some (.t (.lst (bl l)),[.fT (putD kvs e (.lst (bl l)))]):=λ{i e l kvs} k q n=>Wu k rfl q (by lia) (BQ _ _ _)
 induction zs with
 |nil=>
  intro j hj;obtain⟨i,rfl⟩:∃i,j=i+1+1:=⟨j-2,by have:2*0+2<=j:=hj;lia⟩
  have k:xj d=some d:=by cases h<;>rfl
  refine⟨_,step k (l:=lv R d) (kvs:=[]) ?_ (abX _),by show(putD [] d _).length<=0+1;exact AR _ _ _⟩;cases h with
  |any=>exact Ie (λ_=>true) (λh _=>O1 h) hr hl
  |name=>exact Ie _ (λh _=>LP h) hr hl
  |more=>exact Ie _ (λh _=>LQ h) hr hl
  |yes=>
   have:=Ws (fp:=AS) (iS:=AQ) (dD:=yF) (ft:=(Ub i).1) (dB:=turnF) (kvs:=[]) (r:=r) (rs:=R.map CC) (n:=R.length) hl hr (aaw ..);rw[<-show bl (List.replicate (R.length+1) true)=_ from List.map_replicate]at this;exact this
 |cons z zs ih=>
  intro j hj;have hj:2*(zs.length+1)+2<=j:=hj;obtain⟨i,rfl⟩:∃i,j=i+1+1:=⟨j-2,by lia⟩
  have hzs:=λx hx=>hz x (aar _ hx);obtain⟨kvs,e,kl⟩:=ih hzs (by have:zs.length+1<=6:=h7;lia) (j:=i) (by lia);have k:=Ss h (zs:=z::zs) h7;have tl:=AU R hzs h;refine⟨_,step (i:=i+1) k (l:=hv z (tv R zs d)) (kvs:=kvs) ?_ (by have:zs.length+1<=6:=h7;lia),aaC (AR _ _ _) (Nat.succ_le_succ kl)⟩;have ht:((tv R zs d).take ((tv R zs d).length-1)).length<99999:=by rw[aek,tl];lia
  have hb:(bl (tv R zs d)).take ((bl (tv R zs d)).length-1)=bl ((tv R zs d).take ((tv R zs d).length-1)):=by rw[So,xG]
  have e:(Ub i).1 [.t (chain zs (.lf d ws)).d,.t r,.b (.fT [])]=some (.t (.lst (bl (tv R zs d))),[.fT kvs]):=e;show bz 6 (bZ AS (Ub i).1 turnF AQ yF) [.t (.tup [.str z,(chain zs (.lf d ws)).d]),.t r,.b (.fT [])]=_;generalize (Ub i).1=f at *;generalize tv R zs d=l at *;cases hz z aav
  .rw[O2];exact Wt e (AN (by lia))
  .rw[DI,show bl (l.drop 1++[false])=(bl l).drop 1++[D.bl false] by unfold bl;rw[afB,List.map_drop];rfl];exact Sl e (by rw[ael,xG,tl];lia)
  .rw[xK];exact LO e hb (LM ht)
  .rw[DJ];exact Sm e hb (FW ht)
def DK(br:FM):GS:=
 (bK (eP Pz (aa (eF (aO br (aQ (eF (ao 0)) (aQ (eF (ao 1)) (iD NV aY))))) (aa (eF (ao 2)) ak))))
def O3:FM:=bz 3 (DK (trF 24))
def LR{f:FM}{d r:D}{l:List D}{i:Int}{b:Bool}(e:f [.t d,.t r,.b (.fT [])]=some (.t (.lst l),[.fT kvs']))(ei:ia l i=some (.bl b)):bz 3 (DK f) [.t d,.t r,.t (.int i)]=some (.t (.bl b),[]):=by
 simp[bz,DK,e,ei]
noncomputable def at_(l:List Bool)(i:Nat):Bool:=l.getD i false
def Z8(h:i<l.length):ia (bl l) (i:Int)=some (.bl (at_ l i)):=by
 refine Sq.AA (by lia) ?_;have:(i:Int).toNat=i:=by lia
 unfold bl at_;rw[abx,this,aaz h,acu,aaz h];rfl
def Su{r:D}(hr:Rw R r)(hl:R.length<90000){d:D}(h:Lf d ws)(hz:∀z∈zs,On z)(h7:zs.length<=6)(hi:i<=R.length):O3 [.t (chain zs (.lf d ws)).d,.t r,.t (.int (i:Int))]=some (.t (.bl (at_ (tv R zs d) i)),[]):=by
 obtain⟨kvs,e,_⟩:=Z7 hr hl h hz h7 (j:=24) (by lia);exact LR e (Z8 (by rw[AU R hz h];lia))
theorem some_at:∀(c:List Bool){i:Nat},i<c.length->at_ (uF c) i=(at_ c i || at_ (uF c) (i+1))
 |b::c,0,_=>by
  obtain⟨h,t,e⟩:=FU ((List.replicate c.length true).zip c);show(b || (true && (jg ((List.replicate c.length true).zip c)).headD false))=(b || at_ (jg ((List.replicate c.length true).zip c)) 0);rw[e,Bool.true_and];rfl
 |b::c,i+1,h=>some_at c (i:=i) (Nat.lt_of_succ_lt_succ h)
def Ig(h:i<l.length):at_ (l.map λb=>!b) i=!at_ l i:=by
 unfold at_;rw[acu,acu,abx,aaz h];rfl
def Wy(c:List Bool)(h:i<c.length):at_ (yG c) i=(at_ c i && at_ (yG c) (i+1)):=by
 unfold yG;have hl:=tZ (c.map λb=>!b);rw[aaw]at hl;rw[Ig (by lia),Ig (by lia),some_at _ (by rw[aaw];exact h),Ig h];cases at_ c i<;>rfl
def J2(h:i<n):at_ (l.take n) i=at_ l i:=by
 unfold at_;rw[acu,acu,List.getElem?_take,if_pos h]
section
variable {R:Row}{zs:BBB}{d:D}{ws:BBB}
def Sv(hz:∀z∈zs,On z)(h:Lf d ws)(hi:i<R.length):at_ (tv R ("some" :: zs) d) i=(at_ (tv R zs d) i || at_ (tv R ("some" :: zs) d) (i+1)):=by
 have l:=AU R hz h;show at_ (hv "some" (tv R zs d)) i=(_ || at_ (hv "some" (tv R zs d)) (i+1));rw[DJ,l,agn,some_at _ (by rw[aek,l];lia),J2 hi]
def LS(hz:∀z∈zs,On z)(h:Lf d ws)(hi:i<R.length):at_ (tv R ("always" :: zs) d) i=(at_ (tv R zs d) i && at_ (tv R ("always" :: zs) d) (i+1)):=by
 have l:=AU R hz h;show at_ (hv "always" (tv R zs d)) i=(_ && at_ (hv "always" (tv R zs d)) (i+1));rw[xK,l,agn,Wy _ (by rw[aek,l];lia),J2 hi]
def Sx(hz:∀z∈zs,On z)(h:Lf d ws):at_ (tv R ("next" :: zs) d) R.length=false:=by
 have l:=AU R hz h;show at_ (hv "next" (tv R zs d)) R.length=false;rw[DI];unfold at_;rw[acu,aez (by rw[ael,l];lia),ael,l,agn,Nat.sub_self];rfl
end
def gz(rJ:FM):GS:=
 (aW (bX 4 (aO rJ (aQ (eF (ao 0)) (aQ (eF (ao 1)) (aQ (eF (ao 3)) aY)))))
 (aW (bX 5 (aO rJ (aQ (eF (eP cK (aa (eF (ao 2)) (aa (eF (ao 0)) ak)))) (aQ (eF (ao 1)) (aQ (eF (eP dg (aa (eF (ao 3)) (aa (eC (.int 1)) ak)))) aY)))))
 (aW (bX 6 (eIf (qB (eF (eP lD (aa (eF (ao 2)) (aa (eC (.str "some")) ak))))) (eT (eQ (nu (qB (eF (ao 4))) (qB (eF (ao 5)))))) (eT (eQ (qy (qB (eF (ao 4))) (qB (eF (ao 5))))))))
 (fH (qB (eF (eP BG (aa (eF (aO rJ (aQ (eF (eP cK (aa (eF (ao 2)) (aa (eF (ao 0)) ak)))) (aQ (eF (ao 1)) (aQ (eF (ao 3)) aY))))) (aa (eF (ao 6)) ak))))) (bK (eT (eC (.bl false)))) b7))))
def ju(rJ:FM):GS:=
 (qz (bName 3) (nv (eF (eP cK (aa (eC (.int 0)) (aa (eC (.int 30)) (aa (eF (eP uo (aa (lE 1) (aa (eC (.int 1)) ak)))) ak)))))) (gz rJ))
def jM(rJ:FM):GS:=
 (aW (qz (bName 2) (nv (eF (eP kj (aa (eC (.str "some")) (aa (eC (.str "always")) ak))))) (ju rJ))
 (bK (eP N1 (aa (eF (aO rJ (aQ (eF (eP cK (aa (eC (.str "next")) (aa (eF (ao 0)) ak)))) (aQ (eF (ao 1)) (aQ (lE 1) aY))))) (aa (eC (.bl false)) ak)))))
def O4:FM:=bz 7 (jM O3)
section
variable {f:FM}{s r:D}{z:Str}{x4 x5 x6:Option U}
def O5{i:Int}{a b c:Bool}(h4:CA x4=false)(h5:CA x5=false)(h6:CA x6=false)(e1:f [.t s,.t r,.t (.int i)]=some (.t (.bl a),[]))(e2:f [.t (.tup [.str z,s]),.t r,.t (.int (i+1))]=some (.t (.bl b),[]))(e3:f [.t (.tup [.str z,s]),.t r,.t (.int i)]=some (.t (.bl c),[]))
  (hc:z="some"/\c=(a || b)\/z="always"/\c=(a && b)):gz f [AAA s,AAA r,AAA (.str z),AAC i,x4,x5,x6]=some (.nx [AAA s,AAA r,AAA (.str z),AAC i,AAA (.bl a),AAA (.bl b),AAA (.bl c)]):=by
 have n:¬(("always":Str)="some"):=by decide
 rcases hc with⟨rfl,rfl⟩|⟨rfl,rfl⟩<;>cases a<;>cases b<;>simp[-fM,dj,h4,h5,h6,gz,e1,e2,e3,n]
inductive O6(s r:D)(z:Str)(n:Nat)(l:List D)(S:SS):Prop
 |mk(x3 x4 x5 x6:Option U)(hb:CA x3=false/\CA x4=false/\CA x5=false/\CA x6=false)(hl:∀d∈l,∃i:Nat,d= .int (i:Int)/\i<n)(e:S=[some (.t s),some (.t r),some (.t (.str z)),x3,x4,x5,x6])
def O7(H:∀i:Nat,i<n->∃a b c:Bool,f [.t s,.t r,.t (.int (i:Int))]=some (.t (.bl a),[])/\f [.t (.tup [.str z,s]),.t r,.t (.int ((i:Int)+1))]=some (.t (.bl b),[])/\f [.t (.tup [.str z,s]),.t r,.t (.int (i:Int))]=some (.t (.bl c),[])/\(z="some"/\c=(a || b)\/z="always"/\c=(a && b)))
  {l:List D}(h:O6 s r z n l S):∃S',loop (bName 3) (gz f) l S=some (.nx S')/\O6 s r z n [] S':=by
 refine Sq.v8 l (O6 s r z n) S h ?_;rintro d l S ⟨x3,x4,x5,x6,⟨b3,b4,b5,b6⟩,hl,rfl⟩;obtain⟨i,rfl,hi⟩:=hl d aav;obtain⟨a,b,c,e1,e2,e3,hc⟩:=H i hi;refine⟨[AAA s,AAA r,AAA (.str z),AAC (i:Int),x4,x5,x6],_,?_,O5 b4 b5 b6 e1 e2 e3 hc,_,_,_,_,⟨rfl,rfl,rfl,rfl⟩,λd hd=>hl d (aar _ hd),rfl⟩;simp[-fM,dj,b3]
def O8(hr:r= .lst rs)(hn:rs.length=n)(h31:30<n)(H:∀i:Nat,i<n->∃a b c:Bool,f [.t s,.t r,.t (.int (i:Int))]=some (.t (.bl a),[])/\f [.t (.tup [.str z,s]),.t r,.t (.int ((i:Int)+1))]=some (.t (.bl b),[])/\f [.t (.tup [.str z,s]),.t r,.t (.int (i:Int))]=some (.t (.bl c),[])/\(z="some"/\c=(a || b)\/z="always"/\c=(a && b)))
  (h:O6 s r z n [] S):∃S',ju f S=some (.nx S')/\O6 s r z n [] S':=by
 obtain⟨x3,x4,x5,x6,hb,_,rfl⟩:=h;have hl:∀d∈[D.int 0,.int 30,.int ((n:Int)-1)],∃i:Nat,d= .int (i:Int)/\i<n:=by
  intro d hd;simp only[aat,abt,afF]at hd;rcases hd with rfl|rfl|rfl
  .exact⟨0,rfl,by lia⟩
  .exact⟨30,rfl,h31⟩
  .exact⟨n-1,by congr 1;lia,by lia⟩
 obtain⟨S',e,h'⟩:=O7 H (l:=[D.int 0,.int 30,.int ((n:Int)-1)]) ⟨x3,x4,x5,x6,hb,hl,rfl⟩;refine⟨S',?_,h'⟩;subst hr;simp[ju,iE,hn,e]
def O9(hr:r= .lst rs)(hn:rs.length=n)(h31:30<n)
  (H:∀z:Str,z="some"\/z="always"->∀i:Nat,i<n->∃a b c:Bool,f [.t s,.t r,.t (.int (i:Int))]=some (.t (.bl a),[])/\f [.t (.tup [.str z,s]),.t r,.t (.int ((i:Int)+1))]=some (.t (.bl b),[])/\f [.t (.tup [.str z,s]),.t r,.t (.int (i:Int))]=some (.t (.bl c),[])/\(z="some"/\c=(a || b)\/z="always"/\c=(a && b)))
  (hx:f [.t (.tup [.str "next",s]),.t r,.t (.int (n:Int))]=some (.t (.bl false),[])):bz 7 (jM f) [.t s,.t r]=some (.t (.bl true),[]):=by
 obtain⟨S1,e1,x3,x4,x5,x6,⟨b3,b4,b5,b6⟩,_,rfl⟩:=O8 hr hn h31 (H "some" (.inl rfl)) (S:=[AAA s,AAA r,AAA (.str "some"),none,none,none,none]) ⟨none,none,none,none,⟨rfl,rfl,rfl,rfl⟩,λd hd=>absurd hd abt,rfl⟩;obtain⟨S2,e2,y3,y4,y5,y6,_,_,rfl⟩:=O8 hr hn h31 (H "always" (.inr rfl)) (S:=[AAA s,AAA r,AAA (.str "always"),x3,x4,x5,x6]) ⟨x3,x4,x5,x6,⟨b3,b4,b5,b6⟩,λd hd=>absurd hd abt,rfl⟩;subst hr;simp[-fM,dj,bz,jM,iE,loop,e1,e2,hn,hx]
end
def Wz(hl:R.length=60){d:D}(h:Lf d ws)(hz:∀z∈zs,On z)(h7:zs.length<=5):O4 [.t (chain zs (.lf d ws)).d,.t (.lst (R.map CC))]=some (.t (.bl true),[]):=by
 have hr:Rw R (.lst (R.map CC)):=.inr rfl;have hs:∀z,On z->∀y∈z::zs,On y:=λz q y hy=>by rcases aat.mp hy with rfl|hy;exact q;exact hz y hy
 have hh:=λ{zs:BBB}(hz:∀z∈zs,On z)(h7:zs.length<=6){i:Nat}(hi:i<=R.length)=>Su hr (by lia) h hz h7 hi;refine O9 (rs:=R.map CC) (n:=60) rfl (by rw[aaw,hl]) (by decide) (λz YV i hi=>?_) ?_
 .have zo:On z:=by rcases YV with rfl|rfl;exact .d;exact .c
  refine⟨_,_,_,hh hz (by lia) (by lia),hh (zs:=z::zs) (i:=i+1) (hs z zo) (by show zs.length+1<=6;lia) (by lia),hh (zs:=z::zs) (i:=i) (hs z zo) (by show zs.length+1<=6;lia) (by lia),?_⟩;rcases YV with rfl|rfl
  .exact .inl ⟨rfl,Sv hz h (by lia)⟩
  .exact .inr ⟨rfl,LS hz h (by lia)⟩
 .have:=hh (zs:="next" :: zs) (i:=60) (hs "next" .b) (by show zs.length+1<=6;lia) (by lia);rw[<-hl]at this;rw[Sx hz h]at this;rw[hl]at this;exact this
abbrev tp(t:dh):MO:=.dct (eO t)
def Sy{t:dh}{m:Int}(h1:0<m)(h2:m<1000)(h3:0<=t.n)(h4:t.n<900000):jr [.b (tp t),.t (.int m)]=some (.t (.int (yy t m)),[tp (Aq t m)]):=Oh h1 (by lia) h3 (by lia)
def FZ{l:List D}{i:Int}(h0:0<=i)(h1:i<l.length):∃y,ia l i=some y/\y∈l:=by
 obtain⟨y,a,b⟩:=Sq.V8 (l:=l) h0 h1;exact⟨y,a,adQ b⟩
inductive PkA(t:dh)(m:Int):Prop
 |mk(v:Int)(u:dh)(e:jr [.b (tp t),.t (.int m)]=some (.t (.int v),[tp u]))(lo:0<=v)(hi:v<m)(n:u.n=t.n+1)
def AV{t:dh}{m:Int}(h1:0<m)(h2:m<1000)(h3:0<=t.n)(h4:t.n<900000):PkA t m:=⟨_,_,Sy h1 h2 h3 h4,(yz h1).1,(yz h1).2,Rz _ _⟩
def u5(aG:FM):GS:=
 (bK (eP Pz (aa (eF (eP kj (aa (eF (eP cK (aa (eC (.str "now")) (aa (eF (eP cK (aa (eC (.str "any")) ak))) ak)))) (aa (eF (eP cK (aa (eC (.str "now")) (aa (eF (eP cK (aa (eC (.str "name")) (aa (eC (.str "a")) ak)))) ak)))) (aa (eF (eP cK (aa (eC (.str "now")) (aa (eF (eP cK (aa (eC (.str "more")) (aa (eC (.int 0)) ak)))) ak)))) (aa (eF (eP cK (aa (eC (.str "yes")) ak))) ak)))))) (aa (eF (aO aG (iD (ao 0) (aQ (eC (.int 4)) aY)))) ak))))
def F5:FM:=bz 1 (u5 jr)
noncomputable def Z9:List D:=[.tup [.str "now",.tup [.str "any"]],.tup [.str "now",.tup [.str "name",.str "a"]],.tup [.str "now",.tup [.str "more",.int 0]],.tup [.str "yes"]]
def WA:∀d∈Z9,∃ws,Lf d ws:=by
 intro d hd;simp only[Z9,aat,abt,afF]at hd;rcases hd with rfl|rfl|rfl|rfl
 .exact⟨_,.any⟩
 .exact⟨_,.name⟩
 .exact⟨_,.more⟩
 .exact⟨_,.yes⟩
def Pa{f:FM}{v:Int}{d:D}(e:f [.b T,.t (.int 4)]=some (.t (.int v),[T']))(hd:ia Z9 v=some d):bz 1 (u5 f) [.b T]=some (.t d,[T']):=by
 unfold Z9 at hd;simp[bz,u5,e,hd]
inductive aen(f:FM)(t:dh):Prop
 |mk(d:D)(ws:BBB)(u:dh)(h:Lf d ws)(e:f [.b (tp t)]=some (.t d,[tp u]))(n:u.n=t.n+1)
def Pb{t:dh}(h3:0<=t.n)(h4:t.n<900000):aen F5 t:=by
 obtain⟨v,u,e,v0,v1,n⟩:=AV (m:=4) (by decide) (by decide) h3 h4;obtain⟨d,e1,hd⟩:=FZ (l:=Z9) v0 v1;obtain⟨ws,h⟩:=WA d hd;exact⟨d,ws,u,h,Pa e e1,n⟩
inductive Tr.Sz:Tr->Prop
 |lf{d:D}{ws:BBB}(h:Lf d ws):(Tr.lf d ws).Sz
 |bi{z:Str}{t u:Tr}(hz:Tw z)(h:t.Sz)(k:u.Sz):(Tr.bi z t u).Sz
def Tr.Sz.ok{t:Tr}(h:t.Sz):t.Ok:=by
 induction h with
 |lf h=>exact .lf h
 |bi hz _ _ i1 i2=>exact .bi hz i1 i2
def kD(oH aG aN:FM):GS:=
 (aW (fH (qB (eF (eP QF (aa (eF (ao 1)) (aa (eC (.int 2)) ak))))) (bK (aO oH (iD (ao 0) aY))) b7)
 (aW (bX 2 (eP dg (aa (eF (eP EJ (aa (eF (eP Nh (aa (eF (ao 1)) (aa (eC (.int 4)) ak)))) (aa (eC (.int 2)) ak)))) (aa (eC (.int 1)) ak))))
 (aW (bX 3 (eP Pz (aa (eF (eP kj (aa (eC (.str "both")) (aa (eC (.str "either")) (aa (eC (.str "till")) ak))))) (aa (eF (aO aG (iD (ao 0) (aQ (eC (.int 3)) aY)))) ak))))
 (bK (eP cK (aa (eF (ao 3)) (aa (eF (aO aN (iD (ao 0) (aQ (eF (ao 2)) aY)))) (aa (eF (aO aN (iD (ao 0) (aQ (eF (eP uo (aa (eF (eP uo (aa (eF (ao 1)) (aa (eC (.int 1)) ak)))) (aa (eF (ao 2)) ak)))) aY)))) ak))))))))
def wz:Nat->FM
 |0=>λ_=>none
 |j+1=>bz 4 (kD F5 jr (wz j))
section
variable {f1 f2 f3:FM}{T0 T1 T2 T3:MO}{m h v:Int}{d p q:D}
def SD(e:f1 [.b T0]=some (.t d,[T1])):bz 4 (kD f1 f2 f3) [.b T0,.t (.int 1)]=some (.t d,[T1]):=by
 simp[bz,kD,e]
def SE(h2:¬m<2)(hh:m / 4*2+1=h)(e1:f2 [.b T0,.t (.int 3)]=some (.t (.int v),[T1]))(ez:ia [D.str "both",.str "either",.str "till"] v=some (.str z))(e2:f3 [.b T1,.t (.int h)]=some (.t p,[T2]))(e3:f3 [.b T2,.t (.int (m-1-h))]=some (.t q,[T3])):
  bz 4 (kD f1 f2 f3) [.b T0,.t (.int m)]=some (.t (.tup [.str z,p,q]),[T3]):=by
 simp[-fM,dj,bz,kD,h2,hh,e1,ez,e2,e3]
end
inductive J3(f:FM)(m k:Nat)(t:dh):Prop
 |mk(r:Tr)(u:dh)(h:r.Sz)(sz:r.sz=m)(dp:r.dp=k)(e:f [.b (tp t),.t (.int (m:Int))]=some (.t r.d,[tp u]))(n0:t.n<=u.n)(n:u.n<=t.n+m)
def WB{t:dh}(h0:0<=t.n)(h1:t.n<800000):J3 (wz (j+1)) 1 1 t:=by
 obtain⟨d,ws,u,h,e,n⟩:=Pb h0 (by lia);exact⟨.lf d ws,u,.lf h,rfl,rfl,SD e,by lia,by lia⟩
def DL{m:Nat}(B:Int)(hB:B<=800000)(hm:m<=100)(hh:((2*m+1:Nat):Int) / 4*2+1=(m:Int))(ih:∀t:dh,0<=t.n->t.n<B+1000->J3 (wz j) m k t){t:dh}(h0:0<=t.n)(h1:t.n<B)(m1:1<=m):J3 (wz (j+1)) (2*m+1) (k+1) t:=by
 obtain⟨v,u,e,v0,v1,n⟩:=AV (t:=t) (m:=3) (by decide) (by decide) h0 (by lia);obtain⟨y,ey,hy⟩:=FZ (l:=[D.str "both",.str "either",.str "till"]) v0 v1;obtain⟨z,rfl,hz⟩:∃z,y= .str z/\Tw z:=by
  simp only[aat,abt,afF]at hy;rcases hy with rfl|rfl|rfl;exact⟨_,rfl,.a⟩;exact⟨_,rfl,.b⟩;exact⟨_,rfl,.c⟩
 obtain⟨r1,u1,o1,s1,d1,e1,a1,b1⟩:=ih u (by lia) (by lia);obtain⟨r2,u2,o2,s2,d2,e2,a2,b2⟩:=ih u1 (by lia) (by lia);refine⟨.bi z r1 r2,u2,.bi hz o1 o2,by show r1.sz+r2.sz+1=_;lia,by show max r1.dp r2.dp+1=_;rw[d1,d2,Nat.max_self],SE (by lia) hh e ey e1 ?_,by lia,by lia⟩;rw[show((2*m+1:Nat):Int)-1-m=m by lia];exact e2
def SG{t:dh}(h0:0<=t.n)(h1:t.n<1000):J3 (wz 9) 15 4 t:=
 DL (j:=8) (m:=7) (k:=3) 797000 (by decide) (by decide) (by decide) (λt a b=>DL (j:=7) (m:=3) (k:=2) 798000 (by decide) (by decide) (by decide) (λt a b=>DL (j:=6) (m:=1) (k:=1) 799000 (by decide) (by decide) (by decide) (λt a b=>WB a b) a b (by decide)) a b (by decide)) h0 (by lia) (by decide)
def jw(oH aG:FM):GS:=
 (bX 2 (eP cK (aa (eF (eP Pz (aa (eF (eP kj (aa (eC (.str "not")) (aa (eC (.str "next")) (aa (eC (.str "always")) (aa (eC (.str "some")) ak)))))) (aa (eF (aO aG (iD (ao 0) (aQ (eC (.int 4)) aY)))) ak)))) (aa (eF (ao 2)) ak))))
def rK(oH aG:FM):GS:=
 (aW (bX 2 (aO oH (iD (ao 0) aY)))
 (aW (qz (bName 3) (gH (aa (eF (eP uo (aa (eF (ao 1)) (aa (eC (.int 1)) ak)))) ak)) (jw oH aG))
 (bK (ao 2))))
def F6:FM:=bz 4 (rK F5 jr)
inductive aaa(t:dh)(m:Nat)(d:D)(ws:BBB)(l:List D)(S:SS):Prop
 |mk(zs:BBB)(u:dh)(x:Option U)(hb:CA x=false)(hz:∀z∈zs,On z)(hl:zs.length+l.length=m)(n0:t.n<=u.n)(n:u.n<=t.n+zs.length+1)(hd:∀e∈l,∃i:Int,e= .int i)(e:S=[some (.b (tp u)),some (.t (.int ((m+1:Nat):Int))),some (.t (chain zs (.lf d ws)).d),x])
inductive aab(f:FM)(m:Nat)(t:dh):Prop
 |mk(zs:BBB)(d:D)(ws:BBB)(u:dh)(hz:∀z∈zs,On z)(hl:zs.length=m)(h:Lf d ws)(e:f [.b (tp t),.t (.int ((m+1:Nat):Int))]=some (.t (chain zs (.lf d ws)).d,[tp u]))(n0:t.n<=u.n)(n:u.n<=t.n+m+1)
def LU{f1 f2:FM}{m i v:Int}{s:D}(e:f2 [.b T,.t (.int 4)]=some (.t (.int v),[T']))(ez:ia [D.str "not",.str "next",.str "always",.str "some"] v=some (.str z)):jw f1 f2 [some (.b T),AAC m,AAA s,AAC i]=some (.nx [some (.b T'),AAC m,AAA (.tup [.str z,s]),AAC i]):=by
 simp[-fM,dj,jw,e,ez]
def J4{m:Nat}(hm:m<=100){t:dh}(h0:0<=t.n)(h1:t.n<800000):aab F6 m t:=by
 obtain⟨d,ws,u0,hf,e0,n0⟩:=Pb h0 (by lia);obtain⟨S',e,zs,u,x,hb,hz,hl,a,b,_,rfl⟩:=Sq.v8 (bd:=bName 3) (body:=jw F5 jr) (vF 0 m) (aaa t m d ws) [some (.b (tp u0)),AAC ((m+1:Nat):Int),AAA d,none]
  ⟨[],u0,none,rfl,λ_ h=>absurd h abt,by rw[aeR];unfold vF;rw[aaw,List.length_range,agd],by lia,by rw[n0];show t.n+1<=t.n+0+1;lia,λe he=>by unfold vF at he;obtain⟨i,_,rfl⟩:=afE.mp he;exact⟨_,rfl⟩,rfl⟩ (by
  rintro dd l S ⟨zs,u,x,hb,hz,hl,a,b,hd,rfl⟩;obtain⟨i,rfl⟩:=hd dd aav;rw[aaI]at hl;obtain⟨v,u',e,v0,v1,n⟩:=AV (t:=u) (m:=4) (by decide) (by decide) (by lia) (by lia);obtain⟨y,ey,hy⟩:=FZ (l:=[D.str "not",.str "next",.str "always",.str "some"]) v0 v1;obtain⟨z,rfl,YV⟩:∃z,y= .str z/\On z:=by
   simp only[aat,abt,afF]at hy;rcases hy with rfl|rfl|rfl|rfl;exact⟨_,rfl,.a⟩;exact⟨_,rfl,.b⟩;exact⟨_,rfl,.c⟩;exact⟨_,rfl,.d⟩
  exact⟨[some (.b (tp u)),AAC ((m+1:Nat):Int),some (.t (chain zs (.lf d ws)).d),AAC i],_,by simp[-fM,dj,hb],LU e ey,z::zs,u',AAC i,rfl,λw hw=>by rcases aat.mp hw with rfl|hw;exact YV;exact hz w hw,by rw[aaI];lia,by lia,by rw[aaI];lia,λe he=>hd e (aar _ he),rfl⟩)
 rw[aeR,Nat.add_zero]at hl;refine⟨zs,d,ws,u,hz,hl,hf,?_,a,by rw[hl]at b;exact b⟩;have er:gH (aa (eF (eP uo (aa (eF (ao 1)) (aa (eC (.int 1)) ak)))) ak) [some (.b (tp u0)),AAC ((m+1:Nat):Int),AAA d,none]=some (vF 0 m,[some (.b (tp u0)),AAC ((m+1:Nat):Int),AAA d,none]):=by
  have:=Sq.oE (gA:=aa (eF (eP uo (aa (eF (ao 1)) (aa (eC (.int 1)) ak)))) ak) (S:=[some (.b (tp u0)),AAC ((m+1:Nat):Int),AAA d,none]) (S':=[some (.b (tp u0)),AAC ((m+1:Nat):Int),AAA d,none]) (j:=((m+1:Nat):Int)-1) (by simp) (by lia) (by lia);rw[this,show(((m+1:Nat):Int)-1).toNat=m by lia]
 have e1:bX 2 (aO F5 (iD (ao 0) aY)) [some (.b (tp t)),AAC ((m+1:Nat):Int),none,none]=some (.nx [some (.b (tp u0)),AAC ((m+1:Nat):Int),AAA d,none]):=by simp[e0]
 show(rK F5 jr [some (.b (tp t)),AAC ((m+1:Nat):Int),none,none]).bind _=_;unfold rK;rw[qA e1];have e2:qz (bName 3) (gH (aa (eF (eP uo (aa (eF (ao 1)) (aa (eC (.int 1)) ak)))) ak)) (jw F5 jr) [some (.b (tp u0)),AAC ((m+1:Nat):Int),AAA d,none]=some (.nx [some (.b (tp u)),AAC ((m+1:Nat):Int),some (.t (chain zs (.lf d ws)).d),x]):=by
  show(gH _ _).bind _=_;rw[er];exact e
 rw[qA e2];simp
def iT(aG:FM):GS:=
 (bX 2 (eP cK (aa (eF (eP Pz (aa (eF (eP kj (aa (eC (.str "each")) (aa (eC (.str "one")) ak)))) (aa (eF (aO aG (iD (ao 0) (aQ (eC (.int 2)) aY)))) ak)))) (aa (eC (.str "a")) (aa (eF (eP Pz (aa (eF (eP kj (aa (eC (.str "x")) (aa (eC (.str "ab")) ak)))) (aa (eF (eP Q8 (aa (eF (eP lD (aa (eF (eP EI (aa (eF (ao 3)) (aa (eC (.int 2)) ak)))) (aa (eC (.int 1)) ak)))) ak))) ak)))) (aa (eF (ao 2)) ak))))))
def lF(aG:FM):GS:=
 (aW (bX 2 (eP cK (aa (eC (.str "now")) (aa (eF (eP cK (aa (eC (.str "less")) (aa (eC (.str "x")) ak)))) ak))))
 (aW (qz (bName 3) (gH (aa (eF (ao 1)) ak)) (iT aG))
 (bK (ao 2))))
def uc:FM:=bz 4 (lF jr)
def i6{f:FM}{m v:Int}{i:Int}{s:D}{w:Str}(hw:i=0/\w="x"\/i=1/\w="ab"\/i=2/\w="x"\/i=3/\w="ab")(e:f [.b T,.t (.int 2)]=some (.t (.int v),[T']))(ez:ia [D.str "each",.str "one"] v=some (.str z)):iT f [some (.b T),AAC m,AAA s,AAC i]=some (.nx [some (.b T'),AAC m,AAA (Mp z w s),AAC i]):=by
 have a0:ia [D.str "x",.str "ab"] 0=some (.str "x"):=rfl;have a1:ia [D.str "x",.str "ab"] 1=some (.str "ab"):=rfl;rcases hw with⟨rfl,rfl⟩|⟨rfl,rfl⟩|⟨rfl,rfl⟩|⟨rfl,rfl⟩<;>simp[-fM,dj,iT,e,ez,Mp,Q8,a0,a1]
inductive EoR(t:dh):Prop
 |mk(z:Str)(v:Int)(u:dh)(h:EO z)(e:jr [.b (tp t),.t (.int 2)]=some (.t (.int v),[tp u]))(ez:ia [D.str "each",.str "one"] v=some (.str z))(n:u.n=t.n+1)
def AW{t:dh}(h3:0<=t.n)(h4:t.n<900000):EoR t:=by
 obtain⟨v,u,e,v0,v1,n⟩:=AV (m:=2) (by decide) (by decide) h3 h4;obtain⟨y,ey,hy⟩:=FZ (l:=[D.str "each",.str "one"]) v0 v1;simp only[aat,abt,afF]at hy;rcases hy with rfl|rfl
 .exact⟨_,v,u,.a,e,ey,n⟩
 .exact⟨_,v,u,.b,e,ey,n⟩
def CJ{f:FM}{m:Nat}{s:D}(hm:m<1000)(e:loop (bName 3) (iT f) (vF 0 m) [some (.b T),AAC m,AAA Mq,none]=some (.nx [some (.b T'),AAC m,AAA s,x])):bz 4 (lF f) [.b T,.t (.int m)]=some (.t s,[T']):=by
 have er:=Sq.Wb 1 m [some (.b T),AAC m,AAA Mq,none] rfl (by lia);have e1:bX 2 (eP cK (aa (eC (.str "now")) (aa (eF (eP cK (aa (eC (.str "less")) (aa (eC (.str "x")) ak)))) ak))) [some (.b T),AAC m,none,none]=some (.nx [some (.b T),AAC m,AAA Mq,none]):=by simp[Mq]
 show(lF f [some (.b T),AAC m,none,none]).bind _=_;unfold lF;rw[qA e1];have e2:qz (bName 3) (gH (aa (eF (ao 1)) ak)) (iT f) [some (.b T),AAC m,AAA Mq,none]=some (.nx [some (.b T'),AAC m,AAA s,x]):=by
  show(gH _ _).bind _=_;rw[er];exact e
 rw[qA e2];simp
def j4{bd:GB}{body:GS}{d:D}{ds:List D}{S2:SS}(h1:bd d S=some S1)(h2:body S1=some (.nx S2)):loop bd body (d::ds) S=loop bd body ds S2:=by
 show((bd d S).bind λS1=>(body S1).bind _)=_;rw[h1,aau,h2,aau]
inductive aeo(f:FM)(t:dh):Prop
 |mk(a b c:Str)(u:dh)(ha:EO a)(hb:EO b)(hc:EO c)(e:f [.b (tp t),.t (.int 3)]=some (.t (PK a b c),[tp u]))(n:u.n=t.n+3)
inductive aep(f:FM)(t:dh):Prop
 |mk(a b c z:Str)(u:dh)(ha:EO a)(hb:EO b)(hc:EO c)(hz:EO z)(e:f [.b (tp t),.t (.int 4)]=some (.t (bd4 a b c z),[tp u]))(n:u.n=t.n+4)
def WC{t:dh}(h0:0<=t.n)(h1:t.n<800000):aeo uc t:=by
 obtain⟨a,v1,t1,ha,e1,z1,n1⟩:=AW h0 (by lia);obtain⟨b,v2,t2,hb,e2,z2,n2⟩:=AW (t:=t1) (by lia) (by lia);obtain⟨c,v3,t3,hc,e3,z3,n3⟩:=AW (t:=t2) (by lia) (by lia);refine⟨a,b,c,t3,ha,hb,hc,CJ (m:=3) (x:=AAC 2) (by decide) ?_,by lia⟩;show loop _ _ [D.int 0,.int 1,.int 2] _=_;rw[j4 (S1:=[some (.b (tp t)),AAC 3,AAA Mq,AAC 0]) rfl (i6 (.inl ⟨rfl,rfl⟩) e1 z1),j4 (S1:=[some (.b (tp t1)),AAC 3,AAA (Mp a "x" Mq),AAC 1]) rfl (i6 (.inr (.inl ⟨rfl,rfl⟩)) e2 z2),j4 (S1:=[some (.b (tp t2)),AAC 3,AAA (Mp b "ab" (Mp a "x" Mq)),AAC 2]) rfl (i6 (.inr (.inr (.inl ⟨rfl,rfl⟩))) e3 z3)];rfl
def Pc{t:dh}(h0:0<=t.n)(h1:t.n<800000):aep uc t:=by
 obtain⟨a,v1,t1,ha,e1,z1,n1⟩:=AW h0 (by lia);obtain⟨b,v2,t2,hb,e2,z2,n2⟩:=AW (t:=t1) (by lia) (by lia);obtain⟨c,v3,t3,hc,e3,z3,n3⟩:=AW (t:=t2) (by lia) (by lia);obtain⟨z,v4,t4,hz,e4,z4,n4⟩:=AW (t:=t3) (by lia) (by lia);refine⟨a,b,c,z,t4,ha,hb,hc,hz,CJ (m:=4) (x:=AAC 3) (by decide) ?_,by lia⟩;show loop _ _ [D.int 0,.int 1,.int 2,.int 3] _=_;rw[j4 (S1:=[some (.b (tp t)),AAC 4,AAA Mq,AAC 0]) rfl (i6 (.inl ⟨rfl,rfl⟩) e1 z1),j4 (S1:=[some (.b (tp t1)),AAC 4,AAA (Mp a "x" Mq),AAC 1]) rfl (i6 (.inr (.inl ⟨rfl,rfl⟩)) e2 z2),j4 (S1:=[some (.b (tp t2)),AAC 4,AAA (Mp b "ab" (Mp a "x" Mq)),AAC 2]) rfl (i6 (.inr (.inr (.inl ⟨rfl,rfl⟩))) e3 z3),j4 (S1:=[some (.b (tp t3)),AAC 4,AAA (PK a b c),AAC 3]) rfl (i6 (.inr (.inr (.inr ⟨rfl,rfl⟩))) e4 z4)];rfl
def DM(aT aN aP aH aL aF bD bV bG aI aG aV aj aE au:FM):GS:=
 (fH (nu (qB (eF (eP mU (aa (eF (aO aL (aQ (eF (ao 5)) aY))) (aa (eC (.bl true)) ak))))) (qB (eF (eP BG (aa (eF (eP E1 (aa (eF (aO aF (aQ (eF (aO bD (aQ (eF (ao 5)) aY))) aY))) ak))) (aa (eF (eP E1 (aa (eF (ao 5)) ak))) ak)))))) (bK (eT (eC (.bl false)))) b7)
def AX(aT aN aP aH aL aF bD bV bG aI aG aV aj aE au:FM):GS:=
 (aW (U7 (C7 2 (mS (bName 13) (mS (bName 14) EK))) (b9 10 (eF (aO aG (iD (ao 1) (aQ (eC (.int 3)) aY))))))
 (kq (eT (eM 11 hAppend (aa (eF (eP cK (aa (eF (ao 13)) (aa (eF (aO aG (iD (ao 1) (aQ (eF (eP dg (aa (eF (ao 14)) (aa (eC (.int 1)) ak)))) aY)))) ak)))) ak)))))
def J5(aT aN aP aH aL aF bD bV bG aI aG aV aj aE au:FM):GS:=
 (aW (bX 1 (aO aT (iD (ao 0) (aQ (eC (.int 0)) aY))))
 (aW (bX 2 (eP cK (aa (eC (.str "not")) (aa (eF (aO aN (iD (ao 1) (aQ (eC (.int 15)) aY)))) ak))))
 (aW (bX 3 (aO aP (iD (ao 1) (aQ (eC (.int 8)) aY))))
 (aW (bX 4 (aO aH (iD (ao 1) (aQ (eC (.int 3)) aY))))
 (aW (qz (bName 5) (nv (eF (eP kj (aa (eF (ao 2)) (aa (eF (ao 3)) (aa (eF (ao 4)) ak)))))) (DM aT aN aP aH aL aF bD bV bG aI aG aV aj aE au))
 (aW (fH (nu (qB (eF (eP BG (aa (eF (aO bV (aQ (eF (ao 2)) aY))) (aa (eC (.int 16)) ak))))) (nu (qB (eF (eP BG (aa (eF (aO bG (aQ (eF (ao 3)) aY))) (aa (eC (.int 8)) ak))))) (qB (eF (eP BG (aa (eF (aO bV (aQ (eF (ao 3)) aY))) (aa (eC (.int 8)) ak))))))) (bK (eT (eC (.bl false)))) b7)
 (aW (bX 6 (eP iZ (aa (eF (aO bD (aQ (eF (ao 2)) aY))) (aa (eC (.str " ")) ak))))
 (aW (fH (nu (qB (eF (aO aL (aQ (eF (eP cK (aa (eC (.str "next")) (aa (eF (ao 2)) ak)))) aY)))) (qB (eF (eP E4 (aa (eF (aO aI (aQ (eF (eP dg (aa (eC (.str "next ")) (aa (eF (eP ow (aa (eC (.str " ")) (aa (eF (ao 6)) ak)))) ak)))) aY))) (aa (eC .cD) ak)))))) (bK (eT (eC (.bl false)))) b7)
 (aW (bX 7 (iP [6] (gH (aa (lE 6) ak)) (qB (eF (eP Gx (aa (b9 1 (eF (ao 0))) (aa (eF (eP cK (aa (eC (.str "not")) (aa (eC (.str "both")) (aa (eC (.str "either")) (aa (eC (.str "till")) (aa (eC (.str "now")) (aa (eC (.str "yes")) ak)))))))) ak))))) (eF (ao 0))))
 (aW (fH (nu (qB (eF (eP BG (aa (eF (aO aI (aQ (eF (eP dg (aa (eC (.str "next ")) (aa (eF (eP ow (aa (eC (.str " ")) (aa (eF (ao 6)) ak)))) ak)))) aY))) (aa (eF (eP dg (aa (b9 7 (eC (.int 15))) (aa (eC (.int 1)) ak)))) ak))))) (qB (eF (aO aL (aQ (eF (eP cK (aa (eC (.str "not")) (aa (eF (ao 3)) ak)))) aY))))) (bK (eT (eC (.bl false)))) b7)
 (aW (fH (nu (qB (eF (eP BG (aa (eF (aO aI (aQ (eF (eP dg (aa (eC (.str "not ")) (aa (eF (aO bD (aQ (eF (ao 3)) aY))) ak)))) aY))) (aa (eC (.int 8)) ak))))) (qB (eF (aO aL (aQ (eF (aO aH (iD (ao 1) (aQ (eC (.int 4)) aY)))) aY))))) (bK (eT (eC (.bl false)))) b7)
 (aW (fH (qB (eF (eP BG (aa (eF (aO aI (aQ (eF (aO bD (aQ (eF (aO aH (iD (ao 1) (aQ (eC (.int 4)) aY)))) aY))) aY))) (aa (eC (.int 9)) ak))))) (bK (eT (eC (.bl false)))) b7)
 (aW (bX 8 (eT (eC (.str "both each a x yes both one ab x now less x either each a k yes "))))
 (aW (fH (nu (qB (eF (eP mW (aa (eF (aO aI (aQ (eF (eP dg (aa (eF (ao 8)) (aa (eC (.str "now any")) ak)))) aY))) (aa (eC .cD) ak))))) (qB (eF (eP BG (aa (eF (aO aI (aQ (eF (eP dg (aa (eF (ao 8)) (aa (eC (.str "one a x yes")) ak)))) aY))) (aa (eC (.int 17)) ak)))))) (bK (eT (eC (.bl false)))) b7)
 (aW (bX 9 (aO aG (iD (ao 1) (aQ (eC (.int 5)) aY))))
 (aW (bX 10 (eP cK (aa (eF (eP cK (aa (eC (.str "a")) (aa (eC (.int 5)) ak)))) (aa (eF (eP cK (aa (eC (.str "ab")) (aa (eF (ao 9)) ak)))) (aa (eF (eP cK (aa (eC (.str "b")) (aa (eF (eP uo (aa (eC (.int 4)) (aa (eF (ao 9)) ak)))) ak)))) ak)))))
 (aW (fH (nu (qB (eF (eP mU (aa (eF (aO aV (aQ (eF (ao 10)) aY))) (aa (eC (.bl true)) ak))))) (qB (eF (eP mU (aa (eF (aO aV (aQ (eF (eP dg (aa (eF (ao 10)) (aa (eF (eP cK (aa (eF (eP cK (aa (eC (.str "x")) (aa (eC (.int 0)) ak)))) ak))) ak)))) aY))) (aa (eC (.bl false)) ak)))))) (bK (eT (eC (.bl false)))) b7)
 (aW (fH (nu (qB (eF (eP mW (aa (eF (aO aj (aQ (eF (aO aE (aQ (eF (ao 10)) aY))) aY))) (aa (eC .cD) ak))))) (qB (eF (eP BG (aa (eF (aO aj (aQ (eF (eP dg (aa (eF (aO aE (aQ (eF (ao 10)) aY))) (aa (eC (.str " x.0")) ak)))) aY))) (aa (eC (.int 3)) ak)))))) (bK (eT (eC (.bl false)))) b7)
 (aW (bX 11 (eP kj ak))
 (aW (qz (bName 12) (gH (aa (eC (.int 60)) ak)) (AX aT aN aP aH aL aF bD bV bG aI aG aV aj aE au))
 (bK (aO au (aQ (eF (aO aP (iD (ao 1) (aQ (eC (.int 3)) aY)))) (aQ (eF (ao 11)) aY))))))))))))))))))))))))
def lw0(aT aN aP aH aL aF bD bV bG aI aG aV aj aE au:FM):GS:=
 (bX 1 (aO aT (iD (ao 0) (aQ (eC (.int 0)) aY))))
def lw1(aT aN aP aH aL aF bD bV bG aI aG aV aj aE au:FM):GS:=
 (bX 2 (eP cK (aa (eC (.str "not")) (aa (eF (aO aN (iD (ao 1) (aQ (eC (.int 15)) aY)))) ak))))
def lw2(aT aN aP aH aL aF bD bV bG aI aG aV aj aE au:FM):GS:=
 (bX 3 (aO aP (iD (ao 1) (aQ (eC (.int 8)) aY))))
def lw3(aT aN aP aH aL aF bD bV bG aI aG aV aj aE au:FM):GS:=
 (bX 4 (aO aH (iD (ao 1) (aQ (eC (.int 3)) aY))))
def lw4(aT aN aP aH aL aF bD bV bG aI aG aV aj aE au:FM):GS:=
 (qz (bName 5) (nv (eF (eP kj (aa (eF (ao 2)) (aa (eF (ao 3)) (aa (eF (ao 4)) ak)))))) (DM aT aN aP aH aL aF bD bV bG aI aG aV aj aE au))
def lw5(aT aN aP aH aL aF bD bV bG aI aG aV aj aE au:FM):GS:=
 (fH (nu (qB (eF (eP BG (aa (eF (aO bV (aQ (eF (ao 2)) aY))) (aa (eC (.int 16)) ak))))) (nu (qB (eF (eP BG (aa (eF (aO bG (aQ (eF (ao 3)) aY))) (aa (eC (.int 8)) ak))))) (qB (eF (eP BG (aa (eF (aO bV (aQ (eF (ao 3)) aY))) (aa (eC (.int 8)) ak))))))) (bK (eT (eC (.bl false)))) b7)
def lw6(aT aN aP aH aL aF bD bV bG aI aG aV aj aE au:FM):GS:=
 (bX 6 (eP iZ (aa (eF (aO bD (aQ (eF (ao 2)) aY))) (aa (eC (.str " ")) ak))))
def lw7(aT aN aP aH aL aF bD bV bG aI aG aV aj aE au:FM):GS:=
 (fH (nu (qB (eF (aO aL (aQ (eF (eP cK (aa (eC (.str "next")) (aa (eF (ao 2)) ak)))) aY)))) (qB (eF (eP E4 (aa (eF (aO aI (aQ (eF (eP dg (aa (eC (.str "next ")) (aa (eF (eP ow (aa (eC (.str " ")) (aa (eF (ao 6)) ak)))) ak)))) aY))) (aa (eC .cD) ak)))))) (bK (eT (eC (.bl false)))) b7)
def lw8(aT aN aP aH aL aF bD bV bG aI aG aV aj aE au:FM):GS:=
 (bX 7 (iP [6] (gH (aa (lE 6) ak)) (qB (eF (eP Gx (aa (b9 1 (eF (ao 0))) (aa (eF (eP cK (aa (eC (.str "not")) (aa (eC (.str "both")) (aa (eC (.str "either")) (aa (eC (.str "till")) (aa (eC (.str "now")) (aa (eC (.str "yes")) ak)))))))) ak))))) (eF (ao 0))))
def lw9(aT aN aP aH aL aF bD bV bG aI aG aV aj aE au:FM):GS:=
 (fH (nu (qB (eF (eP BG (aa (eF (aO aI (aQ (eF (eP dg (aa (eC (.str "next ")) (aa (eF (eP ow (aa (eC (.str " ")) (aa (eF (ao 6)) ak)))) ak)))) aY))) (aa (eF (eP dg (aa (b9 7 (eC (.int 15))) (aa (eC (.int 1)) ak)))) ak))))) (qB (eF (aO aL (aQ (eF (eP cK (aa (eC (.str "not")) (aa (eF (ao 3)) ak)))) aY))))) (bK (eT (eC (.bl false)))) b7)
def WD(aT aN aP aH aL aF bD bV bG aI aG aV aj aE au:FM):GS:=
 (fH (nu (qB (eF (eP BG (aa (eF (aO aI (aQ (eF (eP dg (aa (eC (.str "not ")) (aa (eF (aO bD (aQ (eF (ao 3)) aY))) ak)))) aY))) (aa (eC (.int 8)) ak))))) (qB (eF (aO aL (aQ (eF (aO aH (iD (ao 1) (aQ (eC (.int 4)) aY)))) aY))))) (bK (eT (eC (.bl false)))) b7)
def WE(aT aN aP aH aL aF bD bV bG aI aG aV aj aE au:FM):GS:=
 (fH (qB (eF (eP BG (aa (eF (aO aI (aQ (eF (aO bD (aQ (eF (aO aH (iD (ao 1) (aQ (eC (.int 4)) aY)))) aY))) aY))) (aa (eC (.int 9)) ak))))) (bK (eT (eC (.bl false)))) b7)
def WG(aT aN aP aH aL aF bD bV bG aI aG aV aj aE au:FM):GS:=
 (bX 8 (eT (eC (.str "both each a x yes both one ab x now less x either each a k yes "))))
def WH(aT aN aP aH aL aF bD bV bG aI aG aV aj aE au:FM):GS:=
 (fH (nu (qB (eF (eP mW (aa (eF (aO aI (aQ (eF (eP dg (aa (eF (ao 8)) (aa (eC (.str "now any")) ak)))) aY))) (aa (eC .cD) ak))))) (qB (eF (eP BG (aa (eF (aO aI (aQ (eF (eP dg (aa (eF (ao 8)) (aa (eC (.str "one a x yes")) ak)))) aY))) (aa (eC (.int 17)) ak)))))) (bK (eT (eC (.bl false)))) b7)
def WI(aT aN aP aH aL aF bD bV bG aI aG aV aj aE au:FM):GS:=
 (bX 9 (aO aG (iD (ao 1) (aQ (eC (.int 5)) aY))))
def WJ(aT aN aP aH aL aF bD bV bG aI aG aV aj aE au:FM):GS:=
 (bX 10 (eP cK (aa (eF (eP cK (aa (eC (.str "a")) (aa (eC (.int 5)) ak)))) (aa (eF (eP cK (aa (eC (.str "ab")) (aa (eF (ao 9)) ak)))) (aa (eF (eP cK (aa (eC (.str "b")) (aa (eF (eP uo (aa (eC (.int 4)) (aa (eF (ao 9)) ak)))) ak)))) ak)))))
def WK(aT aN aP aH aL aF bD bV bG aI aG aV aj aE au:FM):GS:=
 (fH (nu (qB (eF (eP mU (aa (eF (aO aV (aQ (eF (ao 10)) aY))) (aa (eC (.bl true)) ak))))) (qB (eF (eP mU (aa (eF (aO aV (aQ (eF (eP dg (aa (eF (ao 10)) (aa (eF (eP cK (aa (eF (eP cK (aa (eC (.str "x")) (aa (eC (.int 0)) ak)))) ak))) ak)))) aY))) (aa (eC (.bl false)) ak)))))) (bK (eT (eC (.bl false)))) b7)
def WL(aT aN aP aH aL aF bD bV bG aI aG aV aj aE au:FM):GS:=
 (fH (nu (qB (eF (eP mW (aa (eF (aO aj (aQ (eF (aO aE (aQ (eF (ao 10)) aY))) aY))) (aa (eC .cD) ak))))) (qB (eF (eP BG (aa (eF (aO aj (aQ (eF (eP dg (aa (eF (aO aE (aQ (eF (ao 10)) aY))) (aa (eC (.str " x.0")) ak)))) aY))) (aa (eC (.int 3)) ak)))))) (bK (eT (eC (.bl false)))) b7)
def WM(aT aN aP aH aL aF bD bV bG aI aG aV aj aE au:FM):GS:=
 (bX 11 (eP kj ak))
def WN(aT aN aP aH aL aF bD bV bG aI aG aV aj aE au:FM):GS:=
 (qz (bName 12) (gH (aa (eC (.int 60)) ak)) (AX aT aN aP aH aL aF bD bV bG aI aG aV aj aE au))
def WO(aT aN aP aH aL aF bD bV bG aI aG aV aj aE au:FM):GS:=
 (bK (aO au (aQ (eF (aO aP (iD (ao 1) (aQ (eC (.int 3)) aY)))) (aQ (eF (ao 11)) aY))))
def lw_eq(aT aN aP aH aL aF bD bV bG aI aG aV aj aE au:FM):J5 aT aN aP aH aL aF bD bV bG aI aG aV aj aE au=aW (lw0 aT aN aP aH aL aF bD bV bG aI aG aV aj aE au) (aW (lw1 aT aN aP aH aL aF bD bV bG aI aG aV aj aE au) (aW (lw2 aT aN aP aH aL aF bD bV bG aI aG aV aj aE au) (aW (lw3 aT aN aP aH aL aF bD bV bG aI aG aV aj aE au) (aW (lw4 aT aN aP aH aL aF bD bV bG aI aG aV aj aE au) (aW (lw5 aT aN aP aH aL aF bD bV bG aI aG aV aj aE au) (aW (lw6 aT aN aP aH aL aF bD bV bG aI aG aV aj aE au) (aW (lw7 aT aN aP aH aL aF bD bV bG aI aG aV aj aE au) (aW (lw8 aT aN aP aH aL aF bD bV bG aI aG aV aj aE au) (aW (lw9 aT aN aP aH aL aF bD bV bG aI aG aV aj aE au) (aW (WD aT aN aP aH aL aF bD bV bG aI aG aV aj aE au) (aW (WE aT aN aP aH aL aF bD bV bG aI aG aV aj aE au) (aW (WG aT aN aP aH aL aF bD bV bG aI aG aV aj aE au) (aW (WH aT aN aP aH aL aF bD bV bG aI aG aV aj aE au) (aW (WI aT aN aP aH aL aF bD bV bG aI aG aV aj aE au) (aW (WJ aT aN aP aH aL aF bD bV bG aI aG aV aj aE au) (aW (WK aT aN aP aH aL aF bD bV bG aI aG aV aj aE au) (aW (WL aT aN aP aH aL aF bD bV bG aI aG aV aj aE au) (aW (WM aT aN aP aH aL aF bD bV bG aI aG aV aj aE au) (aW (WN aT aN aP aH aL aF bD bV bG aI aG aV aj aE au) (WO aT aN aP aH aL aF bD bV bG aI aG aV aj aE au)))))))))))))))))))):=rfl
def F7(z:Str):Bool:=inD (.str z) [.str "not",.str "both",.str "either",.str "till",.str "now",.str "yes"]
def zD:Nat->BBB->BBJ
 |_,[]=>[]
 |k,w::ws=>if F7 w=true then k::zD (k+1) ws else zD (k+1) ws
def SH(a b:BBB):∀k,zD k (a++b)=zD k a++zD (k+a.length) b:=by
 induction a with
 |nil=>intro k;rfl
 |cons w a ih=>
  intro k;show(if F7 w=true then k::zD (k+1) (a++b) else zD (k+1) (a++b))=(if F7 w=true then k::zD (k+1) a else zD (k+1) a)++_;rw[ih,aaI,show k+1+a.length=k+(a.length+1) by lia];split<;>rfl
def Tr.Sz.zD{t:Tr}(h:t.Sz):∀k,∃A,A.length+1=t.sz/\T9.zD k t.wr=A++[k+t.lp]:=by
 induction h with
 |lf h=>intro k;exact⟨[],rfl,by cases h<;>kernel_rfl⟩
 |@bi z t u hz _ _ i1 i2=>
  intro k;obtain⟨A,a1,a2⟩:=i1 (k+1);obtain⟨B,b1,b2⟩:=i2 (k+1+t.wr.length);refine⟨k::(A++[k+1+t.lp]++B),by show(A++[k+1+t.lp]++B).length+1+1=t.sz+u.sz+1;rw[aaG,aaG,acE];lia,?_⟩;have e:T9.zD k (Tr.bi z t u).wr=k::T9.zD (k+1) (t.wr++u.wr):=if_pos (by cases hz<;>kernel_rfl);rw[e,SH,a2,b2,show k+1+t.wr.length+u.lp=k+(Tr.bi z t u).lp by show _=k+(t.wr.length+u.lp+1);lia,List.cons_append,adT _ B]
def Pd{d:D}(h:K5 d):E1 [d]=AAA (.str (toPy d).shown):=by show(if K5 d then some (U.t (.str (toPy d).shown)) else none)=_;rw[if_pos h]
section
variable {f1 f2 f3 f4 f5 f6 f7 f8 f9 oX f11 qF qG rL rM:FM}{ns:BBD}{T T1:MO}{w s d3 d4:D}{x1 x2 x3 x4 x5 x6 x7 x8 x9 uu rN lg kQ kR:Option U}{z:Str}{i:Int}{W:BBB}
noncomputable abbrev jx(ns:BBD)(x1 x2 x3 x4 x5 x6 x7 x8 x9 uu rN lg kQ kR:Option U):SS:=[some (.s ns),x1,x2,x3,x4,x5,x6,x7,x8,x9,uu,rN,lg,kQ,kR]
def l0(e:f1 [.s ns,.t (.int 0)]=some (.m T,[])):lw0 f1 f2 f3 f4 f5 f6 f7 f8 f9 oX f11 qF qG rL rM (jx ns none none none none none none none none none none none none none none)=some (.nx (jx ns (some (.m T)) none none none none none none none none none none none none none)):=by
 simp[lw0,e]
def l1(e:f2 [.b T,.t (.int 15)]=some (.t w,[T1])):lw1 f1 f2 f3 f4 f5 f6 f7 f8 f9 oX f11 qF qG rL rM (jx ns (some (.m T)) none none none none none none none none none none none none none)=some (.nx (jx ns (some (.m T1)) (AAA (.tup [.str "not",w])) none none none none none none none none none none none none)):=by
 simp[lw1,e]
def l2(e:f3 [.b T,.t (.int 8)]=some (.t d3,[T1])):lw2 f1 f2 f3 f4 f5 f6 f7 f8 f9 oX f11 qF qG rL rM (jx ns (some (.m T)) (AAA w) none none none none none none none none none none none none)=some (.nx (jx ns (some (.m T1)) (AAA w) (AAA d3) none none none none none none none none none none none)):=by
 simp[lw2,e]
def l3(e:f4 [.b T,.t (.int 3)]=some (.t d4,[T1])):lw3 f1 f2 f3 f4 f5 f6 f7 f8 f9 oX f11 qF qG rL rM (jx ns (some (.m T)) (AAA w) (AAA d3) none none none none none none none none none none none)=some (.nx (jx ns (some (.m T1)) (AAA w) (AAA d3) (AAA d4) none none none none none none none none none none)):=by
 simp[lw3,e]
def l4t(h:LH f5 f6 f7 s)(h5:CA x5=false):DM f1 f2 f3 f4 f5 f6 f7 f8 f9 oX f11 qF qG rL rM (jx ns (some (.m T)) (AAA w) (AAA d3) (AAA d4) (AAA s) none none none none none none none none none)=some (.nx (jx ns (some (.m T)) (AAA w) (AAA d3) (AAA d4) (AAA s) none none none none none none none none none)):=by
 obtain⟨z,e1,e2⟩:=h.b;have e0:=h.a;have r:=Pd h.c;simp[-Ry,DM,e0,e1,e2,r,mU]
def l4(h1:LH f5 f6 f7 w)(h2:LH f5 f6 f7 d3)(h3:LH f5 f6 f7 d4):lw4 f1 f2 f3 f4 f5 f6 f7 f8 f9 oX f11 qF qG rL rM (jx ns (some (.m T)) (AAA w) (AAA d3) (AAA d4) none none none none none none none none none none)=some (.nx (jx ns (some (.m T)) (AAA w) (AAA d3) (AAA d4) (AAA d4) none none none none none none none none none)):=by
 have a:=l4t (f1:=f1) (f2:=f2) (f3:=f3) (f4:=f4) (f5:=f5) (f6:=f6) (f7:=f7) (f8:=f8) (f9:=f9) (oX:=oX) (f11:=f11) (qF:=qF) (qG:=qG) (rL:=rL) (rM:=rM) (ns:=ns) (T:=T) (w:=w) (d3:=d3) (d4:=d4) h1 (x5:=none) rfl;have b:=l4t (f1:=f1) (f2:=f2) (f3:=f3) (f4:=f4) (f5:=f5) (f6:=f6) (f7:=f7) (f8:=f8) (f9:=f9) (oX:=oX) (f11:=f11) (qF:=qF) (qG:=qG) (rL:=rL) (rM:=rM) (ns:=ns) (T:=T) (w:=w) (d3:=d3) (d4:=d4) h2 (x5:=none) rfl;have c:=l4t (f1:=f1) (f2:=f2) (f3:=f3) (f4:=f4) (f5:=f5) (f6:=f6) (f7:=f7) (f8:=f8) (f9:=f9) (oX:=oX) (f11:=f11) (qF:=qF) (qG:=qG) (rL:=rL) (rM:=rM) (ns:=ns) (T:=T) (w:=w) (d3:=d3) (d4:=d4) h3 (x5:=none) rfl;have i:nv (eF (eP kj (aa (eF (ao 2)) (aa (eF (ao 3)) (aa (eF (ao 4)) ak))))) (jx ns (some (.m T)) (AAA w) (AAA d3) (AAA d4) none none none none none none none none none none)=some ([w,d3,d4],jx ns (some (.m T)) (AAA w) (AAA d3) (AAA d4) none none none none none none none none none none):=by simp[iE]
 unfold lw4;rw[Oe,i,aau];show loop _ _ [w,d3,d4] _=_;rw[j4 rfl a,j4 rfl b,j4 rfl c];rfl
def l5(e1:f8 [.t w]=some (.t (.int 16),[]))(e2:f9 [.t d3]=some (.t (.int 8),[]))(e3:f8 [.t d3]=some (.t (.int 8),[])):lw5 f1 f2 f3 f4 f5 f6 f7 f8 f9 oX f11 qF qG rL rM (jx ns (some (.m T)) (AAA w) (AAA d3) x4 x5 x6 x7 x8 x9 uu rN lg kQ kR)=some (.nx (jx ns (some (.m T)) (AAA w) (AAA d3) x4 x5 x6 x7 x8 x9 uu rN lg kQ kR)):=by
 simp[lw5,e1,e2,e3]
def l6(e1:f7 [.t w]=some (.t (.str z),[]))(e2:iZ [.str z,.str " "]=AAB (sL W)):lw6 f1 f2 f3 f4 f5 f6 f7 f8 f9 oX f11 qF qG rL rM (jx ns (some (.m T)) (AAA w) x3 x4 x5 none x7 x8 x9 uu rN lg kQ kR)=some (.nx (jx ns (some (.m T)) (AAA w) x3 x4 x5 (AAB (sL W)) x7 x8 x9 uu rN lg kQ kR)):=by
 simp[-fM,dj,lw6,e1,e2]
def l7(e1:f5 [.t (.tup [.str "next",w])]=some (.t (.bl false),[]))(e2:ow [.str " ",.lst (sL W)]=AAA (.str z))(hl:z.length<=9000)(e3:oX [.t (.str ("next " ++z))]=some (.t (.int i),[])):lw7 f1 f2 f3 f4 f5 f6 f7 f8 f9 oX f11 qF qG rL rM (jx ns (some (.m T)) (AAA w) x3 x4 x5 (AAB (sL W)) x7 x8 x9 uu rN lg kQ kR)=some (.nx (jx ns (some (.m T)) (AAA w) x3 x4 x5 (AAA (.lst (sL W))) x7 x8 x9 uu rN lg kQ kR)):=by
 have l:("next ":Str).length+z.length<=100000:=by show 5+z.length<=100000;lia
 simp[-fM,dj,lw7,e1,e2,l,e3,E4,vU]
def SI(z:Str):Gx [.str z,.tup [.str "not",.str "both",.str "either",.str "till",.str "now",.str "yes"]]=AAA (.bl (F7 z)):=rfl
theorem F8{S:SS}:∀(W V:BBB)(acc:List D),S[6]? =some (AAA (.lst (sL (V++W))))->
  cM [6] (qB (eF (eP Gx (aa (b9 1 (eF (ao 0))) (aa (eF (eP cK (aa (eC (.str "not")) (aa (eC (.str "both")) (aa (eC (.str "either")) (aa (eC (.str "till")) (aa (eC (.str "now")) (aa (eC (.str "yes")) ak)))))))) ak))))) (eF (ao 0)) ((List.range' V.length W.length).map λk:Nat=>D.int (k:Int)) S acc=some (acc++(zD V.length W).map (λk:Nat=>D.int (k:Int)),S)
 |[],V,acc,_=>by simp[cM,zD]
 |w::W,V,acc,h=>by
  have ha:ia (sL (V++w::W)) ((V.length:Nat):Int)=some (.str w):=by
   refine Sq.AA (by lia) ?_;rw[show((V.length:Nat):Int).toNat=V.length by lia];unfold sL;rw[abx,aez (aaq _),Nat.sub_self];rfl
  have ih:=F8 (S:=S) W (V++[w]) (if F7 w=true then acc++[.int (V.length:Int)] else acc) (by rw[h,adT];rfl);have e:=SI w;rw[aaI,List.range'_succ,abR,Sq.uW];rw[aaG,acE]at ih;have e1:cM [6] (qB (eF (eP Gx (aa (b9 1 (eF (ao 0))) (aa (eF (eP cK (aa (eC (.str "not")) (aa (eC (.str "both")) (aa (eC (.str "either")) (aa (eC (.str "till")) (aa (eC (.str "now")) (aa (eC (.str "yes")) ak)))))))) ak))))) (eF (ao 0)) [.int (V.length:Int)] S acc=some (if F7 w=true then acc++[.int (V.length:Int)] else acc,S):=by
   by_cases c:F7 w=true
   .rw[c]at e;simp[cM,ie,uS,h,ha,e,c]
   .rw[Bool.eq_false_iff.mpr c]at e;simp[cM,ie,uS,h,ha,e,c]
  rw[e1,aau,ih];show _=some (acc++(if F7 w=true then V.length::zD (V.length+1) W else zD (V.length+1) W).map _,S);split
  .rw[abR,adT];rfl
  .rfl
end
section
variable {f1 f2 f3 f4 f5 f6 f7 f8 f9 oX f11 qF qG rL rM:FM}{ns:BBD}{T T1:MO}{s d d3:D}{x1 x2 x3 x4 x5 x6 x7 x8 x9 uu rN lg kQ kR:Option U}{z:Str}{i j m:Int}{W:BBB}
def aac(n:Nat):vF 0 n=(List.range' 0 n).map λk:Nat=>D.int (k:Int):=by
 unfold vF;rw[List.range_eq_range'];refine List.map_congr_left λk _=>?_;rw[Int.zero_add]
def l8(hl:W.length<10000):lw8 f1 f2 f3 f4 f5 f6 f7 f8 f9 oX f11 qF qG rL rM (jx ns x1 x2 x3 x4 x5 (AAA (.lst (sL W))) none x8 x9 uu rN lg kQ kR)=some (.nx (jx ns x1 x2 x3 x4 x5 (AAA (.lst (sL W))) (AAB ((zD 0 W).map λk:Nat=>D.int (k:Int))) x8 x9 uu rN lg kQ kR)):=by
 have c:=F8 (S:=jx ns x1 x2 x3 x4 x5 (AAA (.lst (sL W))) none x8 x9 uu rN lg kQ kR) W [] [] rfl;have er:=Sq.oE (gA:=aa (lE 6) ak) (S:=jx ns x1 x2 x3 x4 x5 (AAA (.lst (sL W))) none x8 x9 uu rN lg kQ kR) (S':=jx ns x1 x2 x3 x4 x5 (AAA (.lst (sL W))) none x8 x9 uu rN lg kQ kR) (j:=(W.length:Int)) (by simp[AJ]) (by lia) (by lia);rw[show(W.length:Int).toNat=W.length by lia,aac]at er;rw[agb]at c;have c:cM _ _ _ ((List.range' 0 W.length).map λk:Nat=>D.int (k:Int)) _ []=_:=c;have hk:((List.range' 0 W.length).map λk:Nat=>D.int (k:Int)).length<=100000:=by rw[aaw,List.length_range'];lia
 have e:iP [6] (gH (aa (lE 6) ak)) (qB (eF (eP Gx (aa (b9 1 (eF (ao 0))) (aa (eF (eP cK (aa (eC (.str "not")) (aa (eC (.str "both")) (aa (eC (.str "either")) (aa (eC (.str "till")) (aa (eC (.str "now")) (aa (eC (.str "yes")) ak)))))))) ak))))) (eF (ao 0)) (jx ns x1 x2 x3 x4 x5 (AAA (.lst (sL W))) none x8 x9 uu rN lg kQ kR)=some (.m (.lst ((zD 0 W).map λk:Nat=>D.int (k:Int))),jx ns x1 x2 x3 x4 x5 (AAA (.lst (sL W))) none x8 x9 uu rN lg kQ kR):=by
  show(gH _ _).bind _=_;rw[er,aau];dsimp only;rw[if_pos hk,c];rfl
 unfold lw8;generalize iP [6] _ _ _=g at *;simp[-fM,dj,e]
def l9{B:List D}(hl:z.length<=9000)(e2:ow [.str " ",.lst (sL W)]=AAA (.str z))(e3:oX [.t (.str ("next " ++z))]=some (.t (.int (i+1)),[]))(eb:ia B 15=some (.int i))(e5:f5 [.t (.tup [.str "not",d3])]=some (.t (.bl false),[])):lw9 f1 f2 f3 f4 f5 f6 f7 f8 f9 oX f11 qF qG rL rM (jx ns x1 x2 (AAA d3) x4 x5 (AAA (.lst (sL W))) (AAB B) x8 x9 uu rN lg kQ kR)=some (.nx (jx ns x1 x2 (AAA d3) x4 x5 (AAA (.lst (sL W))) (AAB B) x8 x9 uu rN lg kQ kR)):=by
 have l:("next ":Str).length+z.length<=100000:=by show 5+z.length<=100000;lia
 simp[lw9,e2,l,e3,eb,e5]
def l10(hl:z.length<=9000)(e1:f7 [.t d3]=some (.t (.str z),[]))(e2:oX [.t (.str ("not " ++z))]=some (.t (.int 8),[]))(e3:f4 [.b T,.t (.int 4)]=some (.t d,[T1]))(e4:f5 [.t d]=some (.t (.bl false),[])):WD f1 f2 f3 f4 f5 f6 f7 f8 f9 oX f11 qF qG rL rM (jx ns (some (.m T)) x2 (AAA d3) x4 x5 x6 x7 x8 x9 uu rN lg kQ kR)=some (.nx (jx ns (some (.m T1)) x2 (AAA d3) x4 x5 x6 x7 x8 x9 uu rN lg kQ kR)):=by
 have l:("not ":Str).length+z.length<=100000:=by show 4+z.length<=100000;lia
 simp[WD,e1,e2,l,e3,e4]
def l11(e3:f4 [.b T,.t (.int 4)]=some (.t d,[T1]))(e1:f7 [.t d]=some (.t (.str z),[]))(e2:oX [.t (.str z)]=some (.t (.int 9),[])):WE f1 f2 f3 f4 f5 f6 f7 f8 f9 oX f11 qF qG rL rM (jx ns (some (.m T)) x2 x3 x4 x5 x6 x7 x8 x9 uu rN lg kQ kR)=some (.nx (jx ns (some (.m T1)) x2 x3 x4 x5 x6 x7 x8 x9 uu rN lg kQ kR)):=by
 simp[WE,e1,e2,e3]
def l12:WG f1 f2 f3 f4 f5 f6 f7 f8 f9 oX f11 qF qG rL rM (jx ns x1 x2 x3 x4 x5 x6 x7 none x9 uu rN lg kQ kR)=some (.nx (jx ns x1 x2 x3 x4 x5 x6 x7 (AAA (.str rF)) x9 uu rN lg kQ kR)):=by
 simp[-fM,dj,WG]
def l13(e1:oX [.t (.str (rF++"now any"))]=some (.t .cD,[]))(e2:oX [.t (.str (rF++"one a x yes"))]=some (.t (.int 17),[])):WH f1 f2 f3 f4 f5 f6 f7 f8 f9 oX f11 qF qG rL rM (jx ns x1 x2 x3 x4 x5 x6 x7 (AAA (.str rF)) x9 uu rN lg kQ kR)=some (.nx (jx ns x1 x2 x3 x4 x5 x6 x7 (AAA (.str rF)) x9 uu rN lg kQ kR)):=by
 have l1:rF.length+("now any":Str).length<=100000:=by decide +kernel
 have l2:rF.length+("one a x yes":Str).length<=100000:=by decide +kernel
 generalize rF=t at *;simp[WH,e1,e2,l1,l2,mW,vU]
def l14(e:f11 [.b T,.t (.int 5)]=some (.t (.int m),[T1])):WI f1 f2 f3 f4 f5 f6 f7 f8 f9 oX f11 qF qG rL rM (jx ns (some (.m T)) x2 x3 x4 x5 x6 x7 x8 none uu rN lg kQ kR)=some (.nx (jx ns (some (.m T1)) x2 x3 x4 x5 x6 x7 x8 (AAC m) uu rN lg kQ kR)):=by
 simp[-fM,dj,WI,e]
def l15:WJ f1 f2 f3 f4 f5 f6 f7 f8 f9 oX f11 qF qG rL rM (jx ns x1 x2 x3 x4 x5 x6 x7 x8 (AAC m) none rN lg kQ kR)=some (.nx (jx ns x1 x2 x3 x4 x5 x6 x7 x8 (AAC m) (AAA (.tup (Si m (4-m)))) rN lg kQ kR)):=by
 simp[-fM,dj,WJ]
def l16{R:List D}(hR:R.length<=100)(e1:qF [.t (.tup R)]=some (.t (.bl true),[]))(e2:qF [.t (.tup (R++[.tup [.str "x",.int 0]]))]=some (.t (.bl false),[])):WK f1 f2 f3 f4 f5 f6 f7 f8 f9 oX f11 qF qG rL rM (jx ns x1 x2 x3 x4 x5 x6 x7 x8 x9 (AAA (.tup R)) rN lg kQ kR)=some (.nx (jx ns x1 x2 x3 x4 x5 x6 x7 x8 x9 (AAA (.tup R)) rN lg kQ kR)):=by
 have l:R.length+1<=100000:=by lia
 simp[WK,e1,e2,l,mU]
def l17{R:D}(hl:z.length<=100)(e1:rL [.t R]=some (.t (.str z),[]))(e2:qG [.t (.str z)]=some (.t .cD,[]))(e3:qG [.t (.str (z++" x.0"))]=some (.t (.int 3),[])):WL f1 f2 f3 f4 f5 f6 f7 f8 f9 oX f11 qF qG rL rM (jx ns x1 x2 x3 x4 x5 x6 x7 x8 x9 (AAA R) rN lg kQ kR)=some (.nx (jx ns x1 x2 x3 x4 x5 x6 x7 x8 x9 (AAA R) rN lg kQ kR)):=by
 have l:z.length+(" x.0":Str).length<=100000:=by show z.length+4<=100000;lia
 simp[WL,e1,e2,e3,l,mW,vU]
def l18:WM f1 f2 f3 f4 f5 f6 f7 f8 f9 oX f11 qF qG rL rM (jx ns x1 x2 x3 x4 x5 x6 x7 x8 x9 uu none lg kQ kR)=some (.nx (jx ns x1 x2 x3 x4 x5 x6 x7 x8 x9 uu (AAB []) lg kQ kR)):=by
 simp[-fM,dj,WM]
def l20{L:List D}(e1:f3 [.b T,.t (.int 3)]=some (.t s,[T1]))(e2:rM [.t s,.t (.lst L)]=some (.t (.bl true),[])):WO f1 f2 f3 f4 f5 f6 f7 f8 f9 oX f11 qF qG rL rM (jx ns (some (.m T)) x2 x3 x4 x5 x6 x7 x8 x9 uu (AAB L) lg kQ kR)=some (.rt (.t (.bl true)) (jx ns (some (.m T1)) x2 x3 x4 x5 x6 x7 x8 x9 uu (AAA (.lst L)) lg kQ kR)):=by
 simp[-fM,dj,WO,e1,e2]
end
section
variable {f1 f2 f3 f4 f5 f6 f7 f8 f9 oX f11 qF qG rL rM:FM}{ns:BBD}{T T1 T2:MO}{x2 x3 x4 x5 x6 x7 x8 x9 lg kQ kR:Option U}{z:Str}{v k h:Int}
def Pe{Q A:List D}(h13:CA kQ=false)(h14:CA kR=false)(e1:f11 [.b T,.t (.int 3)]=some (.t (.int v),[T1]))(ev:ia Q v=some (.tup [.str z,.int h]))(e2:f11 [.b T1,.t (.int (h+1))]=some (.t (.int k),[T2]))(hA:A.length<1000):
  AX f1 f2 f3 f4 f5 f6 f7 f8 f9 oX f11 qF qG rL rM (jx ns (some (.m T)) x2 x3 x4 x5 x6 x7 x8 x9 (AAA (.tup Q)) (AAB A) lg kQ kR)=some (.nx (jx ns (some (.m T2)) x2 x3 x4 x5 x6 x7 x8 x9 (AAA (.tup Q)) (AAB (A++[CC (z,k)])) lg (AAA (.str z)) (AAC h))):=by
 have l:A.length<100000:=by lia
 simp[-fM,dj,AX,e1,ev,e2,h13,h14,hAppend,l,CC]
end
inductive aeC(ns:BBD)(Q:List D)(x2 x3 x4 x5 x6 x7 x8 x9:Option U)(t:dh)(l:List D)(S:SS):Prop
 |mk(R:Row)(u:dh)(lg kQ kR:Option U)(hb:CA lg=false/\CA kQ=false/\CA kR=false)(hR:R.length+l.length=60)(n0:t.n<=u.n)(n:u.n<=t.n+2*R.length)(hd:∀e∈l,∃i:Int,e= .int i)(e:S=jx ns (some (.m (tp u))) x2 x3 x4 x5 x6 x7 x8 x9 (some (.t (.tup Q))) (some (.m (.lst (R.map CC)))) lg kQ kR)
section
variable {f1 f2 f3 f4 f5 f6 f7 f8 f9 oX qF qG rL rM:FM}{ns:BBD}{x2 x3 x4 x5 x6 x7 x8 x9:Option U}
def l19{t:dh}{b:Int}(hab:M5 a b)(h0:0<=t.n)(h1:t.n<10000):∃(R:Row)(u:dh)(lg kQ kR:Option U),R.length=60/\0<=u.n/\u.n<=t.n+120/\
  WN f1 f2 f3 f4 f5 f6 f7 f8 f9 oX jr qF qG rL rM (jx ns (some (.m (tp t))) x2 x3 x4 x5 x6 x7 x8 x9 (AAA (.tup (Si a b))) (AAB []) none none none)=some (.nx (jx ns (some (.m (tp u))) x2 x3 x4 x5 x6 x7 x8 x9 (AAA (.tup (Si a b))) (AAB (R.map CC)) lg kQ kR)):=by
 have ahP:0<=a/\a<=4/\0<=b/\b<=4:=by cases hab<;>decide
 have hq:∀y∈Si a b,∃(z:Str)(h:Int),y= .tup [.str z,.int h]/\0<=h/\h<=5:=by
  intro y hy;simp only[aat,abt,afF]at hy;rcases hy with rfl|rfl|rfl
  .exact⟨_,_,rfl,by decide,by decide⟩
  .exact⟨_,_,rfl,by lia,by lia⟩
  .exact⟨_,_,rfl,by lia,by lia⟩
 have hl:(Si a b).length=3:=rfl;generalize Si a b=Q at *;obtain⟨S',e,R,u,lg,kQ,kR,_,hR,n0,n,_,rfl⟩:=Sq.v8 (bd:=bName 12) (body:=AX f1 f2 f3 f4 f5 f6 f7 f8 f9 oX jr qF qG rL rM) (vF 0 60) (aeC ns Q x2 x3 x4 x5 x6 x7 x8 x9 t) (jx ns (some (.m (tp t))) x2 x3 x4 x5 x6 x7 x8 x9 (AAA (.tup Q)) (AAB []) none none none)
  ⟨[],t,none,none,none,⟨rfl,rfl,rfl⟩,by unfold vF;rw[aaw,List.length_range];rfl,Int.le_refl _,by show t.n<=t.n+2*0;lia,λe he=>by unfold vF at he;obtain⟨i,_,rfl⟩:=afE.mp he;exact⟨_,rfl⟩,rfl⟩ (by
  rintro dd l S ⟨R,u,lg,kQ,kR,⟨b12,b13,b14⟩,hR,n0,n,hd,rfl⟩;obtain⟨i,rfl⟩:=hd dd aav;rw[aaI]at hR;obtain⟨v,u1,e1,v0,v1,m1⟩:=AV (t:=u) (m:=3) (by decide) (by decide) (by lia) (by lia);obtain⟨y,ey,hy⟩:=FZ (l:=Q) v0 (by rw[hl];exact v1);obtain⟨z,h,rfl,z0,z5⟩:=hq y hy;obtain⟨k,u2,e2,k0,k1,m2⟩:=AV (t:=u1) (m:=h+1) (by lia) (by lia) (by lia) (by lia);refine⟨jx ns (some (.m (tp u))) x2 x3 x4 x5 x6 x7 x8 x9 (AAA (.tup Q)) (AAB (R.map CC)) (AAC i) kQ kR,_,by simp[-fM,dj,b12],Pe b13 b14 e1 ey e2 (by rw[aaw];lia),R++[(z,k)],u2,AAC i,AAA (.str z),AAC h,⟨rfl,rfl,rfl⟩,by rw[aaG,acE];lia,by lia,by rw[aaG,acE];lia,λe he=>hd e (aar _ he),by rw[afB];rfl⟩)
 rw[aeR,Nat.add_zero]at hR;refine⟨R,u,lg,kQ,kR,hR,by lia,by rw[hR]at n;lia,?_⟩;have er:gH (aa (eC (.int 60)) ak) (jx ns (some (.m (tp t))) x2 x3 x4 x5 x6 x7 x8 x9 (AAA (.tup Q)) (AAB []) none none none)=some (vF 0 60,jx ns (some (.m (tp t))) x2 x3 x4 x5 x6 x7 x8 x9 (AAA (.tup Q)) (AAB []) none none none):=Sq.oE (j:=60) rfl (by decide) (by decide);unfold WN;rw[Oe,er,aau];exact e
end
def Tr.Ok.q{t:Tr}(h:t.Ok)(hd:t.dp<=8)(hs:t.sz<=16):LH kP OR nC t.d:=by
 have e:=h.say (by lia) (by lia);rw[acY hd,acY hs]at e;exact⟨e,⟨_,h.shown (by lia) (by lia),h.rsd (by lia) hd hs⟩,h.K5 (by lia) (by lia)⟩
def sn{a b:GS}{r:Option Out}(h:a S=some (.nx S1))(h2:b S1=r):aW a b S=r:=(qA h).trans h2
def LV:∀us r,Ds 63 us=some r->bz 15 (J5 Ar (wz 9) F6 uc kP OR nC AH (xE 9) OS jr xF LJ AM O4) us=some r:=by
 intro us r h;unfold Ds at h;split at h
 .rename_i ns;obtain⟨hl,rfl⟩:=cj h;have e0:Ar [.s ns,.t (.int 0)]=some (.m (tp (CB ns 0)),[]):=if_pos ⟨by decide,by decide,by lia⟩;have n0:(CB ns 0).n=0:=rfl;obtain⟨wt,t1,o2,wsz,wdp,e1,a1,b1⟩:=SG (t:=CB ns 0) (Int.le_refl 0) (show(0:Int)<1000 by decide);obtain⟨zs,dl,PL,t2,hz,zl,hf,e2,a2,b2⟩:=J4 (m:=7) (by decide) (t:=t1) (by lia) (by lia);obtain⟨ba,bb,bc,t3,hba,hbb,hbc,e3,n3⟩:=WC (t:=t2) (by lia) (by lia);have SJ:(Tr.un "not" wt).Ok:=.un .a o2.ok;have aeD:(Tr.un "not" wt).dp=5:=by show wt.dp+1=5;rw[wdp]
  have aad:(Tr.un "not" wt).sz=16:=by show wt.sz+1=16;rw[wsz]
  have Xs:(chain zs (.lf dl PL)).Ok:=wc hz (.lf hf);have ddp:(chain zs (.lf dl PL)).dp=8:=by rw[(rA _ _).1,zl];rfl
  have dsz:(chain zs (.lf dl PL)).sz=8:=by rw[(rA _ _).2,zl];rfl
  have s1:=SJ.size (by lia) (by lia);rw[aad]at s1;have s2:=Xs.size (by lia) (by lia);rw[dsz]at s2;have s3:=FH hf hz (j:=9) (by lia);rw[zl]at s3;have nok:(Tr.un "next" (Tr.un "not" wt)).Ok:=.un .b SJ;have ndp:(Tr.un "next" (Tr.un "not" wt)).dp=6:=by show(Tr.un "not" wt).dp+1=6;rw[aeD]
  have nsz:(Tr.un "next" (Tr.un "not" wt)).sz=17:=by show(Tr.un "not" wt).sz+1=17;rw[aad]
  have g1:=nok.say (by lia) (by lia);rw[nsz,ndp]at g1;have g2:=nok.wide (by lia) (by lia) nsz;rw[show txt (Tr.un "next" (Tr.un "not" wt)).wr="next " ++txt (Tr.un "not" wt).wr by show txt ("next" :: "not" :: wt.wr)=_;rw[FG];rfl]at g2;obtain⟨A,al,ab⟩:=o2.zD 1;have g3:ia ((zD 0 (Tr.un "not" wt).wr).map λk:Nat=>D.int (k:Int)) 15=some (.int (((Tr.un "not" wt).lp:Nat):Int)):=by
   refine Sq.AA (by decide) ?_;rw[show zD 0 (Tr.un "not" wt).wr=0::zD 1 wt.wr from if_pos (by kernel_rfl),ab,abx,<-List.cons_append,aez (by show A.length+1<=15;lia),show(15:Int).toNat-(0::A).length=0 by show 15-(A.length+1)=0;lia,Nat.add_comm 1];rfl
  have hz9:∀z∈("not":Str)::zs,On z:=λz h=>by rcases aat.mp h with rfl|h;exact .a;exact hz z h
  have kok:=wc hz9 (.lf hf);have kdp:(chain ("not" :: zs) (.lf dl PL)).dp=9:=by rw[(rA _ _).1,aaI,zl];rfl
  have ksz:(chain ("not" :: zs) (.lf dl PL)).sz=9:=by rw[(rA _ _).2,aaI,zl];rfl
  have g4:=kok.say (by lia) (by lia);rw[kdp]at g4;have g5:=Sh hz9 (t:=.lf dl PL) (.lf hf) (by rw[aaI,zl]) (show 1<=50 by decide);obtain⟨y,ys,ey⟩:=Xs.ne;rw[show txt (chain ("not" :: zs) (.lf dl PL)).wr="not " ++txt (chain zs (.lf dl PL)).wr by show txt ("not" :: (chain zs (.lf dl PL)).wr)=_;rw[ey,FG];rfl]at g5;have ahZ:=SJ.len;have wtl:=DB SJ.wk;have ah0:=Xs.len;have dtl:=DB Xs.wk;obtain⟨c1,c2,c3,c4,t4,hc1,hc2,hc3,hc4,e4,n4⟩:=Pc (t:=t3) (by lia) (by lia);obtain⟨k1,k2,k3,k4,t5,hk1,hk2,hk3,hk4,e5,n5⟩:=Pc (t:=t4) (by lia) (by lia);obtain⟨m,t6,e6,m0,m1,n6⟩:=AV (t:=t5) (m:=5) (by decide) (by decide) (by lia) (by lia);have hm:M5 m (4-m):=by
   have:m=0\/m=1\/m=2\/m=3\/m=4:=by lia
   rcases this with rfl|rfl|rfl|rfl|rfl
   .exact .a
   .exact .b
   .exact .c
   .exact .d
   .exact .e
  obtain⟨i1,i2,zt,jl,j1,j2,j3⟩:=Wr hm;obtain⟨R,t7,lg,kQ,kR,Rl,t70,t71,e19⟩:=l19 (f1:=Ar) (f2:=wz 9) (f3:=F6) (f4:=uc) (f5:=kP) (f6:=OR) (f7:=nC) (f8:=AH) (f9:=xE 9) (oX:=OS) (qF:=xF) (qG:=LJ) (rL:=AM) (rM:=O4) (ns:=ns) (x2:=some (.t (Tr.un "not" wt).d)) (x3:=some (.t (chain zs (.lf dl PL)).d)) (x4:=AAA (PK ba bb bc)) (x5:=AAA (PK ba bb bc)) (x6:=AAA (.lst (sL (Tr.un "not" wt).wr))) (x7:=AAB ((zD 0 (Tr.un "not" wt).wr).map λk:Nat=>D.int (k:Int))) (x8:=AAA (.str rF)) (x9:=AAC m) hm (t:=t6) (by lia) (by lia);obtain⟨ys,dy,wy,t8,hy,yl,hfy,e8,_,_⟩:=J4 (m:=2) (by decide) (t:=t7) (by lia) (by lia);have e20:=Wz Rl hfy hy (by lia);have q4:=T8 hc1 hc2 hc3 hc4;have q5:=T8 hk1 hk2 hk3 hk4;show(J5 _ _ _ _ _ _ _ _ _ _ _ _ _ _ _ (jx ns none none none none none none none none none none none none none none)).bind _=_;rw[lw_eq,sn (l0 e0) (sn (l1 e1) (sn (l2 e2) (sn (l3 e3) (sn (l4 (SJ.q (by lia) (by lia)) (Xs.q (by lia) (by lia)) (ZV hba hbb hbc)) (sn (l5 s1 s3 s2) (sn (l6 (SJ.shown (by lia) (by lia)) (SJ.split (by lia))) (sn (l7 g1 (AK SJ.wk (by lia)) (by lia) g2) (sn (l8 (by lia)) (sn (l9 (by lia) (AK SJ.wk (by lia)) g2 g3 g4) (sn (l10 (by lia) (Xs.shown (by lia) (by lia)) g5 e4 q4.1) (sn (l11 e5 q5.2.1 q5.2.2) (sn l12 (sn (l13 ZX aeh) (sn (l14 e6) (sn l15 (sn (l16 (show 3<=100 by decide) i1 i2) (sn (l17 jl j1 j2 j3) (sn l18 (sn e19 (l20 e8 e20))))))))))))))))))))];rfl
 .cases h
end T9
end
namespace K15
open PySem PySem.Spec PyProof.Rows L2 Sw
variable {j:Nat}{l:PySem.W.OpenLaw}
def top(i:Nat):Stmt:=PySem.Challenge.pw_surewatch_k15_whole_at_the_bounds.main.body.getD i (.Pass ⟨0,0,0,0⟩)
noncomputable def aae(s:Stmt)(j:Nat):Stmt:=match s with
 |.ClassDef _ _ _ b _ _ _ _ _ _ _=>b.getD j (.Pass ⟨0,0,0,0⟩)
 |_=>.Pass ⟨0,0,0,0⟩
def pN(i j:Nat):Stmt:=aae (top i) j
structure Zc where
 P:Program
 w:World
 K:PySem.W.Frag
 mg:Str->BBP
structure Nb(P:Program)(w:World)(K:AAD)(mg:AAF):Prop where
 kE:mg "isinstance" =none
 aaf:mg "int" =none
 aag:mg "bool" =none
 Pf:mg "tuple" =none
 mL:mg "len" =none
 SK:mg "str" =none
 WQ:mg "all" =none
 aeE:mg "set" =none
 aeF:mg "sum" =none
 aah:mg "max" =none
 aai:mg "list" =none
 aeG:mg "zip" =none
 LW:mg "reversed" =none
 xM:mg "range" =none
 AY:mg "enumerate" =none
 Ue:mg "repr" =none
 BR:∃t,mg "LONGEST_NAME" =some (.int 8 t)
 Pg:∃t,mg "LETTERS" =some (.str "abcdefghijklmnopqrstuvwxyz" t)
 lZ:∃t,mg "GREATEST_MOST" =some (.int 5 t)
 rO:∃t,mg "MOST_NAMES" =some (.int 4 t)
 jN:∃t,mg "MOST_HAPPENINGS" =some (.int 12 t)
 xN:∃t,mg "GREATEST_NUMBER" =some (.int 9 t)
 AZ:∃a,mg "LENGTHS" =some (.ref a)/\KTab P w K a [("yes",1),("no",1),("now",2),("not",2),("both",3),("either",3),("next",2),("till",3),("within",3),("always",2),("some",2),("each",4),("one",4)]
 J6:∃a,mg "STARTS" =some (.ref a)/\KTab P w K a [("yes",1),("no",1),("now",2),("not",1),("both",1),("either",1),("next",1),("till",1),("within",2),("always",1),("some",1),("each",3),("one",3)]
 oJ:∃a,mg "BINDERS" =some (.ref a)/\NY K a ["each","one"]
 pO:∃t,mg "MOST_WITHIN" =some (.int 8 t)
 nD:∃t,mg "MOST_SAYINGS" =some (.int 16 t)
 nF:∃t,mg "MOST_BINDERS" =some (.int 3 t)
 F9:∃a,mg "FIGURES" =some (.ref a)/\KTab P w K a [("0",0),("1",1),("2",2),("3",3),("4",4),("5",5),("6",6),("7",7),("8",8),("9",9)]
 bA:BC K 308
 j6:PySem.W.findIn K (.ref 308) "words" =some none
 jO:PySem.W.findIn K (.ref 308) "at" =some none
 dR:PySem.W.findIn K (.ref 308) "sayings" =some none
 fY:PySem.W.findIn K (.ref 308) "binders" =some none
 J7:mg "NoText" =some (.ref 175)
 J8:∃cd,Lp K 175 cd
 J9:PySem.W.hasDictIn K 175=true
 A0:dQ K 175 "at"
 rQ:∃bm,Ax K 175 bm/\(Value.ref 175::bm).contains (.ref 175)=true
 Ka:∃bm,Ax K 175 bm/\bm.contains (.type "BaseException")=true
 Kc:∀base,Rai P w K mg base "NoText" 175 ["at"]
abbrev NZ(z:Zc):Prop:=Nb z.P z.w z.K z.mg
variable {z:Zc}{b:Heap}
abbrev u6:Stmt:=top 3
abbrev A1(z:Zc):Prop:=Df z.K z.mg "is_whole" u6
abbrev pP(z:Zc)(b:Heap):Prop:=lM z.P z.w z.K z.mg b 1 "is_whole" ["thing","least","most"] T9.Dq
abbrev u9:Stmt:=top 4
abbrev A2(z:Zc):Prop:=Df z.K z.mg "is_tuple" u9
abbrev jP(z:Zc)(b:Heap):Prop:=lM z.P z.w z.K z.mg b 1 "is_tuple" ["thing","least","most"] T9.AF
abbrev xO:Stmt:=top 5
abbrev CK(z:Zc):Prop:=Df z.K z.mg "is_name" xO
abbrev jQ(z:Zc)(b:Heap):Prop:=lM z.P z.w z.K z.mg b 1 "is_name" ["thing"] T9.AG
abbrev vc:Stmt:=top 11
abbrev A3(z:Zc):Prop:=Df z.K z.mg "is_entry" vc
abbrev vd(z:Zc)(b:Heap):Prop:=lM z.P z.w z.K z.mg b 2 "is_entry" ["thing"] T9.OT
abbrev ve:Stmt:=top 12
abbrev A4(z:Zc):Prop:=Df z.K z.mg "is_table" ve
abbrev vf(z:Zc)(b:Heap):Prop:=lM z.P z.w z.K z.mg b 3 "is_table" ["thing"] T9.xF
abbrev kT:Stmt:=top 13
abbrev qq(z:Zc):Prop:=Df z.K z.mg "is_test_among" kT
abbrev kU(z:Zc)(b:Heap):Prop:=lM z.P z.w z.K z.mg b 2 "is_test_among" ["thing","bound"] T9.TY
abbrev A5:Stmt:=top 14
abbrev Ga(z:Zc):Prop:=Df z.K z.mg "passes" A5
abbrev A6(z:Zc)(b:Heap):Prop:=lM z.P z.w z.K z.mg b 1 "passes" ["test","happening"] T9.AS
abbrev xP:Stmt:=top 23
abbrev CL(z:Zc):Prop:=Df z.K z.mg "is_head" xP
abbrev ud(z:Zc)(b:Heap):Prop:=lM z.P z.w z.K z.mg b 1 "is_head" ["word"] T9.JV
abbrev mh:Stmt:=top 24
abbrev rR(z:Zc):Prop:=Df z.K z.mg "parts_wanted" mh
abbrev jy(z:Zc)(b:Heap):Prop:=lM z.P z.w z.K z.mg b 1 "parts_wanted" ["head"] T9.Xr
abbrev vg:Stmt:=top 25
abbrev A7(z:Zc):Prop:=Df z.K z.mg "parts_of" vg
abbrev jR(z:Zc)(b:Heap):Prop:=lM z.P z.w z.K z.mg b 1 "parts_of" ["saying"] T9.iF
abbrev mj:Stmt:=top 26
abbrev rS(z:Zc):Prop:=Df z.K z.mg "bound_within" mj
abbrev gP(z:Zc)(b:Heap):Prop:=lM z.P z.w z.K z.mg b 1 "bound_within" ["saying","bound"] T9.nB
abbrev rT:Stmt:=top 27
abbrev yH(z:Zc):Prop:=Df z.K z.mg "is_shaped" rT
abbrev rW(z:Zc)(b:Heap):Prop:=lM z.P z.w z.K z.mg b 3 "is_shaped" ["thing","bound"] T9.tY
abbrev rX:Stmt:=top 28
abbrev yI(z:Zc):Prop:=Df z.K z.mg "is_formed" rX
abbrev mZ(z:Zc)(b:Heap)(j:Nat):Prop:=lM z.P z.w z.K z.mg b (j+3) "is_formed" ["thing","bound","room"] (T9.CF j)
abbrev A8:Stmt:=top 29
abbrev Gb(z:Zc):Prop:=Df z.K z.mg "all_in" A8
abbrev rY(z:Zc)(b:Heap)(j:Nat):Prop:=lM z.P z.w z.K z.mg b (j+1) "all_in" ["saying"] (T9.OI j)
abbrev pQ:Stmt:=top 30
abbrev wA(z:Zc):Prop:=Df z.K z.mg "binders_in" pQ
abbrev pR(z:Zc)(b:Heap):Prop:=lM z.P z.w z.K z.mg b 11 "binders_in" ["saying"] T9.JP
abbrev rZ:Stmt:=top 31
abbrev yJ(z:Zc):Prop:=Df z.K z.mg "is_saying" rZ
abbrev r9(z:Zc)(b:Heap):Prop:=lM z.P z.w z.K z.mg b 13 "is_saying" ["thing"] T9.kP
abbrev Ih:Stmt:=top 32
abbrev Ph(z:Zc):Prop:=Df z.K z.mg "size" Ih
abbrev DN(z:Zc)(b:Heap):Prop:=lM z.P z.w z.K z.mg b 11 "size" ["saying"] T9.AH
abbrev DO:Stmt:=top 33
abbrev Ke(z:Zc):Prop:=Df z.K z.mg "depth" DO
abbrev zE(z:Zc)(b:Heap)(j:Nat):Prop:=lM z.P z.w z.K z.mg b (j+1) "depth" ["saying"] (T9.xE j)
abbrev DP:Stmt:=top 40
abbrev Kf(z:Zc):Prop:=Df z.K z.mg "holds" DP
abbrev DQ(z:Zc)(b:Heap):Prop:=lM z.P z.w z.K z.mg b 28 "holds" ["saying","row","place"] T9.O3
abbrev se:Stmt:=top 41
abbrev yK(z:Zc):Prop:=Df z.K z.mg "truths_of" se
abbrev m5(z:Zc)(b:Heap)(j:Nat):Prop:=lM z.P z.w z.K z.mg b (j+3) "truths_of" ["saying","row","known"] (T9.trF j)
abbrev jS:Stmt:=top 42
abbrev oK(z:Zc):Prop:=Df z.K z.mg "truths_by_head" jS
abbrev jT(z:Zc)(b:Heap)(j:Nat):Prop:=lM z.P z.w z.K z.mg b (j+3) "truths_by_head" ["saying","row","known"] (T9.tbF j)
abbrev kW:Stmt:=top 44
abbrev qu(z:Zc):Prop:=Df z.K z.mg "turned_truths" kW
abbrev iV(z:Zc)(b:Heap):Prop:=lM z.P z.w z.K z.mg b 1 "turned_truths" ["truths"] T9.turnF
abbrev xQ:Stmt:=top 45
abbrev CM(z:Zc):Prop:=Df z.K z.mg "come_to" xQ
abbrev xR(z:Zc)(b:Heap):Prop:=lM z.P z.w z.K z.mg b 1 "come_to" ["stays","comes"] T9.CI
abbrev xS:Stmt:=top 46
abbrev CN(z:Zc):Prop:=Df z.K z.mg "at_some" xS
abbrev ue(z:Zc)(b:Heap):Prop:=lM z.P z.w z.K z.mg b 2 "at_some" ["truths"] T9.yF
abbrev A9:Stmt:=top 47
abbrev Ge(z:Zc):Prop:=Df z.K z.mg "at_all" A9
abbrev Ba(z:Zc)(b:Heap):Prop:=lM z.P z.w z.K z.mg b 3 "at_all" ["truths"] T9.AQ
abbrev jz:Stmt:=pN 51 0
abbrev m6(z:Zc):Prop:=BI z.K 308 "__init__" "Reader.__init__" jz
abbrev gB(z:Zc)(b:Heap):Prop:=ur z.P z.w z.K z.mg b 1 308 "__init__" ["self","words"] T9.JZ
abbrev mq:Stmt:=pN 51 1
abbrev sf(z:Zc):Prop:=BI z.K 308 "taken" "Reader.taken" mq
abbrev fu(z:Zc)(b:Heap):Prop:=ur z.P z.w z.K z.mg b 1 308 "taken" ["self"] T9.Ia
abbrev kX:Stmt:=pN 51 2
abbrev kY(z:Zc):Prop:=BI z.K 308 "wanted" "Reader.wanted" kX
abbrev dU(z:Zc)(b:Heap):Prop:=ur z.P z.w z.K z.mg b 3 308 "wanted" ["self","right"] T9.CG
abbrev kZ(z:Zc)(b:Heap):Prop:=uD z.P z.w z.K z.mg b 3 308 "wanted" ["self","right"] T9.FJ
abbrev iG:Stmt:=pN 51 3
abbrev lq(z:Zc):Prop:=BI z.K 308 "name_taken" "Reader.name_taken" iG
abbrev eV(z:Zc)(b:Heap):Prop:=ur z.P z.w z.K z.mg b 4 308 "name_taken" ["self"] T9.ZQ
abbrev iH:Stmt:=pN 51 4
abbrev iI(z:Zc):Prop:=BI z.K 308 "head_taken" "Reader.head_taken" iH
abbrev eY(z:Zc)(b:Heap):Prop:=ur z.P z.w z.K z.mg b 4 308 "head_taken" ["self","around"] T9.Wj
abbrev iJ(z:Zc)(b:Heap):Prop:=uD z.P z.w z.K z.mg b 4 308 "head_taken" ["self","around"] T9.R7
abbrev iK:Stmt:=pN 51 5
abbrev lu(z:Zc):Prop:=BI z.K 308 "test_taken" "Reader.test_taken" iK
abbrev iL(z:Zc)(b:Heap):Prop:=ur z.P z.w z.K z.mg b 5 308 "test_taken" ["self","bound"] T9.PJ
abbrev gQ:Stmt:=pN 51 7
abbrev gR(z:Zc):Prop:=BI z.K 308 "begin_taken" "Reader.begin_taken" gQ
abbrev d7(z:Zc)(b:Heap):Prop:=ur z.P z.w z.K z.mg b 6 308 "begin_taken" ["self","bound","around"] T9.TZ
abbrev gU(z:Zc)(b:Heap):Prop:=uD z.P z.w z.K z.mg b 6 308 "begin_taken" ["self","bound","around"] T9.T5
abbrev gn:Stmt:=pN 51 8
abbrev gq(z:Zc):Prop:=BI z.K 308 "saying_taken" "Reader.saying_taken" gn
abbrev cE(z:Zc)(b:Heap)(j:Nat):Prop:=ur z.P z.w z.K z.mg b (j+6) 308 "saying_taken" ["self","bound","around"] (T9.Se j)
abbrev dM(z:Zc)(b:Heap)(j:Nat):Prop:=uD z.P z.w z.K z.mg b (j+6) 308 "saying_taken" ["self","bound","around"] (T9.OO j)
abbrev nG:Stmt:=top 52
abbrev nH(z:Zc):Prop:=Df z.K z.mg "read_saying" nG
abbrev j7(z:Zc)(b:Heap):Prop:=lM z.P z.w z.K z.mg b 16 "read_saying" ["text"] T9.OR
abbrev nI(z:Zc)(b:Heap):Prop:=RV z.P z.w z.K z.mg b 16 "read_saying" ["text"] T9.rsX
abbrev sr:Stmt:=top 53
abbrev yL(z:Zc):Prop:=Df z.K z.mg "read_pair" sr
abbrev m8(z:Zc)(b:Heap):Prop:=lM z.P z.w z.K z.mg b 2 "read_pair" ["word"] T9.pairF
abbrev pS:Stmt:=top 54
abbrev pT(z:Zc):Prop:=Df z.K z.mg "read_table" pS
abbrev pU(z:Zc)(b:Heap):Prop:=lM z.P z.w z.K z.mg b 3 "read_table" ["text"] T9.rtF
abbrev pW(z:Zc)(b:Heap):Prop:=RV z.P z.w z.K z.mg b 3 "read_table" ["text"] T9.rtX
abbrev vh:Stmt:=top 56
abbrev Bb(z:Zc):Prop:=Df z.K z.mg "words_of" vh
abbrev pX(z:Zc)(b:Heap)(j:Nat):Prop:=lM z.P z.w z.K z.mg b (j+1) "words_of" ["saying"] (T9.Dz j)
abbrev DR:Stmt:=top 57
abbrev Kg(z:Zc):Prop:=Df z.K z.mg "shown" DR
abbrev DS(z:Zc)(b:Heap):Prop:=lM z.P z.w z.K z.mg b 11 "shown" ["saying"] T9.nC
abbrev nJ:Stmt:=top 58
abbrev uG(z:Zc):Prop:=Df z.K z.mg "shown_pairs" nJ
abbrev nK(z:Zc)(b:Heap):Prop:=lM z.P z.w z.K z.mg b 1 "shown_pairs" ["pairs"] T9.OU
abbrev nM:Stmt:=top 59
abbrev uH(z:Zc):Prop:=Df z.K z.mg "shown_table" nM
abbrev nN(z:Zc)(b:Heap):Prop:=lM z.P z.w z.K z.mg b 2 "shown_table" ["table"] T9.AM
abbrev su:Stmt:=top 61
abbrev yM(z:Zc):Prop:=Df z.K z.mg "_law_tape" su
abbrev sy(z:Zc)(b:Heap):Prop:=lM z.P z.w z.K z.mg b 1 "_law_tape" ["_law_script","_law_at"] Ar
abbrev sA:Stmt:=top 62
abbrev yN(z:Zc):Prop:=Df z.K z.mg "_law_pick" sA
abbrev gW(z:Zc)(b:Heap):Prop:=lM z.P z.w z.K z.mg b 1 "_law_pick" ["_law_tape_here","_law_many"] jr
abbrev vj:Stmt:=top 63
abbrev Bc(z:Zc):Prop:=Df z.K z.mg "_law_now" vj
abbrev pY(z:Zc)(b:Heap):Prop:=lM z.P z.w z.K z.mg b 2 "_law_now" ["_law_tape_here"] T9.F5
abbrev sC:Stmt:=top 64
abbrev yO(z:Zc):Prop:=Df z.K z.mg "_law_wide" sC
abbrev m9(z:Zc)(b:Heap)(j:Nat):Prop:=lM z.P z.w z.K z.mg b (j+2) "_law_wide" ["_law_tape_here","_law_many"] (T9.wz j)
abbrev sD:Stmt:=top 65
abbrev yP(z:Zc):Prop:=Df z.K z.mg "_law_deep" sD
abbrev sE(z:Zc)(b:Heap):Prop:=lM z.P z.w z.K z.mg b 3 "_law_deep" ["_law_tape_here","_law_many"] T9.F6
abbrev pZ:Stmt:=top 66
abbrev wB(z:Zc):Prop:=Df z.K z.mg "_law_bound" pZ
abbrev p5(z:Zc)(b:Heap):Prop:=lM z.P z.w z.K z.mg b 2 "_law_bound" ["_law_tape_here","_law_many"] T9.uc
abbrev sF:Stmt:=top 67
abbrev yQ(z:Zc):Prop:=Df z.K z.mg "_law_spot" sF
abbrev sG(z:Zc)(b:Heap):Prop:=lM z.P z.w z.K z.mg b 17 "_law_spot" ["_law_text"] T9.OS
abbrev gX:Stmt:=top 68
abbrev kF(z:Zc):Prop:=Df z.K z.mg "_law_spot_of_table" gX
abbrev gY(z:Zc)(b:Heap):Prop:=lM z.P z.w z.K z.mg b 4 "_law_spot_of_table" ["_law_text"] T9.LJ
abbrev jU:Stmt:=top 69
abbrev oM(z:Zc):Prop:=Df z.K z.mg "_law_far_right" jU
abbrev jV(z:Zc)(b:Heap):Prop:=lM z.P z.w z.K z.mg b 29 "_law_far_right" ["_law_saying","_law_row"] T9.O4
abbrev Kh:Stmt:=top 70
abbrev aaj(z:Zc):Prop:=Df z.K z.mg "law" Kh
def Gf:bq ["thing","least","most"] ["thing","least","most"] (aD u6):=sI
def Gg(D:A1 z)(N:NZ z):pP z b:=
 oB D Gf (λ_ _ h=>h) λ_ _ _ _ _ _ _ hr=>(az (bS (JW.t (fG (kL (iA (oq rfl N.kE rfl N.aaf PyProof.Rows.Boot.int (jv 0)))) (cy (iA (oq rfl N.kE rfl N.aag PyProof.Rows.Boot.bool (jv 0)))))) (aJ (bh (JD.e eG))) bC)
  (aJ (bh (JD.e (iB (JE.d (cW kM (jv 1) (jv 0))) (gj (JE.d (cW kM (jv 0) (jv 2)))))))))
def Gh:bq ["thing","least","most"] ["thing","least","most"] (aD u9):=sI
def Gi(D:A2 z)(N:NZ z):jP z b:=
 oB D Gh (λ_ _ h=>h) λ_ _ _ _ _ _ _ hr=>(aJ (bh (JD.e (iB (oq rfl N.kE rfl N.Pf agO (jv 0)) (iB (JE.d (cW kM (jv 1) (gK (i:=0) rfl N.mL))) (gj (JE.d (cW kM (gK (i:=0) rfl N.mL) (jv 2)))))))))
def Ii:bq ["thing"] ["thing"] (aD xO):=sI
def Ij(D:CK z)(N:NZ z):jQ z b:=
 by obtain⟨PM,BS⟩:=N.BR;obtain⟨aak,Pj⟩:=N.Pg;exact oB D Ii (λ_ _ h=>h) λ_ _ _ _ _ _ _ hr=>(az (bS (JW.t (fG (kL (iA (oq rfl N.kE rfl N.SK aeZ (jv 0)))) (fG (bx qT (gK (i:=0) rfl N.mL) aC) (cy (bx uQ (gK (i:=0) rfl N.mL) (cN rfl BS)))))) (aJ (bh (JD.e eG))) bC)
  (aJ (bh (gF (xg rfl) rfl N.WQ af1 (aq (JE.d (jZ cp rfl (iC (jv 0)) (λ_ _ _ _=>ig) (λ_ _ _ _=>(JE.d (cW (pD hr.units) (jv 0) (Q3 rfl Pj) (by with_unfolding_all rfl)))))) aX)))))
def Gj:bq ["thing"] ["thing"] (aD vc):=sI
def Gk(D:A3 z)(N:NZ z)(dW:jP z b)(c9:jQ z b)(lN:pP z b):vd z b:=
 by obtain⟨sH,fy⟩:=N.lZ;exact oB D Gj (λ_ _ h=>h) λ_ _ _ _ _ _ _ hr=>(aJ (bh (JD.e (iB (JE.d (jc dW hr (aA (jv 0) (aA aC (aA aC aK))))) (iB (JE.d (jc c9 hr (aA (ys hr 0 aC) aK))) (gj (JE.d (jc lN hr (aA (ys hr 0 aC) (aA aC (aA (cN rfl fy) aK)))))))))))
def yR:bq ["thing","names"] ["thing"] (aD ve):=sI
def Gm(D:A4 z)(N:NZ z)(dW:jP z b)(xT:vd z b):vf z b:=
 by obtain⟨yS,jh⟩:=N.rO;obtain⟨oN,fB⟩:=N.jN;exact oB D yR (λ_ _ h=>h) λ_ _ _ _ _ _ _ hr=>(az (bS (JW.t (fG (kL (iA (JE.d (jc dW hr (aA (jv 0) (aA aC (aA (cN rfl jh) aK))))))) (cy (kL (iA (JE.d (gF (xg rfl) rfl N.WQ af1 (aq (JE.d (jZ cp rfl (iC (jv 0)) (λ_ _ _ _=>ig) (λ_ _ _ _=>(JE.d (jc xT hr (aA (jv 0) aK)))))) aX)))))))) (aJ (bh (JD.e eG))) bC)
  (az (zc yR.nd 1 cp (iC (jv 0)) (λ_ _ _ _=>ig) (λ_ _ _ _=>(ys hr 0 aC)))
  (aJ (bh (JD.e (iB (JE.d (cW (cG hr.units) (JE.d (K9 rfl rfl N.mL rfl N.aeE (jv 1))) (gK (i:=1) rfl N.mL))) (gj (JE.d (cW kM (JE.d (gF (K6 rfl) rfl N.aeF PyProof.Rows.Boot.sum (aq (JE.d (jZ cp rfl (iC (jv 0)) (λ_ _ _ _=>ig) (λ_ _ _ _=>(JE.d (bL bW (ys hr 0 aC) aC))))) aX))) (cN rfl fB))))))))))
def xU:bq ["thing","bound"] ["thing","bound"] (aD kT):=sI
def xV(D:qq z)(N:NZ z)(dW:jP z b)(c9:jQ z b)(lN:pP z b):kU z b:=
 by obtain⟨LX,xW⟩:=N.xN;exact oB D xU (λ_ _ h=>h) λ_ _ _ _ _ _ _ hr=>(az (bS (kL (iA (JE.d (jc dW hr (aA (jv 0) (aA aC (aA aC aK))))))) (aJ (bh (JD.e eG))) bC)
  (az (bS (bx (cG hr.units) (gK (i:=0) rfl N.mL) aC) (aJ (bh (cW (cG hr.units) (ys hr 0 aC) aU))) bC)
  (az (bS (bx (cG hr.units) (ys hr 0 aC) aU) (aJ (bh (jc c9 hr (aA (ys hr 0 aC) aK)))) bC)
  (aJ (bh (JD.e (iB (JE.d (cW (pD hr.units) (ys hr 0 aC) (JE.d (bU (aq aU (aq aU (aq aU aX))))) (by with_unfolding_all rfl))) (gj (Jd (JE.d (jc lN hr (aA (ys hr 0 aC) (aA aC (aA (cN rfl xW) aK))))) (gj (JE.d (cW (pD hr.units) (ys hr 0 aC) (jv 1) (by with_unfolding_all rfl)))))))))))))
def CO:bq ["test","happening","head"] ["test","happening"] (aD A5):=sI
def LY(D:Ga z):A6 z b:=
 oB D CO (λ_ _ h=>h) λ_ _ _ _ _ _ _ hr=>(az (zs CO.nd 2 (JD.e (ys hr 0 aC)))
  (az (bS (bx (cG hr.units) (jv 2) aU) (aJ (bh (JD.e eG))) bC)
  (az (bS (bx (cG hr.units) (jv 2) aU) (aJ (bh (cW (cG hr.units) (ys hr 1 aC) (ys hr 0 aC)))) bC)
  (az (bS (bx (cG hr.units) (jv 2) aU) (aJ jq) bC)
  (az (bS (bx (cG hr.units) (jv 2) aU) (aJ jq) bC)
  (aJ (bh (cW uQ (ys hr 1 aC) (ys hr 0 aC)))))))))
def Ik:bq ["word"] ["word"] (aD xP):=sI
def Il(D:CL z)(N:NZ z):ud z b:=
 by obtain⟨Gn,sJ,sM⟩:=N.AZ;exact oB D Ik (λ_ _ h=>h) λ_ _ _ _ _ _ _ hr=>(aJ (bh (JD.e (E8 rfl sJ sM (jv 0)))))
def y9:bq ["head"] ["head"] (aD mh):=sI
def zb(D:rR z)(N:NZ z):jy z b:=
 by obtain⟨Gn,sJ,sM⟩:=N.AZ;obtain⟨SM,DT,DU⟩:=N.J6;exact oB D y9 (λ_ _ h=>h) λ_ _ _ _ _ _ _ hr=>(aJ (bh (bL jj (Dl rfl sJ sM (jv 0)) (Dl rfl DT DU (jv 0)))))
def Gp:bq ["saying"] ["saying"] (aD vg):=sI
def Gq(D:A7 z)(N:NZ z):jR z b:=
 by obtain⟨SM,DT,DU⟩:=N.J6;exact oB D Gp (λ_ _ h=>h) λ_ _ _ _ _ _ _ hr=>(aJ (bh (qW (jv 0) (tU (Dl rfl DT DU (ys hr 0 aC))) zz)))
def zd:bq ["saying","bound"] ["saying","bound"] (aD mj):=sI
def ze(D:rS z)(N:NZ z):gP z b:=
 by obtain⟨sN,gZ,g6⟩:=N.oJ;exact oB D zd (λ_ _ h=>h) λ_ _ _ _ _ _ _ hr=>(az (bS (xx hr.units rfl gZ g6 (ys hr 0 aC)) (aJ (bh (bL bW (jv 1) (JE.d (bU (aq (ys hr 0 aC) aX)))))) bC)
  (aJ (bh (cA 1))))
def wC:bq ["thing","bound","head"] ["thing","bound"] (aD rT):=sI
def DV(D:yH z)(N:NZ z)(dW:jP z b)(mw:kU z b)(c9:jQ z b):rW z b:=
 by obtain⟨Gn,sJ,sM⟩:=N.AZ;obtain⟨sN,gZ,g6⟩:=N.oJ;exact oB D wC (λ_ _ h=>h) λ_ _ _ _ _ _ _ hr=>(az (bS (JW.t (fG (kL (iA (JE.d (jc dW hr (aA (jv 0) (aA aC (aA aC aK))))))) (cy (kL (iA (oq rfl N.kE rfl N.SK aeZ (ys hr 0 aC))))))) (aJ (bh (JD.e eG))) bC)
  (az (zs wC.nd 2 (JD.e (ys hr 0 aC)))
  (az (bS (bx (lV hr.units) (Li rfl sJ sM (jv 2) aC) (gK (i:=0) rfl N.mL)) (aJ (bh (JD.e eG))) bC)
  (az (bS (bx (cG hr.units) (jv 2) aU) (aJ (bh (jc mw hr (aA (ys hr 0 aC) (aA (jv 1) aK))))) bC)
  (az (bS (bx (cG hr.units) (jv 2) aU) (aJ jq) bC)
  (az (bS (xx hr.units rfl gZ g6 (jv 2)) (aJ (bh (JD.e (iB (JE.d (jc c9 hr (aA (ys hr 0 aC) aK))) (gj (JE.d (jc c9 hr (aA (ys hr 0 aC) aK)))))))) bC)
  (aJ (bh (JD.e eG)))))))))
def wF:bq ["thing","bound","room","inner"] ["thing","bound","room"] (aD rX):=sI
def DW(D:yI z)(N:NZ z)(vm:rW z b)(cU:gP z b)(dX:jR z b)(mz:mZ z b j):mZ z b (j+1):=
 oB D wF (λ_ _ h=>h) λ_ _ _ _ _ _ _ hr=>(az (bS (JW.t (fG (bx (cG hr.units) (jv 2) aC) (cy (kL (iA (JE.d (jc vm hr (aA (jv 0) (aA (jv 1) aK))))))))) (aJ (bh (JD.e eG))) bC)
  (az (zs wF.nd 3 (jc cU hr (aA (jv 0) (aA (jv 1) aK))))
  (aJ (bh (gF (xg rfl) rfl N.WQ af1 (aq (JE.d (jZ (cs ["inner","room"] [3,2]) rfl (iC (JE.d (jc dX hr (aA (jv 0) aK)))) (λ_ _ _ _=>ig) (λ_ _ _ _=>(JE.d (jc mz hr (aA (jv 0) (aA (jv 1) (aA (JE.d (bL jj (jv 2) aC)) aK)))))))) aX))))))
def xX:bq ["saying","found","part"] ["saying"] (aD A8):=sI
def LZ(D:Gb z)(dX:jR z b)(nj:rY z b j):rY z b (j+1):=
 oB D xX (λ_ _ h=>h) λ_ _ _ _ _ _ _ hr=>(az (zs xX.nd 1 (gG (aq (jv 0) aX)))
  (az (nA acn rfl (iC (JE.d (jc dX hr (aA (jv 0) aK)))) (zg xX.nd 2) (aJ (fL (JD.e (tK (i:=1) agI agJ Ag Cf Cg (aq (JE.d (jc nj hr (aA (jv 2) aK))) aX))))))
  (aJ (bh (cA 1)))))
def BU:bq ["saying"] ["saying"] (aD pQ):=sI
def BV(D:wA z)(N:NZ z)(nj:rY z b 9):pR z b:=
 by obtain⟨sN,gZ,g6⟩:=N.oJ;exact oB D BU (λ_ _ h=>h) λ_ _ _ _ _ _ _ hr=>(aJ (bh (gF tG rfl N.mL adL (aq (JE.d (jZ cp rfl (iC (JE.d (jc nj hr (aA (jv 0) aK)))) (λ_ _ _ _=>(Jg (xx hr.units rfl gZ g6 (ys hr 0 aC)))) (λ_ _ _ _=>(jv 0)))) aX))))
def DX:bq ["thing"] ["thing"] (aD rZ):=sI
def DY(D:yJ z)(N:NZ z)(mz:mZ z b 9)(Be:DN z b)(sO:pR z b):r9 z b:=
 by obtain⟨wG,jA⟩:=N.pO;obtain⟨uI,fZ⟩:=N.nD;obtain⟨uJ,iU⟩:=N.nF;exact oB D DX (λ_ _ h=>h) λ_ _ _ _ _ _ _ hr=>(az (bS (kL (iA (JE.d (jc mz hr (aA (jv 0) (aA (JE.d (bU aX)) (aA (cN rfl jA) aK))))))) (aJ (bh (JD.e eG))) bC)
  (aJ (bh (JD.e (iB (JE.d (cW kM (JE.d (jc Be hr (aA (jv 0) aK))) (cN rfl fZ))) (gj (JE.d (cW kM (JE.d (jc sO hr (aA (jv 0) aK))) (cN rfl iU)))))))))
def SN:bq ["saying"] ["saying"] (aD Ih):=sI
def SO(D:Ph z)(N:NZ z)(nj:rY z b 9):DN z b:=
 oB D SN (λ_ _ h=>h) λ_ _ _ _ _ _ _ hr=>(aJ (bh (gF tG rfl N.mL adL (aq (JE.d (jc nj hr (aA (jv 0) aK))) aX))))
def Pk:bq ["saying"] ["saying"] (aD DO):=sI
def Pn(D:Ke z)(N:NZ z)(dX:jR z b)(Bf:zE z b j):zE z b (j+1):=
 oB D Pk (λ_ _ h=>h) λ_ _ _ _ _ _ _ hr=>(aJ (bh (bL bW aC (JE.d (RZ rfl rfl N.aah (JE.d (jZ cp rfl (iC (JE.d (jc dX hr (aA (jv 0) aK)))) (λ_ _ _ _=>ig) (λ_ _ _ _=>(JE.d (jc Bf hr (aA (jv 0) aK)))))))))))
def Po:bq ["saying","row","place"] ["saying","row","place"] (aD DP):=sI
def Pp(D:Kf z)(mC:m5 z b 24):DQ z b:=
 oB D Po (λ_ _ h=>h) λ_ _ _ _ _ _ _ hr=>(aJ (bh (zT Hh (JE.d (jc mC hr (aA (jv 0) (aA (jv 1) (eu Rk aK))))) (jv 2) (λ_ _=>rfl))))
def DZ:bq ["saying","row","known"] ["saying","row","known"] (aD se):=sI
def D0(D:yK z)(qw:jT z b j):m5 z b (j+1):=
 oB D DZ (λ_ _ h=>h) λ_ _ _ _ _ _ _ hr=>(az (bS (Le (i:=2) (ED hr) (jv 0)) (aJ (Hu (i:=2) (ED hr) (jv 0) (JE.d (jc qw hr (aA (jv 0) (aA (jv 1) (eu (cA 2) aK))))))) bC)
  (aJ (bh (JD.e (ys hr 2 (jv 0))))))
def jB:bq ["saying","row","known","head","truths","ahead"] ["saying","row","known"] (aD jS):=sI
def wH(D:oK z)(N:NZ z)(D3:A6 z b)(mC:m5 z b j)(dH:iV z b)(D4:Ba z b)(oO:ue z b):jT z b (j+1):=
 oB D jB (λ_ _ h=>h) λ_ _ _ _ _ _ _ hr=>(az (zs jB.nd 3 (JD.e (ys hr 0 aC)))
  (az (bS (JW.t (fG (bx (cG hr.units) (jv 3) aU) (cy (bx (cG hr.units) (jv 3) aU)))) (aJ (bh (bL Jl (JE.d (gG (aq (JE.d (cW (cG hr.units) (jv 3) aU)) aX))) (JE.d (bL bW (gK (i:=1) rfl N.mL) aC))))) bC)
  (az (bS (bx (cG hr.units) (jv 3) aU) (aJ (bh (bL bW (JE.d (jZ (cc 0) rfl (iC (jv 1)) (λ_ _ _ _=>ig) (λ_ _ _ _=>(JE.d (jc D3 hr (aA (ys hr 1 aC) (aA (jv 0) aK))))))) (JE.d (gG (aq eG aX)))))) bC)
  (az (bS (bx (cG hr.units) (jv 3) aU) (aJ jq) bC)
  (az (bS (bx (cG hr.units) (jv 3) aU) (aJ jq) bC)
  (az (zs jB.nd 4 (jc mC hr (aA (ys hr 0 (JE.d (Jb zx aC))) (aA (jv 1) (eu (cA 2) aK)))))
  (az (bS (bx (cG hr.units) (jv 3) aU) (aJ (bh (jc dH hr (aA (jv 4) aK)))) bC)
  (az (bS (bx (cG hr.units) (jv 3) aU) (aJ (bh (bL bW (JE.d (qW (jv 4) (tU aC) zz)) (JE.d (gG (aq eG aX)))))) bC)
  (az (bS (bx (cG hr.units) (jv 3) aU) (aJ (bh (jc D4 hr (aA (JE.d (qW (jv 4) zz (tU (JE.d (Jb zx aC))))) aK)))) bC)
  (az (bS (bx (cG hr.units) (jv 3) aU) (aJ (bh (jc oO hr (aA (JE.d (qW (jv 4) zz (tU (JE.d (Jb zx aC))))) aK)))) bC)
  (az (bS (bx (cG hr.units) (jv 3) aU) (aJ jq) bC)
  (az jq
  (az jq
  (az jq
  (aJ jq)))))))))))))))
def xY:bq ["truths"] ["truths"] (aD kW):=sI
def xZ(D:qu z):iV z b:=
 oB D xY (λ_ _ h=>h) λ_ _ _ _ _ _ _ hr=>(aJ (bh (jZ cp rfl (iC (jv 0)) (λ_ _ _ _=>ig) (λ_ _ _ _=>(U4 (jv 0))))))
def p6:bq ["stays","comes","truths","stay","come"] ["stays","comes"] (aD xQ):=sI
def Im(D:CM z)(N:NZ z):xR z b:=
 oB D p6 (λ_ _ h=>h) λ_ _ _ _ _ _ _ hr=>(az (zs p6.nd 2 (gG (aq eG aX)))
  (az (nA acn rfl (VA rfl N.LW (aq (JE.d (HN rfl rfl N.aai rfl N.aeG (aq (jv 0) (aq (jv 1) aX)))) aX)) (C8 rfl (kr (zg p6.nd 3) (kr (zg p6.nd 4) zy))) (aJ (fL (JD.e (tK (i:=2) aeK aeL tu tL tV (aq (Jd (jv 4) (gj (iB (jv 3) (gj (ys hr 2 (JE.d (Jb zx aC))))))) aX))))))
  (az (fL (JD.e (Np (i:=2) PySem.F.slot_list_reverse PySem.F.type_list_reverse G2 Hl Hx)))
  (aJ (bh (cA 2))))))
def Io:bq ["truths"] ["truths"] (aD xS):=sI
def Ip(D:CN z)(N:NZ z)(Bh:xR z b):ue z b:=
 oB D Io (λ_ _ h=>h) λ_ _ _ _ _ _ _ hr=>(aJ (bh (jc Bh hr (aA (JE.d (bL Jl (JE.d (gG (aq eG aX))) (gK (i:=0) rfl N.mL))) (aA (jv 0) aK)))))
def L5:bq ["truths"] ["truths"] (aD A9):=sI
def L6(D:Ge z)(dH:iV z b)(oO:ue z b):Ba z b:=
 oB D L5 (λ_ _ h=>h) λ_ _ _ _ _ _ _ hr=>(aJ (bh (jc dH hr (aA (JE.d (jc oO hr (aA (JE.d (jc dH hr (aA (jv 0) aK))) aK))) aK))))
def vn:bq ["self","words"] ["self","words"] (aD jz):=sI
def vo(D:m6 z)(N:NZ z):gB z b:=
 TN D vn (λ_ _ h=>h) λ_ _ _ _ _ _ _ hr=>(az (Dm 0 N.bA N.j6 (jv 1))
  (az (Dm 0 N.bA N.jO aC)
  (az (Dm 0 N.bA N.dR aC)
  (aJ (Dm 0 N.bA N.fY aC)))))
def zf:bq ["self"] ["self"] (aD mq):=sI
def zh(D:sf z)(N:NZ z):fu z b:=
 TN D zf (λ_ _ h=>h) λ_ _ _ _ _ _ _ hr=>(az (bS (bx (cG hr.units) (kN 0 N.bA N.jO) (JE.d (gF tG rfl N.mL adL (aq (kN 0 N.bA N.j6) aX)))) (aJ jq) bC)
  (az (v5 0 (fo:=λi j=>i+j) N.bA N.jO zN aC)
  (aJ (bh (zT Hh (kN 0 N.bA N.j6) (JE.d (bL jj (kN 0 N.bA N.jO) aC)) (λ_ _=>rfl))))))
def oR:bq ["self","right"] ["self","right"] (aD kX):=sI
def ya(D:kY z):dU z b:=
 TN D oR (λ_ _ h=>h) λ_ _ _ _ _ _ _ hr=>(aJ (bS (kL (iA (jv 1))) (aJ jq) bC))
def wI(D:kY z)(N:NZ z):kZ z b:=
 RY D oR (λ_ _ h=>h) λ_ _ _ _ _ _ _ hr=>(kO (xi (kL (iA (jv 1))) (kO (xr (N.Kc _) hr (aq (JE.d (bL jj (kN 0 N.bA N.jO) aC)) aX))) Ox))
def kG:bq ["self","word"] ["self"] (aD iG):=sI
def sP(D:lq z)(N:NZ z)(cz:fu z b)(bN:dU z b)(c9:jQ z b):eV z b:=
 TN D kG (λ_ _ h=>h) λ_ _ _ _ _ _ _ hr=>(az (zs kG.nd 1 (TQ 0 N.bA cz hr))
  (az (fL (jm 0 N.bA bN hr (aA (JE.d (jc c9 hr (aA (jv 1) aK))) aK)))
  (aJ (bh (cA 1)))))
def d8:bq ["self","around","head"] ["self","around"] (aD iH):=sI
def sQ(D:iI z)(N:NZ z)(cz:fu z b)(bN:dU z b)(mD:ud z b):eY z b:=
 by obtain⟨sN,gZ,g6⟩:=N.oJ;obtain⟨uI,fZ⟩:=N.nD;obtain⟨wG,jA⟩:=N.pO;obtain⟨uJ,iU⟩:=N.nF;exact TN D d8 (λ_ _ h=>h) λ_ _ _ _ _ _ _ hr=>(az (zs d8.nd 2 (TQ 0 N.bA cz hr))
  (az (v5 0 (fo:=λi j=>i+j) N.bA N.dR zN aC)
  (az (bS (xx hr.units rfl gZ g6 (jv 2)) (aJ (v5 0 (fo:=λi j=>i+j) N.bA N.fY zN aC)) bC)
  (az (fL (jm 0 N.bA bN hr (aA (iB (JE.d (jc mD hr (aA (jv 2) aK))) (gj (JE.d (cW kM (kN 0 N.bA N.dR) (cN rfl fZ))))) aK)))
  (az (fL (jm 0 N.bA bN hr (aA (iB (JE.d (cW qT (jv 1) (cN rfl jA))) (gj (JE.d (cW kM (kN 0 N.bA N.fY) (cN rfl iU))))) aK)))
  (aJ (bh (cA 2))))))))
def qC(D:iI z)(N:NZ z)(bN:dU z b)(mD:ud z b)(cz:fu z b)(jC:kZ z b):iJ z b:=
 by obtain⟨wG,jA⟩:=N.pO;obtain⟨uJ,iU⟩:=N.nF;obtain⟨uI,fZ⟩:=N.nD;obtain⟨sN,gZ,g6⟩:=N.oJ;exact RY D d8 (λ_ _ h=>h) λ_ _ _ _ _ _ _ hr=>(xo (zs d8.nd 2 (TQ 0 N.bA cz hr))
  (xo (v5 0 (fo:=λi j=>i+j) N.bA N.dR zN aC)
  (xo (bS (xx hr.units rfl gZ g6 (jv 2)) (aJ (v5 0 (fo:=λi j=>i+j) N.bA N.fY zN aC)) bC)
  (xq (xex (xm 0 N.bA jC hr (aA (iB (JE.d (jc mD hr (aA (jv 2) aK))) (gj (JE.d (cW kM (kN 0 N.bA N.dR) (cN rfl fZ))))) aK))) (fL (jm 0 N.bA bN hr (aA (iB (JE.d (jc mD hr (aA (jv 2) aK))) (gj (JE.d (cW kM (kN 0 N.bA N.dR) (cN rfl fZ))))) aK)))
  (kO (xex (xm 0 N.bA jC hr (aA (iB (JE.d (cW qT (jv 1) (cN rfl jA))) (gj (JE.d (cW kM (kN 0 N.bA N.fY) (cN rfl iU))))) aK))))))))
def g7:bq ["self","bound","head","word"] ["self","bound"] (aD iK):=sI
def sR(D:lu z)(N:NZ z)(cz:fu z b)(cH:eV z b)(bN:dU z b):iL z b:=
 by obtain⟨Pq,sS,sU⟩:=N.F9;exact TN D g7 (λ_ _ h=>h) λ_ _ _ _ _ _ _ hr=>(az (zs g7.nd 2 (TQ 0 N.bA cz hr))
  (az (bS (bx (cG hr.units) (jv 2) aU) (aJ (bh (bU (aq aU aX)))) bC)
  (az (bS (bx (cG hr.units) (jv 2) aU) (aJ (bh (bU (aq aU (aq (JE.d (TQ 0 N.bA cH hr)) aX))))) bC)
  (az (fL (jm 0 N.bA bN hr (aA (JE.d (cW (pD hr.units) (jv 2) (JE.d (bU (aq aU (aq aU (aq aU aX))))) (by with_unfolding_all rfl))) aK)))
  (az (zs g7.nd 3 (TQ 0 N.bA cz hr))
  (az (fL (jm 0 N.bA bN hr (aA (Jd (E8 rfl sS sU (jv 3)) (gj (JE.d (cW (pD hr.units) (jv 3) (jv 1) (by with_unfolding_all rfl))))) aK)))
  (aJ (bh (bU (aq (jv 2) (aq (HK rfl sS sU (jv 3) (jv 3)) aX)))))))))))
def dN:bq ["self","bound","around","head","name"] ["self","bound","around"] (aD gQ):=sI
def qD(D:gR z)(N:NZ z)(dI:eY z b)(i7:iL z b)(cH:eV z b):d7 z b:=
 by obtain⟨sN,gZ,g6⟩:=N.oJ;exact TN D dN (λ_ _ h=>h) λ_ _ _ _ _ _ _ hr=>(az (zs dN.nd 3 (jm 0 N.bA dI hr (aA (jv 2) aK)))
  (az (bS (bx (cG hr.units) (jv 3) aU) (aJ (bh (bU (aq (jv 3) (aq (JE.d (jm 0 N.bA i7 hr (aA (jv 1) aK))) aX))))) bC)
  (az (bS (bx (cG hr.units) (jv 3) aU) (aJ jq) bC)
  (az (bS (xx hr.units rfl gZ g6 (jv 3)) (az (zs dN.nd 4 (TQ 0 N.bA cH hr))
  (aJ (bh (bU (aq (jv 3) (aq (jv 4) (aq (JE.d (TQ 0 N.bA cH hr)) aX))))))) bC)
  (aJ (bh (bU (aq (jv 3) aX))))))))
def p7(D:gR z)(N:NZ z)(dI:eY z b)(i8:iJ z b):gU z b:=
 RY D dN (λ_ _ h=>h) λ_ _ _ _ _ _ _ hr=>(kO (Dv (xm 0 N.bA i8 hr (aA (jv 2) aK))))
def bH:bq ["self","bound","around","saying","inner","number"] ["self","bound","around"] (aD gn):=sI
def p9(D:gq z)(N:NZ z)(cQ:d7 z b)(cU:gP z b)(gg:jy z b)(bO:cE z b j):cE z b (j+1):=
 TN D bH (λ_ _ h=>h) λ_ _ _ _ _ _ _ hr=>(az (zs bH.nd 3 (jm 0 N.bA cQ hr (aA (jv 1) (aA (jv 2) aK))))
  (az (zs bH.nd 4 (jc cU hr (aA (jv 3) (aA (jv 1) aK))))
  (az (nA acn rfl (lK rfl N.xM (aq (JE.d (jc gg hr (aA (ys hr 3 aC) aK))) aX)) (zg bH.nd 5) (aJ (zs bH.nd 3 (bL bW (jv 3) (JE.d (bU (aq (JE.d (jm 0 N.bA bO hr (aA (jv 4) (aA (JE.d (bL bW (jv 2) aC)) aK)))) aX)))))))
  (aJ (bh (cA 3))))))
def oU(D:gq z)(N:NZ z)(gg:jy z b)(bO:cE z b j)(cU:gP z b)(cQ:d7 z b)(cX:dM z b j)(iM:gU z b):dM z b (j+1):=
 RY D bH (λ_ _ h=>h) λ_ _ _ _ _ _ _ hr=>(xq (Dv (xm 0 N.bA iM hr (aA (jv 1) (aA (jv 2) aK)))) (zs bH.nd 3 (jm 0 N.bA cQ hr (aA (jv 1) (aA (jv 2) aK))))
  (xo (zs bH.nd 4 (jc cU hr (aA (jv 3) (aA (jv 1) aK))))
  (kO (xf (lK rfl N.xM (aq (JE.d (jc gg hr (aA (ys hr 3 aC) aK))) aX)) (zg bH.nd 5) (aJ (zs bH.nd 3 (bL bW (jv 3) (JE.d (bU (aq (JE.d (jm 0 N.bA bO hr (aA (jv 4) (aA (JE.d (bL bW (jv 2) aC)) aK)))) aX)))))) (kO (Dv (xop (jv 3) (xtu (xa1 (xm 0 N.bA cX hr (aA (jv 4) (aA (JE.d (bL bW (jv 2) aC)) aK))))))))))))
def g8:bq ["text","reader","saying"] ["text"] (aD nG):=sI
def Bj(D:nH z)(N:NZ z)(dF:gB z b)(bO:cE z b 9)(j8:Xl z.K z.mg "Reader" 308):j7 z b:=
 oB D g8 (λ_ _ h=>h) λ_ _ _ _ _ _ _ hr=>(az (zs g8.nd 1 (jk j8 dF hr (aA (JE.d (iQ kC aci aet oz (jv 0) aU)) aK)))
  (az (zs g8.nd 2 (jm 1 N.bA bO hr (aA (JE.d (bU aX)) (aA aC aK))))
  (az (bS (bx qT (kN 1 N.bA N.jO) (JE.d (gF tG rfl N.mL adL (aq (kN 1 N.bA N.j6) aX)))) (aJ jq) bC)
  (aJ (bh (cA 2))))))
def zj(D:nH z)(N:NZ z)(bO:cE z b 9)(dF:gB z b)(j8:Xl z.K z.mg "Reader" 308)(cX:dM z b 9):nI z b:=
 ZI D g8 (λ_ _ h=>h) λ_ _ _ _ _ _ _ hr=>(xo (zs g8.nd 1 (jk j8 dF hr (aA (JE.d (iQ kC aci aet oz (jv 0) aU)) aK)))
  (kO (Dv (xm 1 N.bA cX hr (aA (JE.d (bU aX)) (aA aC aK))))))
def wJ:bq ["word","cut"] ["word"] (aD sr):=sI
def D5(D:yL z)(N:NZ z)(c9:jQ z b):m8 z b:=
 by obtain⟨Pq,sS,sU⟩:=N.F9;exact oB D wJ (λ_ _ h=>h) λ_ _ _ _ _ _ _ hr=>(az (zs wJ.nd 1 (iQ HG agr PySem.F.type_str_partition N5 (jv 0) aU))
  (az (bS (JW.t (fG (kL (iA (JE.d (jc c9 hr (aA (ys hr 1 aC) aK))))) (cy (E9 rfl sS sU (ys hr 1 aC))))) (aJ (bh (JD.e pA))) bC)
  (aJ (bh (bU (aq (ys hr 1 aC) (aq (Dl rfl sS sU (ys hr 1 aC)) aX)))))))
def bM:bq ["text","table","left","at","word","entry"] ["text"] (aD pS):=sI
def BW(D:pT z)(N:NZ z)(i9:m8 z b):pU z b:=
 by obtain⟨oN,fB⟩:=N.jN;obtain⟨sH,fy⟩:=N.lZ;obtain⟨yS,jh⟩:=N.rO;exact oB D bM (λ_ _ h=>h) λ_ _ _ _ _ _ _ hr=>(az (zs bM.nd 1 (gG aX))
  (az (zs bM.nd 2 (JD.e (cN rfl fB)))
  (az (Rj acn rfl (Js rfl N.AY (aq (JE.d (iQ kC aci aet oz (jv 0) aU)) aX)) (C8 rfl (kr (zg bM.nd 3) (kr (zg bM.nd 4) zy))) (az (zs bM.nd 5 (jc i9 hr (aA (jv 4) aK)))
  (az (bS (JW.t (fG (bx zA (jv 5) pA) (fG (bx uQ (ys hr 5 aC) (cN rfl fy)) (cy (bx Hg (jv 3) (cN rfl jh)))))) (aJ jq) bC)
  (az (za GH bM.nd 2 (JE.d (bL bW (ys hr 5 aC) aC)))
  (az (bS (JW.t (fG (bx qT (jv 2) aC) (cy (bx (pD hr.units) (ys hr 5 aC) (JE.d (Aj 1 cp rfl (λ_ _ _ _=>ig) (λ_ _ _ _=>(ys hr 0 aC)))) (by with_unfolding_all rfl))))) (aJ jq) bC)
  (aJ (fL (JD.e (tK (i:=1) aeK aeL tu tL tV (aq (jv 5) aX))))))))))
  (aJ (bh (tw EU rfl N.Pf agO (aq (jv 1) aX)))))))
def Bk(D:pT z)(N:NZ z)(i9:m8 z b):pW z b:=
 by obtain⟨sH,fy⟩:=N.lZ;obtain⟨yS,jh⟩:=N.rO;obtain⟨oN,fB⟩:=N.jN;exact ZI D bM (λ_ _ h=>h) λ_ _ _ _ _ _ _ hr=>(xo (zs bM.nd 1 (gG aX))
  (xo (zs bM.nd 2 (JD.e (cN rfl fB)))
  (kO (xfn (Js rfl N.AY (aq (JE.d (iQ kC aci aet oz (jv 0) aU)) aX)) (C8 rfl (kr (zg bM.nd 3) (kr (zg bM.nd 4) zy))) (az (zs bM.nd 5 (jc i9 hr (aA (jv 4) aK)))
  (az (bS (JW.t (fG (bx zA (jv 5) pA) (fG (bx uQ (ys hr 5 aC) (cN rfl fy)) (cy (bx Hg (jv 3) (cN rfl jh)))))) (aJ jq) bC)
  (az (za GH bM.nd 2 (JE.d (bL bW (ys hr 5 aC) aC)))
  (az (bS (JW.t (fG (bx qT (jv 2) aC) (cy (bx (pD hr.units) (ys hr 5 aC) (JE.d (Aj 1 cp rfl (λ_ _ _ _=>ig) (λ_ _ _ _=>(ys hr 0 aC)))) (by with_unfolding_all rfl))))) (aJ jq) bC)
  (aJ (fL (JD.e (tK (i:=1) aeK aeL tu tL tV (aq (jv 5) aX))))))))) (xo (zs bM.nd 5 (jc i9 hr (aA (jv 4) aK)))
  (xo (bS (JW.t (fG (bx zA (jv 5) pA) (fG (bx uQ (ys hr 5 aC) (cN rfl fy)) (cy (bx Hg (jv 3) (cN rfl jh)))))) (aJ jq) bC)
  (xo (za GH bM.nd 2 (JE.d (bL bW (ys hr 5 aC) aC)))
  (kO (xi (JW.t (fG (bx qT (jv 2) aC) (cy (bx (pD hr.units) (ys hr 5 aC) (JE.d (Aj 1 cp rfl (λ_ _ _ _=>ig) (λ_ _ _ _=>(ys hr 0 aC)))) (by with_unfolding_all rfl))))) (kO (xr (N.Kc _) hr (aq (jv 3) aX))) Ox)))))))))
def kH:bq ["saying","parts","ahead","words","part"] ["saying"] (aD vh):=sI
def Gr(D:Bb z)(N:NZ z)(dX:jR z b)(oV:pX z b j):pX z b (j+1):=
 oB D kH (λ_ _ h=>h) λ_ _ _ _ _ _ _ hr=>(az (zs kH.nd 1 (jc dX hr (aA (jv 0) aK)))
  (az (zs kH.nd 2 (Tj (bx (cG hr.units) (ys hr 0 aC) aU) (JD.e (ys hr 0 aC)) (qW (jv 0) (tU aC) (tU (JE.d (bL jj (gK (i:=0) rfl N.mL) (gK (i:=1) rfl N.mL)))))))
  (az (zs kH.nd 3 (bL bW (JE.d (gG (aq (ys hr 0 aC) aX))) (JE.d (jZ cp rfl (iC (jv 2)) (λ_ _ _ _=>ig) (λ_ _ _ _=>(JE.d (tw Am rfl N.SK aeZ (aq (jv 0) aX))))))))
  (az (nA acn rfl (iC (jv 1)) (zg kH.nd 4) (aJ (fL (JD.e (tK (i:=3) agI agJ Ag Cf Cg (aq (JE.d (jc oV hr (aA (jv 4) aK))) aX))))))
  (aJ (bh (cA 3)))))))
def Pr:bq ["saying"] ["saying"] (aD DR):=sI
def Pu(D:Kg z)(oV:pX z b 9):DS z b:=
 oB D Pr (λ_ _ h=>h) λ_ _ _ _ _ _ _ hr=>(aJ (bh (iQ pG ae0 ae1 vX aU (JE.d (jc oV hr (aA (jv 0) aK))))))
def Bl:bq ["pairs"] ["pairs"] (aD nJ):=sI
def Bm(D:uG z)(N:NZ z):nK z b:=
 oB D Bl (λ_ _ h=>h) λ_ _ _ _ _ _ _ hr=>(aJ (bh (iQ pG ae0 ae1 vX aU (JE.d (jZ cp rfl (iC (jv 0)) (λ_ _ _ _=>ig) (λ_ _ _ _=>(JE.d (bL bW (JE.d (bL bW (ys hr 0 aC) aU)) (JE.d (tw Am rfl N.SK aeZ (aq (ys hr 0 aC) aX)))))))))))
def Bo:bq ["table"] ["table"] (aD nM):=sI
def Bp(D:uH z)(qb:nK z b):nN z b:=
 oB D Bo (λ_ _ h=>h) λ_ _ _ _ _ _ _ hr=>(aJ (bh (jc qb hr (aA (jv 0) aK))))
def qc:bq ["_law_script","_law_at","_law_cell"] ["_law_script","_law_at"] (aD su):=sI
def D6(D:yM z)(N:NZ z):sy z b:=
 oB D qc Og λ_ _ _ _ _ _ _ hr=>(az (zs qc.nd 2 (cA 1))
  (az (bS (bx uQ (gK (i:=0) rfl N.mL) aC) (aJ (zs qc.nd 2 (bL bW (ys hr 0 (JE.d (bL pB (jv 1) (gK (i:=0) rfl N.mL)))) (JE.d (bL zu (jv 1) (gK (i:=0) rfl N.mL)))))) bC)
  (aJ (bh (Q0 (hk:=Nat.le_of_ble_eq_true rfl) (Ab (jv 2) (Ab (JE.d (gF (Hq rfl) rfl N.aah PyProof.Rows.Boot.max (aq aC (aq (JE.d (bL jj (jv 2) (JE.d (bL QG aC aC)))) aX)))) (Ab aC QY))))))))
def jD:bq ["_law_tape_here","_law_many","_law_turn","_law_found","_law_mixed"] ["_law_tape_here","_law_many"] (aD sA):=sI
def D7(D:yN z):gW z b:=
 oB D jD pick_run λ_ _ _ _ _ _ _ hr=>(az (zs jD.nd 2 (bL bW (ys hr 0 aU) aC))
  (az (Hu (i:=0) (ED hr) aU (jv 2))
  (az (bS (bx uQ (ys hr 0 aU) aC) (az (zs jD.nd 3 (bL pB (ys hr 0 aU) (jv 1)))
  (az (Hu (i:=0) (ED hr) aU (JE.d (bL zu (ys hr 0 aU) (jv 1))))
  (aJ (bh (cA 3))))) bC)
  (az (zs jD.nd 4 (bL tF (JE.d (bL bW (JE.d (bL bW (JE.d (bL pB (ys hr 0 aU) aC)) (JE.d (bL tF (JE.d (bL tF aC (jv 2))) (jv 2))))) aC)) aC))
  (az (zs jD.nd 4 (bL tF (JE.d (bL bW (JE.d (bL pB (jv 4) aC)) (JE.d (bL tF aC (jv 2))))) aC))
  (aJ (bh (bL pB (JE.d (bL zu (JE.d (bL pB (jv 4) aC)) aC)) (jv 1)))))))))
def Gs:bq ["_law_tape_here"] ["_law_tape_here"] (aD vj):=sI
def Gu(D:Bc z)(cC:gW z b):pY z b:=
 oB D Gs (λ_ _ h=>h) λ_ _ _ _ _ _ _ hr=>(aJ (bh (zT Hh (JE.d (gG (aq (JE.d (bU (aq aU (aq (JE.d (bU (aq aU aX))) aX)))) (aq (JE.d (bU (aq aU (aq (JE.d (bU (aq aU (aq aU aX)))) aX)))) (aq (JE.d (bU (aq aU (aq (JE.d (bU (aq aU (aq aC aX)))) aX)))) (aq (JE.d (bU (aq aU aX))) aX)))))) (JE.d (jc cC hr (eu (cA 0) (aA aC aK)))) (λ_ _=>rfl))))
def qd:bq ["_law_tape_here","_law_many","_law_half","_law_head"] ["_law_tape_here","_law_many"] (aD sC):=sI
def D8(D:yO z)(lO:pY z b)(cC:gW z b)(jW:m9 z b j):m9 z b (j+1):=
 oB D qd (λ_ _ h=>h) λ_ _ _ _ _ _ _ hr=>(az (bS (bx qT (jv 1) aC) (aJ (bh (jc lO hr (eu (cA 0) aK)))) bC)
  (az (zs qd.nd 2 (bL bW (JE.d (bL tF (JE.d (bL zu (jv 1) aC)) aC)) aC))
  (az (zs qd.nd 3 (zT Hh (JE.d (gG (aq aU (aq aU (aq aU aX))))) (JE.d (jc cC hr (eu (cA 0) (aA aC aK)))) (λ_ _=>rfl)))
  (aJ (bh (bU (aq (jv 3) (aq (JE.d (jc jW hr (eu (cA 0) (aA (jv 2) aK)))) (aq (JE.d (jc jW hr (eu (cA 0) (aA (JE.d (bL jj (JE.d (bL jj (jv 1) aC)) (jv 2))) aK)))) aX)))))))))
def lG:bq ["_law_tape_here","_law_many","_law_saying","_law_k"] ["_law_tape_here","_law_many"] (aD sD):=sI
def D9(D:yP z)(N:NZ z)(lO:pY z b)(cC:gW z b):sE z b:=
 oB D lG (λ_ _ h=>h) λ_ _ _ _ _ _ _ hr=>(az (zs lG.nd 2 (jc lO hr (eu (cA 0) aK)))
  (az (nA acn rfl (lK rfl N.xM (aq (JE.d (bL jj (jv 1) aC)) aX)) (zg lG.nd 3) (aJ (zs lG.nd 2 (bU (aq (JE.d (zT Hh (JE.d (gG (aq aU (aq aU (aq aU (aq aU aX)))))) (JE.d (jc cC hr (eu (cA 0) (aA aC aK)))) (λ_ _=>rfl))) (aq (jv 2) aX))))))
  (aJ (bh (cA 2)))))
def j9:bq ["_law_tape_here","_law_many","_law_saying","_law_k"] ["_law_tape_here","_law_many"] (aD pZ):=sI
def BX(D:wB z)(N:NZ z)(cC:gW z b):p5 z b:=
 oB D j9 (λ_ _ h=>h) λ_ _ _ _ _ _ _ hr=>(az (zs j9.nd 2 (bU (aq aU (aq (JE.d (bU (aq aU (aq aU aX)))) aX))))
  (az (nA acn rfl (lK rfl N.xM (aq (jv 1) aX)) (zg j9.nd 3) (aJ (zs j9.nd 2 (bU (aq (JE.d (zT Hh (JE.d (gG (aq aU (aq aU aX)))) (JE.d (jc cC hr (eu (cA 0) (aA aC aK)))) (λ_ _=>rfl))) (aq aU (aq (JE.d (zT Hh (JE.d (gG (aq aU (aq aU aX)))) (JE.d (tw La rfl N.aaf PyProof.Rows.Boot.int (aq (JE.d (cW (cG hr.units) (JE.d (bL pB (jv 3) aC)) aC)) aX))) (λ_ _=>rfl))) (aq (jv 2) aX))))))))
  (aJ (bh (cA 2)))))
def lH:bq ["_law_text","_law_spot_here","e"] ["_law_text"] (aD sF):=sI
def Ea(D:yQ z)(N:NZ z)(iw:j7 z b)(qg:nI z b):sG z b:=
 oB D lH (λ_ _ h=>h) λ_ _ _ _ _ _ _ hr=>(az (zs lH.nd 1 (JD.e pA))
  (az (xt lH.nd 2 N.J7 N.Ka (zC N.rQ Dy) (kO (xex (xc qg hr (aA (jv 0) aK)))) (aJ (fL (jc iw hr (aA (jv 0) aK)))) (λ_=>(aJ (zs lH.nd 1 (JD.e (JM (zC ⟨N.J8,N.J9,N.A0⟩ Dy) (cA 2)))))))
  (aJ (bh (cA 1)))))
def dO:bq ["_law_text","_law_spot_here","e"] ["_law_text"] (aD gX):=sI
def qE(D:kF z)(N:NZ z)(sV:pU z b)(sW:pW z b):gY z b:=
 oB D dO (λ_ _ h=>h) λ_ _ _ _ _ _ _ hr=>(az (zs dO.nd 1 (JD.e pA))
  (az (xt dO.nd 2 N.J7 N.Ka (zC N.rQ Dy) (kO (xex (xc sW hr (aA (jv 0) aK)))) (aJ (fL (jc sV hr (aA (jv 0) aK)))) (λ_=>(aJ (zs dO.nd 1 (JD.e (JM (zC ⟨N.J8,N.J9,N.A0⟩ Dy) (cA 2)))))))
  (aJ (bh (cA 1)))))
def cZ:bq ["_law_saying","_law_row","_law_head","_law_at","_law_here","_law_later","_law_due"] ["_law_saying","_law_row"] (aD jU):=sI
def wK(D:oM z)(N:NZ z)(yc:DQ z b):jV z b:=
 oB D cZ (λ_ _ h=>h) λ_ _ _ _ _ _ _ hr=>(az (nA acn rfl (iC (JE.d (gG (aq aU (aq aU aX))))) (zg cZ.nd 2) (aJ (nA acn rfl (iC (JE.d (bU (aq aC (aq aC (aq (JE.d (bL jj (gK (i:=1) rfl N.mL) aC)) aX)))))) (zg cZ.nd 3) (az (zs cZ.nd 4 (jc yc hr (aA (jv 0) (aA (jv 1) (aA (jv 3) aK)))))
  (az (zs cZ.nd 5 (jc yc hr (aA (JE.d (bU (aq (jv 2) (aq (jv 0) aX)))) (aA (jv 1) (aA (JE.d (bL bW (jv 3) aC)) aK)))))
  (az (zs cZ.nd 6 (Tj (bx (cG hr.units) (jv 2) aU) (JD.e (Jd (jv 4) (gj (jv 5)))) (JD.e (iB (jv 4) (gj (jv 5))))))
  (aJ (bS (bx (lV hr.units) (JE.d (jc yc hr (aA (JE.d (bU (aq (jv 2) (aq (jv 0) aX)))) (aA (jv 1) (aA (jv 3) aK))))) (jv 6)) (aJ (bh (JD.e eG))) bC))))))))
  (aJ (bh (cW N2 (JE.d (jc yc hr (aA (JE.d (bU (aq aU (aq (jv 0) aX)))) (aA (jv 1) (aA (gK (i:=1) rfl N.mL) aK))))) eG))))
def jd:bq ["_law_script","_law_tape_here","_law_wide_here","_law_deep_here","_law_bound_here","_law_saying","_law_tokens","_law_begins","_law_three","_law_most","_law_table","_law_row","_law_k","_law_name","_law_highest"] ["_law_script"] (aD Kh):=sI
def WR{f:Addr}{fd:FuncData}(F:IZ z.K "law" "law" Kh f fd)(N:NZ z)(vp:sy z b)(jW:m9 z b 9)(qh:sE z b)(kJ:p5 z b)(jX:r9 z b)(iw:j7 z b)(yf:DS z b)(Be:DN z b)(Bf:zE z b 9)(g9:sG z b)(cC:gW z b)(uf:vf z b)(eZ:gY z b)(lI:nN z b)(k6:jV z b):fV z.P z.w z.K z.mg b wM 30 f fd ["_law_script"] (spT z.K 1 (Ds 63)):=
 okT (g:=T9.J5 Ar (T9.wz 9) T9.F6 T9.uc T9.kP T9.OR T9.nC T9.AH (T9.xE 9) T9.OS jr T9.xF T9.LJ T9.AM T9.O4) F jd (λ_ _ _ _ _ _ hr=>(az (zs jd.nd 1 (jc vp hr (eu (cA 0) (aA aC aK))))
  (az (zs jd.nd 2 (bU (aq aU (aq (JE.d (jc jW hr (eu (cA 1) (aA aC aK)))) aX))))
  (az (zs jd.nd 3 (jc qh hr (eu (cA 1) (aA aC aK))))
  (az (zs jd.nd 4 (jc kJ hr (eu (cA 1) (aA aC aK))))
  (az (nA acn rfl (iC (JE.d (gG (aq (jv 2) (aq (jv 3) (aq (jv 4) aX)))))) (zg jd.nd 5) (aJ (bS (JW.t (fG (bx xu (JE.d (jc jX hr (aA (jv 5) aK))) eG) (cy (bx (lV hr.units) (JE.d (gF (Ac hr.gd hr.units) rfl N.Ue PyProof.Rows.Boot.repr (aq (JE.d (jc iw hr (aA (JE.d (jc yf hr (aA (jv 5) aK))) aK))) aX))) (JE.d (gF (Ac hr.gd hr.units) rfl N.Ue PyProof.Rows.Boot.repr (aq (jv 5) aX))))))) (aJ (bh (JD.e eG))) bC)))
  (az (bS (JW.t (fG (bx (lV hr.units) (JE.d (jc Be hr (aA (jv 2) aK))) aC) (fG (bx (lV hr.units) (JE.d (jc Bf hr (aA (jv 3) aK))) aC) (cy (bx (lV hr.units) (JE.d (jc Be hr (aA (jv 3) aK))) aC))))) (aJ (bh (JD.e eG))) bC)
  (az (zs jd.nd 6 (iQ kC aci aet oz (JE.d (jc yf hr (aA (jv 2) aK))) aU))
  (az (bS (JW.t (fG (iA (JE.d (jc jX hr (aA (JE.d (bU (aq aU (aq (jv 2) aX)))) aK)))) (cy (bx zA (JE.d (jc g9 hr (aA (JE.d (bL bW aU (JE.d (iQ pG ae0 ae1 vX aU (jv 6))))) aK))) pA)))) (aJ (bh (JD.e eG))) bC)
  (az (zc jd.nd 7 (cc 6) (lK rfl N.xM (aq (gK (i:=6) rfl N.mL) aX)) (λ_ _ _ _=>(Jg (bx (pD hr.units) (ys hr 1 (jv 0)) (JE.d (bU (aq aU (aq aU (aq aU (aq aU (aq aU (aq aU aX)))))))) (by with_unfolding_all rfl)))) (λ_ _ _ _=>(jv 0)))
  (az (bS (JW.t (fG (bx (lV hr.units) (JE.d (jc g9 hr (aA (JE.d (bL bW aU (JE.d (iQ pG ae0 ae1 vX aU (jv 6))))) aK))) (JE.d (bL bW (ys hr 7 aC) aC))) (cy (iA (JE.d (jc jX hr (aA (JE.d (bU (aq aU (aq (jv 3) aX)))) aK))))))) (aJ (bh (JD.e eG))) bC)
  (az (bS (JW.t (fG (bx (lV hr.units) (JE.d (jc g9 hr (aA (JE.d (bL bW aU (JE.d (jc yf hr (aA (jv 3) aK))))) aK))) aC) (cy (iA (JE.d (jc jX hr (aA (JE.d (jc kJ hr (eu (cA 1) (aA aC aK)))) aK))))))) (aJ (bh (JD.e eG))) bC)
  (az (bS (bx (lV hr.units) (JE.d (jc g9 hr (aA (JE.d (jc yf hr (aA (JE.d (jc kJ hr (eu (cA 1) (aA aC aK)))) aK))) aK))) aC) (aJ (bh (JD.e eG))) bC)
  (az (zs jd.nd 8 (JD.e aU))
  (az (bS (JW.t (fG (bx Ao (JE.d (jc g9 hr (aA (JE.d (bL bW (jv 8) aU)) aK))) pA) (cy (bx (lV hr.units) (JE.d (jc g9 hr (aA (JE.d (bL bW (jv 8) aU)) aK))) aC)))) (aJ (bh (JD.e eG))) bC)
  (az (zs jd.nd 9 (jc cC hr (eu (cA 1) (aA aC aK))))
  (az (zs jd.nd 10 (bU (aq (JE.d (bU (aq aU (aq aC aX)))) (aq (JE.d (bU (aq aU (aq (jv 9) aX)))) (aq (JE.d (bU (aq aU (aq (JE.d (bL jj aC (jv 9))) aX)))) aX)))))
  (az (bS (JW.t (fG (bx xu (JE.d (jc uf hr (aA (jv 10) aK))) eG) (cy (bx xu (JE.d (jc uf hr (aA (JE.d (bL bW (jv 10) (JE.d (bU (aq (JE.d (bU (aq aU (aq aC aX)))) aX))))) aK))) eG)))) (aJ (bh (JD.e eG))) bC)
  (az (bS (JW.t (fG (bx Ao (JE.d (jc eZ hr (aA (JE.d (jc lI hr (aA (jv 10) aK))) aK))) pA) (cy (bx (lV hr.units) (JE.d (jc eZ hr (aA (JE.d (bL bW (JE.d (jc lI hr (aA (jv 10) aK))) aU)) aK))) aC)))) (aJ (bh (JD.e eG))) bC)
  (az (zs jd.nd 11 (gG aX))
  (az (nA acn rfl (lK rfl N.xM (aq aC aX)) (zg jd.nd 12) (az (U8 (ys hr 10 (JE.d (jc cC hr (eu (cA 1) (aA aC aK))))) (C8 rfl (kr (zg jd.nd 13) (kr (zg jd.nd 14) zy))))
  (aJ (fL (JD.e (tK (i:=11) aeK aeL tu tL tV (aq (JE.d (bU (aq (jv 13) (aq (JE.d (jc cC hr (eu (cA 1) (aA (JE.d (bL bW (jv 14) aC)) aK)))) aX)))) aX)))))))
  (aJ (bh (jc k6 hr (aA (JE.d (jc qh hr (eu (cA 1) (aA aC aK)))) (aA (jv 11) aK)))))))))))))))))))))))))) T9.LV
set_option maxHeartbeats 0 in
def SQ{fa:Addr}(j8:Xl z.K z.mg "Reader" 308)(yg:A1 z)(yh:A2 z)(Bq:CK z)(yi:A3 z)(yj:A4 z)(mF:qq z)(Eb:Ga z)(Br:CL z)(nP:rR z)(ym:A7 z)(nQ:rS z)(vq:yH z)(qi:yI z)(zF:Gb z)(sX:wA z)(vt:yJ z)(Pw:Ph z)(Ec:Ke z)(Iq:Kf z)(qj:yK z)(iW:oK z)(mG:qu z)(Bs:CM z)(Bt:CN z)(Ed:Ge z)(jY:m6 z)(nR:sf z)(jE:kY z)(je:lq z)(fR:iI z)(jf:lu z)(e7:gR z)(cJ:gq z)(lJ:nH z)(vv:yL z)(nk:pT z)(ug:Bb z)(Ir:Kg z)(qk:uG z)(ql:uH z)(vA:yM z)(vB:yN z)(yp:Bc z)(qm:yO z)(vC:yP z)(sY:wB z)(vD:yQ z)(iN:kF z)(k7:oM z)(WS:aaj z)(N:NZ z)(U9:z.mg "law" =some (.ref fa)):
  ∃fd:FuncData,(∀(s:Shared)(v:Value),BindsTo s fd ⟨[v],[]⟩ [("_law_script",v)])/\∀b:Heap,z.K.In b->b.Ns mainGlobals z.mg->b.life.ids=[]->fV z.P z.w z.K z.mg b wM 30 fa fd ["_law_script"] (spT z.K 1 (Ds 63)):=by
 obtain⟨f,fd,F,m⟩:=WS.ex;cases U9.symm.trans m;refine⟨fd,λs v=>?_,λb _ _ hI0=>?_⟩
 .obtain⟨_,_,_,_,_,_,_,_,_,rfl,_,_⟩:=F.ex;exact .of_eq rfl
 .have lN:pP z b:=Gg yg N;have dW:jP z b:=Gi yh N;have c9:jQ z b:=Ij Bq N;have D3:A6 z b:=LY Eb;have mD:ud z b:=Il Br N;have gg:jy z b:=zb nP N;have dX:jR z b:=Gq ym N;have cU:gP z b:=ze nQ N;have dH:iV z b:=xZ mG;have Bh:xR z b:=Im Bs N;have dF:gB z b:=vo jY N;have cz:fu z b:=zh nR N;have qb:nK z b:=Bm qk N;have vp:sy z b:=D6 vA N;have cC:gW z b:=D7 vB;have xT:vd z b:=Gk yi N dW c9 lN;have mw:kU z b:=xV mF N dW c9 lN;have oO:ue z b:=Ip Bt N Bh;have i9:m8 z b:=D5 vv N c9;have lI:nN z b:=Bp ql qb;have lO:pY z b:=Gu yp cC;have kJ:p5 z b:=BX sY N cC;have uf:vf z b:=Gm yj N dW xT;have vm:rW z b:=DV vq N dW mw c9;have D4:Ba z b:=L6 Ed dH oO;have bN:dU z b:=ya jE;have jC:kZ z b:=wI jE N;have sV:pU z b:=BW nk N i9;have sW:pW z b:=Bk nk N i9;have qh:sE z b:=D9 vC N lO cC;have cH:eV z b:=sP je N cz bN c9;have dI:eY z b:=sQ fR N cz bN mD;have i8:iJ z b:=qC fR N bN mD cz jC;have eZ:gY z b:=qE iN N sV sW;have i7:iL z b:=sR jf N cz cH bN;have cQ:d7 z b:=qD e7 N dI i7 cH;have iM:gU z b:=p7 e7 N dI i8;have SR:∀j:Nat,rY z b j:=by
   intro j
   induction j with
   |zero=>exact pJ zF (λ_=>rfl)
   |succ j ih=>exact(LZ zF dX ih).mono (by lia)
  have nj:=(SR 9)
  have WT:∀j:Nat,zE z b j:=by
   intro j
   induction j with
   |zero=>exact pJ Ec (λ_=>rfl)
   |succ j ih=>exact(Pn Ec N dX ih).mono (by lia)
  have Bf:=(WT 9)
  have L7:∀j:Nat,pX z b j:=by
   intro j
   induction j with
   |zero=>exact pJ ug (λ_=>rfl)
   |succ j ih=>exact(Gr ug N dX ih).mono (by lia)
  have oV:=(L7 9)
  have sO:pR z b:=BV sX N nj;have Be:DN z b:=SO Pw N nj;have yf:DS z b:=Pu Ir oV;have Iu:∀j:Nat,m9 z b j:=by
   intro j
   induction j with
   |zero=>exact pJ qm (λ_=>rfl)
   |succ j ih=>exact(D8 qm lO cC ih).mono (by lia)
  have jW:=(Iu 9)
  have Iv:∀j:Nat,mZ z b j:=by
   intro j
   induction j with
   |zero=>exact pJ qi (λ_=>rfl)
   |succ j ih=>exact(DW qi N vm cU dX ih).mono (by lia)
  have mz:=(Iv 9)
  have jX:r9 z b:=DY vt N mz Be sO;have kK:∀j:Nat,cE z b j/\dM z b j:=by
   intro j
   induction j with
   |zero=>exact⟨Ol cJ (λ_=>rfl),Lv cJ (λ_=>rfl)⟩
   |succ j ih=>exact⟨(p9 cJ N cQ cU gg ih.1).mono (by lia),(oU cJ N gg ih.1 cU cQ ih.2 iM).mono (by lia)⟩
  have bO:=(kK 9).1;have cX:=(kK 9).2;have iw:j7 z b:=Bj lJ N dF bO j8;have qg:nI z b:=zj lJ N bO dF j8 cX;have g9:sG z b:=Ea vD N iw qg;have Bu:∀j:Nat,m5 z b j/\jT z b j:=by
   intro j
   induction j with
   |zero=>exact⟨pJ qj (λ_=>rfl),pJ iW (λ_=>rfl)⟩
   |succ j ih=>exact⟨(D0 qj ih.2).mono (by lia),(wH iW N D3 ih.1 dH D4 oO).mono (by lia)⟩
  have mC:=(Bu 24).1;have qw:=(Bu 24).2;have yc:DQ z b:=Pp Iq mC;have k6:jV z b:=wK k7 N yc;exact WR F N vp jW qh kJ jX iw yf Be Bf g9 cC uf eZ lI k6
def all_mk{w:World}{K:AAD}{mg:AAF}{fa:Addr}(j8:Xl K mg "Reader" 308)(yg:Df K mg "is_whole" u6)(yh:Df K mg "is_tuple" u9)(Bq:Df K mg "is_name" xO)(yi:Df K mg "is_entry" vc)(yj:Df K mg "is_table" ve)(mF:Df K mg "is_test_among" kT)(Eb:Df K mg "passes" A5)(Br:Df K mg "is_head" xP)(nP:Df K mg "parts_wanted" mh)(ym:Df K mg "parts_of" vg)(nQ:Df K mg "bound_within" mj)(vq:Df K mg "is_shaped" rT)(qi:Df K mg "is_formed" rX)(zF:Df K mg "all_in" A8)(sX:Df K mg "binders_in" pQ)(vt:Df K mg "is_saying" rZ)(Pw:Df K mg "size" Ih)(Ec:Df K mg "depth" DO)(Iq:Df K mg "holds" DP)(qj:Df K mg "truths_of" se)(iW:Df K mg "truths_by_head" jS)(mG:Df K mg "turned_truths" kW)(Bs:Df K mg "come_to" xQ)(Bt:Df K mg "at_some" xS)(Ed:Df K mg "at_all" A9)(jY:BI K 308 "__init__" "Reader.__init__" jz)(nR:BI K 308 "taken" "Reader.taken" mq)(jE:BI K 308 "wanted" "Reader.wanted" kX)(je:BI K 308 "name_taken" "Reader.name_taken" iG)(fR:BI K 308 "head_taken" "Reader.head_taken" iH)(jf:BI K 308 "test_taken" "Reader.test_taken" iK)(e7:BI K 308 "begin_taken" "Reader.begin_taken" gQ)(cJ:BI K 308 "saying_taken" "Reader.saying_taken" gn)(lJ:Df K mg "read_saying" nG)(vv:Df K mg "read_pair" sr)(nk:Df K mg "read_table" pS)(ug:Df K mg "words_of" vh)(Ir:Df K mg "shown" DR)(qk:Df K mg "shown_pairs" nJ)(ql:Df K mg "shown_table" nM)(vA:Df K mg "_law_tape" su)(vB:Df K mg "_law_pick" sA)(yp:Df K mg "_law_now" vj)(qm:Df K mg "_law_wide" sC)(vC:Df K mg "_law_deep" sD)(sY:Df K mg "_law_bound" pZ)(vD:Df K mg "_law_spot" sF)(iN:Df K mg "_law_spot_of_table" gX)(k7:Df K mg "_law_far_right" jU)(WS:Df K mg "law" Kh)(N:Nb l.prog w K mg)(U9:mg "law" =some (.ref fa)):
  ∃fd:FuncData,(∀(s:Shared)(v:Value),BindsTo s fd ⟨[v],[]⟩ [("_law_script",v)])/\∀base:Heap,K.In base->base.Ns mainGlobals mg->base.life.ids=[]->fV l.prog w K mg base wM 30 fa fd ["_law_script"] (spT K 1 (Ds 63)):=
 SQ (z:=⟨l.prog,w,K,mg⟩) j8 yg yh Bq yi yj mF Eb Br nP ym nQ vq qi zF sX vt Pw Ec Iq qj iW mG Bs Bt Ed jY nR jE je fR jf e7 cJ lJ vv nk ug Ir qk ql vA vB yp qm vC sY vD iN k7 WS N U9
def walk{q:Program}{loose:BBB}{XP:(Str->BBP)->Heap->Prop}{YP:World->Heap->Prop}{d:DefRec}{K:Params->PySem.W.Frag}(hn:l.most=some 63)(hdf:d.params.defaults=[])
  (hY:∀(w:World)(h:Heap),YP w h->(K w.params).In h/\PySem.W.TabsAt [] h/\∀p∈([]:List (Addr×Addr)),(K w.params).lookup p.2=none)
  (F:∀(w:World)(mg:AAF)(fa:Addr)(h:Heap),(K w.params).In h->h.Ns mainGlobals mg->mg d.name=some (.ref fa)->
   ∃fd:FuncData,(∀(s:Shared)(u:Value),BindsTo s fd ⟨[u],[]⟩ [("_law_script",u)])/\∀base:Heap,(K w.params).In base->base.Ns mainGlobals mg->base.life.ids=[]->fV l.prog w (K w.params) mg base wM 30 fa fd ["_law_script"] (spT (K w.params) 1 (Ds 63))):
  PySem.W.WalkO q loose XP YP l.row.toRowW d [] (λf vs=>PySem.call f vs):=
 L2.Qv (n:=63) (k:=30) (x:="_law_script") (CX:=λ_=>wM) (sp:=λw=>spT (K w.params) 1 (Ds 63)) hn (by decide) hdf ⟨rfl,by decide,by decide,rfl⟩ hY F (λw H a ns hl hO hS=>VP hl hO hS) λ_ _ _ _ _ z=>z
end K15
open PySem PySem.W PyProof.Rows
noncomputable def PySem.W.Fast.tw1501607731096388643:Nat->Stmt:=K15.top
theorem PySem.W.Fast.te1501607731096388643:K15.top=PySem.W.Fast.tw1501607731096388643:=rfl
def K15.sc:Scope:=PySem.Challenge.pw_surewatch_k15_whole_at_the_bounds.main.scope
noncomputable def PySem.W.Fast.tw15050885266225562351:Scope:=K15.sc
theorem PySem.W.Fast.te15050885266225562351:K15.sc=PySem.W.Fast.tw15050885266225562351:=rfl
def K15.pw:Program:={main:={body:=[K15.top 0,K15.top 1,K15.top 2,K15.top 3,K15.top 4,K15.top 5,K15.top 6,K15.top 7,K15.top 8,K15.top 9,K15.top 10,K15.top 11,K15.top 12,K15.top 13,K15.top 14,K15.top 15,K15.top 16,K15.top 17,K15.top 18,K15.top 19,K15.top 20,K15.top 21,K15.top 22,K15.top 23,K15.top 24,K15.top 25,K15.top 26,K15.top 27,K15.top 28,K15.top 29,K15.top 30,K15.top 31,K15.top 32,K15.top 33,K15.top 34,K15.top 35,K15.top 36,K15.top 37,K15.top 38,K15.top 39,K15.top 40,K15.top 41,K15.top 42,K15.top 43,K15.top 44,K15.top 45,K15.top 46,K15.top 47,K15.top 48,K15.top 49,K15.top 50,K15.top 51,K15.top 52,K15.top 53,K15.top 54,K15.top 55,K15.top 56,K15.top 57,K15.top 58,K15.top 59,K15.top 60,K15.top 61,K15.top 62,K15.top 63,K15.top 64,K15.top 65,K15.top 66,K15.top 67,K15.top 68,K15.top 69,K15.top 70],scope:=K15.sc,futureAnnotations:=false,file:="/claim/cut.py",more:=[]},modules:=[],parses:=[],absent:=[],harvested:=[],given:={argv:=[],stdin:=[],environ:=some [([76,67,95,65,76,76],[67,46,85,84,70,45,56])]}}
def K15.rw:OpenLaw:={prog:=K15.pw,name:=(PySem.Str.ofString "law"),about:=[(PySem.Str.ofString "is_saying")],foot:=10,most:=some 63,bound:=none,writes:=false}
def PySem.W.Fast.tw17620607008238960339:=0
def PySem.W.Fast.tw698159537641078660:=0
def PySem.W.Fast.tw5600681943175543089:=0
def PySem.W.Fast.tw13026500019232603576:=0
def PySem.W.Fast.tw677031340530850805:=0
def PySem.W.Fast.tw7284399695874655328:=0
def PySem.W.Fast.tw917882973284824978:=0
def PySem.W.Fast.tw5717409118778206489:=0
def PySem.W.Fast.tw10379455527811263162:=0
def PySem.W.Fast.tw17001953104815709470:=0
def PySem.W.Fast.tw11880165664222606220:=0
def PySem.W.Fast.tw2314320592374061322:=0
def PySem.W.Fast.tw1948016595228636357:=0
def PySem.W.Fast.tw1389452352539531864:=0
def PySem.W.Fast.tw8806198470538872611:=0
def PySem.W.Fast.tw1471511047616480736:=0
def PySem.W.Fast.tw13860176187623959894:=0
def PySem.W.Fast.tw4887683818007164028:=0
def PySem.W.Fast.tw7794467892217023239:=0
def PySem.W.Fast.tw6716887215057965106:=0
def PySem.W.Fast.tw9163105911997419249:=0
def PySem.W.Fast.tw4369934423659477887:=0
def PySem.W.Fast.tw1616744828206611189:=0
def PySem.W.Fast.tw6693268869581901535:=0
def PySem.W.Fast.tw9567824616088781716:=0
def PySem.W.Fast.tw1109769278046342675:=0
def PySem.W.Fast.tw4600689583787111784:=0
def PySem.W.Fast.tw7627577146111819940:=0
def PySem.W.Fast.tw9093336791467942886:=0
def PySem.W.Fast.tw7486148677793551966:=0
def PySem.W.Fast.tw11130536129772654832:=0
def PySem.W.Fast.tw16388204208757920588:=0
def PySem.W.Fast.tw12304008086932498292:=0
def PySem.W.Fast.tw8521358552330561223:=0
def PySem.W.Fast.tw4564750235843066442:=0
def PySem.W.Fast.tw10740143166129732851:=0
def PySem.W.Fast.tw5268752338427111035:=0
def PySem.W.Fast.tw15278531044830569308:=0
def PySem.W.Fast.tw3363983573510778145:=0
def PySem.W.Fast.tw12001989783247907024:=0
def PySem.W.Fast.tw17016319749858872132:=0
def PySem.W.Fast.tw15022168241788833520:=0
def PySem.W.Fast.tw7294408831153442009:=0
def PySem.W.Fast.tw16943260574683716981:=0
def PySem.W.Fast.tw2610676525445996718:=0
def PySem.W.Fast.tw16645611406452290357:=0
def PySem.W.Fast.tw1512298010486145147:=0
def PySem.W.Fast.tw12656200062274012700:=0
def PySem.W.Fast.tw7385987544652230757:=0
def PySem.W.Fast.tw4504699686666906110:=0
def PySem.W.Fast.tw15395264365595362457:=0
def PySem.W.Fast.tw15661893519220002925:=0
def PySem.W.Fast.tw4509921148248102151:=0
def PySem.W.Fast.tw5968363989290775408:=0
def PySem.W.Fast.tw16572776209269727690:=0
def PySem.W.Fast.tw10086351781209954119:=0
def PySem.W.Fast.tw4686438855283051490:=0
def PySem.W.Fast.tw7009590812326276921:=0
def PySem.W.Fast.tw17125406591178866807:=0
def PySem.W.Fast.tw15314209344935412928:=0
def PySem.W.Fast.tw12146506048860158253:=0
def PySem.W.Fast.tw16910251806836398084:=0
def PySem.W.Fast.tw5402896224028231752:=0
def PySem.W.Fast.tw2270351767486601381:=0
def PySem.W.Fast.tw15169857546276378251:=0
def PySem.W.Fast.tw18121761819638450181:=0
def PySem.W.Fast.tw15376678630828395288:=0
def PySem.W.Fast.tw10831138273247414293:=0
def PySem.W.Fast.tw10853258234225754052:=0
def PySem.W.Fast.tw14035299329472861076:=0
def PySem.W.Fast.tw13715109331627711379:=0
def PySem.W.Fast.tw3946189884308618058:=0
def PySem.W.Fast.tw4913517172090428530:=0
def PySem.W.Fast.tw14070440359464150740:=0
def PySem.W.Fast.tw7286440937753892028:=0
def PySem.W.Fast.tw17294711874927839271:=0
def PySem.W.Fast.tw15042491000541878873:=0
def PySem.W.Fast.tw6718061285570504701:=0
def PySem.W.Fast.tw6204115981498195737:=0
def PySem.W.Fast.tw13940534520525856070:=0
def PySem.W.Fast.tw5733337439852664836:=0
def PySem.W.Fast.tw6069511668320268718:=0
def PySem.W.Fast.tw8146712520936038117:=0
def PySem.W.Fast.tw2259797127956870646:=0
def PySem.W.Fast.tw6537172940616391885:=0
set_option maxRecDepth 100000 in
set_option maxHeartbeats 0 in
def K15.holds:K15.rw.Holds:=by
 w_on;o_law;k_head;(case hw=>w_witness2)
 k_fill
 refine K15.walk (l:=K15.rw) rfl rfl (λw h Y=>⟨PySem.W.kIn_of Y,λ_ h=>(by cases h),λ_ h=>(by cases h)⟩) ?F
 case F=>
  intro w mg fa h KX G hmg;refine' K15.all_mk ?j8 ?_ ?_ ?_ ?_ ?_ ?_ ?_ ?_ ?_ ?_ ?_ ?_ ?_ ?_ ?_ ?_ ?_ ?_ ?_ ?_ ?_ ?_ ?_ ?_ ?_ ?_ ?_ ?_ ?_ ?_ ?_ ?_ ?_ ?_ ?_ ?_ ?_ ?_ ?_ ?_ ?_ ?_ ?_ ?_ ?_ ?_ ?_ ?_ ?_ ?_ ?NB hmg
  (case j8=>refine' L2.VR KX G ?a ?b ?c;(case a=>k_is);(case b=>k_is);(case c=>k_is))
  (case NB=>refine⟨abi KX G ?_,abi KX G ?_,abi KX G ?_,abi KX G ?_,abi KX G ?_,abi KX G ?_,abi KX G ?_,abi KX G ?_,abi KX G ?_,abi KX G ?_,abi KX G ?_,abi KX G ?_,abi KX G ?_,abi KX G ?_,abi KX G ?_,abi KX G ?_,⟨_,abC KX G (by k_is)⟩,⟨_,abC KX G (by k_is)⟩,⟨_,abC KX G (by k_is)⟩,⟨_,abC KX G (by k_is)⟩,⟨_,abC KX G (by k_is)⟩,⟨_,abC KX G (by k_is)⟩,⟨_,abC KX G (by k_is),L2.Dk (by k_is) (by decide) (by(repeat refine⟨⟨rfl,⟨_,rfl⟩,_,rfl⟩,?_⟩);trivial)⟩,⟨_,abC KX G (by k_is),L2.Dk (by k_is) (by decide) (by(repeat refine⟨⟨rfl,⟨_,rfl⟩,_,rfl⟩,?_⟩);trivial)⟩,⟨_,abC KX G (by k_is),L2.Rp (by k_is) (by decide) (by(repeat refine⟨⟨_,rfl⟩,?_⟩);trivial)⟩,⟨_,abC KX G (by k_is)⟩,⟨_,abC KX G (by k_is)⟩,⟨_,abC KX G (by k_is)⟩,⟨_,abC KX G (by k_is),L2.Dk (by k_is) (by decide) (by(repeat refine⟨⟨rfl,⟨_,rfl⟩,_,rfl⟩,?_⟩);trivial)⟩,⟨?_,?_,?_,?_⟩,?_,?_,?_,?_,abC KX G (by k_is),⟨_,by k_is,rfl,by decide,by k_is,by k_is⟩,by k_is,(by unfold L2.dQ;k_is),⟨_,L2.JN (by k_is),by decide⟩,⟨_,L2.JN (by k_is),by decide⟩,(λ_=>L2.adX (m:="__init__") (qn:="NoText.__init__") (st:=K15.pN 38 0) (L2.V6 (by k_is) (by k_is) (by k_is) (by k_is) (by k_is) (by kernel_rfl) (by kernel_rfl) PySem.F.excBase_ValueError (by decide)) (abC KX G (by k_is)) (by k_is) ⟨by k_is,rfl,by decide,rfl,by k_is,λ_=>rfl⟩ (by unfold L2.dQ;k_is) L2.sI rfl (by trivial) (by trivial) (by intro _ _ _ _ _ _ us hl;rcases us with _|⟨_,_|⟨_,_|⟨_,_|⟨_,_⟩⟩⟩⟩<;>first|rfl|cases hl))⟩<;>k_is)
  iterate 25 (refine' L2.TM KX G ?a ?l ?c ?k;(case a=>k_is);(case l=>k_is);(case c=>k_is);(case k=>k_is))
  iterate 8 (refine' L2.VQ ?a ?l ?c ?k ?y;(case a=>k_is);(case l=>k_is);(case c=>k_is);(case k=>k_is);(case y=>k_is))
  iterate 17 (refine' L2.TM KX G ?a ?l ?c ?k;(case a=>k_is);(case l=>k_is);(case c=>k_is);(case k=>k_is))
theorem PySem.Challenge.cw_surewatch_k15_whole_at_the_bounds_holds : PySem.Challenge.rw_surewatch_k15_whole_at_the_bounds.Holds :=
 K15.holds
