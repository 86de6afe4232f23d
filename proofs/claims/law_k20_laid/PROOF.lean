import PyProof.Rows.All
import Wide.All
import OpenK.AllK
import Wide.FinOn
import PyProof.EqAt
import PyProof.EqKinds
import PyProof.TupleCall
import Lean
import PySem.Challenge.RW_surewatch_k20_laid
set_option Elab.async false
set_option linter.all false
set_option maxRecDepth 100000
set_option bootstrap.genMatcherCode false
set_option compiler.extract_closed false
open PySem PySem.Spec PyProof.Rows
abbrev BBB:=List Str
abbrev BBC:=List Expr
abbrev BBD:=List Int
abbrev BBE:=List Addr
abbrev BBF:=List Env
abbrev BBG:=List Value
abbrev BBH:=List Stmt
abbrev BBI:=List Keyword
abbrev BBJ:=List Nat
abbrev BBL:=Option Expr
abbrev BBM:=Option Int
abbrev BBN:=Option Addr
abbrev BBP:=Option Value
noncomputable section
set_option hygiene false
def isM(x:Lean.TSyntax `ident):Bool:=match x.getId with|.str .anonymous s=>s.back=='_'|_=>false
local macro_rules|`($x:ident)=>if isM x then match x.getId.getString! with
|"a_"=>`(by lia)
|"b_"=>`(by decide)
|"c_"=>`(s.heap.objs.size)
|"d_"=>`(model X.prog X.w)
|"e_"=>`(.Name x px)
|"f_"=>`(eC (.int 1))
|"g_"=>`(model prog w)
|"h_"=>`(hS (.tup (.str z::r)) row at' kvs z x5 x6 x7)
|"i_"=>`(by decide +kernel)
|"j_"=>`(eF (au 1))
|_=>Lean.Macro.throwUnsupported
 else Lean.Macro.throwUnsupported
local macro_rules|`(tactic|trivial)=>`(tactic|first|exact .inl rfl|exact .inr rfl|exact .inr (.inl rfl)|exact .inr (.inr rfl)|assumption|(intro _ _ _ _ _ _ us hl;rcases us with _|⟨_,_|⟨_,_|⟨_,_|⟨_,_|⟨_,_|⟨_,_|⟨_,_⟩⟩⟩⟩⟩⟩⟩<;>first|rfl|cases hl))
abbrev BBT(x:Str):Prop:=(x == ("__debug__":Str))=false
abbrev BBU(x:Str):Prop:=(x == ("__classdict__":Str))=false
abbrev AAD:=W.Frag
abbrev AAE:=Value->Shared->Prop
abbrev AAF:=Str->Option Value
abbrev AAG:=List (Addr×Obj)
abbrev AAJ:=List (Str×Int)
abbrev AAK:=Array Value
abbrev AAL:=List Value
abbrev aam:=@wpAny_bind
abbrev aar:=@List.length_map
abbrev aaE:=@Heap.get?_push_of_some
abbrev aaN:=@Option.bind_some
abbrev aaO:=@List.mem_singleton
abbrev aaP:=@Nat.le_refl
abbrev aaQ:=@List.size_toArray
abbrev aaR:=@List.mem_cons_of_mem
abbrev aaS:=@List.getElem?_eq_getElem
abbrev aaT:=@List.mem_cons_self
abbrev aaU:=@Nat.lt_of_lt_of_le
abbrev aaV:=@List.mem_cons
abbrev aaW:=@List.length_append
abbrev aaX:=@Heap.lt_size
abbrev aaY:=@Nat.le_trans
abbrev aaZ:=@Heap.get?_push_size
abbrev aa1:=@Nat.ne_of_lt
abbrev aa2:=@List.mem_map
abbrev abu:=@List.mem_append
abbrev abv:=@List.getElem?_eq_some_iff
abbrev abC:=@List.getD_eq_getElem?_getD
abbrev abD:=@List.length_cons
abbrev abE:=@List.mem_append_right
abbrev abF:=@List.getElem?_set_ne
abbrev abG:=@List.not_mem_nil
abbrev abH:=@Array.getElem?_eq_getElem
abbrev abI:=@List.getElem?_map
abbrev abJ:=@decide_eq_true
abbrev abK:=@Nat.zero_le
abbrev abL:=@List.any_eq_true
abbrev abM:=@Array.length_toList
abbrev abN:=@Nat.pow_le_pow_right
abbrev abO:=@Classical.byContradiction
abbrev abP:=@decide_eq_false
abbrev abQ:=@Array.getD_eq_getD_getElem?
abbrev abR:=@Bool.and_eq_true_iff
abbrev abS:=@Bool.and_eq_true
abbrev abT:=@Option.some.inj
abbrev abU:=@List.mem_of_getElem?
abbrev abV:=@List.map_map
abbrev abW:=@List.length_range
abbrev abX:=@of_decide_eq_true
abbrev abY:=@List.mem_range
abbrev abZ:=@List.nodup_nil
abbrev ab0:=@List.find?_cons
abbrev ab1:=@List.getElem?_append_left
abbrev ab2:=@List.map_congr_left
abbrev ab3:=@wpAny_mono
abbrev ab4:=@PassesOwn.never
abbrev ab5:=@decide_eq_true_eq
abbrev ab6:=@W.mg_none_of
abbrev ab7:=@List.nodup_cons
abbrev acd:=@List.map_cons
abbrev ace:=@List.getElem?_set_self
abbrev aco:=@PySem.mem_of_lookup
abbrev acp:=@List.mem_append_left
abbrev acs:=@List.drop_eq_getElem_cons
abbrev acy:=@List.nil_append
abbrev acz:=@Nat.le_of_lt
abbrev acB:=@List.all_eq_true
abbrev acF:=@List.lookup_cons
abbrev acH:=@Ne.symm
abbrev acI:=@List.getElem?_eq_none
abbrev acJ:=@slot_tuple_getitem
abbrev acK:=@wpAny_holding
abbrev acM:=@List.any_cons
abbrev acN:=@wpAny_ite_split
abbrev acR:=@listItems_at
abbrev acS:=@beq_self_eq_true
abbrev acT:=@sizeLine_eq
abbrev acU:=@Heap.SameBut.update
abbrev acV:=@wpAny_newObj_type
abbrev acW:=@List.pairwise_map
abbrev acX:=@List.length_singleton
abbrev acY:=@Classical.choose_spec
abbrev ac4:=@Nat.pow_succ
abbrev ac6:=@F.slot_list_append
abbrev ac7:=@F.type_list_append
abbrev ac9:=@wpAny_Call_Name_kw
abbrev adf:=@List.idxOf_lt_length_of_mem
abbrev adg:=@Boot.tuple
abbrev adW:=@List.length_drop
abbrev adX:=@Nat.lt_irrefl
abbrev ad0:=@beq_eq_false_iff_ne
abbrev ad2:=@or_false
abbrev ad7:=@List.append_nil
abbrev ad8:=@List.map_append
abbrev ad9:=@Array.getElem?_toList
abbrev aea:=@List.length_take
abbrev aeb:=@wpAny_call_entry
abbrev aec:=@Bool.eq_iff_iff
abbrev aed:=@Nat.testBit_and
abbrev aee:=@Heap.get?_update_other
abbrev aef:=@List.take_of_length_le
abbrev ael:=@List.all_cons
abbrev aen:=@List.length_replicate
abbrev aeo:=@List.length_set
abbrev aeu:=@lookup_relabel_local
abbrev aeF:=@codeAny_builtin
abbrev aeG:=@wpAny_truthy_bool
abbrev aeI:=@Nat.lt_succ_of_lt
abbrev aeJ:=@Option.getD_some
abbrev aeK:=@List.Perm.refl
abbrev aeL:=@Nat.testBit_or
abbrev aeM:=@Nat.le_succ
abbrev aeN:=@Boot.list
abbrev aeO:=@Bool.false_eq_true
abbrev aeP:=@PyProof.Rows.callWith_type1
abbrev aeQ:=@Nat.lt_of_le_of_lt
abbrev aeR:=@wpAny_passesOwn
abbrev aeS:=@List.getElem?_toArray
abbrev aeT:=@List.foldl_cons
abbrev aeU:=@Boot.all
abbrev aeV:=@Boot.any
abbrev aeW:=@if_false
abbrev aeX:=@List.getElem?_append_right
abbrev aeY:=@List.pairwise_iff_getElem
abbrev aeZ:=@Around.under_plainId
abbrev ae0:=@Heap.size_push
abbrev ae1:=@Nat.lt_succ_self
abbrev ae2:=@codeAny_mono
abbrev ae3:=@List.getElem_mem
abbrev ae4:=@F.called_set
abbrev ae5:=@List.getElem?_replicate
abbrev ae6:=@wpAny_callSpecial?_slot
abbrev ae9:=@List.pairwise_singleton
abbrev afa:=@plainId_quiet
abbrev afb:=@List.mem_filter
abbrev afc:=@PyProof.Rows.callWith_builtin1
abbrev afd:=@W.kia_one
abbrev afe:=@Array.ext_getElem?
abbrev afq:=@List.any_eq_false
abbrev afr:=@wpAny_setState_of
abbrev afs:=@List.append_assoc
abbrev aft:=@List.ext_getElem?
abbrev afu:=@Heap.get?_update_self
abbrev afv:=@Heap.get?_none_of_le
abbrev afw:=@wpAny_rule
abbrev afx:=@Array.getElem_toList
abbrev afy:=@wpAny_askSetting
abbrev afA:=@Nat.succ_le_succ
abbrev afB:=@Nat.eq_of_testBit_eq
abbrev afC:=@listUpdate_at
abbrev afD:=@List.filterMap_cons
abbrev afE:=@List.length_nil
abbrev afF:=@get?_update_seq
abbrev afM:=@Array.forIn_toList
abbrev afN:=@Bool.false_ne_true
abbrev afO:=@Calls.spliced_cons
abbrev afP:=@Nat.lt_trans
abbrev afQ:=@F.args_tuple_add_2
abbrev afR:=@wpAny_setField_rec
abbrev afS:=@Boot.sorted
abbrev afT:=@Nat.one_le_two_pow
abbrev afU:=@F.slot_list_extend
abbrev afV:=@F.type_list_extend
abbrev afW:=@beq_iff_eq
abbrev afX:=@isSubtype_type
abbrev afY:=@F.entry_tuple_add
abbrev afZ:=@F.plain_set_update_loop
abbrev af0:=@List.length_eq_zero_iff
abbrev af1:=@Int.eq_ofNat_of_zero_le
abbrev af2:=@Nat.testBit_mod_two_pow
abbrev af3:=@wpAny_pyIter_list
abbrev af4:=@List.nodup_append
abbrev af5:=@Heap.get?_push_ne
abbrev af6:=@W.cellsFrom_some
abbrev af7:=@Option.map_eq_some_iff
abbrev af8:=@Calls.callWith_builtin
abbrev af9:=@F.slot_tuple_add
abbrev aga:=@List.sublist_cons_self
abbrev agb:=@wpAny_newList
abbrev agc:=@strLen_append
abbrev agd:=@wpAny_isInstance
abbrev age:=@List.drop_length
abbrev agf:=@F.slot_dict_get
abbrev agg:=@List.all_map
abbrev agh:=@wpAny_execs_nil
abbrev agi:=@List.of_mem_zip
abbrev agj:=@wpAny_typeOf
abbrev agk:=@List.pairwise_append
abbrev agl:=@W.plainGet_of
abbrev agm:=@wpAny_setEntries_of
abbrev agn:=@List.replicate_succ
abbrev ago:=@List.mem_map_of_mem
abbrev agp:=@Bool.false_and
abbrev agq:=@boot_len
abbrev agr:=@List.find?_eq_none
abbrev ags:=@Int.emod_lt_of_pos
abbrev agt:=@List.getElem_idxOf
abbrev agu:=@Int.fdiv_eq_ediv_of_nonneg
abbrev agv:=@Bool.false_or
abbrev agw:=@List.length_eraseIdx_of_lt
abbrev agx:=@W.mg_of
abbrev agy:=@Array.perm_iff_toList_perm
abbrev agA:=@List.perm_ext_iff_of_nodup
abbrev agB:=@Value.isInt_shape
abbrev agC:=@Calls.spliced_nil
abbrev agD:=@fits_of_scanBound
abbrev agE:=@List.flatMap_cons
abbrev agF:=@Bool.eq_false_iff
abbrev agG:=@Nat.mod_lt
abbrev agH:=@F.plain_extend_loop
abbrev agI:=@Around.in1_units
abbrev agJ:=@Nat.ne_of_gt
abbrev agK:=@Nat.le_of_eq
abbrev agL:=@List.getElem?_take_of_lt
abbrev agM:=@noFill_tuple_add
abbrev agN:=@Nat.zero_add
abbrev agO:=@Heap.size_update
abbrev agP:=@List.any_map
abbrev agV:=@Nat.and_self
abbrev agW:=@List.mem_flatMap
abbrev agX:=@F.args_dict_get_3
abbrev agY:=@F.plainAttrs_list
abbrev ag6:=@F.plain_list_iadd
abbrev ag7:=@List.filter_cons_of_pos
abbrev ag8:=@List.filter_cons_of_neg
abbrev ag9:=@Int.emod_nonneg
abbrev aha:=@Nat.two_pow_pos
abbrev ahb:=@List.any_append
abbrev ahc:=@Nat.log2_lt
abbrev ahe:=@Bool.and_false
abbrev ahf:=@Nat.mul_le_mul
abbrev ahg:=@Bool.or_false
abbrev ahh:=@List.map_take
section
section
namespace L2
inductive D where
 |cI|bl (b:Bool)|int (i:Int)|str (z:Str)|tup (ds:List D)|lst (ds:List D)
mutual
noncomputable def D.same:D->D->Bool
 |.cI,.cI=>true
 |.bl a,.bl b=>a == b
 |.int a,.int b=>a == b
 |.str a,.str b=>decide (a=b)
 |.tup a,.tup b=>D.pW a b
 |.lst a,.lst b=>D.pW a b
 |_,_=>false
noncomputable def D.pW:List D->List D->Bool
 |[],[]=>true
 |a::as,b::bs=>D.same a b && D.pW as bs
 |_,_=>false
end
mutual
theorem D.same_refl:∀a:D,D.same a a=true
 |.cI=>rfl
 |.bl a=>show(a == a)=true from acS a
 |.int a=>show(a == a)=true from acS a
 |.str a=>show decide (a=a)=true from abJ rfl
 |.tup a=>show D.pW a a=true from D.sL a
 |.lst a=>show D.pW a a=true from D.sL a
theorem D.sL:∀a:List D,D.pW a a=true
 |[]=>rfl
 |a::as=>by show(D.same a a && D.pW as as)=true;rw[D.same_refl a,D.sL as];rfl
end
mutual
theorem D.same_eq:∀{a b:D},D.same a b=true->a=b
 |.cI,b,h=>by cases b with|cI=>rfl|_=>cases h
 |.bl a,b,h=>by cases b with|bl c=>rw[eq_of_beq (show(a == c)=true from h)]|_=>cases h
 |.int a,b,h=>by cases b with|int c=>rw[eq_of_beq (show(a == c)=true from h)]|_=>cases h
 |.str a,b,h=>by cases b with|str c=>rw[abX (show decide (a=c)=true from h)]|_=>cases h
 |.tup a,b,h=>by cases b with|tup b=>rw[D.yC (show D.pW a b=true from h)]|_=>cases h
 |.lst a,b,h=>by cases b with|lst b=>rw[D.yC (show D.pW a b=true from h)]|_=>cases h
theorem D.yC:∀{a b:List D},D.pW a b=true->a=b
 |[],b,h=>by cases b with|nil=>rfl|_=>cases h
 |a::as,b,h=>by
  cases b with
  |nil=>cases h
  |cons b bs=>
   have h:=abR.mp (show(D.same a b && D.pW as bs)=true from h);rw[D.same_eq h.1,D.yC h.2]
end
noncomputable instance:DecidableEq D:=λa b=>if h:D.same a b=true then isTrue (D.same_eq h) else isFalse λe=>h (e▸D.same_refl a)
noncomputable def bI(b:Bool):Int:=if b then 1 else 0
mutual
noncomputable def nf:D->D
 |.bl b=>.int (bI b)
 |.tup ds=>.tup (Rt ds)
 |d=>d
noncomputable def Rt:List D->List D
 |[]=>[]
 |d::ds=>nf d::Rt ds
end
noncomputable def kL:Nat->D->Bool
 |_,.bl _=>true
 |_,.int _=>true
 |_,.str _=>true
 |n+1,.tup ds=>ds.all (kL n)
 |_,_=>false
mutual
theorem G1:∀(d:D)(n:Nat),kL n d=true->kL n (nf d)=true
 |.bl _,n,_=>by cases n<;>rfl
 |.int _,n,_=>by cases n<;>rfl
 |.str _,n,_=>by cases n<;>rfl
 |.cI,n,h=>by cases n<;>exact h
 |.lst _,n,h=>by cases n<;>exact h
 |.tup ds,0,h=>by exact h
 |.tup ds,n+1,h=>DC ds n h
theorem DC:∀(ds:List D)(n:Nat),ds.all (kL n)=true->(Rt ds).all (kL n)=true
 |[],n,_=>rfl
 |d::ds,n,h=>by
  rw[ael,abS]at h;show((nf d::Rt ds).all (kL n))=true;rw[ael,G1 d n h.1,DC ds n h.2];rfl
end
mutual
inductive AB(h:Heap):Value->D->Prop
 |bool(b:Bool):AB h (.bool b) (.int (bI b))
 |int(i:Int)(t:Tok):AB h (.int i t) (.int i)
 |str(x:Str)(t:Tok):AB h (.str x t) (.str x)
 |tup{a:Addr}{its:AAL}{ds:List D}(p:h.IsTuple a its.toArray)(r:lO h its ds):AB h (.ref a) (.tup ds)
inductive lO(h:Heap):BBG->List D->Prop
 |nil:lO h [] []
 |cons{u:Value}{d:D}{us:AAL}{ds:List D}(r:AB h u d)(rs:lO h us ds):lO h (u::us) (d::ds)
end
mutual
noncomputable def KL(w:World):D->Int
 |.int i=>hashInt i
 |.str x=>hashStr w x
 |.tup ds=>reduceHash (Builtin.Tuple.tupleHashOf (sM w ds))
 |_=>0
noncomputable def sM(w:World):List D->BBD
 |[]=>[]
 |d::ds=>KL w d::sM w ds
end
mutual
noncomputable def B0:D->Nat
 |.tup ds=>yc ds+1
 |_=>1
noncomputable def yc:List D->Nat
 |[]=>0
 |d::ds=>B0 d+yc ds
end
theorem lO.length{h:Heap}:∀{us:AAL}{ds:List D},lO h us ds->us.length=ds.length
 |_,_,.nil=>rfl
 |_,_,.cons _ rs=>congrArg Nat.succ (lO.length rs)
mutual
theorem AB.inj{h:Heap}:∀{v:Value}{d e:D},AB h v d->AB h v e->d=e
 |_,_,_,.bool b,r=>by cases r;rfl
 |_,_,_,.int i t,r=>by cases r;rfl
 |_,_,_,.str x t,r=>by cases r;rfl
 |_,_,_,@AB.tup _ a its ds p r,q=>by
  cases q with
  |@tup _ its' ds' p' r'=>
   obtain⟨o,h1,_,n,h2⟩:=p;obtain⟨o',Ov,_,n',h2'⟩:=p';rw[h1]at Ov;cases Ov;rw[h2]at h2';injection h2' with e1 _
   have e:its=its':=by simpa using congrArg Array.toList e1
   subst e;rw[lO.inj r r']
theorem lO.inj{h:Heap}:∀{vs:AAL}{ds es:List D},lO h vs ds->lO h vs es->ds=es
 |_,_,_,.nil,r=>by cases r;rfl
 |_,_,_,.cons r1 s1,r=>by
  cases r with
  |cons r2 s2=>rw[AB.inj r1 r2,lO.inj s1 s2]
end
mutual
theorem AB.keeps{h h':Heap}{d:Addr}{o:Obj}{es:Array DictEntry}{ep:Nat}(ho:h.get? d=some o)(hd:o.data= .dict es ep)(hs:Heap.SameBut d h h'):∀{v:Value}{k:D},AB h v k->AB h' v k
 |_,_,.bool b=>.bool b
 |_,_,.int i t=>.int i t
 |_,_,.str x t=>.str x t
 |_,_,@AB.tup _ a its ds p r=>by
  obtain⟨o',h1,h2,n,h3⟩:=p;have hne:a≠d:=by
   intro z;subst z;rw[ho]at h1;cases h1;rw[hd]at h3;cases h3
  exact .tup ⟨o',(hs.2 a hne).trans h1,h2,n,h3⟩ (lO.keeps ho hd hs r)
theorem lO.keeps{h h':Heap}{d:Addr}{o:Obj}{es:Array DictEntry}{ep:Nat}(ho:h.get? d=some o)(hd:o.data= .dict es ep)(hs:Heap.SameBut d h h'):∀{v:AAL}{k:List D},lO h v k->lO h' v k
 |_,_,.nil=>.nil
 |_,_,.cons r1 s1=>.cons (AB.keeps ho hd hs r1) (lO.keeps ho hd hs s1)
end
section
variable {prog:Program}{w:World}{E:AAE}
def wW{A:Around}{s:Shared}{b:Bool}{Q:Int->Shared->Prop}(h:Q (hashInt (bI b)) {s with toks:=s.toks+1}):wpAny g_ A (pyHash (.bool b)) Q E s:=by
 refine W.pyHash_slot (T:="bool") rfl F.slot_bool_hash F.entry_int_hash (F.args_int_hash_1 _) (beq_builtin_none _) (.inl rfl) ?_;cases b
 .exact(show wpAny _ _ (do ret (<-mkInt 0)) _ _ s from aam (wpAny_mkInt (wpAny_pure ⟨_,_,rfl,h⟩)))
 .exact(show wpAny _ _ (do ret (<-mkInt 1)) _ _ s from aam (wpAny_mkInt (wpAny_pure ⟨_,_,rfl,h⟩)))
mutual
theorem DE:∀(d:D){n:Nat}{v:Value}{A:Around}{s:Shared}{Q:Int->Shared->Prop},AB s.heap v d->kL n d=true->A.units+n<cLine->Q (KL w d) {s with toks:=s.toks+B0 d}->wpAny g_ A (pyHash v) Q E s
 |.int i,n,v,A,s,Q,x,_,_,h=>by
  cases x with
  |int=>exact wpAny_pyHash_int h
  |bool b=>exact wW h
 |.str y,n,v,A,s,Q,x,_,_,h=>by cases x;exact wpAny_pyHash_str h
 |.cI,n,v,A,s,Q,x,_,_,h=>by cases x
 |.bl _,n,v,A,s,Q,x,_,_,h=>by cases x
 |.lst _,n,v,A,s,Q,x,_,_,h=>by cases x
 |.tup ds,n,v,A,s,Q,x,hk,hu,h=>by
  cases n with
  |zero=>cases hk
  |succ n=>
   cases x with
   |@tup a its _ p r=>
    obtain⟨o,hg,hc,m,hd⟩:=p;refine W.pyHash_slot (T:="tuple") ⟨_,hg,hc⟩ F.slot_tuple_hash F.entry_tuple_hash (F.args_tuple_hash_1 _) (beq_builtin_none _) (.inr a_) ?_;show wpAny _ _ (Builtin.Tuple.tupleItemsOf (.ref a) >>= _) _ _ s;refine aam (wpAny_tupleItemsOf hg hd ?_);refine aam ?_;rw[<-afM];refine A3 ds (n:=n) (A:=A.in1) (b:=#[]) r hk (by rw[agI];lia) λb hb=>?_;show wpAny _ _ (retInt (Builtin.Tuple.tupleHashOf b.toList)) _ _ _;rw[hb];refine aam (wpAny_mkInt (wpAny_pure ⟨_,_,rfl,?_⟩));have e:(#[]:Array Int).toList++sM w ds=sM w ds:=by simp
    rw[e];exact h
theorem A3:∀(ds:List D){n:Nat}{vs:AAL}{A:Around}{s:Shared}{b:Array Int}{Q:Array Int->Shared->Prop},lO s.heap vs ds->ds.all (kL n)=true->A.units+n<cLine->
  (∀b',b'.toList=b.toList++sM w ds->Q b' {s with toks:=s.toks+yc ds})->
  wpAny g_ A (forIn vs b λx r=>do let h <-pyHash x;pure PUnit.unit;pure (ForInStep.yield (r.push h))) Q E s
 |[],n,_,A,s,b,Q,x,_,_,h=>by cases x;exact wpAny_pure (h b (by simp[sM]))
 |d::ds,n,_,A,s,b,Q,x,hk,hu,h=>by
  cases x with
  |cons x1 x2=>
   rw[ael,abS]at hk;rw[List.forIn_cons];refine aam (aam (DE d (n:=n) x1 hk.1 hu ?_));refine aam (wpAny_pure (wpAny_pure ?_));refine A3 ds (n:=n) x2 hk.2 hu λb' hb=>?_;have q:=h b' (by simp[hb,sM]);show Q b' {s with toks:=s.toks+B0 d+yc ds};rw[Nat.add_assoc];exact q
end
end
def B3(n:Nat)(f:Nat->Bool):(List.range (n+1)).all f=(f 0 && (List.range n).all λj=>f (j+1)):=by
 rw[List.range_succ_eq_map,ael,agg];rfl
theorem DF:∀ds es:List D,((List.range (min ds.length es.length)).all (λj=>decide (ds[j]? =es[j]?)) && ds.length == es.length)=decide (ds=es)
 |[],[]=>by simp
 |[],e::es=>by simp
 |d::ds,[]=>by simp
 |d::ds,e::es=>by
  have ih:=DF ds es;have e1:min (d::ds).length (e::es).length=min ds.length es.length+1:=by simp only[abD];lia
  rw[e1,B3];have e2:(λj=>decide ((d::ds)[j+1]? =(e::es)[j+1]?))=λj=>decide (ds[j]? =es[j]?):=by funext j;simp
  have e3:((d::ds).length == (e::es).length)=(ds.length == es.length):=by simp
  have e4:decide ((d::ds)[0]? =(e::es)[0]?)=decide (d=e):=by simp
  have e5:decide (d::ds=e::es)=(decide (d=e) && decide (ds=es)):=by
   by_cases a:d=e
   .subst a;by_cases b:ds=es<;>simp[b]
   .simp[a]
  rw[e2,e3,e4,Bool.and_assoc,ih,e5]
def KN{α:Type}(l:List α)(j:Nat)(h:j<l.toArray.size):l[j]? =some l.toArray[j]:=by
 have z:j<l.length:=by simpa using h
 simp[z]
mutual
theorem eqK:∀(d:D){e:D}{n:Nat}{A:Around}{s:Shared}{u v:Value},AB s.heap u d->AB s.heap v e->kL n d=true->A.units+n<cLine->SeqAt.EqAt A s u v (decide (d=e))
  |.int i,e,n,A,s,u,v,r1,r2,_,hu=>by
    have di:∀i j:Int,decide (D.int i=D.int j)=(i == j):=λi j=>by by_cases z:i=j<;>simp[z]
    cases r1 with
    |int _ t=>
      cases r2 with
      |int j t'=>rw[di];exact SeqAt.EqAt.int_int i t j t'
      |bool b=>rw[di];exact SeqAt.EqAt.int_bool i t b
      |str x t'=>exact SeqAt.EqAt.int_str i t x t'
      |tup p r=>exact SeqAt.EqAt.int_tuple i t p a_
    |bool a=>
      cases r2 with
      |int j t'=>rw[di];exact SeqAt.EqAt.bool_int a j t'
      |bool b=>
        have:(bI a == bI b)=(a == b):=by cases a<;>cases b<;>rfl
        rw[di,this];exact SeqAt.EqAt.bool_bool a b
      |str x t'=>exact SeqAt.EqAt.bool_str a x t'
      |tup p r=>exact SeqAt.EqAt.bool_tuple a p a_
  |.str i,e,n,A,s,u,v,r1,r2,_,hu=>by
    cases r1 with
    |str _ t=>
    cases r2 with
    |int j t'=>exact SeqAt.EqAt.str_int i t j t'
    |bool b=>exact SeqAt.EqAt.str_bool i t b
    | str x t' => have : decide (D.str i = D.str x) = (i == x) := by by_cases z : i = x <;> simp [z]
                  rw[this];exact SeqAt.EqAt.str_str i t x t'
    |tup p r=>exact SeqAt.EqAt.str_tuple i t p a_
  |.cI,e,n,A,s,u,v,r1,r2,hk,hu=>by cases r1
  |.bl _,e,n,A,s,u,v,r1,r2,hk,hu=>by cases r1
  |.lst _,e,n,A,s,u,v,r1,r2,hk,hu=>by cases r1
  |.tup ds,e,n,A,s,u,v,r1,r2,hk,hu=>by
    cases n with
    |zero=>cases hk
    |succ n=>
    cases r1 with
    |@tup ca pX _ pa ra=>
    cases r2 with
    |int j t'=>exact SeqAt.EqAt.tuple_int j t' pa a_
    |bool b=>exact SeqAt.EqAt.tuple_bool b pa a_
    |str x t'=>exact SeqAt.EqAt.tuple_str x t' pa a_
    |@tup cb mW es pb rb=>
      have items:∀j(h1:j<pX.toArray.size)(h2:j<mW.toArray.size),SeqAt.EqAt A.in1 s pX.toArray[j] mW.toArray[j] (decide (ds[j]? =es[j]?)):=λj h1 h2=>
        Xu ds (n:=n) (A:=A.in1) ra rb hk (by rw[agI];lia) (KN pX j h1) (KN mW j h2)
      by_cases hc:ca=cb
      . subst hc
        have z:=AB.inj (.tup pa ra) (.tup pb rb);rw[z,abJ rfl];exact SeqAt.EqAt.same _
      . have q:=SeqAt.RcAt.tuples (e:=λj=>decide (ds[j]? =es[j]?)) pa pb a_ items
        rw[aaQ,aaQ,ra.length,rb.length,DF]at q;have z:decide (D.tup ds=D.tup es)=decide (ds=es):=by by_cases a:ds=es<;>simp[a]
        rw[z];exact SeqAt.EqAt.of_refs hc q
theorem Xu:∀(ds:List D){es:List D}{n:Nat}{A:Around}{s:Shared}{us vs:AAL}{j:Nat}{u v:Value},lO s.heap us ds->lO s.heap vs es->ds.all (kL n)=true->A.units+n<cLine->us[j]? =some u->vs[j]? =some v->
  SeqAt.EqAt A s u v (decide (ds[j]? =es[j]?))
 |[],es,n,A,s,us,vs,j,u,v,r1,r2,hk,hu,h1,h2=>by cases r1;simp at h1
 |d::ds,es,n,A,s,us,vs,j,u,v,r1,r2,hk,hu,h1,h2=>by
  rw[ael,abS]at hk;cases r1 with
  |cons a as=>
  cases r2 with
  |nil=>simp at h2
  |@cons v' e' vs' es' b bs=>
   cases j with
   |zero=>
    simp only[List.getElem?_cons_zero,Option.some.injEq]at h1 h2;subst h1;subst h2;have z:decide ((d::ds)[0]? =(e'::es')[0]?)=decide (d=e'):=by simp
    rw[z];exact eqK d a b hk.1 hu
   |succ j=>
    have z:decide ((d::ds)[j+1]? =(e'::es')[j+1]?)=decide (ds[j]? =es'[j]?):=by simp
    rw[z];exact Xu ds as bs hk.2 hu (by simpa using h1) (by simpa using h2)
end
section
variable {prog:Program}{w:World}{A:Around}{E:AAE}{s:Shared}
mutual
theorem KO:∀(d:D){n:Nat}{v:Value}{Q:Bool->Shared->Prop},AB s.heap v d->kL n d=true->Q true s->wpAny g_ A (eqIsQuiet n v) Q E s
 |.int i,n,v,Q,x,_,h=>by cases x<;>(rw[eqIsQuiet_byValue n rfl];exact wpAny_pure h)
 |.str y,n,v,Q,x,_,h=>by cases x;rw[eqIsQuiet_byValue n rfl];exact wpAny_pure h
 |.cI,n,v,Q,x,_,h=>by cases x
 |.bl _,n,v,Q,x,_,h=>by cases x
 |.lst _,n,v,Q,x,_,h=>by cases x
 |.tup ds,n,v,Q,x,hk,h=>by
  cases n with
  |zero=>cases hk
  |succ n=>
   cases x with
   |@tup a its _ p r=>
    obtain⟨o,hg,hc,m,hd⟩:=p;have hT:s.TypeIs (.ref a) "tuple":=⟨o,hg,hc⟩
    unfold eqIsQuiet;refine aam (wpAny_specialOf hT F.slot_tuple_eq.lookup ?_);show wpAny _ _ (isInstance (.ref a) (.type "tuple") >>= _) _ _ s;refine aam (agd hT isSubtype_tuple_tuple ?_);simp only[Bool.not_true,aeO,aeW];refine aam (wpAny_seqItems hg hd ?_);refine aam ?_;show wpAny _ _ (forIn its.toArray _ _) _ _ s;rw[<-afM];exact A4 ds r hk (wpAny_pure h)
theorem A4:∀(ds:List D){n:Nat}{vs:AAL}{Q:Option Bool×Unit->Shared->Prop},lO s.heap vs ds->ds.all (kL n)=true->Q (none,()) s->
  wpAny g_ A (forIn vs ((none,()):Option Bool×Unit) λy __s=>do
   let __do_lift <-eqIsQuiet n y
   if(!__do_lift)=true then pure (ForInStep.done (some false,())) else pure (ForInStep.yield (none,()))) Q E s
 |[],n,_,Q,x,_,h=>by cases x;exact wpAny_pure h
 |d::ds,n,_,Q,x,hk,h=>by
  cases x with
  |cons x1 x2=>
   rw[ael,abS]at hk;rw[List.forIn_cons];refine aam (aam (KO d x1 hk.1 ?_));simp only[Bool.not_true,aeO,aeW];refine wpAny_pure ?_;exact A4 ds x2 hk.2 h
end
end
def kM(prog:Program)(w:World):HeapKind prog w D where
 is:=λh k a=>AB h (.ref a) k/\kL 8 k=true
 hash:=KL w
 draws:=B0
 room:=λA=>A.units+8<cLine
 inj:=λhx hy=>hx.1.inj hy.1
 keeps:=λx ho hd hs=>⟨x.1.keeps ho hd hs,x.2⟩
 pyHash:=λhu hk h=>DE _ hk.1 hk.2 hu h
 eqBool:=λhu hx hy h=>eqK _ hx.1 hy.1 hx.2 hu _ _ _ _ h
 quiet:=λhk h=>KO _ hk.1 hk.2 h
def jk{prog:Program}{w:World}{A:Around}(hu:A.units+20<cLine):(kM prog w).room A.in1:=by
 show A.in1.units+8<cLine;rw[agI];lia
end L2
end
namespace L2
variable {H H':Hp}{a C:Addr}{o:Obj}{u:Value}{P prog:Program}{w:World}{ts:List (Addr×Addr)}{g':Array GenState}{t' i k:Nat}{ch fp:BBE}{N ps:BBB}{x qual:Str}{M:Model}{A:Around}{E Q:AAE}{X:Cx}{pos:Pos}{pins:AAG}{O:St}{op:CmpOp}{c tg:Expr}{K:AAD}{es:BBC}{body:BBH}{r:R2}{g:Int->Int->Int}{us:AAL}{y:V}{mA mg:AAF}{pl:Sem Bool}{kw:List (Str×Value)}{base:Heap}{outer:BBF}{vs:List V}{scope:Scope}{kvs:List (D×V)}{xs:List (D×Addr×Value)}{OQ:List (TE×TE)}
abbrev Key:=Sum Int Str
def yD:Key->Value->Bool
 |.inl k,.bool b=>decide (k=bI b)
 |.inl k,v=>Value.isInt k v
 |.inr x,v=>Value.isStrOf x v
noncomputable def ab8(w:World):Key->Int
 |.inl k=>hashInt k
 |.inr x=>hashStr w x
theorem cT:∀{k:Key}{v:Value},yD k v=true->(∃i t,k=Sum.inl i/\v=Value.int i t)\/(∃b,k=Sum.inl (bI b)/\v=Value.bool b)\/(∃x t,k=Sum.inr x/\v=Value.str x t)
 |.inl i,v,h=>by
  cases v with
  |bool b=>exact .inr (.inl ⟨b,by rw[abX (show decide (i=bI b)=true from h)],rfl⟩)
  |int j t=>obtain⟨t,e⟩:=agB (k:=i) (v:=Value.int j t) h;exact .inl ⟨i,t,rfl,e⟩
  |_=>exact absurd h (by simp[yD,Value.isInt])
 |.inr x,v,h=>by
  obtain⟨t,e⟩:=Value.isStrOf_shape (x:=x) (v:=v) h;exact .inr (.inr ⟨x,t,rfl,e⟩)
def IT(i:Int)(t:Tok):yD (.inl i) (.int i t)=true:=by simp[yD,Value.isInt]
def IU(x:Str)(t:Tok):yD (.inr x) (.str x t)=true:=by simp[yD,Value.isStrOf]
def B4(a b:Int):decide ((Sum.inl a:Key)=Sum.inl b)=(a == b):=by
 by_cases e:a=b
 .subst e;simp
 .have h:¬(Sum.inl a:Key)=Sum.inl b:=λq=>e (Sum.inl.inj q);rw[abP h];exact(ad0.mpr e).symm
def S5(a b:Str):decide ((Sum.inr a:Key)=Sum.inr b)=decide (a=b):=by
 by_cases e:a=b
 .subst e;simp
 .have h:¬(Sum.inr a:Key)=Sum.inr b:=λq=>e (Sum.inr.inj q);rw[abP h,abP e]
def KP(a:Int)(b:Str):decide ((Sum.inl a:Key)=Sum.inr b)=false:=abP (λq=>nomatch q)
def KQ(a:Str)(b:Int):decide ((Sum.inr a:Key)=Sum.inl b)=false:=abP (λq=>nomatch q)
def gX(prog:Program)(w:World):PySem.KeyKind prog w Key where
 is:=yD
 hash:=ab8 w
 inj:=λv a b ha hb=>by
  rcases cT ha with⟨i,t,rfl,rfl⟩|⟨c,rfl,rfl⟩|⟨x,t,rfl,rfl⟩
  .rcases cT hb with⟨j,u,rfl,e⟩|⟨c',rfl,e⟩|⟨y,u,rfl,e⟩
   .injection e with e1 _;rw[e1]
   .exact nomatch e
   .exact nomatch e
  .rcases cT hb with⟨j,u,rfl,e⟩|⟨c',rfl,e⟩|⟨y,u,rfl,e⟩
   .exact nomatch e
   .injection e with e1;rw[e1]
   .exact nomatch e
  .rcases cT hb with⟨j,u,rfl,e⟩|⟨c',rfl,e⟩|⟨y,u,rfl,e⟩
   .exact nomatch e
   .exact nomatch e
   .injection e with e1 _;rw[e1]
 byValue:=λk v h=>by
  rcases cT h with⟨i,t,rfl,rfl⟩|⟨c,rfl,rfl⟩|⟨x,t,rfl,rfl⟩<;>rfl
 pyHash:=λhv h=>by
  rcases cT hv with⟨i,t,rfl,rfl⟩|⟨c,rfl,rfl⟩|⟨x,t,rfl,rfl⟩
  .exact wpAny_pyHash_int h
  .exact wW h
  .exact wpAny_pyHash_str h
 eqBool:=λhu hv h=>by
  rcases cT hu with⟨i,t,rfl,rfl⟩|⟨c,rfl,rfl⟩|⟨x,t,rfl,rfl⟩
  .rcases cT hv with⟨j,u,rfl,rfl⟩|⟨c',rfl,rfl⟩|⟨y,u,rfl,rfl⟩
   .rw[B4]at h;exact wpAny_eqBool_int h
   .rw[B4]at h;exact SeqAt.EqAt.int_bool i t c' _ _ _ _ h
   .rw[KP]at h;exact SeqAt.EqAt.int_str i t y u _ _ _ _ h
  .rcases cT hv with⟨j,u,rfl,rfl⟩|⟨c',rfl,rfl⟩|⟨y,u,rfl,rfl⟩
   .rw[B4]at h;exact SeqAt.EqAt.bool_int c j u _ _ _ _ h
   .have e:(bI c == bI c')=(c == c'):=by cases c<;>cases c'<;>rfl
    rw[B4,e]at h;exact SeqAt.EqAt.bool_bool c c' _ _ _ _ h
   .rw[KP]at h;exact SeqAt.EqAt.bool_str c y u _ _ _ _ h
  .rcases cT hv with⟨j,u,rfl,rfl⟩|⟨c',rfl,rfl⟩|⟨y,u,rfl,rfl⟩
   .rw[KQ]at h;exact SeqAt.EqAt.str_int x t j u _ _ _ _ h
   .rw[KQ]at h;exact SeqAt.EqAt.str_bool x t c' _ _ _ _ h
   .rw[S5]at h;exact wpAny_eqBool_str h
 «strs»:=λk x t v h=>by
  rcases cT h with⟨i,u,rfl,e⟩|⟨c,rfl,e⟩|⟨y,u,rfl,e⟩
  .exact nomatch e
  .exact nomatch e
  .injection e with e1 _
   subst e1;cases v<;>rfl
def DG(prog:Program)(w:World)(i:Int)(t:Tok):(gX prog w).is (.inl i) (.int i t)=true:=IT i t
def DH(prog:Program)(w:World)(x:Str)(t:Tok):(gX prog w).is (.inr x) (.str x t)=true:=IU x t
inductive V where
 |cI|bl (b:Bool)|int (i:Int)|str (x:Str)|ref (a:Addr)|ty (n:String)
 deriving DecidableEq
def RelV:V->Value->Prop
 |.cI,u=>u=Value.none
 |.bl b,u=>u=Value.bool b
 |.int i,u=>∃t,u=Value.int i t
 |.str x,u=>∃t,u=Value.str x t
 |.ref a,u=>u=Value.ref a
 |.ty n,u=>u=Value.type n
abbrev Vals:List V->BBG->Prop:=Paired RelV
def Vals.length{xs:List V}{us:AAL}(r:Vals xs us):xs.length=us.length:=Paired.length r
theorem Vals.get:∀{xs:List V}{us:AAL}{i:Nat}{x:V},Vals xs us->xs[i]? =some x->∃u,us[i]? =some u/\RelV x u
 |_,_,_,_,.nil,e=>by simp at e
 |_,_,0,_,.cons r _,e=>by simp at e;subst e;exact⟨_,rfl,r⟩
 |_,_,i+1,x,.cons _ t,e=>by
  obtain⟨u,h1,h2⟩:=Vals.get (i:=i) (x:=x) t (by simpa using e);exact⟨u,by simpa using h1,h2⟩
theorem Vals.set{x:V}{u:Value}(r:RelV x u):∀{xs:List V}{us:AAL}(i:Nat),Vals xs us->Vals (xs.set i x) (us.set i u)
 |_,_,_,.nil=>.nil
 |_,_,0,.cons _ t=>.cons r t
 |_,_,i+1,.cons q t=>.cons q (Vals.set r i t)
theorem Vals.append:∀{xs ys:List V}{us ws:AAL},Vals xs us->Vals ys ws->Vals (xs++ys) (us++ws)
 |_,_,_,_,.nil,s=>s
 |_,_,_,_,.cons r t,s=>.cons r (Vals.append t s)
theorem Vals.take:∀{xs:List V}{us:AAL}(n:Nat),Vals xs us->Vals (xs.take n) (us.take n)
 |_,_,0,_=>.nil
 |_,_,_+1,.nil=>.nil
 |_,_,n+1,.cons r t=>.cons r (Vals.take n t)
theorem Vals.drop:∀{xs:List V}{us:AAL}(n:Nat),Vals xs us->Vals (xs.drop n) (us.drop n)
 |_,_,0,r=>r
 |_,_,_+1,.nil=>.nil
 |_,_,n+1,.cons _ t=>Vals.drop n t
def pY:Option V->BBP->Prop
 |some v,some u=>RelV v u
 |none,none=>True
 |_,_=>False
def KV{κ:Type}:List (κ×V)->List (κ×Value)->Prop:=Paired λ(p:κ×V)(q:κ×Value)=>p.1=q.1/\RelV p.2 q.2
noncomputable def kV:Key->V
 |.inl i=>.int i
 |.inr x=>.str x
inductive HO where
 |lst(xs:List V)
 |tup(xs:List V)
 |dK(kvs:List (Key×V))|dT (kvs:List (D×V))
 |ins(C dx:Addr)(fs:List (Str×V))
 |own(x:Addr)
 |fy(o:Obj)(u:HO)
 |Fq(q:Str)
abbrev Hp:=Addr->Option HO
mutual
inductive Rep(H:Hp):V->D->Prop
 |cI:Rep H .cI .cI
 |bl(b:Bool):Rep H (.bl b) (.bl b)
 |int(i:Int):Rep H (.int i) (.int i)
 |str(z:Str):Rep H (.str z) (.str z)
 |tup{a:Addr}{vs:List V}{ds:List D}(e:H a=some (.tup vs))(r:bC H vs ds):Rep H (.ref a) (.tup ds)
 |lst{a:Addr}{vs:List V}{ds:List D}(e:H a=some (.lst vs)\/∃o,H a=some (.fy o (.lst vs)))(r:bC H vs ds):Rep H (.ref a) (.lst ds)
inductive bC(H:Hp):List V->List D->Prop
 |nil:bC H [] []
 |cons{v:V}{d:D}{vs:List V}{ds:List D}(r:Rep H v d)(rs:bC H vs ds):bC H (v::vs) (d::ds)
end
mutual
theorem Rep.tups{H H':Hp}(ht:∀b xs,H b=some (.tup xs)->H' b=some (.tup xs)):∀(d:D){n:Nat}{v:V},Rep H v d->kL n d=true->Rep H' v d
 |.cI,n,_,_,k=>by cases n<;>cases k
 |.bl b,n,_,r,k=>by cases r;exact .bl b
 |.lst _,n,_,_,k=>by cases n<;>cases k
 |.int i,n,_,r,k=>by cases r;exact .int i
 |.str i,n,_,r,k=>by cases r;exact .str i
 |.tup ds,n,_,r,k=>by
  cases n with
  |zero=>cases k
  |succ n=>
   cases r with
   |@tup a vs _ e rs=>exact .tup (ht _ _ e) (bC.tups ht ds rs k)
theorem bC.tups{H H':Hp}(ht:∀b xs,H b=some (.tup xs)->H' b=some (.tup xs)):∀(ds:List D){n:Nat}{vs:List V},bC H vs ds->ds.all (kL n)=true->bC H' vs ds
 |[],n,_,r,k=>by cases r;exact .nil
 |d::ds,n,_,r,k=>by
  rw[ael,abS]at k;cases r with
  |cons r1 r2=>exact .cons (Rep.tups ht d r1 k.1) (bC.tups ht ds r2 k.2)
end
def Kd(H:Hp)(b:Addr)(k:D):Prop:=∃d,Rep H (.ref b) d/\kL 8 d=true/\nf d=k
def Kd.tups{H H':Hp}{b:Addr}{k:D}(x:Kd H b k)(ht:∀b xs,H b=some (.tup xs)->H' b=some (.tup xs)):Kd H' b k:=by
 obtain⟨d,r,hk,e⟩:=x;exact⟨d,Rep.tups ht d r hk,hk,e⟩
noncomputable def upd(H:Hp)(a:Addr)(o:HO):Hp:=λb=>if b=a then some o else H b
def aR{o:HO}:upd H a o a=some o:=by unfold upd;rw[if_pos rfl]
def aO{b:Addr}{o:HO}(h:b≠a):upd H a o b=H b:=by unfold upd;rw[if_neg h]
def Xv{b:Addr}{o u:HO}(h:H a=some o)(h':H b=some u)(d:o≠u):a≠b:=by
 intro e;subst e;rw[h]at h';exact d (abT h')
def bx{b:Addr}{o:HO}(h:H a=some o)(h':H b=none):a≠b:=by
 intro e;subst e;rw[h]at h';cases h'
section
variable (P:Program)(w:World)
def eu(H:Hp)(h:Heap)(a:Addr):HO->Prop
 |.lst xs=>xs.length<=sizeLine/\∃(its:AAL)(n:Nat),Vals xs its/\h.get? a=some {cls:=.type "list",data:=.seq its.toArray n}
 |.tup xs=>xs.length<=sizeLine/\∃its:BBG,Vals xs its/\IsTup h a its.toArray
 |.dK kvs=>kvs.length<=sizeLine/\(a == sysModules)=false/\∃vs,KV kvs vs/\h.DictOf (gX P w) a vs
 |.dT kvs=>kvs.length<=sizeLine/\(a == sysModules)=false/\∃xs:List (D×Addr×Value),
   Paired (λ(p:D×V)(q:D×Addr×Value)=>p.1=q.1/\Kd H q.2.1 p.1/\RelV p.2 q.2.2) kvs xs/\
   ∃o es ep,h.get? a=some o/\o.ExactDict/\o.data= .dict es ep/\es.toList=xs.map (entryOfKey (kM P w))/\(xs.map (·.1)).Nodup
 |.ins C dx fs=>H dx=some (.own a)/\fs.length<=1000/\dx≠a/\h.get? a=some (W.instObj C dx)/\
   ∃mA,h.Ns1 dx mA/\(∀f,pY (fs.lookup f) (mA f))/\PySem.Within mA (fs.map (·.1))
 |.own _=>∃o,h.get? a=some o
 |.fy o u=>h.get? a=some o/\eu H h a u
 |.Fq q=>∃ps:Array Value,h.get? a=some {cls:=.none,data:=.fields ps}/\TriplesOk ps.toList/\∀pos cv,codeAmong pos ps.toList=some cv->∃c oc vs t,cv= .ref c/\H c=some (.fy oc (.own a))/\oc.data= .fields vs/\vs[1]? =some (.str q t)
def pO(H:Hp)(h:Heap):Prop:=∀a o,H a=some o->eu P w H h a o
end
section
variable {P:Program}{w:World}{H H':Hp}{h h':Heap}{a:Addr}{o:HO}
def eu.lt(x:eu P w H h a o):a<h.objs.size:=by
 cases o with
 |lst xs=>obtain⟨_,_,_,_,e⟩:=x;exact aaX e
 |tup xs=>obtain⟨_,_,_,p⟩:=x;exact p.lt
 |dK kvs=>obtain⟨_,_,_,_,o,_,_,e,_⟩:=x;exact aaX e
 |dT kvs=>obtain⟨_,_,_,_,o,_,_,e,_⟩:=x;exact aaX e
 |ins C dx fs=>obtain⟨_,_,_,e,_⟩:=x;exact aaX e
 |own y=>obtain⟨_,e⟩:=x;exact aaX e
 |fy ob u=>obtain⟨e,_⟩:=x;exact aaX e
 |Fq q=>obtain⟨_,e,_⟩:=x;exact aaX e
theorem Paired.DI{α β:Type}{F G:α->β->Prop}:∀{l₁:List α}{l₂:List β},Paired F l₁ l₂->(∀a b,F a b->G a b)->Paired G l₁ l₂
 |_,_,.nil,_=>.nil
 |_,_,.cons r t,f=>.cons (f _ _ r) (Paired.DI t f)
def eu.stay(x:eu P w H h a o)(k:∀b u,(b=a\/H b=some (.own a))->h.get? b=some u->h'.get? b=some u)
  (ho:∀b,H b=some (.own a)->H' b=some (.own a))(ht:∀b xs,H b=some (.tup xs)->H' b=some (.tup xs))(hz:∀b o u,H b=some (.fy o u)->H' b=some (.fy o u)):eu P w H' h' a o:=by
 induction o with
 |lst xs=>obtain⟨z,its,n,r,e⟩:=x;exact⟨z,its,n,r,k _ _ (.inl rfl) e⟩
 |tup xs=>obtain⟨z,its,r,ob,e,c⟩:=x;exact⟨z,its,r,ob,k _ _ (.inl rfl) e,c⟩
 |dK kvs=>obtain⟨z,y,vs,r,ob,es,ep,e,c⟩:=x;exact⟨z,y,vs,r,ob,es,ep,k _ _ (.inl rfl) e,c⟩
 |dT kvs=>
  obtain⟨z,y,xs,r,ob,es,ep,e,c⟩:=x;exact⟨z,y,xs,Paired.DI r λp q z=>⟨z.1,z.2.1.tups ht,z.2.2⟩,ob,es,ep,k _ _ (.inl rfl) e,c⟩
 |ins C dx fs=>
  obtain⟨d,z,ne,e,mA,⟨od,es,ep,e2,c⟩,r⟩:=x;exact⟨ho _ d,z,ne,k _ _ (.inl rfl) e,mA,⟨od,es,ep,k _ _ (.inr d) e2,c⟩,r⟩
 |own y=>obtain⟨ob,e⟩:=x;exact⟨ob,k _ _ (.inl rfl) e⟩
 |fy ob u ih=>obtain⟨e,q⟩:=x;exact⟨k _ _ (.inl rfl) e,ih q⟩
 |Fq q=>obtain⟨ps,e,t,z⟩:=x;exact⟨ps,k _ _ (.inl rfl) e,t,λpos cv y=>let⟨c,oc,vs,t,h1,h2,h3⟩:=z pos cv y;⟨c,oc,vs,t,h1,hz _ _ _ h2,h3⟩⟩
def pO.lt(x:pO P w H h)(e:H a=some o):a<h.objs.size:=(x a o e).lt
def pO.fresh(x:pO P w H h)(e:h.objs.size<=a):H a=none:=by
 cases q:H a with
 |none=>rfl
 |some u=>exact absurd (aaU (x.lt q) e) (adX _)
def pO.kept(x:pO P w H h)(k:∀b u,h.get? b=some u->h'.get? b=some u):pO P w H h':=λa o e=>
 (x a o e).stay (λb u _ q=>k b u q) (λ_ q=>q) (λ_ _ q=>q) λ_ _ _ q=>q
def pO.laid(x:pO P w H h)(k:∀b u,h.get? b=some u->h'.get? b=some u)(hp:h.objs.size<=a)(new:eu P w (upd H a o) h' a o):pO P w (upd H a o) h':=λb u e=>by
 have hn:=x.fresh hp;by_cases hb:b=a
 .subst hb;rw[aR]at e;cases e;exact new
 .rw[aO hb]at e;exact(x b u e).stay (λc v _ q=>k c v q) (λc q=>by rw[aO (bx q hn)];exact q) (λc xs q=>by rw[aO (bx q hn)];exact q) λc xs y q=>by rw[aO (bx q hn)];exact q
end
def Rd(H:Hp)(a:Addr)(u:HO):Prop:=H a=some u\/∃o,H a=some (.fy o u)
def Rd.of{u:HO}(h:H a=some u):Rd H a u:=.inl h
def Rd.ok{h:Heap}{u:HO}(r:Rd H a u)(x:pO P w H h):eu P w H h a u:=by
 rcases r with r|⟨o,r⟩
 .exact x a u r
 .obtain⟨_,q⟩:=x a _ r;exact q
def Xw:Option HO->Prop
 |some (.lst _)=>True
 |some (.dK _)=>True
 |some (.dT _)=>True
 |some (.ins _ _ _)=>True
 |_=>False
section
variable {P:Program}{w:World}{H:Hp}{h h':Heap}{x e:Addr}{o':HO}
def pO.write(ok:pO P w H h)(mu:Xw (H x))(he:e=x\/H e=some (.own x))(k:∀b u,b≠e->h.get? b=some u->h'.get? b=some u)(WH:∃u,h'.get? e=some u)
  (new:eu P w (upd H x o') h' x o'):pO P w (upd H x o') h':=λb u q=>by
 have Xx:∀c y,H c=some (.own y)->c≠x:=λc y r z=>by subst z;rw[r]at mu;exact mu
 have ab9:∀c xs,H c=some (.tup xs)->c≠x:=λc xs r z=>by subst z;rw[r]at mu;exact mu
 by_cases hb:b=x
 .subst hb;rw[aR]at q;cases q;exact new
 .rw[aO hb]at q;by_cases Ru:b=e
  .have q':H b=some (.own x):=by
    rcases he with z|z
    .exact absurd (Ru.trans z) hb
    .rw[Ru];exact z
   rw[q]at q';cases q';obtain⟨v,hv⟩:=WH;exact⟨v,by rw[Ru];exact hv⟩
  .refine(ok b u q).stay (λc v hc r=>k c v ?_ r) (λc r=>by rw[aO (Xx c b r)];exact r) (λc xs r=>by rw[aO (ab9 c xs r)];exact r) λc xs y r=>by rw[aO (λz=>by subst z;rw[r]at mu;exact mu)];exact r
   rcases hc with rfl|hc
   .exact Ru
   .rintro rfl;rcases he with z|z
    .exact Xx c b hc z
    .rw[hc]at z;cases z;exact hb rfl
end
structure Un(fs ex:BBE)(H H':Hp)(h h':Heap):Prop where
 keep:∀b o,h.get? b=some o->H b=none->b∉fs->b∉ex->h'.get? b=some o
 slot:∀b o,h.get? b=some o->H b=none->b∈fs->b∉ex->∃sl,h'.get? b=some {o with slots:=sl}
 free:∀b o,h.get? b=some o->H b=none->b∉ex->H' b=none
 there:∀b o,h.get? b=some o->b∉ex->∃o',h'.get? b=some o'
 tups:∀b xs,H b=some (.tup xs)->H' b=some (.tup xs)
 vF:∀b o u,H b=some (.fy o u)->H' b=some (.fy o u)
 xH:∀b q,H b=some (.Fq q)->H' b=some (.Fq q)
section
variable {fs ex:BBE}{H H1:Hp}{h h1 h':Heap}{a x e:Addr}{o:HO}
def Un.any(u:Un fs ex H H1 h h1){b:Addr}{ob:Obj}(q:h.get? b=some ob)(n:H b=none)(hx:b∉ex):∃sl,h1.get? b=some {ob with slots:=sl}:=by
 by_cases hb:b∈fs
 .exact u.slot b ob q n hb hx
 .exact⟨ob.slots,u.keep b ob q n hb hx⟩
def Un.kept(k:∀b u,h.get? b=some u->h'.get? b=some u):Un fs ex H H h h':=
 ⟨λb ob q _ _ _=>k b ob q,λb ob q _ _ _=>⟨ob.slots,k b ob q⟩,λ_ _ _ n _=>n,λb ob q _=>⟨ob,k b ob q⟩,λ_ _ q=>q,λ_ _ _ q=>q,λ_ _ q=>q⟩
def Un.refl:Un fs ex H H h h:=Un.kept λ_ _ q=>q
def Un.laid(k:∀b u,h.get? b=some u->h'.get? b=some u)(hp:h.objs.size<=a)(hn:H a=none):Un fs ex H (upd H a o) h h' where
 keep:=λb u q _ _ _=>k b u q
 slot:=λb u q _ _ _=>⟨u.slots,k b u q⟩
 free:=λb u q n _=>by rw[aO (aa1 (aaU (aaX q) hp))];exact n
 there:=λb u q _=>⟨u,k b u q⟩
 tups:=λb xs q=>by rw[aO (bx q hn)];exact q
 vF:=λb u xs q=>by rw[aO (bx q hn)];exact q
 xH:=λb xs q=>by rw[aO (bx q hn)];exact q
def Un.write(mu:Xw (H x))(he:e=x\/H e=some (.own x))(k:∀b u,b≠e->h.get? b=some u->h'.get? b=some u)(WH:∃u,h'.get? e=some u):Un fs ex H (upd H x o) h h':=by
 have hx:∀b,H b=none->b≠x:=λb n z=>by subst z;rw[n]at mu;exact mu
 have hb:∀b,H b=none->b≠e:=λb n z=>by
  subst z;rcases he with r|r
  .exact hx b n r
  .rw[n]at r;cases r
 have hm:∀b u,H b=some u->¬Xw (some u)->b≠x:=λb u q nm z=>by subst z;rw[q]at mu;exact nm mu
 refine⟨λb u q n _ _=>k b u (hb b n) q,λb u q n _ _=>⟨u.slots,k b u (hb b n) q⟩,λb u q n _=>by rw[aO (hx b n)];exact n,λb u q _=>?_,
  λb xs q=>by rw[aO (hm b _ q λz=>z)];exact q,λb u xs q=>by rw[aO (hm b _ q λz=>z)];exact q,λb xs q=>by rw[aO (hm b _ q λz=>z)];exact q⟩
 by_cases Ru:b=e
 .subst Ru;exact WH
 .exact⟨u,k b u Ru q⟩
end
noncomputable def trk(h:Heap)(H:Hp):BBE:=(List.range h.objs.size).filter λa=>(H a).isSome
def AG(h:Heap)(H:Hp)(ts:List (Addr×Addr):=[]):Heap:=⟨(W.hideAll h (trk h H)).objs,{ids:=ts}⟩
def IV(h:Heap)(H:Hp):(AG h H ts).objs.size=h.objs.size:=W.hideAll_size _ _
def KR{h:Heap}{b:Addr}(e:h.get? b=some o)(n:H b=none):(AG h H ts).get? b=some o:=
 W.hideAll_get (h:=h) _ e λhm=>by
  have q:(H b).isSome=true:=(afb.mp hm).2;rw[n]at q;simp at q
def Ow{h:Heap}{b:Addr}(e:(AG h H ts).get? b=some o):h.get? b=some o/\H b=none:=by
 have e':h.get? b=some o:=W.of_hideAll (trk h H) e;refine⟨e',?_⟩;cases q:H b with
 |none=>rfl
 |some x=>
  have hm:b∈trk h H:=afb.mpr ⟨abY.mpr (aaX e'),by simp[q]⟩;have z:(AG h H ts).get? b=none:=W.hideAll_none (trk h H) hm;rw[z]at e;cases e
noncomputable def Ox(g h:Heap)(L:Addr):List (Addr×Obj):=(List.range h.objs.size).filterMap λa=>if a=L\/(g.get? a).isSome=true then none else(h.get? a).map λo=>(a,o)
def rest(g h:Heap)(L d:Addr):List (Addr×Obj):=(Ox g h L).filter λp=>decide (p.1≠d)
def BMn(h:Heap)(mg:AAF):Prop:=∃bm o,mg "__builtins__" =some (.ref bm)/\bm≠builtinsNs/\h.get? bm=some o/\o.cls= .type "module"/\o.dict=some builtinsNs/\o.data= .plain
structure Mod(K:AAD)(mg:AAF)(base:Heap):Prop where
 WI:K.In base
 glob:base.Ns mainGlobals mg
 blt:∃mb,base.Ns builtinsNs mb/\∀x:Str,x≠"__name__"->mb x=bootBuiltins x
 nolimit:base.NoLimit
 bmn:BMn base mg
structure Cx where
 prog:Program
 w:World
 K:W.Frag
 mg:Str->BBP
 base:Heap
 A:Around
 N:BBB
 s₀:Shared
 H₀:Hp
 env:Env
 outer:BBF
 stack:BBF
 ex:BBE
 fn:Str->Bool
 calm:Bool
 pn:List (Addr×Obj)
 xe:Value->Shared->Prop
noncomputable def frs(l:BBF):BBE:=l.filterMap (·.frame)
abbrev Cx.fs(X:Cx):BBE:=frs X.outer
def pF(sc:Scope)(x:Str):Prop:=sc.names.lookup x=some .local\/sc.names.lookup x=some .cell\/sc.names.lookup x=some .free
def Loc(sc:Scope)(x:Str):Prop:=sc.names.lookup x=some .local\/sc.names.lookup x=some .cell
def Look(env:Env)(h:Heap)(m:AAF)(x:Str)(u:Value):Prop:=
 (env.kindOf x=some .local/\m x=some u)\/((env.kindOf x=some .cell\/env.kindOf x=some .free)/\∃c,env.cells.lookup x=some c/\h.IsCell c (some u))
noncomputable def lP:Str:="laid_marks.<locals>.<lambda>"
structure Cx.Ok(X:Cx):Prop where
 mod:Mod X.K X.mg X.base
 kind:X.env.scope.kind= .function
 glob:X.env.globals=mainGlobals
 blt:X.env.builtins=builtinsNs
 above:X.s₀.heap.objs.size<=X.env.locals
 inj:∀x y c,X.env.cells.lookup x=some c->X.env.cells.lookup y=some c->x=y
 has:∀x,(X.env.kindOf x=some .cell\/X.env.kindOf x=some .free)->∃c,X.env.cells.lookup x=some c
 Rv:∀x c,X.fn x=true->X.env.cells.lookup x=some c->X.s₀.heap.objs.size<=c
 hd:X.calm=true->X.A.handled=none
 frames:X.A.frames=some X.stack
 stk:X.stack=X.outer\/(X.stack=X.env::X.outer/\X.env.frame=some X.env.locals)
 WJ:∀b∈X.ex,b≠X.env.locals/\∀x c,X.env.cells.lookup x=some c->c≠b
 bs:∀b o,X.base.get? b=some o->X.s₀.heap.get? b=some o/\X.H₀ b=none
 Ft:X.base.objs.size<=X.s₀.heap.objs.size
 B5:∀b o,X.base.get? b=some o->b∉X.ex
 DJ:∀b∈X.ex,b∉X.fs
 rU:X.s₀.heap.FunFrames X.base X.outer
 KS:∀b∈X.fs,X.H₀ b=none
 tab:∀p∈X.base.life.ids,X.H₀ p.2=some (.Fq lP)
structure Inv(X:Cx)(pins:AAG)(O:List (Option V))(H:Hp)(s:Shared):Prop where
 ok:X.Ok
 os:s.os=X.s₀.os
 bare:AllBare s.gens
 base:Un X.fs X.ex X.H₀ H X.s₀.heap s.heap
 loc:∃m,s.heap.Ns X.env.locals m/\∀(i:Nat)(x:Str)(v:V),X.N[i]? =some x->O[i]? =some (some v)->pF X.env.scope x->∃u,RelV v u/\Look X.env s.heap m x u
 cell:∀x c,X.env.cells.lookup x=some c->∃v,s.heap.IsCell c v
 free:H X.env.locals=none
 kN:∀x c,X.env.cells.lookup x=some c->H c=none\/(X.fn x=false/\∃o,H c=some (.fy o (.own c)))
 pin:∀p∈X.pn++pins,s.heap.get? p.1=some p.2/\H p.1=none/\p.1≠X.env.locals/\p.1∉X.fs/\∀v,p.2.data≠.cell v
 hok:pO X.prog X.w H s.heap
 len:O.length=X.N.length
section
variable {X:Cx}{pins:AAG}{O:List (Option V)}{H H':Hp}{s:Shared}{h':Heap}
def Cx.Ok.kj(ok:X.Ok){b:Addr}(e:X.base.get? b=some o):b∉X.fs:=λhb=>by
 have:=(ok.rU.mem hb).1;rw[e]at this;cases this
def Inv.bs(I:Inv X pins O H s):∀b o,X.base.get? b=some o->s.heap.get? b=some o/\H b=none:=λb o e=>
 ⟨I.base.keep b o (I.ok.bs b o e).1 (I.ok.bs b o e).2 (I.ok.kj e) (I.ok.B5 b o e),I.base.free b o (I.ok.bs b o e).1 (I.ok.bs b o e).2 (I.ok.B5 b o e)⟩
def Inv.bk(I:Inv X pins O H s):∀b o,X.base.get? b=some o->s.heap.get? b=some o:=λb o e=>(I.bs b o e).1
def Inv.tab(I:Inv X pins O H s):∀p∈X.base.life.ids,H p.2=some (.Fq lP):=λp hp=>I.base.xH _ _ (I.ok.tab p hp)
def Inv.mod(I:Inv X pins O H s):Mod X.K X.mg X.base:=I.ok.mod
def Inv.DK(I:Inv X pins O H s):X.K.In s.heap:=I.ok.mod.WI.keeps I.bk
def Inv.lt(I:Inv X pins O H s):X.env.locals<c_:=let⟨_,hn,_⟩:=I.loc;hn.lt
def Inv.sz(I:Inv X pins O H s):X.s₀.heap.objs.size<=c_:=aaY I.ok.above (acz I.lt)
def Inv.Xy(I:Inv X pins O H s)(h:c_<=a):a∉X.fs:=λhb=>by
 obtain⟨_,o,ho,_⟩:=I.ok.rU.mem hb;exact absurd (aaU (aaX ho) (aaY I.sz h)) (adX _)
def Inv.Rx(I:Inv X pins O H s):∀x c,X.env.cells.lookup x=some c->c≠X.env.locals:=λx c e z=>by
 obtain⟨v,o,ho,hd⟩:=I.cell x c e;obtain⟨m,⟨o',es,ep,ho',hd',_⟩,_⟩:=I.loc;rw[z,ho']at ho;cases ho;rw[hd']at hd;cases hd
def Inv.rU(I:Inv X pins O H s):s.heap.FunFrames X.base X.outer:=by
 have all:∀(l:BBF),(∀b∈frs l,b∈X.fs)->X.s₀.heap.FunFrames X.base l->s.heap.FunFrames X.base l:=by
  intro l
  induction l with
  |nil=>intro _ _;trivial
  |cons env r ih=>
   intro hs hl;obtain⟨hk,⟨L,o,hf,hn,ho,hd⟩,hr⟩:=hl;have hL:L∈X.fs:=hs L (by unfold frs;rw[afD,hf];exact aaT);obtain⟨sl,e⟩:=I.base.slot L o ho (I.ok.KS L hL) hL λz=>I.ok.DJ L z hL;exact⟨hk,⟨L,_,hf,hn,e,hd⟩,ih (λb hb=>hs b (by unfold frs;rw[afD,hf];exact aaR _ hb)) hr⟩
 exact all X.outer (λ_ hb=>hb) I.ok.rU
def Inv.stack(I:Inv X pins O H s):s.heap.FunFrames X.base X.stack:=by
 rcases I.ok.stk with e|⟨e,hf⟩
 .rw[e];exact I.rU
 .rw[e];obtain⟨m,hn,_⟩:=I.loc;refine .cons (by rw[I.ok.kind];decide) hf hn ?_ I.rU;exact afv (aaY I.ok.Ft I.ok.above)
def Inv.yE(I:Inv X pins O H s):∀b∈frs X.stack,b∈X.env.locals::X.fs:=λb hb=>by
 rcases I.ok.stk with e|⟨e,hf⟩
 .rw[e]at hb;exact aaR _ hb
 .rw[e]at hb;unfold frs at hb;rw[afD,hf]at hb;exact hb
def Inv.B6(I:Inv X pins O H s):∀b∈frs X.stack,H b=none:=λb hb=>by
 rcases aaV.mp (I.yE b hb) with e|hb
 .rw[e];exact I.free
 .obtain⟨_,o,ho,_⟩:=I.ok.rU.mem hb;exact I.base.free b o ho (I.ok.KS b hb) λz=>I.ok.DJ b z hb
def Inv.step{d':Drawn}(I:Inv X pins O H s)
  (hch:∀b∈ch,(b∈X.ex\/X.s₀.heap.objs.size<=b)/\b≠X.env.locals/\(∀x c,X.env.cells.lookup x=some c->c≠b)/\∀p∈X.pn++pins,p.1≠b)
  (keep:∀b o,b≠X.env.locals->b∉X.fs->b∉ch->s.heap.get? b=some o->H b=none->h'.get? b=some o)
  (slot:∀b o,b≠X.env.locals->b∈X.fs->b∉ch->s.heap.get? b=some o->H b=none->∃sl,h'.get? b=some {o with slots:=sl})(free:∀b o,b∉ch->s.heap.get? b=some o->H b=none->H' b=none)
  (there:∀b o,b∉ch->s.heap.get? b=some o->∃o',h'.get? b=some o')
  (tups:∀b xs,H b=some (.tup xs)->H' b=some (.tup xs))(vF:∀b o u,H b=some (.fy o u)->H' b=some (.fy o u))(xH:∀b q,H b=some (.Fq q)->H' b=some (.Fq q))
  (ns:∀m,s.heap.Ns X.env.locals m->h'.Ns X.env.locals m)(hok:pO X.prog X.w H' h')(hg:AllBare g'):
  Inv X pins O H' {s with heap:=h',gens:=g',drawn:=d',toks:=t'}:=by
 have neL:∀b o,X.s₀.heap.get? b=some o->b≠X.env.locals:=λb o e=>aa1 (aaU (aaX e) I.ok.above);have neC:∀b o,X.s₀.heap.get? b=some o->b∉X.ex->b∉ch:=λb o e hx hb=>by
  rcases(hch b hb).1 with z|z
  .exact hx z
  .exact absurd (aaU (aaX e) z) (adX _)
 have cellK:∀x c,X.env.cells.lookup x=some c->∀v,s.heap.IsCell c v->h'.IsCell c v:=λx c e v ⟨o,ho,hd⟩=>by
  have Xz:c∉ch:=λz=>(hch c z).2.2.1 x c e rfl;rcases I.kN x c e with fr|⟨_,o',fr⟩
  .by_cases hc:c∈X.fs
   .obtain⟨sl,q⟩:=slot c o (I.Rx x c e) hc Xz ho fr;exact⟨_,q,hd⟩
   .exact⟨o,keep c o (I.Rx x c e) hc Xz ho fr,hd⟩
  .have q:=(I.hok c _ fr).1;rw[ho]at q;cases q;exact⟨o,(hok c _ (vF _ _ _ fr)).1,hd⟩
 refine⟨I.ok,I.os,hg,⟨λb o e n hb hx=>?_,λb o e n hb hx=>?_,λb o e n hx=>?_,λb o e hx=>?_,λb xs e=>tups b xs (I.base.tups b xs e),λb o xs e=>vF b o xs (I.base.vF b o xs e),λb q e=>xH b q (I.base.xH b q e)⟩,?_,λx c e=>?_,?_,λx c e=>?_,λp hp=>?_,hok,I.len⟩
 .exact keep b o (neL b o e) hb (neC b o e hx) (I.base.keep b o e n hb hx) (I.base.free b o e n hx)
 .obtain⟨sl,e1⟩:=I.base.slot b o e n hb hx;obtain⟨sl',e2⟩:=slot b _ (neL b o e) hb (neC b o e hx) e1 (I.base.free b o e n hx);exact⟨sl',e2⟩
 .obtain⟨o',e1⟩:=I.base.there b o e hx;exact free b o' (neC b o e hx) e1 (I.base.free b o e n hx)
 .obtain⟨o',e1⟩:=I.base.there b o e hx;exact there b o' (neC b o e hx) e1
 .obtain⟨m,hn,hl⟩:=I.loc;refine⟨m,ns m hn,λi x v e1 e2 e3=>?_⟩;obtain⟨u,r,l⟩:=hl i x v e1 e2 e3;refine⟨u,r,?_⟩;rcases l with l|⟨k,c,e,z⟩
  .exact .inl l
  .exact .inr ⟨k,c,e,cellK x c e _ z⟩
 .obtain⟨v,z⟩:=I.cell x c e;exact⟨v,cellK x c e v z⟩
 .obtain⟨m,⟨o,_,_,ho,_⟩,_⟩:=I.loc;exact free _ o (λz=>(hch _ z).2.1 rfl) ho I.free
 .obtain⟨v,o,ho,hd⟩:=I.cell x c e;exact(I.kN x c e).imp (free c o (λz=>(hch c z).2.2.1 x c e rfl) ho) λ⟨y,o',fr⟩=>⟨y,o',vF _ _ _ fr⟩
 .obtain⟨e,n,ne,nf,d⟩:=I.pin p hp;have Xz:p.1∉ch:=λz=>(hch p.1 z).2.2.2 p hp rfl;exact⟨keep p.1 p.2 ne nf Xz e n,free p.1 p.2 Xz e n,ne,nf,d⟩
def Inv.un(I:Inv X pins O H s)(u:Un X.fs [] H H' s.heap h')(hok:pO X.prog X.w H' h'):Inv X pins O H' {s with heap:=h',toks:=t'}:=by
 obtain⟨m,⟨o,es,ep,ho,r⟩,_⟩:=id I.loc;obtain⟨sl,hL⟩:=u.any ho I.free (by simp);exact I.step (g':=s.gens) (d':=s.drawn) (ch:=[]) (λ_ z=>nomatch z) (λb o _ hb _ e n=>u.keep b o e n hb (by simp)) (λb o _ hb _ e n=>u.slot b o e n hb (by simp)) (λb o _ e n=>u.free b o e n (by simp)) (λb o _ e=>u.there b o e (by simp)) u.tups u.vF u.xH (λm' hm=>by
  obtain⟨o',es',ep',ho',r'⟩:=hm;rw[ho]at ho';cases ho';exact⟨_,es',ep',hL,r'⟩) hok I.bare
def Inv.call{d':Drawn}(I:Inv X pins O H s)(u:Un (frs X.stack) ch H H' s.heap h')(hok:pO X.prog X.w H' h')(hg:AllBare g')
  (hch:∀b∈ch,(b∈X.ex\/X.s₀.heap.objs.size<=b)/\b≠X.env.locals/\(∀x c,X.env.cells.lookup x=some c->c≠b)/\∀p∈X.pn++pins,p.1≠b):
  Inv X pins O H' {s with heap:=h',gens:=g',drawn:=d',toks:=t'}:=by
 obtain⟨m,⟨o,es,ep,ho,r⟩,_⟩:=id I.loc;obtain⟨sl,hL⟩:=u.any ho I.free λz=>(hch _ z).2.1 rfl;exact I.step (ch:=ch) hch (λb o hL hb hc e n=>u.keep b o e n (λz=>(aaV.mp (I.yE b z)).elim hL hb) hc) (λb o _ _ hc e n=>u.any e n hc) (λb o hc e n=>u.free b o e n hc) (λb o hc e=>u.there b o e hc) u.tups u.vF u.xH (λm' hm=>by
  obtain⟨o',es',ep',ho',r'⟩:=hm;rw[ho]at ho';cases ho';exact⟨_,es',ep',hL,r'⟩) hok hg
def Inv.turned{it:Addr}(I:Inv X pins O H s)(k:∀b o,b≠it->s.heap.get? b=some o->h'.get? b=some o)(hn:H it=none)(hL:it≠X.env.locals)
  (h1:it∈X.ex\/X.s₀.heap.objs.size<=it)(h2:∀x c,X.env.cells.lookup x=some c->c≠it)(h3:∀p∈X.pn++pins,p.1≠it):Inv X pins O H {s with heap:=h',toks:=t'}:=by
 have nit:∀b u,H b=some u->b≠it:=λb u e z=>by rw[z,hn]at e;cases e
 refine I.step (g':=s.gens) (d':=s.drawn) (ch:=[it]) (λb hb=>?_) (λb o _ _ hc e _=>k b o (λz=>hc (by simp[z])) e) (λb o _ _ hc e _=>⟨o.slots,k b o (λz=>hc (by simp[z])) e⟩) (λ_ _ _ _ n=>n)
  (λb o hc e=>⟨o,k b o (λz=>hc (by simp[z])) e⟩) (λ_ _ e=>e) (λ_ _ _ e=>e) (λ_ _ e=>e) (λm hm=>?_) (λb u e=>?_) I.bare
 .have e:b=it:=by simpa using hb
  subst e;exact⟨h1,hL,h2,h3⟩
 .obtain⟨o,es,ep,ho,r⟩:=hm;exact⟨o,es,ep,k _ o (acH hL) ho,r⟩
 .refine(I.hok b u e).stay (λc v hc q=>k c v ?_ q) (λ_ q=>q) (λ_ _ q=>q) λ_ _ _ q=>q;rcases hc with z|z
  .rw[z];exact nit b u e
  .exact nit c _ z
def Inv.tok(I:Inv X pins O H s)(t:Nat):Inv X pins O H {s with toks:=t}:=I.un (h':=s.heap) (t':=t) Un.refl I.hok
def Inv.kept{t':Nat}(I:Inv X pins O H s)(k:∀b u,s.heap.get? b=some u->h'.get? b=some u):Inv X pins O H {s with heap:=h',toks:=t'}:=I.un (Un.kept k) (I.hok.kept k)
def Inv.laid{a:Addr}{o:HO}{t':Nat}(I:Inv X pins O H s)(k:∀b u,s.heap.get? b=some u->h'.get? b=some u)(hp:c_<=a)(new:eu X.prog X.w (upd H a o) h' a o):
  Inv X pins O (upd H a o) {s with heap:=h',toks:=t'}:=I.un (Un.laid k hp (I.hok.fresh hp)) (I.hok.laid k hp new)
def Inv.write{x e:Addr}{o:HO}{t':Nat}(I:Inv X pins O H s)(mu:Xw (H x))(he:e=x\/H e=some (.own x))(k:∀b u,b≠e->s.heap.get? b=some u->h'.get? b=some u)(WH:∃u,h'.get? e=some u)
  (new:eu X.prog X.w (upd H x o) h' x o):Inv X pins O (upd H x o) {s with heap:=h',toks:=t'}:=I.un (Un.write mu he k WH) (I.hok.write mu he k WH new)
def Inv.G2{Ry:AAG}(I:Inv X pins O H s)(h:∀p∈Ry,s.heap.get? p.1=some p.2/\H p.1=none/\p.1≠X.env.locals/\p.1∉X.fs/\∀v,p.2.data≠.cell v):Inv X Ry O H s:=
 ⟨I.ok,I.os,I.bare,I.base,I.loc,I.cell,I.free,I.kN,λp hp=>(abu.mp hp).elim (λz=>I.pin p (acp _ z)) (h p),I.hok,I.len⟩
def DL(hN:N.Nodup){j:Nat}(a:N[i]? =some x)(b:N[j]? =some x):i=j:=by
 obtain⟨h1,e1⟩:=abv.mp a;obtain⟨h2,e2⟩:=abv.mp b;exact(List.getElem_inj hN).mp (e1.trans e2.symm)
def A5{v:V}{Q:Unit->Shared->Prop}(I:Inv X pins O H s)(hN:X.N.Nodup)(hi:X.N[i]? =some x)(hx:Loc X.env.scope x)(r:RelV v u)
  (h:∀s',Inv X pins (O.set i (some v)) H s'->(∃a,Heap.SameBut a s.heap s'.heap/\(a=X.env.locals\/X.env.cells.lookup x=some a))->Q () s')(hf:X.fn x=true\/X.env.scope.names.lookup x=some .local:=by trivial):wpAny M A (storeName X.env x u) Q E s:=by
 obtain⟨m,hn,hl⟩:=id I.loc;have hcls:(X.env.scope.kind == .class || (X.env.scope.kind == .module && X.env.locals != X.env.globals))=false:=by rw[I.ok.kind];rfl
 have XA:i<O.length:=by rw[I.len];exact(abv.mp hi).1
 have Rx:=I.Rx;have tracked:∀{a:Addr}{h':Heap},(∃o,s.heap.get? a=some o/\H a=none)->Heap.SameBut a s.heap h'->pO X.prog X.w H h':=λ{a h'} ha hs b ob e=>by
  obtain⟨_,_,hfree⟩:=ha;refine(I.hok b ob e).stay (λc w' hc q=>(hs.2 c ?_).trans q) (λ_ q=>q) (λ_ _ q=>q) λ_ _ _ q=>q;rintro rfl;rcases hc with rfl|hc
  .rw[hfree]at e;cases e
  .rw[hfree]at hc;cases hc
 rcases hx with hk|hk
 .refine wpAny_storeName_local hk hn (λh' hn' hs=>?_) hcls;obtain⟨oL,_,_,KU,_⟩:=id hn;refine h _ ⟨I.ok,I.os,I.bare,⟨λb o e n hb hx=>?_,λb o e n hb hx=>?_,I.base.free,λb o e hx=>?_,I.base.tups,I.base.vF,I.base.xH⟩,⟨_,hn',λj y v' e1 e2 e3=>?_⟩,λy c e=>?_,I.free,I.kN,λp hp=>?_,tracked ⟨oL,KU,I.free⟩ hs,by simpa using I.len⟩ ⟨_,hs,.inl rfl⟩
  .exact(hs.2 b (aa1 (aaU (aaX e) I.ok.above))).trans (I.base.keep b o e n hb hx)
  .obtain⟨sl,e1⟩:=I.base.slot b o e n hb hx;exact⟨sl,(hs.2 b (aa1 (aaU (aaX e) I.ok.above))).trans e1⟩
  .obtain⟨o',e1⟩:=I.base.there b o e hx;exact⟨o',(hs.2 b (aa1 (aaU (aaX e) I.ok.above))).trans e1⟩
  .by_cases hj:j=i
   .subst hj;rw[hi]at e1;cases e1;rw[ace XA]at e2;cases e2;exact⟨u,r,.inl ⟨hk,by simp⟩⟩
   .rw[abF (acH hj)]at e2;obtain⟨u',r',q⟩:=hl j y v' e1 e2 e3;refine⟨u',r',?_⟩;rcases q with⟨k,e⟩|⟨k,c,e,z⟩
    .refine .inl ⟨k,?_⟩;have:y≠x:=λe=>hj (DL hN e1 (e▸hi));simp[this,e]
    .exact .inr ⟨k,c,e,z.sameBut hs (Rx y c e)⟩
  .obtain⟨w',z⟩:=I.cell y c e;exact⟨w',z.sameBut hs (Rx y c e)⟩
  .obtain⟨e,n,ne,nf,d⟩:=I.pin p hp;exact⟨(hs.2 p.1 ne).trans e,n,ne,nf,d⟩
 .have hfn:X.fn x=true:=by
   rcases hf with z|z
   .exact z
   .rw[z]at hk;cases hk
  obtain⟨c,hc⟩:=I.ok.has x (.inl hk);obtain⟨w',z⟩:=I.cell x c hc;refine wpAny_storeName_cell I.ok.kind hk hc z (λh' hc' hs=>?_);obtain⟨oc,hoc,acf⟩:=id z;refine h {s with heap:=h'} ⟨I.ok,I.os,I.bare,⟨λb o e n hb hx=>?_,λb o e n hb hx=>?_,I.base.free,λb o e hx=>?_,I.base.tups,I.base.vF,I.base.xH⟩,⟨m,hn.sameBut hs (acH (Rx x c hc)),λj y v' e1 e2 e3=>?_⟩,λy c' e=>?_,I.free,I.kN,λp hp=>?_,tracked ⟨oc,hoc,(I.kN x c hc).resolve_right λz=>by rw[hfn]at z;cases z.1⟩ hs,by simpa using I.len⟩ ⟨c,hs,.inr hc⟩
  .exact(hs.2 b (aa1 (aaU (aaX e) (I.ok.Rv x c hfn hc)))).trans (I.base.keep b o e n hb hx)
  .obtain⟨sl,e1⟩:=I.base.slot b o e n hb hx;exact⟨sl,(hs.2 b (aa1 (aaU (aaX e) (I.ok.Rv x c hfn hc)))).trans e1⟩
  .obtain⟨o',e1⟩:=I.base.there b o e hx;exact⟨o',(hs.2 b (aa1 (aaU (aaX e) (I.ok.Rv x c hfn hc)))).trans e1⟩
  .by_cases hj:j=i
   .subst hj;rw[hi]at e1;cases e1;rw[ace XA]at e2;cases e2;exact⟨u,r,.inr ⟨.inl hk,c,hc,hc'⟩⟩
   .rw[abF (acH hj)]at e2;obtain⟨u',r',q⟩:=hl j y v' e1 e2 e3;refine⟨u',r',?_⟩;rcases q with q|⟨k,c',e,z'⟩
    .exact .inl q
    .refine .inr ⟨k,c',e,z'.sameBut hs ?_⟩;rintro rfl;exact hj (DL hN e1 (I.ok.inj _ _ _ e hc▸hi))
  .by_cases hcc:c'=c
   .subst hcc;exact⟨_,hc'⟩
   .obtain⟨w2,z2⟩:=I.cell y c' e;exact⟨w2,z2.sameBut hs hcc⟩
  .obtain⟨e,n,ne,nf,d⟩:=I.pin p hp;refine⟨(hs.2 p.1 ?_).trans e,n,ne,nf,d⟩;intro q;rw[q,hoc]at e;have q':oc=p.2:=abT e;exact d w' (by rw[<-q'];exact acf)
def DM{v:V}{Q:Unit->Shared->Prop}(I:Inv X pins O H s)(hN:X.N.Nodup)(hi:X.N[i]? =some x)(hx:Loc X.env.scope x)(r:RelV v u)
  (h:∀s',Inv X pins (O.set i (some v)) H s'->Q () s')(hf:X.fn x=true\/X.env.scope.names.lookup x=some .local:=by trivial):wpAny M A (storeName X.env x u) Q E s:=
 A5 I hN hi hx r (λs' I' _=>h s' I') hf
def Inv.XC{s':Shared}(I:Inv X pins O H s)(ho:s'.os=s.os)(u:Un (frs X.stack) ch H H' s.heap s'.heap)(hok:pO X.prog X.w H' s'.heap)(hg:AllBare s'.gens)
  (hch:∀b∈ch,(b∈X.ex\/X.s₀.heap.objs.size<=b)/\b≠X.env.locals/\(∀x c,X.env.cells.lookup x=some c->c≠b)/\∀p∈X.pn++pins,p.1≠b):Inv X pins O H' s':=by
 obtain⟨h',g',d',t',o'⟩:=s';have e:o'=s.os:=ho;subst e;exact I.call (g':=g') (t':=t') (d':=d') u hok hg hch
end
abbrev XK:=Value->BBN->Hp->Prop
abbrev St:=List (Option V)
abbrev VK:=V->Hp->Prop
abbrev TE:=St->Hp->VK->Prop
abbrev TT:=St->Hp->(Bool->Hp->Prop)->Prop
abbrev TA:=St->Hp->(List V->Hp->Prop)->Prop
structure Ends where
 nx:St->Hp->Prop
 rt:VK
 bk:St->Hp->Prop:=λ_ _=>False
 ct:St->Hp->Prop:=λ_ _=>False
abbrev TS:=Ends->St->Hp->Prop
inductive EP(X:Cx)(pins:AAG)(O:St)(Q:VK)(u:Value)(s':Shared):Prop
 |mk(v:V)(H':Hp)(I:Inv X pins O H' s')(r:RelV v u)(q:Q v H')
def TP(X:Cx)(pins:AAG)(O:St)(Q:Bool->Hp->Prop)(b:Bool)(s':Shared):Prop:=∃H',Inv X pins O H' s'/\Q b H'
inductive AP(X:Cx)(pins:AAG)(O:St)(Q:List V->Hp->Prop)(us:AAL)(s':Shared):Prop
 |mk(vs:List V)(H':Hp)(I:Inv X pins O H' s')(r:Vals vs us)(q:Q vs H')
def SP(X:Cx)(pins:AAG)(D:Ends)(f:Flow)(s':Shared):Prop:=
 match f with
 |.next=>∃O' H',Inv X pins O' H' s'/\D.nx O' H'
 |.brk=>∃O' H',Inv X pins O' H' s'/\D.bk O' H'
 |.cont=>∃O' H',Inv X pins O' H' s'/\D.ct O' H'
 |.ret u=>∃v O' H',Inv X pins O' H' s'/\RelV v u/\D.rt v H'
def PE(X:Cx)(e:Expr)(t:TE):Prop:=
 ∀(pins:AAG)(s:Shared)(O:St)(H:Hp)(Q:VK),Inv X pins O H s->t O H Q->wpAny d_ X.A (eval e X.env) (EP X pins O Q) X.xe s
def PT(X:Cx)(e:Expr)(t:TT):Prop:=
 ∀(pins:AAG)(s:Shared)(O:St)(H:Hp)(Q:Bool->Hp->Prop),Inv X pins O H s->t O H Q->wpAny d_ X.A (isTrue e X.env (eval e X.env)) (TP X pins O Q) X.xe s
def PW(X:Cx)(e:Expr)(t:TT):Prop:=
 ∀(whole:Sem Value)(pins:AAG)(s:Shared)(O:St)(H:Hp)(Q:Bool->Hp->Prop),Inv X pins O H s->t O H Q->wpAny d_ X.A (isTrue e X.env whole) (TP X pins O Q) X.xe s
def PW.pt{e:Expr}{t:TT}(h:PW X e t):PT X e t:=h _
def PA(X:Cx)(es:BBC)(t:TA):Prop:=
 ∀(pos:Pos)(pins:AAG)(s:Shared)(O:St)(H:Hp)(Q:List V->Hp->Prop),Inv X pins O H s->t O H Q->wpAny d_ X.A (spliced (backTo pos (starEach es X.env))) (AP X pins O Q) X.xe s
def PS(X:Cx)(st:Stmt)(t:TS):Prop:=
 ∀(pins:AAG)(s:Shared)(O:St)(H:Hp)(D:Ends),Inv X pins O H s->t D O H->wpAny d_ X.A (exec st X.env) (SP X pins D) X.xe s
def vG(X:Cx)(st:BBH)(t:TS):Prop:=
 ∀(pins:AAG)(s:Shared)(O:St)(H:Hp)(D:Ends),Inv X pins O H s->t D O H->wpAny d_ X.A (execs st X.env) (SP X pins D) X.xe s
def ez{α:Type}{t:Sem α}{Q Q':α->Shared->Prop}{s:Shared}(h:wpAny M A t Q E s)(hQ:∀a s,Q a s->Q' a s):wpAny M A t Q' E s:=ab3 h hQ λ_ _ x=>x
section
variable {X:Cx}
def DN(i:Nat):TE:=λO H Q=>∃v,O[i]? =some (some v)/\Q v H
def tC(v:V):TE:=λ_ H Q=>Q v H
def cA(hN:X.N[i]? =some x)(hv:pF X.env.scope x)(hd:BBT x:=by decide)(hcd:BBU x:=by decide):PE X (.Name x pos) (DN i):=by
 intro pins s O H Q I h;obtain⟨v,e,h⟩:=h;obtain⟨m,hn,hl⟩:=I.loc;obtain⟨u,r,l⟩:=hl i x v hN e hv;have fin:EP X pins O Q u s:=⟨v,H,I,r,h⟩
 rcases l with⟨hk,hm⟩|⟨hk,c,hc,hcell⟩
 .exact wpAny_Name (wpAny_loadName_local I.ok.kind hk hn hm fin) hd
 .rcases hk with hk|hk
  .exact wpAny_Name (wpAny_loadName_cell I.ok.kind hk hc hcell fin) hd
  .exact wpAny_Name (wpAny_loadName_free I.ok.kind hk hc hcell fin hcd) hd
def KW {i j pos}:PE X (.Constant (.int i) j pos) (tC (.int i)):=λ_ _ _ H _ I h=>wpAny_Constant_int ⟨.int i,H,I.tok _,⟨_,rfl⟩,h⟩
def XD {b j pos}:PE X (.Constant (.bool b) j pos) (tC (.bl b)):=λ_ _ _ H _ I h=>Constant_bool ⟨.bl b,H,I,rfl,h⟩
def KY {x j pos}:PE X (.Constant (.str x) j pos) (tC (.str x)):=λ_ _ _ H _ I h=>Calls.Constant_str ⟨.str x,H,I.tok _,⟨_,rfl⟩,h⟩
def Gl(X:Cx)(x:Str):Prop:=X.env.kindOf x=some .globalImplicit
def B7{s:Shared}(I:Inv X pins O H s)(hg:Gl X x)(hm:X.mg x=some u)(h:Q u s)
  (hd:BBT x:=by decide):wpAny d_ X.A (eval (.Name x pos) X.env) Q E s:=
 Calls.Name_function_global I.ok.kind hg (Calls.loadGlobal_global (by rw[I.ok.glob];exact I.mod.glob.keeps I.bk) hm h) hd
def mz{s:Shared}(I:Inv X pins O H s)(hg:Gl X x)(hm:X.mg x=none)(hv:bootBuiltins x=some u)(h:Q u s)
  (hn:x≠"__name__":=by decide)(hd:BBT x:=by decide):wpAny d_ X.A (eval (.Name x pos) X.env) Q E s:=by
 obtain⟨mb,h1,h2⟩:=I.mod.blt;exact Calls.Name_function_global I.ok.kind hg (Calls.loadGlobal_builtin (by rw[I.ok.glob];exact I.mod.glob.keeps I.bk) hm (by rw[I.ok.blt];exact h1.keeps I.bk) ((h2 x hn).trans hv) h) hd
def Oz{v:V}(hg:Gl X x)(hm:X.mg x=some u)(r:RelV v u)(hd:BBT x:=by decide):PE X (.Name x pos) (tC v):=
 λ_ _ _ H _ I h=>B7 I hg hm ⟨v,H,I,r,h⟩ hd
def OA{v:V}(hg:Gl X x)(hm:X.mg x=none)(hv:bootBuiltins x=some u)(r:RelV v u)(hn:x≠"__name__":=by decide)(hd:BBT x:=by decide):PE X (.Name x pos) (tC v):=
 λ_ _ _ H _ I h=>mz I hg hm hv ⟨v,H,I,r,h⟩ hn hd
variable {a b:Expr}{ta tb:TE}{pos:Pos}
def PC(X:Cx)(op:CmpOp)(a b:Expr)(t:TE):Prop:=
 ∀(pins:AAG)(s:Shared)(O:St)(H:Hp)(Q:VK),Inv X pins O H s->t O H Q->
  wpAny d_ X.A (eval a X.env) (λv s₁=>wpAny d_ X.A (eval b X.env) (λu s₂=>wpAny d_ X.A (compareOp op v u) (EP X pins O Q) X.xe s₂) X.xe s₁) X.xe s
def KZ(b:Expr)(h:op≠.In)(h2:op≠.NotIn):behindInMarks op b=false:=by
 have e1:(op == CmpOp.In)=false:=by cases op<;>first|rfl|exact absurd rfl h
 have e2:(op == CmpOp.NotIn)=false:=by cases op<;>first|rfl|exact absurd rfl h2
 cases b<;>simp[behindInMarks,e1,e2]
def tB(t:TE):TT:=λO H Q=>t O H λx H1=>∃c,x= .bl c/\Q c H1
def S6{t:TE}(h:PC X op a b t)(h1:behindInMarks op b=false:=by first|exact KZ _ b_ b_|rfl):PT X (.Compare a [op] [b] pos) (tB t):=by
 intro pins s O H Q I hw;refine wpAny_isTrue_Compare1 (ez (h pins s O H _ I hw) λv s1 h1=>ez h1 λu s2 h2=>ez h2 λc s3 hh=>?_) h1;obtain⟨x,H1,I1,r1,q1⟩:=hh;obtain⟨d,rfl,q⟩:=q1;cases r1;exact aeG ⟨H1,I1,q⟩
def S7{e:Expr}{t:TE}(h:PE X e t)(he:∀whole,isTrue e X.env whole=(do let v <-whole;standAt e.pos;holding [v] (truthy v)):=by intro _;rfl):PT X e (tB t):=by
 intro pins s O H Q I hw;refine isTrue_plain (ez (h pins s O H _ I hw) λv s1 hh=>?_) (he _);obtain⟨x,H1,I1,r1,q1⟩:=hh;obtain⟨d,rfl,q⟩:=q1;cases r1;exact aeG ⟨H1,I1,q⟩
variable {tA tB':TT}{rest:BBC}
def acg(t u:TT):TT:=λO H Q=>t O H λc H1=>if c=true then u O H1 Q else Q false H1
def tOr(t u:TT):TT:=λO H Q=>t O H λc H1=>if c=true then Q true H1 else u O H1 Q
def ach(t:TT):TT:=λO H Q=>t O H λc H1=>Q (!c) H1
def pw_and1(ha:PT X a tA):PW X (.BoolOp .And [a] pos) tA:=by
 intro wh pins s O H Q I h;refine isTrue_and (ez (ha pins s O H Q I h) λc s1 e=>?_);cases c with
 |true=>exact isTrue_and_nil e
 |false=>exact e
def pw_or1(ha:PT X a tA):PW X (.BoolOp .Or [a] pos) tA:=by
 intro wh pins s O H Q I h;refine isTrue_or (ez (ha pins s O H Q I h) λc s1 e=>?_);cases c with
 |false=>exact isTrue_or_nil e
 |true=>exact e
def pw_and(ha:PT X a tA)(hb:PW X (.BoolOp .And (b::rest) pos) tB'):PW X (.BoolOp .And (a::b::rest) pos) (acg tA tB'):=by
 intro wh pins s O H Q I h;refine isTrue_and (ez (ha pins s O H _ I h) λc s1 hh=>?_);obtain⟨H1,I1,q1⟩:=hh;cases c with
 |true=>exact hb wh pins s1 O H1 Q I1 q1
 |false=>exact⟨H1,I1,q1⟩
def pw_or(ha:PT X a tA)(hb:PW X (.BoolOp .Or (b::rest) pos) tB'):PW X (.BoolOp .Or (a::b::rest) pos) (tOr tA tB'):=by
 intro wh pins s O H Q I h;refine isTrue_or (ez (ha pins s O H _ I h) λc s1 hh=>?_);obtain⟨H1,I1,q1⟩:=hh;cases c with
 |true=>exact⟨H1,I1,q1⟩
 |false=>exact hb wh pins s1 O H1 Q I1 q1
def S8(ha:PT X a tA):PT X (.UnaryOp .Not a pos) (ach tA):=by
 intro pins s O H Q I h;exact isTrue_not (ha pins s O H (λc H1=>Q (!c) H1) I h)
def XE(ta tb:TE):TE:=λO H Q=>ta O H λx H1=>∃c,x= .bl c/\if c=true then tb O H1 Q else Q (.bl false) H1
def XF(ta:TE):TE:=λO H Q=>ta O H λx H1=>∃c,x= .bl c/\Q (.bl (!c)) H1
def S9 {op}{t:TE}(h:PE X a t):PE X (.BoolOp op [a] pos) t:=λpins s O H Q I hw=>BoolOp_one (h pins s O H Q I hw)
def Tc(ha:PE X a ta)(hb:PE X (.BoolOp .And (b::rest) pos) tb):PE X (.BoolOp .And (a::b::rest) pos) (XE ta tb):=by
 intro pins s O H Q I h;refine BoolOp_and (ez (ha pins s O H _ I h) λv s1 hh=>?_);obtain⟨x,H1,I1,r1,q1⟩:=hh;obtain⟨c,rfl,q1⟩:=q1;cases r1;refine aeG ?_;cases c with
 |true=>exact hb pins s1 O H1 Q I1 q1
 |false=>exact⟨.bl false,H1,I1,rfl,q1⟩
def Te(ha:PE X a ta):PE X (.UnaryOp .Not a pos) (XF ta):=by
 intro pins s O H Q I h;refine UnaryOp_ (ez (ha pins s O H _ I h) λv s1 hh=>?_);obtain⟨x,H1,I1,r1,q1⟩:=hh;obtain⟨c,rfl,q1⟩:=q1;cases r1;exact not_of (aeG ⟨.bl (!c),H1,I1,rfl,q1⟩)
def tIf(t:TT)(ta tb:TE):TE:=λO H Q=>t O H λc H1=>if c=true then ta O H1 Q else tb O H1 Q
def K0(hc:PT X c tA)(ha:PE X a ta)(hb:PE X b tb):PE X (.IfExp c a b pos) (tIf tA ta tb):=by
 intro pins s O H Q I h;refine wpAny_IfExp (ez (hc pins s O H _ I h) λd s1 hh=>?_);obtain⟨H1,I1,q1⟩:=hh;cases d with
 |true=>exact ha pins s1 O H1 Q I1 q1
 |false=>exact hb pins s1 O H1 Q I1 q1
end
def mX(K:AAD)(H:Hp)(a:Addr)(xs:List V):Prop:=
 Rd H a (.lst xs)\/
  ∃(o:Obj)(its:AAK)(n:Nat),K.lookup a=some o/\o.cls= .type "list"/\o.dict=none/\o.data= .seq its n/\its.size<=sizeLine/\Vals xs its.toList
def A6(K:AAD)(H:Hp)(a:Addr)(xs:List V):Prop:=
 Rd H a (.tup xs)\/
  ∃(o:Obj)(its:AAK)(n:Nat),K.lookup a=some o/\o.cls= .type "tuple"/\o.data= .seq its n/\its.size<=sizeLine/\Vals xs its.toList
noncomputable def aci:Value->Option V
 |.none=>some .cI
 |.bool b=>some (.bl b)
 |.int i _=>some (.int i)
 |.str x _=>some (.str x)
 |.ref a=>some (.ref a)
 |.type n=>some (.ty n)
 |_=>none
def RelV.abs{x:V}(r:RelV x u):aci u=some x:=by
 cases x with
 |cI=>cases r;rfl
 |bl _=>cases r;rfl
 |int _=>obtain⟨t,rfl⟩:=r;rfl
 |str _=>obtain⟨t,rfl⟩:=r;rfl
 |ref _=>cases r;rfl
 |ty _=>cases r;rfl
def RelV.inj{x y:V}{u:Value}(r:RelV x u)(q:RelV y u):x=y:=abT (r.abs.symm.trans q.abs)
theorem Vals.inj:∀{xs ys:List V}{us:AAL},Vals xs us->Vals ys us->xs=ys
 |_,_,_,.nil,.nil=>rfl
 |_,_,_,.cons r t,.cons r' t'=>by rw[r.inj r',Vals.inj t t']
section
variable {X:Cx}{pins:AAG}{O:St}{H:Hp}{s:Shared}{a:Addr}{xs ys:List V}
def mX.of(h:H a=some (.lst xs)):mX K H a xs:=.inl (.inl h)
def Inv.list(I:Inv X pins O H s)(h:mX X.K H a xs):∃its:BBG,Vals xs its/\PlainL s.heap a its.toArray/\xs.length<=sizeLine:=by
 rcases h with h|⟨o,its,n,hk,hc,hd,hs,hz,r⟩
 .obtain⟨z,its,n,r,e⟩:=h.ok I.hok;exact⟨its,r,⟨_,n,e,rfl,rfl,rfl⟩,z⟩
 .refine⟨its.toList,r,⟨o,n,I.DK a o hk,hc,hd,by simpa using hs⟩,?_⟩;have e:=r.length;simp only[abM]at e;lia
def Inv.tuple(I:Inv X pins O H s)(h:A6 X.K H a xs):∃its:BBG,Vals xs its/\IsTup s.heap a its.toArray/\xs.length<=sizeLine:=by
 rcases h with h|⟨o,its,n,hk,hc,hs,hz,r⟩
 .obtain⟨z,its,r,p⟩:=h.ok I.hok;exact⟨its,r,p,z⟩
 .refine⟨its.toList,r,⟨o,I.DK a o hk,hc,n,by simpa using hs⟩,?_⟩;have e:=r.length;simp only[abM]at e;lia
def Inv.K1(I:Inv X pins O H s)(h:mX X.K H a xs)(h':mX X.K H a ys):xs=ys:=by
 obtain⟨its,r,⟨o,n,e,_,_,d⟩,_⟩:=I.list h;obtain⟨its',r',⟨o',n',e',_,_,d'⟩,_⟩:=I.list h';rw[e]at e';cases e';rw[d]at d';injection d' with d1 _
 have:its=its':=by simpa using congrArg Array.toList d1
 subst this;exact r.inj r'
def Inv.IW(I:Inv X pins O H s)(h:A6 X.K H a xs)(h':A6 X.K H a ys):xs=ys:=by
 obtain⟨its,r,⟨o,e,_,n,d⟩,_⟩:=I.tuple h;obtain⟨its',r',⟨o',e',_,n',d'⟩,_⟩:=I.tuple h';rw[e]at e';cases e';rw[d]at d';injection d' with d1 _
 have:its=its':=by simpa using congrArg Array.toList d1
 subst this;exact r.inj r'
end
noncomputable abbrev Cx.yF(X:Cx)(E:AAE):Cx:={X with xe:=E}
noncomputable abbrev Cx.K2(X:Cx):Cx:=X.yF λ_ _=>False
def Cx.Ok.yF{X:Cx}(ok:X.Ok)(E:AAE):(X.yF E).Ok:=
 ⟨ok.mod,ok.kind,ok.glob,ok.blt,ok.above,ok.inj,ok.has,ok.Rv,ok.hd,ok.frames,ok.stk,ok.WJ,ok.bs,ok.Ft,ok.B5,ok.DJ,ok.rU,ok.KS,ok.tab⟩
def Cx.Ok.pZ(ok:(X.yF E).Ok):X.Ok:=
 ⟨ok.mod,ok.kind,ok.glob,ok.blt,ok.above,ok.inj,ok.has,ok.Rv,ok.hd,ok.frames,ok.stk,ok.WJ,ok.bs,ok.Ft,ok.B5,ok.DJ,ok.rU,ok.KS,ok.tab⟩
section
variable {X:Cx}{pins:AAG}{O:St}{H:Hp}{s:Shared}{E:AAE}
def Inv.yF(I:Inv X pins O H s)(E:AAE):Inv (X.yF E) pins O H s:=⟨I.ok.yF E,I.os,I.bare,I.base,I.loc,I.cell,I.free,I.kN,I.pin,I.hok,I.len⟩
def Inv.pZ(I:Inv (X.yF E) pins O H s):Inv X pins O H s:=⟨I.ok.pZ,I.os,I.bare,I.base,I.loc,I.cell,I.free,I.kN,I.pin,I.hok,I.len⟩
def SP.pZ{D:Ends}{f:Flow}{s':Shared}(h:SP (X.yF E) pins D f s'):SP X pins D f s':=by
 cases f with
 |next=>obtain⟨O',H',I,q⟩:=h;exact⟨O',H',I.pZ,q⟩
 |brk=>obtain⟨O',H',I,q⟩:=h;exact⟨O',H',I.pZ,q⟩
 |cont=>obtain⟨O',H',I,q⟩:=h;exact⟨O',H',I.pZ,q⟩
 |ret u=>obtain⟨v,O',H',I,r,q⟩:=h;exact⟨v,O',H',I.pZ,r,q⟩
def vG.K2{st:BBH}{t:TS}(h:vG X.K2 st t):vG X st t:=λpins s O H D I hw=>
 ab3 (h pins s O H D (I.yF _) hw) (λ_ _ q=>q.pZ) λ_ _ z=>False.elim z
end
section
variable {X:Cx}{st:Stmt}{rest:BBH}{t u:TS}{e:Expr}{te:TE}{pos:Pos}
def XG:TS:=λD O H=>D.nx O H
def XH(t u:TS):TS:=λD O H=>t {D with nx:=u D} O H
def OB:vG X [] XG:=λ_ _ O H _ I h=>agh ⟨O,H,I,h⟩
def qb(h1:PS X st t)(h2:vG X rest u):vG X (st::rest) (XH t u):=by
 intro pins s O H D I h;refine wpAny_execs_cons (ez (h1 pins s O H {D with nx:=u D} I h) λf s1 q=>?_);cases f with
 |next=>
  obtain⟨O',H',I',q⟩:=q;exact h2 pins s1 O' H' D I' q
 |ret v=>exact q
 |brk=>exact q
 |cont=>exact q
def nW(h1:PS X st t):vG X [st] t:=by
 intro pins s O H D I h;refine wpAny_execs_cons (ez (h1 pins s O H D I h) λf s1 q=>?_);cases f with
 |next=>exact agh q
 |ret v=>exact q
 |brk=>exact q
 |cont=>exact q
def Inv.quiet{s:Shared}(I:Inv X pins O H s):interactive X.env=false:=by simp[interactive,I.ok.kind]
def XI(te:TE):TS:=λD O H=>te O H λ_ H1=>D.nx O H1
def OC(he:PE X e te)(hs:swapsWith e none pos.line X.env=pure false:=by rfl):PS X (.Expr e pos) (XI te):=by
 intro pins s O H D I h;exact wpAny_Expr_any (ez (he pins s O H _ I h) λv s1 ⟨x,H1,I1,r1,q1⟩=>⟨O,H1,I1,q1⟩) I.quiet hs
def acj(te:TE):TS:=λD O H=>te O H D.rt
def Fv(he:PE X e te):PS X (.Return (some e) pos) (acj te):=by
 intro pins s O H D I h;exact wpAny_Return_some (ez (he pins s O H _ I h) λv s1 ⟨x,H1,I1,r1,q1⟩=>⟨x,O,H1,I1,r1,q1⟩)
def XJ(c:TT)(t u:TS):TS:=λD O H=>c O H λb H1=>if b=true then t D O H1 else u D O H1
def Rz{a b:BBH}{tc:TT}(hc:PT X c tc)(ha:vG X a t)(hb:vG X b u):PS X (.If c a b pos) (XJ tc t u):=by
 intro pins s O H D I h;refine wpAny_If (ez (hc pins s O H _ I h) λd s1 hh=>?_);obtain⟨H1,I1,q1⟩:=hh;cases d with
 |true=>exact ha pins s1 O H1 D I1 q1
 |false=>exact hb pins s1 O H1 D I1 q1
end
abbrev TG:=V->St->Hp->(St->Hp->Prop)->Prop
abbrev RA:=List V->St->Hp->(St->Hp->Prop)->Prop
def PG(X:Cx)(target:Expr)(t:TG):Prop:=
 ∀(pins:AAG)(s:Shared)(O:St)(H:Hp)(v:V)(u:Value)(Q:St->Hp->Prop),Inv X pins O H s->RelV v u->t v O H Q->
  wpAny d_ X.A (assign target X.env u) (λ_ s'=>∃O' H',Inv X pins O' H' s'/\Q O' H') X.xe s
def RB(X:Cx)(ts:BBC)(t:RA):Prop:=
 ∀(pins:AAG)(s:Shared)(O:St)(H:Hp)(vs:List V)(us:AAL)(Q:St->Hp->Prop),Inv X pins O H s->Vals vs us->t vs O H Q->
  wpAny d_ X.A (assignInOrder ((assignEach ts X.env).map (·.2)) us) (λ_ s'=>∃O' H',Inv X pins O' H' s'/\Q O' H') X.xe s
abbrev Tf:=V->V->V->Hp->(Hp->Prop)->Prop
def XM(X:Cx)(t:Tf):Prop:=
 ∀(pins:AAG)(s:Shared)(O:St)(H:Hp)(o i v:V)(ov iv u:Value)(Q:Hp->Prop),Inv X pins O H s->RelV o ov->RelV i iv->RelV v u->t o i v H Q->
  wpAny d_ X.A (setItem ov iv u) (λ_ s'=>∃H',Inv X pins O H' s'/\Q H') X.xe s
section
variable {X:Cx}{pos:Pos}
def DO(i:Nat):TG:=λv O H Q=>Q (O.set i (some v)) H
def yf(hN:X.N.Nodup)(hi:X.N[i]? =some x)(hx:Loc X.env.scope x)(hf:X.fn x=true\/X.env.scope.names.lookup x=some .local:=by trivial):PG X (.Name x pos) (DO i):=by
 intro pins s O H v u Q I r h;exact wpAny_assign_Name (DM I hN hi hx r (λs' I'=>⟨_,H,I',h⟩) hf)
noncomputable def ack:RA:=λvs O H Q=>vs=[]/\Q O H
noncomputable def XN(t:TG)(u:RA):RA:=λvs O H Q=>∃v r,vs=v::r/\t v O H λO' H'=>u r O' H' Q
def G3:RB X [] ack:=by
 intro pins s O H vs us Q I r h;obtain⟨e,h⟩:=h;subst e;cases r;exact assignInOrder_nil ⟨O,H,I,h⟩
def yG{e:Expr}{t:TG}{u:RA}(h1:PG X e t)(h2:RB X es u)
  (hs:(assignEach (e::es) X.env).map (·.2)=assign e X.env::(assignEach es X.env).map (·.2):=by rfl):RB X (e::es) (XN t u):=by
 intro pins s O H vs us Q I r h;obtain⟨v,vr,e1,h⟩:=h;subst e1;cases r with
 |cons r rr=>
  rw[hs];refine assignInOrder_cons (ez (h1 pins s O H _ _ _ I r h) λ_ s1 hh=>?_);obtain⟨O1,H1,I1,q1⟩:=hh;exact h2 pins s1 O1 H1 _ _ Q I1 rr q1
def acm(K:AAD)(n:Nat)(t:RA):TG:=λv O H Q=>∃a xs,v= .ref a/\A6 K H a xs/\xs.length=n/\t xs O H Q
def K3{t:RA}{n:Nat}(hc:X.calm=true)(h:RB X es t)
  (hn:(assignEach es X.env).length=n:=by rfl)(hst:(assignEach es X.env).findIdx? (·.1)=none:=by rfl):PG X (.Tuple es k pos) (acm X.K n t):=by
 intro pins s O H v u Q I r hw;obtain⟨a,xs,e1,hq,hl,hw⟩:=hw;subst e1;cases r;obtain⟨its,rv,ht,hz⟩:=I.tuple hq;refine assign_Tuple_tuple (I.ok.hd hc) ht (by simp[hn,<-hl,rv.length]) hst λh' hx=>?_;have I1:Inv X pins O H {s with heap:=h'}:=I.kept (t':=s.toks) λb o e=>hx b o (aa1 (aaX e)) e;exact h pins _ O H xs _ Q I1 (by simpa using rv) hw
def acn(to ti:TE)(t:Tf):TG:=λv O H Q=>to O H λo H1=>ti O H1 λi H2=>t o i v H2 λH3=>Q O H3
def Th{o i:Expr}{to ti:TE}{t:Tf}(ho:PE X o to)(hi:PE X i ti)(hs:XM X t)
  (ha:∀v,assign (.Subscript o i pos) X.env v=(do
   let ov <-holding [v] (eval o X.env)
   let iv <-holding [v,ov] (eval i X.env)
   standAt pos
   holding [v,ov,iv] (setItem ov iv v)
   release [v,ov,iv] []):=by intro _;rfl):PG X (.Subscript o i pos) (acn to ti t):=by
 intro pins s O H v u Q I r h;rw[ha];refine aam (acK (ez (ho pins s O H _ I h) λov s1 hh=>?_));obtain⟨x,H1,I1,r1,q1⟩:=hh;refine aam (acK (ez (hi pins s1 O H1 _ I1 q1) λiv s2 hh=>?_));obtain⟨y,H2,I2,r2,q2⟩:=hh;refine aam (wpAny_standAt (aam (acK (ez (hs pins s2 O H2 x y v ov iv u _ I2 r1 r2 r q2) λ_ s3 hh=>?_))));obtain⟨H3,I3,q3⟩:=hh;exact wpAny_release ⟨O,H3,I3,q3⟩
def OD(te:TE)(g:TG):TS:=λD O H=>te O H λx H1=>g x O H1 D.nx
def Ti{e:Expr}{te:TE}{g:TG}(he:PE X e te)(hg:PG X tg g)(hs:swapsWithSole [tg] e pos.line X.env=pure false:=by rfl)(hw:swappedStores [tg] e X.env=pure none:=by rfl)
  (h1:(assignEach [tg] X.env).map (·.2)=[assign tg X.env]:=by rfl):PS X (.Assign [tg] e pos) (OD te g):=by
 intro pins s O H D I h;refine wpAny_Assign_stores (ez (he pins s O H _ I h) λv s1 hh=>?_) hs hw;obtain⟨x,H1,I1,r1,q1⟩:=hh;rw[h1];exact ez (hg pins s1 O H1 x v _ I1 r1 q1) λ_ s2 q=>q
def Fw{e:Expr}{te:TE}{pos':Pos}(hN:X.N.Nodup)(hi:X.N[i]? =some x)(hx:Loc X.env.scope x)(he:PE X e te)(hs:swapsWith e (some (.Name x pos')) pos.line X.env=pure false:=by rfl)(hf:X.fn x=true\/X.env.scope.names.lookup x=some .local:=by trivial):
  PS X (.Assign [.Name x pos'] e pos) (OD te (DO i)):=by
 intro pins s O H D I h;refine wpAny_Assign_Name (ez (he pins s O H _ I h) λv s1 hh=>?_) hs;obtain⟨y,H1,I1,r1,q1⟩:=hh;exact DM I1 hN hi hx r1 (λs2 I2=>⟨_,H1,I2,q1⟩) hf
def Tj(c:TT)(tb:TS):TS:=λD O H=>∃W:Nat->St->Hp->Prop,(∃m,W m O H)/\∀m O H,W m O H->
 c O H λb H1=>if b=true then ∃N:St->Hp->Prop,(∀O' H',N O' H'->∃m',m' < m/\W m' O' H')/\tb {D with nx:=N,ct:=N,bk:=D.nx} O H1 else D.nx O H1
def K4{tc:TT}{tb:TS}(hp:PassesOwn d_ X.A X.env X.xe)(hc:PT X c tc)(hb:vG X body tb):PS X (.While c body [] pos) (Tj tc tb):=by
 intro pins s O H D I h;obtain⟨W,⟨m0,w0⟩,turn⟩:=h;refine wpAny_While (codeAny_whileLoop (λn s'=>∃O' H',Inv X pins O' H' s'/\W n O' H') ?_ m0 ⟨O,H,I,w0⟩);rintro n s1 ⟨O1,H1,I1,w1⟩;refine aeR hp (ez (hc pins s1 O1 H1 _ I1 (turn n O1 H1 w1)) λb s2 hh=>?_);obtain⟨H2,I2,q2⟩:=hh;cases b with
 |true=>
  obtain⟨N,hN,q2⟩:=q2;rw[if_pos rfl];refine aeR hp (ez (hb pins s2 O1 H2 _ I2 q2) λf s3 q3=>?_);cases f with
  |next=>
   obtain⟨O3,H3,I3,n3⟩:=q3;obtain⟨m',hm,w3⟩:=hN O3 H3 n3;exact⟨m',hm,O3,H3,I3,w3⟩
  |cont=>
   obtain⟨O3,H3,I3,n3⟩:=q3;obtain⟨m',hm,w3⟩:=hN O3 H3 n3;exact⟨m',hm,O3,H3,I3,w3⟩
  |brk=>exact q3
  |ret v=>exact q3
 |false=>
  rw[if_neg afN];exact agh ⟨O1,H2,I2,q2⟩
end
structure It where
 go:Nat->Hp->Prop
 To:Nat->Hp->V->Hp->Prop
 stop:Nat->Hp->Prop
def sN(X:Cx)(pins:AAG)(H:Hp)(b:Addr):Prop:=
 H b=none/\b≠X.env.locals/\b∉X.fs/\(b∈X.ex\/X.s₀.heap.objs.size<=b)/\(∀x c,X.env.cells.lookup x=some c->c≠b)/\∀p∈X.pn++pins,p.1≠b
def Inv.OE{s:Shared}{b:Addr}(I:Inv X pins O H s)(hb:c_<=b)(hn:H' b=none):sN X pins H' b:=by
 refine⟨hn,agJ (aaU I.lt hb),I.Xy hb,.inr (aaY I.sz hb),λx c e z=>?_,λp hp z=>?_⟩
 .obtain⟨v,q⟩:=I.cell x c e;exact absurd (aaU q.lt (by rw[z];exact hb)) (adX _)
 .exact absurd (aaU (aaX (I.pin p hp).1) (by rw[z];exact hb)) (adX _)
structure Turn(P:Program)(w:World)(K:AAD)(tg:Expr)(J:It)(fp:BBE)(it:Addr)(tn:Nat->Heap->Prop):Prop where
 mem:it∈fp
 obj:∀i h,tn i h->∀b∈fp,∃o,h.get? b=some o/\∀v,o.data≠.cell v
 keep:∀i h h',tn i h->(∀b∈fp,∀o,h.get? b=some o->h'.get? b=some o)->tn i h'
 item:∀(X:Cx),X.prog=P->X.w=w->X.K=K->X.calm=true->∀(i:Nat)(pins:AAG)(s:Shared)(O:St)(H:Hp)(E:AAE),Inv X pins O H s->(∀b∈fp,sN X pins H b)->tn i s.heap->J.go i H->
  wpAny (model P w) X.A (pyNext (.ref it)) (λr s1=>∃u,r=some u/\
   wpAny (model P w) X.A (letOwnedTupleGo tg (.ref it) u) (λ_ s2=>∃x H',Inv X pins O H' s2/\RelV x u/\J.To i H x H'/\tn (i+1) s2.heap/\∀b∈fp,H' b=none) E s1) E s
 done:∀(X:Cx),X.prog=P->X.w=w->X.K=K->X.calm=true->∀(i:Nat)(pins:AAG)(s:Shared)(O:St)(H:Hp)(E:AAE),Inv X pins O H s->(∀b∈fp,sN X pins H b)->tn i s.heap->J.stop i H->
  wpAny (model P w) X.A (pyNext (.ref it)) (λr s1=>r=none/\Inv X pins O H s1) E s
 self:∀(A:Around)(i:Nat)(s:Shared)(Q:AAE)(E:AAE),tn i s.heap->Q (.ref it) s->wpAny (model P w) A (pyIter (.ref it)) Q E s
abbrev TI:=St->Hp->(It->Hp->Prop)->Prop
def PIE(X:Cx)(pins:AAG)(O:St)(tg:Expr)(R:It->Hp->Prop)(itv:Value)(s2:Shared):Prop:=
 ∃(it:Addr)(fp:BBE)(tn:Nat->Heap->Prop)(J:It)(H':Hp),itv= .ref it/\Inv X pins O H' s2/\Turn X.prog X.w X.K tg J fp it tn/\tn 0 s2.heap/\(∀b∈fp,sN X pins H' b)/\R J H'
def PI(X:Cx)(tg iter:Expr)(wi:TI):Prop:=
 ∀(pins:AAG)(s:Shared)(O:St)(H:Hp)(R:It->Hp->Prop),Inv X pins O H s->wi O H R->
  wpAny d_ X.A (eval iter X.env) (λv s1=>wpAny d_ X.A (pyIter v) (PIE X pins O tg R) X.xe s1) X.xe s
def K5{s:Shared}{it:Addr}{n:String}{vs:AAK}{Q:Unit->Shared->Prop}(ho:s.heap.get? it=some o)(hc:o.cls= .type n)(hd:o.data= .fields vs)
    (hn:["enumerate","zip","dict_itemiterator","dict_reverseitemiterator","odict_iterator","itertools.zip_longest","itertools.pairwise"].contains n=false)(hQ:Q () s):wpAny M A (letOwnedTupleGo tg (.ref it) u) Q E s:=by
  unfold letOwnedTupleGo;cases tg<;>first
    |exact wpAny_pure hQ
    | (cases u <;> first
        |exact wpAny_pure hQ
        | (refine aam (wpAny_load ho ?_)
           rw[hc,hd];show wpAny M A (if(["enumerate","zip","dict_itemiterator","dict_reverseitemiterator","odict_iterator","itertools.zip_longest","itertools.pairwise"].contains n && vs[0]? == some (rawInt _))=true then _ else _) Q E s;rw[if_neg (by intro h;rw[hn,agp]at h;cases h)];exact wpAny_pure hQ))
noncomputable def Itl(K:AAD)(a:Addr):It:=
 ⟨λi H=>∃xs x,mX K H a xs/\xs[i]? =some x,λi H x H'=>H'=H/\∀xs,mX K H a xs->xs[i]? =some x,λi H=>∃xs,mX K H a xs/\xs.length<=i⟩
noncomputable def Itt(K:AAD)(a:Addr):It:=
 ⟨λi H=>∃xs x,A6 K H a xs/\xs[i]? =some x,λi H x H'=>H'=H/\∀xs,A6 K H a xs->xs[i]? =some x,λi H=>∃xs,A6 K H a xs/\xs.length<=i⟩
noncomputable def XO(lo:Int)(n:Nat):It:=⟨λi _=>i<n,λi H x H'=>H'=H/\x= .int (lo+i),λi _=>n<=i⟩
def IX(a it:Addr):Turn P w K tg (Itl K a) [it] it (λi h=>h.IsListIter it a i) where
 mem:=by simp
 obj:=λi h st b hb=>by
  have e:b=it:=by simpa using hb
  subst e;obtain⟨o,e,c,d⟩:=st;exact⟨o,e,λv z=>by rw[d]at z;cases z⟩
 keep:=λi h h' st k=>st.at λo e=>k it (by simp) o e
 item:=by
  intro X hP hw hK hc i pins s O H E I hf st hg;subst hP hw hK;obtain⟨xs,x,hq,hx⟩:=hg;obtain⟨its,rv,p,hz⟩:=I.list hq;obtain⟨u,hu,ru⟩:=rv.get hx;obtain⟨f0,f1,f2,f3,f4,f5⟩:=hf it (by simp);refine wpAny_pyNext_list_item st p.isList (x:=u) (by simpa using hu) λh' st' sb=>?_;have I1:Inv X pins O H {s with heap:=h'}:=I.turned (t':=s.toks) (λb o hb e=>(sb.2 b hb).trans e) f0 f1 f3 f4 f5;obtain⟨o,e,c,d⟩:=id st';exact⟨u,rfl,K5 (s:={s with heap:=h'}) e c d b_ ⟨x,H,I1,ru,⟨rfl,λys hy=>by rw[I.K1 hy hq];exact hx⟩,st',λb hb=>(hf b hb).1⟩⟩
 done:=by
  intro X hP hw hK hc i pins s O H E I hf st hg;subst hP hw hK;obtain⟨xs,hq,hx⟩:=hg;obtain⟨its,rv,p,hz⟩:=I.list hq;obtain⟨f0,f1,f2,f3,f4,f5⟩:=hf it (by simp);have hl:=rv.length;exact wpAny_pyNext_list_end (I.ok.hd hc) st p.isList (by simp;lia) λh' eb=>⟨rfl,I.turned (t':=s.toks) (λb o hb e=>eb b o hb e) f0 f1 f3 f4 f5⟩
 self:=λ_ _ _ _ _ st h=>wpAny_pyIter_listiter st h
def Fx(a it:Addr):Turn P w K tg (Itt K a) [it] it (λi h=>h.IsTupleIter it a i) where
 mem:=by simp
 obj:=λi h st b hb=>by
  have e:b=it:=by simpa using hb
  subst e;obtain⟨o,e,c,d⟩:=st;exact⟨o,e,λv z=>by rw[d]at z;cases z⟩
 keep:=λi h h' st k=>st.at λo e=>k it (by simp) o e
 item:=by
  intro X hP hw hK hc i pins s O H E I hf st hg;subst hP hw hK;obtain⟨xs,x,hq,hx⟩:=hg;obtain⟨its,rv,p,hz⟩:=I.tuple hq;obtain⟨u,hu,ru⟩:=rv.get hx;obtain⟨f0,f1,f2,f3,f4,f5⟩:=hf it (by simp);refine wpAny_pyNext_tuple_item st (show s.heap.IsTuple a its.toArray from p) (x:=u) (by simpa using hu) λh' st' sb=>?_;have I1:Inv X pins O H {s with heap:=h'}:=I.turned (t':=s.toks) (λb o hb e=>(sb.2 b hb).trans e) f0 f1 f3 f4 f5;obtain⟨o,e,c,d⟩:=id st';exact⟨u,rfl,K5 (s:={s with heap:=h'}) e c d b_ ⟨x,H,I1,ru,⟨rfl,λys hy=>by rw[I.IW hy hq];exact hx⟩,st',λb hb=>(hf b hb).1⟩⟩
 done:=by
  intro X hP hw hK hc i pins s O H E I hf st hg;subst hP hw hK;obtain⟨xs,hq,hx⟩:=hg;obtain⟨its,rv,p,hz⟩:=I.tuple hq;obtain⟨f0,f1,f2,f3,f4,f5⟩:=hf it (by simp);have hl:=rv.length;exact wpAny_pyNext_tuple_end (I.ok.hd hc) st (show s.heap.IsTuple a its.toArray from p) (by simp;lia) λh' eb=>⟨rfl,I.turned (t':=s.toks) (λb o hb e=>eb b o hb e) f0 f1 f3 f4 f5⟩
 self:=λ_ _ _ _ _ st h=>wpAny_pyIter_tupleiter st h
def Fy(it:Addr)(lo:Int)(n:Nat):Turn P w K tg (XO lo n) [it] it (λi h=>IsRangeIter h it (lo+(i:Nat)*1) ((n:Int)-(i:Nat)) 1) where
 mem:=by simp
 obj:=λi h st b hb=>by
  have e:b=it:=by simpa using hb
  subst e;exact⟨_,st,λv z=>by
   have z':Data.fields _=Data.cell v:=z;cases z'⟩
 keep:=λi h h' st k=>k it (by simp) _ st
 item:=by
  intro X hP hw hK hc i pins s O H E I hf st hg;subst hP hw hK;obtain⟨f0,f1,f2,f3,f4,f5⟩:=hf it (by simp);have W:=Walks.range (prog:=X.prog) (w:=X.w) (I.ok.hd hc) it lo 1 n;refine W.item i s _ _ hg st λv h' tk hv st' kk=>?_;obtain⟨t,rfl⟩:=hv;have I1:Inv X pins O H {s with heap:=h',toks:=tk}:=I.turned (λb o hb e=>kk b o (by simpa using hb) e) f0 f1 f3 f4 f5;refine⟨_,rfl,K5 (s:={s with heap:=h',toks:=tk}) (n:="range_iterator") st' rfl rfl b_ ⟨.int (lo+i),H,I1,⟨t,?_⟩,⟨rfl,rfl⟩,st',λb hb=>(hf b hb).1⟩⟩;rw[Int.mul_one]
 done:=by
  intro X hP hw hK hc i pins s O H E I hf st hg;subst hP hw hK;obtain⟨f0,f1,f2,f3,f4,f5⟩:=hf it (by simp);exact wpAny_pyNext_range_end (I.ok.hd hc) st (by have:n<=i:=hg;lia) λh' eb=>⟨rfl,I.turned (t':=s.toks) (λb o hb e=>eb b o hb e) f0 f1 f3 f4 f5⟩
 self:=λ_ _ _ _ _ st h=>wpAny_pyIter_rangeiter st h
section
variable {X:Cx}{tg:Expr}
def K6(K:AAD)(tl:TE):TI:=λO H R=>tl O H λx H1=>∃a,x= .ref a/\(∃xs,mX K H1 a xs)/\R (Itl K a) H1
def acq(K:AAD)(tl:TE):TI:=λO H R=>tl O H λx H1=>∃a,x= .ref a/\(∃xs,A6 K H1 a xs)/\R (Itt K a) H1
def B8{l:Expr}{tl:TE}(hl:PE X l tl):PI X tg l (K6 X.K tl):=by
 intro pins s O H R I h;refine ez (hl pins s O H _ I h) λv s1 hh=>?_;obtain⟨x,H1,I1,r1,q1⟩:=hh;obtain⟨a,e,⟨xs,hq⟩,q⟩:=q1;subst e;cases r1;obtain⟨its,rv,p,hz⟩:=I1.list hq;refine af3 p.isList ?_;refine⟨s1.heap.objs.size,[s1.heap.objs.size],_,_,H1,rfl,I1.kept (t':=s1.toks) λb o e=>aaE _ e,IX a _,⟨_,aaZ _ rfl,rfl,rfl⟩,λb hb=>?_,q⟩;have e:b=s1.heap.objs.size:=by simpa using hb
 subst e;exact I1.OE (aaP _) (I1.hok.fresh (aaP _))
def K7{l:Expr}{tl:TE}(hl:PE X l tl):PI X tg l (acq X.K tl):=by
 intro pins s O H R I h;refine ez (hl pins s O H _ I h) λv s1 hh=>?_;obtain⟨x,H1,I1,r1,q1⟩:=hh;obtain⟨a,e,⟨xs,hq⟩,q⟩:=q1;subst e;cases r1;obtain⟨its,rv,p,hz⟩:=I1.tuple hq;refine wpAny_pyIter_tuple (show s1.heap.IsTuple a its.toArray from p) ?_;refine⟨s1.heap.objs.size,[s1.heap.objs.size],_,_,H1,rfl,I1.kept (t':=s1.toks) λb o e=>aaE _ e,Fx a _,⟨_,aaZ _ rfl,rfl,rfl⟩,λb hb=>?_,q⟩;have e:b=s1.heap.objs.size:=by simpa using hb
 subst e;exact I1.OE (aaP _) (I1.hok.fresh (aaP _))
def DP{s:Shared}{R:It->Hp->Prop}{lo hi:Int}{t u v:Tok}{tk:Nat}(I:Inv X pins O H s)(h1:-(2 ^ 62)<=lo)(h2:lo<2 ^ 62)(h3:-(2 ^ 62)<=hi)(h4:hi<2 ^ 62)
  (q:R (XO lo (hi-lo).toNat) H):wpAny d_ X.A (pyIter (.ref c_)) (PIE X pins O tg R) E {s with heap:=s.heap.push {cls:=.type "range",data:=.fields #[.int lo t,.int hi u,.int 1 v]},toks:=tk}:=by
 refine wpAny_pyIter_range (IsRange.new ..) (small_one h1 h2 h3 h4) ?_;have I1:Inv X pins O H {s with heap:=s.heap.push {cls:=.type "range",data:=.fields #[.int lo t,.int hi u,.int 1 v]},toks:=tk}:=I.kept λb o e=>aaE _ e;refine⟨(s.heap.push {cls:=.type "range",data:=.fields #[.int lo t,.int hi u,.int 1 v]}).objs.size,[(s.heap.push {cls:=.type "range",data:=.fields #[.int lo t,.int hi u,.int 1 v]}).objs.size],_,_,H,rfl,
  I1.kept (t':=tk) λb o e=>aaE _ e,Fy _ lo (hi-lo).toNat,?_,λb hb=>?_,q⟩
 .have e1:lo+((0:Nat):Int)*1=lo:=by simp
  have e2:(((hi-lo).toNat:Nat):Int)-((0:Nat):Int)=Builtin.Range.rangeSize lo hi 1:=by rw[rangeSize_one];split<;>lia
  show IsRangeIter _ _ (lo+((0:Nat):Int)*1) ((((hi-lo).toNat:Nat):Int)-((0:Nat):Int)) 1;rw[e1,e2];exact aaZ _ rfl
 .have e:b=(s.heap.push {cls:=.type "range",data:=.fields #[.int lo t,.int hi u,.int 1 v]}).objs.size:=by simpa using hb
  subst e;exact I1.OE (aaP _) (I1.hok.fresh (aaP _))
def XQ(ta:TA):TI:=λO H R=>ta O H λvs H1=>∃j:Int,vs=[.int j]/\-(2 ^ 62)<=j/\j<2 ^ 62/\R (XO 0 j.toNat) H1
def XR(ta:TA):TI:=λO H R=>ta O H λvs H1=>∃i j:Int,vs=[.int i,.int j]/\(-(2 ^ 62)<=i/\i<2 ^ 62/\-(2 ^ 62)<=j/\j<2 ^ 62)/\R (XO i (j-i).toNat) H1
def IY{a:Expr}{ta:TA}{p:Pos}(hg:Gl X "range")(hm:X.mg "range" =none)(ha:PA X [a] ta)(hs:starEach [a] X.env=[(false,eval a X.env)]:=by rfl):PI X tg (.Call (.Name "range" p) [a] [] pos) (XQ ta):=by
 intro pins s O H R I h;refine Call_ (mz I hg hm boot_range (aeP (ez (ha pos pins s O H _ I h) λus s1 hh=>?_) hs rfl));obtain⟨vs,H1,I1,r1,q1⟩:=hh;obtain⟨j,e,q1,q2,q⟩:=q1;subst e;cases r1 with
 |cons r rr=>
  cases rr;obtain⟨t,rfl⟩:=r;exact call_range_1 (DP I1 a_ a_ q1 q2 (by simpa using q))
def IZ{a b:Expr}{ta:TA}{p:Pos}(hg:Gl X "range")(hm:X.mg "range" =none)(ha:PA X [a,b] ta)(hs:starEach [a,b] X.env=[(false,eval a X.env),(false,eval b X.env)]:=by rfl)(hs2:starEach [b] X.env=[(false,eval b X.env)]:=by rfl):
  PI X tg (.Call (.Name "range" p) [a,b] [] pos) (XR ta):=by
 intro pins s O H R I h;refine Call_ (mz I hg hm boot_range (aeP (ez (ha pos pins s O H _ I h) λus s1 hh=>?_) (by rw[hs,hs2]) (by rw[hs2];rfl)));obtain⟨vs,H1,I1,r1,q1⟩:=hh;obtain⟨i,j,e,⟨q1,q2,q3,q4⟩,q⟩:=q1;subst e;cases r1 with
 |cons r rr=>
  cases rr with
  |cons r' rr=>
   cases rr;obtain⟨t,rfl⟩:=r;obtain⟨t',rfl⟩:=r';exact call_range_2 (DP I1 q1 q2 q3 q4 q)
def acr(wi:TI)(g:TG)(tb:TS):TS:=λD O H=>wi O H λJ H1=>∃W:Nat->Nat->St->Hp->Prop,(∃m,W 0 m O H1)/\∀i m O H,W i m O H->
 (J.stop i H/\D.nx O H)\/(J.go i H/\∃N:St->Hp->Prop,(∀O' H',N O' H'->∃m',m' < m/\W (i+1) m' O' H')/\∀x H',J.To i H x H'->g x O H' λO2 H2=>tb {D with nx:=N,ct:=N,bk:=D.nx} O2 H2)
noncomputable def sO(fp:BBE)(h:Heap):List (Addr×Obj):=fp.filterMap λb=>(h.get? b).map λo=>(b,o)
def gH{h:Heap}{b:Addr}(hb:b∈fp)(e:h.get? b=some o):(b,o)∈sO fp h:=List.mem_filterMap.mpr ⟨b,hb,by rw[e];rfl⟩
def A7{h:Heap}{p:Addr×Obj}(hp:p∈sO fp h):p.1∈fp/\h.get? p.1=some p.2:=by
 obtain⟨b,hb,e⟩:=List.mem_filterMap.mp hp;cases q:h.get? b with
 |none=>rw[q]at e;cases e
 |some o=>
  rw[q]at e;have e':(b,o)=p:=abT e;subst e';exact⟨hb,q⟩
def Inv.pinned{s:Shared}(I:Inv X pins O H s)(hf:∀b∈fp,sN X pins H b)(ho:∀b∈fp,∃o,s.heap.get? b=some o/\∀v,o.data≠.cell v):Inv X (pins++sO fp s.heap) O H s:=
 I.G2 λp hp=>(abu.mp hp).elim (λz=>I.pin p (abE _ z)) λz=>by
  obtain⟨hb,e⟩:=A7 z;obtain⟨f0,f1,f2,_⟩:=hf p.1 hb;obtain⟨o,e',d⟩:=ho p.1 hb;rw[e]at e';cases e';exact⟨e,f0,f1,f2,d⟩
def Inv.qc{pl:AAG}{s:Shared}(I:Inv X (pins++pl) O H s):Inv X pins O H s:=I.G2 λp hp=>I.pin p (abE _ (acp _ hp))
def Tp{iter:Expr}{wi:TI}{g:TG}{tb:TS}(hp:PassesOwn d_ X.A X.env X.xe)(hc:X.calm=true)(hi:PI X tg iter wi)(hg:PG X tg g)(hb:vG X body tb)
  (hs:∀x,foldedSetIterable iter X.env x=pure x:=by intro _;rfl):PS X (.For tg iter body [] pos) (acr wi g tb):=by
 intro pins s O H D I h;refine wpAny_For (ez (hi pins s O H _ I h) λv s1 h1=>ez h1 λitv s2 h2=>?_) hs;obtain⟨it,fp,tn,J,H2,e,I2,T,st2,f2,W,⟨m0,w0⟩,turn⟩:=h2;subst e;have Tq:∀{H':Hp},(∀b∈fp,H' b=none)->∀b∈fp,sN X pins H' b:=λhn b hb=>⟨hn b hb,(f2 b hb).2⟩
 refine codeAny_forLoop_any (λn s'=>∃i O' H',Inv X pins O' H' s'/\tn i s'.heap/\(∀b∈fp,H' b=none)/\W i n O' H') ?_ m0 ⟨0,O,H2,I2,st2,λb hb=>(f2 b hb).1,w0⟩;rintro n s3 ⟨i,O3,H3,I3,st3,fr3,w3⟩;rcases turn i n O3 H3 w3 with⟨stop,qn⟩|⟨go,N,hN,step⟩
 .refine aeR hp (ez (T.done X rfl rfl rfl hc i pins s3 O3 H3 X.xe I3 (Tq fr3) st3 stop) λr s4 hh=>?_);obtain⟨hr,I4⟩:=hh;subst hr;exact agh ⟨O3,H3,I4,qn⟩
 .refine aeR hp (ez (T.item X rfl rfl rfl hc i pins s3 O3 H3 X.xe I3 (Tq fr3) st3 go) λr s4 hh=>?_);obtain⟨u,hr,h4⟩:=hh;subst hr;refine aeR hp (ez h4 λ_ s5 hh=>?_);obtain⟨x,H5,I5,r5,y5,st5,fr5⟩:=hh;have I5':=I5.pinned (Tq fr5) (T.obj _ _ st5);refine aeR hp (ez (hg _ s5 O3 H5 x u _ I5' r5 (step x H5 y5)) λ_ s6 hh=>?_);obtain⟨O6,H6,I6,q6⟩:=hh;refine aeR hp (ez (hb _ s6 O6 H6 _ I6 q6) λf s7 q7=>?_);have again:∀{K8:St}{H7:Hp},Inv X (pins++sO fp s5.heap) K8 H7 s7->N K8 H7->∃m,m<n/\∃i O' H',Inv X pins O' H' s7/\tn i s7.heap/\(∀b∈fp,H' b=none)/\W i m O' H':=λ{K8 H7} I7 n7=>by
   obtain⟨m',hm,w7⟩:=hN K8 H7 n7;refine⟨m',hm,i+1,K8,H7,I7.qc,T.keep _ _ _ st5 λb hb o e=>(I7.pin (b,o) (abE _ (abE _ (gH hb e)))).1,λb hb=>?_,w7⟩;obtain⟨o,e,d⟩:=T.obj _ _ st5 b hb;exact(I7.pin (b,o) (abE _ (abE _ (gH hb e)))).2.1
  cases f with
  |next=>obtain⟨K8,H7,I7,n7⟩:=q7;exact again I7 n7
  |cont=>obtain⟨K8,H7,I7,n7⟩:=q7;exact again I7 n7
  |brk=>obtain⟨K8,H7,I7,q7⟩:=q7;exact⟨K8,H7,I7.qc,q7⟩
  |ret v=>obtain⟨x7,K8,H7,I7,r7,q7⟩:=q7;exact⟨x7,K8,H7,I7.qc,r7,q7⟩
end
abbrev R2:=V->V->Hp->VK->Prop
def yg(X:Cx)(f:Value->Value->Sem Value)(r:R2):Prop:=
 ∀(pins:AAG)(s:Shared)(O:St)(H:Hp)(x y:V)(v u:Value)(Q:VK),Inv X pins O H s->RelV x v->RelV y u->r x y H Q->
  wpAny d_ X.A (f v u) (EP X pins O Q) X.xe s
def gY(X:Cx)(f:Value)(r:List V->Hp->VK->Prop):Prop:=
 ∀(pins:AAG)(s:Shared)(O:St)(H:Hp)(xs:List V)(us:AAL)(Q:VK),Inv X pins O H s->Vals xs us->r xs H Q->
  wpAny d_ X.A (call f us) (EP X pins O Q) X.xe s
def Tt(r:R2)(ta tb:TE):TE:=λO H Q=>ta O H λx H1=>tb O H1 λy H2=>r x y H2 Q
def rI(C:Int->Int->Prop)(g:Int->Int->V):R2:=λx y H Q=>∃i j,x= .int i/\y= .int j/\C i j/\Q (g i j) H
def OF(g:Int->Int->V):R2:=λx y H Q=>∃i j,x= .int i/\y= .int j/\Q (g i j) H
section
variable {X:Cx}{a b:Expr}{ta tb:TE}{pos:Pos}
def Tu(ha:PE X a ta)(hb:PE X b tb){s:Shared}{R:V->V->Hp->Prop}(I:Inv X pins O H s)
  (h:ta O H λx H1=>tb O H1 λy H2=>R x y H2){f:Value->Value->Sem Value}
  (hf:∀v u s2 x y H2,Inv X pins O H2 s2->RelV x v->RelV y u->R x y H2->wpAny d_ X.A (f v u) Q X.xe s2):
  wpAny d_ X.A (eval a X.env) (λv s₁=>wpAny d_ X.A (eval b X.env) (λu s₂=>wpAny d_ X.A (f v u) Q X.xe s₂) X.xe s₁) X.xe s:=by
 refine ez (ha pins s O H _ I h) λv s1 hh=>?_;obtain⟨x,H1,I1,r1,q1⟩:=hh;refine ez (hb pins s1 O H1 _ I1 q1) λu s2 hh=>?_;obtain⟨y,H2,I2,r2,q2⟩:=hh;exact hf v u s2 x y H2 I2 r1 r2 q2
def XS{op:Operator}(ho:yg X (binaryOp op) r)(ha:PE X a ta)(hb:PE X b tb):PE X (.BinOp a op b pos) (Tt r ta tb):=by
 intro pins s O H Q I h;exact wpAny_BinOp (Tu ha hb I h λv u s2 x y H2 I2 rx ry q=>ho pins s2 O H2 x y v u Q I2 rx ry q)
def WK{f:Value->Value->Sem Value}{C:Int->Int->Prop}
  (rule:∀(i j:Int)(t u:Tok)(s:Shared)(Q:AAE)(E:AAE),C i j->Q (.int (g i j) s.toks) {s with toks:=s.toks+1}->wpAny d_ X.A (f (.int i t) (.int j u)) Q E s):
  yg X f (rI C λi j=>.int (g i j)):=by
 intro pins s O H x y v u Q I rx ry h;obtain⟨i,j,rfl,rfl,hc,q⟩:=h;obtain⟨t,rfl⟩:=rx;obtain⟨t',rfl⟩:=ry;exact rule i j t t' s _ _ hc ⟨.int (g i j),H,I.tok _,⟨_,rfl⟩,q⟩
def OG{f:Value->Value->Sem Value}
  (rule:∀(i j:Int)(t u:Tok)(s:Shared)(Q:AAE)(E:AAE),Q (.int (g i j) s.toks) {s with toks:=s.toks+1}->wpAny d_ X.A (f (.int i t) (.int j u)) Q E s):
  yg X f (OF λi j=>.int (g i j)):=by
 intro pins s O H x y v u Q I rx ry h;obtain⟨i,j,rfl,rfl,q⟩:=h;obtain⟨t,rfl⟩:=rx;obtain⟨t',rfl⟩:=ry;exact rule i j t t' s _ _ ⟨.int (g i j),H,I.tok _,⟨_,rfl⟩,q⟩
def Tv{f:Value->Value->Sem Value}{g:Int->Int->Bool}
  (rule:∀(i j:Int)(t u:Tok)(s:Shared)(Q:AAE)(E:AAE),Q (.bool (g i j)) s->wpAny d_ X.A (f (.int i t) (.int j u)) Q E s):
  yg X f (OF λi j=>.bl (g i j)):=by
 intro pins s O H x y v u Q I rx ry h;obtain⟨i,j,rfl,rfl,q⟩:=h;obtain⟨t,rfl⟩:=rx;obtain⟨t',rfl⟩:=ry;exact rule i j t t' s _ _ ⟨.bl (g i j),H,I,rfl,q⟩
def XT(i j:Int):Prop:=0<j/\j<1073741824
def XU(i j:Int):Prop:=0<=j/\j<=1000000/\i.natAbs<2 ^ 64
def Tz(i j:Int):Prop:=(-(2 ^ 64)<i/\i<2 ^ 64)\/(-(2 ^ 64)<j/\j<2 ^ 64)
def Tz.ok{i j:Int}(h:Tz i j):IntMulOk i j:=by
 rcases h with⟨h1,h2⟩|⟨h1,h2⟩
 .exact .of_left (intBits_le_64 h1 h2)
 .exact .of_right (intBits_le_64 h1 h2)
def Fz(k:Nat):(0:Int)<=2 ^ k:=by
 rw[two_pow_cast];exact Int.natCast_nonneg _
def TF:yg X (binaryOp .Add) (OF λi j=>.int (i+j)):=OG λ_ _ _ _ _ _ _ q=>add_int q
def TH:yg X (binaryOp .Sub) (OF λi j=>.int (i-j)):=OG λ_ _ _ _ _ _ _ q=>sub_int q
def TJ:yg X (binaryOp .Mult) (rI Tz λi j=>.int (i*j)):=WK λ_ _ _ _ _ _ _ hc q=>mul_int q hc.ok
def OH:yg X (binaryOp .FloorDiv) (rI XT λi j=>.int (i / j)):=WK λi j _ _ _ _ _ hc q=>by
 have h1:(0:Int)<j:=hc.1;have h2:j<1073741824:=hc.2;exact floordiv_int a_ (by rw[agu i a_];exact q) (.inl (PyProof.noPylong_small a_))
def TM:yg X (binaryOp .Mod) (rI (λ_ j=>0<j) λi j=>.int (i % j)):=WK λi j _ _ _ _ _ hc q=>by
 have h1:(0:Int)<j:=hc;exact mod_int' a_ (by rw[Int.fmod_eq_emod_of_nonneg i a_];exact q)
def TN:yg X (binaryOp .Pow) (rI XU λi j=>.int (i ^ j.toNat)):=WK λ_ _ _ _ _ _ _ hc q=>pow_int_small hc.1 hc.2.1 hc.2.2 q
def TQ:yg X (binaryOp .LShift) (rI XU λi j=>.int (i*2 ^ j.toNat)):=WK λ_ _ _ _ _ _ _ hc q=>lshift_int_small hc.1 hc.2.1 hc.2.2 q
def TR:yg X (binaryOp .RShift) (rI (λ_ j=>0<=j) λi j=>.int (i / 2 ^ j.toNat)):=WK λi j _ _ _ _ _ hc q=>
 rshift_int hc (by rw[agu i (Fz _)];exact q)
def TU:yg X (binaryOp .BitAnd) (OF λi j=>.int (Builtin.bitAnd i j)):=OG λ_ _ _ _ _ _ _ q=>and_int q
def XW:yg X (binaryOp .BitOr) (OF λi j=>.int (Builtin.bitOr i j)):=OG λ_ _ _ _ _ _ _ q=>or_int q
end
section
variable {X:Cx}{a b c:Expr}{ta tb:TE}{pos:Pos}
def XX:yg X (compareOp .Lt) (OF λi j=>.bl (decide (i<j))):=Tv λ_ _ _ _ _ _ _ q=>lt_int q
def XY:yg X (compareOp .Gt) (OF λi j=>.bl (decide (j<i))):=Tv λ_ _ _ _ _ _ _ q=>gt_int q
def XZ:yg X (compareOp .GtE) (OF λi j=>.bl (decide (j<=i))):=Tv λ_ _ _ _ _ _ _ q=>ge_int q
def K9(b:Expr)(h:op≠.In:=by decide)(h2:op≠.NotIn:=by decide):behindInMarks op b=false:=by
 have e1:(op == CmpOp.In)=false:=by cases op<;>first|rfl|exact absurd rfl h
 have e2:(op == CmpOp.NotIn)=false:=by cases op<;>first|rfl|exact absurd rfl h2
 cases b<;>simp[behindInMarks,e1,e2]
def G4(ho:yg X (compareOp op) r)(ha:PE X a ta)(hb:PE X b tb)(hm:behindInMarks op b=false):PE X (.Compare a [op] [b] pos) (Tt r ta tb):=by
 intro pins s O H Q I h;exact wpAny_Compare1 (Tu ha hb I h λv u s2 x y H2 I2 rx ry q=>ho pins s2 O H2 x y v u Q I2 rx ry q) hm
def X0(t:TE):TT:=λO H Q=>t O H λx H'=>∃k,x= .bl k/\Q k H'
def B9(ho:yg X (compareOp op) r)(ha:PE X a ta)(hb:PE X b tb)(hm:behindInMarks op b=false):PT X (.Compare a [op] [b] pos) (X0 (Tt r ta tb)):=by
 intro pins s O H Q I h;refine wpAny_isTrue_Compare1 (ez (ha pins s O H _ I h) λv s1 ⟨x,H1,I1,r1,q1⟩=>ez (hb pins s1 O H1 _ I1 q1) λu s2 ⟨y,H2,I2,r2,q2⟩=>
  ez (ho pins s2 O H2 x y v u _ I2 r1 r2 q2) λc s3 ⟨z,H3,I3,r3,k,e,q3⟩=>?_) hm
 subst e;cases r3;exact aeG ⟨H3,I3,q3⟩
def yH:(sizeLine:Nat)<2 ^ 63:=by rw[acT];decide
def vals1{x:V}(r:Vals [x] us):∃u,us=[u]/\RelV x u:=by
 cases r with
 |cons r1 r2=>cases r2;exact⟨_,rfl,r1⟩
def vals2{x:V}(r:Vals [x,y] us):∃u w',us=[u,w']/\RelV x u/\RelV y w':=by
 cases r with
 |cons r1 r2=>
  cases r2 with
  |cons r3 r4=>cases r4;exact⟨_,_,rfl,r1,r3⟩
def I0(hc:X.calm=true):gY X (.builtin "min") (λxs H Q=>∃i j,xs=[.int i,.int j]/\Q (.int (if j<i then j else i)) H):=by
 intro pins s O H xs us Q I r h;obtain⟨i,j,rfl,q⟩:=h;obtain⟨u,w',rfl,⟨t,rfl⟩,⟨t',rfl⟩⟩:=vals2 r;refine min_two_ints (I.ok.hd hc) λh' tk k=>⟨_,H,I.kept k,?_,q⟩
 by_cases hj:j<i
 .rw[if_pos hj,if_pos hj];exact⟨_,rfl⟩
 .rw[if_neg hj,if_neg hj];exact⟨_,rfl⟩
end
structure FA(h:Heap)(x dx C:Addr)(mA:AAF):Prop where
 obj:h.get? x=some (W.instObj C dx)
 ns:h.Ns1 dx mA
 ne:dx≠x
def Ja{h:Heap}{dx:Addr}(n:h.Ns1 dx mA):∃od,h.get? dx=some od/\∀name,W.lookIn name od=some (mA name):=by
 obtain⟨o,es,ep,ho,hd,hk,_,hm⟩:=n;refine⟨o,ho,λname=>?_⟩;have e:=hm name;unfold nsFind findBy at e;rw[<-Array.find?_toList]at e;unfold W.lookIn;rw[hd];dsimp only;split
 .rename_i y q;rw[q]at e;exact congrArg some e
 .rename_i q;rw[q]at e;have a:es.toList.any (·.refKey)=false:=by
   rw[afq];intro y hy;obtain⟨z,t,hkey⟩:=hk y (Array.mem_toList_iff.mp hy);simp[DictEntry.refKey,hkey]
  have a':¬es.toList.any (·.refKey)=true:=by rw[a];exact afN
  rw[if_neg a'];exact congrArg some e
def FA.look{h:Heap}{x dx:Addr}(I:FA h x dx C mA):∃od,W.InstAt h x (W.instObj C dx) C (some od)/\∀name,W.lookIn name od=some (mA name):=
 let⟨od,ho,hl⟩:=Ja I.ns
 ⟨od,⟨I.obj,rfl,rfl,ho⟩,hl⟩
section
variable {prog:Program}{w:World}{A:Around}{E:AAE}{s:Shared}{K:AAD}{x dx C f:Addr}{mA:AAF}{name:Str}{v:Value}
def get_map{expr:Bool}(X:K.In s.heap)(I:FA s.heap x dx C mA)(hg:W.plainGet K C name=true)(hh:W.hasDictIn K C=true)
  (ha:W.findIn K (.ref C) name=some none)(hv:mA name=some v)(hv':W.handedIn v=true)(h:Q v {s with toks:=s.toks+1}):
  wpAny g_ A (getAttr (.ref x) name expr) Q E s:=by
 obtain⟨od,J,hl⟩:=I.look;exact W.get_value X J (agl hg).1 (W.findObj_own hh ha rfl (by rw[hl,hv])) hv' h
def La{Q:Value×BBG->Shared->Prop}(X:K.In s.heap)(I:FA s.heap x dx C mA)(hg:W.plainGet K C name=true)
  (hf:W.findIn K (.ref C) name=some (some (.ref f)))(ht:W.isFn K (.ref f)=true)(hv:mA name=none)(h:Q (.ref f,[.ref x]) s):
  wpAny g_ A (getMethod (.ref x) name pl) Q E s:=by
 obtain⟨od,J,hl⟩:=I.look;exact W.method_fn X J (agl hg).1 (agl hg).2 hf (afW.mp ht) (by show(W.lookIn name od).map (·.isSome)=some false;rw[hl,hv];rfl) h
def OI{ns:BBB}{Q:Unit->Shared->Prop}(X:K.In s.heap)(I:FA s.heap x dx C mA)
  (hs:W.findIn K (.ref C) "__setattr__" =some (some (.builtin "object.__setattr__")))(hp:W.plainOver K C=true)(ht:W.takerIn K C name=some none)(hh:W.hasDictIn K C=true)
  (hw:PySem.Within mA ns)(hsz:ns.length<=sizeLine)
  (h:∀h',FA h' x dx C (λy=>if y=name then some v else mA y)->Heap.SameBut dx s.heap h'->Q () {s with heap:=h',toks:=s.toks+2}):
  wpAny g_ A (setAttr (.ref x) name v) Q E s:=by
 obtain⟨od,J,hl⟩:=I.look;refine W.set_plain X J hs (W.osa_open (s:={s with toks:=s.toks+1}) (r:=none) X J hp ht λb=>?_);obtain⟨cd,hc,hd'⟩:=W.any_some hh;have hx:s.heap.get? x=some ⟨.ref C,some dx,.plain,#[]⟩:=I.obj;refine aam (wpAny_pure (aam (aam (wpAny_loadPart hx (aam (W.Looks.here (s:={s with toks:=s.toks+1}) (W.looks_clsIn X hc) ?_))))));rw[hd'];refine wpAny_pure (a:=some dx) (aam (wpAny_pure (aam ?_)));refine wpAny_nsSet1 (s:={s with toks:=s.toks+1}) I.ns λh' hn2 hs2=>?_;obtain⟨oD,esD,epD,hoD,hdD,hcD⟩:=hn2.count (PySem.Within.cons name v hw);refine aam (wpAny_lookBehind hoD (by rw[hdD];exact pastItsLine_dict (aaY hcD (by rw[abD];lia))) ?_);exact wpAny_pure (h _ ⟨(hs2.2 _ (acH I.ne)).trans I.obj,hn2,I.ne⟩ hs2)
def Lb{R:Result->Shared->Prop}{vs:AAL}(X:K.In s.heap)(hm:W.makesIn K C=true)
  (hi:W.findIn K (.ref C) "__init__" =some (some (.ref f)))(hf:W.typeIn K (.ref f)=some (.type "function"))
  (h:codeAny g_ (A.under (.builtin "type.__call__" ⟨.ref C::vs,kw⟩)) (.call (.ref f) ⟨.ref (c_+1)::vs,kw⟩) (W.InitBack (c_+1) R)
   {s with heap:=(s.heap.push W.emptyDict).push (W.instObj C s.heap.objs.size)}):
  codeAny g_ A (.call (.ref C) ⟨vs,kw⟩) R s:=by
 obtain⟨hh,g,d,t,os⟩:=s;exact W.make_core (W.makes_of X hm) (W.looks_findIn X hi) (λself=>W.bind_fn X self hf) (.inl rfl) h
end
noncomputable def nX(f:Str)(v:V):List (Str×V)->List (Str×V)
 |[]=>[(f,v)]
 |(g,x)::r=>if g=f then(g,v)::r else(g,x)::nX f v r
theorem wX(f g:Str)(v:V):∀fs:List (Str×V),(nX f v fs).lookup g=if g=f then some v else fs.lookup g
 |[]=>by
  show List.lookup g [(f,v)]=_;by_cases h:g=f
  .have hb:(g == f)=true:=afW.mpr h;simp only[List.lookup,hb,if_pos h]
  .have hb:(g == f)=false:=ad0.mpr h;simp only[List.lookup,hb,if_neg h]
 |(k,x)::r=>by
  have ih:=wX f g v r;rw[show nX f v ((k,x)::r)=(if k=f then(k,v)::r else(k,x)::nX f v r) from rfl];by_cases hk:k=f
  .rw[if_pos hk];by_cases h:g=k
   .have hb:(g == k)=true:=afW.mpr h;simp only[List.lookup,hb,if_pos (h.trans hk)]
   .have hb:(g == k)=false:=ad0.mpr h;simp only[List.lookup,hb,if_neg (λe:g=f=>h (e.trans hk.symm))]
  .rw[if_neg hk];by_cases h:g=k
   .have hb:(g == k)=true:=afW.mpr h;simp only[List.lookup,hb,if_neg (λe:g=f=>hk (h.symm.trans e))]
   .have hb:(g == k)=false:=ad0.mpr h;simp only[List.lookup,hb];exact ih
theorem vH(f:Str)(v:V):∀fs:List (Str×V),f∈(nX f v fs).map (·.1)/\∀g,g∈fs.map (·.1)->g∈(nX f v fs).map (·.1)
 |[]=>⟨by simp[nX],λg h=>by simp at h⟩
 |(k,x)::r=>by
  obtain⟨i1,i2⟩:=vH f v r;rw[show nX f v ((k,x)::r)=(if k=f then(k,v)::r else(k,x)::nX f v r) from rfl];by_cases hk:k=f
  .rw[if_pos hk];subst hk;exact⟨by simp,λg h=>by simpa using h⟩
  .rw[if_neg hk];refine⟨?_,λg h=>?_⟩
   .rw[acd];exact aaR _ i1
   .rw[acd]at h ⊢;rcases aaV.mp h with e|e
    .exact aaV.mpr (.inl e)
    .exact aaR _ (i2 g e)
theorem wY(f:Str)(v:V):∀fs:List (Str×V),(nX f v fs).length<=fs.length+1
 |[]=>by simp[nX]
 |(k,x)::r=>by
  have ih:=wY f v r;rw[show nX f v ((k,x)::r)=(if k=f then(k,v)::r else(k,x)::nX f v r) from rfl];by_cases hk:k=f
  .rw[if_pos hk,abD,abD];lia
  .rw[if_neg hk,abD,abD];lia
def pY.some_of{v:V}{o:BBP}(r:pY (some v) o):∃u,o=some u/\RelV v u:=by
 cases o with
 |none=>exact(show False from r).elim
 |some u=>exact⟨u,rfl,r⟩
def pY.none_of{o:BBP}(r:pY none o):o=none:=by
 cases o with
 |none=>rfl
 |some u=>exact(show False from r).elim
def Jb{v:V}(r:RelV v u):W.handedIn u=true:=by
 cases v with
 |cI=>cases(show u=Value.none from r);rfl
 |bl b=>cases(show u=Value.bool b from r);rfl
 |int i=>obtain⟨t,e⟩:=(show ∃t,u=Value.int i t from r);cases e;rfl
 |str x=>obtain⟨t,e⟩:=(show ∃t,u=Value.str x t from r);cases e;rfl
 |ref a=>cases(show u=Value.ref a from r);rfl
 |ty n=>cases(show u=Value.type n from r);rfl
section
variable {P:Program}{w:World}{H:Hp}{h:Heap}{a C dx:Addr}{fs:List (Str×V)}
def Ca(hok:pO P w H h)(e:H a=some (.ins C dx fs)):∃mA,FA h a dx C mA/\(∀f,pY (fs.lookup f) (mA f))/\PySem.Within mA (fs.map (·.1))/\fs.length<=1000/\H dx=some (.own a):=by
 obtain⟨d,z,ne,ob,mA,n,r,q⟩:=(show eu P w H h a (.ins C dx fs) from hok a _ e)
 exact⟨mA,⟨ob,n,ne⟩,r,q,z,d⟩
end
structure A8(K:AAD)(C:Addr):Prop where
 pg:W.plainGet K C Str.empty=true
 hd:W.hasDictIn K C=true
 po:W.plainOver K C=true
 sa:W.findIn K (.ref C) "__setattr__" =some (some (.builtin "object.__setattr__"))
def A8.get(c:A8 K C)(f:Str):W.plainGet K C f=true:=c.pg
def fB(K:AAD)(C:Addr)(f:Str):Prop:=W.findIn K (.ref C) f=some none
def fB.X3{f:Str}(n:fB K C f):W.takerIn K C f=some none:=by
 unfold W.takerIn;rw[show W.findIn K (.ref C) f=some none from n];rfl
structure Meth(K:AAD)(C:Addr)(m:Str)(f:Addr):Prop where
 at_:W.findIn K (.ref C) m=some (some (.ref f))
 fn:W.isFn K (.ref f)=true
 kp:W.keepIn K (.ref f)=true
section
variable {X:Cx}{pins:AAG}{O:St}{H:Hp}{s:Shared}{a C dx:Addr}{fs:List (Str×V)}{f:Str}{v:V}{A:Around}{E:AAE}
def FD{b:Bool}(I:Inv X pins O H s)(e:H a=some (.ins C dx fs))(c:A8 X.K C)(n:fB X.K C f)(l:fs.lookup f=some v)
  (h:∀u s',Inv X pins O H s'->RelV v u->Q u s'):wpAny d_ A (getAttr (.ref a) f b) Q E s:=by
 obtain⟨mA,OO,r,_,_,_⟩:=Ca I.hok e;obtain⟨u,hu,ru⟩:=pY.some_of (v:=v) (o:=mA f) (by rw[<-l];exact r f);exact get_map I.DK OO (c.get f) c.hd n hu (Jb ru) (h u _ (I.tok _) ru)
def FE{m:Str}{g:Addr}{Q:Value×BBG->Shared->Prop}(I:Inv X pins O H s)(e:H a=some (.ins C dx fs))(c:A8 X.K C)(k:Meth X.K C m g)(l:fs.lookup m=none)
  (h:Q (.ref g,[.ref a]) s):wpAny d_ A (getMethod (.ref a) m pl) Q E s:=by
 obtain⟨mA,OO,r,_,_,_⟩:=Ca I.hok e;have hn:mA m=none:=pY.none_of (by rw[<-l];exact r m);exact La I.DK OO (c.get m) k.at_ k.fn hn h
def FF{Q:Unit->Shared->Prop}(I:Inv X pins O H s)(e:H a=some (.ins C dx fs))(c:A8 X.K C)(n:fB X.K C f)(hl:fs.length<1000)(ry:RelV y u)
  (h:∀s',Inv X pins O (upd H a (.ins C dx (nX f y fs))) s'->Q () s'):wpAny d_ A (setAttr (.ref a) f u) Q E s:=by
 obtain⟨mA,OO,r,wi,_,ho⟩:=Ca I.hok e;have hz:(fs.map (·.1)).length<=sizeLine:=by rw[aar,acT];lia
 refine OI I.DK OO c.sa c.po n.X3 c.hd wi hz λh' O' sb=>h _ ?_;have hd:∃o,h'.get? dx=some o:=let⟨o,_,_,e',_⟩:=O'.ns;⟨o,e'⟩
 refine I.write (x:=a) (e:=dx) (by rw[e];exact True.intro) (.inr ho) (λb q hb z=>(sb.2 b hb).trans z) hd ?_;refine⟨by rw[aO OO.ne];exact ho,?_,OO.ne,O'.obj,_,O'.ns,λg=>?_,λg hg=>?_⟩
 .have:=wY f y fs;lia
 .show pY ((nX f y fs).lookup g) (if g=f then some u else mA g);rw[wX];by_cases q:g=f
  .rw[if_pos q,if_pos q];exact ry
  .rw[if_neg q,if_neg q];exact r g
 .by_cases q:g=f
  .rw[q];exact(vH f y fs).1
  .refine(vH f y fs).2 g (wi g λz=>hg ?_);show(if g=f then some u else mA g)=none;rw[if_neg q];exact z
def Inv.made(I:Inv X pins O H s):Inv X pins O (upd (upd H c_ (.own (c_+1))) (c_+1) (.ins C c_ []))
  {s with heap:=(s.heap.push W.emptyDict).push (W.instObj C s.heap.objs.size)}:=by
 have e1:(s.heap.push W.emptyDict).get? c_=some W.emptyDict:=aaZ s.heap rfl;have e2:((s.heap.push W.emptyDict).push (W.instObj C c_)).get? (c_+1)=some (W.instObj C c_):=by
  have:=aaZ (s.heap.push W.emptyDict) (o:=W.instObj C c_) rfl
  rwa [ae0]at this
 have e3:(s.heap.push W.emptyDict).Ns c_ (λ_=>none):=⟨W.emptyDict,#[],_,e1,rfl,(λe he=>absurd he (by simp)),λ_=>rfl⟩
 have I1:=I.laid (a:=c_) (o:=.own (c_+1)) (h':=s.heap.push W.emptyDict) (t':=s.toks) (λb u q=>aaE _ q) (aaP _) ⟨_,e1⟩;refine I1.laid (a:=c_+1) (o:=.ins C c_ []) (t':=s.toks) (λb u q=>aaE _ q) (agK (ae0 _ _)) ?_;have ne:c_≠c_+1:=aa1 (ae1 _);refine⟨by rw[aO ne,aR],abK _,ne,e2,λ_=>none,(Heap.Ns1.of_empty e3).at λo q=>aaE _ q,λ_=>True.intro,λy hy=>absurd rfl hy⟩
def OJ{env:Env}{e:Expr}(hb:attributeBase e f env (eval e env)=eval e env)
  (h:wpAny g_ A (eval e env) (λo s₁=>wpAny g_ A (getAttr o f true) Q E s₁) E s):wpAny g_ A (eval (.Attribute e f pos) env) Q E s:=
 Attribute_any_ h (by rw[arm_eval_Attribute,hb])
end
def X4(K:AAD)(ta:TE)(f:Str):TE:=λO H Q=>ta O H λx H1=>∃a C dx fs v,x= .ref a/\H1 a=some (.ins C dx fs)/\A8 K C/\fB K C f/\fs.lookup f=some v/\Q v H1
def acu(K:AAD)(ta tv:TE)(f:Str):TS:=λD O H=>tv O H λy H1=>ta O H1 λx H2=>∃a C dx fs,x= .ref a/\H2 a=some (.ins C dx fs)/\A8 K C/\fB K C f/\fs.length<1000/\
 D.nx O (upd H2 a (.ins C dx (nX f y fs)))
section
variable {X:Cx}{o e value:Expr}{f:Str}{pos pos':Pos}{ta tv:TE}
def sP(he:PE X e ta)(hb:attributeBase e f X.env (eval e X.env)=eval e X.env):PE X (.Attribute e f pos) (X4 X.K ta f):=by
 intro pins s O H Q I h;refine OJ hb (ez (he pins s O H _ I h) λu s1 hh=>?_);obtain⟨x,H1,I1,rx,a,C,dx,fs,v,ex,ea,c,n,l,q⟩:=hh;subst ex;obtain rfl:u=Value.ref a:=rx;exact FD I1 ea c n l λu' s2 I2 ru=>⟨v,H1,I2,ru,q⟩
def Cb(ha:PE X o ta)(hv:PE X value tv)(hs:swapsWith value (some (.Attribute o f pos')) pos.line X.env=pure false):PS X (.Assign [.Attribute o f pos'] value pos) (acu X.K ta tv f):=by
 intro pins s O H D I h;refine plainObj_wpAny_Assign_Attribute (ez (hv pins s O H _ I h) λu s1 ⟨y,H1,I1,ry,q⟩=>ez (ha pins s1 O H1 _ I1 q) λov s2 hh=>?_) hs;obtain⟨x,H2,I2,rx,a,C,dx,fs,ex,ea,c,n,l,q2⟩:=hh;subst ex;obtain rfl:ov=Value.ref a:=rx;exact FF I2 ea c n l ry λs3 I3=>⟨O,_,I3,q2⟩
end
structure dU(k:Nat)(A:Around):Prop where
 hd:A.handled=none
 dp:A.depth+3*k+5<recursionLimit
 un:A.units+16*k+200<cLine
 gd:A.guards=some []
def dU.mono{j:Nat}(r:dU k A)(h:j<=k):dU j A:=⟨r.hd,by have:=r.dp;lia,by have:=r.un;lia,r.gd⟩
def dU.deeper{k:Nat}{A:Around}(r:dU (k+1) A)(env:Env):dU k (A.deeper env):=
 ⟨r.hd,by have:=r.dp;show A.depth+1+3*k+5<_;lia,by have:=r.un;show A.units+3+16*k+200<_;lia,r.gd⟩
def FG :(A.under (.builtin "type.__call__" ⟨.ref C::us,kw⟩)).depth=A.depth+1:=by
 first|rfl|simp[Around.under,Code.weight,Code.isCreation,Code.isGuard,Code.isCaller,Code.frames,Code.isFrame,guardIds]
def FH :(A.under (.builtin "type.__call__" ⟨.ref C::us,kw⟩)).units=A.units+1:=by
 first|rfl|simp[Around.under,Code.cUnits,Code.frames,Code.isFrame]
def dU.make(r:dU (k+1) A)(C:Addr)(us:AAL)(kw:List (Str×Value)):dU k (A.under (.builtin "type.__call__" ⟨.ref C::us,kw⟩)):=
 ⟨r.hd,by have:=r.dp;rw[FG];lia,by have:=r.un;rw[FH];lia,r.gd⟩
def dU.depth{k:Nat}{A:Around}(r:dU k A):A.depth<recursionLimit:=by have:=r.dp;lia
def dU.units{k:Nat}{A:Around}(r:dU k A):A.units+64<cLine:=by have:=r.un;lia
def TV:TA:=λ_ H Q=>Q [] H
def RC(ta:TE)(tr:TA):TA:=λO H Q=>ta O H λx H1=>tr O H1 λxs H2=>Q (x::xs) H2
section
variable {X:Cx}{e:Expr}{es:BBC}{te:TE}{t:TA}{pos:Pos}
def iI:PA X [] TV:=λ_ _ _ _ H Q I h=>agC ⟨[],H,I,.nil,h⟩
def dN(ha:PE X e te)(hr:PA X es t)(hs:starEach (e::es) X.env=(false,eval e X.env)::starEach es X.env:=by rfl):PA X (e::es) (RC te t):=by
 intro pos pins s O H Q I h;rw[hs];show wpAny _ _ (spliced ((false,eval e X.env)::backTo pos (starEach es X.env))) _ _ s;refine afO (ez (ha pins s O H _ I h) λu s1 hh=>?_);obtain⟨x,H1,I1,r1,q1⟩:=hh;exact ez (hr pos pins s1 O H1 _ I1 q1) λus s2 ⟨xs,H2,I2,r2,q2⟩=>⟨x::xs,H2,I2,.cons r1 r2,q2⟩
def acv(t:TA):TE:=λO H Q=>t O H λxs H1=>xs.length<=sizeLine/\∀p,H1 p=none->Q (.ref p) (upd H1 p (.tup xs))
def acw(t:TA):TE:=λO H Q=>t O H λxs H1=>xs.length<=sizeLine/\∀p,H1 p=none->Q (.ref p) (upd H1 p (.lst xs))
def TX {x1}(h:PA X es t):PE X (.Tuple es x1 pos) (acv t):=by
 intro pins s O H Q I hq;refine wpAny_Tuple_spliced (ez (h pos pins s O H _ I hq) λus s1 ⟨xs,H1,I1,r,z,q⟩=>⟨by rw[<-r.length];exact z,?_⟩);have hf:H1 s1.heap.objs.size=none:=I1.hok.fresh (aaP _);refine⟨.ref s1.heap.objs.size,upd H1 s1.heap.objs.size (.tup xs),I1.laid (t':=s1.toks) (λb u e=>aaE _ e) (aaP _) ?_,rfl,q _ hf⟩;exact⟨z,us,r,⟨_,aaZ _ rfl,rfl,_,rfl⟩⟩
def Lc(h:PA X es t):PE X (.List es pos) (acw t):=by
 intro pins s O H Q I hq;refine wpAny_List_spliced (ez (h pos pins s O H _ I hq) λus s1 ⟨xs,H1,I1,r,z,q⟩=>⟨by rw[<-r.length];exact z,?_⟩);have hf:H1 s1.heap.objs.size=none:=I1.hok.fresh (aaP _);refine⟨.ref s1.heap.objs.size,upd H1 s1.heap.objs.size (.lst xs),I1.laid (t':=s1.toks) (λb u e=>aaE _ e) (aaP _) ?_,rfl,q _ hf⟩;exact⟨z,us,0,r,aaZ _ rfl⟩
end
abbrev Sp:=List V->Hp->VK->XK->Prop
abbrev Kv:=BBF->Hp->Shared->XK->Value->Shared->Prop
structure DQ(P:Program)(w:World)(K:AAD)(mg:AAF)(base:Heap)(A:Around)(outer:BBF)(s:Shared)(H:Hp):Prop where
 frames:A.frames=some outer
 mod:Mod K mg base
 bs:∀b o,base.get? b=some o->s.heap.get? b=some o/\H b=none
 Ft:base.objs.size<=c_
 rU:s.heap.FunFrames base outer
 KS:∀b∈frs outer,H b=none
 hok:pO P w H s.heap
 bare:AllBare s.gens
 tab:∀p∈base.life.ids,H p.2=some (.Fq lP)
def CE(outer:BBF)(P:Program)(w:World)(H:Hp)(s:Shared)(Q:VK)(u:Value)(s':Shared):Prop:=
 ∃v H',s'.os=s.os/\AllBare s'.gens/\Un (frs outer) [] H H' s.heap s'.heap/\pO P w H' s'.heap/\RelV v u/\Q v H'
def CR(CX:Kv)(outer:BBF)(P:Program)(w:World)(H:Hp)(s:Shared)(Q:VK)(E:XK)(r:Result)(s':Shared):Prop:=
 match r with
 |.ok (.ret u)=>CE outer P w H s Q u s'
 |.ok _=>False
 |.error e=>CX outer H s E e s'
structure jC(P:Program)(w:World)(K:AAD)(mg:AAF)(base:Heap)(CX:Kv)(k:Nat)(f:Addr)(fd:FuncData)(ps:BBB)(sp:Sp):Prop where
 len:∀vs H Q E,sp vs H Q E->vs.length=ps.length
 run:∀(A:Around)(outer:BBF)(s:Shared)(H:Hp)(args:Args)(us:AAL)(vs:List V)(Q:VK)(E:XK),dU k A->DQ P w K mg base A outer s H->BindsTo s fd args (ps.zip us)->Vals vs us->sp vs H Q E->
  codeAny (model P w) A (.call (.ref f) args) (CR CX outer P w H s Q E) s
def jC.mono{P:Program}{w:World}{K:AAD}{mg:AAF}{base:Heap}{CX:Kv}{j k:Nat}{f:Addr}{fd:FuncData}{ps:BBB}{sp:Sp}(F:jC P w K mg base CX j f fd ps sp)(h:j<=k):
  jC P w K mg base CX k f fd ps sp:=⟨F.len,λA outer s H args us vs Q E hr=>F.run A outer s H args us vs Q E (hr.mono h)⟩
def DQ.make{s:Shared}(e:DQ P w K mg base A outer s H)(C:Addr)(us:AAL)(kw:List (Str×Value)):
  DQ P w K mg base (A.under (.builtin "type.__call__" ⟨.ref C::us,kw⟩)) outer s H:=⟨by first|exact e.frames|(simpa[Around.under,Code.envs,Code.isFrame,pushEnvs] using e.frames),e.mod,e.bs,e.Ft,e.rU,e.KS,e.hok,e.bare,e.tab⟩
section
variable {X:Cx}{pins:AAG}{O:St}{H:Hp}{s s':Shared}
def Inv.TY(I:Inv X pins O H s):DQ X.prog X.w X.K X.mg X.base X.A X.stack s H:=
 ⟨I.ok.frames,I.ok.mod,I.bs,aaY I.ok.Ft I.sz,I.stack,I.B6,I.hok,I.bare,I.tab⟩
def Inv.after{Q:VK}(I:Inv X pins O H s)(h:CE X.stack X.prog X.w H s Q u s'):EP X pins O Q u s':=by
 obtain⟨v,H',os,bare,un,hok,r,q⟩:=h;obtain⟨hh,g,d,t,os'⟩:=s';obtain rfl:os'=s.os:=os;exact⟨v,H',I.call (h':=hh) (g':=g) (d':=d) (t':=t) (ch:=[]) un hok bare (λb z=>absurd z (by simp)),r,q⟩
end
def X5(sp:Sp)(Cc:List V)(E:XK)(t:TA):TE:=λO H Q=>t O H λvs H1=>sp (vs++Cc) H1 Q E
def X6(C:Addr)(m:Str)(sp:Sp)(Cc:List V)(E:XK)(ta:TE)(t:TA):TE:=λO H Q=>ta O H λx H1=>∃a dx fs,x= .ref a/\H1 a=some (.ins C dx fs)/\fs.lookup m=none/\
 t O H1 λvs H2=>sp (x::(vs++Cc)) H2 Q E
def X7(C:Addr)(sp:Sp)(Cc:List V)(E:XK)(t:TA):TE:=λO H Q=>t O H λvs H1=>∀x dx,H1 x=none->H1 dx=none->dx≠x->
 sp (.ref x::(vs++Cc)) (upd (upd H1 dx (.own x)) x (.ins C dx [])) (λv H2=>v= .cI/\Q (.ref x) H2) E
def Binds(K:AAD)(fd:FuncData)(ps:BBB)(ds:AAL):Prop:=
 ∀(s:Shared)(us:AAL),K.In s.heap->(us++ds).length=ps.length->BindsTo s fd ⟨us,[]⟩ (ps.zip (us++ds))
def Binds.all{fd:FuncData}(h:∀us:BBG,us.length=ps.length->bindArgs fd ⟨us,[]⟩=pure (ps.zip us)):Binds K fd ps []:=λs us _ hl=>by
 rw[ad7]at hl ⊢;exact .of_eq (h us hl)
def Passes(CX:Kv)(X:Cx)(E:XK):Prop:=∀(pins:AAG)(O:St)(H:Hp)(s:Shared)(e:Value)(s':Shared),Inv X pins O H s->CX X.stack H s E e s'->X.xe e s'
section
variable {X:Cx}{CX:Kv}{k:Nat}{f C:Addr}{fd:FuncData}{ps:BBB}{sp:Sp}{Cc:List V}{ds:AAL}{E:XK}{x m:Str}{p pos apos:Pos}{e o:Expr}{es:BBC}{ta:TE}{t:TA}
def Ld{s:Shared}{Q:VK}(F:jC X.prog X.w X.K X.mg X.base CX k f fd ps sp)(hr:dU k X.A)(hb:Binds X.K fd ps ds)(hd:Vals Cc ds)(hx:Passes CX X E)
  (I:Inv X pins O H s)(r:Vals vs us)(h:sp (vs++Cc) H Q E):wpAny d_ X.A (call (.ref f) us) (EP X pins O Q) X.xe s:=by
 have r2:Vals (vs++Cc) (us++ds):=r.append hd;have hl:(us++ds).length=ps.length:=by rw[<-r2.length];exact F.len _ _ _ _ h
 refine wpAny_call (ae2 (F.run X.A X.stack s H ⟨us,[]⟩ (us++ds) (vs++Cc) Q E hr I.TY (hb s us I.DK hl) r2 h) λr s' hq=>?_);cases r with
 |error e=>exact hx pins O H s e s' I hq
 |ok fl=>
  cases fl with
  |ret u=>exact I.after hq
  |next=>exact False.elim hq
  |brk=>exact False.elim hq
  |cont=>exact False.elim hq
def uA(F:jC X.prog X.w X.K X.mg X.base CX k f fd ps sp)(hr:dU k X.A)(hg:Gl X x)(hm:X.mg x=some (.ref f))(hk:W.keepIn X.K (.ref f)=true)(hb:Binds X.K fd ps ds)(hd:Vals Cc ds)(hx:Passes CX X E)
  (ha:PA X (e::es) t)(hdb:BBT x:=by decide)(he:starEach (e::es) X.env=(false,eval e X.env)::starEach es X.env:=by rfl)(hpl:(backTo pos (starEach es X.env)).any (·.1)=false:=by rfl):
  PE X (.Call (.Name x p) (e::es) [] pos) (X5 sp Cc E t):=by
 intro pins s O H Q I h;refine ac9 (B7 I hg hm ?_ hdb);refine W.callWith_K (h₀:=X.base) I.ok.mod.WI hk (ez (ha pos pins s O H _ I h) λus s1 ⟨vs,H1,I1,r,q⟩=>⟨I1.DK,?_⟩) he hpl;exact Ld F hr hb hd hx I1 r q
def OL(he:PE X o ta)(c:A8 X.K C)(hm:Meth X.K C m f)(F:jC X.prog X.w X.K X.mg X.base CX k f fd ps sp)(hr:dU k X.A)(hb:Binds X.K fd ps ds)(hd:Vals Cc ds)(hx:Passes CX X E)(ha:PA X (e::es) t)
  (hst:starEach (e::es) X.env=(false,eval e X.env)::starEach es X.env:=by rfl)(hpl:(backTo pos (starEach es X.env)).any (·.1)=false:=by rfl)
  (ht:eval (.Call (.Attribute o m apos) (e::es) [] pos) X.env=(do
   let ov <-eval o X.env
   standAt apos.atName
   let(f,first) <-holding [ov] (getMethod ov m pl)
   callWith pos f first (backTo pos (starEach (e::es) X.env)) (backToKw pos (keywordEach [] X.env))):=by rfl):
  PE X (.Call (.Attribute o m apos) (e::es) [] pos) (X6 C m sp Cc E ta t):=by
 intro pins s O H Q I h;refine W.methodCall_KW (pl:=pl) (ez (he pins s O H _ I h) λu s1 hh=>?_) ht;obtain⟨x,H1,I1,rx,a,dx,fs,ex,ea,l,q⟩:=hh;subst ex;obtain rfl:u=Value.ref a:=rx;refine FE I1 ea c hm l ?_;refine W.callWith_K (first:=[.ref a]) (h₀:=X.base) I.ok.mod.WI hm.kp (ez (ha pos pins s1 O H1 _ I1 q) λus s2 ⟨vs,H2,I2,r,q2⟩=>⟨I2.DK,?_⟩) hst hpl;exact Ld (us:=.ref a::us) (vs:=.ref a::vs) F hr hb hd hx I2 (.cons rfl r) q2
structure Mk(K:AAD)(C f:Addr):Prop where
 makes:W.makesIn K C=true
 init:W.findIn K (.ref C) "__init__" =some (some (.ref f))
 fn:W.isFn K (.ref f)=true
 kp:W.keepIn K (.ref C)=true
def Lf{s:Shared}{Q:VK}(M:Mk X.K C f)(F:jC X.prog X.w X.K X.mg X.base CX k f fd ps sp)(hr:dU (k+1) X.A)(hb:Binds X.K fd ps ds)(hd:Vals Cc ds)
  (hx:Passes CX X E)(I:Inv X pins O H s)(r:Vals vs us)
  (h:∀x dx,H x=none->H dx=none->dx≠x->sp (.ref x::(vs++Cc)) (upd (upd H dx (.own x)) x (.ins C dx [])) (λv H2=>v= .cI/\Q (.ref x) H2) E):
  wpAny d_ X.A (call (.ref C) us) (EP X pins O Q) X.xe s:=by
 have hq:=h (c_+1) c_ (I.hok.fresh (aeM _)) (I.hok.fresh (aaP _)) (aa1 (ae1 _));have I2:=Inv.made (C:=C) I;have r2:Vals (V.ref (c_+1)::(vs++Cc)) (Value.ref (c_+1)::(us++ds)):=.cons rfl (r.append hd);have hl:(Value.ref (c_+1)::us++ds).length=ps.length:=by
  have e:=r2.length;rw[F.len _ _ _ _ hq]at e;exact e.symm
 refine wpAny_call (Lb (f:=f) I.DK M.makes M.init (afW.mp M.fn) (ae2 (F.run _ X.stack _ _ ⟨Value.ref (c_+1)::us,[]⟩ (Value.ref (c_+1)::(us++ds)) _ _ E (hr.make C us [])
  (I2.TY.make C us []) (hb _ (Value.ref (c_+1)::us) I2.DK hl) r2 hq) λr s' hq'=>?_))
 cases r with
 |error e=>exact hx pins O _ _ e s' I2 hq'
 |ok fl=>
  cases fl with
  |ret u=>
   obtain⟨v,H',I3,rv,ev,q3⟩:=I2.after hq';subst ev;exact⟨rv,⟨V.ref (c_+1),H',I3,rfl,q3⟩⟩
  |next=>exact False.elim hq'
  |brk=>exact False.elim hq'
  |cont=>exact False.elim hq'
def Lg(M:Mk X.K C f)(F:jC X.prog X.w X.K X.mg X.base CX k f fd ps sp)(hr:dU (k+1) X.A)(hg:Gl X x)(hm:X.mg x=some (.ref C))(hb:Binds X.K fd ps ds)(hd:Vals Cc ds)(hx:Passes CX X E)
  (hdb:BBT x:=by decide):PE X (.Call (.Name x p) [] [] pos) (X7 C sp Cc E TV):=by
 intro pins s O H Q I h;refine ac9 (B7 I hg hm ?_ hdb);exact W.callWith_K0 I.DK M.kp (Lf (us:=[]) M F hr hb hd hx I .nil h)
end
structure bw(N P:BBB)(sc:Scope):Prop where
 kind:sc.kind= .function
 co:sc.isCoroutine=false
 gen:sc.isGenerator=false
 nd:N.Nodup
 pre:N.take P.length=P
 par:∀x∈P,sc.names.lookup x=some .local\/sc.names.lookup x=some .cell
 TZ:∀y∈sc.names,y.2≠.free
theorem A9{kindOf:Str->Option NameKind}{x:Str}:∀{binds:List (Str×Value)}{m:AAF},(∀v,(x,v)∉binds)->bindL kindOf binds m x=m x
 |[],_,_=>rfl
 |(n,v)::r,m,h=>by
  unfold bindL;rw[A9 λw hw=>h w (aaR _ hw)];split
  .have:x≠n:=by rintro rfl;exact h v aaT
   simp[this]
  .rfl
theorem Ba{kindOf:Str->Option NameKind}{x:Str}:∀{binds:List (Str×Value)}{m:AAF},(∀v,(x,v)∉binds)->bindC kindOf binds m x=m x
 |[],_,_=>rfl
 |(n,v)::r,m,h=>by
  unfold bindC;rw[Ba λw hw=>h w (aaR _ hw)];split
  .rfl
  .have:x≠n:=by rintro rfl;exact h v aaT
   simp[this]
theorem Bb{kindOf:Str->Option NameKind}{x:Str}{v:Value}:∀{P:BBB}{vs:AAL}{i:Nat}{m:AAF},P.Nodup->P[i]? =some x->vs[i]? =some v->kindOf x=some .local->
  bindL kindOf (P.zip vs) m x=some v
 |[],_,_,_,_,h,_,_=>by simp at h
 |_::_,[],_,_,_,_,h,_=>by simp at h
 |p::P,w::vs,0,m,nd,h1,h2,hk=>by
  simp at h1 h2;subst h1;subst h2;show bindL kindOf ((p,w)::P.zip vs) m p=_;unfold bindL;rw[A9 λv hv=>(ab7.mp nd).1 (agi hv).1,if_pos hk];simp
 |p::P,w::vs,i+1,m,nd,h1,h2,hk=>by
  show bindL kindOf ((p,w)::P.zip vs) m x=_;unfold bindL;exact Bb (i:=i) (ab7.mp nd).2 (by simpa using h1) (by simpa using h2) hk
theorem Be{kindOf:Str->Option NameKind}{x:Str}{v:Value}:∀{P:BBB}{vs:AAL}{i:Nat}{m:AAF},P.Nodup->P[i]? =some x->vs[i]? =some v->kindOf x≠some .local->
  bindC kindOf (P.zip vs) m x=some v
 |[],_,_,_,_,h,_,_=>by simp at h
 |_::_,[],_,_,_,_,h,_=>by simp at h
 |p::P,w::vs,0,m,nd,h1,h2,hk=>by
  simp at h1 h2;subst h1;subst h2;show bindC kindOf ((p,w)::P.zip vs) m p=_;unfold bindC;rw[Ba λv hv=>(ab7.mp nd).1 (agi hv).1,if_neg hk];simp
 |p::P,w::vs,i+1,m,nd,h1,h2,hk=>by
  show bindC kindOf ((p,w)::P.zip vs) m x=_;unfold bindC;exact Be (i:=i) (ab7.mp nd).2 (by simpa using h1) (by simpa using h2) hk
noncomputable def start(N:BBB)(vs:List V):St:=vs.map some++List.replicate (N.length-vs.length) none
noncomputable def vI(CX:Kv)(P:Program)(w:World)(K:AAD)(mg:AAF)(base:Heap)(N:BBB)(qual:Str)(scope:Scope)(f:Addr)(cd:Value)(A:Around)(outer:BBF)(s:Shared)(H:Hp)(E:XK):Cx where
 prog:=P
 w:=w
 K:=K
 mg:=mg
 base:=base
 A:=A.deeper (envOfC qual scope c_ f cd)
 N:=N
 s₀:=s
 H₀:=H
 env:=envOfC qual scope c_ f cd
 outer:=outer
 stack:=envOfC qual scope c_ f cd::outer
 ex:=[]
 calm:=true
 fn:=λ_=>true
 pn:=[]
 xe:=λe s'=>wpAny (model P w) (A.deeper (envOfC qual scope c_ f cd)) (leaving (envOfC qual scope c_ f cd) e) (λ_ s''=>CX outer H s E e s'') (λe' s''=>CX outer H s E e' s'') s'
def DR{sc:Scope}{n:Nat}(h:sc.names.lookup x=some .cell):∃c,(cellsFrom n sc.names []).lookup x=some c:=by
 have q:=af6 sc.names n [] (.inl h);exact Option.isSome_iff_exists.mp q
def Bf{CX:Kv}{f:Addr}{cd:Value}{s s1:Shared}{E:XK}
  (S:bw N ps scope)(hd:A.handled=none)(e0:DQ P w K mg base A outer s H)(hl:vs.length=ps.length)(r:Vals vs us)
  (x:InCallC s c_ (bindL (envOfC qual scope c_ f cd).kindOf (ps.zip us) λ_=>none) (cellsFrom (c_+1) scope.names []) (bindC (envOfC qual scope c_ f cd).kindOf (ps.zip us) λ_=>none) s1):
  Inv (vI CX P w K mg base N qual scope f cd A outer s H E) [] (start N vs) H s1:=by
 have hpl:ps.length<=N.length:=by have:=congrArg List.length S.pre;rw[aea]at this;lia
 obtain⟨h1,tk,rfl,hk⟩:=x.done;have OM:∀b:Addr,b∉(vI CX P w K mg base N qual scope f cd A outer s H E).ex:=λb z=>absurd (show b∈([]:BBE) from z) (by simp);refine⟨⟨e0.mod,S.kind,rfl,rfl,aaP _,λy z c h1 h2=>?_,λy hy=>?_,λy c _ h=>?_,λ_=>hd,Around.frames_deeper e0.frames,.inr ⟨rfl,rfl⟩,λb z=>absurd z (OM b),e0.bs,e0.Ft,λb _ _=>OM b,λb z=>absurd z (OM b),e0.rU,e0.KS,e0.tab⟩,
  rfl,e0.bare,Un.kept hk,⟨_,x.toInCall.ns,λi y v h1 h2 h3=>?_⟩,λy c h=>⟨_,x.cell y c h⟩,e0.hok.fresh (aaP _),λy c h=>?_,λp hp=>absurd (show p∈([]:AAG) from hp) (by simp),e0.hok.kept hk,?_⟩
 .exact name_of_addr x.apart (aco h1) (aco h2)
 .have hy:scope.names.lookup y=some .cell\/scope.names.lookup y=some .free:=hy;rcases hy with hy|hy
  .exact DR hy
  .exact absurd rfl (S.TZ _ (aco hy))
 .exact acz (x.above y c (aco h))
 .have hi:i<vs.length:=by
   unfold start at h2;by_cases hi:i<vs.length
   .exact hi
   .rw[aeX (by simpa using hi)]at h2;rw[ae5]at h2;split at h2<;>cases h2
  have ha:vs[i]? =some v:=by
   unfold start at h2;rw[ab1 (by simpa using hi),abI]at h2;cases e:vs[i]? with
   |none=>rw[e]at h2;cases h2
   |some a=>rw[e]at h2;cases h2;rfl
  obtain⟨u,hu,rv⟩:=r.get ha;have hp:ps[i]? =some y:=by
   rw[<-S.pre,agL a_];exact h1
  have ndP:ps.Nodup:=by rw[<-S.pre];exact S.nd.sublist (List.take_sublist _ _)
  refine⟨u,rv,?_⟩;rcases S.par y (abU hp) with k|k
  .exact .inl ⟨k,Bb ndP hp hu k⟩
  .obtain⟨c,e⟩:=DR (n:=c_+1) k;refine .inr ⟨.inl k,c,e,?_⟩;have q:=x.cell y c e;rw[Be ndP hp hu (by show scope.names.lookup y≠_;rw[k];decide)]at q;exact q
 .exact .inl (e0.hok.fresh (acz (x.above y c (aco h))))
 .unfold start;show _=N.length;rw[aaW,aar,aen];lia
def X8{CX:Kv}{f:Addr}{name:Str}{params:Arguments}{dV kV doc pm cdv ct oc:Value}{an od:BBN}
  {osl:Array (BBP)}{sp:Sp}(lk:K.lookup f=some ⟨oc,od,.func (W.fnOf name qual params body scope dV kV doc pm an cdv ct),osl⟩)(hcd:W.codeIn K cdv qual=true)(S:bw N ps scope)
  (len:∀vs H Q E,sp vs H Q E->vs.length=ps.length)
  (hbody:∀(A:Around)(outer:BBF)(s:Shared)(H:Hp)(vs:List V)(Q:VK)(E:XK),dU k (A.deeper (envOfC qual scope c_ f cdv))->sp vs H Q E->
   ∃t,vG (vI CX P w K mg base N qual scope f cdv A outer s H E) body t/\t {nx:=λ_ H'=>Q .cI H',rt:=Q} (start N vs) H):
  jC P w K mg base CX (k+1) f (W.fnOf name qual params body scope dV kV doc pm an cdv ct) ps sp:=by
 refine⟨len,λA outer s H args us vs Q E hr e0 hb r Lh=>?_⟩;have hl:=len _ _ _ _ Lh;have KX:K.In s.heap:=e0.mod.WI.keeps λb o e=>(e0.bs b o e).1;have lim:s.heap.NoLimit:=e0.mod.nolimit.keeps λb o e=>(e0.bs b o e).1;have hkind:∀y∈ps.zip us,scope.names.lookup y.1=some .local\/(scope.names.lookup y.1=some .cell/\((cellsFrom (c_+1) scope.names []).lookup y.1).isSome=true):=λ⟨n,v⟩ hy=>by
  rcases S.par n (agi hy).1 with q|q
  .exact .inl q
  .exact .inr ⟨q,af6 _ _ _ (.inl q)⟩
 refine codeAny_call_function hr.depth (KX _ _ lk) rfl S.co S.gen rfl (W.codeRec_of KX hcd) (hb _ _ _ _ ?_);refine wpAny_newFunctionEnv_cells S.kind hkind λenv he s1 x=>?_;subst he;refine⟨lim.keeps x.toInCall.keep,codeAny_func ?_⟩;obtain⟨t,ht,hq⟩:=hbody A outer s H vs Q E (hr.deeper _) Lh;have I:Inv (vI CX P w K mg base N qual scope f cdv A outer s H E) [] (start N vs) H s1:=Bf S hr.hd e0 hl r x;refine ab3 (ht [] s1 (start N vs) H _ I hq) (λfl s' hs=>?_) λe s' hs=>hs;have fin:∀{O':St}{H':Hp}{v:V}{u:Value},Inv (vI CX P w K mg base N qual scope f cdv A outer s H E) [] O' H' s'->RelV v u->Q v H'->CE outer P w H s Q u s':=
  λ{O' H' v u} J rv q=>⟨v,H',J.os,J.bare,J.base,J.hok,rv,q⟩
 cases fl with
 |ret u=>
  obtain⟨v,O',H',J,rv,q⟩:=hs;exact fin J rv q
 |next=>
  obtain⟨O',H',J,q⟩:=hs;exact fin (v:=V.cI) (u:=Value.none) J rfl q
 |brk=>
  obtain⟨_,_,_,q⟩:=hs;exact False.elim q
 |cont=>
  obtain⟨_,_,_,q⟩:=hs;exact False.elim q
section
variable {X:Cx}{x:Str}{p pos:Pos}{e:Expr}{es:BBC}{t:TA}{id T:String}{r:List V->Hp->VK->Prop}
def tCB(r:List V->Hp->VK->Prop)(t:TA):TE:=λO H Q=>t O H λvs H1=>r vs H1 Q
def qd(hc:gY X (.builtin id) r)(hg:Gl X x)(hm:X.mg x=none)(hv:bootBuiltins x=some (.builtin id))(ha:PA X (e::es) t)(hn:x≠"__name__":=by decide)(hdb:BBT x:=by decide)
  (he:starEach (e::es) X.env=(false,eval e X.env)::starEach es X.env:=by rfl)(hpl:(backTo pos (starEach es X.env)).any (·.1)=false:=by rfl):PE X (.Call (.Name x p) (e::es) [] pos) (tCB r t):=by
 intro pins s O H Q I h;refine ac9 (mz I hg hm hv ?_ hn hdb);exact afc (ez (ha pos pins s O H _ I h) λus s1 ⟨vs,H1,I1,r1,q1⟩=>hc pins s1 O H1 vs us Q I1 r1 q1) he hpl
def Bg(hc:gY X (.type T) r)(hg:Gl X x)(hm:X.mg x=none)(hv:bootBuiltins x=some (.type T))(ha:PA X (e::es) t)(hn:x≠"__name__":=by decide)(hdb:BBT x:=by decide)
  (he:starEach (e::es) X.env=(false,eval e X.env)::starEach es X.env:=by rfl)(hpl:(backTo pos (starEach es X.env)).any (·.1)=false:=by rfl):PE X (.Call (.Name x p) (e::es) [] pos) (tCB r t):=by
 intro pins s O H Q I h;refine ac9 (mz I hg hm hv ?_ hn hdb);exact aeP (ez (ha pos pins s O H _ I h) λus s1 ⟨vs,H1,I1,r1,q1⟩=>hc pins s1 O H1 vs us Q I1 r1 q1) he hpl
end
section
variable {κ:Type} [DecidableEq κ]
noncomputable def rW(kvs:List (κ×V))(k:κ):Option V:=(kvs.find? λkv=>decide (kv.1=k)).map (·.2)
noncomputable def putK(kvs:List (κ×V))(k:κ)(v:V):List (κ×V):=
 if(kvs.any λkv=>decide (kv.1=k))=true then kvs.map (λkv=>if kv.1=k then(kv.1,v) else kv) else kvs++[(k,v)]
def uB{p:κ×V}{r:List (κ×V)}{k:κ}(e:p.1=k):rW (p::r) k=some p.2:=by simp[rW,ab0,e]
def qg{p:κ×V}{r:List (κ×V)}{k:κ}(e:¬p.1=k):rW (p::r) k=rW r k:=by simp[rW,ab0,e]
theorem DS(k:κ):∀kvs:List (κ×V),(kvs.any λkv=>decide (kv.1=k))=(rW kvs k).isSome
 |[]=>rfl
 |p::r=>by
  rw[acM];by_cases e:p.1=k
  .simp only[uB e,abJ e,Bool.true_or,Option.isSome_some]
  .rw[qg e,abP e,agv];exact DS k r
def qh(kvs:List (κ×V))(k:κ)(v:V):(putK kvs k v).length<=kvs.length+1:=by
 unfold putK;split
 .rw[aar];lia
 .rw[aaW,abD,afE];lia
def pY.vJ{o:Option V}{u:BBP}(r:pY o u):o.isSome=u.isSome:=by
 cases o with
 |none=>cases u with
  |none=>rfl
  |some _=>exact(show False from r).elim
 |some _=>cases u with
  |none=>exact(show False from r).elim
  |some _=>rfl
def pY.getD{o:Option V}{u:BBP}{d:V}{d':Value}(r:pY o u)(rd:RelV d d'):RelV (o.getD d) (u.getD d'):=by
 cases o with
 |none=>cases u with
  |none=>exact rd
  |some _=>exact(show False from r).elim
 |some _=>cases u with
  |none=>exact(show False from r).elim
  |some _=>exact r
def KV.val{kvs:List (κ×V)}{vs:List (κ×Value)}(r:KV kvs vs)(k:κ):pY (rW kvs k) (valueAt vs k):=by
 unfold KV at r
 induction r with
 |nil=>exact True.intro
 |@cons p q ps qs h t ih=>
  obtain⟨h1,h2⟩:=h;by_cases e:p.1=k
  .have e':q.1=k:=h1.symm.trans e;have b:valueAt (q::qs) k=some q.2:=by simp[valueAt,ab0,e']
   rw[uB e,b];exact h2
  .have e':¬q.1=k:=λz=>e (h1.trans z);have b:valueAt (q::qs) k=valueAt qs k:=by simp[valueAt,ab0,e']
   rw[qg e,b];exact ih
def KV.any{kvs:List (κ×V)}{vs:List (κ×Value)}(r:KV kvs vs)(k:κ):(kvs.any λkv=>decide (kv.1=k))=vs.any λkv=>decide (kv.1=k):=by
 unfold KV at r
 induction r with
 |nil=>rfl
 |cons h t ih=>rw[acM,acM,ih,h.1]
def KV.repl{kvs:List (κ×V)}{vs:List (κ×Value)}(r:KV kvs vs)(k:κ)(ry:RelV y u):
  KV (kvs.map λkv=>if kv.1=k then(kv.1,y) else kv) (vs.map λkv=>if kv.1=k then(kv.1,u) else kv):=by
 unfold KV at r ⊢
 induction r with
 |nil=>exact .nil
 |@cons p q ps qs h t ih=>
  rw[acd,acd];refine .cons ?_ ih;obtain⟨h1,h2⟩:=h;by_cases e:p.1=k
  .rw[if_pos e,if_pos (h1.symm.trans e)];exact⟨h1,ry⟩
  .rw[if_neg e,if_neg (λz=>e (h1.trans z))];exact⟨h1,h2⟩
def KV.put{kvs:List (κ×V)}{vs:List (κ×Value)}(r:KV kvs vs)(k:κ)(ry:RelV y u):KV (putK kvs k y) (stored vs k u):=by
 unfold putK stored;rw[r.any k];by_cases e:(vs.any λkv=>decide (kv.1=k))=true
 .rw[if_pos e,if_pos e];exact r.repl k ry
 .rw[if_neg e,if_neg e];exact Paired.snoc r ⟨rfl,ry⟩
def KV.length{kvs:List (κ×V)}{vs:List (κ×Value)}(r:KV kvs vs):kvs.length=vs.length:=Paired.length r
end
def RD{k:Key}(r:RelV (kV k) u):(gX P w).is k u=true:=by
 cases k with
 |inl i=>obtain⟨t,e⟩:=(show ∃t,u=Value.int i t from r);subst e;exact DG P w i t
 |inr x=>obtain⟨t,e⟩:=(show ∃t,u=Value.str x t from r);subst e;exact DH P w x t
abbrev KT(H:Hp):List (D×V)->List (D×Addr×Value)->Prop:=Paired λp q=>p.1=q.1/\Kd H q.2.1 p.1/\RelV p.2 q.2.2
def KT.val(r:KT H kvs xs)(k:D):pY (rW kvs k) ((atKey xs k).map (·.2)):=by
 induction r with
 |nil=>exact True.intro
 |@cons p q ps qs h t ih=>
  obtain⟨h1,_,h2⟩:=h;by_cases e:p.1=k
  .have e':q.1=k:=h1.symm.trans e;have b:atKey (q::qs) k=some q.2:=by simp[atKey,ab0,e']
   rw[uB e,b];exact h2
  .have e':¬q.1=k:=λz=>e (h1.trans z);have b:atKey (q::qs) k=atKey qs k:=by simp[atKey,ab0,e']
   rw[qg e,b];exact ih
def KT.repl(r:KT H kvs xs)(k:D)(ry:RelV y u):
  KT H (kvs.map λkv=>if kv.1=k then(kv.1,y) else kv) (xs.map (putAt k u)):=by
 induction r with
 |nil=>exact .nil
 |@cons p q ps qs h t ih=>
  rw[acd,acd];refine .cons ?_ ih;obtain⟨h1,h2,h3⟩:=h;unfold putAt;by_cases e:p.1=k
  .rw[if_pos e,if_pos (h1.symm.trans e)];exact⟨h1,h2,ry⟩
  .rw[if_neg e,if_neg (λz=>e (h1.trans z))];exact⟨h1,h2,h3⟩
def KT.put(r:KT H kvs xs)(k:D){b:Addr}(hb:Kd H b k)(ry:RelV y u):
  KT H (putK kvs k y) (storedH xs k b u):=by
 have e:(kvs.any λkv=>decide (kv.1=k))=(atKey xs k).isSome:=by
  rw[DS,(r.val k).vJ,Option.isSome_map]
 unfold putK storedH;rw[e];by_cases q:(atKey xs k).isSome=true
 .rw[if_pos q,if_pos q];exact r.repl k ry
 .rw[if_neg q,if_neg q];exact Paired.snoc r ⟨rfl,hb,ry⟩
def KT.keeps(r:KT H kvs xs)(ht:∀b ys,H b=some (.tup ys)->H' b=some (.tup ys)):KT H' kvs xs:=
 Paired.DI r λ_ _ z=>⟨z.1,z.2.1.tups ht,z.2.2⟩
section
variable {P:Program}{w:World}{H:Hp}{h:Heap}{a:Addr}
def RE{u:HO}(ok:pO P w H h)(e:Rd H a u):eu P w H h a u:=e.ok ok
def Bh{kvs:List (Key×V)}(ok:pO P w H h)(e:Rd H a (.dK kvs)):kvs.length<=sizeLine/\(a == sysModules)=false/\∃vs,KV kvs vs/\h.DictOf (gX P w) a vs:=
 show eu P w H h a (.dK kvs) from RE ok e
def Li{kvs:List (Key×V)}(ok:pO P w H h)(e:H a=some (.dK kvs)):kvs.length<=sizeLine/\(a == sysModules)=false/\∃vs,KV kvs vs/\h.DictOf (gX P w) a vs:=Bh ok (.inl e)
mutual
theorem Lj(ok:pO P w H h):∀(d:D){n:Nat}{v:V}{u:Value},Rep H v d->RelV v u->kL n d=true->AB h u (nf d)
 |.cI,n,_,_,_,_,k=>by cases n<;>cases k
 |.lst _,n,_,_,_,_,k=>by cases n<;>cases k
 |.bl b,n,_,_,r,q,k=>by cases r;cases q;exact .bool b
 |.int i,n,_,_,r,q,k=>by cases r;obtain⟨t,rfl⟩:=q;exact .int i t
 |.str i,n,_,_,r,q,k=>by cases r;obtain⟨t,rfl⟩:=q;exact .str i t
 |.tup ds,n,_,_,r,q,k=>by
  cases n with
  |zero=>cases k
  |succ n=>
   cases r with
   |@tup a vs _ e rs=>
    cases q;obtain⟨_,its,rv,o,h1,h2,m,h3⟩:=(show eu P w H h a (.tup vs) from ok a _ e)
    exact .tup ⟨o,h1,h2,m,h3⟩ (G5 ok ds rs rv k)
theorem G5(ok:pO P w H h):∀(ds:List D){n:Nat}{vs:List V}{us:AAL},bC H vs ds->Vals vs us->ds.all (kL n)=true->lO h us (Rt ds)
 |[],n,_,_,r,q,k=>by cases r;cases q;exact .nil
 |d::ds,n,_,_,r,q,k=>by
  rw[ael,abS]at k;cases r with
  |cons r1 r2=>
   cases q with
   |cons q1 q2=>exact .cons (Lj ok d r1 q1 k.1) (G5 ok ds r2 q2 k.2)
end
def yI{ks:D}(ok:pO P w H h)(e:Kd H a ks):(kM P w).is h ks a:=by
 obtain⟨d,r,hk,rfl⟩:=e;exact⟨Lj ok d r rfl hk,G1 d 8 hk⟩
def Bj(ok:pO P w H h)(e:Rd H a (.dT kvs)):kvs.length<=sizeLine/\(a == sysModules)=false/\
  ∃xs,KT H kvs xs/\h.DictOfH (kM P w) a xs:=by
 obtain⟨z,y,xs,r,o,es,ep,h1,h2,h3,h4,h5⟩:=(show eu P w H h a (.dT kvs) from RE ok e)
 refine⟨z,y,xs,r,o,es,ep,h1,h2,h3,h4,λx hx=>?_,h5⟩;have all:∀{l:List (D×V)}{m:List (D×Addr×Value)},KT H l m->∀x∈m,(kM P w).is h x.1 x.2.1:=by
  intro l m q
  induction q with
  |nil=>intro x hx;exact nomatch hx
  |@cons p q ps qs hq t ih=>
   intro x hx;rcases aaV.mp hx with e|hx
   .subst e;exact yI ok (by rw[<-hq.1];exact hq.2.1)
   .exact ih x hx
 exact all r x hx
def Yb(ok:pO P w H h)(e:H a=some (.dT kvs)):kvs.length<=sizeLine/\(a == sysModules)=false/\
  ∃xs,KT H kvs xs/\h.DictOfH (kM P w) a xs:=Bj ok (.inl e)
end
def T8(y:V)(k:Key):Prop:=y=kV k\/∃b,y= .bl b/\k= .inl (bI b)
def T8.is{P:Program}{w:World}{y:V}{k:Key}{u:Value}(e:T8 y k)(r:RelV y u):(gX P w).is k u=true:=by
 rcases e with rfl|⟨b,rfl,rfl⟩
 .exact RD r
 .cases r;exact abJ rfl
def pP(H:Hp)(a:Addr)(y:V)(r:Option V):Prop:=
 (∃kvs k,Rd H a (.dK kvs)/\T8 y k/\r=rW kvs k)\/∃kvs k b,Rd H a (.dT kvs)/\y= .ref b/\Kd H b k/\r=rW kvs k
def DT(H:Hp)(a:Addr)(y v:V)(H':Hp):Prop:=
 (∃kvs k,H a=some (.dK kvs)/\T8 y k/\kvs.length<sizeLine/\H'=upd H a (.dK (putK kvs k v)))\/
 ∃kvs k b,H a=some (.dT kvs)/\y= .ref b/\Kd H b k/\kvs.length<sizeLine/\H'=upd H a (.dT (putK kvs k v))
def pP.t{b:Addr}{k:D}(e:H a=some (.dT kvs))(eb:Kd H b k):pP H a (.ref b) (rW kvs k):=.inr ⟨kvs,k,b,.inl e,rfl,eb,rfl⟩
def DT.t{b:Addr}{k:D}{v:V}(e:H a=some (.dT kvs))(eb:Kd H b k)(hl:kvs.length<sizeLine):
  DT H a (.ref b) v (upd H a (.dT (putK kvs k v))):=.inr ⟨kvs,k,b,e,rfl,eb,hl,rfl⟩
section
variable {X:Cx}{pins:AAG}{O:St}{H:Hp}{s:Shared}{a:Addr}{y v:V}{u r:Value}{o:Option V}{A:Around}{E:AAE}
def Inv.big(I:Inv X pins O H s):sysModules<c_:=by
 have h:mainGlobals<c_:=(I.mod.glob.keeps I.bk).lt;exact afP b_ h
def Jc(hu:A.units+20<cLine)(I:Inv X pins O H s)(g:pP H a y (some v))(ry:RelV y u)(h:∀w' s',Inv X pins O H s'->RelV v w'->Q w' s'):
  wpAny d_ A (getItem (.ref a) u) Q E s:=by
 rcases g with⟨kvs,k,e,ey,l⟩|⟨kvs,k,b,e,ey,eb,l⟩
 .obtain⟨z,hd,vs,rel,dd⟩:=Bh I.hok e;obtain⟨w',hw,rw'⟩:=pY.some_of (v:=v) (o:=valueAt vs k) (by rw[l];exact rel.val k);exact wpAny_getItem_of (ey.is ry) dd.mapOf hw (h w' _ (I.tok _) rw')
 .subst ey;cases(show u=Value.ref b from ry);obtain⟨z,hd,xs,rel,dd⟩:=Bj I.hok e;obtain⟨w',hw,rw'⟩:=pY.some_of (v:=v) (o:=(atKey xs k).map (·.2)) (by rw[l];exact rel.val k);obtain⟨p,hp,hp2⟩:=af7.mp hw;refine wpAny_getItem_heap (jk hu) (yI I.hok eb) dd hp ?_;rw[hp2];exact h w' _ (I.tok _) rw'
def ON(hu:A.units+20<cLine)(I:Inv X pins O H s)(g:pP H a y o)(ry:RelV y u)(h:∀s',Inv X pins O H s'->Q (.bool (!o.isSome)) s'):
  wpAny d_ A (compareOp .NotIn u (.ref a)) Q E s:=by
 rcases g with⟨kvs,k,e,ey,l⟩|⟨kvs,k,b,e,ey,eb,l⟩
 .obtain⟨z,hd,vs,rel,dd⟩:=Bh I.hok e;refine wpAny_notIn_of (ey.is ry) hd dd.mapOf ?_;rw[<-(rel.val k).vJ,<-l];exact h _ (I.tok _)
 .subst ey;cases(show u=Value.ref b from ry);obtain⟨z,hd,xs,rel,dd⟩:=Bj I.hok e;refine wpAny_notIn_heap (jk hu) (yI I.hok eb) hd dd ?_;have q:=(rel.val k).vJ;rw[Option.isSome_map]at q;rw[<-q,<-l];exact h _ (I.tok _)
def Cd{h':Heap}{ob:HO}(I:Inv X pins O H s)(mu:Xw (H a))(hs:Heap.SameBut a s.heap h')(he:∃q,h'.get? a=some q)(new:eu X.prog X.w (upd H a ob) h' a ob):
  Inv X pins O (upd H a ob) {s with heap:=h',toks:=t'}:=
 I.write (x:=a) (e:=a) mu (.inl rfl) (λb q hb z=>(hs.2 b hb).trans z) he new
def Lk{h':Heap}{kvs:List (Key×V)}{vs:List (Key×Value)}(z:kvs.length<=sizeLine)(hd:(a == sysModules)=false)(rel:KV kvs vs)(dd:h'.DictOf (gX P w) a vs):
  eu P w H' h' a (.dK kvs):=⟨z,hd,vs,rel,dd⟩
def Jd{Q:Unit->Shared->Prop}(hu:A.units+20<cLine)(I:Inv X pins O H s)(g:DT H a y v H')(ry:RelV y u)(rv:RelV v r)(h:∀s',Inv X pins O H' s'->Q () s'):
  wpAny d_ A (setItem (.ref a) u r) Q E s:=by
 rcases g with⟨kvs,k,e,ey,l,eH⟩|⟨kvs,k,b,e,ey,eb,l,eH⟩
 .subst eH;obtain⟨z,hd,vs,rel,dd⟩:=Li I.hok e;have hz:vs.length<=sizeLine:=by rw[<-rel.length];exact z
  have hl:(putK kvs k v).length<=sizeLine:=by have:=qh kvs k v;lia
  refine wpAny_setItem_pairs (hsz:=hz) (ey.is ry) dd λh' OO hs=>h _ ?_;have he:∃q,h'.get? a=some q:=let⟨q,_,_,hq,_⟩:=OO;⟨q,hq⟩
  exact Cd I (by rw[e];exact True.intro) hs he (Lk hl hd (rel.put k rv) OO)
 .subst ey eH;cases(show u=Value.ref b from ry);obtain⟨z,hd,xs,rel,dd⟩:=Yb I.hok e;have hz:xs.length<=sizeLine:=by rw[<-Paired.length rel];exact z
  have hl:(putK kvs k v).length<=sizeLine:=by have:=qh kvs k v;lia
  refine wpAny_setItem_heap (hsz:=hz) (jk hu) (yI I.hok eb) dd λh' OO hs=>h _ ?_;obtain⟨q,es,ep,hq,h2,h3,h4,_,h5⟩:=OO;refine Cd I (by rw[e];exact True.intro) hs ⟨q,hq⟩ ⟨hl,hd,_,(rel.put k eb rv).keeps λc ys ec=>?_,q,es,ep,hq,h2,h3,h4,h5⟩;rw[aO (Xv ec e (λz=>nomatch z))];exact ec
end
def Yc(i:Expr):Prop:=∀ov iv,subscripted i false ov iv=operate [ov,iv] (getItem ov iv)
def OP{s:Shared}{env:Env}{value slice:Expr}{T id:String}
  (hl:typeLookup (.type T) "__getitem__" =pure (some (.builtin id)))(hs:Yc slice)
  (h:wpAny g_ A (eval value env) (λo s₁=>wpAny g_ A (eval slice env) (λi s₂=>s₂.TypeIs o T/\wpAny g_ A (getItem o i) Q E s₂) E s₁) E s):
  wpAny g_ A (eval (.Subscript value slice pos) env) Q E s:=by
 refine Subscript_ (ab3 h (λo s₁ h₁=>ab3 h₁ (λi s₂ h₂=>?_) λ_ _ x=>x) λ_ _ x=>x);obtain⟨hT,h₂⟩:=h₂;unfold subscriptTail;refine aam ?_;rw[getitemInPython_of_ne hT.not_modules];refine aam (wpAny_specialOf hT hl ?_);have fin:wpAny g_ A (subscripted slice false o i) (λr s₃=>wpAny g_ A (letTemporaryGo value o r >>= λ_=>pure r) Q E s₃) E s₂:=by
  rw[hs o i];exact wpAny_operating (ab3 h₂ (λr s₃ h₃=>aam (wpAny_letTemporaryGo (wpAny_pure h₃))) λ_ _ x=>x)
 first
  |exact wpAny_pure (aam fin)
  |exact aam (wpAny_pure (aam fin))
  |exact aam fin
def DU{s:Shared}{o:Option V}(I:Inv X pins O H s)(g:pP H a y o):s.TypeIs (.ref a) "dict":=by
 rcases g with⟨kvs,k,e,_,_⟩|⟨kvs,k,b,e,_,_,_⟩
 .obtain⟨_,_,vs,_,dd⟩:=Bh I.hok e;exact dd.typeIs
 .obtain⟨_,_,xs,_,dd⟩:=Bj I.hok e;exact dd.typeIs
def Yd(td ty:TE):TE:=λO H Q=>td O H λx H1=>ty O H1 λy H2=>∃a v,x= .ref a/\pP H2 a y (some v)/\Q v H2
def G6(ty td:TE):TE:=λO H Q=>ty O H λy H1=>td O H1 λx H2=>∃a o,x= .ref a/\pP H2 a y o/\Q (.bl (!o.isSome)) H2
def Ye(td ty tv:TE):TS:=λD O H=>tv O H λv H1=>td O H1 λx H2=>ty O H2 λy H3=>∃a H4,x= .ref a/\DT H3 a y v H4/\D.nx O H4
section
variable {X:Cx}{o i value:Expr}{pos pos':Pos}{td ty tv:TE}
def Ce(hu:X.A.units+20<cLine)(ho:PE X o td)(hi:PE X i ty)(hs:Yc i):PE X (.Subscript o i pos) (Yd td ty):=by
 intro pins s O H Q I h;refine OP PySem.F.slot_dict_getitem.lookup hs (ez (ho pins s O H _ I h) λu s1 ⟨x,H1,I1,rx,q1⟩=>ez (hi pins s1 O H1 _ I1 q1) λiv s2 hh=>?_);obtain⟨y,H2,I2,ry,a,v,ex,g,q2⟩:=hh;subst ex;obtain rfl:u=Value.ref a:=rx;exact⟨DU I2 g,Jc hu I2 g ry λw' s3 I3 rw'=>⟨v,H2,I3,rw',q2⟩⟩
def Je(hu:X.A.units+20<cLine)(hi:PE X i ty)(ho:PE X o td):PC X .NotIn i o (G6 ty td):=by
 intro pins s O H Q I h;refine ez (hi pins s O H _ I h) λiv s1 ⟨y,H1,I1,ry,q1⟩=>ez (ho pins s1 O H1 _ I1 q1) λu s2 hh=>?_;obtain⟨x,H2,I2,rx,a,ov,ex,g,q2⟩:=hh;subst ex;obtain rfl:u=Value.ref a:=rx;exact ON hu I2 g ry λs3 I3=>⟨.bl (!ov.isSome),H2,I3,rfl,q2⟩
def G7(hu:X.A.units+20<cLine)(ho:PE X o td)(hi:PE X i ty)(hv:PE X value tv)(hs:swapsWith value (some (.Subscript o i pos')) pos.line X.env=pure false):
  PS X (.Assign [.Subscript o i pos'] value pos) (Ye td ty tv):=by
 intro pins s O H D I h;refine wpAny_Assign_Subscript (ez (hv pins s O H _ I h) λr s1 ⟨v,H1,I1,rv,q1⟩=>ez (ho pins s1 O H1 _ I1 q1) λu s2 ⟨x,H2,I2,rx,q2⟩=>ez (hi pins s2 O H2 _ I2 q2) λiv s3 hh=>?_) hs;obtain⟨y,H3,I3,ry,a,H4,ex,g,q3⟩:=hh;subst ex;obtain rfl:u=Value.ref a:=rx;exact Jd hu I3 g ry rv λs4 I4=>⟨O,H4,I4,q3⟩
end
def DV(h:Heap)(hb:sysModules<h.objs.size):eu P w H (h.push {cls:=.type "dict",data:=.dict #[]}) h.objs.size (.dK []):=
 ⟨abK _,ad0.mpr (acH (aa1 hb)),[],.nil,Heap.DictOf.new h⟩
def Ll(h:Heap)(hb:sysModules<h.objs.size):eu P w H (h.push {cls:=.type "dict",data:=.dict #[]}) h.objs.size (.dT []):=
 ⟨abK _,ad0.mpr (acH (aa1 hb)),[],.nil,_,#[],0,aaZ _ rfl,⟨rfl,rfl,rfl⟩,rfl,rfl,abZ⟩
def T9:TE:=λ_ H Q=>∀p,H p=none->Q (.ref p) (upd H p (.dK []))
def Ua:TE:=λ_ H Q=>∀p,H p=none->Q (.ref p) (upd H p (.dT []))
section
variable {X:Cx}{pos:Pos}
def Lm:PE X (.Dict [] [] pos) T9:=λpins s O H Q I h=>
 wpAny_Dict_empty ⟨.ref c_,_,I.laid (a:=c_) (o:=.dK []) (t':=s.toks) (λ_ _ q=>aaE _ q) (aaP _) (DV s.heap I.big),rfl,h _ (I.hok.fresh (aaP _))⟩
def Ln:PE X (.Dict [] [] pos) Ua:=λpins s O H Q I h=>
 wpAny_Dict_empty ⟨.ref c_,_,I.laid (a:=c_) (o:=.dT []) (t':=s.toks) (λ_ _ q=>aaE _ q) (aaP _) (Ll s.heap I.big),rfl,h _ (I.hok.fresh (aaP _))⟩
end
def yJ:List (TE×TE)->St->Hp->(List (V×V)->Hp->Prop)->Prop
 |[],_,H,Q=>Q [] H
 |(tk,tv)::r,O,H,Q=>tk O H λx H1=>tv O H1 λy H2=>yJ r O H2 λps H3=>Q ((x,y)::ps) H3
abbrev VV:List (V×V)->List (Value×Value)->Prop:=Paired λp q=>RelV p.1 q.1/\RelV p.2 q.2
def Yg(X:Cx)(pos:Pos)(keys:List (BBL))(values:BBC)(OQ:List (TE×TE)):Prop:=
 ∀(pins:AAG)(s:Shared)(O:St)(H:Hp)(Q:List (V×V)->Hp->Prop),Inv X pins O H s->yJ OQ O H Q->
  wpAny d_ X.A (evalPairs (pairTrees keys values X.env pos)) (λvs s'=>∃ps H',Inv X pins O H' s'/\VV ps vs/\Q ps H') X.xe s
def OR :Yg X pos [] [] []:=λpins s O H Q I h=>pairTrees_nil_walk ⟨[],H,I,.nil,h⟩
def Lo{k v:Expr}{ks:List (BBL)}{vs:BBC}{tk tv:TE}(hk:PE X k tk)(hv:PE X v tv)(hr:Yg X pos ks vs OQ):
  Yg X pos (some k::ks) (v::vs) ((tk,tv)::OQ):=λpins s O H Q I h=>
 pairTrees_cons_walk (ez (hk pins s O H _ I h) λu s1 ⟨x,H1,I1,rx,q1⟩=>ez (hv pins s1 O H1 _ I1 q1) λw2 s2 ⟨y,H2,I2,ry,q2⟩=>
  ez (hr pins s2 O H2 _ I2 q2) λws s3 ⟨ps,H3,I3,rel,q3⟩=>⟨(x,y)::ps,H3,I3,.cons ⟨rx,ry⟩ rel,q3⟩)
def qi(kvs more:List (Key×V)):List (Key×V):=more.foldl (λacc kv=>putK acc kv.1 kv.2) kvs
def KV.merge:∀{more:List (Key×V)}{rs:List (Key×Value)}{kvs:List (Key×V)}{vs:List (Key×Value)},KV more rs->KV kvs vs->KV (qi kvs more) (merged vs rs):=by
 intro more rs kvs vs r;unfold KV at r
 induction r generalizing kvs vs with
 |nil=>intro q;exact q
 |@cons p q ps qs h t ih=>
  intro r0;have e:KV (putK kvs p.1 p.2) (stored vs q.1 q.2):=by
   have:=r0.put p.1 h.2;rw[<-h.1];exact this
  exact ih e
theorem se:∀(more kvs:List (Key×V)),(qi kvs more).length<=kvs.length+more.length
 |[],kvs=>by show kvs.length<=kvs.length+0;lia
 |p::r,kvs=>by
  have h1:=se r (putK kvs p.1 p.2);have h2:=qh kvs p.1 p.2;show(qi (putK kvs p.1 p.2) r).length<=_;rw[abD];lia
theorem yK{P:Program}{w:World}:∀{kvs:List (Key×V)}{ws:List (Value×Value)},VV (kvs.map λkv=>(kV kv.1,kv.2)) ws->∃rs,Carries (gX P w) ws rs/\KV kvs rs
 |[],_,r=>by rw[List.map_nil]at r;cases r;exact⟨[],True.intro,.nil⟩
 |p::kvs,_,r=>by
  rw[acd]at r;cases r with
  |@cons a b as bs h t=>
   obtain⟨rs,c,q⟩:=yK (P:=P) (w:=w) t;obtain⟨b1,b2⟩:=b;exact⟨(p.1,b2)::rs,⟨RD h.1,rfl,c⟩,.cons ⟨rfl,h.2⟩ q⟩
def Yh(OQ:List (TE×TE)):TE:=λO H Q=>∀p,H p=none->yJ OQ O (upd H p (.dK [])) λps H2=>H2 p=some (.dK [])/\∃kvs:List (Key×V),ps=kvs.map (λkv=>(kV kv.1,kv.2))/\kvs.length<=15/\Q (.ref p) (upd H2 p (.dK (qi [] kvs)))
def OS{keys:List (BBL)}{values:BBC}(h:Yg X pos keys values OQ)(hall:keys.all (·.isSome)=true)(hl:keys.length=values.length)(h0:keys≠[])
  (h15:keys.length<=15):PE X (.Dict keys values pos) (Yh OQ):=by
 intro pins s O H Q I q;have hn:=I.hok.fresh (aaP c_);have I1:=I.laid (a:=c_) (o:=.dK []) (h':=s.heap.push {cls:=.type "dict",data:=.dict #[]}) (t':=s.toks) (λ_ _ q=>aaE _ q) (aaP _) (DV s.heap I.big);refine wpAny_Dict_walk (knd:=gX X.prog X.w) hall hl h0 h15 (ez (h pins _ O _ _ I1 (q _ hn)) λws s2 hh=>?_);obtain⟨ps,H2,I2,rel,e,kvs,ep,lk,q2⟩:=hh;subst ep;obtain⟨rs,c,rk⟩:=yK (P:=X.prog) (w:=X.w) rel;obtain⟨z,hd,vs0,r0,dd⟩:=Li I2.hok e;cases r0;refine⟨rs,c,dd,λh' OO hs=>⟨.ref c_,_,?_,rfl,q2⟩⟩;have hz:(qi [] kvs).length<=sizeLine:=by
  have h1:=se kvs [];rw[afE]at h1;rw[acT];lia
 have he:∃q,h'.get? c_=some q:=let⟨q,_,_,hq,_⟩:=OO;⟨q,hq⟩
 exact Cd I2 (by rw[e];exact True.intro) hs he (Lk hz hd (rk.merge .nil) OO)
structure M2(X:Cx)(o:Expr)(m:Str)(apos:Pos)(e f:Expr)(cpos:Pos):Prop where
 base:attributeBase o m X.env (eval o X.env)=eval o X.env
 few:((backTo cpos (starEach [e,f] X.env)).all (λx=>!x.1) && (backToKw cpos (keywordEach [] X.env)).all (λx=>x.1.isSome)
  && decide (([e,f]:BBC).length+([]:BBI).length+(if([]:BBI).isEmpty then 0 else 1)<30))=true
 line:(apos.endLine == cpos.line)=true
 trees:backTo cpos (starEach [e,f] X.env)=[(false,eval e X.env),(false,eval f X.env)]
def IsD(H:Hp)(a:Addr):Prop:=(∃kvs,Rd H a (.dK kvs))\/∃kvs,Rd H a (.dT kvs)
def Ub{s:Shared}(I:Inv X pins O H s)(d:IsD H a):
  s.TypeIs (.ref a) "dict"/\(∀b,Value.ref a= .ref b->∃ob,s.heap.get? b=some ob/\ob.dict=none)/\(a == sysModules)=false:=by
 rcases d with⟨kvs,e⟩|⟨kvs,e⟩
 .obtain⟨_,hd,vs,_,dd⟩:=Bh I.hok e;refine⟨dd.typeIs,λb q=>?_,hd⟩;cases q;obtain⟨ob,_,_,h1,h2,_⟩:=dd;exact⟨ob,h1,h2.2.1⟩
 .obtain⟨_,hd,xs,_,dd⟩:=Bj I.hok e;refine⟨dd.typeIs,λb q=>?_,hd⟩;cases q;obtain⟨ob,_,_,h1,h2,_⟩:=dd;exact⟨ob,h1,h2.2.1⟩
section
variable {X:Cx}{pins:AAG}{O:St}{H:Hp}{s:Shared}{a:Addr}{y d:V}{u r:Value}{o:Option V}{A:Around}{E:AAE}
def Uc(hu:A.units+20<cLine)(I:Inv X pins O H s)(g:pP H a y o)(ry:RelV y u)(rd:RelV d r)(h:∀w' s',Inv X pins O H s'->RelV (o.getD d) w'->Q w' s'):
  wpAny d_ A (call (.builtin "dict.get") [.ref a,u,r]) Q E s:=by
 rcases g with⟨kvs,k,e,ey,l⟩|⟨kvs,k,b,e,ey,eb,l⟩
 .obtain⟨z,hd,vs,rel,dd⟩:=Bh I.hok e;refine call_meetsIn agf dd.typeIs PySem.F.entry_dict_get (agX _ _ _) (meets_dict_get_default (gX X.prog X.w) a (ey.is ry) hd r) ⟨_,dd.mapOf,h _ _ (I.tok _) ?_⟩;rw[l];exact(rel.val k).getD rd
 .subst ey;cases(show u=Value.ref b from ry);obtain⟨z,hd,xs,rel,dd⟩:=Bj I.hok e;refine call_meetsIn agf dd.typeIs PySem.F.entry_dict_get (agX _ _ _) (meetsH_dict_get_default (kM X.prog X.w) a b hd r) ⟨jk hu,k,xs,yI I.hok eb,dd,h _ _ (I.tok _) ?_⟩;rw[l];exact(rel.val k).getD rd
end
def Ud(td ty tx:TE):TE:=λO H Q=>td O H λx H1=>∃a,x= .ref a/\IsD H1 a/\ty O H1 λy H2=>tx O H2 λz H3=>∃o,pP H3 a y o/\Q (o.getD z) H3
section
variable {X:Cx}{o e f:Expr}{apos cpos:Pos}{td ty tx:TE}
def Lp(hu:X.A.units+20<cLine)(ho:PE X o td)(he:PE X e ty)(hf:PE X f tx)(m:M2 X o "get" apos e f cpos):PE X (.Call (.Attribute o "get" apos) [e,f] [] cpos) (Ud td ty tx):=by
 intro pins s O H Q I h;refine wpAny_Call_method m.base m.few m.line PySem.F.plainAttrs_dict agf PySem.F.type_dict_get (ez (ho pins s O H _ I h) λu s1 hh=>?_);obtain⟨x,H1,I1,rx,a,ex,d,q1⟩:=hh;subst ex;obtain rfl:u=Value.ref a:=rx;obtain⟨t1,t2,_⟩:=Ub I1 d;refine⟨t1,t2,?_⟩;rw[m.trees];refine af8 rfl (Calls.evalArgs_plain (afO (ez (he pins s1 O H1 _ I1 q1) λiv s2 ⟨y,H2,I2,ry,q2⟩=>
  afO (ez (hf pins s2 O H2 _ I2 q2) λfv s3 ⟨z,H3,I3,rz,ov,g,q3⟩=>agC ?_))))
 exact Uc hu I3 g ry rz λw' s4 I4 rw'=>⟨_,H3,I4,rw',q3⟩
end
end L2
namespace HT
variable {Q:AAE}{lo hi:BBM}
section
open PySem.SeqAt
open PySem.AutoSeq1 (wpAny_loadPart')
open PySem.MeetsSeq PySem.MeetsSeq2 PySem.MeetsSeq3
end
section
variable {prog:Program}{w:World}{A:Around}{E:AAE}{s:Shared}
def OT{t b:Addr}{vs ws:AAL}(ht:IsTup s.heap t vs.toArray)(hb:IsTup s.heap b ws.toArray)(hv:vs≠[])
  (h1:ws=[]->Q (.ref t) s)(h2:ws≠[]->Q (.ref c_) {s with heap:=s.heap.push {cls:=.type "tuple",data:=.seq (vs++ws).toArray}})
  (hsz:vs.length+ws.length<=sizeLine):wpAny g_ A (binaryOp .Add (.ref t) (.ref b)) Q E s:=by
 obtain⟨⟨cls,dd,data,sl⟩,ho,hc,n,hd⟩:=id ht;obtain⟨⟨acA,dd2,data2,sl2⟩,ho2,hc2,n2,hd2⟩:=id hb;simp only at hc hd hc2 hd2;subst hc hd hc2 hd2;have e:vs.toArray++ws.toArray=(vs++ws).toArray:=by simp
 by_cases hw:ws=[]
 .exact concat_meets ⟨_,ho,rfl⟩ ⟨_,ho2,rfl⟩ agM seq_tuple_add af9 afY (afQ _ _)
   (tuple_addW1 t b vs.toArray ws.toArray n n2 dd dd2 sl sl2 (by simpa using hv) (by simp[hw])) ⟨ho,ho2,h1 hw⟩
 .refine concat_meets ⟨_,ho,rfl⟩ ⟨_,ho2,rfl⟩ agM seq_tuple_add af9 afY (afQ _ _)
   (tuple_addW2 t b vs.toArray ws.toArray n n2 dd dd2 sl sl2 (by simpa using hv) (by simpa using hw) (by rw[aaQ,aaQ];exact hsz)) ⟨ho,ho2,?_⟩
  rw[e];exact h2 hw
noncomputable def fR(n d:Nat):BBM->Nat
 |none=>d
 |some v=>if v<0 then(v+(n:Int)).toNat else min v.toNat n
def DW(n d:Nat):fR n d none=d:=rfl
def G8(n d k:Nat):fR n d (some (k:Int))=min k n:=by
 show(if(k:Int)<0 then((k:Int)+(n:Int)).toNat else min (k:Int).toNat n)=min k n;rw[if_neg a_,Int.toNat_natCast]
def Ue(n d:Nat)(hd:d<=n)(o:BBM):fR n d o<=n:=by
 cases o with
 |none=>exact hd
 |some v=>
  show(if v<0 then(v+(n:Int)).toNat else min v.toNat n)<=n;by_cases hv:v<0
  .rw[if_pos hv];lia
  .rw[if_neg hv];exact Nat.min_le_right _ _
def G9(v:Int)(n d:Nat):(if v<0 then max (v+(n:Int)) 0 else min v (n:Int))=((fR n d (some v):Nat):Int):=by
 show(if v<0 then max (v+(n:Int)) 0 else min v (n:Int))=(((if v<0 then(v+(n:Int)).toNat else min v.toNat n):Nat):Int);by_cases hv:v<0
 .simp only[if_pos hv];lia
 .simp only[if_neg hv];lia
def FI(lo hi:BBM)(n:Nat):Builtin.Slice.sliceAdjust lo hi 1 (n:Int)=(((fR n 0 lo:Nat):Int),((fR n n hi:Nat):Int)):=by
 have h1:¬((1:Int)<0):=by lia
 unfold Builtin.Slice.sliceAdjust;simp only[h1,aeW];refine Prod.ext ?_ ?_
 .cases lo with
  |none=>rfl
  |some v=>exact G9 v n 0
 .cases hi with
  |none=>rfl
  |some v=>exact G9 v n n
def FJ(i j:Nat):Builtin.Slice.slicePlaces (i:Int) (j:Int) 1=j-i:=by
 unfold Builtin.Slice.slicePlaces;have h1:(1:Int) > 0:=by lia
 simp only[h1,if_true,Int.ediv_one];split<;>lia
def yL{v:Value}{o:BBM}{Q:BBM->Shared->Prop}(p:IsPart v o)(h:Q o s):wpAny g_ A (Builtin.Slice.slicePartIndex v) Q E s:=by
 cases p with
 |none=>exact slicePart_none h
 |int i t=>exact slicePart_int h
def mY{sl:Addr}{vl vu:Value}{n:Nat}{Q:Int×Int×Nat->Shared->Prop}(hs:s.heap.IsSliceOf sl vl vu .none)(pl:IsPart vl lo)(pu:IsPart vu hi)
  (h:Q (((fR n 0 lo:Nat):Int),1,fR n n hi-fR n 0 lo) s):wpAny g_ A (Builtin.Slice.sliceApplied (.ref sl) (pure (n:Int))) Q E s:=by
 obtain⟨os,hos,hcs,hds⟩:=id hs;unfold Builtin.Slice.sliceApplied Builtin.Slice.sliceFields;refine aam (aam (wpAny_field hos hds (x:=vl) rfl (aam (wpAny_field hos hds (x:=vu) rfl (aam (wpAny_field hos hds (x:=.none) rfl (wpAny_pure ?_)))))));refine aam (slicePart_none ?_);show wpAny _ _ (if((1:Int) == 0)=true then _ else _) _ _ s;rw[if_neg b_];refine aam (yL pl (aam (yL pu (aam (wpAny_pure ?_)))));show wpAny _ _ (match Builtin.Slice.sliceAdjust lo hi 1 (n:Int) with|(lo,hi)=>pure (lo,(1:Int),Builtin.Slice.slicePlaces lo hi 1)) _ _ s;rw[FI lo hi n];show wpAny _ _ (pure (((fR n 0 lo:Nat):Int),(1:Int),Builtin.Slice.slicePlaces ((fR n 0 lo:Nat):Int) ((fR n n hi:Nat):Int) 1)) _ _ s;rw[FJ];exact wpAny_pure h
def Lq(xs:AAK)(i k:Nat):((List.range k).filterMap λ(m:Nat)=>xs[((i:Int)+(m:Int)*1).toNat]?).toArray=((xs.toList.drop i).take k).toArray:=by
 have e:(λ(m:Nat)=>xs[((i:Int)+(m:Int)*1).toNat]?)=λm=>xs[i+m]?:=by
  funext m;have:((i:Int)+(m:Int)*1).toNat=i+m:=by lia
  rw[this]
 rw[e];have:=pick_run xs i k;rw[List.filterMap_map]at this;have e2:((λx=>xs[x]?) ∘ λx=>i+x)=λm=>xs[i+m]?:=rfl;rw[e2]at this;rw[this]
def uC{t sl:Addr}{items:AAK}{vl vu:Value}(ht:IsTup s.heap t items)(hs:s.heap.IsSliceOf sl vl vu .none)(pl:IsPart vl lo)(pu:IsPart vu hi)
  (hw:¬(fR items.size 0 lo=0/\fR items.size items.size hi=items.size))
  (h:Q (.ref c_) {s with heap:=s.heap.push {cls:=.type "tuple",data:=.seq ((items.toList.drop (fR items.size 0 lo)).take (fR items.size items.size hi-fR items.size 0 lo)).toArray}})
  (hsz:items.size<=sizeLine):wpAny g_ A (getItem (.ref t) (.ref sl)) Q E s:=by
 have Hf:sizeOk (.seq ((items.toList.drop (fR items.size 0 lo)).take (fR items.size items.size hi-fR items.size 0 lo)).toArray):=by
  show((items.toList.drop (fR items.size 0 lo)).take (fR items.size items.size hi-fR items.size 0 lo)).toArray.size<=sizeLine;rw[aaQ,aea,adW,abM];lia
 have hj:fR items.size items.size hi<=items.size:=Ue _ _ (aaP _) hi;obtain⟨os,hos,hcs,hds⟩:=id hs;have hTs:s.TypeIs (.ref sl) "slice":=⟨os,hos,hcs⟩
 unfold getItem
 try with_reducible refine acK ?_
 first|refine aam (wpAny_pure ?_)|skip
 refine aam (wpAny_sequenceKey ht.typeIs b_ ?_);refine aam (ae6 (name:=Str.ofString "__getitem__") ht.typeIs acJ
  (aeb acJ ht.typeIs entry_tuple_getitem ?_ (args_tuple_getitem _ _)))
 show wpAny _ _ (Builtin.Tuple.tupleItemsOf (.ref t) >>= _) _ _ s;refine aam (tupleItemsOf_ ht ?_);refine aam (agj hTs ?_);rw[if_pos b_];refine aam (mY hs pl pu ?_);have hno:¬((((fR items.size 0 lo:Nat):Int) == 0 && (1:Int) == 1 && (fR items.size items.size hi-fR items.size 0 lo) == items.size)=true):=by
  intro q;rw[abS,abS]at q;have q1:((fR items.size 0 lo:Nat):Int)=0:=eq_of_beq q.1.1;have q2:fR items.size items.size hi-fR items.size 0 lo=items.size:=eq_of_beq q.2;exact hw ⟨by lia,by lia⟩
 show wpAny _ _ (if(((fR items.size 0 lo:Nat):Int) == 0 && (1:Int) == 1 && (fR items.size items.size hi-fR items.size 0 lo) == items.size)=true then _ else _) _ _ s;rw[if_neg hno,Lq]
 first
  |exact aam (m:=Builtin.Tuple.tupleExact _) (acV (wpAny_pure ⟨_,rfl,wpAny_pure h⟩) Hf)
  |exact aam (m:=Builtin.Tuple.tupleExact _) (acV (aam (wpAny_pure (wpAny_pure ⟨_,rfl,wpAny_pure h⟩))) Hf)
  |exact aam (aam (m:=Builtin.Tuple.tupleExact _) (acV (wpAny_pure (wpAny_pure ⟨_,rfl,wpAny_pure h⟩)) Hf))
  |exact aam (aam (m:=Builtin.Tuple.tupleExact _) (acV (wpAny_pure ⟨_,rfl,wpAny_pure h⟩) Hf))
end
end HT
namespace L2
variable {xs:List V}{n:Nat}{pins:AAG}{its its':AAL}
abbrev TO:=St->Hp->(BBM->Hp->Prop)->Prop
def PO(X:Cx)(e:BBL)(t:TO):Prop:=
 ∀(pins:AAG)(s:Shared)(O:St)(H:Hp)(Q:BBM->Hp->Prop),Inv X pins O H s->t O H Q->
  wpAny d_ X.A (evalPart e X.env) (λu s'=>∃o H',Inv X pins O H' s'/\IsPart u o/\Q o H') X.xe s
def OU:TO:=λ_ H Q=>Q none H
def Yi(t:TE):TO:=λO H Q=>t O H λx H1=>∃i,x= .int i/\Q (some i) H1
section
variable {X:Cx}{e:Expr}{te:TE}{lo hi:BBL}{tl th:TO}{pos p2:Pos}
def OV:PO X none OU:=by
 intro pins s O H Q I h;rw[evalPart_none];exact wpAny_pure ⟨none,H,I,.none,h⟩
def OW(h:PE X e te):PO X (some e) (Yi te):=by
 intro pins s O H Q I hw;rw[evalPart_some];refine ez (h pins s O H _ I hw) λu s1 hh=>?_;obtain⟨x,H1,I1,r1,q1⟩:=hh;obtain⟨i,rfl,q⟩:=q1;obtain⟨t,rfl⟩:=r1;exact⟨some i,H1,I1,.int i t,q⟩
def SlR(X:Cx)(r:V->BBM->BBM->Hp->VK->Prop):Prop:=
 ∀(pins:AAG)(s:Shared)(O:St)(H:Hp)(x:V)(v vl vu:Value)(lo hi:BBM)(sl:Addr)(Q:VK),Inv X pins O H s->RelV x v->s.heap.IsSliceOf sl vl vu .none->IsPart vl lo->IsPart vu hi->r x lo hi H Q->
  ∃T id,typeLookup (.type T) "__getitem__" =pure (some (.builtin id))/\s.TypeIs v T/\wpAny d_ X.A (getItem v (.ref sl)) (EP X pins O Q) X.xe s
def tSl(r:V->BBM->BBM->Hp->VK->Prop)(te:TE)(tl th:TO):TE:=λO H Q=>te O H λx H1=>tl O H1 λl H2=>th O H2 λu H3=>r x l u H3 Q
def DX{r:V->BBM->BBM->Hp->VK->Prop}(hr:SlR X r)(he:PE X e te)(hl:PO X lo tl)(hu:PO X hi th):PE X (.Subscript e (.Slice lo hi none p2) pos) (tSl r te tl th):=by
 intro pins s O H Q I h;refine Subscript_ (ez (he pins s O H _ I h) λv s1 hh=>?_);obtain⟨x,H1,I1,r1,q1⟩:=hh;refine wpAny_Slice (ez (hl pins s1 O H1 _ I1 q1) λvl s2 ⟨l,H2,I2,pl,q2⟩=>ez (hu pins s2 O H2 _ I2 q2) λvu s3 hh=>?_);obtain⟨u,H3,I3,pu,q3⟩:=hh;rw[evalPart_none];refine wpAny_pure ?_;have I4:Inv X pins O H3 {s3 with heap:=s3.heap.push {cls:=.type "slice",data:=.fields #[vl,vu,.none]}}:=I3.kept (t':=s3.toks) λb ob q=>aaE _ q;obtain⟨T,id,hT,ht,hg⟩:=hr pins {s3 with heap:=s3.heap.push {cls:=.type "slice",data:=.fields #[vl,vu,.none]}} O H3 x v vl vu l u s3.heap.objs.size Q I4 r1 (Heap.IsSliceOf.new ..) pl pu q3;show wpAny d_ X.A (subscriptTail e (.Slice lo hi none p2) v (.ref s3.heap.objs.size)) (EP X pins O Q) X.xe {s3 with heap:=s3.heap.push {cls:=.type "slice",data:=.fields #[vl,vu,.none]}};exact tail_any (ops:=[.ref s3.heap.objs.size,v]) ht hT hg (by with_unfolding_all rfl)
noncomputable def AH(xs:List V)(lo hi:BBM):List V:=(xs.drop (HT.fR xs.length 0 lo)).take (HT.fR xs.length xs.length hi-HT.fR xs.length 0 lo)
def wZ(xs:List V)(lo hi:BBM):(AH xs lo hi).length<=xs.length:=by
 unfold AH;rw[aea,adW];lia
def acC(K:AAD):V->BBM->BBM->Hp->VK->Prop:=λx lo hi H Q=>∃a xs,x= .ref a/\A6 K H a xs/\
 ¬(HT.fR xs.length 0 lo=0/\HT.fR xs.length xs.length hi=xs.length)/\∀p,H p=none->Q (.ref p) (upd H p (.tup (AH xs lo hi)))
def Ug:SlR X (acC X.K):=by
 intro pins s O H x v vl vu lo hi sl Q I rx hs pl pu h;obtain⟨a,xs,rfl,hx,hw,q⟩:=h;cases rx;obtain⟨its,r,ht,hz⟩:=I.tuple hx;have hlen:its.toArray.size=xs.length:=by rw[aaQ];exact r.length.symm
 refine⟨"tuple",_,acJ.lookup,ht.typeIs,?_⟩;refine HT.uC ht hs pl pu (by rw[hlen];exact hw) ?_ (by rw[hlen];exact hz);rw[hlen];refine⟨.ref c_,_,I.laid (t':=s.toks) (o:=.tup (AH xs lo hi)) (λb ob q=>aaE _ q) (aaP _) ?_,rfl,q _ (I.hok.fresh (aaP _))⟩;exact⟨aaY (wZ xs lo hi) hz,_,(r.drop (HT.fR xs.length 0 lo)).take (HT.fR xs.length xs.length hi-HT.fR xs.length 0 lo),IsTup.new _ _⟩
def Yj(K:AAD):R2:=λx y H Q=>∃a b xs ys,x= .ref a/\y= .ref b/\A6 K H a xs/\A6 K H b ys/\xs≠[]/\xs.length+ys.length<=sizeLine/\
 (ys=[]->Q (.ref a) H)/\(ys≠[]->∀p,H p=none->Q (.ref p) (upd H p (.tup (xs++ys))))
def Vals.Cf{us:AAL}(r:Vals xs us):us=[]↔xs=[]:=by
 cases r with
 |nil=>simp
 |cons _ _=>simp
def OX:yg X (binaryOp .Add) (Yj X.K):=by
 intro pins s O H x y v u Q I rx ry h;obtain⟨a,b,xs,ys,rfl,rfl,ha,hb,hx,hz,q1,q2⟩:=h;cases rx;cases ry;obtain⟨its,r1,p1,_⟩:=I.tuple ha;obtain⟨its2,r2,p2,_⟩:=I.tuple hb;refine HT.OT p1 p2 (λz=>hx (r1.Cf.mp z)) (λz=>⟨.ref a,H,I,rfl,q1 (r2.Cf.mp z)⟩) (λz=>?_) (by rw[<-r1.length,<-r2.length];exact hz);refine⟨.ref c_,_,I.laid (t':=s.toks) (o:=.tup (xs++ys)) (λb ob q=>aaE _ q) (aaP _) ?_,rfl,q2 (λw=>z (r2.Cf.mpr w)) _ (I.hok.fresh (aaP _))⟩;exact⟨by rw[aaW];exact hz,_,r1.append r2,IsTup.new _ _⟩
end
noncomputable def Hg(n:Nat)(i:Int):Option Nat:=if 0<=i then(if i<n then some i.toNat else none) else if -(n:Int)<=i then some (i+n).toNat else none
def dZ{α:Type}(xs:List α)(i:Int):Option α:=(Hg xs.length i).bind λj=>xs[j]?
def Hh{i:Int}{j:Nat}(h:Hg n i=some j):seqIndex? i n=some j/\j<n/\-(n:Int)<=i/\i<n:=by
 unfold Hg at h;by_cases h0:0<=i
 .rw[if_pos h0]at h;by_cases h1:i<n
  .rw[if_pos h1]at h;have e:i.toNat=j:=abT h;exact⟨by rw[seqIndex_of h0 h1,e],by lia,by lia,h1⟩
  .rw[if_neg h1]at h;cases h
 .rw[if_neg h0]at h;by_cases h1:-(n:Int)<=i
  .rw[if_pos h1]at h;have e:(i+n).toNat=j:=abT h;exact⟨by rw[seqIndex_neg a_ h1,e],by lia,h1,by lia⟩
  .rw[if_neg h1]at h;cases h
def Cg{α:Type}{xs:List α}{i:Int}{v:α}(h:dZ xs i=some v):∃j,seqIndex? i xs.length=some j/\xs[j]? =some v/\j<xs.length/\-(xs.length:Int)<=i/\i<xs.length:=by
 unfold dZ at h;cases e:Hg xs.length i with
 |none=>rw[e]at h;cases h
 |some j=>
  rw[e]at h;obtain⟨h1,h2,h3,h4⟩:=Hh e;exact⟨j,h1,h,h2,h3,h4⟩
def OY{α:Type}{xs:List α}{j:Nat}{v:α}(h:xs[j]? =some v):dZ xs (j:Int)=some v:=by
 have hj:j<xs.length:=(abv.mp h).1;have e:Hg xs.length (j:Int)=some j:=by
  unfold Hg;rw[if_pos a_,if_pos a_];simp
 unfold dZ;rw[e];exact h
def nY(b:Expr):Prop:=∀o i,subscripted b false o i=operate [o,i] (getItem o i)
def Lr(X:Cx)(r:R2):Prop:=
 ∀(value slice:Expr)(pins:AAG)(s:Shared)(O:St)(H:Hp)(x y:V)(v u:Value)(Q:VK),Inv X pins O H s->RelV x v->RelV y u->r x y H Q->
  subscripted slice false v u=operate [v,u] (getItem v u)->wpAny d_ X.A (subscriptTail value slice v u) (EP X pins O Q) X.xe s
def MtR(X:Cx)(id:String)(r:V->List V->Hp->VK->Prop):Prop:=
 ∀(pins:AAG)(s:Shared)(O:St)(H:Hp)(x:V)(xs:List V)(v:Value)(us:AAL)(Q:VK),Inv X pins O H s->RelV x v->Vals xs us->r x xs H Q->
  wpAny d_ X.A (call (.builtin id) (v::us)) (EP X pins O Q) X.xe s
section
variable {X:Cx}{a b:Expr}{ta tb:TE}{pos:Pos}
def Lr.or{r r':R2}(h:Lr X r)(h':Lr X r'):Lr X (λx y H Q=>r x y H Q\/r' x y H Q):=by
 intro value slice pins s O H x y v u Q I rx ry q hs;rcases q with q|q
 .exact h value slice pins s O H x y v u Q I rx ry q hs
 .exact h' value slice pins s O H x y v u Q I rx ry q hs
def Ls{r:R2}(hr:Lr X r)(ha:PE X a ta)(hb:PE X b tb)(hs:nY b):PE X (.Subscript a b pos) (Tt r ta tb):=by
 intro pins s O H Q I h;exact Subscript_ (Tu ha hb I h λv u s2 x y H2 I2 rx ry q=>hr a b pins s2 O H2 x y v u Q I2 rx ry q (hs _ _))
def Yk(K:AAD):R2:=λx y H Q=>∃p xs i v,x= .ref p/\y= .int i/\mX K H p xs/\dZ xs i=some v/\Q v H
def Yl(K:AAD):R2:=λx y H Q=>∃p xs i v,x= .ref p/\y= .int i/\A6 K H p xs/\dZ xs i=some v/\Q v H
def Ym:R2:=λx y H Q=>∃z i c,x= .str z/\y= .int i/\z.length<=sizeLine/\dZ z.cps.toList i=some c/\Q (.str ⟨#[c]⟩) H
def Hi:Lr X (Yk X.K):=by
 intro value slice pins s O H x y v u Q I rx ry h hs;obtain⟨p,xs,i,z,rfl,rfl,hq,he,q⟩:=h;cases rx;obtain⟨t,rfl⟩:=ry;obtain⟨its,r,pl,hz⟩:=I.list hq;obtain⟨j,h1,h2,h3,h4,h5⟩:=Cg he;obtain⟨w,ew,rw'⟩:=r.get h2;have hl:=r.length;have hn:=yH;have fin:EP X pins O Q w s:=⟨z,H,I,rw',q⟩
 by_cases h0:0<=i
 .have hj:i.toNat=j:=by
   rw[seqIndex_of h0 h5]at h1;exact abT h1
  exact item_listR pl.isList h0 a_ (by rw[hj];simpa using ew) fin hs
 .have hj:(i+(its.toArray.size:Int)).toNat=j:=by
   rw[seqIndex_neg a_ h4]at h1;rw[aaQ,<-hl];exact abT h1
  exact subscriptTail_builtinR (x:=w) pl.isList.typeIs slot_list_getitem.lookup
   (wpAny_getItem_list_neg (Q:=λr s'=>r=w/\EP X pins O Q r s') pl.isList a_ (by rw[aaQ]<;>lia) a_ (by rw[hj];simpa using ew) ⟨rfl,fin⟩) hs
def Lu:Lr X (Yl X.K):=by
 intro value slice pins s O H x y v u Q I rx ry h hs;obtain⟨p,xs,i,z,rfl,rfl,hq,he,q⟩:=h;cases rx;obtain⟨t,rfl⟩:=ry;obtain⟨its,r,pl,hz⟩:=I.tuple hq;obtain⟨j,h1,h2,h3,h4,h5⟩:=Cg he;obtain⟨w,ew,rw'⟩:=r.get h2;have hl:=r.length;have hn:=yH;have fin:EP X pins O Q w s:=⟨z,H,I,rw',q⟩
 exact subscriptTail_builtinR (x:=w) pl.typeIs slot_tuple_getitem.lookup
  (getItem_tuple (j:=j) (Q:=λr s'=>r=w/\EP X pins O Q r s') pl a_ a_ (by rw[aaQ,<-hl];exact h1) (by simpa using ew) ⟨rfl,fin⟩) hs
def Uh:Lr X Ym:=by
 intro value slice pins s O H x y v u Q I rx ry h hs;obtain⟨z,i,c,rfl,rfl,hz,he,q⟩:=h;obtain⟨t,rfl⟩:=rx;obtain⟨t',rfl⟩:=ry;obtain⟨j,h1,h2,h3,h4,h5⟩:=Cg he;have hl:z.cps.toList.length=z.length:=by simp[Str.length]
 rw[hl]at h1 h4 h5;have hn:=yH;exact tail_any (typeIs_str s z t) slot_str_getitem.lookup (getItem_str (c:=c) (by
  have e1:decide (i < -(2 ^ 63:Int))=false:=abP a_;have e2:decide (i≥2 ^ 63)=false:=abP a_;rw[e1,e2,ahg]) (by rw[h1];simpa using h2) ⟨.str ⟨#[c]⟩,H,I.tok _,⟨_,rfl⟩,q⟩) hs
def rIx(K:AAD):R2:=λx y H Q=>Yk K x y H Q\/Yl K x y H Q\/Ym x y H Q
def Lv:Lr X (rIx X.K):=Hi.or (Lu.or Uh)
def FL(its:AAL)(n j:Nat)(u:Value):Obj.mapSeq (·.setIfInBounds j u) {cls:=.type "list",data:=.seq its.toArray n}={cls:=.type "list",data:=.seq (its.set j u).toArray n}:=by
 simp[Obj.mapSeq]
def Inv.lst{pins:AAG}{O:St}{H:Hp}{s:Shared}{p:Addr}{xs:List V}(I:Inv X pins O H s)(h:H p=some (.lst xs)):
  ∃(its:AAL)(n:Nat),Vals xs its/\s.heap.get? p=some {cls:=.type "list",data:=.seq its.toArray n}/\xs.length<=sizeLine:=by
 obtain⟨z,its,n,r,e⟩:=I.hok p _ h;exact⟨its,n,r,e,z⟩
def Inv.Ui{O:St}{H:Hp}{s:Shared}{p:Addr}{ys:List V}{n':Nat}{f:Obj->Obj}(I:Inv X pins O H s)(h:H p=some (.lst xs))
  (ho:s.heap.get? p=some {cls:=.type "list",data:=.seq its.toArray n})(hf:f {cls:=.type "list",data:=.seq its.toArray n}={cls:=.type "list",data:=.seq its'.toArray n'})(r:Vals ys its')(hz:ys.length<=sizeLine)(t:Nat):
  Inv X pins O (upd H p (.lst ys)) {s with heap:=s.heap.update p f,toks:=t}:=by
 have e:(s.heap.update p f).get? p=some {cls:=.type "list",data:=.seq its'.toArray n'}:=by
  rw[afu f ho (by rw[hf]<;>rfl),hf]
 refine I.write (x:=p) (e:=p) (by rw[h];trivial) (.inl rfl) (λb u hb q=>(aee _ _ (acH hb)).trans q) ⟨_,e⟩ ?_;exact⟨hz,its',n',r,e⟩
def Yn:V->V->V->Hp->(Hp->Prop)->Prop:=λo i v H Q=>∃p xs k j,o= .ref p/\i= .int k/\H p=some (.lst xs)/\Hg xs.length k=some j/\Q (upd H p (.lst (xs.set j v)))
def set_list:XM X Yn:=by
 intro pins s O H o i v ov iv u Q I ro ri rv h;obtain⟨p,xs,k,j,rfl,rfl,hp,hj,q⟩:=h;cases ro;obtain⟨t,rfl⟩:=ri;obtain⟨its,n,r,ho,hz⟩:=I.lst hp;obtain⟨h1,h2,h3,h4⟩:=Hh hj;have hl:=r.length;have hn:=yH;have I':Inv X pins O (upd H p (.lst (xs.set j v))) {s with heap:=s.heap.update p (Obj.mapSeq (·.setIfInBounds j u))}:=
  I.Ui hp ho (FL its n j u) (r.set rv j) (by rw[aeo];exact hz) s.toks
 by_cases h0:0<=k
 .have hk:k.toNat=j:=by
   rw[seqIndex_of h0 h4]at h1;exact abT h1
  exact W.ki_setAt ho h0 a_ (by rw[aaQ,<-hl];exact h4) (by rw[hk];exact⟨_,I',q⟩)
 .have hk:(k+(its.toArray.size:Int)).toNat=j:=by
   rw[seqIndex_neg a_ h3]at h1;rw[aaQ,<-hl];exact abT h1
  exact W.ki_setBack ho a_ (by rw[aaQ,<-hl];exact h3) a_ (by rw[hk];exact⟨_,I',q⟩)
def Ci(lo hi:BBM)(n:Nat):(sliceBounds lo hi none n).1=((HT.fR n 0 lo:Nat):Int)/\(sliceBounds lo hi none n).2.1=((HT.fR n n hi:Nat):Int)/\(sliceBounds lo hi none n).2.2=1:=by
 refine⟨?_,?_,rfl⟩
 .cases lo with
  |none=>simp[sliceBounds,HT.fR]
  |some i=>
   simp only[sliceBounds,HT.fR,Option.getD_none,show(1:Int) > 0 by decide,if_true];by_cases h:i<0
   .simp only[h,if_true]<;>lia
   .simp only[h,aeW]<;>lia
 .cases hi with
  |none=>simp[sliceBounds,HT.fR]
  |some i=>
   simp only[sliceBounds,HT.fR,Option.getD_none,show(1:Int) > 0 by decide,if_true];by_cases h:i<0
   .simp only[h,if_true]<;>lia
   .simp only[h,aeW]<;>lia
def AI(its:AAL)(lo hi:BBM):slicePick its.toArray lo hi none=((its.drop (HT.fR its.length 0 lo)).take (HT.fR its.length its.length hi-HT.fR its.length 0 lo)).toArray:=by
 obtain⟨h1,h2,h3⟩:=Ci lo hi its.toArray.size;unfold slicePick;rw[h1,h2,h3];simp only[sliceRange_one,pick_run,aaQ]<;>rfl
def acD(K:AAD):V->BBM->BBM->Hp->VK->Prop:=λx lo hi H Q=>∃a xs,x= .ref a/\mX K H a xs/\∀p,H p=none->Q (.ref p) (upd H p (.lst (AH xs lo hi)))
def Hj:SlR X (acD X.K):=by
 intro pins s O H x v vl vu lo hi sl Q I rx hs pl pu h;obtain⟨a,xs,rfl,hx,q⟩:=h;cases rx;obtain⟨its,r,ht,hz⟩:=I.list hx;have hlen:=r.length;refine⟨"list",_,slot_list_getitem.lookup,ht.isList.typeIs,?_⟩;refine wpAny_getItem_list_slice ht.isList hs pl pu .none (by simp) ?_ (by rw[aaQ]<;>lia);rw[AI,<-hlen];refine⟨.ref c_,_,I.laid (t':=s.toks) (o:=.lst (AH xs lo hi)) (λb ob q=>aaE _ q) (aaP _) ?_,rfl,q _ (I.hok.fresh (aaP _))⟩;exact⟨aaY (wZ xs lo hi) hz,_,0,(r.drop (HT.fR xs.length 0 lo)).take (HT.fR xs.length xs.length hi-HT.fR xs.length 0 lo),aaZ _ rfl⟩
def nZ:gY X (.builtin "len") (λxs H Q=>∃p ys,xs=[.ref p]/\(mX X.K H p ys\/A6 X.K H p ys)/\Q (.int ys.length) H):=by
 intro pins s O H xs us Q I r h;obtain⟨p,ys,rfl,hq,q⟩:=h;obtain⟨u,rfl,rx⟩:=vals1 r;cases rx;have hn:=yH;rcases hq with hq|hq
 .obtain⟨its,r',pl,hz⟩:=I.list hq;have hlen:=r'.length;exact Calls.call_len_list pl.isList (by simp only[aaQ]<;>lia) ⟨.int ys.length,H,I.tok _,⟨s.toks+1,by rw[aaQ,hlen]⟩,q⟩
 .obtain⟨its,r',pl,hz⟩:=I.tuple hq;have hlen:=r'.length;exact len_tuple pl (by simp only[aaQ]<;>lia) ⟨.int ys.length,H,I.tok _,⟨s.toks+1,by rw[aaQ,hlen]⟩,q⟩
def Cj:gY X (.type "list") (λxs H Q=>∃p ys,xs=[.ref p]/\(mX X.K H p ys\/A6 X.K H p ys)/\∀l,H l=none->Q (.ref l) (upd H l (.lst ys))):=by
 intro pins s O H xs us Q I r h;obtain⟨p,ys,rfl,hq,q⟩:=h;obtain⟨u,rfl,rx⟩:=vals1 r;cases rx;have fin:∀(its:AAL),Vals ys its->ys.length<=sizeLine->∀(h':Heap)(c':Nat),(∀b o',s.heap.get? b=some o'->h'.get? b=some o')->
   h'.get? c_=some {cls:=.type "list",dict:=none,data:=.seq its.toArray c',slots:=#[]}->EP X pins O Q (.ref c_) {s with heap:=h'}:=λits r' hz h' c' kp e=>
  ⟨.ref c_,_,I.laid (t':=s.toks) kp (aaP _) (show eu X.prog X.w _ h' _ (.lst ys) from⟨hz,its,c',r',e⟩),rfl,q _ (I.hok.fresh (aaP _))⟩
 rcases hq with hq|hq
 .obtain⟨its,r',pl,hz⟩:=I.list hq;have hlen:=r'.length;obtain⟨o,ho,hc,n,hd⟩:=pl.isList;exact call_list_seq p (.inl rfl) ho hc hd (λh' c' kp e=>fin its r' hz h' c' kp e) (by simp only[aaQ]<;>lia)
 .obtain⟨its,r',pl,hz⟩:=I.tuple hq;have hlen:=r'.length;obtain⟨o,ho,hc,n,hd⟩:=pl;exact call_list_seq p (.inr rfl) ho hc hd (λh' c' kp e=>fin its r' hz h' c' kp e) (by simp only[aaQ]<;>lia)
def AJ:gY X (.type "tuple") (λxs H Q=>∃p ys,xs=[.ref p]/\((mX X.K H p ys/\∀l,H l=none->Q (.ref l) (upd H l (.tup ys)))\/(A6 X.K H p ys/\Q (.ref p) H))):=by
 intro pins s O H xs us Q I r h;obtain⟨p,ys,rfl,h⟩:=h;obtain⟨u,rfl,rx⟩:=vals1 r;cases rx;rcases h with⟨hq,q⟩|⟨hq,q⟩
 .obtain⟨its,r',pl,hz⟩:=I.list hq;have hlen:=r'.length;refine call_tuple_list pl.isList (λh' kp=>?_) (by simp only[aaQ]<;>lia);have I1:Inv X pins O H {s with heap:=h'}:=I.kept (t':=s.toks) kp;have I2:Inv X pins O (upd H h'.objs.size (.tup ys)) {s with heap:=h'.push {cls:=.type "tuple",data:=.seq its.toArray}}:=
   I1.laid (t':=s.toks) (λb o e=>aaE _ e) (aaP _) (show eu X.prog X.w _ _ _ (.tup ys) from⟨hz,its,r',IsTup.new _ _⟩)
  exact⟨.ref h'.objs.size,_,I2,rfl,q _ (I1.hok.fresh (aaP _))⟩
 .obtain⟨its,r',pl,hz⟩:=I.tuple hq;exact call_tuple_same pl ⟨.ref p,H,I,rfl,q⟩
def tyV(K:AAD)(T:String)(x:V)(H:Hp):Prop:=match x with
 |.ref p=>T="list"/\∃xs,mX K H p xs
 |_=>False
def Uj{O:St}{H:Hp}{s:Shared}{T:String}{x:V}{v:Value}(I:Inv X pins O H s)(r:RelV x v)(ty:tyV X.K T x H):
  s.TypeIs v T/\∀a,v= .ref a->∃ob,s.heap.get? a=some ob/\ob.dict=none:=by
 cases x with
 |ref p=>
  cases r;obtain⟨rfl,xs,hq⟩:=ty;obtain⟨its,_,pl,_⟩:=I.list hq;refine⟨pl.isList.typeIs,λa e=>?_⟩;cases e;obtain⟨o,n,e,c,hd,_⟩:=pl;exact⟨o,e,hd⟩
 |_=>exact False.elim ty
def tBM(K:AAD)(T:String)(r:V->List V->Hp->VK->Prop)(to:TE)(t:TA):TE:=λO H Q=>to O H λx H1=>tyV K T x H1/\t O H1 λxs H2=>r x xs H2 Q
variable {o e:Expr}{es:BBC}{to:TE}{t:TA}{name:Str}{apos cpos:Pos}{T id:String}{r:V->List V->Hp->VK->Prop}
def RG(pa:PlainAttrs T)(slot:Slot T name id)(hty:typeOf (.builtin id)=pure (.type "method_descriptor"))(hm:MtR X id r)(ho:PE X o to)(ha:PA X (e::es) t)
  (hbase:attributeBase o name X.env (eval o X.env)=eval o X.env:=by rfl)
  (hfew:((backTo cpos (starEach (e::es) X.env)).all (λx=>!x.1) && (backToKw cpos (keywordEach [] X.env)).all (λx=>x.1.isSome)
   && decide ((e::es).length+([]:BBI).length+(if([]:BBI).isEmpty then 0 else 1)<30))=true:=by rfl)
  (hline:(apos.endLine == cpos.line)=true:=by rfl)(hs:starEach (e::es) X.env=(false,eval e X.env)::starEach es X.env:=by rfl)(hplain:(backTo cpos (starEach es X.env)).any (·.1)=false:=by rfl):
  PE X (.Call (.Attribute o name apos) (e::es) [] cpos) (tBM X.K T r to t):=by
 intro pins s O H Q I h;refine wpAny_Call_method_late hbase hfew hline rfl (ez (ho pins s O H _ I h) λv s1 hh=>?_);obtain⟨x,H1,I1,r1,ty,q1⟩:=hh;obtain⟨h1,h2⟩:=Uj I1 r1 ty;refine⟨T,id,pa,slot,hty,h1,h2,?_⟩;have hA:=ha cpos pins s1 O H1 _ I1 q1;rw[hs]at hA ⊢;refine af8 (by show(false || (backTo cpos (starEach es X.env)).any (·.1))=false;rw[hplain]<;>rfl) (Calls.evalArgs_plain ?_);exact ez hA λus s2 ⟨vs,H2,I2,r2,q2⟩=>hm pins s2 O H2 x vs v us Q I2 r1 r2 q2
end
def MtM(X:Cx)(id:String)(r:V->List V->Hp->VK->Prop):Prop:=
 ∀(pins:AAG)(s:Shared)(O:St)(H:Hp)(x:V)(xs:List V)(v:Value)(us:AAL)(Q:VK),Inv X pins O H s->RelV x v->Vals xs us->r x xs H Q->
  wpAny d_ X.A (call (.builtin id) (v::us)) (EP X pins O Q) X.xe s
theorem Vals.one:∀{x:V}{us:AAL},Vals [x] us->∃u,us=[u]/\RelV x u
 |_,_,.cons r .nil=>⟨_,rfl,r⟩
section
variable {X:Cx}{pins:AAG}{O:St}{H:Hp}{s:Shared}{l:Addr}{xs ys:List V}
def Inv.Yo{f:Array Value->Array Value}{t':Nat}(I:Inv X pins O H s)(hH:H l=some (.lst xs))
  (e:s.heap.get? l=some {cls:=.type "list",data:=.seq its.toArray n})(hf:f its.toArray=its'.toArray)(hv:Vals ys its')(hz:ys.length<=sizeLine):
  Inv X pins O (upd H l (.lst ys)) {s with heap:=s.heap.update l (Obj.mapSeq f),toks:=t'}:=by
 have q:=PySem.IsL.update e f;rw[hf]at q;refine I.write (x:=l) (e:=l) (by rw[hH];exact trivial) (.inl rfl) (λb' u hb hu=>(aee s.heap (Obj.mapSeq f) (acH hb)).trans hu) ⟨_,q⟩ ?_;exact⟨hz,its',_,hv,q⟩
def Inv.acE{t':Nat}(I:Inv X pins O H s)(hv:Vals ys its)(hz:ys.length<=sizeLine):
  Inv X pins O (upd H c_ (.lst ys)) {s with heap:=s.heap.push {cls:=.type "list",data:=.seq its.toArray},toks:=t'}:=
 I.laid (λ_ _ q=>aaE _ q) (aaP _) ⟨hz,its,0,hv,aaZ _ rfl⟩
def Inv.fresh(I:Inv X pins O H s):H c_=none:=I.hok.fresh (aaP _)
def Inv.FO(I:Inv X pins O H s)(hH:H l=some (.lst xs)):xs.length<=sizeLine/\∃(its:AAL)(n:Nat),Vals xs its/\xs.length=its.length/\s.heap.get? l=some {cls:=.type "list",data:=.seq its.toArray n}:=by
 obtain⟨z,its,n,r,e⟩:=I.hok l _ hH;exact⟨z,its,n,r,r.length,e⟩
def Lw(h:n<=sizeLine):Builtin.List.listTooLong n=false:=by
 unfold Builtin.List.listTooLong;exact abP a_
end
section
variable {X:Cx}
def Hl:V->List V->Hp->VK->Prop:=λx vs H Q=>∃l xs y,x= .ref l/\vs=[y]/\H l=some (.lst xs)/\xs.length<sizeLine/\Q .cI (upd H l (.lst (xs++[y])))
def iJ:MtM X "list.append" Hl:=by
 intro pins s O H x vs v us Q I rx rv h;obtain⟨l,xs,y,rfl,rfl,hH,hz,q⟩:=h;cases rx;obtain⟨u,rfl,ru⟩:=rv.one;obtain⟨z,its,n,r,hl,e⟩:=I.FO hH;refine call_meets F.slot_list_append ⟨_,e,rfl⟩ F.entry_list_append (F.args_list_append_2 _ _) (PySem.list_append l its.toArray n u (by rw[aaQ];lia)) ⟨e,?_⟩;refine⟨.cI,_,I.Yo (its':=its++[u]) hH e (by simp) (r.append (.cons ru .nil)) ?_,rfl,q⟩;rw[aaW,acX];lia
end
end L2
namespace Att
open PySem.W PySem.Calls
def xJ{P:Params}{h:Heap}:∀(ns:BBD)(vs:AAL),WellAll P h vs (ns.map WData.int)->IntsAre vs ns:=by
 intro ns
 induction ns with
 |nil=>
  intro vs w;rw[List.map_nil]at w;cases w;exact .nil
 |cons n ns ih=>
  intro vs w;rw[acd]at w;cases w with
  |cons a b=>
   cases a;exact .cons _ _ (ih _ b)
def Jf{l:OpenLaw}{n:Nat}(hn:l.most=some n){P:Params}{h:Heap}{args:List WData}{vals:AAL}
  (hpre:l.row.toRowW.claim.pre args=true)(hwl:WellAll P h vals args):
  ∃a vs ns,vals=[Value.ref a]/\args=[WData.list (ns.map WData.int)]/\h.get? a=some {cls:=.type "list",data:=.seq vs.toArray}/\IntsAre vs ns/\ns.length<=n:=by
 have hsh:WShape.hasAll [] args [.list .int]=true:=(pre_splitW hpre).1;have hc:l.pre.holds [] {args:=args}=true:=(pre_splitW hpre).2;obtain⟨d,r,rfl,h1,h2⟩:=hasAllW_cons hsh;obtain rfl:=hasAllW_nil h2;obtain⟨xs,rfl,h3⟩:=hasW_list h1;obtain⟨ns,rfl⟩:=items_int h3;have hlen:ns.length<=n:=by
  unfold OpenLaw.pre at hc;have h4:(WTm.not (.lt (.lit (.int (n:Int))) (.len (.arg 0)))).holds [] {args:=[.list (ns.map .int)]}=true:=by
   have h4:=(holds_andW hc).1;rw[hn]at h4;exact h4
  have h5:=condW_of h4 (w_not (w_lt w_lit (w_len_list (w_arg rfl))));rw[aar]at h5;refine Nat.le_of_not_lt λq=>?_;have q':(n:Int)<((ns.length:Nat):Int):=by lia
  first
   |(rw[abJ q']at h5;exact absurd h5 b_)
   |(simp at h5;lia)
 cases hwl with
 |cons w1 w2=>
  cases w2;cases w1 with
  |list ho hall=>exact⟨_,_,ns,rfl,rfl,ho,xJ ns _ hall,hlen⟩
def Jg(l:OpenLaw)(args:List WData):l.row.toRowW.claim.post args (.bool true) args=true:=
 postW_of (r:=l.row.toRowW) (X:=(true == true))
  (show WShape.has [] (.bool true) .bool=true by first|rfl|decide|simp[WShape.has,WShape.arms,WShape.armsAll])
  (show(WTm.eq .res (.lit (.bool true))).value [] {args:=args,res:=some (.bool true),after:=args}=some (.bool (true == true)) from w_eq_bool (w_res rfl) w_lit) rfl
def DY{l:OpenLaw}{n:Nat}{q:Program}{loose:BBB}{XP:(Str->BBP)->Heap->Prop}{YP:World->Heap->Prop}{d:DefRec}
  (hn:l.most=some n)(hdf:d.params.defaults=[])
  (call:∀(w:World)(s₀ s₁:Shared)(mg mb:AAF)(fa:Addr)(o:Obj)(pm cd doc:Value)(a:Addr)(vs:AAL)(ns:BBD),
   Ground q loose [] XP w s₀ mg mb s₁.heap->YP w s₁.heap->
   s₁.heap.get? fa=some o->o.data= .func (docDef d.name d.params d.body d.scope pm cd doc)->s₁.heap.CodeRec cd d.name->mg d.name=some (.ref fa)->
   s₁.heap.get? a=some {cls:=.type "list",data:=.seq vs.toArray}->IntsAre vs ns->ns.length<=n->s₁.gens=#[]->
   codeAny (model l.prog w) callerA (.call (.ref fa) ⟨[.ref a],[]⟩) (λr s'=>r= .ok (.ret (.bool true))/\OldK s₁.heap s'.heap/\s'.os=s₁.os/\AllBare s'.gens) s₁):
  WalkO q loose XP YP l.row.toRowW d [] (λf vs=>PySem.call f vs):=by
 intro w s₀ s₁ mg mb G Y fa o pm cd doc dV kV ho hd hcd hD hmg hg args vals as hpre hlay hrd hwl hlo;obtain rfl:dV= .none:=Dflts.none hD hdf;obtain rfl:kV= .none:=Dflts.noKw hD;obtain⟨a,vs,ns,rfl,rfl,hobj,hints,hlen⟩:=Jf hn hpre hwl;refine enter_call (ae2 (call w s₀ s₁ mg mb fa o pm cd doc a vs ns G Y ho (fd_plain hd) hcd hmg hobj hints hlen hg) λr s' hq=>?_);obtain⟨rfl,h2,h3,h4⟩:=hq;exact⟨.inl ⟨.bool true,.bool true,[],rfl,λ_=>rfl,.bool true,Jg l _,λ_=>⟨List.Pairwise.nil,λ_ hm=>(nomatch hm)⟩⟩,h2,h3,h4⟩
end Att
namespace L2
variable {P:Program}{w:World}{K:AAD}{k:Nat}{fd:FuncData}{x qual:Str}{tabs:List (Addr×Addr)}{X:Cx}{st:Stmt}{ps bL:BBB}{H:Hp}{tc:TT}{pins:AAG}{O:St}{cap:BBJ}{scope:Scope}{cl:List (Str×Addr)}{elt iter:Expr}{ifs:BBC}{pos pos2 px:Pos}{wi:TI}{te:TE}{use:Option (Value->Sem Unit)}{Qf:AAE}
theorem Bk:∀{vs:AAL}{ns:BBD},IntsAre vs ns->Vals (ns.map V.int) vs
 |_,_,.nil=>.nil
 |_,_,.cons n t h=>.cons ⟨t,rfl⟩ (Bk h)
def OZ(H:Hp):Prop:=∀b,H b=none\/(∃o xs,H b=some (.fy o (.lst xs)))\/H b=some (.Fq lP)
def Lx{mg mb:AAF}{CX:Kv}{fa a:Addr}{sp:Sp}{s₁:Shared}{vs:AAL}{ns:BBD}
  (KX:K.In s₁.heap)(hT:W.TabsAt tabs s₁.heap)(hK:∀p∈tabs,K.lookup p.2=none)(hns:s₁.heap.Ns mainGlobals mg)(hb:s₁.heap.Ns builtinsNs mb)(hbb:∀x:Str,x≠"__name__"->mb x=bootBuiltins x)(hlim:s₁.heap.NoLimit)(hbm:BMn s₁.heap mg)(hg:s₁.gens=#[])
  (ha:s₁.heap.get? a=some {cls:=.type "list",data:=.seq vs.toArray})(hi:IntsAre vs ns)(hl:ns.length<=sizeLine)(hr:dU k callerA)
  (F:∀base:Heap,K.In base->base.Ns mainGlobals mg->base.life.ids=tabs->jC P w K mg base CX k fa fd [x] sp)(hbind:∀(s:Shared)(u:Value),BindsTo s fd ⟨[u],[]⟩ [(x,u)])
  (Lh:∀H:Hp,OZ H->mX K H a (ns.map V.int)->sp [.ref a] H (λv _=>v= .bl true) λ_ _ _=>False)
  (hCX:∀H e s',CX [] H s₁ (λ_ _ _=>False) e s'->False):
  codeAny (model P w) callerA (.call (.ref fa) ⟨[.ref a],[]⟩) (λr s'=>r= .ok (.ret (.bool true))/\OldK s₁.heap s'.heap/\s'.os=s₁.os/\AllBare s'.gens) s₁:=by
 have rv:=Bk hi;have lenV:=hi.length;have nta:∀p∈tabs,p.2≠a:=λp hp e=>by
  have q:=(hT p hp).2;rw[e,ha]at q;cases q
 have core:∀H:Hp,OZ H->mX K H a (ns.map V.int)->pO P w H s₁.heap->(∀b,H b≠none->b=a\/∃p∈tabs,p.2=b)->(∀p∈tabs,H p.2=some (.Fq lP))->(H a≠none->K.lookup a=none)->
   codeAny (model P w) callerA (.call (.ref fa) ⟨[.ref a],[]⟩) (λr s'=>r= .ok (.ret (.bool true))/\OldK s₁.heap s'.heap/\s'.os=s₁.os/\AllBare s'.gens) s₁:=by
  intro H hO hS hok hA hTb hK';have Ck:∀{b:Addr}{o:Obj},s₁.heap.get? b=some o->H b=none->(AG s₁.heap H tabs).get? b=some o:=λe n=>KR e n;have OM:∀{b:Addr}{o:Obj}{es:Array DictEntry}{ep:Nat},s₁.heap.get? b=some o->o.data= .dict es ep->H b=none:=λ{b o es ep} e d=>by
   cases q:H b with
   |none=>rfl
   |some u=>
    rcases hA b (by rw[q];simp) with rfl|⟨p,hp,rfl⟩
    .rw[ha]at e;cases e;cases(show Data.seq vs.toArray _=Data.dict es ep from d)
    .rw[(hT p hp).2]at e;cases e;cases(show Data.fields #[]=Data.dict es ep from d)
  have nsK:∀{b:Addr}{m:AAF},s₁.heap.Ns b m->(AG s₁.heap H tabs).Ns b m:=λ{b m} ⟨o,es,ep,e,d,r⟩=>⟨o,es,ep,Ck e (OM e d),d,r⟩
  have hKb:K.In (AG s₁.heap H tabs):=λb o e=>Ck (KX b o e) (by
   cases q:H b with
   |none=>rfl
   |some u=>
    rcases hA b (by rw[q];simp) with rfl|⟨p,hp,rfl⟩
    .rw[hK' (by rw[q];simp)]at e;cases e
    .rw[hK p hp]at e;cases e)
  have acG:BMn (AG s₁.heap H tabs) mg:=by
   obtain⟨bm,ob,b1,b2,b3,b4,b5⟩:=hbm;refine⟨bm,ob,b1,b2,Ck b3 ?_,b4,b5⟩;cases q:H bm with
   |none=>rfl
   |some u=>
    rcases hA bm (by rw[q];simp) with rfl|⟨p,hp,rfl⟩
    .rw[ha]at b3;cases b3;injection b4 with e;exact absurd e b_
    .rw[(hT p hp).2]at b3;cases b3;cases b4
  have hM:Mod K mg (AG s₁.heap H tabs):=⟨hKb,nsK hns,⟨mb,nsK hb,hbb⟩,let⟨mc,h1,h2⟩:=hlim;⟨mc,nsK h1,h2⟩,acG⟩
  have e0:DQ P w K mg (AG s₁.heap H tabs) callerA [] s₁ H:=⟨rfl,hM,λb o e=>Ow e,agK (IV _ _),trivial,λb hb=>absurd (show b∈([]:BBE) from hb) (by simp),hok,.of_eq hg,hTb⟩
  refine ae2 ((F _ hKb (nsK hns) rfl).run callerA [] s₁ H ⟨[.ref a],[]⟩ [.ref a] [.ref a] _ _ hr e0 (hbind s₁ (.ref a)) (.cons rfl .nil) (Lh H hO hS)) λr s' h=>?_;cases r with
  |error e=>exact(hCX H e s' h).elim
  |ok fl=>
   cases fl with
   |next=>exact False.elim h
   |brk=>exact False.elim h
   |cont=>exact False.elim h
   |ret u=>
    obtain⟨v,H',os,bare,un,Yp,r',q⟩:=h;have q':v= .bl true:=q;subst q';obtain rfl:u=Value.bool true:=r';have all:∀b o,s₁.heap.get? b=some o->s'.heap.get? b=some o\/(isCodeTable s₁.heap b/\o={cls:=.none,data:=.fields #[]}/\∃ps,s'.heap.get? b=some {cls:=.none,data:=.fields ps}):=λb o e=>by
     rcases hO b with z|⟨ob,xs,z⟩|z
     .exact .inl (un.keep b o e z (by intro z;exact absurd (show b∈([]:BBE) from z) (by simp)) (by simp))
     .have z2:=un.vF b ob _ z;obtain⟨e1,_⟩:=hok b _ z;obtain⟨e2,_⟩:=Yp b _ z2;rw[e]at e1;cases e1;exact .inl e2
     .obtain⟨ps,e2,_⟩:=Yp b _ (un.xH b _ z);rcases hA b (by rw[z];simp) with rfl|⟨p,hp,rfl⟩
      .obtain⟨_,e1,_⟩:=hok b _ z;rw[ha]at e1;cases e1
      .have e1:=(hT p hp).2;rw[e]at e1;cases e1;exact .inr ⟨((hT p hp).1.tab (hT p hp).2).isCodeTable,rfl,ps,e2⟩
    refine⟨rfl,⟨λb o e=>?_,λb o e=>?_⟩,os,bare⟩
    .rcases all b o e with z|⟨z,rfl,ps,y⟩
     .exact .inl z
     .exact .inr (.inl ⟨z,rfl,#[],ps,rfl,by rw[Array.empty_append];exact y⟩)
    .rcases all b o e with z|⟨z,rfl,ps,y⟩
     .exact⟨_,z⟩
     .exact⟨_,y⟩
 have RH:∀H p,p∈tabs->eu P w H s₁.heap p.2 (.Fq lP):=λH p hp=>⟨#[],(hT p hp).2,trivial,λpos cv e=>by cases e⟩
 cases hk:K.lookup a with
 |some o=>
  have e:=KX a o hk;rw[ha]at e;cases e;refine core (λb=>if ∃p∈tabs,p.2=b then some (.Fq lP) else none) (λb=>?_) (.inr ⟨_,vs.toArray,_,hk,rfl,rfl,rfl,by rw[aaQ,lenV];exact hl,by simpa using rv⟩) (λb u z=>?_) (λb z=>?_) (λp hp=>if_pos ⟨p,hp,rfl⟩) λz=>absurd (if_neg λ⟨p,hp,e⟩=>nta p hp e) z
  .by_cases hb:∃p∈tabs,p.2=b
   .exact .inr (.inr (if_pos hb))
   .exact .inl (if_neg hb)
  .by_cases hb:∃p∈tabs,p.2=b
   .have z':=(if_pos hb).symm.trans z;cases z';obtain⟨p,hp,rfl⟩:=hb;exact RH _ p hp
   .have z':=(if_neg hb).symm.trans z;cases z'
  .by_cases hb:∃p∈tabs,p.2=b
   .exact .inr hb
   .exact absurd (if_neg hb) z
 |none=>
  refine core (λb=>if b=a then some (.fy {cls:=.type "list",data:=.seq vs.toArray} (.lst (ns.map V.int))) else if ∃p∈tabs,p.2=b then some (.Fq lP) else none) (λb=>?_) (.inl (.inr ⟨{cls:=.type "list",data:=.seq vs.toArray},if_pos rfl⟩)) (λb u z=>?_) (λb z=>?_) (λp hp=>?_) λ_=>hk
  .by_cases hb:b=a
   .exact .inr (.inl ⟨_,_,if_pos hb⟩)
   .by_cases hp:∃p∈tabs,p.2=b
    .exact .inr (.inr ((if_neg hb).trans (if_pos hp)))
    .exact .inl ((if_neg hb).trans (if_neg hp))
  .by_cases hb:b=a
   .have z':=(if_pos hb).symm.trans z;cases z';subst hb;exact⟨ha,by rw[aar];exact hl,vs,_,rv,ha⟩
   .have z':=(if_neg hb).symm.trans z;by_cases hp:∃p∈tabs,p.2=b
    .have z':=(if_pos hp).symm.trans z';cases z';obtain⟨p,hp,rfl⟩:=hp;exact RH _ p hp
    .have z':=(if_neg hp).symm.trans z';cases z'
  .by_cases hb:b=a
   .exact .inl hb
   .by_cases hp:∃p∈tabs,p.2=b
    .exact .inr hp
    .exact absurd ((if_neg hb).trans (if_neg hp)) z
  .exact(if_neg (nta p hp)).trans (if_pos ⟨p,hp,rfl⟩)
noncomputable abbrev KOf{K:AAD}{h:Heap}(_:K.In h):W.Frag:=K
def O0{l:W.OpenLaw}{n:Nat}{q:Program}{loose:BBB}{XP:(Str->BBP)->Heap->Prop}{YP:World->Heap->Prop}{d:DefRec}{K:Params->W.Frag}{CX:World->Kv}{sp:World->Sp}
  (hn:l.most=some n)(hn2:n<=sizeLine)(hdf:d.params.defaults=[])(hr:dU k callerA)
  (hY:∀(w:World)(h:Heap),YP w h->(K w.params).In h/\W.TabsAt tabs h/\∀p∈tabs,(K w.params).lookup p.2=none)
  (F:∀(w:World)(mg:AAF)(fa:Addr)(h:Heap),(K w.params).In h->h.Ns mainGlobals mg->mg d.name=some (.ref fa)->
   ∃fd:FuncData,(∀(s:Shared)(u:Value),BindsTo s fd ⟨[u],[]⟩ [(x,u)])/\
    ∀base:Heap,(K w.params).In base->base.Ns mainGlobals mg->base.life.ids=tabs->jC l.prog w (K w.params) mg base (CX w) k fa fd [x] (sp w))
  (Lh:∀(w:World)(H:Hp)(a:Addr)(ns:BBD),ns.length<=n->OZ H->mX (K w.params) H a (ns.map V.int)->sp w [.ref a] H (λv _=>v= .bl true) λ_ _ _=>False)
  (hCX:∀(w:World)(H:Hp)(s:Shared)(e:Value)(s':Shared),CX w [] H s (λ_ _ _=>False) e s'->False):
  W.WalkO q loose XP YP l.row.toRowW d [] (λf vs=>PySem.call f vs):=by
 refine Att.DY hn hdf λw s₀ s₁ mg mb fa o pm cd doc a vs ns G Y ho hd hcd hmg hobj hints hlen hg=>?_;obtain⟨KX,hT,hK⟩:=hY w _ Y;obtain⟨fd,hb,hF⟩:=F w mg fa _ KX G.T.g hmg;exact Lx KX hT hK G.T.g G.T.b G.T.builtins G.T.nolimit G.T.bmain hg hobj hints (aaY hlen hn2) hr hF hb (λH hO hS=>Lh w H a ns hlen hO hS) λH e s'=>hCX w H s₁ e s'
noncomputable def jl(s:Stmt):Arguments:=match s with
 |.FunctionDef _ a _ _ _ _ _ _ _ _=>a
 |_=>{posonlyargs:=[],args:=[],vararg:=none,kwonlyargs:=[],kw_defaults:=[],kwarg:=none,defaults:=[]}
noncomputable def dh(s:Stmt):BBH:=match s with
 |.FunctionDef _ _ b _ _ _ _ _ _ _=>b
 |_=>[]
noncomputable def aI(s:Stmt):Scope:=match s with
 |.FunctionDef _ _ _ _ _ _ sc _ _ _=>sc
 |_=>{kind:=.function,names:=[],isGenerator:=false,isCoroutine:=false}
noncomputable abbrev vK:Kv:=λ_ _ _ _ _ _=>False
noncomputable abbrev E0:XK:=λ_ _ _=>False
def yM :Passes vK X E0:=λ_ _ _ _ _ _ _ h=>h.elim
structure Oc(K:AAD)(x qual:Str)(st:Stmt)(f:Addr)(fd:FuncData):Prop where
 ex:∃(oc:Value)(od:BBN)(kV doc pm:Value)(an:BBN)(cdv ct:Value)(osl:Array (BBP)),
  fd=W.fnOf x qual (jl st) (dh st) (aI st) .none kV doc pm an cdv ct/\K.lookup f=some ⟨oc,od,.func fd,osl⟩/\W.codeIn K cdv qual=true
 kp:W.keepIn K (.ref f)=true
section
variable {P:Program}{w:World}{K:AAD}{mg:AAF}{base:Heap}
def Oc.ok{f:Addr}{N:BBB}{sp:Sp}(F:Oc K x qual st f fd)(S:bw N ps (aI st))(len:∀vs H Q E,sp vs H Q E->vs.length=ps.length)
  (hbody:∀(cdv:Value)(A:Around)(outer:BBF)(s:Shared)(H:Hp)(vs:List V)(Q:VK)(E:XK),dU k (A.deeper (envOfC qual (aI st) c_ f cdv))->sp vs H Q E->
   ∃t,vG (vI vK P w K mg base N qual (aI st) f cdv A outer s H E).K2 (dh st) t/\t {nx:=λ_ H'=>Q .cI H',rt:=Q} (start N vs) H):jC P w K mg base vK (k+1) f fd ps sp:=by
 obtain⟨oc,od,kV,doc,pm,an,cdv,ct,osl,rfl,lk,hcd⟩:=F.ex;refine X8 lk hcd S len λA outer s H vs Q E hr Lh=>?_;obtain⟨t,h,q⟩:=hbody cdv A outer s H vs Q E hr Lh;exact⟨t,h.K2,q⟩
def Oc.binds{f:Addr}(F:Oc K x qual st f fd)
  (h:∀(kV doc pm:Value)(an:BBN)(cdv ct:Value)(us:AAL),us.length=ps.length->bindArgs (W.fnOf x qual (jl st) (dh st) (aI st) .none kV doc pm an cdv ct) ⟨us,[]⟩=pure (ps.zip us)):Binds K fd ps []:=by
 obtain⟨oc,od,kV,doc,pm,an,cdv,ct,osl,rfl,lk,hcd⟩:=F.ex;exact .all (h kV doc pm an cdv ct)
def Ly{f:Addr}{oc:Value}{od an:BBN}{osl:Array (BBP)}{kV doc pm cdv ct:Value}(l:K.lookup f=some ⟨oc,od,.func (W.fnOf x qual (jl st) (dh st) (aI st) .none kV doc pm an cdv ct),osl⟩)
  (c:W.codeIn K cdv qual=true)(k:W.keepIn K (.ref f)=true):Oc K x qual st f (W.fnOf x qual (jl st) (dh st) (aI st) .none kV doc pm an cdv ct):=⟨⟨oc,od,kV,doc,pm,an,cdv,ct,osl,rfl,l,c⟩,k⟩
end
def lQ{A:Around}(hr:dU k A):A.units+20<cLine:=aeQ (Nat.add_le_add_left (by decide:20<=64) _) hr.units
def Cm{A B:Prop}(h:B):if false=true then A else B:=by
 rw[if_neg afN];exact h
def Cn{A B:Prop}(h:A):if true=true then A else B:=by
 rw[if_pos rfl];exact h
def pO.RI{h:Heap}{a:Addr}{o:HO}(x:pO P w H h)(hn:H a=none)(new:eu P w (upd H a o) h a o):pO P w (upd H a o) h:=λb u e=>by
 by_cases hb:b=a
 .subst hb;rw[aR]at e;cases e;exact new
 .rw[aO hb]at e;exact(x b u e).stay (λc v _ q=>q) (λc q=>by rw[aO (bx q hn)];exact q) (λc xs q=>by rw[aO (bx q hn)];exact q) λc xs y q=>by rw[aO (bx q hn)];exact q
noncomputable def cF(X:Cx)(N':BBB)(scope:Scope)(cl:List (Str×Addr))(C:Addr)(s:Shared)(H:Hp)(fp:BBE):Cx:=
 {X with N:=N',s₀:=s,H₀:=H,env:=compEnvC scope cl C X.env,outer:=X.stack,stack:=X.stack,ex:=fp,fn:=λ_=>false,pn:=[],xe:=λ_ _=>False}
noncomputable def cU(cap:BBJ)(O:St):St:=cap.map λi=>(O[i]?).join
structure dW(X:Cx)(x:Str)(bL:BBB)(cap:BBJ)(scope:Scope)(cl:List (Str×Addr)):Prop where
 clos:closureFor scope X.env=pure cl
 gZ:∀y∈scope.names,y.2≠.cell
 kind:scope.kind= .function
 names:∀y∈scope.names,y.2= .local->scope.names.lookup y.1=some .local
 loc:scope.names.lookup x=some .local
 cells:∀n c,cl.lookup n=some c->X.env.cells.lookup n=some c
 has:∀n,((relabel scope X.env).names.lookup n=some .cell\/(relabel scope X.env).names.lookup n=some .free)->∃c,cl.lookup n=some c
 nd:(x::bL).Nodup
 len:cap.length=bL.length
 slot:∀(j:Nat) n,bL[j]? =some n->∃i:Nat,cap[j]? =some i/\X.N[i]? =some n/\pF X.env.scope n
 vis:∀n,n∈bL->((relabel scope X.env).names.lookup n=some .cell\/(relabel scope X.env).names.lookup n=some .free)/\(∃c,cl.lookup n=some c)/\X.env.scope.names.lookup n≠some .local
def WL(wi:TI)(cap:BBJ)(tc:TT)(te:TE):TE:=λO H Q=>wi O H λJ H1=>∃W:Nat->Nat->List V->Hp->Prop,(∃m,W 0 m [] H1)/\∀i m ys H,W i m ys H->ys.length<sizeLine/\
  ((J.stop i H/\∀p,H p=none->Q (.ref p) (upd H p (.lst ys)))\/
   (J.go i H/\∀x H',J.To i H x H'->tc (some x::cU cap O) H' λb H2=>if b=true then te (some x::cU cap O) H2 λy H3=>∃m',m' < m/\W (i+1) m' (ys++[y]) H3 else ∃m',m' < m/\W (i+1) m' ys H2))
def Uk:TT:=λ_ H Q=>Q true H
def Od(X:Cx)(ifs:BBC)(tc:TT):Prop:=
 ∀(pins:AAG)(s:Shared)(O:St)(H:Hp)(Q:Bool->Hp->Prop),Inv X pins O H s->tc O H Q->
  wpAny d_ X.A (forIn ifs true λc r=>if r=true then do let ok <-isTrue c X.env (eval c X.env);pure (ForInStep.yield ok) else pure (ForInStep.yield r)) (TP X pins O Q) X.xe s
def Ho :Od X [] Uk:=λpins s O H Q I h=>wpAny_tests_nil ⟨H,I,h⟩
def O1{c:Expr}(h:PT X c tc):Od X [c] tc:=λpins s O H Q I q=>wpAny_tests_one (h pins s O H Q I q)
def Ul(ys:AAL)(y:Value):({cls:=.type "list",data:=.seq (ys.toArray.push y) (ys.length+1)}:Obj)={cls:=.type "list",data:=.seq (ys++[y]).toArray (ys++[y]).length}:=by
 rw[aaW,acX,List.push_toArray]
def Lz{s s4:Shared}{C:Addr}{fp:BBE}{m':AAF}
  (I:Inv X pins O H s)(T:dW X x bL cap scope cl)(hfp:∀b∈fp,sN X pins H b)(hfo:∀b∈fp,∃o,s.heap.get? b=some o)
  (hC:c_<=C)(hns:s4.heap.Ns C m')(hos:s4.os=s.os)(hg:s4.gens=s.gens)
  (kept:∀b o,s.heap.get? b=some o->s4.heap.get? b=some o):
  Inv (cF X (x::bL) scope cl C s H fp) [] (none::cU cap O) H s4:=by
 have fr:∀b,c_<=b->H b=none:=λb hb=>I.hok.fresh hb;refine⟨⟨I.ok.mod,T.kind,I.ok.glob,I.ok.blt,hC,λy z c h1 h2=>I.ok.inj y z c (T.cells _ _ h1) (T.cells _ _ h2),λy hy=>T.has y hy,λy c h=>(by cases h),I.ok.hd,I.ok.frames,.inl rfl,λb hb=>⟨?_,λy c e z=>?_⟩,I.bs,aaY I.ok.Ft I.sz,λb o e hb=>?_,λb hb z=>?_,I.stack,I.B6,I.tab⟩,
  hos,by rw[hg];exact I.bare,Un.kept kept,⟨m',hns,λi y v h1 h2 h3=>?_⟩,λy c h=>?_,fr C hC,λy c h=>(I.kN y c (T.cells _ _ h)).imp_right λz=>⟨rfl,z.2⟩,λp hp=>?_,I.hok.kept kept,?_⟩
 .obtain⟨o,e⟩:=hfo b hb;exact aa1 (aaU (aaX e) hC)
 .exact(hfp b hb).2.2.2.2.1 y c (T.cells _ _ e) z
 .rcases(hfp b hb).2.2.2.1 with z|z
  .exact I.ok.B5 b o e z
  .exact absurd (aaU (aaX e) (aaY I.ok.Ft z)) (adX _)
 .rcases aaV.mp (I.yE b z) with q|q
  .exact(hfp b hb).2.1 q
  .exact(hfp b hb).2.2.1 q
 .cases i with
  |zero=>cases h2
  |succ j=>
   have h1:bL[j]? =some y:=by simpa[cF] using h1
   have h2:(cU cap O)[j]? =some (some v):=by simpa using h2
   obtain⟨i,e1,e2,e3⟩:=T.slot j y h1;have e4:O[i]? =some (some v):=by
    unfold cU at h2;rw[abI,e1]at h2;have h2:some ((O[i]?).join)=some (some v):=h2;have h2:=abT h2;cases q:O[i]? with
    |none=>rw[q]at h2;cases h2
    |some o=>rw[q]at h2;cases h2;rfl
   obtain⟨m,hn,hl⟩:=I.loc;obtain⟨u,r,l⟩:=hl i y v e2 e4 e3;obtain⟨k1,⟨c,hc⟩,k3⟩:=T.vis y (abU h1);refine⟨u,r,.inr ⟨k1,c,hc,?_⟩⟩;rcases l with⟨hk,_⟩|⟨hk,c',hc',z⟩
   .exact absurd hk k3
   .rw[T.cells _ _ hc]at hc';cases hc';obtain⟨o,ho,hd⟩:=z;exact⟨o,kept _ _ ho,hd⟩
 .obtain⟨v,o,ho,hd⟩:=I.cell y c (T.cells _ _ h);exact⟨v,o,kept _ _ ho,hd⟩
 .exact absurd (show p∈([]:AAG) from hp) (by simp)
 .show(none::cU cap O).length=(x::bL).length;simp[cU,T.len]
def vL(P:Program)(w:World)(A:Around)(env:Env)(R:Result->Shared->Prop):Value->Shared->Prop:=notedBy (model P w) A env λe s'=>R (.error e) s'
theorem Co{A:Around}{R:Result->Shared->Prop}{s:Shared}{tg:Expr}{it acc:Value}{env:Env}(J:Nat->Shared->Prop)
  (turn:∀n s,J n s->wpAny (model P w) A (pyNext it) (λr s1=>match r with
   |none=>R (.ok .next) s1
   |some v=>wpAny (model P w) A (letOwnedTupleGo tg it v) (λ_ s1=>wpAny (model P w) A (assign tg env v) (λ_ s2=>
     wpAny (model P w) A (forIn ifs true λc r=>if r=true then do let ok <-isTrue c env (eval c env);pure (ForInStep.yield ok) else pure (ForInStep.yield r)) (λok s3=>
      if ok=true then wpAny (model P w) A (eval elt env) (λx s4=>wpAny (model P w) A (call (.builtin "list.append") [acc,x]) (λ_ s5=>∃m,m<n/\J m s5) (vL P w A env R) s4) (vL P w A env R) s3
      else ∃m,m<n/\J m s3) (vL P w A env R) s2) (vL P w A env R) s1) (vL P w A env R) s1) (vL P w A env R) s)
  (n:Nat)(h:J n s):codeAny (model P w) A (.compLoop (.ListComp elt [⟨tg,iter,ifs,0⟩] scope pos) 0 it acc env) R s:=by
 refine codeAny_loop rfl J (λn s hJ=>?_) n h;show wpAny _ A ((compTurn (.ListComp elt [⟨tg,iter,ifs,0⟩] scope pos) 0 it acc env).onRaise (λx=>do noteFrame x env;theTreesLotGoes x)) _ _ s;refine wpAny_noted ?_;rw[compTurn_list];refine aam (wpAny_standAt (aam (ab3 (turn n s hJ) (λr s1 k1=>?_) λ_ _ z=>z)));cases r with
 |none=>exact wpAny_pure k1
 |some v=>
  refine aam (ab3 k1 (λ_ s1 k1=>?_) λ_ _ z=>z);refine aam (ab3 k1 (λ_ s2 k2=>aam (ab3 k2 (λok s3 k3=>?_) λ_ _ z=>z)) λ_ _ z=>z);cases ok with
  |false=>exact wpAny_pure ⟨rfl,k3⟩
  |true=>exact aam (aam (ab3 k3 (λx s4 k4=>aam (ab3 k4 (λ_ s5 k5=>wpAny_pure (wpAny_pure ⟨rfl,k5⟩)) λ_ _ z=>z)) λ_ _ z=>z))
inductive CompI(Y:Cx)(Z:St->Prop)(tn:Nat->Heap->Prop)(fp:BBE)(D:Addr)(W:Nat->Nat->List V->Hp->Prop)(n:Nat)(s':Shared):Prop
 |mk(i:Nat)(ys:List V)(us:AAL)(H':Hp)(z:St)(hz:Z z)(I:Inv Y [] z H' s')(st:tn i s'.heap)(fr:∀b∈fp,H' b=none)(d:H' D=none)(a:s'.heap.get? D=some {cls:=.type "list",data:=.seq us.toArray us.length})(v:Vals ys us)(w:W i n ys H')
def w4{tg:Expr}{N:BBB}{s:Shared}{z0:St}{Q:VK}{Z:St->Prop}{pt:V->Hp->St->Prop}{R:It->Hp->Prop}
    (T:dW X x bL cap scope cl)(hc:X.calm=true)(hi:PI X tg iter wi)
    (ht:∀C s H fp,Od (cF X N scope cl C s H fp) ifs tc)(he:∀C s H fp,PE (cF X N scope cl C s H fp) elt te)
    (hs:∀x,foldedSetIterable iter X.env x=pure x)(I:Inv X pins O H s)(h:wi O H R)
    (hR:∀J H1,R J H1->∃W:Nat->Nat->List V->Hp->Prop,(∃m,W 0 m [] H1)/\∀i m ys H,W i m ys H->ys.length<sizeLine/\
      ((J.stop i H/\∀p,H p=none->Q (.ref p) (upd H p (.lst ys)))\/
       (J.go i H/\∀x H',J.To i H x H'->∃z,pt x H' z/\tc z H' λb H2=>if b=true then te z H2 λy H3=>∃m',m' < m/\W (i+1) m' (ys++[y]) H3 else ∃m',m' < m/\W (i+1) m' ys H2)))
    (hZ:Z z0)(hI:∀{s s4:Shared}{H:Hp}{C:Addr}{fp:BBE}{m':AAF},Inv X pins O H s->(∀b∈fp,sN X pins H b)->(∀b∈fp,∃o,s.heap.get? b=some o)->c_<=C->s4.heap.Ns C m'->s4.os=s.os->s4.gens=s.gens->(∀b o,s.heap.get? b=some o->s4.heap.get? b=some o)->Inv (cF X N scope cl C s H fp) [] z0 H s4)
    (hG:∀{Y:Cx}{C:Addr}{z z':St}{xv:V}{H:Hp},Y.N=N->Y.env=compEnvC scope cl C X.env->Y.K=X.K->Y.calm=true->Z z->pt xv H z'->Z z'/\∃g,PG Y tg g/\g xv z H λO' H'=>O'=z'/\H'=H)
    (hend:∀(D C:Addr)(s7:Shared)(H6:Hp)(ys:List V),Inv X pins O (upd H6 D (.lst ys)) s7->(∃m,s7.heap.Ns C m)->sN X pins (upd H6 D (.lst ys)) C->Q (.ref D) (upd H6 D (.lst ys))->compPost d_ X.A X.xe use Qf (.ref D) C (.ok .next) s7):
    wpAny d_ X.A (comprehension (.ListComp elt [⟨tg,iter,ifs,0⟩] scope pos) scope X.env pos2 (newList []) false (eval iter X.env) use) Qf X.xe s:=by
  refine wpAny_comprehension_free (use:=use) rfl hs T.clos T.kind T.names (ez (hi pins s O H _ I h) λv s1 h1=>ez h1 λitv s2 h2=>abO λng=>?_);obtain⟨it,fp,tn,J,H2,rfl,I2,O2,st2,f2,hJ⟩:=h2;obtain⟨W,⟨m0,w0⟩,turn⟩:=hR J H2 hJ;refine ng (acV (wpAny_newFunctionEnv T.gZ (by intro y hy;simp at hy) (λh4 O3 LA=>?_) T.kind));clear ng;dsimp only at O3 LA ⊢;generalize hH3:s2.heap.push {cls:=.type "list",dict:=none,data:=.seq ([]:AAL).toArray}=H3 at O3 LA ⊢;have eC:H3.objs.size=s2.heap.objs.size+1:=by rw[<-hH3,ae0]
  generalize eC':H3.objs.size=C at eC O3 LA ⊢;generalize eD:s2.heap.objs.size=D at eC ⊢;have Yq:C=D+1:=eC;have hDC:D≠C:=by rw[Yq];exact aa1 (ae1 D)
  have hC:s2.heap.objs.size<=C:=by rw[eD,Yq];exact aeM D
  have hD:s2.heap.objs.size<=D:=by rw[eD];exact aaP D
  have kept:∀b o,s2.heap.get? b=some o->h4.get? b=some o:=λb o e=>LA.extBut b o (aa1 (aaU (aaX e) hC)) (aaE _ (hH3▸aaE _ e));have hacc:h4.get? D=some {cls:=.type "list",data:=.seq ([]:AAL).toArray ([]:AAL).length}:=LA.extBut _ _ hDC (aaE _ (hH3▸eD▸aaZ _ rfl));have fo2:∀b∈fp,∃o,s2.heap.get? b=some o:=λb hb=>let⟨o,e,_⟩:=O2.obj _ _ st2 b hb;⟨o,e⟩
  have hDf:D∉fp:=λhb=>by
    obtain⟨o,e⟩:=fo2 D hb;exact absurd (aaU (aaX e) hD) (adX _)
  have st4:tn 0 h4:=O2.keep _ _ _ st2 λb _ o e=>kept b o e;have key:∀s5:Shared,s5={s2 with heap:=h4,toks:=s2.toks+([]:List (Str×Value)).length}->
      codeAny d_ X.A (.compLoop (.ListComp elt [⟨tg,iter,ifs,0⟩] scope pos) 0 (.ref it) (.ref D) (compEnvC scope cl C X.env)) (compPost d_ X.A X.xe use Qf (.ref D) C) s5:=by
    rintro s5 rfl;have I4:Inv (cF X N scope cl C s2 H2 fp) [] z0 H2 {s2 with heap:=h4,toks:=s2.toks+([]:List (Str×Value)).length}:=
      hI (s4:={s2 with heap:=h4,toks:=s2.toks+([]:List (Str×Value)).length}) I2 f2 fo2 hC O3 rfl rfl kept
    generalize hY:cF X N scope cl C s2 H2 fp=Y at I4;have fD:∀{H':Hp},H' D=none->sN Y [] H' D:=λ{H'} hn=>by
      subst hY;refine⟨hn,hDC,λz=>(aaV.mp (I2.yE D z)).elim (λq=>absurd (aaU (q▸I2.lt) hD) (adX _)) λq=>I2.Xy hD q,.inr hD,λy c e z=>?_,λp hp=>absurd (show p∈([]:AAG) from hp) (by simp)⟩;obtain⟨v,q⟩:=I2.cell y c (T.cells _ _ e);exact absurd (aaU q.lt (by rw[z];exact hD)) (adX _)
    have exY:fp=Y.ex:=hY▸rfl;have pnY:Y.pn++([]:AAG)=[]:=hY▸rfl;have fF:∀{H':Hp},(∀b∈fp,H' b=none)->∀b∈fp,sN Y [] H' b:=λ{H'} hn b hb=>by
      have q:=I4.ok.WJ b (exY▸hb);exact⟨hn b hb,λz=>q.1 z,I4.ok.DJ b (exY▸hb),.inl (exY▸hb),λy c e z=>q.2 y c e z,λp hp=>absurd (pnY▸hp) (by simp)⟩
    have eA:Y.A=X.A:=hY▸rfl;have eP:Y.prog=X.prog:=hY▸rfl;have eW:Y.w=X.w:=hY▸rfl;have eK:Y.K=X.K:=hY▸rfl;have eE:Y.env=compEnvC scope cl C X.env:=hY▸rfl;have eX:Y.xe=λ_ _=>False:=hY▸rfl;have eN:Y.N=N:=hY▸rfl;have Yr:Y.calm=true:=hY▸hc;have htY:Od Y ifs tc:=hY▸ht _ _ _ _;have heY:PE Y elt te:=hY▸he _ _ _ _;have FP:∀(E':AAE)(e:Value)(s':Shared),Y.xe e s'->E' e s':=λE' e s' z=>by rw[eX]at z;exact z.elim
    refine Co (CompI Y Z tn fp D W) ?_ m0
      ⟨0,[],[],H2,z0,hZ,I4,st4,λb hb=>(f2 b hb).1,I2.hok.fresh hD,hacc,.nil,w0⟩
    rintro n s6 ⟨i,ys,us,H6,z6,hz6,I6,st6,fr6,d6,a6,v6,w6⟩;refine abO λng=>?_;have hul:us.length=ys.length:=v6.length.symm;obtain⟨hz,Ys⟩:=turn i n ys H6 w6;have fF':∀{H':Hp},(∀b∈fp,H' b=none)->∀b∈fp,sN Y ([]++sO [D] s6.heap) H' b:=λ{H'} hn b hb=>by
      obtain⟨f0,f1,f2',f3,f4,f5⟩:=fF hn b hb;refine⟨f0,f1,f2',f3,f4,λp hp z=>?_⟩;rcases abu.mp hp with q'|q'
      . exact f5 p (acp _ q') z
      . rcases abu.mp q' with q'|q'
        . exact absurd q' (by simp)
        . have:=(A7 q').1
          rw[aaO.mp this]at z;exact hDf (z▸hb)
    rcases Ys with⟨stop,qn⟩|⟨go,step⟩
    . have I6p:=I6.pinned (fp:=[D]) (λb hb=>by rw[aaO.mp hb];exact fD d6) (λb hb=>by rw[aaO.mp hb];exact⟨_,a6,λv z=>by cases z⟩)
      have q:=O2.done Y eP eW eK Yr i _ s6 z6 H6 (notedBy d_ X.A (compEnvC scope cl C X.env) λe s'=>compPost d_ X.A X.xe use Qf (.ref D) C (.error e) s') I6p (fF' fr6) st6 stop;rw[eA]at q;refine ng (ez q λr s7 hh=>?_);obtain⟨hr,I7⟩:=hh;subst hr;have a7:s7.heap.get? D=_:=(I7.pin (D,{cls:=.type "list",data:=.seq us.toArray us.length}) (abE _ (abE _ (gH (aaO.mpr rfl) a6)))).1;obtain⟨m7,RJ,_⟩:=I7.loc;rw[eE]at RJ;have Yt:H6 D=none:=d6;have hCn:H6 C=none:=by have:=I7.free;rw[eE]at this;exact this
      have acL:pO X.prog X.w H6 s7.heap:=by have q:=I7.hok;rw[eP,eW]at q;exact q
      have new:eu X.prog X.w (upd H6 D (.lst ys)) s7.heap D (.lst ys):=⟨acz hz,us,us.length,v6,a7⟩
      have u7:Un (frs X.stack) fp H2 H6 s2.heap s7.heap:=by have:=I7.base;rw[<-hY]at this;exact this
      have neD:∀b o,s2.heap.get? b=some o->b≠D:=λb o e=>aa1 (aaU (aaX e) hD);have u8:Un (frs X.stack) fp H2 (upd H6 D (.lst ys)) s2.heap s7.heap:=
        ⟨u7.keep,u7.slot,λb o e n hx=>by rw[aO (neD b o e)];exact u7.free b o e n hx,u7.there,
         λb xs e=>by have z:=u7.tups b xs e;rw[aO (bx z Yt)];exact z,λb o u e=>by have z:=u7.vF b o u e;rw[aO (bx z Yt)];exact z,
         λb q e=>by have z:=u7.xH b q e;rw[aO (bx z Yt)];exact z⟩
      have os7:s7.os=s2.os:=by have:=I7.os;rw[<-hY]at this;exact this
      have I9:Inv X pins O (upd H6 D (.lst ys)) s7:=I2.XC (ch:=fp) os7 u8 (acL.RI Yt new) I7.bare λb hb=>⟨(f2 b hb).2.2.2.1,(f2 b hb).2.1,(f2 b hb).2.2.2.2.1,(f2 b hb).2.2.2.2.2⟩
      exact hend D C s7 H6 ys I9 ⟨m7,RJ⟩ (I2.OE hC (by rw[aO (acH hDC)];exact hCn)) (qn D Yt)
    . have I6p:=I6.pinned (fp:=[D]) (λb hb=>by rw[aaO.mp hb];exact fD d6) (λb hb=>by rw[aaO.mp hb];exact⟨_,a6,λv z=>by cases z⟩)
      have q:=O2.item Y eP eW eK Yr i _ s6 z6 H6 (notedBy d_ X.A (compEnvC scope cl C X.env) λe s'=>compPost d_ X.A X.xe use Qf (.ref D) C (.error e) s') I6p (fF' fr6) st6 go;rw[eA]at q;refine ng (ez q λr s6' hh=>abO λng=>?_);obtain⟨u,hr,h7⟩:=hh;subst hr;refine ng (ez h7 λ_ s7 hh=>abO λng=>?_);obtain⟨xv,H8,I8,r8,y8,st8,fr8⟩:=hh;have I8':=I8.pinned (fF' fr8) (O2.obj _ _ st8);obtain⟨z8,p8,stp⟩:=step xv _ y8;obtain⟨hz8,g,hgY,gx⟩:=hG eN eE eK Yr hz6 p8;have qa:=hgY _ s7 z6 H8 xv u (λO' H'=>O'=z8/\H'=H8) I8' r8 gx;rw[eP,eW,eA,eE]at qa;refine ng (ab3 qa (λ_ s9 h9=>abO λng=>?_) (FP _));obtain⟨Yu,H9,I9,e9,e9'⟩:=h9;subst e9 e9';have qt:=htY _ s9 _ _ _ I9 stp;rw[eP,eW,eA,eE]at qt;refine ng (ab3 qt (λok s10 h10=>?_) (FP _));obtain⟨H10,I10,q10⟩:=h10;have back:∀{s':Shared}{H':Hp},Inv Y (([]++sO [D] s6.heap)++sO fp s7.heap) Yu H' s'->Inv Y [] Yu H' s'/\tn (i+1) s'.heap/\(∀b∈fp,H' b=none)/\H' D=none/\s'.heap.get? D=some {cls:=.type "list",data:=.seq us.toArray us.length}:=λ{s' H'} J=>by
        refine⟨J.qc.qc,O2.keep _ _ _ st8 λb hb o e=>(J.pin (b,o) (abE _ (abE _ (gH hb e)))).1,λb hb=>?_,?_,?_⟩
        . obtain⟨o,e,d⟩:=O2.obj _ _ st8 b hb
          exact(J.pin (b,o) (abE _ (abE _ (gH hb e)))).2.1
        . exact(J.pin (D,_) (abE _ (acp _ (abE _ (gH (aaO.mpr rfl) a6))))).2.1
        . exact(J.pin (D,_) (abE _ (acp _ (abE _ (gH (aaO.mpr rfl) a6))))).1
      cases ok with
      |false=>
        rw[if_neg b_]at q10 ⊢;obtain⟨m',hm,w10⟩:=q10;obtain⟨b1,b2,b3,b4,b5⟩:=back I10;exact⟨m',hm,i+1,ys,us,H10,Yu,hz8,b1,b2,b3,b4,b5,v6,w10⟩
      |true=>
        rw[if_pos rfl]at q10 ⊢;have qe:=heY _ s10 _ _ _ I10 q10;rw[eP,eW,eA,eE]at qe;refine ab3 qe (λy s11 h11=>?_) (FP _);obtain⟨yv,H11,I11,r11,m',hm,w11⟩:=h11;obtain⟨b1,b2,b3,b4,b5⟩:=back I11;refine append_at (hsz:=by rw[aaQ,hul];exact acz hz) b5 λh12 acO acP=>?_;have k12:∀b o,b≠D->s11.heap.get? b=some o->h12.get? b=some o:=λb o hb e=>acO.extBut b o hb e;obtain⟨g0,g1,g2,g3,g4,g5⟩:=fD b4;have I12:Inv Y [] Yu H11 {s11 with heap:=h12}:=b1.turned (t':=s11.toks) k12 g0 g1 g3 g4 g5;refine⟨m',hm,i+1,ys++[yv],us++[y],H11,Yu,hz8,I12,O2.keep _ _ _ b2 λb hb o e=>k12 b o (λz=>hDf (z▸hb)) e,b3,b4,acP.trans (congrArg some (Ul us y)),v6.append (.cons r11 .nil),w11⟩
  exact codeAny_compStart_list (key _ rfl) (O2.self _ 0 _ _ _ st4 (key _ rfl))
def yN{s:Shared}{Q:VK}
  (T:dW X x bL cap scope cl)(hc:X.calm=true)(hi:PI X e_ iter wi)
  (ht:∀C s H fp,Od (cF X (x::bL) scope cl C s H fp) ifs tc)(he:∀C s H fp,PE (cF X (x::bL) scope cl C s H fp) elt te)
  (hs:∀x,foldedSetIterable iter X.env x=pure x)(I:Inv X pins O H s)(h:WL wi cap tc te O H Q)
  (hend:∀(D C:Addr)(s7:Shared)(H6:Hp)(ys:List V),Inv X pins O (upd H6 D (.lst ys)) s7->(∃m,s7.heap.Ns C m)->sN X pins (upd H6 D (.lst ys)) C->Q (.ref D) (upd H6 D (.lst ys))->compPost d_ X.A X.xe use Qf (.ref D) C (.ok .next) s7):
  wpAny d_ X.A (comprehension (.ListComp elt [⟨.Name x px,iter,ifs,0⟩] scope pos) scope X.env pos2 (newList []) false (eval iter X.env) use) Qf X.xe s:=
 w4 (N:=x::bL) (z0:=none::cU cap O) (Z:=λz=>∃o,z=o::cU cap O) (pt:=λv _ z=>z=some v::cU cap O) T hc hi ht he hs I h
  (λJ H1 ⟨W,w0,t⟩=>⟨W,w0,λi m ys H w=>⟨(t i m ys H w).1,(t i m ys H w).2.imp id λ⟨g,k⟩=>⟨g,λv H' y=>⟨_,rfl,k v H' y⟩⟩⟩⟩) ⟨none,rfl⟩ (λI2=>Lz I2 T)
  (by
   rintro Y C _ _ xv H eN eE _ _ ⟨o,rfl⟩ rfl;exact⟨⟨_,rfl⟩,DO 0,yf (by rw[eN];exact T.nd) (by rw[eN];rfl) (by rw[eE];exact .inl (aeu T.loc)) (.inr (by rw[eE];exact aeu T.loc)),rfl,rfl⟩) hend
def yO 
  (T:dW X x bL cap scope cl)(hc:X.calm=true)(hi:PI X e_ iter wi)
  (ht:∀C s H fp,Od (cF X (x::bL) scope cl C s H fp) ifs tc)(he:∀C s H fp,PE (cF X (x::bL) scope cl C s H fp) elt te)
  (hs:∀x,foldedSetIterable iter X.env x=pure x:=by intro _;rfl):
  PE X (.ListComp elt [⟨.Name x px,iter,ifs,0⟩] scope pos) (WL wi cap tc te):=by
 intro pins s O H Q I h;rw[eval_ListComp];refine yN T hc hi ht he hs I h ?_;rintro p C s7 H6 ys I9 ⟨m7,RJ⟩ ⟨g0,g1,g2,g3,g4,g5⟩ q;exact⟨m7,RJ,λh' hs'=>⟨.ref p,_,I9.turned (t':=s7.toks) (λb o hb e=>hs'.extBut b o hb e) g0 g1 g3 g4 g5,rfl,q⟩⟩
def LB{i:Nat}{y:Str}{py spos:Pos}
  (T:dW X x bL cap scope cl)(hc:X.calm=true)(hi:PI X e_ iter wi)
  (ht:∀C s H fp,Od (cF X (x::bL) scope cl C s H fp) ifs tc)(he:∀C s H fp,PE (cF X (x::bL) scope cl C s H fp) elt te)
  (hs:∀x,foldedSetIterable iter X.env x=pure x)(hN:X.N.Nodup)(hy:X.N[i]? =some y)(hx:Loc X.env.scope y)
  (hsw:swapsWith (.ListComp elt [⟨.Name x px,iter,ifs,0⟩] scope pos) (some (.Name y py)) spos.line X.env=pure true)(hf:X.fn y=true\/X.env.scope.names.lookup y=some .local):
  PS X (.Assign [.Name y py] (.ListComp elt [⟨.Name x px,iter,ifs,0⟩] scope pos) spos) (OD (WL wi cap tc te) (DO i)):=by
 intro pins s O H D I h;rw[exec_Assign_Name_used _ _ _ _ hsw];refine aam (wpAny_standAt (aam ?_));show wpAny _ X.A (do let _ <-comprehension (.ListComp elt [⟨.Name x px,iter,ifs,0⟩] scope pos) scope X.env _ (newList []) false (eval iter X.env) (some (assign (.Name y py) X.env))) _ _ s;refine aam (ab3 (yN (Qf:=λ_ s'=>SP X pins D .next s') T hc hi ht he hs I h ?_) (λ_ s' hq=>wpAny_pure (wpAny_pure hq)) λ_ _ e=>e);rintro p C s7 H6 ys I9 ⟨m7,RJ⟩ ⟨g0,g1,g2,g3,g4,g5⟩ q;refine wpAny_assign_Name (A5 I9 hN hy hx (v:=.ref p) (show RelV (.ref p) (.ref p) from rfl) (λs8 I8 hh=>?_) hf);obtain⟨a,hsb,ha⟩:=hh;have hne:C≠a:=ha.elim (λz=>by rw[z];exact g1) λz=>acH (g4 _ _ z);refine⟨m7,RJ.sameBut hsb hne,λh' hs'=>?_⟩;exact⟨_,_,I8.turned (t':=s8.toks) (λb o hb e=>hs'.extBut b o hb e) g0 g1 g3 g4 g5,q⟩
def DZ{bs:List Bool}:∀{us:AAL},Vals (bs.map V.bl) us->us=bs.map Value.bool:=by
 induction bs with
 |nil=>intro us r;cases r;rfl
 |cons b bs ih=>
  intro us r;cases r with
  |cons r1 r2=>
   cases r1;rw[ih r2];rfl
def FQ(bs:List Bool):((List.range bs.length).all λi=>(bs[i]?).getD true)=bs.all id:=by
 rw[aec,acB,acB];constructor
 .intro h b hb;obtain⟨i,hi,rfl⟩:=List.mem_iff_getElem.mp hb;have:=h i (abY.mpr hi)
  simpa[hi] using this
 .intro h i hi;have hi:=abY.mp hi;simp only[aaS hi,aeJ];exact h _ (ae3 hi)
def FT(bs:List Bool):((List.range bs.length).any λi=>(bs[i]?).getD false)=bs.any id:=by
 rw[aec,abL,abL];constructor
 .rintro⟨i,hi,h⟩;have hi:=abY.mp hi;simp only[aaS hi,aeJ]at h;exact⟨_,ae3 hi,h⟩
 .rintro⟨b,hb,h⟩;obtain⟨i,hi,rfl⟩:=List.mem_iff_getElem.mp hb;exact⟨i,abY.mpr hi,by simpa[hi] using h⟩
def Jh(hc:X.calm=true):gY X (.builtin "all") (λxs H Q=>∃(p:Addr)(bs:List Bool),xs=[.ref p]/\mX X.K H p (bs.map V.bl)/\Q (.bl (bs.all id)) H):=by
 intro pins s O H xs us Q I r h;obtain⟨p,bs,rfl,hp,q⟩:=h;obtain⟨u,rfl,ru⟩:=vals1 r;cases ru;obtain⟨its,rv,pl,hz⟩:=I.list hp;obtain rfl:=DZ rv;have hlt:p<c_:=by obtain⟨_,e,_⟩:=pl.isList;exact aaX e
 refine call_all_walk (af3 pl.isList ?_);refine⟨c_,[c_,p],[c_],_,_,_,λi=>(bs[i]?).getD true,rfl,Walks.list (A:=X.A.in1) (I.ok.hd hc) _ p (aa1 hlt) _,
  ⟨⟨_,aaZ _ rfl,rfl,rfl⟩,pl.isList.push _⟩,λi v s' Q' E' hP hQ=>?_,λh' tk hk=>?_⟩
 .have hP:(bs.map Value.bool)[i]? =some v:=by simpa using hP
  rw[abI]at hP;cases e:bs[i]? with
  |none=>rw[e]at hP;cases hP
  |some b=>
   rw[e]at hP;cases hP;simp only[e,aeJ]at hQ;exact aeG hQ
 .have e:((List.range (bs.map Value.bool).toArray.size).all λi=>(bs[i]?).getD true)=bs.all id:=by
   rw[aaQ,aar];exact FQ bs
  rw[e];exact⟨.bl (bs.all id),H,I.kept (t':=tk) λb o e=>hk b o (λhm=>by rw[aaO.mp hm]at e;exact adX _ (aaX e)) (aaE _ e),rfl,q⟩
def Ji(hc:X.calm=true):gY X (.builtin "any") (λxs H Q=>∃(p:Addr)(bs:List Bool),xs=[.ref p]/\mX X.K H p (bs.map V.bl)/\Q (.bl (bs.any id)) H):=by
 intro pins s O H xs us Q I r h;obtain⟨p,bs,rfl,hp,q⟩:=h;obtain⟨u,rfl,ru⟩:=vals1 r;cases ru;obtain⟨its,rv,pl,hz⟩:=I.list hp;obtain rfl:=DZ rv;have hlt:p<c_:=by obtain⟨_,e,_⟩:=pl.isList;exact aaX e
 refine call_any_walk (af3 pl.isList ?_);refine⟨c_,[c_,p],[c_],_,_,_,λi=>(bs[i]?).getD false,rfl,Walks.list (A:=X.A.in1) (I.ok.hd hc) _ p (aa1 hlt) _,
  ⟨⟨_,aaZ _ rfl,rfl,rfl⟩,pl.isList.push _⟩,λi v s' Q' E' hP hQ=>?_,λh' tk hk=>?_⟩
 .have hP:(bs.map Value.bool)[i]? =some v:=by simpa using hP
  rw[abI]at hP;cases e:bs[i]? with
  |none=>rw[e]at hP;cases hP
  |some b=>
   rw[e]at hP;cases hP;simp only[e,aeJ]at hQ;exact aeG hQ
 .have e:((List.range (bs.map Value.bool).toArray.size).any λi=>(bs[i]?).getD false)=bs.any id:=by
   rw[aaQ,aar];exact FT bs
  rw[e];exact⟨.bl (bs.any id),H,I.kept (t':=tk) λb o e=>hk b o (λhm=>by rw[aaO.mp hm]at e;exact adX _ (aaX e)) (aaE _ e),rfl,q⟩
theorem bC.length{H:Hp}:∀{vs:List V}{ds:List D},bC H vs ds->vs.length=ds.length
 |_,_,.nil=>rfl
 |_,_,.cons _ rs=>congrArg Nat.succ (bC.length rs)
theorem bC.get{H:Hp}:∀{vs:List V}{ds:List D}{i:Nat}{d:D},bC H vs ds->ds[i]? =some d->∃v,vs[i]? =some v/\Rep H v d
 |_,_,_,_,.nil,e=>by simp at e
 |_,_,0,_,.cons r _,e=>by simp at e;subst e;exact⟨_,rfl,r⟩
 |_,_,i+1,_,.cons _ rs,e=>by
  obtain⟨v,h1,h2⟩:=bC.get (i:=i) rs (by simpa using e);exact⟨v,by simpa using h1,h2⟩
theorem bC.append{H:Hp}:∀{vs ws:List V}{ds es:List D},bC H vs ds->bC H ws es->bC H (vs++ws) (ds++es)
 |_,_,_,_,.nil,s=>s
 |_,_,_,_,.cons r rs,s=>.cons r (bC.append rs s)
theorem bC.take{H:Hp}:∀{vs:List V}{ds:List D}(n:Nat),bC H vs ds->bC H (vs.take n) (ds.take n)
 |_,_,0,_=>.nil
 |_,_,_+1,.nil=>.nil
 |_,_,n+1,.cons r rs=>.cons r (bC.take n rs)
theorem bC.drop{H:Hp}:∀{vs:List V}{ds:List D}(n:Nat),bC H vs ds->bC H (vs.drop n) (ds.drop n)
 |_,_,0,rs=>rs
 |_,_,_+1,.nil=>.nil
 |_,_,n+1,.cons _ rs=>bC.drop n rs
noncomputable def tyN:D->String
 |.cI=>"NoneType" | .bl _=>"bool" | .int _=>"int" | .str _=>"str" | .tup _=>"tuple" | .lst _=>"list"
open PySem.W in
noncomputable def xK(T U:String):Option Bool:=if(Value.type T == Value.type U)=true then some true else if kitMeta U=true then(fastBuiltinMro T).map (·.contains (Value.type U)) else none
noncomputable def LC:D->Bool
 |.tup _=>true
 |_=>false
noncomputable def RK:D->Bool
 |.bl _=>true
 |_=>false
def O4(d:D):W.kitOne K (.type (tyN d)) (.type "tuple")=some (LC d):=by
 cases d with
 |cI=>exact(show xK "NoneType" "tuple" =some false by decide +kernel)
 |bl b=>exact(show xK "bool" "tuple" =some false by decide +kernel)
 |int i=>exact(show xK "int" "tuple" =some false by decide +kernel)
 |str z=>exact(show xK "str" "tuple" =some false by decide +kernel)
 |tup ds=>exact(show xK "tuple" "tuple" =some true by decide +kernel)
 |lst ds=>exact(show xK "list" "tuple" =some false by decide +kernel)
def Um(d:D):W.kitOne K (.type (tyN d)) (.type "bool")=some (RK d):=by
 cases d with
 |cI=>exact(show xK "NoneType" "bool" =some false by decide +kernel)
 |bl b=>exact(show xK "bool" "bool" =some true by decide +kernel)
 |int i=>exact(show xK "int" "bool" =some false by decide +kernel)
 |str z=>exact(show xK "str" "bool" =some false by decide +kernel)
 |tup ds=>exact(show xK "tuple" "bool" =some false by decide +kernel)
 |lst ds=>exact(show xK "list" "bool" =some false by decide +kernel)
end L2
end
section
namespace HT
section
variable {prog:Program}{w:World}{A:Around}{E:AAE}{s:Shared}
def Jj{t sl:Addr}{items:AAK}{vl vu:Value}{lo hi:BBM}{Q:AAE}(ht:IsTup s.heap t items)(hs:s.heap.IsSliceOf sl vl vu .none)(pl:IsPart vl lo)(pu:IsPart vu hi)
  (hw:fR items.size 0 lo=0/\fR items.size items.size hi=items.size)(h:Q (.ref t) s):wpAny g_ A (getItem (.ref t) (.ref sl)) Q E s:=by
 obtain⟨os,hos,hcs,hds⟩:=id hs;have hTs:s.TypeIs (.ref sl) "slice":=⟨os,hos,hcs⟩
 unfold getItem
 try with_reducible refine acK ?_
 first|refine aam (wpAny_pure ?_)|skip
 refine aam (wpAny_sequenceKey ht.typeIs b_ ?_);refine aam (ae6 (name:=Str.ofString "__getitem__") ht.typeIs acJ
  (aeb acJ ht.typeIs entry_tuple_getitem ?_ (args_tuple_getitem _ _)))
 show wpAny _ _ (Builtin.Tuple.tupleItemsOf (.ref t) >>= _) _ _ s;refine aam (tupleItemsOf_ ht ?_);refine aam (agj hTs ?_);rw[if_pos b_];refine aam (mY hs pl pu ?_);have hyes:(((fR items.size 0 lo:Nat):Int) == 0 && (1:Int) == 1 && (fR items.size items.size hi-fR items.size 0 lo) == items.size)=true:=by
  rw[hw.1,hw.2];simp
 show wpAny _ _ (if(((fR items.size 0 lo:Nat):Int) == 0 && (1:Int) == 1 && (fR items.size items.size hi-fR items.size 0 lo) == items.size)=true then _ else _) _ _ s;rw[if_pos hyes];have hex:∀{α:Type}{k:Bool->Sem α}{Q':α->Shared->Prop}{E':AAE}{A':Around},wpAny g_ A' (k true) Q' E' s->wpAny g_ A' (Builtin.Tuple.tupleIsExact (.ref t) >>= k) Q' E' s:=λ{α k Q' E' A'} hk=>by
  refine aam ?_;unfold Builtin.Tuple.tupleIsExact;exact aam (agj ht.typeIs (wpAny_pure hk))
 first
  |(refine hex ?_;exact afw (wpAny_pure ⟨_,rfl,wpAny_pure h⟩))
  |(refine hex ?_;refine aam (afw ?_);exact wpAny_pure ⟨_,rfl,wpAny_pure h⟩)
end
end HT
end
section
namespace L2
variable {H F1 H1 F' H' H0 F0:Hp}{ds es:List D}{scope:Scope}{X:Cx}{x:Str}{K:AAD}{a p:Addr}{ns:BBD}{κ α:Type}{i n:Nat}{o:HO}{B:Base}{S S' S0:SS}{O:St}{u:U}{Q:VK}{T:String}{k:Bool}{q1 q2 q:GT}{r LL ifs:BBC}{y:V}{xs vs:List V}{tg iter elt:Expr}{gi:GI}{us ws:List U}{outs:List MO}{cap:BBJ}{g:GD}{cl:List (Str×Addr)}{bL:BBB}{A:Around}{pX mW:AAL}{kvs:List (Key×V)}{AO:List (Str×GD)}{its:AAK}
section
def Rep.mZ{v:V}(r:Rep H v (.tup ds)):∃a vs,v= .ref a/\H a=some (.tup vs)/\bC H vs ds:=by
 cases r with
 |tup e rs=>exact⟨_,_,rfl,e,rs⟩
noncomputable def cutD(ds:List D)(lo hi:BBM):List D:=(ds.drop (HT.fR ds.length 0 lo)).take (HT.fR ds.length ds.length hi-HT.fR ds.length 0 lo)
def bC.dZ{H:Hp}{vs:List V}{ds:List D}{i:Int}{d:D}(r:bC H vs ds)(h:L2.dZ ds i=some d):∃v,L2.dZ vs i=some v/\Rep H v d:=by
 have hl:=r.length;unfold L2.dZ at h ⊢;rw[hl];cases e:Hg ds.length i with
 |none=>rw[e]at h;cases h
 |some j=>
  rw[e]at h;exact r.get h
end
def D0{env:Env}{n:Str}{k:NameKind}(h:(relabel scope env).names.lookup n=some k):(n,k)∈(relabel scope env).names:=aco h
def FU(h1:∀y∈scope.names,y.2≠.free)(h2:∀y∈scope.names,y.2≠.cell)(h3:scope.kind= .function)(h4:∀y∈scope.names,y.2= .local->scope.names.lookup y.1=some .local)(h5:scope.names.lookup x=some .local):
  dW X x [] [] scope []:=by
 refine⟨closureFor_none h1,h2,h3,h4,h5,λn c h=>(by cases h),λn h=>?_,by simp,rfl,λj n h=>(by simp at h),λn h=>(by simp at h)⟩;have no:∀k,(k=NameKind.cell\/k=NameKind.free)->(relabel scope X.env).names.lookup n≠some k:=λk hk e=>by
  have m:=D0 e;unfold relabel at m;obtain⟨⟨n',k'⟩,hm,q⟩:=aa2.mp m;have z:(k' == NameKind.free)=false:=by simpa using h1 _ hm
  simp only[z,agp,aeW]at q;have q2:k'=k:=by
   have:=congrArg Prod.snd q
   simpa using this
  rcases hk with rfl|rfl
  .exact h2 _ hm q2
  .exact h1 _ hm q2
 rcases h with h|h
 .exact absurd h (no _ (.inl rfl))
 .exact absurd h (no _ (.inr rfl))
mutual
def O5(n:Nat):D->Prop
 |.str z=>z.length<=n
 |.tup ds=>ds.length<=n/\Fits n ds
 |.lst ds=>ds.length<=n/\Fits n ds
 |.cI=>True
 |.bl _=>True
 |.int _=>True
def Fits(n:Nat):List D->Prop
 |[]=>True
 |d::ds=>O5 n d/\Fits n ds
end
noncomputable def qj(d:D)(l m:Int):Bool:=match d with
 |.int i=>decide (l<=i) && decide (i<=m)
 |_=>false
theorem lookup_some{α:Type}:∀{l:List (Str×α)}{n:Str},n∈l.map (·.1)->∃c,l.lookup n=some c
 |[],_,h=>by simp at h
 |(m,c)::l,n,h=>by
  rw[acF];cases e:n == m with
  |true=>exact⟨c,rfl⟩
  |false=>
   rcases aaV.mp h with h|h
   .have h:n=m:=h;rw[h,acS]at e;cases e
   .exact lookup_some h
mutual
noncomputable def toPy:D->PyData
 |.cI=>.none
 |.bl b=>.bool b
 |.int i=>.int i
 |.str z=>.str z
 |.tup ds=>.tuple (gq ds)
 |.lst ds=>.list (gq ds)
noncomputable def gq:List D->List PyData
 |[]=>[]
 |d::ds=>toPy d::gq ds
end
mutual
theorem w5:∀d:D,(toPy d).hasDict=false
 |.cI=>rfl
 |.bl _=>rfl
 |.int _=>rfl
 |.str _=>rfl
 |.tup ds=>n5 ds
 |.lst ds=>n5 ds
theorem n5:∀ds:List D,PyData.hasDictAll (gq ds)=false
 |[]=>rfl
 |d::ds=>by
  show((toPy d).hasDict || PyData.hasDictAll (gq ds))=false;rw[w5 d,n5 ds];rfl
end
inductive MO where
 |lst(ds:List D)
 |dct(kvs:List (Key×D))
 |lat(c:Addr)(ds:List D)
 |gF(c:Addr)(kvs:List (D×D))
 |Fi(C:Addr)(kvs:List (Str×(D ⊕ Addr)))
inductive U where
 |t(d:D)|m (o:MO)|b (o:MO)|v (i:Nat)|s (ns:BBD)|f (a:Addr)
abbrev AAA(d:D):Option U:=some (.t d)
abbrev AAB(d:List D):Option U:=some (.m (.lst d))
abbrev AAC(i:Int):Option U:=some (.t (.int i))
abbrev SS:=List (Option U)
def Sub(F H:Hp):Prop:=∀a o,F a=some o->H a=some o
def gw{κ:Type}(F:Hp)(p:κ×V)(q:κ×D):Prop:=p.1=q.1/\Rep F p.2 q.2
def Jk(F:Hp)(v:V):D ⊕ Addr->Prop
 |.inl d=>Rep F v d
 |.inr c=>v= .ref c
def Jl(F:Hp)(p:Str×V)(q:Str×(D ⊕ Addr)):Prop:=p.1=q.1/\Jk F p.2 q.2
def At(F H:Hp)(a:Addr):MO->Prop
 |.lst ds=>∃vs,H a=some (.lst vs)/\bC F vs ds
 |.dct kvs=>∃ws,H a=some (.dK ws)/\Paired (gw F) ws kvs
 |.lat c ds=>∃vs,(a=c/\H a=some (.lst vs))/\bC F vs ds
 |.gF c kvs=>∃ws,(a=c/\H a=some (.dT ws))/\Paired (gw F) ws kvs
 |.Fi C kvs=>∃ws,(∃dx,H a=some (.ins C dx ws))/\Paired (Jl F) ws kvs
noncomputable def fj:U->Bool
 |.m _=>true
 |.b _=>true
 |_=>false
def cL(S:SS)(O:St)(a:Addr):Prop:=∃(i:Nat)(u:U),S[i]? =some (some u)/\fj u=true/\O[i]? =some (some (.ref a))
def O6(K:AAD)(H:Hp)(a:Addr)(ns:BBD):Prop:=
 (∃o,H a=some (.fy o (.lst (ns.map V.int))))\/∃(o:Obj)(its:AAK)(n:Nat),K.lookup a=some o/\o.cls= .type "list"/\o.dict=none/\o.data= .seq its n/\its.size<=sizeLine/\Vals (ns.map V.int) its.toList
theorem O6.sq :O6 K H a ns->mX K H a (ns.map V.int)
 |.inl h=>.inl (.inr h)
 |.inr h=>.inr h
def AK(K:AAD)(F H:Hp)(v:V):U->Prop
 |.t d=>Rep F v d
 |.m o=>∃a,v= .ref a/\F a=none/\At F H a o
 |.b o=>∃a,v= .ref a/\F a=none/\At F H a o
 |.v _=>False
 |.s ns=>∃a,v= .ref a/\O6 K H a ns
 |.f a=>v= .ref a
structure Ext(M:Addr->Prop)(F H F' H':Hp):Prop where
 le:∀b o,F b=some o->F' b=some o
 keep:∀b o,H b=some o->¬M b->H' b=some o
 kj:∀b o,H b=some o->¬M b->F b=none->F' b=none
 there:∀b o,H b=some o->∃o',H' b=some o'
 fy:∀b o u,H b=some (.fy o u)->H' b=some (.fy o u)
structure Base where
 P:List (BBN)
 F:Hp
 H:Hp
def Base.M(B:Base)(a:Addr):Prop:=some a∈B.P
structure Rel(K:AAD)(B:Base)(S:SS)(O:St)(F H:Hp):Prop where
 sub:Sub F H
 len:S.length=O.length
 rep:∀(i:Nat) u,S[i]? =some (some u)->∃v,O[i]? =some (some v)/\AK K F H v u
 Hq:∀(i j:Nat) u w a,S[i]? =some (some u)->fj u=true->S[j]? =some (some w)->fj w=true->O[i]? =some (some (.ref a))->O[j]? =some (some (.ref a))->i=j
 own:∀(i:Nat) o a,S[i]? =some (some (.m o))->O[i]? =some (some (.ref a))->B.H a=none
 bor:∀(i:Nat) o a,S[i]? =some (some (.b o))->O[i]? =some (some (.ref a))->B.M a
 par:∀(i:Nat) a,B.P[i]? =some (some a)->O[i]? =some (some (.ref a))/\∃o,S[i]? =some (some (.b o))
 ext:Ext B.M B.F B.H F H
structure Step(S S':SS)(O:St)(F H F' H':Hp):Prop where
 ext:Ext (cL S O) F H F' H'
 mu:∀a,cL S' O a->cL S O a
 slots:∀(i:Nat) u,S[i]? =some (some u)->∃u',S'[i]? =some (some u')
def Ext.refl(M:Addr->Prop)(F H:Hp):Ext M F H F H:=⟨λ_ _ h=>h,λ_ _ h _=>h,λ_ _ _ _ h=>h,λ_ o h=>⟨o,h⟩,λ_ _ _ h=>h⟩
def Ext.trans{M M':Addr->Prop}{F F2 H2:Hp}(x:Ext M F H F1 H1)(y:Ext M' F1 H1 F2 H2)(s:∀b,M' b->M b\/H b=none):Ext M F H F2 H2 where
 le:=λb o h=>y.le b o (x.le b o h)
 keep:=λb o h n=>y.keep b o (x.keep b o h n) λq=>(s b q).elim n λz=>by rw[h]at z;cases z
 kj:=λb o h n f=>y.kj b o (x.keep b o h n) (λq=>(s b q).elim n λz=>by rw[h]at z;cases z) (x.kj b o h n f)
 there:=λb o h=>let⟨o',h'⟩:=x.there b o h;y.there b o' h'
 fy:=λb o u h=>y.fy b o u (x.fy b o u h)
def Step.refl(S:SS)(O:St)(F H:Hp):Step S S O F H F H:=⟨Ext.refl _ _ _,λ_ h=>h,λ_ u h=>⟨u,h⟩⟩
def Step.trans{S S1 S2:SS}{O:St}{F H F1 H1 F2 H2:Hp}(x:Step S S1 O F H F1 H1)(y:Step S1 S2 O F1 H1 F2 H2):Step S S2 O F H F2 H2:=
 ⟨x.ext.trans y.ext λb q=>.inl (x.mu b q),λa q=>x.mu a (y.mu a q),λi u h=>let⟨u',h'⟩:=x.slots i u h;y.slots i u' h'⟩
mutual
theorem Rep.le{F F':Hp}(g:∀b o,F b=some o->F' b=some o):∀{v:V}{d:D},Rep F v d->Rep F' v d
 |_,_,.cI=>.cI
 |_,_,.bl b=>.bl b
 |_,_,.int i=>.int i
 |_,_,.str z=>.str z
 |_,_,.tup e r=>.tup (g _ _ e) (bC.le g r)
 |_,_,.lst e r=>.lst (e.imp (g _ _) λ⟨o,h⟩=>⟨o,g _ _ h⟩) (bC.le g r)
theorem bC.le{F F':Hp}(g:∀b o,F b=some o->F' b=some o):∀{vs:List V}{ds:List D},bC F vs ds->bC F' vs ds
 |_,_,.nil=>.nil
 |_,_,.cons r rs=>.cons (Rep.le g r) (bC.le g rs)
end
def D3{κ:Type}{F:Hp}(g:∀b o,F b=some o->F' b=some o){ws:List (κ×V)}{kvs:List (κ×D)}(r:Paired (gw F) ws kvs):Paired (gw F') ws kvs:=
 Paired.DI r λ_ _ z=>⟨z.1,z.2.le g⟩
theorem Jk.le{F F':Hp}(g:∀b o,F b=some o->F' b=some o){v:V}:∀{e:D ⊕ Addr},Jk F v e->Jk F' v e
 |.inl _,h=>Rep.le g h
 |.inr _,h=>h
theorem At.le{F F' H H':Hp}{a:Addr}(g:∀b o,F b=some o->F' b=some o)(k:∀o,H a=some o->H' a=some o):∀{o:MO},At F H a o->At F' H' a o
 |.lst _,⟨vs,e,r⟩=>⟨vs,k _ e,r.le g⟩
 |.dct _,⟨ws,e,r⟩=>⟨ws,k _ e,D3 g r⟩
 |.lat _ _,⟨vs,⟨q,e⟩,r⟩=>⟨vs,⟨q,k _ e⟩,r.le g⟩
 |.gF _ _,⟨ws,⟨q,e⟩,r⟩=>⟨ws,⟨q,k _ e⟩,D3 g r⟩
 |.Fi _ _,⟨ws,⟨dx,e⟩,r⟩=>⟨ws,⟨dx,k _ e⟩,Paired.DI r λ_ _ z=>⟨z.1,z.2.le g⟩⟩
theorem At.has{F:Hp}:∀{o:MO},At F H a o->∃u,H a=some u
 |.lst _,⟨_,e,_⟩=>⟨_,e⟩
 |.dct _,⟨_,e,_⟩=>⟨_,e⟩
 |.lat _ _,⟨_,⟨_,e⟩,_⟩=>⟨_,e⟩
 |.gF _ _,⟨_,⟨_,e⟩,_⟩=>⟨_,e⟩
 |.Fi _ _,⟨_,⟨_,e⟩,_⟩=>⟨_,e⟩
def gI(K:AAD)(B:Base)(S:SS)(O:St)(H0 F H:Hp)(v:V):U->Prop
 |.t d=>Rep F v d
 |.m o=>∃a,v= .ref a/\H0 a=none/\F a=none/\At F H a o/\¬cL S O a/\B.H a=none
 |.v i=>O[i]? =some (some v)/\∃u,S[i]? =some (some u)
 |.b _=>False
 |.s ns=>∃a,v= .ref a/\O6 K H a ns
 |.f a=>v= .ref a
def PE.imp{e:Expr}{t t':TE}(h:PE X e t)(k:∀O H Q,t' O H Q->t O H Q):PE X e t':=λpins s O H Q I q=>h pins s O H Q I (k O H Q q)
def PT.imp{e:Expr}{t t':TT}(h:PT X e t)(k:∀O H Q,t' O H Q->t O H Q):PT X e t':=λpins s O H Q I q=>h pins s O H Q I (k O H Q q)
def PW.imp{e:Expr}{t t':TT}(h:PW X e t)(k:∀O H Q,t' O H Q->t O H Q):PW X e t':=λw pins s O H Q I q=>h w pins s O H Q I (k O H Q q)
def PA.imp{e:BBC}{t t':TA}(h:PA X e t)(k:∀O H Q,t' O H Q->t O H Q):PA X e t':=λp pins s O H Q I q=>h p pins s O H Q I (k O H Q q)
def PS.imp{e:Stmt}{t t':TS}(h:PS X e t)(k:∀D O H,t' D O H->t D O H):PS X e t':=λpins s O H Q I q=>h pins s O H Q I (k Q O H q)
def vG.imp{e:BBH}{t t':TS}(h:vG X e t)(k:∀D O H,t' D O H->t D O H):vG X e t':=λpins s O H Q I q=>h pins s O H Q I (k Q O H q)
def PE.orelse{e:Expr}{t:TE}(h:∀O H Q,t O H Q->∃t',PE X e t'/\t' O H Q):PE X e t:=λpins s O H Q I q=>let⟨_,h1,h2⟩:=h O H Q q;h1 pins s O H Q I h2
def PS.orelse{e:Stmt}{t:TS}(h:∀D O H,t D O H->∃t',PS X e t'/\t' D O H):PS X e t:=λpins s O H Q I q=>let⟨_,h1,h2⟩:=h Q O H q;h1 pins s O H Q I h2
abbrev GE:=SS->Option (U×SS)
abbrev GD:=SS->Option (D×SS)
abbrev GT:=SS->Option (Bool×SS)
abbrev GA:=SS->Option (List D×SS)
inductive Out where
 |nx(S:SS)|rt (u:U) (S:SS)
abbrev GS:=SS->Option Out
inductive tE(K:AAD)(B:Base)(g:GE)(O:St)(H:Hp)(Q:VK):Prop
 |mk(S:SS)(F:Hp)(u:U)(S':SS)(R:Rel K B S O F H)(hg:g S=some (u,S'))(q:∀v F' H',Rel K B S' O F' H'->Step S S' O F H F' H'->gI K B S' O H F' H' v u->Q v H')
inductive tD(K:AAD)(B:Base)(g:GD)(O:St)(H:Hp)(Q:VK):Prop
 |mk(S:SS)(F:Hp)(d:D)(S':SS)(R:Rel K B S O F H)(hg:g S=some (d,S'))(q:∀v F' H',Rel K B S' O F' H'->Step S S' O F H F' H'->Rep F' v d->Q v H')
inductive tQ(K:AAD)(B:Base)(g:GT)(O:St)(H:Hp)(Q:Bool->Hp->Prop):Prop
 |mk(S:SS)(F:Hp)(b:Bool)(S':SS)(R:Rel K B S O F H)(hg:g S=some (b,S'))(q:∀F' H',Rel K B S' O F' H'->Step S S' O F H F' H'->Q b H')
inductive tAs(K:AAD)(B:Base)(g:GA)(O:St)(H:Hp)(Q:List V->Hp->Prop):Prop
 |mk(S:SS)(F:Hp)(ds:List D)(S':SS)(R:Rel K B S O F H)(hg:g S=some (ds,S'))(q:∀vs F' H',Rel K B S' O F' H'->Step S S' O F H F' H'->bC F' vs ds->Q vs H')
def Bm(K:AAD)(B:Base)(F:Hp)(D:Ends):Out->Prop
 |.nx S=>∀O' F' H',Rel K B S O' F' H'->(∀b o,F b=some o->F' b=some o)->D.nx O' H'
 |.rt u S=>∀v O' F' H',Rel K B S O' F' H'->(∀b o,F b=some o->F' b=some o)->gI K B S O' B.H F' H' v u->D.rt v H'
inductive tO(K:AAD)(B:Base)(g:GS)(D:Ends)(O:St)(H:Hp):Prop
 |mk(S:SS)(F:Hp)(o:Out)(R:Rel K B S O F H)(hg:g S=some o)(q:Bm K B F D o)
structure JE(X:Cx)(e:Expr)(g:GE):Prop where
 h:∀B,PE X e (tE X.K B g)
structure JD(X:Cx)(e:Expr)(g:GD):Prop where
 h:∀B,PE X e (tD X.K B g)
structure JT(X:Cx)(e:Expr)(g:GT):Prop where
 h:∀B,PT X e (tQ X.K B g)
structure JW(X:Cx)(e:Expr)(g:GT):Prop where
 h:∀B,PW X e (tQ X.K B g)
structure JA(X:Cx)(es:BBC)(g:GA):Prop where
 h:∀B,PA X es (tAs X.K B g)
structure JS(X:Cx)(st:Stmt)(g:GS):Prop where
 h:∀B,PS X st (tO X.K B g)
structure JB(X:Cx)(st:BBH)(g:GS):Prop where
 h:∀B,vG X st (tO X.K B g)
noncomputable def fz:U->SS->Option (D×SS)
 |.t d,S=>some (d,S)
 |.m (.lst ds),S=>some (.lst ds,S)
 |.v i,S=>match S[i]? with
  |some (some (.t d))=>some (d,S)
  |some (some (.m (.lst ds)))=>some (.lst ds,S.set i (some (.t (.lst ds))))
  |_=>none
 |_,_=>none
def get_set{α:Type}{l:List α}{j:Nat}{x y:α}(h:(l.set i x)[j]? =some y):(i=j/\x=y/\i<l.length)\/(i≠j/\l[j]? =some y):=by
 by_cases e:i=j
 .subst e;by_cases hl:i<l.length
  .rw[ace hl]at h;exact .inl ⟨rfl,abT h,hl⟩
  .rw[acI (by simpa using hl)]at h;cases h
 .rw[abF e]at h;exact .inr ⟨e,h⟩
def Sub.fy{F:Hp}(s:Sub F H)(h:H a=some o):Sub (upd F a o) H:=λb u e=>by
 by_cases hb:b=a
 .subst hb;rw[aR]at e;cases e;exact h
 .rw[aO hb]at e;exact s b u e
def Sub.fresh{F:Hp}(s:Sub F H)(h:H p=Option.none):F p=Option.none:=by
 cases e:F p with
 |none=>rfl
 |some o=>have q:=s p o e;rw[h]at q;cases q
def iK{F:Hp}(h:F a=none):∀b u,F b=some u->upd F a o b=some u:=λb u e=>by rw[aO (bx e h)];exact e
theorem O6.le(k:∀b o u,H b=some (.fy o u)->H' b=some (.fy o u)):O6 K H a ns->O6 K H' a ns
 |.inl ⟨o,h⟩=>.inl ⟨o,k _ _ _ h⟩
 |.inr h=>.inr h
theorem AK.le{K:AAD}{F F' H H':Hp}{v:V}(g:∀b o,F b=some o->F' b=some o)(kf:∀b o u,H b=some (.fy o u)->H' b=some (.fy o u)):∀{u:U},AK K F H v u->(∀a,fj u=true->v= .ref a->(∀o,H a=some o->H' a=some o)/\F' a=none)->AK K F' H' v u
 |.t _,h,_=>Rep.le g h
 |.m _,⟨a,e,_,h⟩,k=>let⟨k1,k2⟩:=k a rfl e;⟨a,e,k2,h.le g k1⟩
 |.b _,⟨a,e,_,h⟩,k=>let⟨k1,k2⟩:=k a rfl e;⟨a,e,k2,h.le g k1⟩
 |.v _,h,_=>h
 |.s _,⟨a,e,h⟩,_=>⟨a,e,h.le kf⟩
 |.f _,h,_=>h
def LD{F:Hp}{v:V}{d:D}(R:Rel K B S O F H)(st:Step S0 S O F0 H0 F H)(r:gI K B S O H0 F H v u)(e:fz u S=some (d,S')):
  ∃F',Rel K B S' O F' H/\Step S0 S' O F0 H0 F' H/\Rep F' v d:=by
 cases u with
 |t d'=>cases e;exact⟨F,R,st,r⟩
 |b o=>cases r
 |s o=>cases e
 |f o=>cases e
 |m o=>
  cases o with
  |dct kvs=>cases e
  |lat _ _=>cases e
  |gF _ _=>cases e
  |Fi _ _=>cases e
  |lst ds=>
   cases e;obtain⟨a,rfl,h0,hf,⟨vs,ha,rs⟩,nm,hB⟩:=r;have g:=iK (o:=.lst vs) hf;refine⟨upd F a (.lst vs),⟨R.sub.fy ha,R.len,λi u h=>?_,R.Hq,R.own,R.bor,R.par,?_⟩,⟨⟨λb o h=>g b o (st.ext.le b o h),st.ext.keep,λb o h n f=>?_,st.ext.there,st.ext.fy⟩,st.mu,st.slots⟩,.lst (.inl aR) (rs.le g)⟩
   .obtain⟨w,h1,h2⟩:=R.rep i u h;refine⟨w,h1,h2.le g (λ_ _ _ z=>z) λc hm hc=>⟨λo q=>q,?_⟩⟩;have hca:c≠a:=λz=>nm ⟨i,u,h,hm,by rw[h1,hc,z]⟩;rw[aO hca];cases u with
    |m o=>obtain⟨c',e',f',_⟩:=h2;rw[hc]at e';cases e';exact f'
    |b o=>obtain⟨c',e',f',_⟩:=h2;rw[hc]at e';cases e';exact f'
    |t d=>cases hm
    |v j=>cases hm
    |s j=>cases hm
    |f j=>cases hm
   .exact⟨λb o h=>g b o (R.ext.le b o h),R.ext.keep,λb o h n f=>by rw[aO (λz=>by rw[z,hB]at h;cases h)];exact R.ext.kj b o h n f,R.ext.there,R.ext.fy⟩
   .rw[aO (λz=>by rw[z,h0]at h;cases h)];exact st.ext.kj b o h n f
 |v i=>
  obtain⟨hv,u,hu⟩:=r;unfold fz at e;simp only[hu]at e;cases u with
  |t d'=>
   cases e;obtain⟨w,h1,h2⟩:=R.rep i _ hu;rw[hv]at h1;cases h1;exact⟨F,R,st,h2⟩
  |b o=>cases e
  |v j=>cases e
  |s j=>cases e
  |f j=>cases e
  |m o=>
   cases o with
   |dct kvs=>cases e
   |lat _ _=>cases e
   |gF _ _=>cases e
   |Fi _ _=>cases e
   |lst ds=>
    cases e;obtain⟨w,h1,a,rfl,hf,⟨vs,ha,rs⟩⟩:=R.rep i _ hu;have hiv:O[i]? =some (some (.ref a)):=h1;rw[hv]at h1;cases h1;have hB:=R.own i _ a hu hiv;have g:=iK (o:=.lst vs) hf;have back:∀j w,(S.set i (AAA (.lst ds)))[j]? =some (some w)->fj w=true->i≠j/\S[j]? =some (some w):=λj w h hm=>by
     rcases get_set h with⟨_,q,_⟩|q
     .cases q;cases hm
     .exact q
    have mu:∀c,cL (S.set i (AAA (.lst ds))) O c->cL S O c:=λc ⟨j,w,h,hm,z⟩=>⟨j,w,(back j w h hm).2,hm,z⟩
    refine⟨upd F a (.lst vs),⟨R.sub.fy ha,by rw[aeo];exact R.len,λj u h=>?_,λj k u w c h1 m1 h2 m2=>R.Hq j k u w c (back j u h1 m1).2 m1 (back k w h2 m2).2 m2,λj o c h=>R.own j o c (back j _ h rfl).2,λj o c h=>R.bor j o c (back j _ h rfl).2,λj c h=>?_,?_⟩,
     ⟨⟨λb o h=>g b o (st.ext.le b o h),st.ext.keep,λb o h n f=>?_,st.ext.there,st.ext.fy⟩,λc q=>st.mu c (mu c q),λj u h=>?_⟩,.lst (.inl aR) (rs.le g)⟩
    .rcases get_set h with⟨rfl,q,_⟩|⟨ne,q⟩
     .cases q;exact⟨.ref a,hiv,.lst (.inl aR) (rs.le g)⟩
     .obtain⟨w,h1,h2⟩:=R.rep j u q;refine⟨w,h1,h2.le g (λ_ _ _ z=>z) λc hm hc=>⟨λo q=>q,?_⟩⟩;have hca:c≠a:=λz=>ne (R.Hq i j _ u a hu rfl q hm hiv (by rw[h1,hc,z]));rw[aO hca];cases u with
      |m o=>obtain⟨c',e',f',_⟩:=h2;rw[hc]at e';cases e';exact f'
      |b o=>obtain⟨c',e',f',_⟩:=h2;rw[hc]at e';cases e';exact f'
      |t d=>cases hm
      |v j=>cases hm
      |s j=>cases hm
      |f j=>cases hm
    .obtain⟨h1,o,h2⟩:=R.par j c h;refine⟨h1,o,?_⟩;have ne:i≠j:=λz=>by subst z;rw[hu]at h2;cases h2
     rw[abF ne];exact h2
    .exact⟨λb o h=>g b o (R.ext.le b o h),R.ext.keep,λb o h n f=>by rw[aO (λz=>by rw[z,hB]at h;cases h)];exact R.ext.kj b o h n f,R.ext.there,R.ext.fy⟩
    .have hb:b≠a:=λz=>n (st.mu b ⟨i,_,hu,rfl,by rw[z];exact hiv⟩);rw[aO hb];exact st.ext.kj b o h n f
    .obtain⟨u',h'⟩:=st.slots j u h;by_cases hj:i=j
     .subst hj;exact⟨.t (.lst ds),ace (abv.mp h').1⟩
     .exact⟨u',by rw[abF hj];exact h'⟩
def eF(g:GE):GD:=λS=>(g S).bind λp=>fz p.1 p.2
def JE.d{X:Cx}{e:Expr}{g:GE}(h:JE X e g):JD X e (eF g):=⟨λB=>(h.h B).imp λO H Q hh=>by
 obtain⟨S,F,d,S',R,hg,q⟩:=hh;unfold eF at hg;cases e1:g S with
 |none=>rw[e1]at hg;cases hg
 |some p=>
  obtain⟨u,S1⟩:=p;rw[e1]at hg;refine⟨S,F,u,S1,R,e1,λv F1 H1 R1 st1 r1=>?_⟩;obtain⟨F2,R2,st2,r2⟩:=LD R1 st1 r1 hg;exact q v F2 H1 R2 st2 r2⟩
noncomputable def eT(g:GD):GE:=λS=>(g S).map λp=>(.t p.1,p.2)
def JD.e{X:Cx}{e:Expr}{g:GD}(h:JD X e g):JE X e (eT g):=⟨λB=>(h.h B).imp λO H Q hh=>by
 obtain⟨S,F,u,S',R,hg,q⟩:=hh;unfold eT at hg;cases e1:g S with
 |none=>rw[e1]at hg;cases hg
 |some p=>
  obtain⟨d,S1⟩:=p;rw[e1]at hg;cases hg;exact⟨S,F,d,S1,R,e1,λv F1 H1 R1 st1 r1=>q v F1 H1 R1 st1 r1⟩⟩
structure jm(F H F' H':Hp):Prop where
 le:∀b o,F b=some o->F' b=some o
 same:∀b o,H b=some o->H' b=some o
 kj:∀b o,H b=some o->F b=none->F' b=none
def jm.refl(F H:Hp):jm F H F H:=⟨λ_ _ h=>h,λ_ _ h=>h,λ_ _ _ h=>h⟩
def jm.step{F:Hp}(n:jm F H F' H'):Step S S O F H F' H':=
 ⟨⟨n.le,λb o h _=>n.same b o h,λb o h _ f=>n.kj b o h f,λb o h=>⟨o,n.same b o h⟩,λb o u h=>n.same b _ h⟩,λ_ h=>h,λ_ u h=>⟨u,h⟩⟩
def jm.obj{F:Hp}(h:H p=none)(o:HO):jm F H F (upd H p o):=
 ⟨λ_ _ q=>q,λb u q=>by rw[aO (bx q h)];exact q,λ_ _ _ q=>q⟩
def Sub.same{F:Hp}(s:Sub F H)(k:∀b o,H b=some o->H' b=some o):Sub F H':=λa o e=>k a o (s a o e)
def Sub.Cp{F:Hp}(s:Sub F H)(h:H p=none):Sub (upd F p o) (upd H p o):=λb u e=>by
 by_cases hb:b=p
 .subst hb;rw[aR]at e;cases e;exact aR
 .rw[aO hb]at e;have q:=s b u e;rw[aO (bx q h)];exact q
def jm.root{F:Hp}(s:Sub F H)(h:H p=none)(o:HO):jm F H (upd F p o) (upd H p o):=
 ⟨iK (s.fresh h),λb u q=>by rw[aO (bx q h)];exact q,λb u q f=>by rw[aO (bx q h)];exact f⟩
def Rel.has{K:AAD}{B:Base}{S:SS}{O:St}{F H:Hp}(R:Rel K B S O F H){a:Addr}(m:cL S O a):∃o,H a=some o:=by
 obtain⟨i,u,h,hm,hv⟩:=m;obtain⟨v,h1,h2⟩:=R.rep i u h;rw[hv]at h1;cases h1;cases u with
 |t d=>cases hm
 |v j=>cases hm
 |s j=>cases hm
 |f j=>cases hm
 |m o=>obtain⟨b,e,_,h⟩:=h2;cases e;exact h.has
 |b o=>obtain⟨b,e,_,h⟩:=h2;cases e;exact h.has
def Rel.new{F:Hp}(R:Rel K B S O F H)(n:jm F H F' H')(s:Sub F' H'):Rel K B S O F' H' where
 sub:=s
 len:=R.len
 rep:=λi u h=>by
  obtain⟨v,h1,h2⟩:=R.rep i u h;refine⟨v,h1,h2.le n.le (λb o u z=>n.same b _ z) λa hm ha=>⟨λo q=>n.same a o q,?_⟩⟩;obtain⟨o,ho⟩:=R.has ⟨i,u,h,hm,by rw[h1,ha]⟩;refine n.kj a o ho ?_;cases u with
  |t d=>cases hm
  |v j=>cases hm
  |s j=>cases hm
  |f j=>cases hm
  |m o=>obtain⟨b,e,f,_⟩:=h2;rw[ha]at e;cases e;exact f
  |b o=>obtain⟨b,e,f,_⟩:=h2;rw[ha]at e;cases e;exact f
 Hq:=R.Hq
 own:=R.own
 bor:=R.bor
 par:=R.par
 ext:=⟨λb o h=>n.le b o (R.ext.le b o h),λb o h m=>n.same b o (R.ext.keep b o h m),λb o h m f=>n.kj b o (R.ext.keep b o h m) (R.ext.kj b o h m f),λb o h=>let⟨o',h'⟩:=R.ext.there b o h;⟨o',n.same b o' h'⟩,λb o u h=>n.same b _ (R.ext.fy b o u h)⟩
def uD(H0 F H:Hp)(v:V):U->Prop
 |.t d=>Rep F v d
 |.m o=>∃a,v= .ref a/\H0 a=none/\F a=none/\At F H a o
 |_=>False
def none_of(t:∀b o,H b=some o->∃o',H' b=some o')(h:H' a=none):H a=none:=by
 cases e:H a with
 |none=>rfl
 |some o=>obtain⟨o',h'⟩:=t a o e;rw[h]at h';cases h'
def uD.FW{F:Hp}{v:V}(R:Rel K B S O F1 H1)(st:Step S0 S O F0 H0 F1 H1)(r:uD H1 F H v u):gI K B S O H0 F H v u:=by
 cases u with
 |t d=>exact r
 |b o=>cases r
 |v i=>cases r
 |s i=>cases r
 |f i=>cases r
 |m o=>
  obtain⟨a,e,h0,f,h⟩:=r;refine⟨a,e,none_of st.ext.there h0,f,h,λm=>?_,none_of R.ext.there h0⟩;obtain⟨o,ho⟩:=R.has m;rw[h0]at ho;cases ho
inductive rP(f:List D->Option U)(xs:List V)(H:Hp)(Q:VK):Prop
 |mk(F:Hp)(ds:List D)(u:U)(s:Sub F H)(r:bC F xs ds)(hf:f ds=some u)(q:∀v F' H',jm F H F' H'->Sub F' H'->uD H F' H' v u->Q v H')
noncomputable def jD:D->Bool
 |.tup _=>false
 |.lst _=>false
 |_=>true
noncomputable def toV:D->V
 |.bl b=>.bl b
 |.int i=>.int i
 |.str z=>.str z
 |_=>.cI
theorem D4{F:Hp}:∀{d:D},jD d=true->Rep F (toV d) d
 |.cI,_=>.cI
 |.bl b,_=>.bl b
 |.int i,_=>.int i
 |.str z,_=>.str z
 |.tup _,h=>by cases h
 |.lst _,h=>by cases h
noncomputable def au(i:Nat):GE:=λS=>match S[i]? with
 |some (some (.t d))=>some (.t d,S)
 |some (some (.s d))=>some (.s d,S)|some (some (.f d))=>some (.f d,S)
 |some (some _)=>some (.v i,S)
 |_=>none
noncomputable def eC(d:D):GD:=λS=>some (d,S)
noncomputable def aB:GA:=λS=>some ([],S)
noncomputable def ah(g:GD)(ga:GA):GA:=λS=>(g S).bind λp=>(ga p.2).map λq=>(p.1::q.1,q.2)
noncomputable def eP(f:List D->Option U)(ga:GA):GE:=λS=>(ga S).bind λp=>(f p.1).map λu=>(u,p.2)
section
variable {X:Cx}{a b e:Expr}{es:BBC}{pos p:Pos}{x:Str}{g ga gb:GD}{gA:GA}{f:List D->Option U}
def bD(i:Nat)(hN:X.N[i]? =some x:=by rfl)(hv:pF X.env.scope x:=by trivial)(hd:BBT x:=by decide)
  (hcd:BBU x:=by decide):JE X (.Name x pos) (au i):=⟨λB=>(cA hN hv hd hcd).imp λO H Q hh=>by
 obtain⟨S,F,u,S',R,hg,q⟩:=hh;unfold au at hg;cases hs:S[i]? with
 |none=>rw[hs]at hg;cases hg
 |some o=>
  cases o with
  |none=>rw[hs]at hg;cases hg
  |some w=>
   rw[hs]at hg;obtain⟨v,h1,h2⟩:=R.rep i w hs;refine⟨v,h1,?_⟩;cases w with
   |t d=>cases hg;exact q v F H R (Step.refl ..) h2
   |m o=>cases hg;exact q v F H R (Step.refl ..) ⟨h1,_,hs⟩
   |b o=>cases hg;exact q v F H R (Step.refl ..) ⟨h1,_,hs⟩
   |s j=>cases hg;exact q v F H R (Step.refl ..) h2
   |f j=>cases hg;exact q v F H R (Step.refl ..) h2
   |v j=>cases hg;exact q v F H R (Step.refl ..) ⟨h1,_,hs⟩⟩
def O7{d:D}(hf:jD d=true)(h:PE X e (tC (toV d))):JD X e (eC d):=⟨λB=>h.imp λO H Q hh=>by
 obtain⟨S,F,u,S',R,hg,q⟩:=hh;cases hg;exact q _ F H R (Step.refl ..) (D4 hf)⟩
def aD {i j}:JD X (.Constant (.int i) j pos) (eC (.int i)):=O7 rfl KW
def iG {i j}:JD X (.Constant (.bool i) j pos) (eC (.bl i)):=O7 rfl XD
def aT {i j}:JD X (.Constant (.str i) j pos) (eC (.str i)):=O7 rfl KY
def aN:JA X [] aB:=⟨λB=>iI.imp λO H Q hh=>by
 obtain⟨S,F,u,S',R,hg,q⟩:=hh;cases hg;exact q [] F H R (Step.refl ..) .nil⟩
def aj{α β:Type}{o:Option α}{f:α->Option β}{y:β}(h:o.bind f=some y):∃z,o=some z/\f z=some y:=by
 cases o with
 |none=>cases h
 |some z=>exact⟨z,rfl,h⟩
def aA{α β:Type}{o:Option α}{f:α->β}{y:β}(h:o.map f=some y):∃z,o=some z/\f z=y:=by
 cases o with
 |none=>cases h
 |some z=>exact⟨z,rfl,abT h⟩
def aq(h:JD X e g)(hr:JA X es gA)(hs:starEach (e::es) X.env=(false,eval e X.env)::starEach es X.env:=by rfl):JA X (e::es) (ah g gA):=
 ⟨λB=>(dN (h.h B) (hr.h B) hs).imp λO H Q hh=>by
 obtain⟨S,F,u,S',R,hg,q⟩:=hh;obtain⟨⟨d,S1⟩,h1,hg⟩:=aj hg;obtain⟨⟨ds,S2⟩,h2,hg⟩:=aA hg;cases hg;exact⟨S,F,d,S1,R,h1,λv F1 H1 R1 st1 r1=>⟨S1,F1,ds,S2,R1,h2,λvs F2 H2 R2 st2 r2=>q _ F2 H2 R2 (st1.trans st2) (.cons (r1.le st2.ext.le) r2)⟩⟩⟩
def n6{r:List V->Hp->VK->Prop}(hr:∀vs H1 Q1,rP f vs H1 Q1->r vs H1 Q1)(h:tE K B (eP f gA) O H Q):tAs K B gA O H λvs H1=>r vs H1 Q:=by
 obtain⟨S,F,u,S',R,hg,q⟩:=h;obtain⟨⟨ds,S1⟩,h1,hg⟩:=aj hg;obtain⟨u',h2,hg⟩:=aA hg;cases hg;exact⟨S,F,ds,S1,R,h1,λvs F1 H1 R1 st1 r1=>hr _ _ _ ⟨F1,ds,_,R1.sub,r1,h2,λv F2 H2 n s2 r2=>q v F2 H2 (R1.new n s2) (st1.trans n.step) (r2.FW R1 st1)⟩⟩
def g6{id:String}(hc:gY X (.builtin id) (rP f))(hg:Gl X x)(hm:X.mg x=none)(hv:bootBuiltins x=some (.builtin id))(ha:JA X (e::es) gA)(hn:x≠"__name__":=by decide)(hdb:BBT x:=by decide)
  (he:starEach (e::es) X.env=(false,eval e X.env)::starEach es X.env:=by rfl)(hpl:(backTo pos (starEach es X.env)).any (·.1)=false:=by rfl):JE X (.Call (.Name x p) (e::es) [] pos) (eP f gA):=
 ⟨λB=>(qd hc hg hm hv (ha.h B) hn hdb he hpl).imp λO H Q h=>n6 (λ_ _ _ z=>z) h⟩
def fS(hc:gY X (.type T) (rP f))(hg:Gl X x)(hm:X.mg x=none)(hv:bootBuiltins x=some (.type T))(ha:JA X (e::es) gA)(hn:x≠"__name__":=by decide)(hdb:BBT x:=by decide)
  (he:starEach (e::es) X.env=(false,eval e X.env)::starEach es X.env:=by rfl)(hpl:(backTo pos (starEach es X.env)).any (·.1)=false:=by rfl):JE X (.Call (.Name x p) (e::es) [] pos) (eP f gA):=
 ⟨λB=>(Bg hc hg hm hv (ha.h B) hn hdb he hpl).imp λO H Q h=>n6 (λ_ _ _ z=>z) h⟩
abbrev Bo(X:Cx)(o:Value->Value->Sem Value)(f:List D->Option U):Prop:=yg X o (λx y H Q=>rP f [x,y] H Q)
def uE(h:tE K B (eP f (ah ga (ah gb aB))) O H Q):Tt (λx y H Q=>rP f [x,y] H Q) (tD K B ga) (tD K B gb) O H Q:=by
 obtain⟨S,F,u,S',R,hg,q⟩:=h;obtain⟨⟨ds,S1⟩,h1,hg⟩:=aj hg;obtain⟨u',h2,hg⟩:=aA hg;cases hg;obtain⟨⟨d1,T1⟩,k1,h1⟩:=aj h1;obtain⟨⟨ds2,T2⟩,k2,h1⟩:=aA h1;cases h1;obtain⟨⟨d2,T3⟩,k3,k2⟩:=aj k2;obtain⟨⟨ds3,T4⟩,k4,k2⟩:=aA k2;cases k2;cases k4;exact⟨S,F,d1,T1,R,k1,λv1 F1 H1 R1 st1 r1=>⟨T1,F1,d2,_,R1,k3,λv2 F2 H2 R2 st2 r2=>⟨F2,_,_,R2.sub,.cons (r1.le st2.ext.le) (.cons r2 .nil),h2,λv F3 H3 n s3 r3=>q v F3 H3 (R2.new n s3) ((st1.trans st2).trans n.step) (r3.FW R2 (st1.trans st2))⟩⟩⟩
def bE{op:Operator}(ho:Bo X (binaryOp op) f)(ha:JD X a ga)(hb:JD X b gb):JE X (.BinOp a op b pos) (eP f (ah ga (ah gb aB))):=
 ⟨λB=>(XS ho (ha.h B) (hb.h B)).imp λO H Q h=>uE h⟩
def eV{op:CmpOp}(ho:Bo X (compareOp op) f)(ha:JD X a ga)(hb:JD X b gb)(hm:behindInMarks op b=false:=by first|exact K9 _|rfl):JE X (.Compare a [op] [b] pos) (eP f (ah ga (ah gb aB))):=
 ⟨λB=>(G4 ho (ha.h B) (hb.h B) hm).imp λO H Q h=>uE h⟩
def sf(hr:Lr X (λx y H Q=>rP f [x,y] H Q))(ha:JD X a ga)(hb:JD X b gb)(hs:nY b):JE X (.Subscript a b pos) (eP f (ah ga (ah gb aB))):=
 ⟨λB=>(Ls hr (ha.h B) (hb.h B) hs).imp λO H Q h=>uE h⟩
noncomputable def fT:List D->Option U:=λds=>if ds.length<=100000 then AAA (.tup ds) else none
noncomputable def eB:List D->Option U:=λds=>if ds.length<=100000 then AAB ds else none
def yh(h:n<=100000):n<=sizeLine:=aaY h b_
end
section
variable {X:Cx}{a b c e:Expr}{es:BBC}{pos p:Pos}{g ga gb:GD}{gA:GA}{f:List D->Option U}
def cP {x1}(h:JA X es gA):JE X (.Tuple es x1 pos) (eP fT gA):=
 ⟨λB=>(TX (h.h B)).imp λO H Q z=>n6 (r:=λxs H1 Q=>xs.length<=sizeLine/\∀p,H1 p=none->Q (.ref p) (upd H1 p (.tup xs))) (λvs H1 Q1 hh=>by
 obtain⟨F,ds,u,sb,rs,hf,q⟩:=hh;unfold fT at hf;split at hf
 .rename_i hl;cases hf;refine⟨by rw[rs.length];exact yh hl,λp hp=>?_⟩;exact q _ _ _ (jm.root sb hp _) (sb.Cp hp) (.tup aR (rs.le (iK (sb.fresh hp))))
 .cases hf) z⟩
def bZ(h:JA X es gA):JE X (.List es pos) (eP eB gA):=
 ⟨λB=>(Lc (h.h B)).imp λO H Q z=>n6 (r:=λxs H1 Q=>xs.length<=sizeLine/\∀p,H1 p=none->Q (.ref p) (upd H1 p (.lst xs))) (λvs H1 Q1 hh=>by
 obtain⟨F,ds,u,sb,rs,hf,q⟩:=hh;unfold eB at hf;split at hf
 .rename_i hl;cases hf;refine⟨by rw[rs.length];exact yh hl,λp hp=>?_⟩;exact q _ F _ (jm.obj hp _) (sb.same (jm.obj (F:=F) hp _).same) ⟨p,rfl,hp,sb.fresh hp,vs,aR,rs⟩
 .cases hf) z⟩
noncomputable def qB(g:GD):GT:=λS=>(g S).bind λp=>match p.1 with
 |.bl k=>some (k,p.2)
 |_=>none
noncomputable def kr(g:GT):GT:=λS=>(g S).map λp=>(!p.1,p.2)
noncomputable def yP(g h:GT):GT:=λS=>(g S).bind λp=>if p.1 then h p.2 else some (false,p.2)
noncomputable def FY(g h:GT):GT:=λS=>(g S).bind λp=>if p.1 then some (true,p.2) else h p.2
noncomputable def eQ(g:GT):GD:=λS=>(g S).map λp=>(.bl p.1,p.2)
def lR(h:qB g S=some (k,S')):g S=some (.bl k,S'):=by
 obtain⟨⟨d,S1⟩,h1,h⟩:=aj h;cases d<;>cases h
 exact h1
def n8{F:Hp}{v:V}(r:Rep F v (.bl k)):v= .bl k:=by cases r;rfl
def jo{F:Hp}{v:V}{i:Int}(r:Rep F v (.int i)):v= .int i:=by cases r;rfl
def fJ(h:JD X e g)(he:∀whole,isTrue e X.env whole=(do let v <-whole;standAt e.pos;holding [v] (truthy v)):=by intro _;rfl):JT X e (qB g):=
 ⟨λB=>(S7 (h.h B) he).imp λO H Q ⟨S,F,k,S',R,hg,q⟩=>⟨S,F,.bl k,S',R,lR hg,λv F' H' R' st r=>⟨k,n8 r,q F' H' R' st⟩⟩⟩
def Yv{gE:GE}(h:tD K B (eF gE) O H Q):tE K B gE O H Q:=by
 obtain⟨S,F,d,S',R,hg,q⟩:=h;obtain⟨⟨u,S1⟩,h1,hg⟩:=aj hg;refine⟨S,F,u,S1,R,h1,λv F1 H1 R1 st1 r1=>?_⟩;obtain⟨F2,R2,st2,r2⟩:=LD R1 st1 r1 hg;exact q v F2 H1 R2 st2 r2
def bF{op:CmpOp}(ho:Bo X (compareOp op) f)(ha:JD X a ga)(hb:JD X b gb)(hm:behindInMarks op b=false:=by first|exact K9 _|rfl):JT X (.Compare a [op] [b] pos) (qB (eF (eP f (ah ga (ah gb aB))))):=
 ⟨λB=>(B9 ho (ha.h B) (hb.h B) hm).imp λO H Q ⟨S,F,k,S',R,hg,q⟩=>uE (Yv ⟨S,F,.bl k,S',R,lR hg,λv F' H' R' st r=>⟨k,n8 r,q F' H' R' st⟩⟩)⟩
def kO(h:JT X a q1):JT X (.UnaryOp .Not a pos) (kr q1):=
 ⟨λB=>(S8 (h.h B)).imp λO H Q hh=>by
 obtain⟨S,F,k,S',R,hg,q⟩:=hh;obtain⟨⟨d,S1⟩,h1,hg⟩:=aA hg;cases hg;exact⟨S,F,d,_,R,h1,λF' H' R' st=>q F' H' R' st⟩⟩
def n9(h:JT X a q1):JW X (.BoolOp .And [a] pos) q1:=⟨λB=>pw_and1 (h.h B)⟩
def iL(h:JT X a q1):JW X (.BoolOp .Or [a] pos) q1:=⟨λB=>pw_or1 (h.h B)⟩
def Cq(h:JT X a q1)(hr:JW X (.BoolOp .And (b::r) pos) q2):JW X (.BoolOp .And (a::b::r) pos) (yP q1 q2):=
 ⟨λB=>(pw_and (h.h B) (hr.h B)).imp λO H Q hh=>by
 obtain⟨S,F,k,S',R,hg,q⟩:=hh;obtain⟨⟨d,S1⟩,h1,hg⟩:=aj hg;refine⟨S,F,d,S1,R,h1,λF1 H1 R1 st1=>?_⟩;cases d with
 |true=>exact Cn ⟨S1,F1,k,S',R1,hg,λF2 H2 R2 st2=>q F2 H2 R2 (st1.trans st2)⟩
 |false=>cases hg;exact Cm (q F1 H1 R1 st1)⟩
def uF(h:JT X a q1)(hr:JW X (.BoolOp .Or (b::r) pos) q2):JW X (.BoolOp .Or (a::b::r) pos) (FY q1 q2):=
 ⟨λB=>(pw_or (h.h B) (hr.h B)).imp λO H Q hh=>by
 obtain⟨S,F,k,S',R,hg,q⟩:=hh;obtain⟨⟨d,S1⟩,h1,hg⟩:=aj hg;refine⟨S,F,d,S1,R,h1,λF1 H1 R1 st1=>?_⟩;cases d with
 |false=>exact Cm ⟨S1,F1,k,S',R1,hg,λF2 H2 R2 st2=>q F2 H2 R2 (st1.trans st2)⟩
 |true=>cases hg;exact Cn (q F1 H1 R1 st1)⟩
def JW.t(h:JW X e q1):JT X e q1:=⟨λB=>(h.h B).pt⟩
def LF {op}(h:JD X a g):JD X (.BoolOp op [a] pos) (eQ (qB g)):=⟨λB=>(S9 (h.h B)).imp λO H Q hh=>by
 obtain⟨S,F,k,S',R,hg,q⟩:=hh;obtain⟨⟨d,S1⟩,h1,hg⟩:=aA hg;cases hg;exact⟨S,F,.bl d,_,R,lR h1,q⟩⟩
def LH(h:JD X a g)(hr:JD X (.BoolOp .And (b::r) pos) (eQ q2)):JD X (.BoolOp .And (a::b::r) pos) (eQ (yP (qB g) q2)):=
 ⟨λB=>(Tc (h.h B) (hr.h B)).imp λO H Q hh=>by
 obtain⟨S,F,k,S',R,hg,q⟩:=hh;obtain⟨⟨d,S1⟩,h1,hg⟩:=aA hg;cases hg;obtain⟨⟨d1,S2⟩,h1,h2⟩:=aj h1;refine⟨S,F,.bl d1,S2,R,lR h1,λv F1 H1 R1 st1 r1=>⟨d1,n8 r1,?_⟩⟩;cases d1 with
 |true=>
  have h2:q2 S2=some (d,S1):=h2;exact Cn ⟨S2,F1,.bl d,S1,R1,by show(q2 S2).map _=_;rw[h2];rfl,λv F2 H2 R2 st2 r2=>q v F2 H2 R2 (st1.trans st2) r2⟩
 |false=>cases h2;exact Cm (q _ F1 H1 R1 st1 (.bl false))⟩
def Cr(h:JD X a g):JD X (.UnaryOp .Not a pos) (eQ (kr (qB g))):=⟨λB=>(Te (h.h B)).imp λO H Q hh=>by
 obtain⟨S,F,k,S',R,hg,q⟩:=hh;obtain⟨⟨d,S1⟩,h1,hg⟩:=aA hg;cases hg;obtain⟨⟨d1,S2⟩,h3,h2⟩:=aA h1;cases h2;exact⟨S,F,.bl d1,_,R,lR h3,λv F1 H1 R1 st1 r1=>⟨d1,n8 r1,q _ F1 H1 R1 st1 (.bl _)⟩⟩⟩
noncomputable def Oe(q:GT)(g h:GE):GE:=λS=>(q S).bind λp=>if p.1 then g p.2 else h p.2
theorem gI.weak{F:Hp}{v:V}(t:∀b o,H0 b=some o->∃o',H1 b=some o'):∀{u:U},gI K B S O H1 F H v u->gI K B S O H0 F H v u
 |.t _,h=>h
 |.s _,h=>h
 |.f _,h=>h
 |.m _,⟨a,e,h0,h⟩=>⟨a,e,none_of t h0,h⟩
 |.v _,h=>h
 |.b _,h=>h
def Bp{g1 g2:GE}(hc:JT X c q1)(ha:JE X a g1)(hb:JE X b g2):JE X (.IfExp c a b pos) (Oe q1 g1 g2):=
 ⟨λB=>(K0 (hc.h B) (ha.h B) (hb.h B)).imp λO H Q hh=>by
 obtain⟨S,F,u,S',R,hg,q⟩:=hh;obtain⟨⟨d,S1⟩,h1,hg⟩:=aj hg;refine⟨S,F,d,S1,R,h1,λF1 H1 R1 st1=>?_⟩;cases d with
 |true=>exact Cn ⟨S1,F1,u,S',R1,hg,λv F2 H2 R2 st2 r2=>q v F2 H2 R2 (st1.trans st2) (r2.weak st1.ext.there)⟩
 |false=>exact Cm ⟨S1,F1,u,S',R1,hg,λv F2 H2 R2 st2 r2=>q v F2 H2 R2 (st1.trans st2) (r2.weak st1.ext.there)⟩⟩
end
def cV{α:Type}{c:Prop}{i:Decidable c}{x w:α}(h:(@ite _ c i (some x) none)=some w):c/\x=w:=by
 by_cases hc:c
 .rw[if_pos hc]at h;exact⟨hc,abT h⟩
 .rw[if_neg hc]at h;cases h
def cC{α:Type}{c:Prop}{i:Decidable c}{x:Option α}{w:α}(h:(@ite _ c i x none)=some w):c/\x=some w:=by
 by_cases hc:c
 .rw[if_pos hc]at h;exact⟨hc,h⟩
 .rw[if_neg hc]at h;cases h
def RL{F:Hp}{x:V}(r:bC F [x] ds):∃d,ds=[d]/\Rep F x d:=by
 cases r with
 |cons r rs=>cases rs;exact⟨_,rfl,r⟩
def Bq{F:Hp}{x:V}(r:bC F [x,y] ds):∃d e,ds=[d,e]/\Rep F x d/\Rep F y e:=by
 cases r with
 |cons r rs=>obtain⟨e,rfl,r2⟩:=RL rs;exact⟨_,e,rfl,r,r2⟩
noncomputable def xM(C:Int->Int->Bool)(h:Int->Int->D):List D->Option U
 |[.int i,.int j]=>if C i j then some (.t (h i j)) else none
 |_=>none
section
variable {X:Cx}
def pG{o:Value->Value->Sem Value}{C:Int->Int->Bool}{h:Int->Int->D}{r:R2}(hr:yg X o r)(k:∀i j H Q,C i j=true->Q (toV (h i j)) H->r (.int i) (.int j) H Q)(hf:∀i j,jD (h i j)=true):Bo X o (xM C h):=by
 intro pins s O H x y v u Q I rx ry ⟨F,ds,w,sb,rs,hw,q⟩;obtain⟨d,e,rfl,r1,r2⟩:=Bq rs;cases r1<;>cases r2<;>try (simp[xM]at hw;done)
 rename_i i j;obtain⟨hc,rfl⟩:=cV hw;exact hr pins s O H _ _ v u Q I rx ry (k i j H Q hc (q _ F H (jm.refl ..) sb (D4 (hf i j))))
abbrev yQ:=xM (λ_ _=>true) λi j=>.int (i-j)
abbrev FZ:=xM (λ_ _=>true) λi j=>.bl (decide (i<j))
abbrev Uo:=xM (λ_ _=>true) λi j=>.bl (decide (j<i))
abbrev fGe:=xM (λ_ _=>true) λi j=>.bl (decide (j<=i))
abbrev LI:=xM (λ_ j=>decide (0<j) && decide (j<1073741824)) λi j=>.int (i / j)
abbrev yR:=xM (λ_ j=>decide (0<j)) λi j=>.int (i % j)
abbrev Yw:=xM (λi j=>decide (0<=j) && (decide (j<=1000) && decide (i.natAbs<2 ^ 64))) λi j=>.int (i ^ j.toNat)
def jq:Bo X (binaryOp .Sub) yQ:=pG TH (λi j H Q _ q=>⟨i,j,rfl,rfl,q⟩) λ_ _=>rfl
def sQ:Bo X (compareOp .Lt) FZ:=pG XX (λi j H Q _ q=>⟨i,j,rfl,rfl,q⟩) λ_ _=>rfl
def F5:Bo X (compareOp .Gt) Uo:=pG XY (λi j H Q _ q=>⟨i,j,rfl,rfl,q⟩) λ_ _=>rfl
def Up:Bo X (compareOp .GtE) fGe:=pG XZ (λi j H Q _ q=>⟨i,j,rfl,rfl,q⟩) λ_ _=>rfl
def yi:Bo X (binaryOp .FloorDiv) LI:=pG OH (λi j H Q c q=>⟨i,j,rfl,rfl,by simpa[XT] using c,q⟩) λ_ _=>rfl
def jr:Bo X (binaryOp .Mod) yR:=pG TM (λi j H Q c q=>⟨i,j,rfl,rfl,by simpa using c,q⟩) λ_ _=>rfl
def O8:Bo X (binaryOp .Pow) Yw:=pG TN (λi j H Q c q=>⟨i,j,rfl,rfl,by
 simp only[abS,ab5]at c;exact⟨c.1,Int.le_trans c.2.1 b_,c.2.2⟩,q⟩) λ_ _=>rfl
def Sub.mZ{F:Hp}{v:V}(s:Sub F H)(r:Rep F v (.tup ds)):∃a vs,v= .ref a/\F a=some (.tup vs)/\Rd H a (.tup vs)/\bC F vs ds:=by
 cases r with
 |tup e rs=>exact⟨_,_,rfl,e,Rd.of (s _ _ e),rs⟩
def Sub.gO{F:Hp}{v:V}(s:Sub F H)(r:Rep F v (.lst ds)):∃a vs,v= .ref a/\Rd F a (.lst vs)/\Rd H a (.lst vs)/\bC F vs ds:=by
 cases r with
 |lst e rs=>exact⟨_,_,rfl,e,e.imp (s _ _) λ⟨o,h⟩=>⟨o,s _ _ h⟩,rs⟩
def _root_.L2.Rd.FO{pins:AAG}{s:Shared}(I:Inv X pins O H s){l:Addr}(h:Rd H l (.lst xs)):
  xs.length<=sizeLine/\∃its n,Vals xs its/\xs.length=its.length/\s.heap.get? l=some {cls:=.type "list",data:=.seq its.toArray n}:=by
 obtain⟨z,its,n,r,e⟩:=(h.ok I.hok:eu X.prog X.w H s.heap l (.lst xs))
 exact⟨z,its,n,r,r.length,e⟩
noncomputable def gU:List D->Option U
 |[.int i,.int j]=>some (.t (.int (i+j)))
 |[.tup i,.tup j]=>if i.length+j.length<=100000 then some (.t (.tup (i++j))) else none
 |[.lst i,.lst j]=>if i.length+j.length<=100000 then some (.m (.lst (i++j))) else none
 |_=>none
def dj:Bo X (binaryOp .Add) gU:=by
 intro pins s O H x y v u Q I rx ry ⟨F,ds,w,sb,rs,hw,q⟩;obtain⟨d,e,rfl,r1,r2⟩:=Bq rs;cases d<;>cases e<;>try (cases hw;done)
 .rename_i i j;cases hw;cases r1;cases r2;exact TF pins s O H _ _ v u Q I rx ry ⟨i,j,rfl,rfl,q _ F H (jm.refl ..) sb (.int _)⟩
 .rename_i i j;obtain⟨hl,rfl⟩:=cV hw;have rb2:=r2;have rb1:=r1;obtain⟨a,xs,rfl,fa,ha,rB⟩:=sb.mZ r1;obtain⟨b,ys,rfl,fb,hb,Jm⟩:=sb.mZ r2;by_cases hx:xs=[]
  .subst hx;cases rB;cases rx;cases ry;obtain⟨its,r1',p1,_⟩:=I.tuple (.inl ha);obtain⟨its2,r2',p2,_⟩:=I.tuple (.inl hb);cases r1';obtain⟨⟨cls,dd,data,sl⟩,ho,hc,n,hd⟩:=id p1;obtain⟨⟨acA,dd2,data2,sl2⟩,ho2,hc2,n2,hd2⟩:=id p2;simp only at hc hd hc2 hd2;subst hc hd hc2 hd2;exact concat_meets ⟨_,ho,rfl⟩ ⟨_,ho2,rfl⟩ agM seq_tuple_add af9 afY (afQ _ _)
    (tuple_addW0 a b _ _ n n2 dd dd2 sl sl2 (by simp)) ⟨ho,ho2,⟨.ref b,H,I,rfl,q _ F H (jm.refl ..) sb rb2⟩⟩
  .refine OX pins s O H (.ref a) (.ref b) v u Q I rx ry ⟨a,b,xs,ys,rfl,rfl,.inl ha,.inl hb,hx,?_,λhy=>?_,λhy p hp=>?_⟩
   .rw[rB.length,Jm.length];exact yh hl
   .subst hy;cases Jm;exact q _ F H (jm.refl ..) sb (by show Rep F (.ref a) (.tup (i++[]));rw[ad7];exact rb1)
   .exact q _ _ _ (jm.root sb hp _) (sb.Cp hp) (.tup aR ((rB.append Jm).le (iK (sb.fresh hp))))
 .rename_i i j;obtain⟨hl,rfl⟩:=cV hw;obtain⟨a,xs,rfl,fa,ha,rB⟩:=sb.gO r1;obtain⟨b,ys,rfl,fb,hb,Jm⟩:=sb.gO r2;cases rx;cases ry;obtain⟨z,its,n,r,hl1,e⟩:=Rd.FO I ha;obtain⟨z2,its2,n2,r2,hl2,e2⟩:=Rd.FO I hb;have hlen:xs.length+ys.length<=sizeLine:=by rw[rB.length,Jm.length];exact yh hl
  refine PySem.P.add_list e e2 ?_ (by rw[aaQ,aaQ];lia);have ea:its.toArray++its2.toArray=(its++its2).toArray:=by simp
  rw[ea];have hp:H c_=none:=I.fresh;refine⟨.ref _,_,I.acE (t':=s.toks) (r.append r2) (by rw[aaW];lia),rfl,?_⟩;exact q _ F _ (jm.obj hp _) (sb.same (jm.obj (F:=F) hp _).same) ⟨_,rfl,hp,sb.fresh hp,_,aR,rB.append Jm⟩
def yT:List D->Option U:=xM (λi j=>(decide (-(2 ^ 64)<i) && decide (i<2 ^ 64)) || (decide (-(2 ^ 64)<j) && decide (j<2 ^ 64))) λi j=>.int (i*j)
def ku:Bo X (binaryOp .Mult) yT:=pG TJ (λi j H Q c q=>⟨i,j,rfl,rfl,by
 simp only[Bool.or_eq_true,abS,ab5]at c;exact c,q⟩) λ_ _=>rfl
def Hr:List D->Option U
 |[.tup ds,.int i]=>(dZ ds i).map .t
 |[.lst ds,.int i]=>(dZ ds i).map .t
 |_=>none
def AL:Lr X (λx y H Q=>rP Hr [x,y] H Q):=by
 intro value slice pins s O H x y v u Q I rx ry ⟨F,ds,w,sb,rs,hw,q⟩ hsb;obtain⟨d,e,rfl,r1,r2⟩:=Bq rs;cases d<;>cases e<;>try (cases hw;done)
 .rename_i ds i;obtain⟨c,hc,hw⟩:=aA (show(dZ ds i).map U.t=some w from hw);subst hw;obtain⟨a,xs,rfl,fa,ha,rB⟩:=sb.mZ r1;cases r2;obtain⟨w',h1,h2⟩:=rB.dZ hc;exact Lu value slice pins s O H _ _ v u Q I rx ry ⟨a,xs,i,w',rfl,rfl,.inl ha,h1,q _ F H (jm.refl ..) sb h2⟩ hsb
 .rename_i ds i;obtain⟨c,hc,hw⟩:=aA (show(dZ ds i).map U.t=some w from hw);subst hw;obtain⟨a,xs,rfl,fa,ha,rB⟩:=sb.gO r1;cases r2;obtain⟨w',h1,h2⟩:=rB.dZ hc;exact Hi value slice pins s O H _ _ v u Q I rx ry ⟨a,xs,i,w',rfl,rfl,.inl ha,h1,q _ F H (jm.refl ..) sb h2⟩ hsb
noncomputable def LJ:List D->Option U
 |[.lst ds]=>some (.t (.int ds.length))
 |_=>none
def Jo:gY X (.builtin "len") (rP LJ):=by
 intro pins s O H xs us Q I r ⟨F,ds,w,sb,rs,hw,q⟩
 match xs,ds,rs with
 |[],[],_=>exact absurd hw (by simp[LJ])
 |[x],_,rs=>
  obtain⟨d,rfl,r1⟩:=RL rs;cases d<;>try (cases hw;done)
  .cases hw;obtain⟨a,xs,rfl,fa,ha,rB⟩:=sb.gO r1;exact nZ pins s O H _ us Q I r ⟨a,xs,rfl,.inl (.inl ha),by rw[rB.length];exact q _ F H (jm.refl ..) sb (.int _)⟩
 |_::_::_,[],rs=>cases rs
 |_::_::_,[_],rs=>cases rs with|cons _ rs=>cases rs
 |_::_::_,_::_::_,_=>exact absurd hw (by simp[LJ])
end
noncomputable def qk(i:Nat)(u:U)(S:SS):Option SS:=match S[i]? with
 |some (some (.b _))=>none
 |some _=>some (S.set i (some u))
 |none=>none
def vN(h:qk i u S=some S'):S'=S.set i (some u)/\i<S.length/\∀o,S[i]?≠some (some (.b o)):=by
 unfold qk at h;cases e:S[i]? with
 |none=>rw[e]at h;cases h
 |some w=>
  have hl:i<S.length:=(abv.mp e).1;rw[e]at h;cases w with
  |none=>cases h;exact⟨rfl,hl,λo z=>by cases z⟩
  |some w=>
   cases w with
   |b o=>cases h
   |t d=>cases h;exact⟨rfl,hl,λo z=>by cases z⟩
   |m d=>cases h;exact⟨rfl,hl,λo z=>by cases z⟩
   |v d=>cases h;exact⟨rfl,hl,λo z=>by cases z⟩
   |s d=>cases h;exact⟨rfl,hl,λo z=>by cases z⟩
   |f d=>cases h;exact⟨rfl,hl,λo z=>by cases z⟩
def RM(B:Base)(S:SS)(O:St)(F H:Hp)(v:V):U->Prop
 |.t d=>Rep F v d
 |.m o=>∃a,v= .ref a/\F a=none/\At F H a o/\¬cL S O a/\B.H a=none
 |_=>False
def Rel.put{F:Hp}{v:V}(R:Rel K B S O F H)(h:qk i u S=some S')(p:RM B S O F H v u):Rel K B S' (O.set i (some v)) F H:=by
 obtain⟨rfl,hl,nb⟩:=vN h;have hl':i<O.length:=by rw[<-R.len];exact hl
 have out:∀{j:Nat},i≠j->(O.set i (some v))[j]? =O[j]?:=λne=>abF ne;have vO:(O.set i (some v))[i]? =some (some v):=ace hl';have RN:∀j w a,i≠j->S[j]? =some (some w)->fj w=true->fj u=true->O[j]? =some (some (.ref a))->v≠.ref a:=λj w a ne hj hm hu hv z=>by
  cases u with
  |t d=>cases hu
  |v k=>cases hu
  |s k=>cases hu
  |f k=>cases hu
  |b o=>exact p
  |m o=>
   obtain⟨c,e,_,_,nm,_⟩:=p;rw[z]at e;cases e;exact nm ⟨j,w,hj,hm,hv⟩
 refine⟨R.sub,by rw[aeo,aeo];exact R.len,λj w hj=>?_,λj k w1 w2 a h1 m1 h2 m2 v1 v2=>?_,λj o a hj hv=>?_,λj o a hj hv=>?_,λj a hj=>?_,R.ext⟩
 .rcases get_set hj with⟨rfl,q,_⟩|⟨ne,q⟩
  .cases q;refine⟨v,vO,?_⟩;cases u with
   |t d=>exact p
   |m o=>obtain⟨a,e,f,h,_⟩:=p;exact⟨a,e,f,h⟩
   |b o=>cases p
   |v k=>cases p
   |s k=>cases p
   |f k=>cases p
  .rw[out ne];exact R.rep j w q
 .rcases get_set h1 with⟨rfl,q1,_⟩|⟨ne1,q1⟩
  .rcases get_set h2 with⟨rfl,q2,_⟩|⟨ne2,q2⟩
   .rfl
   .cases q1;rw[vO]at v1;rw[out ne2]at v2;cases v1;exact absurd rfl (RN k w2 a ne2 q2 m2 m1 v2)
  .rcases get_set h2 with⟨rfl,q2,_⟩|⟨ne2,q2⟩
   .cases q2;rw[vO]at v2;rw[out ne1]at v1;cases v2;exact absurd rfl (RN j w1 a ne1 q1 m1 m2 v1)
   .rw[out ne1]at v1;rw[out ne2]at v2;exact R.Hq j k w1 w2 a q1 m1 q2 m2 v1 v2
 .rcases get_set hj with⟨rfl,q,_⟩|⟨ne,q⟩
  .cases q;rw[vO]at hv;cases hv;obtain⟨c,e,_,_,_,hB⟩:=p;cases e;exact hB
  .rw[out ne]at hv;exact R.own j o a q hv
 .rcases get_set hj with⟨rfl,q,_⟩|⟨ne,q⟩
  .cases q;cases p
  .rw[out ne]at hv;exact R.bor j o a q hv
 .obtain⟨h1,o,h2⟩:=R.par j a hj;have ne:i≠j:=λz=>by subst z;exact nb o h2
  exact⟨by rw[out ne];exact h1,o,by rw[abF ne];exact h2⟩
noncomputable def dg:GS:=λS=>some (.nx S)
noncomputable def aP(a b:GS):GS:=λS=>(a S).bind λo=>match o with
 |.nx S1=>b S1
 |o=>some o
def cD(i:Nat)(g:GE):GS:=λS=>(g S).bind λp=>match p.1 with
 |.m o=>(qk i (.m o) p.2).map .nx
 |u=>(fz u p.2).bind λq=>(qk i (.t q.1) q.2).map .nx
noncomputable def kP(g:GE):GS:=λS=>(g S).map λp=>.nx p.2
noncomputable def bU(g:GE):GS:=λS=>(g S).bind λp=>match p.1 with
 |.v i=>match p.2[i]? with
  |some (some (.t d))=>some (.rt (.t d) p.2)
  |some (some (.m o))=>some (.rt (.m o) (p.2.set i none))
  |_=>none
 |.s _=>none
 |.f _=>none
 |u=>some (.rt u p.2)
noncomputable def ju(q:GT)(a b:GS):GS:=λS=>(q S).bind λp=>if p.1 then a p.2 else b p.2
theorem Bm.mono{F:Hp}{D:Ends}(g:∀b o,F b=some o->F1 b=some o):∀{o:Out},Bm K B F D o->Bm K B F1 D o
 |.nx _,h=>λO' F' H' R le=>h O' F' H' R λb o z=>le b o (g b o z)
 |.rt _ _,h=>λv O' F' H' R le=>h v O' F' H' R λb o z=>le b o (g b o z)
section
variable {X:Cx}{a b c e:Expr}{pos p:Pos}{x:Str}{st:Stmt}{rest b1 b2 body:BBH}{g:GE}{s1 s2:GS}{q1:GT}
def bM:JB X [] dg:=⟨λB=>OB.imp λD O H ⟨S,F,o,R,h,k⟩=>by cases h;exact k O F H R λ_ _ z=>z⟩
def Hs{D:Ends}(hh:tO K B (aP s1 s2) D O H):XH (tO K B s1) (tO K B s2) D O H:=by
 obtain⟨S,F,o,R,h,k⟩:=hh;obtain⟨o1,e1,h⟩:=aj h;refine⟨S,F,o1,R,e1,?_⟩;cases o1 with
 |nx S1=>exact λO' F' H' R' le=>⟨S1,F',o,R',h,k.mono le⟩
 |rt u S1=>cases h;exact k
def aH(h1:JS X st s1)(h2:JB X rest s2):JB X (st::rest) (aP s1 s2):=⟨λB=>(qb (h1.h B) (h2.h B)).imp λD O H=>Hs⟩
def aU(h1:JS X st s1):JB X [st] s1:=⟨λB=>nW (h1.h B)⟩
def gI.put{F:Hp}{v:V}{o:MO}(r:gI K B S O H0 F H v (.m o)):RM B S O F H v (.m o):=by
 obtain⟨a,e,_,f,h,n,hB⟩:=r;exact⟨a,e,f,h,n,hB⟩
def Cs{D:Ends}(h:tO K B (cD i g) D O H):OD (tE K B g) (DO i) D O H:=by
 obtain⟨S,F,o,R,h,k⟩:=h;obtain⟨⟨u,S1⟩,h1,h⟩:=aj h;refine⟨S,F,u,S1,R,h1,λv F1 H1 R1 st1 r1=>?_⟩;have go:(∀o',u≠.m o')->(fz u S1).bind (λq=>(qk i (.t q.1) q.2).map Out.nx)=some o->D.nx (O.set i (some v)) H1:=λ_ h=>by
  obtain⟨⟨d,S2⟩,h2,h⟩:=aj h;obtain⟨S3,h3,h⟩:=aA h;subst h;obtain⟨F2,R2,st2,r2⟩:=LD R1 st1 r1 h2;exact k _ F2 H1 (R2.put h3 r2) st2.ext.le
 cases u with
 |m o'=>
  obtain⟨S3,h3,h⟩:=aA (show(qk i (.m o') S1).map Out.nx=some o from h);subst h;exact k _ F1 H1 (R1.put h3 r1.put) st1.ext.le
 |t d=>exact go (λ_ z=>by cases z) h
 |b d=>exact go (λ_ z=>by cases z) h
 |s d=>exact go (λ_ z=>by cases z) h
 |f d=>exact go (λ_ z=>by cases z) h
 |v d=>exact go (λ_ z=>by cases z) h
def Uq{pos':Pos}(hN:X.N.Nodup)(hi:X.N[i]? =some x)(hx:Loc X.env.scope x)(he:JE X e g)(hs:swapsWith e (some (.Name x pos')) pos.line X.env=pure false:=by rfl)
  (hf:X.fn x=true\/X.env.scope.names.lookup x=some .local:=by trivial):JS X (.Assign [.Name x pos'] e pos) (cD i g):=
 ⟨λB=>(Fw hN hi hx (he.h B) hs hf).imp λD O H h=>Cs h⟩
def jw(he:JE X e g)(hs:swapsWith e none pos.line X.env=pure false:=by rfl):JS X (.Expr e pos) (kP g):=⟨λB=>(OC (he.h B) hs).imp λD O H hh=>by
 obtain⟨S,F,o,R,h,k⟩:=hh;obtain⟨⟨u,S1⟩,h1,h⟩:=aA h;subst h;exact⟨S,F,u,S1,R,h1,λv F1 H1 R1 st1 r1=>k O F1 H1 R1 st1.ext.le⟩⟩
def Rel.drop{F:Hp}{o:MO}(R:Rel K B S O F H)(h:S[i]? =some (some (.m o))):Rel K B (S.set i none) O F H:=by
 have back:∀{j w},(S.set i none)[j]? =some (some w)->i≠j/\S[j]? =some (some w):=λ{j w} z=>by
  rcases get_set z with⟨_,q,_⟩|q
  .cases q
  .exact q
 refine⟨R.sub,by rw[aeo];exact R.len,λj w z=>R.rep j w (back z).2,λj k w1 w2 a h1 m1 h2 m2=>R.Hq j k w1 w2 a (back h1).2 m1 (back h2).2 m2,λj o a z=>R.own j o a (back z).2,λj o a z=>R.bor j o a (back z).2,λj a z=>?_,R.ext⟩;obtain⟨k1,o',k2⟩:=R.par j a z;have ne:i≠j:=λz=>by subst z;rw[h]at k2;cases k2
 exact⟨k1,o',by rw[abF ne];exact k2⟩
def Ct{D:Ends}(hh:tO K B (bU g) D O H):tE K B g O H D.rt:=by
 obtain⟨S,F,o,R,h,k⟩:=hh;obtain⟨⟨u,S1⟩,h1,h⟩:=aj h;refine⟨S,F,u,S1,R,h1,λv F1 H1 R1 st1 r1=>?_⟩;cases u with
 |t d=>cases h;exact k v O F1 H1 R1 st1.ext.le r1
 |b d=>cases h;cases r1
 |s d=>cases h
 |f d=>cases h
 |m o'=>cases h;exact k v O F1 H1 R1 st1.ext.le (by obtain⟨a,e,h0,f,h,n,hB⟩:=r1;exact⟨a,e,hB,f,h,n,hB⟩)
 |v i=>
  obtain⟨hv,w,hw⟩:=r1;dsimp only at h;rw[hw]at h;obtain⟨v',z1,z2⟩:=R1.rep i w hw;rw[hv]at z1;cases z1;cases w with
  |t d=>cases h;exact k v O F1 H1 R1 st1.ext.le z2
  |b d=>cases h
  |v d=>cases h
  |s d=>cases h
  |f d=>cases h
  |m o'=>
   cases h;obtain⟨a,rfl,f,ha⟩:=z2;have hB:=R1.own i o' a hw hv;refine k _ O F1 H1 (R1.drop hw) st1.ext.le ⟨a,rfl,hB,f,ha,λhh=>?_,hB⟩;obtain⟨j,w,z,hm,hj⟩:=hh;rcases get_set z with⟨_,q,_⟩|⟨ne,q⟩
   .cases q
   .exact ne (R1.Hq i j _ w a hw rfl q hm hv hj)
def aY(he:JE X e g):JS X (.Return (some e) pos) (bU g):=⟨λB=>(Fv (he.h B)).imp λD O H=>Ct⟩
def LK{D:Ends}(hh:tO K B (ju q1 s1 s2) D O H):XJ (tQ K B q1) (tO K B s1) (tO K B s2) D O H:=by
 obtain⟨S,F,o,R,h,k⟩:=hh;obtain⟨⟨d,S1⟩,h1,h⟩:=aj h;refine⟨S,F,d,S1,R,h1,λF1 H1 R1 st1=>?_⟩;cases d with
 |true=>exact Cn ⟨S1,F1,o,R1,h,k.mono st1.ext.le⟩
 |false=>exact Cm ⟨S1,F1,o,R1,h,k.mono st1.ext.le⟩
def cE(hc:JT X c q1)(ha:JB X b1 s1)(hb:JB X b2 s2):JS X (.If c b1 b2 pos) (ju q1 s1 s2):=⟨λB=>(Rz (hc.h B) (ha.h B) (hb.h B)).imp λD O H=>LK⟩
abbrev GB:=D->SS->Option SS
inductive tBd(K:AAD)(B:Base)(bd:GB)(v:V)(O:St)(H:Hp)(Q:St->Hp->Prop):Prop
 |mk(S:SS)(F:Hp)(d:D)(S':SS)(R:Rel K B S O F H)(r:Rep F v d)(hg:bd d S=some S')(q:∀O',Rel K B S' O' F H->Q O' H)
structure JG(X:Cx)(tg:Expr)(bd:GB):Prop where
 h:∀B,PG X tg (tBd X.K B bd)
abbrev Of:=List D->SS->Option SS
inductive acQ(K:AAD)(B:Base)(bd:Of)(vs:List V)(O:St)(H:Hp)(Q:St->Hp->Prop):Prop
 |mk(S:SS)(F:Hp)(ds:List D)(S':SS)(R:Rel K B S O F H)(r:bC F vs ds)(hg:bd ds S=some S')(q:∀O',Rel K B S' O' F H->Q O' H)
structure JGs(X:Cx)(LL:BBC)(bd:Of):Prop where
 h:∀B,RB X LL (acQ X.K B bd)
def PG.imp{t t':TG}(h:PG X tg t)(k:∀v O H Q,t' v O H Q->t v O H Q):PG X tg t':=λpins s O H v u Q I r q=>h pins s O H v u Q I r (k v O H Q q)
def RB.imp{tg:BBC}{t t':RA}(h:RB X tg t)(k:∀v O H Q,t' v O H Q->t v O H Q):RB X tg t':=λpins s O H v u Q I r q=>h pins s O H v u Q I r (k v O H Q q)
def bName(i:Nat):GB:=λd S=>qk i (.t d) S
def O9(hN:X.N.Nodup)(hi:X.N[i]? =some x)(hx:Loc X.env.scope x)(hf:X.fn x=true\/X.env.scope.names.lookup x=some .local:=by trivial):JG X (.Name x pos) (bName i):=
 ⟨λB=>(yf hN hi hx hf).imp λv O H Q ⟨S,F,d,S',R,r,h,k⟩=>k _ (R.put h r)⟩
noncomputable def Jp:Of:=λds S=>match ds with
 |[]=>some S
 |_=>none
noncomputable def sr(b:GB)(bs:Of):Of:=λds S=>match ds with
 |d::r=>(b d S).bind λS1=>bs r S1
 |[]=>none
def Pa:JGs X [] Jp:=⟨λB=>G3.imp λvs O H Q hh=>by
 obtain⟨S,F,ds,S',R,r,h,k⟩:=hh;cases r with
 |nil=>cases h;exact⟨rfl,k O R⟩
 |cons _ _=>cases h⟩
def D5{bd:GB}{Yx:Of}(h1:JG X tg bd)(h2:JGs X LL Yx)(hs:(assignEach (tg::LL) X.env).map (·.2)=assign tg X.env::(assignEach LL X.env).map (·.2):=by rfl):JGs X (tg::LL) (sr bd Yx):=
 ⟨λB=>(yG (h1.h B) (h2.h B) hs).imp λvs O H Q hh=>by
 obtain⟨S,F,ds,S',R,r,h,k⟩:=hh;cases r with
 |nil=>cases h
 |cons r rs=>
  obtain⟨S1,e1,h⟩:=aj h;exact⟨_,_,rfl,S,F,_,S1,R,r,e1,λO1 R1=>⟨S1,F,_,S',R1,rs,h,k⟩⟩⟩
noncomputable def F6(n:Nat)(bs:Of):GB:=λd S=>match d with
 |.tup ds=>if ds.length=n then bs ds S else none
 |_=>none
def Ur{k0:Nat}{Yx:Of}(hc:X.calm=true)(h:JGs X LL Yx)(hn:(assignEach LL X.env).length=n:=by rfl)(hst:(assignEach LL X.env).findIdx? (·.1)=none:=by rfl):JG X (.Tuple LL k0 pos) (F6 n Yx):=
 ⟨λB=>(K3 hc (h.h B) hn hst).imp λv O H Q hh=>by
 obtain⟨S,F,d,S',R,r,h,k⟩:=hh;cases d<;>try (cases h)
 rename_i ds;unfold F6 at h;dsimp only at h;split at h
 .rename_i hl;obtain⟨a,vs,rfl,fa,ha,rs⟩:=R.sub.mZ r;exact⟨a,vs,rfl,.inl ha,by rw[rs.length];exact hl,S,F,ds,S',R,rs,h,k⟩
 .cases h⟩
def Walk(J:It)(F:Hp)(ds:List D):Prop:=∀F' H',(∀b o,F b=some o->F' b=some o)->Sub F' H'->∀i,(∀d,ds[i]? =some d->J.go i H'/\∀x H2,J.To i H' x H2->H2=H'/\Rep F' x d)/\(ds.length<=i->J.stop i H')
abbrev GI:=SS->Option (List D×SS)
inductive tIt(K:AAD)(B:Base)(gi:GI)(O:St)(H:Hp)(Q:It->Hp->Prop):Prop
 |mk(S:SS)(F:Hp)(ds:List D)(S':SS)(R:Rel K B S O F H)(hg:gi S=some (ds,S'))(q:∀J F' H',Rel K B S' O F' H'->Step S S' O F H F' H'->Walk J F' ds->Q J H')
structure JI(X:Cx)(tg e:Expr)(gi:GI):Prop where
 h:∀B,PI X tg e (tIt X.K B gi)
def PI.orelse{wi:TI}(h:∀O H R,wi O H R->∃wi',PI X tg e wi'/\wi' O H R):PI X tg e wi:=λpins s O H R I q=>let⟨_,h1,h2⟩:=h O H R q;h1 pins s O H R I h2
noncomputable def LM(g:GD):GI:=λS=>(g S).bind λp=>match p.1 with
 |.tup ds=>some (ds,p.2)
 |.lst ds=>some (ds,p.2)
 |_=>none
noncomputable def iF(g:GD):GI:=λS=>(g S).bind λp=>match p.1 with
 |.tup ds=>some (ds,p.2)
 |.lst ds=>some (ds,p.2)
 |_=>none
def Br{F:Hp}{a:Addr}(fa:Rd F a (.lst vs))(rs:bC F vs ds):Walk (Itl K a) F ds:=λF' H' le sb i=>by
 have ha:mX K H' a vs:=.inl (fa.imp (λz=>sb a _ (le _ _ z)) λ⟨o,z⟩=>⟨o,sb a _ (le _ _ z)⟩);refine⟨λd hd=>?_,λhl=>⟨vs,ha,by rw[rs.length];exact hl⟩⟩;obtain⟨v,h1,h2⟩:=rs.get hd;refine⟨⟨vs,v,ha,h1⟩,λx H2 y=>⟨y.1,?_⟩⟩;have:=y.2 vs ha;rw[h1]at this;cases this;exact h2.le le
def D6{F:Hp}{a:Addr}(fa:F a=some (.tup vs))(rs:bC F vs ds):Walk (Itt K a) F ds:=λF' H' le sb i=>by
 have ha:A6 K H' a vs:=.inl (Rd.of (sb a _ (le _ _ fa)));refine⟨λd hd=>?_,λhl=>⟨vs,ha,by rw[rs.length];exact hl⟩⟩;obtain⟨v,h1,h2⟩:=rs.get hd;refine⟨⟨vs,v,ha,h1⟩,λx H2 y=>⟨y.1,?_⟩⟩;have:=y.2 vs ha;rw[h1]at this;cases this;exact h2.le le
def F7{gd:GD}(h:JD X e gd):JI X tg e (LM gd):=⟨λB=>PI.orelse λO H R0 hh=>by
 obtain⟨S,F,ds,S',R,hg,k⟩:=hh;obtain⟨⟨d,S1⟩,h1,hg⟩:=aj hg;cases d<;>try (cases hg)
 .refine⟨_,K7 (h.h B),S,F,_,_,R,h1,λv F1 H1 R1 st1 r1=>?_⟩;obtain⟨a,vs,rfl,fa,ha,rs⟩:=R1.sub.mZ r1;exact⟨a,rfl,⟨vs,.inl ha⟩,k _ F1 H1 R1 st1 (D6 fa rs)⟩
 .refine⟨_,B8 (h.h B),S,F,_,_,R,h1,λv F1 H1 R1 st1 r1=>?_⟩;obtain⟨a,vs,rfl,fa,ha,rs⟩:=R1.sub.gO r1;exact⟨a,rfl,⟨vs,.inl ha⟩,k _ F1 H1 R1 st1 (Br fa rs)⟩⟩
def dw{gd:GD}(h:JD X e gd):JI X (.Name x pos) e (iF gd):=⟨λB=>PI.orelse λO H R0 hh=>by
 obtain⟨S,F,ds,S',R,hg,k⟩:=hh;obtain⟨⟨d,S1⟩,h1,hg⟩:=aj hg;cases d<;>try (cases hg)
 .refine⟨_,K7 (h.h B),S,F,_,_,R,h1,λv F1 H1 R1 st1 r1=>?_⟩;obtain⟨a,vs,rfl,fa,ha,rs⟩:=R1.sub.mZ r1;exact⟨a,rfl,⟨vs,.inl ha⟩,k _ F1 H1 R1 st1 (D6 fa rs)⟩
 .refine⟨_,B8 (h.h B),S,F,_,_,R,h1,λv F1 H1 R1 st1 r1=>?_⟩;obtain⟨a,vs,rfl,fa,ha,rs⟩:=R1.sub.gO r1;exact⟨a,rfl,⟨vs,.inl ha⟩,k _ F1 H1 R1 st1 (Br fa rs)⟩⟩
noncomputable def pH(lo:Int)(n:Nat):List D:=(List.range n).map λ(k:Nat)=>D.int (lo+(k:Int))
def ql(gA:GA):GI:=λS=>(gA S).bind λp=>match p.1 with
 |[.int j]=>if j<1000000/\-1000000<j then some (pH 0 j.toNat,p.2) else none
 |_=>none
def xg(gA:GA):GI:=λS=>(gA S).bind λp=>match p.1 with
 |[.int i,.int j]=>if i<1000000/\-1000000<i/\j<1000000/\-1000000<j then some (pH i (j-i).toNat,p.2) else none
 |_=>none
def D7{F:Hp}{lo:Int}:Walk (XO lo n) F (pH lo n):=λF' H' le sb i=>by
 refine⟨λd hd=>?_,λhl=>(show n<=i by simpa[pH] using hl)⟩;unfold pH at hd;rw[abI]at hd;obtain⟨c,hc,rfl⟩:=aA hd;obtain⟨hl,e⟩:=abv.mp hc;rw[List.getElem_range]at e;subst e;refine⟨show i<n by simpa using hl,λx H2 y=>⟨y.1,?_⟩⟩;rw[y.2];exact .int _
def rC{gA:GA}(hg:Gl X "range")(hm:X.mg "range" =none)(ha:JA X [a] gA)(hs:starEach [a] X.env=[(false,eval a X.env)]:=by rfl):JI X tg (.Call (.Name "range" p) [a] [] pos) (ql gA):=
 ⟨λB=>PI.orelse λO H R0 hh=>by
 obtain⟨S,F,ds,S',R,hg',k⟩:=hh;obtain⟨⟨d,S1⟩,h1,hg'⟩:=aj hg';refine⟨_,IY hg hm (ha.h B) hs,S,F,d,S1,R,h1,λvs F1 H1 R1 st1 r1=>?_⟩;dsimp only at hg';split at hg'
 .split at hg'
  .rename_i j hj;cases hg';cases r1 with
   |cons r rs=>
    cases rs;exact⟨j,by rw[jo r],by lia,by lia,k _ F1 H1 R1 st1 D7⟩
  .cases hg'
 .cases hg'⟩
def rD{gA:GA}(hg:Gl X "range")(hm:X.mg "range" =none)(ha:JA X [a,b] gA)(hs:starEach [a,b] X.env=[(false,eval a X.env),(false,eval b X.env)]:=by rfl)(hs2:starEach [b] X.env=[(false,eval b X.env)]:=by rfl):
  JI X tg (.Call (.Name "range" p) [a,b] [] pos) (xg gA):=
 ⟨λB=>PI.orelse λO H R0 hh=>by
 obtain⟨S,F,ds,S',R,hg',k⟩:=hh;obtain⟨⟨d,S1⟩,h1,hg'⟩:=aj hg';refine⟨_,IZ hg hm (ha.h B) hs hs2,S,F,d,S1,R,h1,λvs F1 H1 R1 st1 r1=>?_⟩;dsimp only at hg';split at hg'
 .split at hg'
  .rename_i i j hj;cases hg';cases r1 with
   |cons r rs=>
    cases rs with
    |cons r2 rs=>
     cases rs;exact⟨i,j,by rw[jo r,jo r2],⟨by lia,by lia,by lia,by lia⟩,k _ F1 H1 R1 st1 D7⟩
  .cases hg'
 .cases hg'⟩
noncomputable def loop(bd:GB)(body:GS):List D->SS->Option Out
 |[],S=>some (.nx S)
 |d::ds,S=>(bd d S).bind λS1=>(body S1).bind λo=>match o with
  |.nx S2=>loop bd body ds S2
  |.rt u S2=>some (.rt u S2)
def kQ(bd:GB)(gi:GI)(body:GS):GS:=λS=>(gi S).bind λp=>loop bd body p.1 p.2
def gJ{bd:GB}(hp:PassesOwn d_ X.A X.env X.xe)(hc:X.calm=true)(hi:JI X tg iter gi)(hg:JG X tg bd)(hb:JB X body s1)(hs:∀x,foldedSetIterable iter X.env x=pure x:=by intro _;rfl):
  JS X (.For tg iter body [] pos) (kQ bd gi s1):=⟨λB=>(Tp hp hc (hi.h B) (hg.h B) (hb.h B) hs).imp λD O H hh=>by
 obtain⟨S,F,o,R,h,k⟩:=hh;obtain⟨⟨ds,S1⟩,h1,h⟩:=aj h;refine⟨S,F,ds,S1,R,h1,λJ F1 H1 R1 st1 w=>?_⟩;refine⟨λi m O' H'=>∃S' F',Rel X.K B S' O' F' H'/\(∀b o,F1 b=some o->F' b=some o)/\i<=ds.length/\m=ds.length-i/\loop bd s1 (ds.drop i) S'=some o,⟨_,S1,F1,R1,λ_ _ z=>z,abK _,rfl,h⟩,?_⟩;rintro i m O' H' ⟨S',F',R',le,hl,rfl,eO⟩;have w':=w F' H' le R'.sub i;by_cases hlt:i<ds.length
 .have hd:ds[i]? =some ds[i]:=aaS hlt;obtain⟨go,yl⟩:=w'.1 _ hd;rw[acs hlt]at eO;obtain⟨S2,e2,eO⟩:=aj eO;obtain⟨o2,e3,eO⟩:=aj eO;refine .inr ⟨go,_,λO2 H2 n=>⟨ds.length-(i+1),by lia,n⟩,λx H2 y=>?_⟩;obtain⟨rfl,rx⟩:=yl x H2 y;refine⟨S',F',_,S2,R',rx,e2,λO3 R3=>⟨S2,F',o2,R3,e3,?_⟩⟩;cases o2 with
  |nx S3=>exact λYy F4 H4 R4 Us=>⟨S3,F4,R4,λb o z=>Us b o (le b o z),hlt,rfl,eO⟩
  |rt u S3=>cases eO;exact λv Yy F4 H4 R4 Us=>k v Yy F4 H4 R4 λb o z=>Us b o (le b o (st1.ext.le b o z))
 .have e:i=ds.length:=by lia
  subst e;rw[age]at eO;cases eO;exact .inl ⟨w'.2 (aaP _),k O' F' H' R' λb o z=>le b o (st1.ext.le b o z)⟩⟩
noncomputable def uG(q:GT)(body:GS):Nat->SS->Option Out
 |0,_=>none
 |n+1,S=>(q S).bind λp=>if p.1 then(body p.2).bind λo=>match o with
  |.nx S2=>uG q body n S2
  |.rt u S2=>some (.rt u S2)
 else some (.nx p.2)
def F8(fuel:Nat)(q:GT)(body:GS):GS:=λS=>uG q body fuel S
def LN{fuel:Nat}(hp:PassesOwn d_ X.A X.env X.xe)(hc:JT X c q1)(hb:JB X body s1):JS X (.While c body [] pos) (F8 fuel q1 s1):=⟨λB=>(K4 hp (hc.h B) (hb.h B)).imp λD O H hh=>by
 obtain⟨S,F,o,R,h,k⟩:=hh;refine⟨λm O' H'=>∃S' F',Rel X.K B S' O' F' H'/\(∀b o,F b=some o->F' b=some o)/\uG q1 s1 m S'=some o,⟨fuel,S,F,R,λ_ _ z=>z,h⟩,?_⟩;rintro m O' H' ⟨S',F',R',le,h⟩;cases m with
 |zero=>cases h
 |succ m=>
  obtain⟨⟨d,S1⟩,h1,h⟩:=aj h;refine⟨S',F',d,S1,R',h1,λF1 H1 R1 st1=>?_⟩;cases d with
  |false=>
   cases h;exact Cm (k O' F1 H1 R1 λb o z=>st1.ext.le b o (le b o z))
  |true=>
   obtain⟨o2,e3,h⟩:=aj (show(s1 S1).bind _=some o from h);refine Cn ⟨_,λO2 H2 n=>⟨m,ae1 m,n⟩,S1,F1,o2,R1,e3,?_⟩;have le1:∀b o,F b=some o->F1 b=some o:=λb o z=>st1.ext.le b o (le b o z);cases o2 with
   |nx S3=>exact λYy F4 H4 R4 Us=>⟨S3,F4,R4,λb o z=>Us b o (le1 b o z),h⟩
   |rt u S3=>cases h;exact λv Yy F4 H4 R4 Us=>k v Yy F4 H4 R4 λb o z=>Us b o (le1 b o z)⟩
end
noncomputable def WM:U->MO->Option U
 |.m _,o=>some (.m o)
 |.b _,o=>some (.b o)
 |_,_=>none
noncomputable def RO:U->Option MO
 |.m o=>some o
 |.b o=>some o
 |_=>none
noncomputable def vP(S:SS)(i:Nat)(f:MO->Option (D×MO)):Option (D×SS):=match S[i]? with
 |some (some (.m o))=>(f o).map λr=>(r.1,S.set i (some (.m r.2)))
 |some (some (.b o))=>(f o).map λr=>(r.1,S.set i (some (.b r.2)))
 |_=>none
def At.Yz{F:Hp}{o:MO}{ob:Obj}{u:HO}(h:At F H a o):H a≠some (.fy ob u):=λz=>by
 cases o with
 |lst ds=>obtain⟨vs,e,_⟩:=h;rw[z]at e;cases e
 |dct ds=>obtain⟨vs,e,_⟩:=h;rw[z]at e;cases e
 |lat c ds=>obtain⟨vs,⟨_,e⟩,_⟩:=h;rw[z]at e;cases e
 |gF c ds=>obtain⟨vs,⟨_,e⟩,_⟩:=h;rw[z]at e;cases e
 |Fi C ds=>obtain⟨vs,⟨dx,e⟩,_⟩:=h;rw[z]at e;cases e
def AK.cL{F:Hp}{v:V}(r:AK K F H v u)(hm:fj u=true):∃a o,v= .ref a/\F a=none/\RO u=some o/\At F H a o:=by
 cases u with
 |t d=>cases hm
 |v d=>cases hm
 |s d=>cases hm
 |f d=>cases hm
 |m o=>obtain⟨a,e,f,h⟩:=r;exact⟨a,o,e,f,rfl,h⟩
 |b o=>obtain⟨a,e,f,h⟩:=r;exact⟨a,o,e,f,rfl,h⟩
def Rel.write{F:Hp}{u':U}{ho:HO}{o:MO}(R:Rel K B S O F H)(hS:S[i]? =some (some u))(hu:WM u o=some u')(hv:O[i]? =some (some (.ref a)))(ha:At F (upd H a ho) a o):
  Rel K B (S.set i (some u')) O F (upd H a ho)/\Step S (S.set i (some u')) O F H F (upd H a ho):=by
 have hm:fj u=true/\fj u'=true:=by cases u<;>cases hu<;>exact⟨rfl,rfl⟩
 have YA:F a=none/\∀b ob w,H b=some (.fy ob w)->b≠a:=by
  obtain⟨v,h1,h2⟩:=R.rep i u hS;rw[hv]at h1;cases h1;obtain⟨b,_,e,f,_,k⟩:=h2.cL hm.1;cases e;exact⟨f,λb ob w z e=>k.Yz (by rw[e]at z;exact z)⟩
 have Ut:=YA.1;have WN:∀b ob w,H b=some (.fy ob w)->upd H a ho b=some (.fy ob w):=λb ob w z=>by rw[aO (YA.2 b ob w z)];exact z
 have mAt:L2.cL S O a:=⟨i,u,hS,hm.1,hv⟩
 have hl:i<S.length:=(abv.mp hS).1;have kb:∀{j w},(S.set i (some u'))[j]? =some (some w)->(i=j/\u'=w)\/(i≠j/\S[j]? =some (some w)):=λ{j w} z=>by
  rcases get_set z with⟨e,q,_⟩|q
  .exact .inl ⟨e,abT q⟩
  .exact .inr q
 have orig:∀{j w},(S.set i (some u'))[j]? =some (some w)->fj w=true->∃w0,S[j]? =some (some w0)/\fj w0=true:=λ{j w} z hw=>by
  rcases kb z with⟨rfl,rfl⟩|⟨_,q⟩
  .exact⟨u,hS,hm.1⟩
  .exact⟨w,q,hw⟩
 have keepR:∀b o,b≠a->Rd H b o->Rd (upd H a ho) b o:=λb o ne r=>by
  rcases r with r|⟨ob,r⟩
  .exact .inl (by rw[aO ne];exact r)
  .exact .inr ⟨ob,by rw[aO ne];exact r⟩
 refine⟨⟨λb o z=>by rw[aO (λe=>by rw[e,Ut]at z;cases z)];exact R.sub b o z,by rw[aeo];exact R.len,λj w z=>?_,λj k w1 w2 c z1 m1 z2 m2=>?_,λj o' c z hc=>?_,λj o' c z hc=>?_,λj c z=>?_,?_⟩,⟨?_,λc ⟨j,w,z,hw,hc⟩=>?_,λj w z=>?_⟩⟩
 .rcases kb z with⟨rfl,rfl⟩|⟨ne,q⟩
  .refine⟨.ref a,hv,?_⟩;cases u<;>cases hu
   .exact⟨a,rfl,Ut,ha⟩
   .exact⟨a,rfl,Ut,ha⟩
  .obtain⟨v,h1,h2⟩:=R.rep j w q;refine⟨v,h1,?_⟩;by_cases hw:fj w=true
   .obtain⟨c,o',rfl,f,e,h⟩:=h2.cL hw;have hca:c≠a:=λz=>ne (R.Hq i j u w a hS hm.1 q hw hv (by rw[h1,z]));have h':At F (upd H a ho) c o':=h.le (λ_ _ z=>z) λo z=>by rw[aO hca];exact z
    cases w<;>cases hw<;>cases e
    .exact⟨c,rfl,f,h'⟩
    .exact⟨c,rfl,f,h'⟩
   .cases w with
    |t d=>exact h2
    |v d=>exact h2
    |s d=>obtain⟨c,e,h⟩:=h2;exact⟨c,e,h.le WN⟩
    |f d=>exact h2
    |m o=>exact absurd rfl hw
    |b o=>exact absurd rfl hw
 .obtain⟨w1',q1,n1⟩:=orig z1 m1;obtain⟨w2',q2,n2⟩:=orig z2 m2;exact R.Hq j k w1' w2' c q1 n1 q2 n2
 .rcases kb z with⟨rfl,rfl⟩|⟨_,q⟩
  .cases u<;>cases hu
   exact R.own _ _ c hS hc
  .exact R.own j o' c q hc
 .rcases kb z with⟨rfl,rfl⟩|⟨_,q⟩
  .cases u<;>cases hu
   exact R.bor _ _ c hS hc
  .exact R.bor j o' c q hc
 .obtain⟨k1,o',k2⟩:=R.par j c z;refine⟨k1,?_⟩;by_cases e:i=j
  .subst e;rw[hS]at k2;cases k2;cases hu;exact⟨o,ace hl⟩
  .exact⟨o',by rw[abF e];exact k2⟩
 .refine⟨R.ext.le,λb o z n=>?_,R.ext.kj,λb o z=>?_,λb o w z=>WN b o w (R.ext.fy b o w z)⟩
  .have hb:b≠a:=λe=>by
    subst e;cases u with
    |m o'=>rw[R.own i o' b hS hv]at z;cases z
    |b o'=>exact n (R.bor i o' b hS hv)
    |t d=>cases hu
    |v d=>cases hu
    |s d=>cases hu
    |f d=>cases hu
   rw[aO hb];exact R.ext.keep b o z n
  .by_cases hb:b=a
   .exact⟨ho,by rw[hb,aR]⟩
   .rw[aO hb];exact R.ext.there b o z
 .refine⟨λ_ _ z=>z,λb o z n=>?_,λ_ _ _ _ z=>z,λb o z=>?_,WN⟩
  .rw[aO (λe=>n (by rw[e];exact mAt))];exact z
  .by_cases hb:b=a
   .exact⟨ho,by rw[hb,aR]⟩
   .exact⟨o,by rw[aO hb];exact z⟩
 .obtain⟨w0,q,n⟩:=orig z hw;exact⟨j,w0,q,n,hc⟩
 .by_cases e:i=j
  .subst e;exact⟨u',ace hl⟩
  .exact⟨w,by rw[abF e];exact z⟩
def m5{f:MO->Option (D×MO)}{d:D}(h:vP S i f=some (d,S')):∃u u' o o',S[i]? =some (some u)/\fj u=true/\RO u=some o/\f o=some (d,o')/\WM u o'=some u'/\S'=S.set i (some u'):=by
 unfold vP at h;split at h
 .rename_i o e;obtain⟨⟨d',o'⟩,h1,h⟩:=aA h;cases h;exact⟨_,_,o,o',e,rfl,rfl,h1,rfl,rfl⟩
 .rename_i o e;obtain⟨⟨d',o'⟩,h1,h⟩:=aA h;cases h;exact⟨_,_,o,o',e,rfl,rfl,h1,rfl,rfl⟩
 .cases h
def MtP(r:V->List V->Hp->VK->Prop)(h:List D->MO->Option (D×MO)):Prop:=
 ∀F H a vs xs ds args res o',Sub F H->H a=some (.lst vs)->F a=none->bC F vs ds->bC F xs args->h args (.lst ds)=some (res,o')->
  ∀Q:VK,(∀rv ho,Rep F rv res->At F (upd H a ho) a o'->Q rv (upd H a ho))->r (.ref a) xs H Q
noncomputable def xh:MO->Bool
 |.lst _=>true
 |_=>false
noncomputable def YB(S:SS)(i:Nat):Bool:=match S[i]? with
 |some (some (.m (.lst _)))=>true
 |some (some (.b (.lst _)))=>true
 |_=>false
def Uu{F:Hp}(R:Rel K B S O F H)(h:YB S i=true):∃u a vs ds,S[i]? =some (some u)/\fj u=true/\RO u=some (.lst ds)/\O[i]? =some (some (.ref a))/\F a=none/\H a=some (.lst vs)/\bC F vs ds:=by
 unfold YB at h;split at h
 .rename_i ds e;obtain⟨v,k1,a,rfl,f,vs,k2,k3⟩:=R.rep i _ e;exact⟨_,a,vs,ds,e,rfl,rfl,k1,f,k2,k3⟩
 .rename_i ds e;obtain⟨v,k1,a,rfl,f,vs,k2,k3⟩:=R.rep i _ e;exact⟨_,a,vs,ds,e,rfl,rfl,k1,f,k2,k3⟩
 .cases h
def eM(i:Nat)(h:List D->MO->Option (D×MO))(gA:GA):GD:=λS=>if YB S i then(gA S).bind λp=>vP p.2 i (h p.1) else none
def LO{F:Hp}(R:Rel K B S O F H)(hS:S[i]? =some (some u))(hm:fj u=true)(hi:RO u=some (.lst ds))(hv:O[i]? =some (some (.ref a))):F a=none/\∃vs,H a=some (.lst vs)/\bC F vs ds:=by
 obtain⟨v,k1,k2⟩:=R.rep i u hS;rw[hv]at k1;cases k1;obtain⟨b,o2,e1,f,e2,k⟩:=k2.cL hm;cases e1;rw[hi]at e2;cases e2;exact⟨f,k⟩
section
variable {X:Cx}{a e:Expr}{es:BBC}{apos cpos px:Pos}{x name:Str}{gA:GA}{id:String}
def kB{r:V->List V->Hp->VK->Prop}{h:List D->MO->Option (D×MO)}(slot:Slot "list" name id)(hty:typeOf (.builtin id)=pure (.type "method_descriptor"))(hm:MtR X id r)(hh:MtP r h)(hl:∀args o,xh o=false->h args o=none)(ha:JA X (e::es) gA)
  (hN:X.N[i]? =some x:=by rfl)(hv:pF X.env.scope x:=by trivial)
  (hbase:attributeBase e_ name X.env (eval e_ X.env)=eval e_ X.env:=by rfl)
  (hfew:((backTo cpos (starEach (e::es) X.env)).all (λx=>!x.1) && (backToKw cpos (keywordEach [] X.env)).all (λx=>x.1.isSome)
   && decide ((e::es).length+([]:BBI).length+(if([]:BBI).isEmpty then 0 else 1)<30))=true:=by rfl)
  (hline:(apos.endLine == cpos.line)=true:=by rfl)(hs:starEach (e::es) X.env=(false,eval e X.env)::starEach es X.env:=by rfl)(hplain:(backTo cpos (starEach es X.env)).any (·.1)=false:=by rfl)
  (hd:BBT x:=by decide)(hcd:BBU x:=by decide):
  JD X (.Call (.Attribute e_ name apos) (e::es) [] cpos) (eM i h gA):=
 ⟨λB=>(RG agY slot hty hm (cA hN hv hd hcd) (ha.h B) hbase hfew hline hs hplain).imp λO H Q hh=>by
 obtain⟨S,F,d,S',R,hg,q⟩:=hh;unfold eM at hg;split at hg
 .rename_i hL;obtain⟨⟨args,S1⟩,h1,hg⟩:=aj hg;obtain⟨u,u',o,o',hS,LP,hio,hf,Og,rfl⟩:=m5 hg;obtain⟨u0,a,vs0,ds0,_,_,_,hv0,_,hH,_⟩:=Uu R hL;cases o with
  |dct kvs=>rw[hl _ _ rfl]at hf;cases hf
  |lat _ _=>rw[hl _ _ rfl]at hf;cases hf
  |gF _ _=>rw[hl _ _ rfl]at hf;cases hf
  |Fi _ _=>rw[hl _ _ rfl]at hf;cases hf
  |lst ds=>
   refine⟨.ref a,hv0,⟨rfl,vs0,mX.of hH⟩,S,F,args,S1,R,h1,λxs F1 H1 R1 st1 r1=>?_⟩;obtain⟨hf1,vs,hH1,rs⟩:=LO R1 hS LP hio hv0;refine hh F1 H1 a vs xs ds args d o' R1.sub hH1 hf1 rs r1 hf Q λrv ho rr ha=>?_;obtain⟨R2,st2⟩:=R1.write hS Og hv0 ha;exact q rv F1 _ R2 (st1.trans st2) rr
 .cases hg⟩
noncomputable def hAppend:List D->MO->Option (D×MO)
 |[d],.lst ds=>if ds.length<100000 then some (.cI,.lst (ds++[d])) else none
 |_,_=>none
def iM:MtP Hl hAppend:=by
 intro F H a vs xs ds args res o' sb hH fa rs rx hw Q q;unfold hAppend at hw;split at hw
 .rename_i d ds' e2;cases e2;split at hw
  .rename_i hl;cases hw;cases rx with
   |cons r rr=>
    cases rr;exact⟨a,vs,_,rfl,rfl,hH,by rw[rs.length];exact aaU hl b_,q .cI _ .cI ⟨_,aR,rs.append (.cons r .nil)⟩⟩
  .cases hw
 .cases hw
end
def gI.step{F:Hp}{v:V}(r:gI K B S O H0 F H v u)(st:Step S S' O F H F' H'):gI K B S' O H0 F' H' v u:=by
 cases u with
 |t d=>exact r.le st.ext.le
 |b o=>exact r
 |v i=>obtain⟨h1,u,h2⟩:=r;exact⟨h1,st.slots i u h2⟩
 |s i=>obtain⟨a,e,h⟩:=r;exact⟨a,e,h.le st.ext.fy⟩
 |f i=>exact r
 |m o=>
  obtain⟨a,e,h0,f,h,n,hB⟩:=r;obtain⟨ho,hh⟩:=h.has;exact⟨a,e,h0,st.ext.kj a ho hh n f,h.le st.ext.le λo z=>st.ext.keep a o z n,λm=>n (st.mu a m),hB⟩
abbrev GU:=SS->Option (List U×SS)
inductive tAU(K:AAD)(B:Base)(gu:GU)(O:St)(H:Hp)(Q:List V->Hp->Prop):Prop
 |mk(S:SS)(F:Hp)(us:List U)(S':SS)(R:Rel K B S O F H)(hg:gu S=some (us,S'))(q:∀vs F' H',Rel K B S' O F' H'->Step S S' O F H F' H'->Paired (λv u=>gI K B S' O H F' H' v u) vs us->Q vs H')
structure JU(X:Cx)(es:BBC)(gu:GU):Prop where
 h:∀B,PA X es (tAU X.K B gu)
 len:∀S us S',gu S=some (us,S')->us.length=es.length
noncomputable def bQ:GU:=λS=>some ([],S)
noncomputable def aW(g:GD)(gu:GU):GU:=λS=>(g S).bind λp=>(gu p.2).map λq=>(.t p.1::q.1,q.2)
noncomputable def cG(g:GE)(gu:GU):GU:=λS=>(g S).bind λp=>(gu p.2).map λq=>(p.1::q.1,q.2)
section
variable {X:Cx}{e:Expr}{es:BBC}{g:GD}{ge:GE}{gu:GU}
def aX:JU X [] bQ:=⟨λB=>iI.imp λO H Q hh=>by
 obtain⟨S,F,us,S',R,hg,q⟩:=hh;cases hg;exact q [] F H R (Step.refl ..) .nil,λS us S' h=>by cases h;rfl⟩
def aG(h:JD X e g)(hr:JU X es gu)(hs:starEach (e::es) X.env=(false,eval e X.env)::starEach es X.env:=by rfl):JU X (e::es) (aW g gu):=
 ⟨λB=>(dN (h.h B) (hr.h B) hs).imp λO H Q hh=>by
 obtain⟨S,F,us,S',R,hg,q⟩:=hh;obtain⟨⟨d,S1⟩,h1,hg⟩:=aj hg;obtain⟨⟨RP,S2⟩,h2,hg⟩:=aA hg;cases hg;exact⟨S,F,d,S1,R,h1,λv F1 H1 R1 st1 r1=>⟨S1,F1,RP,S2,R1,h2,λvs F2 H2 R2 st2 r2=>q _ F2 H2 R2 (st1.trans st2) (.cons (r1.le st2.ext.le) (Paired.DI r2 λ_ _ z=>z.weak st1.ext.there))⟩⟩,
 λS us S' hg=>by
  obtain⟨⟨d,S1⟩,h1,hg⟩:=aj hg;obtain⟨⟨RP,S2⟩,h2,hg⟩:=aA hg;cases hg;show RP.length+1=es.length+1;rw[hr.len _ _ _ h2]⟩
def bJ(h:JE X e ge)(hr:JU X es gu)(hs:starEach (e::es) X.env=(false,eval e X.env)::starEach es X.env:=by rfl):JU X (e::es) (cG ge gu):=
 ⟨λB=>(dN (h.h B) (hr.h B) hs).imp λO H Q hh=>by
 obtain⟨S,F,us,S',R,hg,q⟩:=hh;obtain⟨⟨d,S1⟩,h1,hg⟩:=aj hg;obtain⟨⟨RP,S2⟩,h2,hg⟩:=aA hg;cases hg;exact⟨S,F,d,S1,R,h1,λv F1 H1 R1 st1 r1=>⟨S1,F1,RP,S2,R1,h2,λvs F2 H2 R2 st2 r2=>q _ F2 H2 R2 (st1.trans st2) (.cons (r1.step st2) (Paired.DI r2 λ_ _ z=>z.weak st1.ext.there))⟩⟩,
 λS us S' hg=>by
  obtain⟨⟨d,S1⟩,h1,hg⟩:=aj hg;obtain⟨⟨RP,S2⟩,h2,hg⟩:=aA hg;cases hg;show RP.length+1=es.length+1;rw[hr.len _ _ _ h2]⟩
end
noncomputable def resolve(S:SS):U->Option U
 |.t d=>some (.t d)
 |.v i=>match S[i]? with
  |some (some (.m o))=>some (.b o)
  |some (some (.b o))=>some (.b o)
  |_=>none
 |.m o=>some (.b o)
 |.b _=>none
 |.s ns=>some (.s ns)
 |.f a=>some (.f a)
def bY(S:SS):List U->Option (List U)
 |[]=>some []
 |u::us=>(resolve S u).bind λw=>(bY S us).map λws=>w::ws
noncomputable def slotsOf:List U->BBJ
 |[]=>[]
 |.v i::us=>i::slotsOf us
 |_::us=>slotsOf us
noncomputable def cz:List U->Nat
 |[]=>0
 |.m _::us=>cz us+1
 |_::us=>cz us
noncomputable def wb:List U->List MO->SS->Option SS
 |[],[],S=>some S
 |.v i::us,o::outs,S=>match S[i]? with
  |some (some (.m _))=>wb us outs (S.set i (some (.m o)))
  |some (some (.b _))=>wb us outs (S.set i (some (.b o)))
  |_=>none
 |.m _::us,_::outs,S=>wb us outs S
 |.t _::us,outs,S=>wb us outs S
 |.s _::us,outs,S=>wb us outs S
 |.f _::us,outs,S=>wb us outs S
 |_,_,_=>none
abbrev FM:=List U->Option (U×List MO)
def bq(f:FM)(gu:GU):GE:=λS=>(gu S).bind λp=>
 if(slotsOf p.1).Nodup/\cz p.1<=1 then(bY p.2 p.1).bind λus=>(f us).bind λr=>(wb p.1 r.2 p.2).map λS2=>(r.1,S2) else none
def sR(K:AAD)(F H:Hp)(v:V):U->Prop
 |.s ns=>∃a,v= .ref a/\O6 K H a ns
 |.f a=>v= .ref a
 |.t d=>Rep F v d
 |.b o=>∃a,v= .ref a/\F a=none/\At F H a o
 |_=>False
noncomputable def addrs:List V->List U->BBE
 |.ref a::vs,.b _::us=>a::addrs vs us
 |_::vs,_::us=>addrs vs us
 |_,_=>[]
structure Post(F H F' H':Hp)(as:BBE)(outs:List MO):Prop where
 sub:Sub F' H'
 ext:Ext (λa=>a∈as) F H F' H'
 out:Paired (λa o=>F' a=none/\At F' H' a o) as outs
def spT(K:AAD)(n:Nat)(f:FM):Sp:=λvs H Q _=>vs.length=n/\∃F us r outs,Sub F H/\Paired (sR K F H) vs us/\(addrs vs us).Nodup/\f us=some (r,outs)/\∀v F' H',Post F H F' H' (addrs vs us) outs->uD H F' H' v r->Q v H'
section
variable {K:AAD}{B:Base}{S S1 S2:SS}{O:St}{H0 F H:Hp}
def m6{w:U}(h:resolve S (.v i)=some w):∃u o,S[i]? =some (some u)/\fj u=true/\RO u=some o/\w= .b o:=by
 unfold resolve at h;dsimp only at h;split at h
 .rename_i o e;cases h;exact⟨_,o,e,rfl,rfl,rfl⟩
 .rename_i o e;cases h;exact⟨_,o,e,rfl,rfl,rfl⟩
 .cases h
theorem rE(R:Rel K B S O F H):∀{vs:List V}{us ws:List U},Paired (λv u=>gI K B S O H0 F H v u) vs us->bY S us=some ws->Paired (sR K F H) vs ws
 |_,_,_,.nil,h=>by cases h;exact .nil
 |_,_,_,@Paired.cons _ _ _ v u vs us r rs,h=>by
  obtain⟨w,h1,h⟩:=aj h;obtain⟨ws,h2,h⟩:=aA h;subst h;refine .cons ?_ (rE R rs h2);cases u with
  |t d=>cases h1;exact r
  |s d=>cases h1;exact r
  |f d=>cases h1;exact r
  |b o=>cases h1
  |m o=>cases h1;obtain⟨a,e,_,f,k,_⟩:=r;exact⟨a,e,f,k⟩
  |v i=>
   obtain⟨u,o,hu,hm,hi,rfl⟩:=m6 h1;obtain⟨hv,_⟩:=r;obtain⟨v',k1,k2⟩:=R.rep i u hu;rw[hv]at k1;cases k1;obtain⟨a,o2,e,f,e2,k⟩:=k2.cL hm;rw[hi]at e2;cases e2;exact⟨a,e,f,k⟩
def Uv{v:V}{d:D}:addrs (v::vs) (.t d::us)=addrs vs us:=by cases v<;>rfl
def skS{v:V}{d:BBD}:addrs (v::vs) (.s d::us)=addrs vs us:=by cases v<;>rfl
def skF{v:V}{d:Addr}:addrs (v::vs) (.f d::us)=addrs vs us:=by cases v<;>rfl
theorem uH(R:Rel K B S O F H):∀{vs:List V}{us ws:List U},Paired (λv u=>gI K B S O H0 F H v u) vs us->bY S us=some ws->∀a∈addrs vs ws,
  (∃i u,i∈slotsOf us/\S[i]? =some (some u)/\fj u=true/\O[i]? =some (some (.ref a)))\/(0<cz us/\H0 a=none/\B.H a=none/\¬cL S O a)
 |_,_,_,.nil,h,a,ha=>by cases h;cases ha
 |_,_,_,@Paired.cons _ _ _ v u vs us r rs,h,a,ha=>by
  obtain⟨w,h1,h⟩:=aj h;obtain⟨ws,h2,h⟩:=aA h;subst h;have ih:=uH R rs h2;cases u with
  |t d=>
   cases h1;exact ih a (Uv▸ha)
  |s d=>
   cases h1;exact ih a (skS▸ha)
  |f d=>
   cases h1;exact ih a (skF▸ha)
  |b o=>cases h1
  |m o=>
   cases h1;obtain⟨c,rfl,k0,f,k,n,hB⟩:=r;rcases aaV.mp (show a∈c::addrs vs ws from ha) with rfl|ha
   .exact .inr ⟨Nat.succ_pos _,k0,hB,n⟩
   .rcases ih a ha with z|⟨_,z⟩
    .exact .inl z
    .exact .inr ⟨Nat.succ_pos _,z⟩
  |v i=>
   obtain⟨u,o,hu,hm,hi,rfl⟩:=m6 h1;obtain⟨hv,_⟩:=r;obtain⟨v',k1,k2⟩:=R.rep i u hu;rw[hv]at k1;cases k1;obtain⟨c,o2,rfl,f,e2,k⟩:=k2.cL hm;rcases aaV.mp (show a∈c::addrs vs ws from ha) with rfl|ha
   .exact .inl ⟨i,u,aaT,hu,hm,hv⟩
   .rcases ih a ha with⟨j,w,z,z2⟩|z
    .exact .inl ⟨j,w,aaR _ z,z2⟩
    .exact .inr z
theorem dF(R:Rel K B S O F H):∀{vs:List V}{us ws:List U},Paired (λv u=>gI K B S O H0 F H v u) vs us->bY S us=some ws->(slotsOf us).Nodup->cz us<=1->(addrs vs ws).Nodup
 |_,_,_,.nil,h,_,_=>by cases h;exact abZ
 |_,_,_,@Paired.cons _ _ _ v u vs us r rs,h,nd,fr=>by
  obtain⟨w,h1,h⟩:=aj h;obtain⟨ws,h2,h⟩:=aA h;subst h;cases u with
  |t d=>
   cases h1;rw[Uv];exact dF R rs h2 nd fr
  |s d=>
   cases h1;rw[skS];exact dF R rs h2 nd fr
  |f d=>
   cases h1;rw[skF];exact dF R rs h2 nd fr
  |b o=>cases h1
  |m o=>
   cases h1;have fr0:cz us=0:=by have:cz us+1<=1:=fr;lia
   obtain⟨c,rfl,k0,f,k,n,hB⟩:=r;refine ab7.mpr ⟨λhc=>?_,dF R rs h2 nd a_⟩;rcases uH R rs h2 c hc with⟨j,w,_,z1,z2,z3⟩|⟨z,_⟩
   .exact n ⟨j,w,z1,z2,z3⟩
   .lia
  |v i=>
   obtain⟨u,o,hu,hm,hi,rfl⟩:=m6 h1;obtain⟨hv,_⟩:=r;obtain⟨v',k1,k2⟩:=R.rep i u hu;rw[hv]at k1;cases k1;obtain⟨c,o2,rfl,f,e2,k⟩:=k2.cL hm;obtain⟨nd1,WO⟩:=ab7.mp (show(i::slotsOf us).Nodup from nd);refine ab7.mpr ⟨λhc=>?_,dF R rs h2 WO fr⟩;rcases uH R rs h2 c hc with⟨j,w,z0,z1,z2,z3⟩|⟨_,_,_,z⟩
   .have:=R.Hq i j u w c hu hm z1 z2 hv z3;subst this;exact nd1 z0
   .exact z ⟨i,u,hu,hm,hv⟩
theorem rF(R:Rel K B S O F H)(P:Addr->MO->Prop):∀{vs:List V}{us ws:List U}{outs:List MO}{S1 S2:SS},Paired (λv u=>gI K B S O H0 F H v u) vs us->bY S us=some ws->wb us outs S1=some S2->(slotsOf us).Nodup->Paired P (addrs vs ws) outs->
  S2.length=S1.length/\(∀j,j∉slotsOf us->S2[j]? =S1[j]?)/\∀j∈slotsOf us,∃u u' o a,S1[j]? =some (some u)/\WM u o=some u'/\S2[j]? =some (some u')/\O[j]? =some (some (.ref a))/\P a o
 |_,_,_,_,_,_,.nil,h,hw,_,hp=>by
  cases h;cases hp;cases hw;exact⟨rfl,λ_ _=>rfl,λj hj=>by cases hj⟩
 |_,_,_,outs,S1,S2,@Paired.cons _ _ _ v u vs us r rs,h,hw,nd,hp=>by
  obtain⟨w,h1,h⟩:=aj h;obtain⟨ws,h2,h⟩:=aA h;subst h;cases u with
  |t d=>
   cases h1;rw[Uv]at hp;have ih:=rF R P rs h2 (show wb us outs S1=some S2 by cases outs<;>exact hw) nd hp;exact ih
  |s d=>
   cases h1;rw[skS]at hp;have ih:=rF R P rs h2 (show wb us outs S1=some S2 by cases outs<;>exact hw) nd hp;exact ih
  |f d=>
   cases h1;rw[skF]at hp;have ih:=rF R P rs h2 (show wb us outs S1=some S2 by cases outs<;>exact hw) nd hp;exact ih
  |b o=>cases h1
  |m o=>
   cases h1;obtain⟨c,rfl,k0,f,k,n,hB⟩:=r;cases hp with
   |cons p1 p2=>
    have ih:=rF R P rs h2 (show wb us _ S1=some S2 from hw) nd p2;exact ih
  |v i=>
   obtain⟨u0,o0,hu,hm,hi,rfl⟩:=m6 h1;obtain⟨hv,_⟩:=r;obtain⟨v',k1,k2⟩:=R.rep i u0 hu;rw[hv]at k1;cases k1;obtain⟨c,o2,rfl,f,e2,k⟩:=k2.cL hm;obtain⟨nd1,WO⟩:=ab7.mp (show(i::slotsOf us).Nodup from nd);cases hp with
   |@cons _ o _ outs p1 p2=>
    have go:∀u u',S1[i]? =some (some u)->WM u o=some u'->wb us outs (S1.set i (some u'))=some S2->S2.length=S1.length/\(∀j,j∉i::slotsOf us->S2[j]? =S1[j]?)/\∀j∈i::slotsOf us,∃u u' o a,S1[j]? =some (some u)/\WM u o=some u'/\S2[j]? =some (some u')/\O[j]? =some (some (.ref a))/\P a o:=λu u' e1 e2 hw=>by
     obtain⟨l,out,vO⟩:=rF R P rs h2 hw WO p2;refine⟨by rw[l,aeo],λj hj=>?_,λj hj=>?_⟩
     .rw[out j λz=>hj (aaR _ z),abF λz=>hj (by rw[z];exact aaT)]
     .by_cases e:i=j
      .subst e;exact⟨u,u',o,c,e1,e2,by rw[out i nd1];exact ace (abv.mp e1).1,hv,p1⟩
      .rcases aaV.mp hj with z|z
       .exact absurd z.symm e
       .obtain⟨w,w',o',a',q1,q2,q3,q4,q5⟩:=vO j z;rw[abF e]at q1;exact⟨w,w',o',a',q1,q2,q3,q4,q5⟩
    replace hw:(match S1[i]? with|some (some (.m _))=>wb us outs (S1.set i (some (.m o)))|some (some (.b _))=>wb us outs (S1.set i (some (.b o)))|_=>none)=some S2:=hw;split at hw
    .rename_i o' e;exact go _ _ e rfl hw
    .rename_i o' e;exact go _ _ e rfl hw
    .cases hw
end
def kR{S2:SS}{F:Hp}(R:Rel K B S O F H)(st:Step S0 S O F0 H0 F H)(rr:Paired (λv u=>gI K B S O H0 F H v u) vs us)(hr:bY S us=some ws)(hw:wb us outs S=some S2)(nd:(slotsOf us).Nodup)(p:Post F H F' H' (addrs vs ws) outs):
  Rel K B S2 O F' H'/\Step S0 S2 O F0 H0 F' H'/\∀a,cL S2 O a->cL S O a:=by
 obtain⟨hl,out,vO⟩:=rF R (λa o=>F' a=none/\At F' H' a o) rr hr hw nd p.out;have reM:∀{u:U}{o:MO}{u':U},WM u o=some u'->fj u=true/\fj u'=true/\RO u'=some o:=λ{u o u'} h=>by cases u<;>cases h<;>exact⟨rfl,rfl,rfl⟩
 have orig:∀{j w},S2[j]? =some (some w)->fj w=true->∃w0,S[j]? =some (some w0)/\fj w0=true:=λ{j w} z hm=>by
  by_cases hj:j∈slotsOf us
  .obtain⟨u,u',o,a,q1,q2,q3,q4,q5⟩:=vO j hj;exact⟨u,q1,(reM q2).1⟩
  .rw[out j hj]at z;exact⟨w,z,hm⟩
 have mu:∀a,cL S2 O a->cL S O a:=λa ⟨j,w,z,hm,hv⟩=>let⟨w0,q,n⟩:=orig z hm;⟨j,w0,q,n,hv⟩
 have Oh:=uH R rr hr;refine⟨⟨p.sub,by rw[hl];exact R.len,λj w z=>?_,λj k w1 w2 c z1 m1 z2 m2=>?_,λj o a z hv=>?_,λj o a z hv=>?_,λj a z=>?_,?_⟩,⟨⟨?_,?_,?_,?_,λb o u z=>p.ext.fy b o u (st.ext.fy b o u z)⟩,λa m=>st.mu a (mu a m),λj u z=>?_⟩,mu⟩
 .by_cases hj:j∈slotsOf us
  .obtain⟨u,u',o,a,q1,q2,q3,q4,q5,q6⟩:=vO j hj;rw[q3]at z;cases z;refine⟨.ref a,q4,?_⟩;cases u<;>cases q2
   .exact⟨a,rfl,q5,q6⟩
   .exact⟨a,rfl,q5,q6⟩
  .rw[out j hj]at z;obtain⟨v,h1,h2⟩:=R.rep j w z;refine⟨v,h1,h2.le p.ext.le p.ext.fy λa hm ha=>?_⟩;have hna:a∉addrs vs ws:=λhc=>by
    rcases Oh a hc with⟨i,u,q0,q1,q2,q3⟩|⟨_,_,_,q⟩
    .have:=R.Hq i j u w a q1 q2 z hm q3 (by rw[h1,ha]);subst this;exact hj q0
    .exact q ⟨j,w,z,hm,by rw[h1,ha]⟩
   obtain⟨c,o,e,f,_,k⟩:=h2.cL hm;rw[ha]at e;cases e;obtain⟨ho,hh⟩:=k.has;exact⟨λo q=>p.ext.keep a o q hna,p.ext.kj a ho hh hna f⟩
 .obtain⟨w1',q1,n1⟩:=orig z1 m1;obtain⟨w2',q2,n2⟩:=orig z2 m2;exact R.Hq j k w1' w2' c q1 n1 q2 n2
 .by_cases hj:j∈slotsOf us
  .obtain⟨u,u',o',a',q1,q2,q3,q4,q5⟩:=vO j hj;rw[q3]at z;cases z;cases u<;>cases q2
   exact R.own j _ a q1 hv
  .rw[out j hj]at z;exact R.own j o a z hv
 .by_cases hj:j∈slotsOf us
  .obtain⟨u,u',o',a',q1,q2,q3,q4,q5⟩:=vO j hj;rw[q3]at z;cases z;cases u<;>cases q2
   exact R.bor j _ a q1 hv
  .rw[out j hj]at z;exact R.bor j o a z hv
 .obtain⟨k1,o,k2⟩:=R.par j a z;refine⟨k1,?_⟩;by_cases hj:j∈slotsOf us
  .obtain⟨u,u',o',a',q1,q2,q3,q4,q5⟩:=vO j hj;rw[k2]at q1;cases q1;cases q2;exact⟨_,q3⟩
  .exact⟨o,by rw[out j hj];exact k2⟩
 .refine R.ext.trans p.ext λb hb=>?_;rcases Oh b hb with⟨i,u,q0,q1,q2,q3⟩|⟨_,_,q,_⟩
  .cases u with
   |t d=>cases q2
   |v d=>cases q2
   |s d=>cases q2
   |f d=>cases q2
   |m o=>exact .inr (R.own i o b q1 q3)
   |b o=>exact .inl (R.bor i o b q1 q3)
  .exact .inr q
 .exact λb o h=>p.ext.le b o (st.ext.le b o h)
 .intro b o h n;refine p.ext.keep b o (st.ext.keep b o h n) λhb=>?_;rcases Oh b hb with⟨i,u,q0,q1,q2,q3⟩|⟨_,q,_⟩
  .exact n (st.mu b ⟨i,u,q1,q2,q3⟩)
  .rw[h]at q;cases q
 .intro b o h n f;refine p.ext.kj b o (st.ext.keep b o h n) (λhb=>?_) (st.ext.kj b o h n f);rcases Oh b hb with⟨i,u,q0,q1,q2,q3⟩|⟨_,q,_⟩
  .exact n (st.mu b ⟨i,u,q1,q2,q3⟩)
  .rw[h]at q;cases q
 .intro b o h;obtain⟨o',h'⟩:=st.ext.there b o h;exact p.ext.there b o' h'
 .obtain⟨u',h'⟩:=st.slots j u z;by_cases hj:j∈slotsOf us
  .obtain⟨_,u2,_,_,_,_,q3,_⟩:=vO j hj;exact⟨u2,q3⟩
  .exact⟨u',by rw[out j hj];exact h'⟩
section
variable {X:Cx}{e:Expr}{es:BBC}{gu:GU}{x:Str}{p pos:Pos}{f:FM}{fa:Addr}{fd:FuncData}{ps:BBB}{k n:Nat}
def Pb(F:jC X.prog X.w X.K X.mg X.base vK k fa fd ps (spT X.K n f))(hr:dU k X.A)(hg:Gl X x)(hm:X.mg x=some (.ref fa))(hk:W.keepIn X.K (.ref fa)=true)(hb:Binds X.K fd ps [])(ha:JU X (e::es) gu)(hn:(e::es).length=n:=by rfl)
  (hdb:BBT x:=by decide)(he:starEach (e::es) X.env=(false,eval e X.env)::starEach es X.env:=by rfl)(hpl:(backTo pos (starEach es X.env)).any (·.1)=false:=by rfl):
  JE X (.Call (.Name x p) (e::es) [] pos) (bq f gu):=⟨λB=>(uA F hr hg hm hk hb .nil yM (ha.h B) hdb he hpl).imp λO H Q hh=>by
 obtain⟨S,F0,u,S',R,hg,q⟩:=hh;obtain⟨⟨us,S1⟩,h1,hg⟩:=aj hg;dsimp only at hg;split at hg
 .rename_i hc;obtain⟨ws,h2,hg⟩:=aj hg;obtain⟨⟨r,outs⟩,h3,hg⟩:=aj hg;obtain⟨S2,h4,hg⟩:=aA hg;cases hg;refine⟨S,F0,us,S1,R,h1,λvs F1 H1 R1 st1 rr=>?_⟩;show spT X.K n f (vs++[]) H1 Q E0;rw[ad7];have hlen:vs.length=n:=by rw[rr.length,ha.len _ _ _ h1];exact hn
  refine⟨hlen,F1,ws,r,outs,R1.sub,rE R1 rr h2,dF R1 rr h2 hc.1 hc.2,h3,λv F2 H2 po rn=>?_⟩;obtain⟨R2,st2,mu⟩:=kR R1 st1 rr h2 h4 hc.1 po;refine q v F2 H2 R2 st2 ?_;cases r with
  |t d=>exact rn
  |b o=>cases rn
  |v i=>cases rn
  |s i=>cases rn
  |f i=>cases rn
  |m o=>
   obtain⟨a,e,h0,f,h⟩:=rn;refine⟨a,e,none_of st1.ext.there h0,f,h,λm=>?_,none_of R1.ext.there h0⟩;obtain⟨o',ho⟩:=R1.has (mu a m);rw[h0]at ho;cases ho
 .cases hg⟩
end
noncomputable def bN:List U->SS->Option (List MO)
 |[],_=>some []
 |.b _::us,some (.b o)::S=>(bN us S).map λos=>o::os
 |.b _::_,_=>none
 |_::us,_::S=>bN us S
 |_::_,[]=>none
def bf(n:Nat)(g:GS):FM:=λus=>(g (us.map some++List.replicate (n-us.length) none)).bind λo=>match o with
 |.rt (.t d) S=>(bN us S).map λos=>(.t d,os)
 |.rt (.m o) S=>(bN us S).map λos=>(.m o,os)
 |.nx S=>(bN us S).map λos=>(.t .cI,os)
 |_=>none
noncomputable def lent:List V->List U->List (BBN)
 |.ref a::vs,.b _::us=>some a::lent vs us
 |_::vs,_::us=>none::lent vs us
 |_,_=>[]
def vuC(v:V)(u:U):(∃a o,v= .ref a/\u= .b o)\/∀vs us,addrs (v::vs) (u::us)=addrs vs us/\lent (v::vs) (u::us)=none::lent vs us:=by
 cases v<;>cases u<;>first|exact .inr λ_ _=>⟨rfl,rfl⟩|exact .inl ⟨_,_,rfl,rfl⟩
theorem uI:∀(vs:List V)(us:List U)(a:Addr),some a∈lent vs us↔a∈addrs vs us
 |[],us,a=>by cases us<;>exact⟨λh=>absurd h abG,λh=>absurd h abG⟩
 |v::vs,[],a=>by cases v<;>exact⟨λh=>absurd h abG,λh=>absurd h abG⟩
 |v::vs,u::us,a=>by
  have ih:=uI vs us a;rcases vuC v u with⟨c,o,rfl,rfl⟩|h
  .show some a∈some c::lent vs us↔a∈c::addrs vs us;rw[aaV,aaV,ih,Option.some_inj]
  .rw[(h vs us).1,(h vs us).2,aaV,ih];exact⟨λz=>z.resolve_left nofun,.inr⟩
theorem yU:∀{vs:List V}{us:List U}{i:Nat}{a:Addr},(lent vs us)[i]? =some (some a)->vs[i]? =some (.ref a)/\∃o,us[i]? =some (.b o)
 |[],us,i,a,h=>by cases us<;>cases h
 |v::vs,[],i,a,h=>by cases v<;>cases h
 |v::vs,u::us,i,a,h=>by
  rcases vuC v u with⟨c,o,rfl,rfl⟩|q
  .cases i with
   |zero=>cases(show some (some c)=some (some a) from h);exact⟨rfl,_,rfl⟩
   |succ i=>exact yU (vs:=vs) (us:=us) (i:=i) h
  .rw[(q vs us).2]at h;cases i with
   |zero=>cases h
   |succ i=>exact yU (vs:=vs) (us:=us) (i:=i) h
theorem Cu{K:AAD}:∀{F H:Hp}{vs:List V}{us:List U}{i:Nat}{o:MO},Paired (sR K F H) vs us->us[i]? =some (.b o)->∃a,vs[i]? =some (.ref a)/\(lent vs us)[i]? =some (some a)/\F a=none/\At F H a o
 |_,_,_,_,_,_,.nil,h=>by cases h
 |_,_,_,_,0,o,@Paired.cons _ _ _ v u vs us r rs,h=>by
  cases(show some u=some (U.b o) from h);obtain⟨a,rfl,f,k⟩:=r;exact⟨a,rfl,rfl,f,k⟩
 |_,_,_,_,i+1,o,@Paired.cons _ _ _ v u vs us r rs,h=>by
  obtain⟨a,h1,h2,h3⟩:=Cu (i:=i) rs h;refine⟨a,h1,?_,h3⟩;rcases vuC v u with⟨c,o',rfl,rfl⟩|q
  .exact h2
  .rw[(q vs us).2];exact h2
theorem Bs:∀{vs:List V}{us:List U}{i j:Nat}{a:Addr},(addrs vs us).Nodup->(lent vs us)[i]? =some (some a)->(lent vs us)[j]? =some (some a)->i=j
 |[],us,i,j,a,_,h,_=>by cases us<;>cases h
 |v::vs,[],i,j,a,_,h,_=>by cases v<;>cases h
 |v::vs,u::us,i,j,a,nd,h1,h2=>by
  have ih:∀{i j},(addrs vs us).Nodup->(lent vs us)[i]? =some (some a)->(lent vs us)[j]? =some (some a)->i=j:=λ{i j}=>Bs (i:=i) (j:=j);have nz:∀{c j},(c::addrs vs us).Nodup->some (some c)=some (some a)->(lent vs us)[j]? =some (some a)->False:=λn z e=>(ab7.mp n).1 ((uI vs us _).mp (abU (e.trans z.symm)));rcases vuC v u with⟨c,o,rfl,rfl⟩|q
  .cases i with
   |zero=>
    cases j with
    |zero=>rfl
    |succ j=>exact(nz (j:=j) nd h1 h2).elim
   |succ i=>
    cases j with
    |zero=>exact(nz (j:=i) nd h2 h1).elim
    |succ j=>exact congrArg Nat.succ (ih (ab7.mp nd).2 h1 h2)
  .rw[(q vs us).2]at h1 h2;rw[(q vs us).1]at nd;cases i with
   |zero=>cases h1
   |succ i=>
    cases j with
    |zero=>cases h2
    |succ j=>exact congrArg Nat.succ (ih nd h1 h2)
theorem kT{α β:Type}{P:α->β->Prop}:∀{l:List α}{r:List β}{i:Nat}{y:β},Paired P l r->r[i]? =some y->∃x,l[i]? =some x/\P x y
 |_,_,_,_,.nil,h=>by simp at h
 |_,_,0,_,.cons p _,h=>by simp at h;subst h;exact⟨_,rfl,p⟩
 |_,_,i+1,_,.cons _ ps,h=>by
  obtain⟨x,h1,h2⟩:=kT (i:=i) ps (by simpa using h);exact⟨x,by simpa using h1,h2⟩
def rG{F:Hp}(sb:Sub F H)(ar:Paired (sR K F H) vs us)(nd:(addrs vs us).Nodup)(N:BBB)(hN:N.length=n):
  Rel K ⟨lent vs us,F,H⟩ (us.map some++List.replicate (n-us.length) none) (start N vs) F H:=by
 have hl:vs.length=us.length:=ar.length;have gS:∀{i:Nat}{u:U},(us.map some++List.replicate (n-us.length) none)[i]? =some (some u)->us[i]? =some u:=λ{i u} h=>by
  rw[List.getElem?_append]at h;split at h
  .rw[abI]at h;obtain⟨w,h1,h2⟩:=aA h;cases h2;exact h1
  .rw[ae5]at h;split at h<;>cases h
 have gσ:∀{i:Nat}{v:V},vs[i]? =some v->(start N vs)[i]? =some (some v):=λ{i v} h=>by
  unfold start;have hi:=(abv.mp h).1;rw[ab1 (by simpa using hi),abI,h];rfl
 have vb:∀{i:Nat}{v w:V},vs[i]? =some v->(start N vs)[i]? =some (some w)->v=w:=λ{i v w} h k=>by
  rw[gσ h]at k;cases k;rfl
 have Pc:∀{i:Nat}{u:U},us[i]? =some u->fj u=true->∃o a,u= .b o/\vs[i]? =some (.ref a)/\(lent vs us)[i]? =some (some a)/\F a=none/\At F H a o:=λ{i u} h hm=>by
  obtain⟨v,h1,h2⟩:=kT ar h;cases u with
  |t d=>cases hm
  |v d=>cases hm
  |s d=>cases hm
  |f d=>cases hm
  |m o=>cases h2
  |b o=>obtain⟨a,k1,k2,k3,k4⟩:=Cu ar h;exact⟨o,a,rfl,k1,k2,k3,k4⟩
 refine⟨sb,?_,λi u h=>?_,λi j u w a h1 m1 h2 m2 v1 v2=>?_,λi o a h hv=>?_,λi o a h hv=>?_,λi a h=>?_,Ext.refl ..⟩
 .unfold start;simp[hl,hN]
 .obtain⟨v,h1,h2⟩:=kT ar (gS h);refine⟨v,gσ h1,?_⟩;cases u with
  |t d=>exact h2
  |s d=>exact h2
  |f d=>exact h2
  |v d=>cases h2
  |m o=>cases h2
  |b o=>exact h2
 .obtain⟨_,a1,_,k1,k2,_⟩:=Pc (gS h1) m1;obtain⟨_,a2,_,l1,l2,_⟩:=Pc (gS h2) m2;have e1:=vb k1 v1;have e2:=vb l1 v2;cases e1;cases e2;exact Bs nd k2 l2
 .obtain⟨_,_,e,_⟩:=Pc (gS h) rfl;cases e
 .obtain⟨_,a1,_,k1,k2,_⟩:=Pc (gS h) rfl;have e1:=vb k1 hv;cases e1;exact abU k2
 .obtain⟨k1,o,k2⟩:=yU h;refine⟨gσ k1,o,?_⟩;have hi:=(abv.mp k2).1;rw[ab1 (by simpa using hi),abI,k2];rfl
def YC{v:V}(hu:¬∃o,u= .b o):addrs (v::vs) (u::us)=addrs vs us/\lent (v::vs) (u::us)=none::lent vs us/\(∀s S os,bN (u::us) (s::S)=some os->bN us S=some os)/\∀os,¬bN (u::us) []=some os:=by
 cases v<;>cases u<;>first|exact⟨rfl,rfl,λ_ _ _ h=>h,λ_ h=>by cases h⟩|exact absurd ⟨_,rfl⟩ hu
theorem Cv{F' H':Hp}:∀{vs:List V}{us:List U}{S:SS}{os:List MO},bN us S=some os->vs.length=us.length->(∀(i:Nat)(o:MO)(a:Addr),(lent vs us)[i]? =some (some a)->S[i]? =some (some (.b o))->F' a=none/\At F' H' a o)->(∀(i:Nat)(o:MO),us[i]? =some (.b o)->∃a,vs[i]? =some (.ref a))->
  Paired (λa o=>F' a=none/\At F' H' a o) (addrs vs us) os
 |[],[],S,os,h,_,_,_=>by cases h;exact .nil
 |[],_::_,_,_,_,l,_,_=>by cases l
 |_::_,[],_,_,_,l,_,_=>by cases l
 |v::vs,u::us,S,os,h,l,k,kb=>by
  have l':vs.length=us.length:=by simpa using l
  have kb':∀(i:Nat)(o:MO),us[i]? =some (.b o)->∃a,vs[i]? =some (.ref a):=λi o z=>kb (i+1) o z;by_cases hu:∃o,u= .b o
  .obtain⟨o,rfl⟩:=hu;obtain⟨a,ha⟩:=kb 0 o rfl;have ha:v= .ref a:=by simpa using ha
   subst ha;cases S with
   |nil=>cases h
   |cons s S=>
    cases s with
    |none=>cases h
    |some s=>
     cases s with
     |b o'=>
      obtain⟨os',h1,h2⟩:=aA (show(bN us S).map (λos=>o'::os)=some os from h);subst h2;exact .cons (k 0 o' a rfl rfl) (Cv h1 l' (λi o a z1 z2=>k (i+1) o a z1 z2) kb')
     |t d=>cases h
     |m d=>cases h
     |v d=>cases h
     |s d=>cases h
     |f d=>cases h
  .obtain⟨e2,e1,e3⟩:=YC (v:=v) (vs:=vs) (us:=us) hu;rw[e2];cases S with
   |nil=>exact absurd h (e3.2 os)
   |cons s S=>exact Cv (e3.1 s S os h) l' (λi o a z1 z2=>k (i+1) o a (by rw[e1];exact z1) z2) kb'
def post_of(ar:Paired (sR K F0 H) vs us)(S':SS)(O':St)(F' H':Hp)(os:List MO)(R':Rel K ⟨lent vs us,F0,H⟩ S' O' F' H')(ho':bN us S'=some os):Post F0 H F' H' (addrs vs us) os:=by
 refine⟨R'.sub,⟨R'.ext.le,λb o z n=>R'.ext.keep b o z λm=>n ((uI vs us b).mp m),λb o z n=>R'.ext.kj b o z λm=>n ((uI vs us b).mp m),R'.ext.there,R'.ext.fy⟩,Cv ho' ar.length (λi o a z1 z2=>?_) λi o z=>?_⟩
 .obtain⟨k1,o2,k2⟩:=R'.par i a z1;obtain⟨v,j1,j2⟩:=R'.rep i _ z2;rw[k1]at j1;cases j1;obtain⟨c,e,f,k⟩:=j2;cases e;exact⟨f,k⟩
 .obtain⟨a,h1,_⟩:=Cu ar z;exact⟨a,h1⟩
def yj{N:BBB}{g:GS}{r:U}(sb:Sub F0 H)(ar:Paired (sR K F0 H) vs us)(nd:(addrs vs us).Nodup)(hrun:bf N.length g us=some (r,outs))
  (q:∀v F' H',Post F0 H F' H' (addrs vs us) outs->uD H F' H' v r->Q v H'):tO K ⟨lent vs us,F0,H⟩ g {nx:=λ_ H'=>Q .cI H',rt:=Q} (start N vs) H:=by
 have R0:=rG sb ar nd N rfl;obtain⟨o,ho,hrun⟩:=aj hrun;refine⟨_,F0,o,R0,ho,?_⟩;have post:=post_of ar;cases o with
 |nx S'=>
  obtain⟨os,h1,h2⟩:=aA (show(bN us S').map _=some (r,outs) from hrun);cases h2;exact λO' F' H' R' le=>q .cI F' H' (post S' O' F' H' outs R' h1) .cI
 |rt u S'=>
  cases u with
  |b o=>cases hrun
  |v i=>cases hrun
  |s i=>cases hrun
  |f i=>cases hrun
  |t d=>
   obtain⟨os,h1,h2⟩:=aA (show(bN us S').map _=some (r,outs) from hrun);cases h2;exact λv O' F' H' R' le rr=>q v F' H' (post S' O' F' H' outs R' h1) rr
  |m o=>
   obtain⟨os,h1,h2⟩:=aA (show(bN us S').map _=some (r,outs) from hrun);cases h2;exact λv O' F' H' R' le rr=>q v F' H' (post S' O' F' H' outs R' h1) (by obtain⟨a,e,h0,f,h,n,hB⟩:=rr;exact⟨a,e,hB,f,h⟩)
section
variable {P:Program}{w:World}{K:AAD}{mg:AAF}{base:Heap}
def okT{qual:Str}{st:Stmt}{f:Addr}{fd:FuncData}{N ps:BBB}{k:Nat}{fm:FM}{g:GS}(F:Oc K x qual st f fd)(Sc:bw N ps (aI st))
  (hb:∀(cdv:Value)(A:Around)(outer:BBF)(s:Shared)(H:Hp)(E:XK),dU k (A.deeper (envOfC qual (aI st) c_ f cdv))->JB (vI vK P w K mg base N qual (aI st) f cdv A outer s H E).K2 (dh st) g)
  (hf:∀us r,fm us=some r->bf N.length g us=some r):jC P w K mg base vK (k+1) f fd ps (spT K ps.length fm):=by
 refine F.ok Sc (λvs H Q E h=>h.1) λcdv A outer s H vs Q E hr h=>?_;obtain⟨hlen,F0,us,r,outs,sb,ar,nd,hfm,q⟩:=h;have hrun:=hf us (r,outs) hfm;have J:=hb cdv A outer s H E hr;exact⟨_,J.h ⟨lent vs us,F0,H⟩,yj sb ar nd hrun q⟩
end
noncomputable def oh(S:SS)(i:Nat):Option U:=match S[i]? with
 |some (some (.t d))=>some (.t d)
 |some (some (.s d))=>some (.s d)
 |some (some (.f d))=>some (.f d)
 |some (some (.m _))=>some (.v i)
 |some (some (.b _))=>some (.v i)
 |_=>none
def dz(S:SS):BBJ->Option (List U)
 |[]=>some []
 |i::cap=>(oh S i).bind λu=>(dz S cap).map λus=>u::us
noncomputable def bB:GT:=λS=>some (true,S)
def bK(cap:BBJ)(q:GT)(g:GD):List D->SS->List D->Option (List D×SS)
 |[],S,acc=>some (acc,S)
 |d::ds,S,acc=>(dz S cap).bind λus=>
  if(slotsOf us).Nodup/\cz us<=1 then(bY S us).bind λws=>(q (AAA d::ws.map some)).bind λp=>
   if p.1 then(g p.2).bind λr=>(bN (.t d::ws) r.2).bind λouts=>(wb us outs S).bind λS'=>bK cap q g ds S' (acc++[r.1])
   else(bN (.t d::ws) p.2).bind λouts=>(wb us outs S).bind λS'=>bK cap q g ds S' acc
  else none
def cM(cap:BBJ)(gi:GI)(q:GT)(g:GD):GE:=λS=>(gi S).bind λp=>if p.1.length<=100000 then(bK cap q g p.1 p.2 []).map λr=>(.m (.lst r.1),r.2) else none
structure Uw(X:Cx)(es:BBC)(q:GT):Prop where
 h:∀B,Od X es (tQ X.K B q)
def dX :Uw X [] bB:=⟨λB pins s O H Q I ⟨S,F,b,S',R,hg,q⟩=>by cases hg;exact Ho pins s O H Q I (q F H R (Step.refl ..))⟩
def Cw{c:Expr}(h:JT X c q):Uw X [c] q:=⟨λB=>O1 (h.h B)⟩
theorem Cy{K:AAD}{B:Base}{S:SS}{O:St}{F H:Hp}(R:Rel K B S O F H):∀{cap:BBJ}{us:List U},dz S cap=some us->∃vs:List V,cU cap O=vs.map some/\Paired (λv u=>gI K B S O H F H v u) vs us
 |[],us,h=>by cases h;exact⟨[],rfl,.nil⟩
 |i::cap,us,h=>by
  obtain⟨u,h1,h⟩:=aj h;obtain⟨us',h2,h⟩:=aA h;subst h;obtain⟨vs,k1,k2⟩:=Cy R h2;have one:∀w,S[i]? =some (some w)->∃v,O[i]? =some (some v)/\AK K F H v w:=R.rep i;unfold oh at h1;have fin:∀v,O[i]? =some (some v)->gI K B S O H F H v u->∃vs:List V,cU (i::cap) O=vs.map some/\Paired (λv u=>gI K B S O H F H v u) vs (u::us'):=λv e r=>
   ⟨v::vs,by show(O[i]?).join::cU cap O=_;rw[e,k1];rfl,.cons r k2⟩
  split at h1
  .rename_i d e;cases h1;obtain⟨v,e1,r⟩:=one _ e;exact fin v e1 r
  .rename_i d e;cases h1;obtain⟨v,e1,r⟩:=one _ e;exact fin v e1 r
  .rename_i d e;cases h1;obtain⟨v,e1,r⟩:=one _ e;exact fin v e1 r
  .rename_i o e;cases h1;obtain⟨v,e1,r⟩:=one _ e;exact fin v e1 ⟨e1,_,e⟩
  .rename_i o e;cases h1;obtain⟨v,e1,r⟩:=one _ e;exact fin v e1 ⟨e1,_,e⟩
  .cases h1
def uJ{F:Hp}(R:Rel K B S O F H)(d:D)(h:bY S us=some ws):bY S (.t d::us)=some (.t d::ws):=by
 show(some (U.t d)).bind _=_;show(bY S us).map _=_;rw[h];rfl
inductive RQ(K:AAD)(B:Base)(S:SS)(O:St)(F H F1:Hp)(lp:List D->SS->List D->Option (List D×SS))(ds:List D)(r:List D×SS)(i m:Nat)(ys:List V)(H':Hp):Prop
 |mk(S2:SS)(F2:Hp)(acc:List D)(R:Rel K B S2 O F2 H')(st:Step S S2 O F H F2 H')(le:∀b o,F1 b=some o->F2 b=some o)(ry:bC F2 ys acc)(ha:acc.length<=i)(hl:i<=ds.length)(hm:m=ds.length-i)(e:lp (ds.drop i) S2 acc=some r)
def yV(h:tE K B (cM cap gi q g) O H Q):WL (tIt K B gi) cap (λO H Q=>∃B,tQ K B q O H Q) (λO H Q=>∃B,tD K B g O H Q) O H Q:=by
 obtain⟨x,_⟩:∃x:Str,True:=⟨"",trivial⟩
 obtain⟨S,F,u,S',R,hg,k⟩:=h;obtain⟨⟨ds,S1⟩,h1,hg⟩:=aj hg;dsimp only at hg;split at hg
 .rename_i hlen;obtain⟨⟨res,Sf⟩,h2,hg⟩:=aA hg;cases hg;refine⟨S,F,ds,S1,R,h1,λJ F1 H1 R1 st1 w=>?_⟩;refine⟨RQ K B S O F H F1 (bK cap q g) ds (res,Sf),
   ⟨_,S1,F1,[],R1,st1,λ_ _ z=>z,.nil,aaP _,abK _,rfl,h2⟩,?_⟩
  rintro i m ys H' ⟨S2,F2,acc,R2,st2,le,ry,ha,hl,rfl,eO⟩;refine⟨by rw[ry.length];exact aeQ (aaY ha (aaY hl hlen)) b_,?_⟩;have w':=w F2 H' le R2.sub i;by_cases hlt:i<ds.length
  .have hd:ds[i]? =some ds[i]:=aaS hlt;obtain⟨go,yl⟩:=w'.1 _ hd;rw[acs hlt]at eO;refine .inr ⟨go,λxv H3 y=>?_⟩;obtain⟨rfl,rx⟩:=yl xv H3 y;obtain⟨us,e1,eO⟩:=aj eO
   skip
   split at eO
   .rename_i hnd;obtain⟨ws,e2,eO⟩:=aj eO;obtain⟨⟨bk,T1⟩,e3,eO⟩:=aj eO;obtain⟨vs,k1,k2⟩:=Cy R2 e1;have rr:Paired (λv u=>gI K B S2 O H3 F2 H3 v u) (xv::vs) (.t ds[i]::us):=.cons rx k2;have er:=uJ R2 ds[i] e2;have ar:=rE R2 rr er;have nd:=dF R2 rr er hnd.1 hnd.2;have R3:=rG (n:=ws.length+1) R2.sub ar nd (List.replicate (ws.length+1) x) (by simp);have hvl:vs.length=ws.length:=by have:=ar.length;simpa using this
    have es:start (List.replicate (ws.length+1) x) (xv::vs)=some xv::cU cap O:=by
     unfold start;rw[k1];simp[hvl]
    have eS:(U.t ds[i]::ws).map some++List.replicate (ws.length+1-(U.t ds[i]::ws).length) none=some (U.t ds[i])::ws.map some:=by simp
    rw[es,eS]at R3;have back:∀(T2:SS)(F3 H4:Hp)(outs:List MO)(S3:SS),Rel K ⟨lent (xv::vs) (U.t ds[i]::ws),F2,H3⟩ T2 (some xv::cU cap O) F3 H4->bN (U.t ds[i]::ws) T2=some outs->wb us outs S2=some S3->Rel K B S3 O F3 H4/\Step S S3 O F H F3 H4/\(∀b o,F2 b=some o->F3 b=some o):=λT2 F3 H4 outs S3 RT ho hw=>by
     have po:=post_of ar T2 _ F3 H4 outs RT ho;obtain⟨Ra,AM,_⟩:=kR (S0:=S2) (F0:=F2) (H0:=H3) R2 (Step.refl ..) rr er (show wb (U.t ds[i]::us) outs S2=some S3 by cases outs<;>exact hw) hnd.1 po;exact⟨Ra,st2.trans AM,AM.ext.le⟩
    refine⟨_,_,F2,bk,T1,R3,e3,λF3 H4 RS YD=>?_⟩;cases bk with
    |true=>
     obtain⟨⟨yd,T2⟩,e4,eO⟩:=aj (show(g T1).bind _=_ from eO);obtain⟨outs,e5,eO⟩:=aj eO;obtain⟨S3,e6,eO⟩:=aj eO;refine Cn ⟨_,T1,F3,yd,T2,RS,e4,λyv F4 H5 YE YF YG=>?_⟩;obtain⟨Ra,AM,F9⟩:=back T2 F4 H5 outs S3 YE e5 e6;refine⟨ds.length-(i+1),by lia,S3,F4,acc++[yd],Ra,AM,λb o z=>F9 b o (le b o z),(ry.le F9).append (.cons YG .nil),by simp;lia,hlt,rfl,eO⟩
    |false=>
     obtain⟨outs,e5,eO⟩:=aj (show(bN (U.t ds[i]::ws) T1).bind _=_ from eO);obtain⟨S3,e6,eO⟩:=aj eO;obtain⟨Ra,AM,F9⟩:=back T1 F3 H4 outs S3 RS e5 e6;exact Cm ⟨ds.length-(i+1),by lia,S3,F3,acc,Ra,AM,λb o z=>F9 b o (le b o z),ry.le F9,by lia,hlt,rfl,eO⟩
   .cases eO
  .have e:i=ds.length:=by lia
   subst e;rw[age]at eO;cases eO;refine .inl ⟨w'.2 (aaP _),λp hp=>?_⟩;have n:=jm.obj (F:=F2) hp (.lst ys);refine k (.ref p) F2 _ (R2.new n (R2.sub.same n.same)) (st2.trans n.step) ⟨p,rfl,none_of st2.ext.there hp,R2.sub.fresh hp,⟨ys,aR,ry⟩,λm=>?_,none_of R2.ext.there hp⟩;obtain⟨o,ho⟩:=R2.has m;rw[hp]at ho;cases ho
 .cases hg
def fU{px pos:Pos}(T:dW X x bL cap scope cl)(hc:X.calm=true)(hi:JI X e_ iter gi)
  (ht:∀C s H fp,Uw (cF X (x::bL) scope cl C s H fp) ifs q)(he:∀C s H fp,JD (cF X (x::bL) scope cl C s H fp) elt g)
  (hs:∀x,foldedSetIterable iter X.env x=pure x:=by intro _;rfl):JE X (.ListComp elt [⟨.Name x px,iter,ifs,0⟩] scope pos) (cM cap gi q g):=⟨λB=>by
 exact(yO (tc:=λO H Q=>∃B,tQ X.K B q O H Q) (te:=λO H Q=>∃B,tD X.K B g O H Q) T hc (hi.h B) (λC s H fp pins s' O H' Q I ⟨B',z⟩=>(ht C s H fp).h B' pins s' O H' Q I z) (λC s H fp pins s' O H' Q I ⟨B',z⟩=>(he C s H fp).h B' pins s' O H' Q I z) hs).imp λO H Q h=>yV h⟩
def LQ{y:Str}{px pos py spos:Pos}(hN:X.N.Nodup)(hy:X.N[i]? =some y)(hx:Loc X.env.scope y)(T:dW X x bL cap scope cl)(hc:X.calm=true)(hi:JI X e_ iter gi)
  (ht:∀C s H fp,Uw (cF X (x::bL) scope cl C s H fp) ifs q)(he:∀C s H fp,JD (cF X (x::bL) scope cl C s H fp) elt g)
  (hsw:swapsWith (.ListComp elt [⟨.Name x px,iter,ifs,0⟩] scope pos) (some (.Name y py)) spos.line X.env=pure true:=by rfl)(hf:X.fn y=true\/X.env.scope.names.lookup y=some .local:=by trivial)
  (hs:∀x,foldedSetIterable iter X.env x=pure x:=by intro _;rfl):JS X (.Assign [.Name y py] (.ListComp elt [⟨.Name x px,iter,ifs,0⟩] scope pos) spos) (cD i (cM cap gi q g)):=⟨λB=>
 (LB (tc:=λO H Q=>∃B,tQ X.K B q O H Q) (te:=λO H Q=>∃B,tD X.K B g O H Q) T hc (hi.h B) (λC s H fp pins s' O H' Q I ⟨B',z⟩=>(ht C s H fp).h B' pins s' O H' Q I z) (λC s H fp pins s' O H' Q I ⟨B',z⟩=>(he C s H fp).h B' pins s' O H' Q I z) hs hN hy hx hsw hf).imp λD O H h=>yV (Cs h)⟩
mutual
noncomputable def lT:D->D->Bool
 |.cI,.cI=>true
 |.bl a,.bl b=>a == b
 |.int a,.int b=>a == b
 |.bl a,.int b=>(if a then 1 else 0) == b
 |.int a,.bl b=>a == (if b then 1 else 0)
 |.str a,.str b=>a == b
 |.tup a,.tup b=>jK a b
 |.lst a,.lst b=>jK a b
 |_,_=>false
noncomputable def jK:List D->List D->Bool
 |[],[]=>true
 |a::as,b::bs=>lT a b && jK as bs
 |_,_=>false
end
mutual
noncomputable def cJ:D->Nat
 |.tup ds=>bX ds+1
 |.lst ds=>bX ds+1
 |_=>0
noncomputable def bX:List D->Nat
 |[]=>0
 |d::ds=>max (cJ d) (bX ds)
end
mutual
theorem qm:∀d:D,lT d d=true
 |.cI=>rfl
 |.bl a=>show(a == a)=true from acS a
 |.int a=>show(a == a)=true from acS a
 |.str a=>show(a == a)=true from acS a
 |.tup a=>show jK a a=true from m8 a
 |.lst a=>show jK a a=true from m8 a
theorem m8:∀ds:List D,jK ds ds=true
 |[]=>rfl
 |d::ds=>by show(lT d d && jK ds ds)=true;rw[qm d,m8 ds];rfl
end
def su(as bs:List D)(j:Nat):Bool:=match as[j]?,bs[j]? with
 |some a,some b=>lT a b
 |_,_=>true
def yW(n:Nat)(e:Nat->Bool):(List.range (n+1)).all e=(e 0 && (List.range n).all λj=>e (j+1)):=by
 rw[List.range_succ_eq_map,ael,agg];rfl
theorem yX:∀{as bs:List D},as.length≠bs.length->jK as bs=false
 |[],[],h=>absurd rfl h
 |[],_::_,_=>rfl
 |_::_,[],_=>rfl
 |a::as,b::bs,h=>by
  show(lT a b && jK as bs)=false;rw[yX (as:=as) (bs:=bs) (λz=>h (by simp[z])),ahe]
theorem sS:∀{as bs:List D},as.length=bs.length->(List.range as.length).all (su as bs)=jK as bs
 |[],[],_=>rfl
 |[],_::_,h=>by cases h
 |_::_,[],h=>by cases h
 |a::as,b::bs,h=>by
  have h':as.length=bs.length:=by simpa using h
  show(List.range (as.length+1)).all _=_;rw[yW];show _=(lT a b && jK as bs);have ih:=sS h';have e:(λj=>su (a::as) (b::bs) (j+1))=su as bs:=by funext j;kernel_rfl
  rw[e,ih];rfl
def Pd{F:Hp}{ws:List V}(h:Rd F a (.lst vs))(h':Rd F a (.lst ws)):vs=ws:=by
 rcases h with e1|⟨o,e1⟩<;>rcases h' with e2|⟨o',e2⟩<;>(rw[e1]at e2;cases e2)<;>rfl
mutual
theorem Rep.uniq{F:Hp}:∀{v:V}{d e:D},Rep F v d->Rep F v e->d=e
 |_,_,_,.cI,r=>by cases r;rfl
 |_,_,_,.bl b,r=>by cases r;rfl
 |_,_,_,.int b,r=>by cases r;rfl
 |_,_,_,.str b,r=>by cases r;rfl
 |_,_,_,.tup e1 r1,r=>by
  cases r with
  |tup e2 r2=>rw[e1]at e2;cases e2;rw[bC.uniq r1 r2]
  |lst e2 r2=>rcases e2 with e2|⟨o,e2⟩<;>(rw[e1]at e2;cases e2)
 |_,_,_,.lst e1 r1,r=>by
  cases r with
  |tup e2 r2=>rcases e1 with e1|⟨o,e1⟩<;>(rw[e1]at e2;cases e2)
  |lst e2 r2=>rcases e1 with e1|⟨o,e1⟩<;>rcases e2 with e2|⟨o',e2⟩<;>(rw[e1]at e2;cases e2)<;>rw[bC.uniq r1 r2]
theorem bC.uniq{F:Hp}:∀{vs:List V}{ds es:List D},bC F vs ds->bC F vs es->ds=es
 |_,_,_,.nil,r=>by cases r;rfl
 |_,_,_,.cons r1 s1,r=>by
  cases r with
  |cons r2 s2=>rw[Rep.uniq r1 r2,bC.uniq s1 s2]
end
section
variable {X:Cx}{pins:AAG}{O:St}{F H:Hp}{s:Shared}
def Sub.isTup(I:Inv X pins O H s)(sb:Sub F H)(h:F a=some (.tup vs)):∃its:BBG,Vals vs its/\s.heap.IsTuple a its.toArray:=by
 obtain⟨its,rv,p,_⟩:=I.tuple (.inl (Rd.of (sb a _ h)));exact⟨its,rv,p⟩
def Sub.xh(I:Inv X pins O H s)(sb:Sub F H)(h:Rd F a (.lst vs)):∃its:BBG,Vals vs its/\s.heap.IsList a its.toArray:=by
 obtain⟨its,rv,p,_⟩:=I.list (.inl (h.imp (sb a _) λ⟨o,z⟩=>⟨o,sb a _ z⟩));exact⟨its,rv,p.isList⟩
def Ht(A:Around)(s:Shared)(its mW:AAL)(ds es:List D):Prop:=∀j(h1:j<its.toArray.size)(h2:j<mW.toArray.size),SeqAt.EqAt A.in1 s its.toArray[j] mW.toArray[j] (su ds es j)
def Pe{m:Nat}(h:n=m)(e:Nat->Bool):((List.range (min n m)).all e && n == m)=(List.range n).all e:=by
 subst h;simp
def YH{ca cb:Addr}(hu:A.units<cLine)(pa:s.heap.IsTuple ca pX.toArray)(pb:s.heap.IsTuple cb mW.toArray)(la:pX.length=ds.length)(lb:mW.length=es.length)(h:Ht A s pX mW ds es):
  SeqAt.RcAt A s (.ref ca) (.ref cb) (jK ds es)/\SeqAt.RcNeAt A s (.ref ca) (.ref cb) (!jK ds es):=by
 have q:=SeqAt.RcAt.tuples (e:=su ds es) pa pb hu h;have p:=SeqAt.RcNeAt.tuples (e:=su ds es) pa pb hu h;rw[aaQ,aaQ,la,lb]at q p;by_cases hl:ds.length=es.length
 .rw[Pe hl,sS hl]at q p;exact⟨q,p⟩
 .rw[yX hl];have:(ds.length == es.length)=false:=by simpa using hl
  rw[this,ahe]at q p;exact⟨q,p⟩
def YI{ca cb:Addr}(hu:A.units<cLine)(pa:s.heap.IsList ca pX.toArray)(pb:s.heap.IsList cb mW.toArray)(la:pX.length=ds.length)(lb:mW.length=es.length)(h:Ht A s pX mW ds es):
  SeqAt.RcAt A s (.ref ca) (.ref cb) (jK ds es)/\SeqAt.RcNeAt A s (.ref ca) (.ref cb) (!jK ds es):=by
 have z:pX.toArray.size=mW.toArray.size↔ds.length=es.length:=by rw[aaQ,aaQ,la,lb]
 by_cases hl:ds.length=es.length
 .have q:=SeqAt.RcAt.lists (e:=su ds es) pa pb (z.mpr hl) hu h;have p:=SeqAt.RcNeAt.lists (e:=su ds es) pa pb (z.mpr hl) hu h;rw[aaQ,la,sS hl]at q p;exact⟨q,p⟩
 .rw[yX hl];have n:(pX.toArray.size != mW.toArray.size)=true:=bne_iff_ne.mpr λe=>hl (z.mp e);exact⟨.lists_lengths pa pb n hu,.lists_lengths pa pb n hu⟩
def rH(l:List α)(j:Nat)(h:j<l.toArray.size):l[j]? =some l.toArray[j]:=by
 have z:j<l.length:=by simpa using h
 simp[z]
inductive Ux(F:Hp)(s:Shared):Value->D->Prop where
 |cI:Ux F s .none .cI
 |bl(b:Bool):Ux F s (.bool b) (.bl b)
 |int(i:Int)(t:Nat):Ux F s (.int i t) (.int i)
 |str(z:Str)(t:Nat):Ux F s (.str z t) (.str z)
 |tup{a:Addr}{vs:List V}{its:AAL}{ds:List D}:F a=some (.tup vs)->bC F vs ds->Vals vs its->s.heap.IsTuple a its.toArray->Ux F s (.ref a) (.tup ds)
 |lst{a:Addr}{vs:List V}{its:AAL}{ds:List D}:Rd F a (.lst vs)->bC F vs ds->Vals vs its->s.heap.IsList a its.toArray->Ux F s (.ref a) (.lst ds)
def LR(I:Inv X pins O H s)(sb:Sub F H){d:D}{x:V}{u:Value}(r:Rep F x d)(rx:RelV x u):Ux F s u d:=by
 cases r with
 |cI=>cases rx;exact .cI
 |bl b=>cases rx;exact .bl b
 |int i=>obtain⟨t,rfl⟩:=rx;exact .int i t
 |str z=>obtain⟨t,rfl⟩:=rx;exact .str z t
 |tup e r=>cases rx;obtain⟨_,v,p⟩:=sb.isTup I e;exact .tup e r v p
 |lst e r=>cases rx;obtain⟨_,v,p⟩:=sb.xh I e;exact .lst e r v p
structure Tri(A:Around)(s:Shared)(u w:Value)(b:Bool):Prop where
 eq:SeqAt.EqAt A s u w b
 rc:SeqAt.RcAt A s u w b
 ne:SeqAt.RcNeAt A s u w (!b)
mutual
theorem Pf(I:Inv X pins O H s)(sb:Sub F H):∀(d:D){e:D}{A:Around}{x y:V}{u w':Value},Rep F x d->Rep F y e->RelV x u->RelV y w'->A.units+cJ d<cLine->Tri A s u w' (lT d e):=λd {e A x y u w'} r1 r2 rx ry hu=>by
 have k2:=LR I sb r2 ry;have hz:A.units<cLine:=by lia
 cases LR I sb r1 rx with
 |cI=>
  cases k2 with
  |cI=>exact⟨.same _,.none_none,.none_none⟩
  |bl b=>exact⟨.none_bool b,.none_bool b,.none_bool b⟩
  |int b tb=>exact⟨.none_int b tb,.none_int b tb,.none_int b tb⟩
  |str b tb=>exact⟨.none_str b tb,.none_str b tb,.none_str b tb⟩
  |tup _ _ _ p=>exact⟨.none_tuple p hz,.none_tuple p hz,.none_tuple p hz⟩
  |lst _ _ _ p=>exact⟨.none_list p hz,.none_list p hz,.none_list p hz⟩
 |bl a=>
  cases k2 with
  |cI=>exact⟨.bool_none a,.bool_none a,.bool_none a⟩
  |bl b=>exact⟨.bool_bool a b,.bool_bool a b,.bool_bool a b⟩
  |int b tb=>exact⟨.bool_int a b tb,.bool_int a b tb,.bool_int a b tb⟩
  |str b tb=>exact⟨.bool_str a b tb,.bool_str a b tb,.bool_str a b tb⟩
  |tup _ _ _ p=>exact⟨.bool_tuple a p hz,.bool_tuple a p hz,.bool_tuple a p hz⟩
  |lst _ _ _ p=>exact⟨.bool_list a p hz,.bool_list a p hz,.bool_list a p hz⟩
 |int a ta=>
  cases k2 with
  |cI=>exact⟨.int_none a ta,.int_none a ta,.int_none a ta⟩
  |bl b=>exact⟨.int_bool a ta b,.int_bool a ta b,.int_bool a ta b⟩
  |int b tb=>exact⟨.int_int a ta b tb,.int_int a ta b tb,.int_int a ta b tb⟩
  |str b tb=>exact⟨.int_str a ta b tb,.int_str a ta b tb,.int_str a ta b tb⟩
  |tup _ _ _ p=>exact⟨.int_tuple a ta p hz,.int_tuple a ta p hz,.int_tuple a ta p hz⟩
  |lst _ _ _ p=>exact⟨.int_list a ta p hz,.int_list a ta p hz,.int_list a ta p hz⟩
 |str a ta=>
  cases k2 with
  |cI=>exact⟨.str_none a ta,.str_none a ta,.str_none a ta⟩
  |bl b=>exact⟨.str_bool a ta b,.str_bool a ta b,.str_bool a ta b⟩
  |int b tb=>exact⟨.str_int a ta b tb,.str_int a ta b tb,.str_int a ta b tb⟩
  |str b tb=>exact⟨.str_str a ta b tb,.str_str a ta b tb,.str_str a ta b tb⟩
  |tup _ _ _ p=>exact⟨.str_tuple a ta p hz,.str_tuple a ta p hz,.str_tuple a ta p hz⟩
  |lst _ _ _ p=>exact⟨.str_list a ta p hz,.str_list a ta p hz,.str_list a ta p hz⟩
 |@tup ca vsa pX LU ea ra YJ pa=>
  cases k2 with
  |cI=>exact⟨.tuple_none pa hz,.tuple_none pa hz,.tuple_none pa hz⟩
  |bl b=>exact⟨.tuple_bool b pa hz,.tuple_bool b pa hz,.tuple_bool b pa hz⟩
  |int b tb=>exact⟨.tuple_int b tb pa hz,.tuple_int b tb pa hz,.tuple_int b tb pa hz⟩
  |str b tb=>exact⟨.tuple_str b tb pa hz,.tuple_str b tb pa hz,.tuple_str b tb pa hz⟩
  |lst _ _ _ p=>exact⟨.tuple_list pa p hz,.tuple_list pa p hz,.tuple_list pa p hz⟩
  |@tup cb vsb mW dsb eb rb YK pb=>
   have hd:A.units+(bX LU+1)<cLine:=hu;have t:=YH hz pa pb (YJ.length.symm.trans ra.length) (YK.length.symm.trans rb.length) λj h1 h2=>yY I sb LU (A:=A.in1) ra rb YJ YK (by show A.units+1+bX LU<cLine;lia) (rH pX j h1) (rH mW j h2);refine⟨?_,t.1,t.2⟩;by_cases hc:ca=cb
   .subst hc;rw[ea]at eb;cases eb;obtain rfl:=bC.uniq ra rb;show SeqAt.EqAt A s _ _ (jK LU LU);rw[m8];exact .same _
   .exact .of_refs hc t.1
 |@lst ca vsa pX LU ea ra YJ pa=>
  cases k2 with
  |cI=>exact⟨.list_none pa hz,.list_none pa hz,.list_none pa hz⟩
  |bl b=>exact⟨.list_bool b pa hz,.list_bool b pa hz,.list_bool b pa hz⟩
  |int b tb=>exact⟨.list_int b tb pa hz,.list_int b tb pa hz,.list_int b tb pa hz⟩
  |str b tb=>exact⟨.list_str b tb pa hz,.list_str b tb pa hz,.list_str b tb pa hz⟩
  |tup _ _ _ p=>exact⟨.list_tuple pa p hz,.list_tuple pa p hz,.list_tuple pa p hz⟩
  |@lst cb vsb mW dsb eb rb YK pb=>
   have hd:A.units+(bX LU+1)<cLine:=hu;have t:=YI hz pa pb (YJ.length.symm.trans ra.length) (YK.length.symm.trans rb.length) λj h1 h2=>yY I sb LU (A:=A.in1) ra rb YJ YK (by show A.units+1+bX LU<cLine;lia) (rH pX j h1) (rH mW j h2);refine⟨?_,t.1,t.2⟩;by_cases hc:ca=cb
   .subst hc;obtain rfl:=Pd ea eb;obtain rfl:=bC.uniq ra rb;show SeqAt.EqAt A s _ _ (jK LU LU);rw[m8];exact .same _
   .exact .of_refs hc t.1
theorem yY(I:Inv X pins O H s)(sb:Sub F H):∀(ds:List D){es:List D}{A:Around}{vs ws:List V}{us us':AAL}{j:Nat}{u w':Value},bC F vs ds->bC F ws es->Vals vs us->Vals ws us'->A.units+bX ds<cLine->us[j]? =some u->us'[j]? =some w'->SeqAt.EqAt A s u w' (su ds es j):=λds {es A vs ws us us' j u w'} r1 r2 v1 v2 hu h1 h2=>by
 cases r1 with
 |nil=>cases v1;simp at h1
 |@cons v d vs ds r rs=>
  cases v1 with
  |cons q qs=>
   cases r2 with
   |nil=>cases v2;simp at h2
   |@cons w e ws es r' rs'=>
    cases v2 with
    |cons q' qs'=>
     have hd:A.units+max (cJ d) (bX ds)<cLine:=hu;cases j with
     |zero=>
      simp at h1 h2;subst h1 h2;exact(Pf I sb d r r' q q' a_).eq
     |succ j=>
      simp at h1 h2;have:=yY I sb ds (A:=A) rs rs' qs qs' (j:=j) a_ h1 h2
      simpa[su] using this
end
def kg:List D->Option U
 |[a,b]=>if cJ a<=40 then some (.t (.bl (lT a b))) else none
 |_=>none
def Bt:List D->Option U
 |[a,b]=>if cJ a<=40 then some (.t (.bl (!lT a b))) else none
 |_=>none
def bV(hu:X.A.units+64<cLine):Bo X (compareOp .Eq) kg:=by
 intro pins s O H x y v u Q I rx ry ⟨F,ds,w,sb,rs,hw,q⟩;obtain⟨d,e,rfl,r1,r2⟩:=Bq rs;obtain⟨hd,rfl⟩:=cV (show(if cJ d<=40 then some (U.t (.bl (lT d e))) else none)=some w from hw);exact(Pf I sb d r1 r2 rx ry a_).rc _ _ _ _ ⟨.bl _,H,I,rfl,q _ F H (jm.refl ..) sb (.bl _)⟩
def qo(hu:X.A.units+64<cLine):Bo X (compareOp .NotEq) Bt:=by
 intro pins s O H x y v u Q I rx ry ⟨F,ds,w,sb,rs,hw,q⟩;obtain⟨d,e,rfl,r1,r2⟩:=Bq rs;obtain⟨hd,rfl⟩:=cV (show(if cJ d<=40 then some (U.t (.bl (!lT d e))) else none)=some w from hw);exact(Pf I sb d r1 r2 rx ry a_).ne _ _ _ _ ⟨.bl _,H,I,rfl,q _ F H (jm.refl ..) sb (.bl _)⟩
def inD(x:D)(ds:List D):Bool:=ds.any λy=>lT y x
def D8:List D->Option U
 |[x,.tup ds]=>if bX ds<=40 then some (.t (.bl (inD x ds))) else none
 |[x,.lst ds]=>if bX ds<=40 then some (.t (.bl (inD x ds))) else none
 |_=>none
def RelV.uniq{v w':V}{u:Value}(a:RelV v u)(b:RelV w' u):v=w':=by
 cases v<;>cases w'<;>simp only[RelV]at a b<;>first
  |rfl
  |(subst a;cases b;done)
  |(subst a;cases b;rfl)
  |(obtain⟨t,rfl⟩:=a;obtain⟨t',e⟩:=b;cases e;done)
  |(obtain⟨t,rfl⟩:=a;obtain⟨t',e⟩:=b;cases e;rfl)
  |(obtain⟨t,rfl⟩:=a;cases b;done)
  |(obtain⟨t,rfl⟩:=b;cases a;done)
open Classical in
def Fj(F:Hp)(d:D)(y:Value):Bool:=if h:∃(v:V)(dd:D),RelV v y/\Rep F v dd then lT (Classical.choose (acY h)) d else false
def LV{v:V}{dd d:D}{y:Value}(a:RelV v y)(r:Rep F v dd):Fj F d y=lT dd d:=by
 unfold Fj;have h:∃(v:V)(dd:D),RelV v y/\Rep F v dd:=⟨v,dd,a,r⟩
 rw[dif_pos h];have k:=acY (acY h);have e1:=RelV.uniq k.1 a;have r':Rep F (Classical.choose h) dd:=by rw[e1];exact r
 rw[Rep.uniq k.2 r']
theorem qp(I:Inv X pins O H s)(sb:Sub F H){A:Around}{x:V}{u:Value}{d:D}(r:Rep F x d)(rx:RelV x u):∀{vs:List V}{ds:List D}{its:AAL},bC F vs ds->Vals vs its->A.units+bX ds<cLine->
  (∀y∈its,SeqAt.EqAt A s y u (Fj F d y))/\its.any (Fj F d)=inD d ds
 |_,_,_,.nil,.nil,_=>⟨(λy hy=>absurd hy (by simp)),rfl⟩
 |_,_,_,@bC.cons _ v dd vs ds r1 rs,.cons q qs,hu=>by
  have hd:A.units+max (cJ dd) (bX ds)<cLine:=hu;obtain⟨h1,h2⟩:=qp I sb (A:=A) r rx rs qs a_;refine⟨λy hy=>?_,?_⟩
  .rcases aaV.mp hy with rfl|hy
   .rw[LV q r1];exact(Pf I sb dd r1 r q rx a_).eq
   .exact h1 y hy
  .rw[acM,h2,LV q r1];rfl
def oq(hu:X.A.units+64<cLine):Bo X (compareOp .In) D8:=by
 intro pins s O H x y v u Q I rx ry ⟨F,ds,w,sb,rs,hw,q⟩;obtain⟨d,e,rfl,r1,r2⟩:=Bq rs;cases e with
 |tup ds=>
  obtain⟨hd,rfl⟩:=cV (show(if bX ds<=40 then some (U.t (.bl (inD d ds))) else none)=some w by cases d<;>exact hw);obtain⟨a,vs,rfl,fa,ha,rs⟩:=sb.mZ r2;cases ry;obtain⟨its,rv,p⟩:=sb.isTup I fa;obtain⟨h1,h2⟩:=qp I sb (A:=X.A.in1) r1 rx rs rv (by show X.A.units+1+bX ds<cLine;lia);refine SeqAt.in_tupleAt (Fj F d) p (λy hy=>h1 y (by simpa using hy)) ⟨.bl _,H,I,rfl,?_⟩;rw[show its.toArray.any (Fj F d)=its.any (Fj F d) by simp,h2];exact q _ F H (jm.refl ..) sb (.bl _)
 |lst ds=>
  obtain⟨hd,rfl⟩:=cV (show(if bX ds<=40 then some (U.t (.bl (inD d ds))) else none)=some w by cases d<;>exact hw);obtain⟨a,vs,rfl,fa,ha,rs⟩:=sb.gO r2;cases ry;obtain⟨its,rv,p⟩:=sb.xh I fa;obtain⟨h1,h2⟩:=qp I sb (A:=X.A.in1) r1 rx rs rv (by show X.A.units+1+bX ds<cLine;lia);refine SeqAt.in_listAt (Fj F d) p (λy hy=>h1 y (by simpa using hy)) ⟨.bl _,H,I,rfl,?_⟩;rw[show its.toArray.any (Fj F d)=its.any (Fj F d) by simp,h2];exact q _ F H (jm.refl ..) sb (.bl _)
 |str b=>cases d<;>(cases hw;done)
 |cI=>cases d<;>(cases hw;done)
 |bl b=>cases d<;>(cases hw;done)
 |int b=>cases d<;>(cases hw;done)
end
def Jq(T:String)(d:D):Option Bool:=match T with
 | "tuple"=>some (LC d)
 | "bool"=>some (RK d)
 |_=>none
def LW{d:D}{b:Bool}(h:Jq T d=some b):W.kitOne K (.type (tyN d)) (.type T)=some b:=by
 unfold Jq at h;split at h
 .cases h;exact O4 d
 .cases h;exact Um d
 .cases h
def yZ:List String->D->Option Bool
 |[],_=>some false
 |T::Ts,d=>match Jq T d with
  |some true=>some true
  |some false=>yZ Ts d
  |none=>none
section
variable {X:Cx}{pins:AAG}{O:St}{F H:Hp}{s:Shared}
def Pg(I:Inv X pins O H s)(sb:Sub F H){E:AAE}{Q:AAE}{x:V}{u:Value}{d:D}{c:Value}{b:Bool}(r:Rep F x d)(rx:RelV x u)(e:W.kitOne X.K (.type (tyN d)) c=some b)(h:∀tk,Q (.bool b) {s with toks:=tk}):
  wpAny d_ A (call (.builtin "isinstance") [u,c]) Q E s:=by
 cases r with
 |cI=>cases rx;exact afd W.kitx_none I.DK True.intro e (λz=>nomatch z) h
 |bl y=>cases rx;exact afd W.kitx_bool I.DK True.intro e (λz=>nomatch z) h
 |int i=>obtain⟨t,rfl⟩:=rx;exact afd W.kitx_int I.DK True.intro e (λz=>nomatch z) h
 |str y=>obtain⟨t,rfl⟩:=rx;exact afd W.kitx_str I.DK True.intro e (λz=>nomatch z) h
 |tup ea _=>
  cases rx;obtain⟨its,_,o,h1,h2,_⟩:=sb.isTup I ea;exact afd W.kitx_tuple I.DK ⟨o,h1,h2⟩ e (λz=>nomatch z) h
 |lst ea _=>
  cases rx;obtain⟨its,_,o,h1,h2,_⟩:=sb.xh I ea;exact afd W.kitx_list I.DK ⟨o,h1,h2⟩ e (λz=>nomatch z) h
end
def Kw(Ts:List String)(g:GD):GD:=λS=>(g S).bind λp=>(yZ Ts p.1).map λb=>(.bl b,p.2)
section
variable {X:Cx}{a b e:Expr}{pos p px:Pos}{x y:Str}{ga:GD}
def Jr{d:D}{b:Bool}(h:yZ [T] d=some b):Jq T d=some b:=by
 unfold yZ at h;cases e:Jq T d with
 |none=>rw[e]at h;cases h
 |some k=>rw[e]at h;cases k<;>exact h
def rJ(hg:Gl X "isinstance")(hm:X.mg "isinstance" =none)(YL:Gl X y)(hm2:X.mg y=none)(hv2:bootBuiltins y=some (.type T))(ha:JD X a ga)(hn2:y≠"__name__":=by decide)(hd2:BBT y:=by decide)
  (hs:starEach [a,.Name y px] X.env=(false,eval a X.env)::starEach [.Name y px] X.env:=by rfl)(hs2:starEach [.Name y px] X.env=(false,eval (.Name y px) X.env)::starEach [] X.env:=by rfl)(hpl:(backTo pos (starEach [.Name y px] X.env)).any (·.1)=false:=by rfl):
  JD X (.Call (.Name "isinstance" p) [a,.Name y px] [] pos) (Kw [T] ga):=⟨λB=>
 (qd (r:=λxs H Q=>∃x F d b,xs=[x,.ty T]/\Sub F H/\Rep F x d/\Jq T d=some b/\Q (.bl b) H) (λpins s O H xs us Q I r hh=>by
   obtain⟨x,F,d,b,e1,sb,rd,hk,q⟩:=hh;subst e1;obtain⟨u,w',rfl,ru,rw'⟩:=vals2 r;cases rw';exact Pg I sb rd ru (LW hk) λtk=>⟨.bl b,H,I.tok tk,rfl,q⟩) hg hm PyProof.Rows.Boot.isinstance (dN (ha.h B) (dN (OA (v:=.ty T) YL hm2 hv2 rfl hn2 hd2) iI hs2) hs) b_ b_ hs hpl).imp λO H Q hh=>by
 obtain⟨S,F,d,S',R,hg,q⟩:=hh;obtain⟨⟨d1,S1⟩,h1,hg⟩:=aj hg;obtain⟨k,h2,hg⟩:=aA hg;cases hg;exact⟨S,F,d1,_,R,h1,λv F1 H1 R1 st1 r1=>⟨v,F1,d1,k,rfl,R1.sub,r1,Jr h2,q _ F1 H1 R1 st1 (.bl k)⟩⟩⟩
noncomputable def g7:List D->Option (List Bool)
 |[]=>some []
 |.bl b::ds=>(g7 ds).map λbs=>b::bs
 |_=>none
theorem qq{F:Hp}:∀{vs:List V}{ds:List D}{bs:List Bool},bC F vs ds->g7 ds=some bs->vs=bs.map V.bl
 |_,_,_,.nil,h=>by cases h;rfl
 |_,_,_,@bC.cons _ v d vs ds r rs,h=>by
  cases d<;>try (cases h;done)
  obtain⟨bs,h1,h2⟩:=aA (show(g7 ds).map _=_ from h);subst h2;rw[n8 r,qq rs h1];rfl
def y9:List D->Option U
 |[.lst ds]=>(g7 ds).map λbs=>.t (.bl (bs.all id))
 |_=>none
def xN:List D->Option U
 |[.lst ds]=>(g7 ds).map λbs=>.t (.bl (bs.any id))
 |_=>none
def uK{P:D->Prop}{F:Hp}{f:List D->Option U}{w':U}(rs:bC F xs ds)(h:f ds=some w')(hn:f []=none)(h2:∀a b r,f (a::b::r)=none):∃x d,xs=[x]/\ds=[d]/\Rep F x d:=by
 cases rs with
 |nil=>rw[hn]at h;cases h
 |cons r rs=>
  cases rs with
  |nil=>exact⟨_,_,rfl,rfl,r⟩
  |cons _ _=>rw[h2]at h;cases h
def m9(hc:X.calm=true):gY X (.builtin "all") (rP y9):=by
 intro pins s O H xs us Q I r ⟨F,ds,w,sb,rs,hw,q⟩;obtain⟨x,d,rfl,rfl,r1⟩:=uK (P:=λ_=>True) rs hw rfl (λd _ _=>by cases d<;>rfl);cases d<;>try (cases hw;done)
 rename_i ds;obtain⟨bs,h1,rfl⟩:=aA (show(g7 ds).map _=some w from hw);obtain⟨a,vs,rfl,fa,ha,rB⟩:=sb.gO r1;obtain rfl:=qq rB h1;exact Jh hc pins s O H _ us Q I r ⟨a,bs,rfl,.inl ha,q _ F H (jm.refl ..) sb (.bl _)⟩
def nh(hc:X.calm=true):gY X (.builtin "any") (rP xN):=by
 intro pins s O H xs us Q I r ⟨F,ds,w,sb,rs,hw,q⟩;obtain⟨x,d,rfl,rfl,r1⟩:=uK (P:=λ_=>True) rs hw rfl (λd _ _=>by cases d<;>rfl);cases d<;>try (cases hw;done)
 rename_i ds;obtain⟨bs,h1,rfl⟩:=aA (show(g7 ds).map _=some w from hw);obtain⟨a,vs,rfl,fa,ha,rB⟩:=sb.gO r1;obtain rfl:=qq rB h1;exact Ji hc pins s O H _ us Q I r ⟨a,bs,rfl,.inl ha,q _ F H (jm.refl ..) sb (.bl _)⟩
noncomputable def YM:List D->Option U
 |[.int i,.int j,.int k]=>some (.t (.int (if j<i then(if k<j then k else j) else if k<i then k else i)))
 |_=>none
noncomputable def Bv:List D->Option U
 |[.int i,.int j]=>some (.t (.int (if j<i then j else i)))
 |_=>none
def za(hc:X.calm=true):gY X (.builtin "min") (rP Bv):=by
 intro pins s O H xs us Q I r ⟨F,ds,w,sb,rs,hw,q⟩;unfold Bv at hw;split at hw
 .rename_i i j;cases hw;cases rs with
  |cons r1 rs=>cases rs with
   |cons r2 rs=>
    cases rs;rw[jo r1,jo r2]at r;exact I0 hc pins s O H _ us Q I r ⟨i,j,rfl,q _ F H (jm.refl ..) sb (.int _)⟩
 .cases hw
noncomputable def pI:List D->Option U
 |[.lst ds]=>some (.m (.lst ds))
 |_=>none
noncomputable def sU:List D->Option U
 |[.lst ds]=>some (.t (.tup ds))
 |_=>none
def kU:gY X (.type "list") (rP pI):=by
 intro pins s O H xs us Q I r ⟨F,ds,w,sb,rs,hw,q⟩;obtain⟨x,d,rfl,rfl,r1⟩:=uK (P:=λ_=>True) rs hw rfl (λd _ _=>by cases d<;>rfl);cases d<;>try (cases hw;done)
 .cases hw;obtain⟨a,vs,rfl,fa,ha,rB⟩:=sb.gO r1;exact Cj pins s O H _ us Q I r ⟨a,vs,rfl,.inl (.inl ha),λp hp=>q _ F _ (jm.obj hp _) (sb.same (jm.obj (F:=F) hp _).same) ⟨p,rfl,hp,sb.fresh hp,vs,aR,rB⟩⟩
def lU:gY X (.type "tuple") (rP sU):=by
 intro pins s O H xs us Q I r ⟨F,ds,w,sb,rs,hw,q⟩;obtain⟨x,d,rfl,rfl,r1⟩:=uK (P:=λ_=>True) rs hw rfl (λd _ _=>by cases d<;>rfl);cases d<;>try (cases hw;done)
 .cases hw;obtain⟨a,vs,rfl,fa,ha,rB⟩:=sb.gO r1;exact AJ pins s O H _ us Q I r ⟨a,vs,rfl,.inl ⟨.inl ha,λp hp=>q _ _ _ (jm.root sb hp _) (sb.Cp hp) (.tup aR (rB.le (iK (sb.fresh hp))))⟩⟩
end
def pP.ky{k:Key}(e:H a=some (.dK kvs))(h:T8 y k):pP H a y (rW kvs k):=.inl ⟨kvs,k,.inl e,h,rfl⟩
def DT.ky{k:Key}{v:V}(e:H a=some (.dK kvs))(h:T8 y k)(hl:kvs.length<sizeLine):DT H a y v (upd H a (.dK (putK kvs k v))):=.inl ⟨kvs,k,e,h,hl,rfl⟩
noncomputable def keyOf:D->Option Key
 |.int i=>some (.inl i)
 |.str z=>some (.inr z)
 |_=>none
def rK{F:Hp}{v:V}{d:D}{k:Key}(r:Rep F v d)(h:keyOf d=some k):T8 v k:=by
 cases r<;>cases h<;>first|exact .inl rfl|exact .inr ⟨_,rfl,rfl⟩
noncomputable def bW{κ:Type}[DecidableEq κ](kvs:List (κ×D))(k:κ):Option D:=(kvs.find? λkv=>decide (kv.1=k)).map (·.2)
noncomputable def putD{κ:Type}[DecidableEq κ](kvs:List (κ×D))(k:κ)(d:D):List (κ×D):=
 if(kvs.any λkv=>decide (kv.1=k))=true then kvs.map (λkv=>if kv.1=k then(kv.1,d) else kv) else kvs++[(k,d)]
theorem kI{κ:Type}[DecidableEq κ]{F:Hp}{k:κ}{d:D}:∀{ws:List (κ×V)}{kvs:List (κ×D)},Paired (gw F) ws kvs->bW kvs k=some d->∃v,rW ws k=some v/\Rep F v d
 |_,_,.nil,h=>by cases h
 |_,_,@Paired.cons _ _ _ p q ws kvs r rs,h=>by
  by_cases e:q.1=k
  .have e':p.1=k:=r.1.trans e;refine⟨p.2,uB e',?_⟩;have:bW (q::kvs) k=some q.2:=by simp[bW,ab0,e]
   rw[this]at h;cases h;exact r.2
  .have e':¬p.1=k:=λz=>e (r.1.symm.trans z);have:bW (q::kvs) k=bW kvs k:=by simp[bW,ab0,e]
   rw[this]at h;obtain⟨v,h1,h2⟩:=kI rs h;exact⟨v,by rw[qg e'];exact h1,h2⟩
theorem vQ{κ:Type}[DecidableEq κ]{F:Hp}{k:κ}:∀{ws:List (κ×V)}{kvs:List (κ×D)},Paired (gw F) ws kvs->bW kvs k=none->rW ws k=none
 |_,_,.nil,h=>rfl
 |_,_,@Paired.cons _ _ _ p q ws kvs r rs,h=>by
  by_cases e:q.1=k
  .have:bW (q::kvs) k=some q.2:=by simp[bW,ab0,e]
   rw[this]at h;cases h
  .have e':¬p.1=k:=λz=>e (r.1.symm.trans z);have:bW (q::kvs) k=bW kvs k:=by simp[bW,ab0,e]
   rw[this]at h;rw[qg e'];exact vQ rs h
theorem D9{κ:Type}[DecidableEq κ]{F:Hp}{k:κ}:∀{ws:List (κ×V)}{kvs:List (κ×D)},Paired (gw F) ws kvs->(ws.any λkv=>decide (kv.1=k))=(kvs.any λkv=>decide (kv.1=k))
 |_,_,.nil=>rfl
 |_,_,.cons r rs=>by rw[acM,acM,D9 rs,r.1]
theorem Ea{κ:Type}[DecidableEq κ]{F:Hp}{k:κ}{v:V}{d:D}(r:Rep F v d):∀{ws:List (κ×V)}{kvs:List (κ×D)},Paired (gw F) ws kvs->Paired (gw F) (ws.map λkv=>if kv.1=k then(kv.1,v) else kv) (kvs.map λkv=>if kv.1=k then(kv.1,d) else kv)
 |_,_,.nil=>.nil
 |_,_,@Paired.cons _ _ _ p q ws kvs h hs=>by
  refine .cons ?_ (Ea r hs);show gw F (if p.1=k then(p.1,v) else p) (if q.1=k then(q.1,d) else q);rw[h.1];by_cases e:q.1=k
  .rw[if_pos e,if_pos e];exact⟨rfl,r⟩
  .rw[if_neg e,if_neg e];exact h
theorem xj{α β:Type}{P:α->β->Prop}{x:α}{y:β}(p:P x y):∀{l:List α}{r:List β},Paired P l r->Paired P (l++[x]) (r++[y])
 |_,_,.nil=>.cons p .nil
 |_,_,.cons q qs=>.cons q (xj p qs)
def ze{κ:Type}[DecidableEq κ]{F:Hp}{k:κ}{v:V}{d:D}{ws:List (κ×V)}{kvs:List (κ×D)}(h:Paired (gw F) ws kvs)(r:Rep F v d):Paired (gw F) (putK ws k v) (putD kvs k d):=by
 unfold putK putD;rw[D9 h];by_cases e:(kvs.any λkv=>decide (kv.1=k))=true
 .rw[if_pos e,if_pos e];exact Ea r h
 .rw[if_neg e,if_neg e];exact xj ⟨rfl,r⟩ h
def LX:D->Option D
 |.tup ds=>if kL 8 (.tup ds)=true then some (nf (.tup ds)) else none
 |_=>none
def zf{F:Hp}{v:V}{d:D}{ks:D}(sb:Sub F H)(r:Rep F v d)(h:LX d=some ks):∃b,v= .ref b/\Kd H b ks:=by
 cases r with
 |@tup a vs ds e rs=>
  obtain⟨h1,h2⟩:=cV (show(if kL 8 (.tup ds)=true then some (nf (.tup ds)) else none)=some ks from h);subst h2;exact⟨a,rfl,_,Rep.le sb (.tup e rs),h1,rfl⟩
 |cI=>cases h
 |bl _=>cases h
 |int _=>cases h
 |str _=>cases h
 |lst _ _=>cases h
def xm:U->D->Option D
 |.t (.tup ds),.int i=>dZ ds i
 |.t (.lst ds),.int i=>dZ ds i
 |.m (.lst ds),.int i=>dZ ds i
 |.b (.lst ds),.int i=>dZ ds i
 |.b (.dct kvs),k=>(keyOf k).bind (bW kvs)
 |_,_=>none
def b9(i:Nat)(gb:GD):GD:=λS=>match S[i]? with
 |some (some _)=>(gb S).bind λp=>match p.2[i]? with
  |some (some u)=>(xm u p.1).map λd=>(d,p.2)
  |_=>none
 |_=>none
section
variable {X:Cx}{a b e:Expr}{pos p px:Pos}{x:Str}{gb:GD}
def Js{k d:D}(h:xm u k=some d):(∃ds ii,k= .int ii/\dZ ds ii=some d/\(u= .t (.tup ds)\/u= .t (.lst ds)\/u= .m (.lst ds)\/u= .b (.lst ds)))\/∃kvs,u= .b (.dct kvs)/\(keyOf k).bind (bW kvs)=some d:=by
 cases u with
 |t e=>
  cases e with
  |tup ds=>
   cases k with
   |int ii=>exact .inl ⟨ds,ii,rfl,h,.inl rfl⟩
   |_=>cases h
  |lst ds=>
   cases k with
   |int ii=>exact .inl ⟨ds,ii,rfl,h,.inr (.inl rfl)⟩
   |_=>cases h
  |_=>cases h
 |m o=>
  cases o with
  |lst ds=>
   cases k with
   |int ii=>exact .inl ⟨ds,ii,rfl,h,.inr (.inr (.inl rfl))⟩
   |_=>cases h
  |_=>cases h
 |b o=>
  cases o with
  |lst ds=>
   cases k with
   |int ii=>exact .inl ⟨ds,ii,rfl,h,.inr (.inr (.inr rfl))⟩
   |_=>cases h
  |dct kvs=>exact .inr ⟨kvs,rfl,by cases k<;>exact h⟩
  |_=>cases h
 |_=>cases h
def Uy(hu:X.A.units+20<cLine)(hb:JD X b gb)(hs:nY b:=by first|(intro _ _;rfl))(hN:X.N[i]? =some x:=by rfl)(hv:pF X.env.scope x:=by trivial)
  (hd:BBT x:=by decide)(hcd:BBU x:=by decide):JD X (.Subscript e_ b pos) (b9 i gb):=⟨λB=>PE.orelse λO H Q hh=>by
 obtain⟨S,F,d,S',R,hg,q⟩:=hh;unfold b9 at hg;split at hg
 .rename_i u0 Jt;obtain⟨v0,hv0,_⟩:=R.rep i u0 Jt;obtain⟨⟨k,S1⟩,h1,hg⟩:=aj hg;dsimp only at hg;split at hg
  .rename_i u hS;obtain⟨d',hr,hg⟩:=aA hg;cases hg;have Oh:∀F1 H1,Rel X.K B S' O F1 H1->AK X.K F1 H1 v0 u:=λF1 H1 R1=>by
    obtain⟨v,k1,k2⟩:=R1.rep i u hS;rw[hv0]at k1;cases k1;exact k2
   have seq:∀(Y:V->V->Hp->VK->Prop),PE X (.Subscript e_ b pos) (Tt Y (DN i) (tD X.K B gb))->(∀v F1 H1,Rel X.K B S' O F1 H1->Step S S' O F H F1 H1->Rep F1 v k->Y v0 v H1 Q)->∃t',PE X (.Subscript e_ b pos) t'/\t' O H Q:=λY hY h=>
    ⟨_,hY,v0,hv0,S,F,k,S',R,h1,λv F1 H1 R1 st1 r1=>h v F1 H1 R1 st1 r1⟩
   have dict:∀kvs,(∀F1 H1,Rel X.K B S' O F1 H1->∃a ws,v0= .ref a/\H1 a=some (.dK ws)/\Paired (gw F1) ws kvs)->(keyOf k).bind (bW kvs)=some d->∃t',PE X (.Subscript e_ b pos) t'/\t' O H Q:=λkvs hat hr=>by
    obtain⟨kk,e1,e2⟩:=aj hr;refine⟨_,Ce hu (cA hN hv hd hcd) (hb.h B) hs,v0,hv0,S,F,k,S',R,h1,λv F1 H1 R1 st1 r1=>?_⟩;obtain⟨a,ws,rfl,ha,pr⟩:=hat F1 H1 R1;obtain⟨w',z1,z2⟩:=kI pr e2;exact⟨a,w',rfl,by rw[<-z1];exact pP.ky ha (rK r1 e1),q w' F1 H1 R1 st1 z2⟩
   have list:∀ds ii,k= .int ii->dZ ds ii=some d->(∀F1 H1,Rel X.K B S' O F1 H1->∃a vs,v0= .ref a/\(mX X.K H1 a vs\/A6 X.K H1 a vs)/\bC F1 vs ds)->∃t',PE X (.Subscript e_ b pos) t'/\t' O H Q:=λds ii ek hrr hat=>by
    subst ek;refine seq _ (Ls Lv (cA hN hv hd hcd) (hb.h B) hs) λv F1 H1 R1 st1 r1=>?_;obtain⟨a,vs,rfl,ha,rs⟩:=hat F1 H1 R1;obtain⟨w',z1,z2⟩:=rs.dZ hrr;rw[jo r1];rcases ha with ha|ha
    .exact .inl ⟨a,vs,ii,w',rfl,rfl,ha,z1,q w' F1 H1 R1 st1 z2⟩
    .exact .inr (.inl ⟨a,vs,ii,w',rfl,rfl,ha,z1,q w' F1 H1 R1 st1 z2⟩)
   rcases Js hr with⟨ds,ii,rfl,hr,rfl|rfl|rfl|rfl⟩|⟨kvs,rfl,hr⟩
   .exact list ds ii rfl hr λF1 H1 R1=>let⟨a,vs,e1,fa,ha,rs⟩:=R1.sub.mZ (Oh F1 H1 R1);⟨a,vs,e1,.inr (.inl ha),rs⟩
   .exact list ds ii rfl hr λF1 H1 R1=>let⟨a,vs,e1,fa,ha,rs⟩:=R1.sub.gO (Oh F1 H1 R1);⟨a,vs,e1,.inl (.inl ha),rs⟩
   .exact list ds ii rfl hr λF1 H1 R1=>let⟨a,e1,fa,vs,ha,rs⟩:=Oh F1 H1 R1;⟨a,vs,e1,.inl (mX.of ha),rs⟩
   .exact list ds ii rfl hr λF1 H1 R1=>let⟨a,e1,fa,vs,ha,rs⟩:=Oh F1 H1 R1;⟨a,vs,e1,.inl (mX.of ha),rs⟩
   .exact dict kvs (λF1 H1 R1=>let⟨a,e1,fa,ws,ha,pr⟩:=Oh F1 H1 R1;⟨a,ws,e1,ha,pr⟩) hr
  .cases hg
 .cases hg⟩
noncomputable def Ga:U->Option Nat
 |.t (.tup ds)=>some ds.length
 |.t (.lst ds)=>some ds.length
 |.m (.lst ds)=>some ds.length
 |.b (.lst ds)=>some ds.length
 |_=>none
def nq(i:Nat):GD:=λS=>match S[i]? with
 |some (some u)=>(Ga u).map λn=>(.int (n:Nat),S)
 |_=>none
theorem gz{α β:Type}{P:α->β->Prop}:∀{l:List α}{r:List β},Paired P l r->l.length=r.length
 |_,_,.nil=>rfl
 |_,_,.cons _ ps=>congrArg Nat.succ (gz ps)
def jL(hg:Gl X "len")(hm:X.mg "len" =none)(hN:X.N[i]? =some x:=by rfl)(hv:pF X.env.scope x:=by trivial)
  (hd:BBT x:=by decide)(hcd:BBU x:=by decide)(he:starEach [.Name x px] X.env=(false,eval e_ X.env)::starEach [] X.env:=by rfl)(hpl:(backTo pos (starEach [] X.env)).any (·.1)=false:=by rfl):
  JD X (.Call (.Name "len" p) [.Name x px] [] pos) (nq i):=⟨λB=>PE.orelse λO H Q hh=>by
 obtain⟨S,F,d,S',R,hg',q⟩:=hh;unfold nq at hg';split at hg'
 .rename_i u hS;obtain⟨n,hn,hg'⟩:=aA hg';cases hg';obtain⟨v0,hv0,r0⟩:=R.rep i u hS;have fin:=q (.int n) F H R (Step.refl ..) (.int _);have arg:PA X [.Name x px] (RC (DN i) TV):=dN (cA hN hv hd hcd) iI he;have list:∀a vs,v0= .ref a->(mX X.K H a vs\/A6 X.K H a vs)->vs.length=n->∃t',PE X (.Call (.Name "len" p) [.Name x px] [] pos) t'/\t' O H Q:=λa vs e1 ha hl=>
   ⟨_,qd nZ hg hm agq arg b_ b_ he hpl,v0,hv0,a,vs,by rw[e1],ha,by rw[hl];exact fin⟩
  unfold Ga at hn;split at hn
  .cases hn;obtain⟨a,vs,e1,fa,ha,rs⟩:=R.sub.mZ r0;exact list a vs e1 (.inr (.inl ha)) rs.length
  .cases hn;obtain⟨a,vs,e1,fa,ha,rs⟩:=R.sub.gO r0;exact list a vs e1 (.inl (.inl ha)) rs.length
  .cases hn;obtain⟨a,e1,fa,vs,ha,rs⟩:=r0;exact list a vs e1 (.inl (mX.of ha)) rs.length
  .cases hn;obtain⟨a,e1,fa,vs,ha,rs⟩:=r0;exact list a vs e1 (.inl (mX.of ha)) rs.length
  .cases hn
 .cases hg'⟩
end
def vR(o:MO)(k d:D):Option MO:=match o with
 |.dct kvs=>(keyOf k).bind λkk=>if kvs.length<100000 then some (.dct (putD kvs kk d)) else none
 |.lst ds=>match k with
  |.int i=>(Hg ds.length i).map λj=>.lst (ds.set j d)
  |_=>none
 |_=>none
def AN(i:Nat)(gk gv:GD):GS:=λS=>(gv S).bind λp=>match p.2[i]? with
 |some (some _)=>(gk p.2).bind λr=>(vP r.2 i λo=>(vR o r.1 p.1).map λo'=>(.cI,o')).map λz=>.nx z.2
 |_=>none
theorem bC.set{F:Hp}{v:V}{d:D}(r:Rep F v d):∀{vs:List V}{ds:List D}(j:Nat),bC F vs ds->bC F (vs.set j v) (ds.set j d)
 |_,_,_,.nil=>.nil
 |_,_,0,.cons _ rs=>.cons r rs
 |_,_,j+1,.cons q rs=>.cons q (bC.set r j rs)
section
variable {X:Cx}{a b c e value k:Expr}{pos p px pos':Pos}{x y:Str}{g gk gv:GD}
def qu(hu:X.A.units+20<cLine)(hk:JD X k gk)(hval:JD X value gv)(hN:X.N[i]? =some x:=by rfl)(hv:pF X.env.scope x:=by trivial)
  (hd:BBT x:=by decide)(hcd:BBU x:=by decide)
  (hs:swapsWith value (some (.Subscript e_ k pos')) pos.line X.env=pure false:=by rfl)
  (hs1:swapsWithSole [.Subscript e_ k pos'] value pos.line X.env=pure false:=by rfl)(hs2:swappedStores [.Subscript e_ k pos'] value X.env=pure none:=by rfl)
  (Oi:(assignEach [.Subscript e_ k pos'] X.env).map (·.2)=[assign (.Subscript e_ k pos') X.env]:=by rfl)
  (LY:∀v,assign (.Subscript e_ k pos') X.env v=(do
   let ov <-holding [v] (eval e_ X.env)
   let iv <-holding [v,ov] (eval k X.env)
   standAt pos'
   holding [v,ov,iv] (setItem ov iv v)
   release [v,ov,iv] []):=by intro _;rfl):
  JS X (.Assign [.Subscript e_ k pos'] value pos) (AN i gk gv):=⟨λB=>PS.orelse λD O H hh=>by
 obtain⟨S,F,o,R,hg,q⟩:=hh;obtain⟨⟨d,S1⟩,h1,hg⟩:=aj hg;dsimp only at hg;split at hg
 .rename_i u0 Jt;obtain⟨⟨kd,S2⟩,h2,hg⟩:=aj hg;obtain⟨⟨nd,S3⟩,h3,hg⟩:=aA hg;subst hg;obtain⟨u,u',mo,mo',hS,LP,hio,hf,Og,rfl⟩:=m5 h3;obtain⟨WQ,hw,hf2⟩:=aA hf;cases hf2;have hv0:∀F1 H1,Rel X.K B S1 O F1 H1->∃v,O[i]? =some (some v):=λF1 H1 R1=>let⟨v,k1,_⟩:=R1.rep i u0 Jt;⟨v,k1⟩
  cases mo with
  |dct kvs=>
   obtain⟨kk,e1,hw⟩:=aj hw;obtain⟨hl,rfl⟩:=cV hw;refine⟨_,G7 hu (cA hN hv hd hcd) (hk.h B) (hval.h B) hs,S,F,d,S1,R,h1,λv F1 H1 R1 st1 r1=>?_⟩;obtain⟨v0,hv0⟩:=hv0 F1 H1 R1;refine⟨v0,hv0,S1,F1,kd,S2,R1,h2,λy F2 H2 R2 st2 r2=>?_⟩;obtain⟨v',k1,k2⟩:=R2.rep i u hS;rw[hv0]at k1;cases k1;obtain⟨a,o2,rfl,fa,eo,k3⟩:=k2.cL LP;rw[hio]at eo;cases eo;obtain⟨ws,ha,pr⟩:=k3;refine⟨a,_,rfl,DT.ky ha (rK r2 e1) (by rw[gz pr];exact aaU hl b_),?_⟩;obtain⟨R3,st3⟩:=R2.write (ho:=.dK (putK ws kk v)) hS Og hv0 ⟨_,aR,ze pr (r1.le st2.ext.le)⟩;exact q O F2 _ R3 λb o z=>st2.ext.le b o (st1.ext.le b o z)
  |lat _ _=>cases hw
  |gF _ _=>cases hw
  |Fi _ _=>cases hw
  |lst ds=>
   unfold vR at hw;dsimp only at hw;split at hw
   .rename_i ii;obtain⟨j,e1,rfl⟩:=aA hw;refine⟨_,Ti (hval.h B) (Th (cA hN hv hd hcd) (hk.h B) set_list LY) hs1 hs2 Oi,S,F,d,S1,R,h1,λv F1 H1 R1 st1 r1=>?_⟩;obtain⟨v0,hv0⟩:=hv0 F1 H1 R1;refine⟨v0,hv0,S1,F1,_,S2,R1,h2,λy F2 H2 R2 st2 r2=>?_⟩;obtain⟨v',k1,k2⟩:=R2.rep i u hS;rw[hv0]at k1;cases k1;obtain⟨a,o2,rfl,fa,eo,k3⟩:=k2.cL LP;rw[hio]at eo;cases eo;obtain⟨vs,ha,rs⟩:=k3;rw[jo r2];refine⟨a,vs,_,j,rfl,rfl,ha,by rw[rs.length];exact e1,?_⟩;obtain⟨R3,st3⟩:=R2.write (ho:=.lst (vs.set j v)) hS Og hv0 ⟨_,aR,rs.set (r1.le st2.ext.le) j⟩;exact q O F2 _ R3 λb o z=>st2.ext.le b o (st1.ext.le b o z)
   .cases hw
 .cases hg⟩
def Rel.acZ{F:Hp}{a:Addr}{o':HO}(R:Rel K B S O F H)(hn:¬cL S O a)(hf:F a=none)(hB:B.H a=none)(hh:H a=some o)(hz:∀ob u,o≠.fy ob u):Rel K B S O F (upd H a o'):=by
 have WN:∀b ob w,H b=some (.fy ob w)->upd H a o' b=some (.fy ob w):=λb ob w z=>by
  rw[aO (λe=>by rw[e,hh]at z;cases z;exact hz _ _ rfl)];exact z
 refine⟨λb u z=>?_,R.len,λj w z=>?_,R.Hq,R.own,R.bor,R.par,⟨R.ext.le,λb u z n=>?_,R.ext.kj,λb u z=>?_,λb ob w z=>WN b ob w (R.ext.fy b ob w z)⟩⟩
 .have hb:b≠a:=λe=>by rw[e,hf]at z;cases z
  rw[aO hb];exact R.sub b u z
 .obtain⟨v,h1,h2⟩:=R.rep j w z;refine⟨v,h1,h2.le (λ_ _ z=>z) WN λc hm hc=>?_⟩;have hca:c≠a:=λe=>hn ⟨j,w,z,hm,by rw[h1,hc,e]⟩;obtain⟨c',_,e,f,_⟩:=h2.cL hm;rw[hc]at e;cases e;exact⟨λo z=>by rw[aO hca];exact z,f⟩
 .rw[aO (λe=>by rw[e,hB]at z;cases z)];exact R.ext.keep b u z n
 .by_cases hb:b=a
  .exact⟨o',by rw[hb,aR]⟩
  .rw[aO hb];exact R.ext.there b u z
noncomputable def kW:List (Str×GD)->SS->Option (List (Key×D)×SS)
 |[],S=>some ([],S)
 |(z,g)::r,S=>(g S).bind λp=>(kW r p.2).map λq=>((.inr z,p.1)::q.1,q.2)
def mC(kvs more:List (Key×D)):List (Key×D):=more.foldl (λacc kv=>putD acc kv.1 kv.2) kvs
theorem zh{F:Hp}:∀{more:List (Key×V)}{RU:List (Key×D)}{ws:List (Key×V)}{kvs:List (Key×D)},Paired (gw F) more RU->Paired (gw F) ws kvs->Paired (gw F) (qi ws more) (mC kvs RU)
 |_,_,_,_,.nil,h=>h
 |_,_,ws,kvs,@Paired.cons _ _ _ p q _ _ r rs,h=>by
  have e:=ze (k:=q.1) h r.2;show Paired (gw F) (qi (putK ws p.1 p.2) _) (mC (putD kvs q.1 q.2) _);rw[r.1];exact zh rs e
def zl(AO:List (Str×GD)):GE:=λS=>(kW AO S).map λp=>(.m (.dct (mC [] p.1)),p.2)
structure JPs(X:Cx)(pos:Pos)(keys:List (BBL))(values:BBC)(AO:List (Str×GD)):Prop where
 h:∀B,Yg X pos keys values (AO.map λp=>(tC (.str p.1),tD X.K B p.2))
def Hu:JPs X pos [] [] []:=⟨λB=>OR⟩
def nu{z:Str}{j:Nat}{pk:Pos}{v:Expr}{ks:List (BBL)}{vs:BBC}(hv:JD X v g)(hr:JPs X pos ks vs AO):JPs X pos (some (.Constant (.str z) j pk)::ks) (v::vs) ((z,g)::AO):=⟨λB=>Lo KY (hv.h B) (hr.h B)⟩
theorem Eb{B:Base}{O:St}:∀{AO:List (Str×GD)}{S0 S:SS}{F0 H0 F H:Hp}{kvs:List (Key×D)}{S':SS}{Q:List (V×V)->Hp->Prop},Rel X.K B S O F H->Step S0 S O F0 H0 F H->kW AO S=some (kvs,S')->
  (∀(ws:List (Key×V))(F' H':Hp),Rel X.K B S' O F' H'->Step S0 S' O F0 H0 F' H'->Paired (gw F') ws kvs->Q (ws.map λkv=>(kV kv.1,kv.2)) H')->yJ (AO.map λp=>(tC (.str p.1),tD X.K B p.2)) O H Q
 |[],S0,S,F0,H0,F,H,kvs,S',Q,R,st,h,q=>by cases h;exact q [] F H R st .nil
 |(z,g)::r,S0,S,F0,H0,F,H,kvs,S',Q,R,st,h,q=>by
  obtain⟨⟨d,S1⟩,h1,h⟩:=aj h;obtain⟨⟨agz,S2⟩,h2,h⟩:=aA h;cases h;show tC (.str z) O H λx H1=>tD X.K B g O H1 λy H2=>yJ _ O H2 λps H3=>Q ((x,y)::ps) H3;refine⟨S,F,d,S1,R,h1,λv F1 H1 R1 st1 r1=>?_⟩;refine Eb (S0:=S1) (F0:=F1) (H0:=H1) R1 (Step.refl ..) h2 λws F2 H2 R2 st2 pr=>?_;exact q ((.inr z,v)::ws) F2 H2 R2 ((st.trans st1).trans st2) (.cons ⟨rfl,r1.le st2.ext.le⟩ pr)
def Hv{keys:List (BBL)}{values:BBC}(h:JPs X pos keys values AO)(hall:keys.all (·.isSome)=true:=by rfl)(hl:keys.length=values.length:=by rfl)(h0:keys≠[]:=by decide)(h15:keys.length<=15:=by decide)(hk:AO.length<=15:=by decide):
  JE X (.Dict keys values pos) (zl AO):=⟨λB=>(OS (h.h B) hall hl h0 h15).imp λO H Q hh=>by
 obtain⟨S,F,u,S',R,hg,q⟩:=hh;obtain⟨⟨kvs,S1⟩,h1,hg⟩:=aA hg;cases hg;intro p hp;have n:=jm.obj (F:=F) hp (.dK []);have hn:¬cL S O p:=λm=>by obtain⟨o,ho⟩:=R.has m;rw[hp]at ho;cases ho
 refine Eb (S0:=S) (F0:=F) (H0:=upd H p (.dK [])) (R.new n (R.sub.same n.same)) (Step.refl ..) h1 λws F1 H1 R1 st1 pr=>?_;have hp1:H1 p=some (.dK []):=st1.ext.keep p _ aR hn;have hf1:F1 p=none:=st1.ext.kj p _ aR hn (R.sub.fresh hp);have hn1:¬cL S1 O p:=λm=>hn (st1.mu p m);have hB:B.H p=none:=none_of R.ext.there hp;have len:ws.length<=15:=by
  rw[gz pr];have:∀{AO:List (Str×GD)}{S:SS}{kvs:List (Key×D)}{S':SS},kW AO S=some (kvs,S')->kvs.length=AO.length:=λ{AO}=>by
   induction AO with
   |nil=>intro S kvs S' h;cases h;rfl
   |cons p r ih=>
    intro S kvs S' h;obtain⟨⟨d,T1⟩,k1,h⟩:=aj (show(p.2 S).bind _=_ from h);obtain⟨⟨kv2,T2⟩,k2,h⟩:=aA h;cases h;show kv2.length+1=r.length+1;rw[ih k2]
  rw[this h1];exact hk
 refine⟨hp1,ws,rfl,len,?_⟩;have R2:=R1.acZ (o':=.dK (qi [] ws)) hn1 hf1 hB hp1 (λ_ _ z=>by cases z);refine q (.ref p) F1 _ R2 ⟨⟨st1.ext.le,λb o z m=>?_,λb o z m f=>?_,λb o z=>?_,λb ob w z=>?_⟩,st1.mu,st1.slots⟩ ⟨p,rfl,hp,hf1,⟨_,aR,zh pr .nil⟩,hn1,hB⟩
 .have hb:b≠p:=bx z hp;rw[aO hb];exact st1.ext.keep b o (by rw[aO hb];exact z) m
 .have hb:b≠p:=bx z hp;exact st1.ext.kj b o (by rw[aO hb];exact z) m f
 .have hb:b≠p:=bx z hp;rw[aO hb];exact st1.ext.there b o (by rw[aO hb];exact z)
 .have hb:b≠p:=bx z hp;rw[aO hb];exact st1.ext.fy b ob w (by rw[aO hb];exact z)⟩
end
noncomputable def nv(g:Option GD)(S:SS):Option (BBM×SS):=match g with
 |none=>some (none,S)
 |some g=>(g S).bind λp=>match p.1 with
  |.int i=>some (some i,p.2)
  |_=>none
inductive tPO(K:AAD)(B:Base)(g:Option GD)(O:St)(H:Hp)(Q:BBM->Hp->Prop):Prop
 |mk(S:SS)(F:Hp)(o:BBM)(S':SS)(R:Rel K B S O F H)(hg:nv g S=some (o,S'))(q:∀F' H',Rel K B S' O F' H'->Step S S' O F H F' H'->Q o H')
structure JO(X:Cx)(e:BBL)(g:Option GD):Prop where
 h:∀B,PO X e (tPO X.K B g)
def PO.imp{e:BBL}{t t':TO}(h:PO X e t)(k:∀O H Q,t' O H Q->t O H Q):PO X e t':=λpins s O H Q I q=>h pins s O H Q I (k O H Q q)
def uL :JO X none none:=⟨λB=>OV.imp λO H Q ⟨S,F,o,S',R,h,q⟩=>by cases h;exact q F H R (Step.refl ..)⟩
def uM{e:Expr}(h:JD X e g):JO X (some e) (some g):=⟨λB=>(OW (h.h B)).imp λO H Q hh=>by
 obtain⟨S,F,o,S',R,h,q⟩:=hh;obtain⟨⟨d,S1⟩,h1,h⟩:=aj (show(g S).bind _=_ from h);cases d<;>try (cases h)
 exact⟨S,F,_,_,R,h1,λv F1 H1 R1 st1 r1=>⟨_,jo r1,q F1 H1 R1 st1⟩⟩⟩
def RV(d:D)(lo hi:BBM):Option U:=match d with
 |.tup ds=>some (.t (.tup (cutD ds lo hi)))
 |.lst ds=>some (.m (.lst (cutD ds lo hi)))
 |_=>none
def bC.cut{F:Hp}(rs:bC F vs ds)(lo hi:BBM):bC F (AH vs lo hi) (cutD ds lo hi):=by
 unfold AH cutD;rw[rs.length];exact(rs.drop _).take _
def ac0:V->BBM->BBM->Hp->VK->Prop:=λx lo hi H Q=>∃F d u,Sub F H/\Rep F x d/\RV d lo hi=some u/\∀v F' H',jm F H F' H'->Sub F' H'->uD H F' H' v u->Q v H'
def ac1 :SlR X ac0:=by
 intro pins s O H x v vl vu lo hi sl Q I rx hs pl pu ⟨F,d,u,sb,r,hf,q⟩;cases d with
 |tup ds=>
  cases hf;have r0:=r;obtain⟨a,xs,rfl,fa,ha,rs⟩:=sb.mZ r;have hl:=rs.length;by_cases hw:HT.fR xs.length 0 lo=0/\HT.fR xs.length xs.length hi=xs.length
  .cases rx;obtain⟨its,rv,ht,hz⟩:=I.tuple (.inl ha);have hlen:its.toArray.size=xs.length:=by rw[aaQ];exact rv.length.symm
   refine⟨"tuple",_,acJ.lookup,ht.typeIs,?_⟩;refine HT.Jj ht hs pl pu (by rw[hlen];exact hw) ⟨.ref a,H,I,rfl,q _ F H (jm.refl ..) sb ?_⟩;have e:cutD ds lo hi=ds:=by
    unfold cutD;rw[<-hl,hw.1,hw.2,List.drop_zero,Nat.sub_zero,aef (by rw[hl];exact aaP _)]
   show Rep F _ (.tup (cutD ds lo hi));rw[e];exact r0
  .exact Ug pins s O H (.ref a) v vl vu lo hi sl Q I rx hs pl pu ⟨a,xs,rfl,.inl ha,hw,λp hp=>q _ _ _ (jm.root sb hp _) (sb.Cp hp) (.tup aR ((rs.cut lo hi).le (iK (sb.fresh hp))))⟩
 |lst ds=>
  cases hf;obtain⟨a,xs,rfl,fa,ha,rs⟩:=sb.gO r;exact Hj pins s O H (.ref a) v vl vu lo hi sl Q I rx hs pl pu ⟨a,xs,rfl,.inl ha,λp hp=>q _ F _ (jm.obj hp _) (sb.same (jm.obj (F:=F) hp _).same) ⟨p,rfl,hp,sb.fresh hp,_,aR,rs.cut lo hi⟩⟩
 |str z=>cases hf
 |cI=>cases hf
 |bl b=>cases hf
 |int b=>cases hf
def Uz(g:GD)(lo hi:Option GD):GE:=λS=>(g S).bind λp=>(nv lo p.2).bind λl=>(nv hi l.2).bind λh=>(RV p.1 l.1 h.1).map λu=>(u,h.2)
section
variable {X:Cx}{a b c e:Expr}{lo hi:BBL}{pos p p2 px:Pos}{x y:Str}{g ga:GD}{gA:GA}{gl gh:Option GD}
def uN(he:JD X e g)(hl:JO X lo gl)(hh:JO X hi gh):JE X (.Subscript e (.Slice lo hi none p2) pos) (Uz g gl gh):=⟨λB=>(DX ac1 (he.h B) (hl.h B) (hh.h B)).imp λO H Q hh=>by
 obtain⟨S,F,u,S',R,hg,q⟩:=hh;obtain⟨⟨d,S1⟩,h1,hg⟩:=aj hg;obtain⟨⟨l,S2⟩,h2,hg⟩:=aj hg;obtain⟨⟨h,S3⟩,h3,hg⟩:=aj hg;obtain⟨u',h4,hg⟩:=aA hg;cases hg;exact⟨S,F,d,S1,R,h1,λv F1 H1 R1 st1 r1=>⟨S1,F1,l,S2,R1,h2,λF2 H2 R2 st2=>⟨S2,F2,h,_,R2,h3,λF3 H3 R3 st3=>⟨F3,d,_,R3.sub,r1.le (λb o z=>st3.ext.le b o (st2.ext.le b o z)),h4,λv F4 H4 n s4 r4=>q v F4 H4 (R3.new n s4) (((st1.trans st2).trans st3).trans n.step) (r4.FW R3 ((st1.trans st2).trans st3))⟩⟩⟩⟩⟩
noncomputable def AQ(ns:BBD)(lo hi:BBM):BBD:=(ns.drop (HT.fR ns.length 0 lo)).take (HT.fR ns.length ns.length hi-HT.fR ns.length 0 lo)
def Ph(i:Nat)(lo hi:Option GD):GE:=λS=>match S[i]? with
 |some (some (.s ns))=>(nv lo S).bind λl=>(nv hi l.2).map λh=>(.m (.lst ((AQ ns l.1 h.1).map D.int)),h.2)
 |_=>none
theorem Bw{F:Hp}:∀ns:BBD,bC F (ns.map V.int) (ns.map D.int)
 |[]=>.nil
 |n::ns=>.cons (.int n) (Bw ns)
def Ju(ns:BBD)(lo hi:BBM):AH (ns.map V.int) lo hi=(AQ ns lo hi).map V.int:=by
 unfold AH AQ;rw[aar,ahh,List.map_drop]
def Jv(hl:JO X lo gl)(hh:JO X hi gh)(hN:X.N[i]? =some x:=by rfl)(hv:pF X.env.scope x:=by trivial)
  (hd:BBT x:=by decide)(hcd:BBU x:=by decide):JE X (.Subscript e_ (.Slice lo hi none p2) pos) (Ph i gl gh):=⟨λB=>(DX Hj (cA hN hv hd hcd) (hl.h B) (hh.h B)).imp λO H Q hh=>by
 obtain⟨S,F,u,S',R,hg,q⟩:=hh;unfold Ph at hg;split at hg
 .rename_i ns hS;obtain⟨⟨l,S1⟩,h1,hg⟩:=aj hg;obtain⟨⟨h,S2⟩,h2,hg⟩:=aA hg;cases hg;obtain⟨v0,hv0,a,rfl,sc⟩:=R.rep i _ hS;refine⟨_,hv0,S,F,l,S1,R,h1,λF1 H1 R1 st1=>⟨S1,F1,h,_,R1,h2,λF2 H2 R2 st2=>?_⟩⟩;have sc2:=(sc.le st1.ext.fy).le st2.ext.fy;refine⟨a,_,rfl,sc2.sq,λp hp=>?_⟩;rw[Ju];have n:=jm.obj (F:=F2) hp (.lst ((AQ ns l h).map V.int));have st:=st1.trans st2;exact q _ F2 _ (R2.new n (R2.sub.same n.same)) (st.trans n.step) (uD.FW (u:=.m (.lst ((AQ ns l h).map D.int))) R2 st ⟨p,rfl,hp,R2.sub.fresh hp,_,aR,Bw _⟩)
 .cases hg⟩
def Pj(d:D):Prop:=(toPy d).showable=true/\(toPy d).depth<=20/\(toPy d).shown.length<=sizeLine
noncomputable instance (d:D):Decidable (Pj d):=by unfold Pj;infer_instance
def zo:List D->Option U
 |[d]=>if Pj d then some (.t (.str (toPy d).shown)) else none
 |_=>none
mutual
theorem Rep.vU{pins:AAG}{O:St}{F H:Hp}{s:Shared}(I:Inv X pins O H s)(sb:Sub F H):∀{v:V}{d:D}{u:Value},Rep F v d->RelV v u->∃as,Reads s.heap u (toPy d) as
 |_,_,_,.cI,r=>by cases r;exact⟨[],.none⟩
 |_,_,_,.bl b,r=>by cases r;exact⟨[],.bool b⟩
 |_,_,_,.int i,r=>by obtain⟨t,rfl⟩:=r;exact⟨[],.int i t⟩
 |_,_,_,.str z,r=>by obtain⟨t,rfl⟩:=r;exact⟨[],.str z t⟩
 |_,_,_,.tup e rs,r=>by
  cases r;obtain⟨its,rv,p⟩:=sb.isTup I e;obtain⟨as,h⟩:=bC.vU I sb rs rv;obtain⟨o,ho,hc,n,hd⟩:=p;exact⟨as,.tuple ho hc hd (by simpa using h)⟩
 |_,_,_,.lst e rs,r=>by
  cases r;obtain⟨its,rv,p⟩:=sb.xh I e;obtain⟨as,h⟩:=bC.vU I sb rs rv;obtain⟨o,ho,hc,n,hd⟩:=p;exact⟨_::as,.list ho hc hd (by simpa using h)⟩
theorem bC.vU{pins:AAG}{O:St}{F H:Hp}{s:Shared}(I:Inv X pins O H s)(sb:Sub F H):∀{vs:List V}{ds:List D}{us:AAL},bC F vs ds->Vals vs us->∃as,ReadsAll s.heap us (gq ds) as
 |_,_,_,.nil,r=>by cases r;exact⟨[],.nil⟩
 |_,_,_,.cons q qs,r=>by
  cases r with
  |cons r rs=>
   obtain⟨as,h⟩:=Rep.vU I sb q r;obtain⟨bs,k⟩:=bC.vU I sb qs rs;exact⟨as++bs,.cons h k⟩
end
def zp(hg:X.A.guards=some [])(hu:X.A.units+64<cLine):gY X (.builtin "repr") (rP zo):=by
 intro pins s O H xs us Q I r ⟨F,ds,w,sb,rs,hw,q⟩;obtain⟨x,d,rfl,rfl,r1⟩:=uK (P:=λ_=>True) rs hw rfl (λd _ _=>rfl);obtain⟨hok,rfl⟩:=cV (show(if Pj d then some (U.t (.str (toPy d).shown)) else none)=some w from hw);have fin:=q (.str (toPy d).shown) F H (jm.refl ..) sb (.str _);obtain⟨u,rfl,ru⟩:=vals1 r;obtain⟨h1,h2,h3⟩:=hok;have seq:∀a,x= .ref a->wpAny d_ X.A (call (.builtin "repr") [u]) (EP X pins O Q) X.xe s:=λa e1=>by
  subst e1;cases ru;obtain⟨as,hr⟩:=Rep.vU I sb r1 (u:=.ref a) rfl;exact repr_of_reads' hr h1 (λz=>by rw[w5]at z;cases z) hg a_ (λ_ _ e=>e) (λh' u tk hk=>⟨.str _,H,I.kept (t':=tk) hk,⟨u,rfl⟩,fin⟩) h3
 cases r1 with
 |cI=>cases ru;exact PySem.P.repr_of_none ⟨.str _,H,I.tok _,⟨_,rfl⟩,fin⟩
 |bl b=>cases ru;exact PySem.P.repr_of_bool ⟨.str _,H,I.tok _,⟨_,rfl⟩,fin⟩
 |int i=>obtain⟨t,rfl⟩:=ru;exact PySem.P.repr_of_int (by simpa[toPy,PyData.showable] using h1) ⟨.str _,H,I.tok _,⟨_,rfl⟩,fin⟩
 |str z=>obtain⟨t,rfl⟩:=ru;exact PySem.P.repr_of_str ⟨.str _,H,I.tok _,⟨_,rfl⟩,fin⟩ h3
 |tup e rs=>exact seq _ rfl
 |lst e rs=>exact seq _ rfl
def ym{i:Int}{t:Tok}(hg:Gl X x)(hm:X.mg x=some (.int i t))(hd:BBT x:=by decide):JD X (.Name x pos) (eC (.int i)):=O7 rfl (Oz (v:=.int i) hg hm ⟨t,rfl⟩ hd)
end
def LZ{y:Str}{c:Addr}(clos:closureFor scope X.env=pure [(y,c)])(gZ:∀z∈scope.names,z.2≠.cell)(kind:scope.kind= .function)(names:∀z∈scope.names,z.2= .local->scope.names.lookup z.1=some .local)
  (loc:scope.names.lookup x=some .local)(hc:X.env.cells.lookup y=some c)(only:∀z∈scope.names,z.2= .free->z.1=y)(ne:x≠y)(hN:X.N[i]? =some y)(vis:X.env.scope.names.lookup y=some .cell)(rel:(relabel scope X.env).names.lookup y=some .cell):
  dW X x [y] [i] scope [(y,c)]:=by
 have look:∀n c',([(y,c)]:List (Str×Addr)).lookup n=some c'->n=y/\c'=c:=λn c' h=>by
  rw[acF]at h;cases e:n == y with
  |true=>rw[e]at h;cases h;exact⟨eq_of_beq e,rfl⟩
  |false=>rw[e]at h;cases h
 have self:([(y,c)]:List (Str×Addr)).lookup y=some c:=by rw[acF,acS]
 refine⟨clos,gZ,kind,names,loc,λn c' h=>?_,λn h=>?_,?_,rfl,λj n h=>?_,λn h=>?_⟩
 .obtain⟨rfl,rfl⟩:=look n c' h;exact hc
 .have key:n=y:=by
   have go:∀k,(k=NameKind.cell\/k=NameKind.free)->(relabel scope X.env).names.lookup n=some k->n=y:=λk hk e=>by
    have m:=aco e;unfold relabel at m;obtain⟨⟨n',k'⟩,hm,q⟩:=aa2.mp m;by_cases hf:k'= .free
    .have h0:n'=y:=only _ hm hf;have e1:n'=n:=by
      have h1:=congrArg Prod.fst q;dsimp only at h1;split at h1<;>exact h1
     exact e1.symm.trans h0
    .have z:(k' == NameKind.free)=false:=by simpa using hf
     simp only[z,agp]at q;have q2:k'=k:=by
      have:=congrArg Prod.snd q
      simpa using this
     rcases hk with rfl|rfl
     .exact absurd q2 (gZ _ hm)
     .exact absurd q2 hf
   rcases h with h|h
   .exact go _ (.inl rfl) h
   .exact go _ (.inr rfl) h
  subst key;exact⟨c,self⟩
 .simp[ne]
 .cases j with
  |zero=>cases h;exact⟨i,rfl,hN,.inr (.inl vis)⟩
  |succ j=>simp at h
 .have e:n=y:=by simpa using h
  subst e;exact⟨.inl rel,⟨c,self⟩,by rw[vis];decide⟩
section
variable {a e:Expr}{k:Nat}
def kJ(a:List D)(o:MO)(h:xh o=false):hAppend a o=none:=by
 cases o with
 |lst ds=>cases h
 |dct k=>unfold hAppend;split<;>first|rfl|(rename_i e;cases e)
 |lat _ _=>unfold hAppend;split<;>first|rfl|(rename_i e;cases e)
 |gF _ _=>unfold hAppend;split<;>first|rfl|(rename_i e;cases e)
 |Fi _ _=>unfold hAppend;split<;>first|rfl|(rename_i e;cases e)
end
noncomputable def uO:List D->Option (BBD)
 |[]=>some []
 |.int b::ds=>(uO ds).map λbs=>b::bs
 |_=>none
theorem sV{F:Hp}:∀{vs:List V}{ds:List D}{bs:BBD},bC F vs ds->uO ds=some bs->vs=bs.map V.int
 |_,_,_,.nil,h=>by cases h;rfl
 |_,_,_,@bC.cons _ v d vs ds r rs,h=>by
  cases d<;>try (cases h;done)
  obtain⟨bs,h1,h2⟩:=aA (show(uO ds).map _=_ from h);subst h2;rw[jo r,sV rs h1];rfl
section
noncomputable def fq(led:Bool):Obj:={cls:=.type "set",dict:=none,data:=.set #[] 0 (.fresh 0 0 led)}
end
noncomputable def lV:List D->Option (BBB)
 |[]=>some []
 |.str b::ds=>(lV ds).map λbs=>b::bs
 |_=>none
theorem sW{F:Hp}:∀{vs:List V}{ds:List D}{bs:BBB},bC F vs ds->lV ds=some bs->vs=bs.map V.str
 |_,_,_,.nil,h=>by cases h;rfl
 |_,_,_,@bC.cons _ v d vs ds r rs,h=>by
  cases d<;>try (cases h;done)
  obtain⟨bs,h1,h2⟩:=aA (show(lV ds).map _=_ from h);subst h2;cases r;rw[sW rs h1];rfl
noncomputable def sy:U->Option (List D)
 |.t (.lst ds)=>some ds
 |.m (.lst ds)=>some ds
 |.b (.lst ds)=>some ds
 |_=>none
def sX(n:Bool)(i:Nat)(g:GD):GD:=λS=>(g S).bind λp=>match p.2[i]? with
 |some (some u)=>(sy u).bind λds=>if bX ds<=40 then some (.bl (n != inD p.1 ds),p.2) else none
 |_=>none
section
variable {X:Cx}{a:Expr}{x:Str}{px pos:Pos}{ga:GD}
abbrev Pk(X:Cx)(n:Bool):V->V->Hp->VK->Prop:=λx y H Q=>∃F d ds p vs,y= .ref p/\Sub F H/\Rep F x d/\mX X.K H p vs/\bC F vs ds/\bX ds<=40/\Q (.bl (n != inD d ds)) H
def L1(hu:X.A.units+64<cLine):yg X (compareOp .In) (Pk X false):=by
 rintro pins s O H x y v u Q I rx ry ⟨F,d,ds,p,vs,rfl,sb,r1,hp,rs,hd,q⟩;cases ry;obtain⟨its,rv,pl,hz⟩:=I.list hp;obtain⟨h1,h2⟩:=qp I sb (A:=X.A.in1) r1 rx rs rv (by show X.A.units+1+bX ds<cLine;lia);refine SeqAt.in_listAt (Fj F d) pl.isList (λy hy=>h1 y (by simpa using hy)) ⟨.bl _,H,I,rfl,?_⟩;rw[show its.toArray.any (Fj F d)=its.any (Fj F d) by simp,h2]
 simpa using q
def Jw(hu:X.A.units+64<cLine):yg X (compareOp .NotIn) (Pk X true):=by
 rintro pins s O H x y v u Q I rx ry ⟨F,d,ds,p,vs,rfl,sb,r1,hp,rs,hd,q⟩;cases ry;obtain⟨its,rv,pl,hz⟩:=I.list hp;obtain⟨h1,h2⟩:=qp I sb (A:=X.A.in1) r1 rx rs rv (by show X.A.units+1+bX ds<cLine;lia);refine SeqAt.notIn_listAt (Fj F d) pl.isList (λy hy=>h1 y (by simpa using hy)) ⟨.bl _,H,I,rfl,?_⟩;rw[show its.toArray.any (Fj F d)=its.any (Fj F d) by simp,h2]
 simpa using q
def Cz{n:Bool}(h:tD X.K B (sX n i ga) O H Q):Tt (Pk X n) (tD X.K B ga) (DN i) O H Q:=by
 obtain⟨S,F,d,S',R,hg,q⟩:=h;obtain⟨⟨d1,S1⟩,h1,hg⟩:=aj hg;dsimp only at hg;split at hg
 .rename_i u hS;obtain⟨ds,h2,hg⟩:=aj hg;obtain⟨hd,hg⟩:=cV hg;cases hg;refine⟨S,F,d1,_,R,h1,λv F1 H1 R1 st1 r1=>?_⟩;obtain⟨v0,hv0,r0⟩:=R1.rep i u hS;have fin:=q (.bl _) F1 H1 R1 st1 (.bl _);have go:∀a vs,v0= .ref a->mX X.K H1 a vs->bC F1 vs ds->DN i O H1 λy H2=>Pk X n v y H2 Q:=λa vs e ha rs=>⟨v0,hv0,F1,d1,ds,a,vs,e,R1.sub,r1,ha,rs,hd,fin⟩
  unfold sy at h2;split at h2
  .cases h2;obtain⟨a,vs,e1,fa,ha,rs⟩:=R1.sub.gO r0;exact go a vs e1 (.inl ha) rs
  .cases h2;obtain⟨a,e1,fa,vs,ha,rs⟩:=r0;exact go a vs e1 (mX.of ha) rs
  .cases h2;obtain⟨a,e1,fa,vs,ha,rs⟩:=r0;exact go a vs e1 (mX.of ha) rs
  .cases h2
 .cases hg
def UA(hu:X.A.units+64<cLine)(ha:JD X a ga)(hN:X.N[i]? =some x:=by rfl)(hv:pF X.env.scope x:=by trivial)(hd:BBT x:=by decide)(hcd:BBU x:=by decide)
  (hm:behindInMarks .In e_=false:=by with_unfolding_all rfl):JD X (.Compare a [.In] [.Name x px] pos) (sX false i ga):=⟨λB=>(G4 (L1 hu) (ha.h B) (cA hN hv hd hcd) hm).imp λO H Q h=>Cz h⟩
def UB(hu:X.A.units+64<cLine)(ha:JD X a ga)(hN:X.N[i]? =some x:=by rfl)(hv:pF X.env.scope x:=by trivial)(hd:BBT x:=by decide)(hcd:BBU x:=by decide)
  (hm:behindInMarks .In e_=false:=by with_unfolding_all rfl):JT X (.Compare a [.In] [.Name x px] pos) (qB (sX false i ga)):=⟨λB=>(B9 (L1 hu) (ha.h B) (cA hN hv hd hcd) hm).imp λO H Q ⟨S,F,k,S',R,hg,q⟩=>Cz ⟨S,F,.bl k,S',R,lR hg,λv F' H' R' st r=>⟨k,n8 r,q F' H' R' st⟩⟩⟩
def Jx(hu:X.A.units+64<cLine)(ha:JD X a ga)(hN:X.N[i]? =some x:=by rfl)(hv:pF X.env.scope x:=by trivial)(hd:BBT x:=by decide)(hcd:BBU x:=by decide)
  (hm:behindInMarks .NotIn e_=false:=by with_unfolding_all rfl):JT X (.Compare a [.NotIn] [.Name x px] pos) (qB (sX true i ga)):=⟨λB=>(B9 (Jw hu) (ha.h B) (cA hN hv hd hcd) hm).imp λO H Q ⟨S,F,k,S',R,hg,q⟩=>Cz ⟨S,F,.bl k,S',R,lR hg,λv F' H' R' st r=>⟨k,n8 r,q F' H' R' st⟩⟩⟩
end
noncomputable def look:U->Option D
 |.t d=>some d
 |.m (.lst ds)=>some (.lst ds)
 |.b (.lst ds)=>some (.lst ds)
 |_=>none
def Pn{F:Hp}{d:D}(R:Rel K B S O F H)(h:S[i]? =some (some u))(hl:look u=some d):∃v F1,O[i]? =some (some v)/\Sub F1 H/\Rep F1 v d:=by
 obtain⟨v,hv,r⟩:=R.rep i u h;unfold look at hl;split at hl
 .cases hl;exact⟨v,F,hv,R.sub,r⟩
 .cases hl;obtain⟨a,rfl,fa,vs,ha,rs⟩:=r;exact⟨_,upd F a (.lst vs),hv,R.sub.fy ha,.lst (.inl aR) (rs.le (iK fa))⟩
 .cases hl;obtain⟨a,rfl,fa,vs,ha,rs⟩:=r;exact⟨_,upd F a (.lst vs),hv,R.sub.fy ha,.lst (.inl aR) (rs.le (iK fa))⟩
 .cases hl
def nA(f:List D->Option U)(i:Nat):GD:=λS=>match S[i]? with
 |some (some u)=>(look u).bind λd=>match f [d] with
  |some (.t e)=>if jD e=true then some (e,S) else none
  |_=>none
 |_=>none
def Ec{F:Hp}{v:V}{e:D}(h:jD e=true)(r:Rep F v e):Rep F' v e:=by
 cases r with
 |cI=>exact .cI
 |bl b=>exact .bl b
 |int b=>exact .int b
 |str b=>exact .str b
 |tup _ _=>cases h
 |lst _ _=>cases h
section
variable {X:Cx}{x y:Str}{p px pos:Pos}{f:List D->Option U}
def nB{id:String}(hc:gY X (.builtin id) (rP f))(hg:Gl X y)(hm:X.mg y=none)(hb:bootBuiltins y=some (.builtin id))(hn:y≠"__name__":=by decide)(hdb:BBT y:=by decide)
  (hN:X.N[i]? =some x:=by rfl)(hv:pF X.env.scope x:=by trivial)
  (hd:BBT x:=by decide)(hcd:BBU x:=by decide)(he:starEach [.Name x px] X.env=(false,eval e_ X.env)::starEach [] X.env:=by rfl)(hpl:(backTo pos (starEach [] X.env)).any (·.1)=false:=by rfl):
  JD X (.Call (.Name y p) [.Name x px] [] pos) (nA f i):=⟨λB=>(qd hc hg hm hb (dN (cA hN hv hd hcd) iI he) hn hdb he hpl).imp λO H Q hh=>by
 obtain⟨S,F,e,S',R,hg',q⟩:=hh;unfold nA at hg';split at hg'
 .rename_i u hS;obtain⟨d,h1,hg'⟩:=aj hg';split at hg'
  .rename_i e' he';obtain⟨hfl,hg'⟩:=cV hg';cases hg';obtain⟨v,F1,k1,k2,k3⟩:=Pn R hS h1;refine⟨v,k1,F1,[d],_,k2,.cons k3 .nil,he',λv' F' H' n s' r'=>?_⟩;have n':jm F H F H':=⟨λ_ _ z=>z,n.same,λ_ _ _ z=>z⟩
   exact q v' F H' (R.new n' (R.sub.same n.same)) n'.step (Ec hfl r')
  .cases hg'
 .cases hg'⟩
end
section
variable (S:SS)(i:Nat)(g:GD)
@[simp] theorem aa0(f:List D->Option U):nA f i S=match S[i]? with
 |some (some u)=>(look u).bind λd=>match f [d] with
  |some (.t e)=>if jD e=true then some (e,S) else none
  |_=>none
 |_=>none:=rfl
@[simp] theorem ac2(n:Bool):sX n i g S=(g S).bind λp=>match p.2[i]? with|some (some u)=>(sy u).bind λds=>if bX ds<=40 then some (.bl (n != inD p.1 ds),p.2) else none|_=>none:=rfl
@[simp] theorem YO(d:D):look (.t d)=some d:=rfl
@[simp] theorem YQ(ds:List D):look (.m (.lst ds))=some (.lst ds):=rfl
@[simp] theorem YR(ds:List D):look (.b (.lst ds))=some (.lst ds):=rfl
@[simp] theorem WR(ds:List D):sy (.t (.lst ds))=some ds:=rfl
@[simp] theorem WS(ds:List D):sy (.m (.lst ds))=some ds:=rfl
@[simp] theorem WT(ds:List D):sy (.b (.lst ds))=some ds:=rfl
end
section
variable {X:Cx}{a b c e:Expr}{es:BBC}{p:Pos}{x:Str}
noncomputable def ac3:List D->Option U
 |[.lst ds,.int k]=>if 0<=k/\k.toNat<=100000/\ds.length*k.toNat<=100000 then some (.m (.lst (List.replicate k.toNat ds).flatten)) else none
 |_=>none
def Ed:V->List V->Hp->VK->Prop:=λx vs H Q=>∃l b xs zs,x= .ref l/\vs=[.ref b]/\H l=some (.lst xs)/\Rd H b (.lst zs)/\xs.length+zs.length<=sizeLine/\Q .cI (upd H l (.lst (xs++zs)))
def sY:MtR X "list.extend" Ed:=by
 intro pins s O H x vs v us Q I rx rv h;obtain⟨l,b,xs,zs,rfl,rfl,hH,hB,hz,q⟩:=h;cases rx;obtain⟨u,rfl,ru⟩:=rv.one;cases ru;obtain⟨z,its,n,r,hl,e⟩:=I.FO hH;obtain⟨z2,its2,n2,r2,hl2,e2⟩:=hB.FO I;have hsz:its.toArray.size+its2.toArray.size<=sizeLine:=by rw[aaQ,aaQ];lia
 have YS:¬(!its.toArray.isEmpty && Builtin.List.listTooLong (its.toArray.size+its2.toArray.size))=true:=by
  rw[Lw hsz,ahe];exact afN
 refine call_meets F.slot_list_extend ⟨_,e,rfl⟩ F.entry_list_extend (F.args_list_extend_2 _ _)
  (AutoSeq1.list_extend_list_list_0 l its.toArray n b its2.toArray n2 YS (by rw[aaQ];lia) a_) ⟨e,e2,?_⟩
 refine⟨.cI,_,I.Yo (its':=its++its2) hH e (by simp) (r.append r2) ?_,rfl,q⟩;rw[aaW];lia
noncomputable def eY:List D->MO->Option (D×MO)
 |[.lst es],.lst ds=>if ds.length+es.length<=100000 then some (.cI,.lst (ds++es)) else none
 |_,_=>none
def vV:MtP Ed eY:=by
 intro F H a vs xs ds args res o' sb hH fa rs rx hw Q q;unfold eY at hw;split at hw
 .rename_i es ds' e2;cases e2;obtain⟨hl,hw⟩:=cV hw;cases hw;cases rx with
  |cons r rr=>
   cases rr;obtain⟨b,zs,rfl,fb,hb,Jm⟩:=sb.gO r;exact⟨a,b,vs,zs,rfl,rfl,hH,hb,by rw[rs.length,Jm.length];exact aaY hl b_,q .cI _ .cI ⟨_,aR,rs.append Jm⟩⟩
 .cases hw
def vW(a:List D)(o:MO)(h:xh o=false):eY a o=none:=by
 cases o with
 |lst ds=>cases h
 |dct k=>unfold eY;split<;>first|rfl|(rename_i e;cases e)
 |lat _ _=>unfold eY;split<;>first|rfl|(rename_i e;cases e)
 |gF _ _=>unfold eY;split<;>first|rfl|(rename_i e;cases e)
 |Fi _ _=>unfold eY;split<;>first|rfl|(rename_i e;cases e)
def Gb(clos:closureFor scope X.env=pure cl)(gZ:∀z∈scope.names,z.2≠.cell)(kind:scope.kind= .function)(names:∀z∈scope.names,z.2= .local->scope.names.lookup z.1=some .local)
  (loc:scope.names.lookup x=some .local)(hc:cl.map (λp=>X.env.cells.lookup p.1)=cl.map (λp=>some p.2))(only:∀z∈scope.names,z.2= .free->z.1∈bL)(hcl:cl.map (·.1)=bL.reverse\/cl.map (·.1)=bL)(nd:(x::bL).Nodup)
  (slot:cap.map (λi=>X.N[i]?)=bL.map some)(vis:bL.map (λn=>X.env.scope.names.lookup n)=bL.map λ_=>some .cell)(rel:bL.map (λn=>(relabel scope X.env).names.lookup n)=bL.map λ_=>some .cell):
  dW X x bL cap scope cl:=by
 have all:∀{α β:Type}{f g:α->β}{l:List α},l.map f=l.map g->∀a∈l,f a=g a:=λ{α β f g l} h=>by
  induction l with
  |nil=>intro a m;cases m
  |cons b r ih=>
   intro a m;rw[acd,acd]at h;injection h with h1 h2
   rcases aaV.mp m with z|z
   .rw[z];exact h1
   .exact ih h2 a z
 have YT:∀n,n∈bL->∃c,cl.lookup n=some c:=λn hn=>lookup_some (hcl.elim (λz=>by rw[z];exact List.mem_reverse.mpr hn) λz=>by rw[z];exact hn);have len:cap.length=bL.length:=by have:=congrArg List.length slot;simpa using this
 refine⟨clos,gZ,kind,names,loc,λn c h=>all hc (n,c) (aco h),λn h=>?_,nd,len,λj n h=>?_,λn h=>⟨.inl (all rel n h),YT n h,by rw[all vis n h];decide⟩⟩
 .refine YT n ?_;have go:∀k,(k=NameKind.cell\/k=NameKind.free)->(relabel scope X.env).names.lookup n=some k->n∈bL:=λk hk e=>by
   have m:=aco e;unfold relabel at m;obtain⟨⟨n',k'⟩,hm,q⟩:=aa2.mp m;by_cases hf:k'= .free
   .have h0:n'∈bL:=only _ hm hf;have e1:n'=n:=by
     have h1:=congrArg Prod.fst q;dsimp only at h1;split at h1<;>exact h1
    rw[<-e1];exact h0
   .have z:(k' == NameKind.free)=false:=by simpa using hf
    simp only[z,agp]at q;have q2:k'=k:=by
     have:=congrArg Prod.snd q
     simpa using this
    rcases hk with rfl|rfl
    .exact absurd q2 (gZ _ hm)
    .exact absurd q2 hf
  rcases h with h|h
  .exact go _ (.inl rfl) h
  .exact go _ (.inr rfl) h
 .have e:=congrArg (λl=>l[j]?) slot;simp only[abI,h,Option.map_some]at e;cases q:cap[j]? with
  |none=>rw[q]at e;cases e
  |some i=>
   rw[q]at e;exact⟨i,rfl,abT e,.inr (.inl (all vis n (abU h)))⟩
end
open AutoSeq1 (wpAny_loadPart')
def Po(k:Bool)(h:Heap)(a:Addr)(its:AAK):Prop:=match k with
 |true=>h.IsList a its
 |false=>h.IsTuple a its
def ItK(k:Bool)(h:Heap)(it a:Addr)(i:Nat):Prop:=match k with
 |true=>h.IsListIter it a i
 |false=>h.IsTupleIter it a i
noncomputable def itN:Bool->String
 |true=>"list_iterator"
 |false=>"tuple_iterator"
def itO(k:Bool)(a:Addr):Obj:={cls:=.type (itN k),data:=.fields #[.ref a,.int 0 0]}
def Po.at{h h':Heap}(x:Po k h a its)(g:∀o,h.get? a=some o->h'.get? a=some o):Po k h' a its:=by
 cases k<;>exact let⟨o,ho,r⟩:=x;⟨o,g o ho,r⟩
def ItK.new(k:Bool)(h:Heap)(a:Addr):ItK k (h.push (itO k a)) h.objs.size a 0:=by
 cases k<;>exact⟨_,aaZ _ rfl,rfl,rfl⟩
section
variable {prog:Program}{w:World}{A:Around}{E:AAE}{s:Shared}
def YU{Q:AAE}(h:Po k s.heap a its)(q:Q (.ref c_) {s with heap:=s.heap.push (itO k a)}):wpAny g_ A (pyIter (.ref a)) Q E s:=by
 cases k with
 |true=>exact af3 h q
 |false=>exact wpAny_pyIter_tuple h q
end
abbrev TupAt(h:Heap)(T:Addr)(vals:AAK):Prop:=h.get? T=some {cls:=.type "tuple",data:=.seq vals}
section
variable {b:Expr}
def WalkN(J:It)(F:Hp)(ds:List D):Prop:=∀F' H',(∀b o,F b=some o->F' b=some o)->Sub F' H'->∀i,(∀d,ds[i]? =some d->J.go i H'/\∀x H2,J.To i H' x H2->∃F2,jm F' H' F2 H2/\Sub F2 H2/\Rep F2 x d)/\(ds.length<=i->J.stop i H')
inductive ac5(K:AAD)(B:Base)(gi:GI)(O:St)(H:Hp)(Q:It->Hp->Prop):Prop
 |mk(S:SS)(F:Hp)(ds:List D)(S':SS)(R:Rel K B S O F H)(hg:gi S=some (ds,S'))(q:∀J F' H',Rel K B S' O F' H'->Step S S' O F H F' H'->WalkN J F' ds->Q J H')
end
noncomputable def Ef:GE:=λS=>some (.m (.dct []),S)
section
variable {X:Cx}{e k:Expr}{p pos:Pos}
def Pp:JE X (.Dict [] [] pos) Ef:=⟨λB=>Lm.imp λO H Q hh=>by
 obtain⟨S,F,u,S',R,hg,q⟩:=hh;cases hg;intro p hp;have n:=jm.obj (F:=F) hp (.dK []);have hn:¬cL S O p:=λm=>by obtain⟨o,ho⟩:=R.has m;rw[hp]at ho;cases ho
 exact q (.ref p) F _ (R.new n (R.sub.same n.same)) n.step ⟨p,rfl,hp,R.sub.fresh hp,⟨[],aR,.nil⟩,hn,none_of R.ext.there hp⟩⟩
def L3[DecidableEq κ]{F:Hp}{ws:List (κ×V)}{kvs:List (κ×D)}(pr:Paired (gw F) ws kvs)(k:κ):(rW ws k).isSome=(bW kvs k).isSome:=by
 cases e:bW kvs k with
 |none=>rw[vQ pr e];rfl
 |some d=>obtain⟨v,h,_⟩:=kI pr e;rw[h];rfl
end
noncomputable def Eg(kvs:AAJ)(z:Str):BBM:=(kvs.find? λp=>decide (p.1=z)).map (·.2)
theorem zq:∀zs:BBB,bX (zs.map D.str)=0
 |[]=>rfl
 |z::zs=>by show max (cJ (.str z)) (bX (zs.map D.str))=0;rw[zq zs];rfl
def L4:U->D->Option (Option D)
 |.b (.dct kvs),k=>(keyOf k).map (bW kvs)
 |_,_=>none
noncomputable def uP:U->Bool
 |.b (.dct _)=>true
 |_=>false
def zu(i:Nat)(gk gd:GD):GD:=λS=>match S[i]? with
 |some (some u)=>if uP u then(gk S).bind λp=>(gd p.2).bind λq=>match q.2[i]? with
  |some (some u2)=>(L4 u2 p.1).map λo=>(o.getD q.1,q.2)
  |_=>none
  else none
 |_=>none
def YV(F:Hp):Option V->Option D->Prop
 |some v,some d=>Rep F v d
 |none,none=>True
 |_,_=>False
def L5[DecidableEq κ]{F:Hp}{ws:List (κ×V)}{kvs:List (κ×D)}(pr:Paired (gw F) ws kvs)(k:κ):YV F (rW ws k) (bW kvs k):=by
 cases e:bW kvs k with
 |none=>rw[vQ pr e];exact True.intro
 |some d=>obtain⟨v,h,r⟩:=kI pr e;rw[h];exact r
def Pq{F:Hp}{v w:V}{d:D}{h:Option D}(sb:Sub F H)(r:AK K F H v u)(rk:Rep F w d)(e:L4 u d=some h):∃a o,v= .ref a/\pP H a w o/\YV F o h:=by
 unfold L4 at e;split at e
 .obtain⟨kk,e1,rfl⟩:=aA e;obtain⟨a,rfl,fa,ws,ha,pr⟩:=r;exact⟨a,_,rfl,pP.ky ha (rK rk e1),L5 pr kk⟩
 .cases e
def L6{F:Hp}{v:V}(r:AK K F H v u)(h:uP u=true):∃a,v= .ref a/\IsD H a:=by
 unfold uP at h;split at h
 .obtain⟨a,rfl,fa,ws,ha,pr⟩:=r;exact⟨a,rfl,.inl ⟨ws,.inl ha⟩⟩
 .cases h
section
variable {X:Cx}{e f:Expr}{x:Str}{px apos cpos:Pos}{gk gd:GD}{ge:GE}
def Pr(hu:X.A.units+20 < cLine)(he:JD X e gk)(hf:JD X f gd)(hN:X.N[i]? =some x:=by rfl)(hv:pF X.env.scope x:=by first | exact Or.inl rfl | exact Or.inr (Or.inl rfl) | exact Or.inr (Or.inr rfl))
    (hb:attributeBase e_ "get" X.env (eval e_ X.env)=eval e_ X.env:=by rfl)
    (hfew:((backTo cpos (starEach [e,f] X.env)).all (λx=>!x.1) && (backToKw cpos (keywordEach [] X.env)).all (λx=>x.1.isSome) && decide (([e,f]:BBC).length+([]:BBI).length+(if([]:BBI).isEmpty then 0 else 1)<30))=true:=by rfl)
    (hline:(apos.endLine == cpos.line)=true:=by rfl)(htr:backTo cpos (starEach [e,f] X.env)=[(false,eval e X.env),(false,eval f X.env)]:=by rfl)(hd:BBT x:=by decide)(hcd:BBU x:=by decide):
    JD X (.Call (.Attribute e_ "get" apos) [e,f] [] cpos) (zu i gk gd):=
  ⟨λB => (Lp hu (cA hN hv hd hcd) (he.h B) (hf.h B) ⟨hb, hfew, hline, htr⟩).imp λO H Q hh => by
    obtain⟨S,F,d,S',R,hg,q⟩:=hh;unfold zu at hg;split at hg
    . rename_i u hS
      split at hg
      . rename_i hD
        obtain⟨⟨d1,S1⟩,h1,hg⟩:=aj hg;obtain⟨⟨d2,S2⟩,h2,hg⟩:=aj hg;dsimp only at hg;split at hg
        . rename_i u2 hS2
          obtain⟨o,h3,hg⟩:=aA hg;cases hg;obtain⟨v0,hv0,r0⟩:=R.rep i u hS;obtain⟨a,rfl,ha⟩:=L6 r0 hD;refine⟨.ref a,hv0,a,rfl,ha,S,F,d1,S1,R,h1,λv1 F1 H1 R1 st1 r1=>⟨S1,F1,d2,_,R1,h2,λv2 F2 H2 R2 st2 r2=>?_⟩⟩;obtain⟨v3,hv3,r3⟩:=R2.rep i u2 hS2;rw[hv0]at hv3;cases hv3;obtain⟨a',ov,e1,g1,rl⟩:=Pq R2.sub r3 (r1.le st2.ext.le) h3;cases e1;refine⟨ov,g1,q _ F2 H2 R2 (st1.trans st2) ?_⟩;cases o with
          |none=>cases ov with
            |none=>exact r2
            |some _=>exact(show False from rl).elim
          |some d=>cases ov with
            |none=>exact(show False from rl).elim
            |some v=>exact rl
        . cases hg
      . cases hg
    . cases hg⟩
def YW(i:Nat)(ge:GE):GD:=λS=>match S[i]? with
 |some (some u)=>if uP u then(ge S).bind λp=>match p.1 with
  |.m (.dct more)=>vP p.2 i λo=>match o with
   |.dct kvs=>if kvs.length+more.length<=100000 then some (.cI,.dct (mC kvs more)) else none
   |_=>none
  |_=>none
  else none
 |_=>none
end
end L2
end
section
namespace L2
open PySem.Calls
def c9:Slot "set_iterator" "__next__" "set_iterator.__next__":=
 .of (owner:="set_iterator") (n:="__next__") (by rw[typeLookup_type,builtinLookup_eq_fast];kernel_rfl) i_ i_ i_
  (by first|exact .inl i_|exact .inr i_) (by rw[afX];kernel_rfl)
def nC:entryFor table "set_iterator.__next__" =some Builtin.«set_iterator.__next__»:=entryFor_of_tree (by kernel_rfl)
def CA:entryFor table "set.__iter__" =some Builtin.«frozenset.__iter__»:=entryFor_alias (id':="frozenset.__iter__") (by kernel_rfl) rfl i_ (by kernel_rfl)
def xq:Manifest.owners.lookup (String.ofList ['r','o','t','a','r','e','t','i','_','t','e','s'].reverse)=some Manifest.sig_set_iterator:=by kernel_rfl
def pJ(a:Value):argsOk "set_iterator.__next__" ⟨[a],[]⟩:=by
 unfold argsOk;rw[signature?_of (id:="set_iterator.__next__") (n:=['_','_','t','x','e','n','_','_']) (o:=['r','o','t','a','r','e','t','i','_','t','e','s']) (by kernel_rfl) xq];kernel_rfl
section
variable {a:Addr}
def pK:Slot "set_iterator" "__iter__" "set_iterator.__iter__":=
 .of (owner:="set_iterator") (n:="__iter__") (by rw[typeLookup_type,builtinLookup_eq_fast];kernel_rfl) i_ i_ i_
  (by first|exact .inl i_|exact .inr i_) (by rw[afX];kernel_rfl)
def vX:entryFor table "set_iterator.__iter__" =some Builtin.«dict_keyiterator.__iter__»:=entryFor_alias (id':="dict_keyiterator.__iter__") (by kernel_rfl) rfl i_ (by kernel_rfl)
def xO(a:Value):argsOk "set_iterator.__iter__" ⟨[a],[]⟩:=by
 unfold argsOk;rw[signature?_of (id:="set_iterator.__iter__") (n:=['_','_','r','e','t','i','_','_']) (o:=['r','o','t','a','r','e','t','i','_','t','e','s']) (by kernel_rfl) xq];kernel_rfl
end
end L2
end
section
namespace L2
variable {X:Cx}{pins:AAG}{O:St}{H:Hp}{x y0:Str}{bL:BBB}{cap:BBJ}{scope:Scope}{cl:List (Str×Addr)}{elt iter:Expr}{ifs:BBC}{px py pt pos:Pos}{k0:Nat}{Q:VK}{K:AAD}{gi:GI}{q:GT}{g:GD}
structure uQ(X:Cx)(x y0:Str)(bL:BBB)(cap:BBJ)(scope:Scope)(cl:List (Str×Addr)):Prop where
 one:dW X x bL cap scope cl
 YX:scope.names.lookup y0=some .local
 WO:(x::y0::bL).Nodup
def Pu(K:AAD)(wi:TI)(cap:BBJ)(tc:TT)(te:TE):TE:=λO H Q=>wi O H λJ H1=>∃W:Nat->Nat->List V->Hp->Prop,(∃m,W 0 m [] H1)/\∀i m ys H,W i m ys H->ys.length<sizeLine/\
  ((J.stop i H/\∀p,H p=none->Q (.ref p) (upd H p (.lst ys)))\/
   (J.go i H/\∀x H',J.To i H x H'->∃a x1 x2,x= .ref a/\A6 K H' a [x1,x2]/\tc (some x1::some x2::cU cap O) H' λb H2=>if b=true then te (some x1::some x2::cU cap O) H2 λy H3=>∃m',m' < m/\W (i+1) m' (ys++[y]) H3 else ∃m',m' < m/\W (i+1) m' ys H2))
def Jy{s s4:Shared}{C:Addr}{fp:BBE}{m':AAF}
  (I:Inv X pins O H s)(T2:uQ X x y0 bL cap scope cl)(hfp:∀b∈fp,sN X pins H b)(hfo:∀b∈fp,∃o,s.heap.get? b=some o)
  (hC:c_<=C)(hns:s4.heap.Ns C m')(hos:s4.os=s.os)(hg:s4.gens=s.gens)
  (kept:∀b o,s.heap.get? b=some o->s4.heap.get? b=some o):
  Inv (cF X (x::y0::bL) scope cl C s H fp) [] (none::none::cU cap O) H s4:=by
 have T:=T2.one;have fr:∀b,c_<=b->H b=none:=λb hb=>I.hok.fresh hb;refine⟨⟨I.ok.mod,T.kind,I.ok.glob,I.ok.blt,hC,λy z c h1 h2=>I.ok.inj y z c (T.cells _ _ h1) (T.cells _ _ h2),λy hy=>T.has y hy,λy c h=>(by cases h),I.ok.hd,I.ok.frames,.inl rfl,λb hb=>⟨?_,λy c e z=>?_⟩,I.bs,aaY I.ok.Ft I.sz,λb o e hb=>?_,λb hb z=>?_,I.stack,I.B6,I.tab⟩,
  hos,by rw[hg];exact I.bare,Un.kept kept,⟨m',hns,λi y v h1 h2 h3=>?_⟩,λy c h=>?_,fr C hC,λy c h=>(I.kN y c (T.cells _ _ h)).imp_right λz=>⟨rfl,z.2⟩,λp hp=>?_,I.hok.kept kept,?_⟩
 .obtain⟨o,e⟩:=hfo b hb;exact aa1 (aaU (aaX e) hC)
 .exact(hfp b hb).2.2.2.2.1 y c (T.cells _ _ e) z
 .rcases(hfp b hb).2.2.2.1 with z|z
  .exact I.ok.B5 b o e z
  .exact absurd (aaU (aaX e) (aaY I.ok.Ft z)) (adX _)
 .rcases aaV.mp (I.yE b z) with q|q
  .exact(hfp b hb).2.1 q
  .exact(hfp b hb).2.2.1 q
 .match i,h1,h2 with
  |0,h1,h2=>cases h2
  |1,h1,h2=>cases h2
  |j+2,h1,h2=>
   have h1:bL[j]? =some y:=by simpa[cF] using h1
   have h2:(cU cap O)[j]? =some (some v):=by simpa using h2
   obtain⟨i,e1,e2,e3⟩:=T.slot j y h1;have e4:O[i]? =some (some v):=by
    unfold cU at h2;rw[abI,e1]at h2;have h2:some ((O[i]?).join)=some (some v):=h2;have h2:=abT h2;cases q:O[i]? with
    |none=>rw[q]at h2;cases h2
    |some o=>rw[q]at h2;cases h2;rfl
   obtain⟨m,hn,hl⟩:=I.loc;obtain⟨u,r,l⟩:=hl i y v e2 e4 e3;obtain⟨k1,⟨c,hc⟩,k3⟩:=T.vis y (abU h1);refine⟨u,r,.inr ⟨k1,c,hc,?_⟩⟩;rcases l with⟨hk,_⟩|⟨hk,c',hc',z⟩
   .exact absurd hk k3
   .rw[T.cells _ _ hc]at hc';cases hc';obtain⟨o,ho,hd⟩:=z;exact⟨o,kept _ _ ho,hd⟩
 .obtain⟨v,o,ho,hd⟩:=I.cell y c (T.cells _ _ h);exact⟨v,o,kept _ _ ho,hd⟩
 .exact absurd (show p∈([]:AAG) from hp) (by simp)
 .show(none::none::cU cap O).length=(x::y0::bL).length;simp[cU,T.len]
def Eh{wi:TI}{tc:TT}{te:TE}{s:Shared}{use:Option (Value->Sem Unit)}{Qf:AAE}{pos2:Pos}
  (T2:uQ X x y0 bL cap scope cl)(hc:X.calm=true)(hi:PI X (.Tuple [.Name x px,.Name y0 py] k0 pt) iter wi)
  (ht:∀C s H fp,Od (cF X (x::y0::bL) scope cl C s H fp) ifs tc)(he:∀C s H fp,PE (cF X (x::y0::bL) scope cl C s H fp) elt te)
  (hs:∀x,foldedSetIterable iter X.env x=pure x)(I:Inv X pins O H s)(h:Pu X.K wi cap tc te O H Q)
  (hend:∀(D C:Addr)(s7:Shared)(H6:Hp)(ys:List V),Inv X pins O (upd H6 D (.lst ys)) s7->(∃m,s7.heap.Ns C m)->sN X pins (upd H6 D (.lst ys)) C->Q (.ref D) (upd H6 D (.lst ys))->compPost d_ X.A X.xe use Qf (.ref D) C (.ok .next) s7):
  wpAny d_ X.A (comprehension (.ListComp elt [⟨.Tuple [.Name x px,.Name y0 py] k0 pt,iter,ifs,0⟩] scope pos) scope X.env pos2 (newList []) false (eval iter X.env) use) Qf X.xe s:=
 w4 (N:=x::y0::bL) (z0:=none::none::cU cap O) (Z:=λz=>∃o o',z=o::o'::cU cap O) (pt:=λv H z=>∃a x1 x2,v= .ref a/\A6 X.K H a [x1,x2]/\z=some x1::some x2::cU cap O) T2.one hc hi ht he hs I h
  (λJ H1 ⟨W,w0,t⟩=>⟨W,w0,λi m ys H w=>⟨(t i m ys H w).1,(t i m ys H w).2.imp id λ⟨g,k⟩=>⟨g,λv H' y=>let⟨a,x1,x2,e,q,r⟩:=k v H' y;⟨_,⟨a,x1,x2,e,q,rfl⟩,r⟩⟩⟩⟩) ⟨none,none,rfl⟩ (λI2=>Jy I2 T2)
  (by
   rintro Y C _ _ xv H eN eE eK Yr ⟨o,o',rfl⟩ ⟨a,x1,x2,e,q,rfl⟩;exact⟨⟨_,_,rfl⟩,_,K3 Yr (yG (yf (i:=0) (by rw[eN];exact T2.WO) (by rw[eN];rfl) (by rw[eE];exact .inl (aeu T2.one.loc)) (.inr (by rw[eE];exact aeu T2.one.loc))) (yG (yf (i:=1) (by rw[eN];exact T2.WO) (by rw[eN];rfl) (by rw[eE];exact .inl (aeu T2.YX)) (.inr (by rw[eE];exact aeu T2.YX))) G3)),a,[x1,x2],e,by rw[eK];exact q,rfl,x1,[x2],rfl,x2,[],rfl,rfl,rfl,rfl⟩) hend
def Jz{wi:TI}{tc:TT}{te:TE}
  (T2:uQ X x y0 bL cap scope cl)(hc:X.calm=true)(hi:PI X (.Tuple [.Name x px,.Name y0 py] k0 pt) iter wi)
  (ht:∀C s H fp,Od (cF X (x::y0::bL) scope cl C s H fp) ifs tc)(he:∀C s H fp,PE (cF X (x::y0::bL) scope cl C s H fp) elt te)
  (hs:∀x,foldedSetIterable iter X.env x=pure x:=by intro _;rfl):
  PE X (.ListComp elt [⟨.Tuple [.Name x px,.Name y0 py] k0 pt,iter,ifs,0⟩] scope pos) (Pu X.K wi cap tc te):=by
 intro pins s O H Q I h;rw[eval_ListComp];refine Eh T2 hc hi ht he hs I h ?_;rintro p C s7 H6 ys I9 ⟨m7,RJ⟩ ⟨g0,g1,g2,g3,g4,g5⟩ q;exact⟨m7,RJ,λh' hs'=>⟨.ref p,_,I9.turned (t':=s7.toks) (λb o hb e=>hs'.extBut b o hb e) g0 g1 g3 g4 g5,rfl,q⟩⟩
def g8(cap:BBJ)(q:GT)(g:GD):List D->SS->List D->Option (List D×SS)
 |[],S,acc=>some (acc,S)
 |.tup [a,b]::ds,S,acc=>(dz S cap).bind λus=>
  if(slotsOf us).Nodup/\cz us<=1 then(bY S us).bind λws=>(q (AAA a::AAA b::ws.map some)).bind λp=>
   if p.1 then(g p.2).bind λr=>(bN (.t a :: .t b::ws) r.2).bind λouts=>(wb us outs S).bind λS'=>g8 cap q g ds S' (acc++[r.1])
   else(bN (.t a :: .t b::ws) p.2).bind λouts=>(wb us outs S).bind λS'=>g8 cap q g ds S' acc
  else none
 |_::_,_,_=>none
def ow(cap:BBJ)(gi:GI)(q:GT)(g:GD):GE:=λS=>(gi S).bind λp=>if p.1.length<=100000 then(g8 cap q g p.1 p.2 []).map λr=>(.m (.lst r.1),r.2) else none
def L7{F:Hp}{xs:List V}{a b:D}(r:bC F xs [a,b]):∃x1 x2,xs=[x1,x2]/\Rep F x1 a/\Rep F x2 b:=by
 cases r with
 |cons r1 rr=>cases rr with
  |cons r2 rr2=>cases rr2;exact⟨_,_,rfl,r1,r2⟩
def Ge{B:Base}(h:tE K B (ow cap gi q g) O H Q):Pu K (ac5 K B gi) cap (λO H Q=>∃B,tQ K B q O H Q) (λO H Q=>∃B,tD K B g O H Q) O H Q:=by
 obtain⟨x,_⟩:∃x:Str,True:=⟨"",trivial⟩
 obtain⟨S,F,u,S',R,hg,k⟩:=h;obtain⟨⟨ds,S1⟩,h1,hg⟩:=aj hg;dsimp only at hg;split at hg
 .rename_i hlen;obtain⟨⟨res,Sf⟩,h2,hg⟩:=aA hg;cases hg;refine⟨S,F,ds,S1,R,h1,λJ F1 H1 R1 st1 w=>?_⟩;refine⟨RQ K B S O F H F1 (g8 cap q g) ds (res,Sf),
   ⟨_,S1,F1,[],R1,st1,λ_ _ z=>z,.nil,aaP _,abK _,rfl,h2⟩,?_⟩
  rintro i m ys H' ⟨S2,F2,acc,R2,st2,le,ry,ha,hl,rfl,eO⟩;refine⟨by rw[ry.length];exact aeQ (aaY ha (aaY hl hlen)) b_,?_⟩;have w':=w F2 H' le R2.sub i;by_cases hlt:i<ds.length
  .have hd:ds[i]? =some ds[i]:=aaS hlt;obtain⟨go,yl⟩:=w'.1 _ hd;rw[acs hlt]at eO;refine .inr ⟨go,λxv H3 y=>?_⟩;obtain⟨FN,n3,sb3,rx⟩:=yl xv H3 y;obtain⟨da,db,eab⟩:∃da db,ds[i]= .tup [da,db]:=by
    generalize ds[i]=dd at eO;unfold g8 at eO;split at eO
    .rename_i z;cases z
    .rename_i z;injection z with z1 z2;exact⟨_,_,z1⟩
    .cases eO
   have R2:Rel K B S2 O FN H3:=R2.new n3 sb3;have st2:Step S S2 O F H FN H3:=st2.trans n3.step;have le:∀b o,F1 b=some o->FN b=some o:=λb o z=>n3.le b o (le b o z);have ry:=ry.le n3.le;rw[eab]at eO rx;obtain⟨pa,xs2,epa,fpa,hpa,Jm⟩:=R2.sub.mZ rx;obtain⟨x1,x2,exs,rx1,rx2⟩:=L7 Jm;subst exs epa;obtain⟨us,e1,eO⟩:=aj (show(dz S2 cap).bind _=_ from eO);split at eO
   .rename_i hnd;obtain⟨ws,e2,eO⟩:=aj eO;obtain⟨⟨bk,T1⟩,e3,eO⟩:=aj eO;obtain⟨vs,k1,k2⟩:=Cy R2 e1;have rr:Paired (λv u=>gI K B S2 O H3 FN H3 v u) (x1::x2::vs) (.t da :: .t db::us):=.cons rx1 (.cons rx2 k2);have er:=uJ R2 da (uJ R2 db e2);have ar:=rE R2 rr er;have nd:=dF R2 rr er hnd.1 hnd.2;have R3:=rG (n:=ws.length+2) R2.sub ar nd (List.replicate (ws.length+2) x) (by simp);have hvl:vs.length=ws.length:=by have:=ar.length;simpa using this
    have es:start (List.replicate (ws.length+2) x) (x1::x2::vs)=some x1::some x2::cU cap O:=by
     unfold start;rw[k1];simp[hvl]
    have eS:(U.t da::U.t db::ws).map some++List.replicate (ws.length+2-(U.t da::U.t db::ws).length) none=some (U.t da)::some (U.t db)::ws.map some:=by simp
    rw[es,eS]at R3;have back:∀(T2:SS)(F3 H4:Hp)(outs:List MO)(S3:SS),Rel K ⟨lent (x1::x2::vs) (U.t da::U.t db::ws),FN,H3⟩ T2 (some x1::some x2::cU cap O) F3 H4->bN (U.t da::U.t db::ws) T2=some outs->wb us outs S2=some S3->Rel K B S3 O F3 H4/\Step S S3 O F H F3 H4/\(∀b o,FN b=some o->F3 b=some o):=λT2 F3 H4 outs S3 RT ho hw=>by
     have po:=post_of ar T2 _ F3 H4 outs RT ho;obtain⟨Ra,AM,_⟩:=kR (S0:=S2) (F0:=FN) (H0:=H3) R2 (Step.refl ..) rr er (show wb (U.t da::U.t db::us) outs S2=some S3 by cases outs<;>exact hw) hnd.1 po;exact⟨Ra,st2.trans AM,AM.ext.le⟩
    refine⟨pa,x1,x2,rfl,.inl hpa,_,_,FN,bk,T1,R3,e3,λF3 H4 RS YD=>?_⟩;cases bk with
    |true=>
     obtain⟨⟨yd,T2⟩,e4,eO⟩:=aj (show(g T1).bind _=_ from eO);obtain⟨outs,e5,eO⟩:=aj eO;obtain⟨S3,e6,eO⟩:=aj eO;refine Cn ⟨_,T1,F3,yd,T2,RS,e4,λyv F4 H5 YE YF YG=>?_⟩;obtain⟨Ra,AM,F9⟩:=back T2 F4 H5 outs S3 YE e5 e6;refine⟨ds.length-(i+1),by lia,S3,F4,acc++[yd],Ra,AM,λb o z=>F9 b o (le b o z),(ry.le F9).append (.cons YG .nil),by simp;lia,hlt,rfl,eO⟩
    |false=>
     obtain⟨outs,e5,eO⟩:=aj (show(bN (U.t da::U.t db::ws) T1).bind _=_ from eO);obtain⟨S3,e6,eO⟩:=aj eO;obtain⟨Ra,AM,F9⟩:=back T1 F3 H4 outs S3 RS e5 e6;exact Cm ⟨ds.length-(i+1),by lia,S3,F3,acc,Ra,AM,λb o z=>F9 b o (le b o z),ry.le F9,by lia,hlt,rfl,eO⟩
   .cases eO
  .have e:i=ds.length:=by lia
   subst e;rw[age]at eO;cases eO;refine .inl ⟨w'.2 (aaP _),λp hp=>?_⟩;have n:=jm.obj (F:=F2) hp (.lst ys);refine k (.ref p) F2 _ (R2.new n (R2.sub.same n.same)) (st2.trans n.step) ⟨p,rfl,none_of st2.ext.there hp,R2.sub.fresh hp,⟨ys,aR,ry⟩,λm=>?_,none_of R2.ext.there hp⟩;obtain⟨o,ho⟩:=R2.has m;rw[hp]at ho;cases ho
 .cases hg
def Walk.n{J:It}{F:Hp}{ds:List D}(w:Walk J F ds):WalkN J F ds:=λF' H' le sb i=>⟨λd hd=>⟨((w F' H' le sb i).1 d hd).1,λx H2 y=>by
 obtain⟨rfl,r⟩:=((w F' H' le sb i).1 d hd).2 x H2 y;exact⟨F',jm.refl ..,sb,r⟩⟩,(w F' H' le sb i).2⟩
def JC{B:Base}(h:tE K B (ow cap gi q g) O H Q):Pu K (tIt K B gi) cap (λO H Q=>∃B,tQ K B q O H Q) (λO H Q=>∃B,tD K B g O H Q) O H Q:=
 let⟨S,F,ds,S1,R,hg,k⟩:=Ge h;⟨S,F,ds,S1,R,hg,λJ F1 H1 R1 st w=>k J F1 H1 R1 st w.n⟩
def Ei(T:uQ X x y0 bL cap scope cl)(hc:X.calm=true)(hi:JI X (.Tuple [.Name x px,.Name y0 py] k0 pt) iter gi)
  (ht:∀C s H fp,Uw (cF X (x::y0::bL) scope cl C s H fp) ifs q)(he:∀C s H fp,JD (cF X (x::y0::bL) scope cl C s H fp) elt g)
  (hs:∀x,foldedSetIterable iter X.env x=pure x:=by intro _;rfl):JE X (.ListComp elt [⟨.Tuple [.Name x px,.Name y0 py] k0 pt,iter,ifs,0⟩] scope pos) (ow cap gi q g):=⟨λB=>
 (Jz (tc:=λO H Q=>∃B,tQ X.K B q O H Q) (te:=λO H Q=>∃B,tD X.K B g O H Q) T hc (hi.h B) (λC s H fp pins s' O H' Q I ⟨B',z⟩=>(ht C s H fp).h B' pins s' O H' Q I z) (λC s H fp pins s' O H' Q I ⟨B',z⟩=>(he C s H fp).h B' pins s' O H' Q I z) hs).imp λO H Q h=>JC h⟩
end L2
end
section
namespace L2
noncomputable def pL(i:Nat)(gu:GU):GU:=λS=>(gu S).map λp=>(.v i::p.1,p.2)
end L2
end
section
namespace L2
open PySem.Calls
section
variable {X:Cx}{tg a b:Expr}{p pos:Pos}{ta:TA}{gA:GA}
variable {p2 pos2:Pos}
def Gf:gY X (.type "dict") (λxs H Q=>∃c kvs,xs=[.ref c]/\H c=some (.dK kvs)/\∀l,H l=none->Q (.ref l) (upd H l (.dK kvs))):=by
 intro pins s O H xs us Q I r ⟨c,kvs,e,hc,q⟩;subst e;cases r with
 |cons r1 rr=>
  cases rr;cases r1;obtain⟨z,hd,vs,rel,dd⟩:=Li I.hok hc;refine kt_call_dict hd dd (by rw[<-rel.length];exact z) λh' OO hs=>?_;have hp:=I.hok.fresh (aaP c_);have kp:∀b u,s.heap.get? b=some u->h'.get? b=some u:=λb u e=>(hs.2 b (aa1 (aaX e))).trans (aaE _ e);exact⟨.ref _,_,I.laid (a:=c_) (o:=.dK kvs) (t':=s.toks) (h':=h') kp (aaP _) ⟨z,ad0.mpr (acH (aa1 I.big)),vs,rel,OO⟩,rfl,q _ hp⟩
noncomputable def zx(i:Nat):GE:=λS=>match S[i]? with
 |some (some (.b (.dct kvs)))=>some (.m (.dct kvs),S)
 |_=>none
def JF{i:Nat}{S S':SS}{u:U}(h:zx i S=some (u,S')):∃w kvs,S[i]? =some (some w)/\fj w=true/\RO w=some (.dct kvs)/\u= .m (.dct kvs)/\S'=S:=by
 unfold zx at h;split at h
 .rename_i kvs e;cases h;exact⟨_,kvs,e,rfl,rfl,rfl,rfl⟩
 .cases h
def L8{i:Nat}{x:Str}{px:Pos}(hg:Gl X "dict")(hm:X.mg "dict" =none)(hN:X.N[i]? =some x:=by rfl)(hv:pF X.env.scope x:=by trivial)
  (hd:BBT x:=by decide)(hcd:BBU x:=by decide)(he:starEach [.Name x px] X.env=(false,eval e_ X.env)::starEach [] X.env:=by rfl)(hpl:(backTo pos (starEach [] X.env)).any (·.1)=false:=by rfl):
  JE X (.Call (.Name "dict" p) [.Name x px] [] pos) (zx i):=⟨λB=>
 (Bg Gf hg hm PyProof.Rows.Boot.dict (dN (cA hN hv hd hcd) iI he) b_ b_ he hpl).imp λO H Q hh=>by
  obtain⟨S,F,u,S',R,hg',q⟩:=hh;obtain⟨w,kvs,hS,LP,hin,rfl,rfl⟩:=JF hg';obtain⟨v0,hv0,r0⟩:=R.rep i w hS;obtain⟨c,o,rfl,fc,eo,at0⟩:=r0.cL LP;rw[hin]at eo;cases eo;obtain⟨ws,hc,pr⟩:=at0;refine⟨_,hv0,c,ws,rfl,hc,λl hl=>?_⟩;have n:=jm.obj (F:=F) hl (.dK ws);have hn:¬cL S' O l:=λm=>by obtain⟨o,ho⟩:=R.has m;rw[hl]at ho;cases ho
  exact q (.ref l) F _ (R.new n (R.sub.same n.same)) n.step ⟨l,rfl,hl,R.sub.fresh hl,⟨ws,aR,pr⟩,hn,none_of R.ext.there hl⟩⟩
end
end L2
end
section
namespace L2
variable {xs:Array Nat}{j:Nat}{es:Array (Int×Value)}{t':SetTable}{prog:Program}{ns ns':BBD}{a:Addr}
abbrev GN:=Addr->SS->List (List D)->Option (SS×List (List D))
def kX(xs:Array Nat):Prop:=xs.toList.Pairwise (· < ·)
def yp(h:kX xs){i:Nat}(hij:i<j)(hj:j<xs.size):xs.getD i 0<xs.getD j 0:=by
 have:=(aeY.mp h) i j (by simpa using afP hij hj) (by simpa using hj) hij;rw[afx,afx]at this;rw[abQ,abQ,abH hj,abH (afP hij hj)];exact this
def Bl(xs:Array Nat)(j p:Nat):Prop:=p<=xs.size/\(∀i,i<p->xs.getD i 0<j)/\∀i,p<=i->i<xs.size->j<=xs.getD i 0
theorem zy(xs:Array Nat)(j:Nat)(h:kX xs):∀(fuel lo hi:Nat),hi-lo<=fuel->lo<=hi->hi<=xs.size->(∀i,i<lo->xs.getD i 0<j)->(∀i,hi<=i->i<xs.size->j<=xs.getD i 0)->Bl xs j (SetTable.below.go xs j fuel lo hi)
 |0,lo,hi,hf,hl,hs,a,b=>by
  have:lo=hi:=by lia
  subst this;exact⟨hs,a,b⟩
 |fuel+1,lo,hi,hf,hl,hs,a,b=>by
  have eg:SetTable.below.go xs j (fuel+1) lo hi=if lo<hi then(if xs.getD ((lo+hi) / 2) j<j then SetTable.below.go xs j fuel ((lo+hi) / 2+1) hi else SetTable.below.go xs j fuel lo ((lo+hi) / 2)) else lo:=rfl
  rw[eg];by_cases c:lo<hi
  .rw[if_pos c];have hm:(lo+hi) / 2<hi:=by lia
   have hm2:lo<=(lo+hi) / 2:=by lia
   have e:xs.getD ((lo+hi) / 2) j=xs.getD ((lo+hi) / 2) 0:=by
    rw[abQ,abQ,abH a_];rfl
   rw[e];by_cases d:xs.getD ((lo+hi) / 2) 0<j
   .rw[if_pos d];refine zy xs j h fuel _ hi a_ a_ hs (λi hi'=>?_) b;by_cases q:i=(lo+hi) / 2
    .rw[q];exact d
    .have:=yp h (i:=i) (j:=(lo+hi) / 2) a_ a_;lia
   .rw[if_neg d];refine zy xs j h fuel lo _ a_ a_ a_ a (λi hi' hs'=>?_);by_cases q:i=(lo+hi) / 2
    .rw[q];lia
    .have:=yp h (i:=(lo+hi) / 2) (j:=i) a_ hs';lia
  .rw[if_neg c];have:lo=hi:=by lia
   subst this;exact⟨hs,a,b⟩
def zz(h:kX xs)(j:Nat):Bl xs j (SetTable.below xs j):=
 zy xs j h xs.size 0 xs.size a_ a_ (aaP _) (λi h=>by lia) (λi h1 h2=>by lia)
def getD_list(xs:Array Nat)(i:Nat):xs.getD i 0=xs.toList.getD i 0:=by
 rw[abQ,abC,ad9]
def Ej(h:kX xs)(hn:xs[SetTable.below xs j]?≠some j):kX (SetTable.insertAt xs (SetTable.below xs j) j):=by
 obtain⟨p1,p2,p3⟩:=zz h j;generalize SetTable.below xs j=p at *;have e:(SetTable.insertAt xs p j).toList=xs.toList.take p++j::xs.toList.drop p:=by
  unfold SetTable.insertAt;simp[aef]
 unfold kX;rw[e,agk];have ht:∀a∈xs.toList.take p,a<j:=λa ha=>by
  obtain⟨i,hi⟩:=List.getElem?_of_mem ha;have hl:=(abv.mp hi).1;rw[aea]at hl;rw[agL a_]at hi;have:=p2 i a_;rw[getD_list,abC,hi]at this;exact this
 have hd:∀a∈xs.toList.drop p,j<a:=λa ha=>by
  obtain⟨i,hi⟩:=List.getElem?_of_mem ha;rw[List.getElem?_drop]at hi;have hl:p+i<xs.size:=by simpa using(abv.mp hi).1
  have ge:=p3 (p+i) a_ hl;rw[getD_list,abC,hi]at ge;have ge:j<=a:=ge;have ne:a≠j:=λq=>by
   subst q;by_cases z:i=0
   .subst z;rw[Nat.add_zero,ad9]at hi;exact hn hi
   .have:=yp h (i:=p) (j:=p+i) a_ hl;rw[getD_list,getD_list,abC,abC,hi]at this;have q:=p3 p (aaP _) a_;rw[getD_list,abC]at q;simp only[aeJ]at this;lia
  lia
 refine⟨h.sublist (List.take_sublist _ _),List.pairwise_cons.mpr ⟨hd,h.sublist (List.drop_sublist _ _)⟩,λa ha b hb=>?_⟩;rcases aaV.mp hb with rfl|hb
 .exact ht a ha
 .exact afP (ht a ha) (hd b hb)
def Gg(n:Nat):kX (Array.range n):=by
 unfold kX;rw[Array.toList_range];exact List.pairwise_lt_range
def Pw{t:SetTable}(h:∀i,t.slot j≠.live i):t.place[SetTable.below t.place j]?≠some j:=λe=>by
 refine h (SetTable.below t.place j) ?_;unfold SetTable.slot;simp only[e,acS,if_true]
theorem zA(t:SetTable)(hashAt:Nat->Int)(hh:Int):∀(fuel:Nat)(p:SetTable.Probe)(j:Nat)(dm:Option Nat),(∀d,p.dummy=some d->t.slot d= .dummy)->SetTable.probe.go t hashAt hh fuel p=some (.empty j dm)->t.slot j= .empty/\∀d,dm=some d->t.slot d= .dummy
 |0,p,j,dm,hp,e=>by cases e
 |fuel+1,p,j,dm,hp,e=>by
  unfold SetTable.probe.go at e;cases q:t.slot p.j with
  |empty=>
   rw[q]at e;injection e with e
   injection e with e1 e2
   subst e1 e2;exact⟨q,hp⟩
  |dummy=>
   rw[q]at e;refine zA t hashAt hh fuel _ j dm (λd hd=>?_) e;have:(t.advance {p with dummy:=some p.j}).dummy=some p.j:=by
    unfold SetTable.advance;split
    .rfl
    .rfl
   rw[this]at hd;cases hd;exact q
  |live i=>
   rw[q]at e;dsimp only at e;split at e
   .cases e
   .refine zA t hashAt hh fuel _ j dm (λd hd=>hp d ?_) e;have:(t.advance p).dummy=p.dummy:=by
     unfold SetTable.advance;split
     .rfl
     .rfl
    rw[<-this];exact hd
def Px{t:SetTable}{hh:Int}{b:Bool}(e:t.freeSlot hh=some (j,b)):t.place[SetTable.below t.place j]?≠some j:=by
 unfold SetTable.freeSlot at e;split at e
 .rename_i j' dm q;obtain⟨s1,s2⟩:=zA t _ hh _ _ j' dm (λd hd=>by cases hd) q;injection e with e
  injection e with e1 e2
  subst e1;refine Pw λi=>?_;cases dm with
  |none=>rw[show(Option.getD none j':Nat)=j' from rfl,s1];intro z;cases z
  |some d=>rw[show(Option.getD (some d) j':Nat)=d from rfl,s2 d rfl];intro z;cases z
 .cases e
def oz(t:SetTable)(n:Nat):kX (t.standIn n).place:=Gg n
def Py{t:SetTable}{n:Nat}(h:kX t.place):kX (t.orStandIn n).place:=by
 unfold SetTable.orStandIn;split
 .exact h
 .exact oz t n
def UC{t:SetTable}{n:Nat}:(t.orStandIn n).led=t.led:=by
 unfold SetTable.orStandIn;split<;>rfl
def Ma{t:SetTable}{hh:Int}{x:Value}(h:kX t.place):kX (layNew t es hh x).2.1.place/\(layNew t es hh x).2.1.led=t.led:=by
 unfold layNew;split
 .rename_i j b e;refine⟨Py ?_,UC⟩;exact Ej h (Px e)
 .exact⟨oz _ _,rfl⟩
def JH{mask finger moves:Nat}{led plain:Bool}{hs:Array Int}{o:Array Nat}(e:SetTable.laid mask finger moves led plain hs=some (t',o)):kX t'.place/\t'.led=led:=by
 unfold SetTable.laid at e;obtain⟨owner,_,e⟩:=aj e;injection e with e
 injection e with e1 e2
 subst e1;refine⟨?_,rfl⟩;unfold kX;show List.Pairwise _ (List.map _ (List.filterMap _ (List.range (mask+1))));rw[acW,List.pairwise_filterMap];refine List.pairwise_lt_range.imp λ{a b} hab c hc d hd=>?_;obtain⟨q1,_,rfl⟩:=aA hc;obtain⟨q2,_,rfl⟩:=aA hd;exact hab
def Gh{t:SetTable}{wanted:Nat}:kX (relayAll t es wanted).2.1.place/\(relayAll t es wanted).2.1.led=t.led:=by
 unfold relayAll;split
 .rename_i t' o e;dsimp only;split
  .exact JH e
  .exact⟨oz _ _,rfl⟩
 .exact⟨oz _ _,rfl⟩
def Gi(h:kX xs){i:Nat}(hi:i<xs.size):SetTable.below xs (xs.getD i 0+1)=i+1:=by
 obtain⟨p1,p2,p3⟩:=zz h (xs.getD i 0+1);generalize SetTable.below xs (xs.getD i 0+1)=p at *;have a:¬p<=i:=λq=>by
  have:=p3 i q hi;lia
 have b:¬i+1<p:=λq=>by
  have:=p2 (i+1) q;have:=yp h (i:=i) (j:=i+1) a_ a_;lia
 lia
def Ek(h:kX xs):SetTable.below xs 0=0:=by
 obtain⟨p1,p2,p3⟩:=zz h 0;generalize SetTable.below xs 0=p at *;apply abO;intro q;have:=p2 0 a_;lia
noncomputable def uy(w:World):Bool:=w.params.followText "set-order"
noncomputable def intOf:Value->Int
 |.int i _=>i
 |_=>0
structure RW(prog:Program)(w:World)(es:Array (Int×Value))(t:SetTable)(ns:BBD):Prop where
 el:ElemsOf (intKind prog w) es.toList
 perm:(es.toList.map λe=>intOf e.2).Perm ns
 few:es.size<scanBound
 fits:t.fits es.size=true
 rise:kX t.place
 led:t.led=!uy w
def nD(prog:Program)(w:World)(h:Heap)(a:Addr)(ns:BBD):Prop:=∃o es ep t,h.get? a=some o/\o.ExactSet/\o.data= .set es ep t/\RW prog w es t ns
def intKind_is{w:World}{k:Int}{v:Value}(h:(intKind prog w).is k v=true):intOf v=k:=by
 obtain⟨t,rfl⟩:=agB h;rfl
def RW.mem{w:World}{t:SetTable}(h:RW prog w es t ns)(k:Int):k∈ns↔∃e∈es.toList,(intKind prog w).is k e.2=true:=by
 rw[<-h.perm.mem_iff,aa2];constructor
 .rintro⟨e,he,rfl⟩;obtain⟨⟨k,hk,_⟩,_⟩:=h.el e he;rw[intKind_is hk];exact⟨e,he,hk⟩
 .rintro⟨e,he,hk⟩;exact⟨e,he,intKind_is hk⟩
section
variable {prog:Program}{w:World}{A:Around}{E:AAE}{s:Shared}
def zB{h:Heap}{o:Obj}{ep:Nat}{t:SetTable}(ho:h.get? a=some o)(hex:o.ExactSet)(hd:o.data= .set es ep t)
  {es':Array (Int×Value)}(I:RW prog w es' t' ns'):
  (h.update a (Obj.putSet es' t')).get? a=some {o with data:=.set es' (ep+1) t'}/\nD prog w (h.update a (Obj.putSet es' t')) a ns':=by
 have hg:(h.update a (Obj.putSet es' t')).get? a=some {o with data:=.set es' (ep+1) t'}:=by
  have:=afu (Obj.putSet es' t') ho (by rw[putSet_of es' t' hd];rfl);rw[putSet_of es' t' hd]at this;exact this
 exact⟨hg,_,es',ep+1,t',hg,hex,rfl,I⟩
def El{g:Bool->Sem Unit}(hg:∀(b:Bool)(s₁:Shared)(Q':Unit->Shared->Prop),Q' () s₁->wpAny g_ A (g b) Q' E s₁)
  {o:Obj}{ep:Nat}{t:SetTable}(ho:s.heap.get? a=some o)(hex:o.ExactSet)(hd:o.data= .set es ep t)
  {es1:Array (Int×Value)}{t2:SetTable}(I:RW prog w es1 t2 ns'){wasDummy:Bool}{R:Option Bool->Shared->Prop}
  (h:∀h',Heap.SameBut a s.heap h'->nD prog w h' a ns'->R (some true) {s with heap:=h'}):
  wpAny g_ A (do
    storeSet a es1 t2
    if(!wasDummy && t2.tooFull)=true then do
      g (relayAll t2 es1 (SetTable.grown es1.size)).2.2
      storeSet a (relayAll t2 es1 (SetTable.grown es1.size)).1 (relayAll t2 es1 (SetTable.grown es1.size)).2.1
      pure (some true)
     else pure (some true)) R E s:=by
 have hb1:=I.few;refine aam (wpAny_storeSet_of ho hd ?_ (agD hb1));obtain⟨Mb,hS1⟩:=zB ho hex hd I;have YY:=acU s.heap a (Obj.putSet es1 t2);split
 .have hp:=relayAll_perm t2 es1 (SetTable.grown es1.size);have hfr:=relayAll_fits t2 es1 (SetTable.grown es1.size);obtain⟨UD,UE⟩:=Gh (t:=t2) (es:=es1) (wanted:=SetTable.grown es1.size);generalize hRl:relayAll t2 es1 (SetTable.grown es1.size)=Rl at hp hfr UD UE ⊢;obtain⟨es2,t3,ae7⟩:=Rl;dsimp only at hp hfr UD UE ⊢;have hsz:es2.size=es1.size:=by rw[<-abM,hp.length_eq,abM]
  have I2:RW prog w es2 t3 ns':=⟨I.el.perm hp,(hp.map _).trans I.perm,by rw[hsz];exact hb1,hfr,UD,by rw[UE];exact I.led⟩
  refine aam (hg _ _ _ ?_);refine aam (wpAny_storeSet_of Mb rfl ?_ (agD I2.few));obtain⟨_,hS2⟩:=zB Mb hex rfl I2;exact wpAny_pure (h _ (YY.trans (acU _ a _)) hS2)
 .exact wpAny_pure (h _ YY hS1)
def Pz{k:Int}{x:Value}{Q:Bool->Shared->Prop}(hkey:(intKind prog w).is k x=true)(hsc:x.scannable=true)(hS:nD prog w s.heap a ns)(hroom:ns.length+1<scanBound)
  (h:∀h',Heap.SameBut a s.heap h'->nD prog w h' a (if k∈ns then ns else ns++[k])->Q (!decide (k∈ns)) {s with heap:=h'}):
  wpAny g_ A (setAddHashed a x ((intKind prog w).hash k)) Q E s:=by
 obtain⟨o,es,ep,t,ho,hex,hd,I⟩:=hS;have hn:es.size=ns.length:=by rw[<-abM,<-I.perm.length_eq,aar]
 have hb1:es.size+1<scanBound:=by rw[hn];exact hroom
 unfold setAddHashed setAddHashedIn;refine acK (aam (afr ho hd I.fits ?_));dsimp only;rw[byScan_of hsc I.few I.el];simp only[↓reduceIte];unfold setAddByScan;refine aam ?_;refine aam (afw ?_);refine aam (wpAny_setScan_of hkey ho hd I.fits I.el ?_);cases hr:List.findIdx? (λe=>(intKind prog w).is k e.2) es.toList with
 |some j=>
  dsimp only;obtain⟨hj,hpj,_⟩:=List.findIdx?_eq_some_iff_getElem.mp hr;have YZ:k∈ns:=(I.mem k).mpr ⟨es.toList[j],ae3 hj,hpj⟩;refine wpAny_pure (wpAny_pure ?_);have e:s={s with heap:=s.heap}:=by cases s;rfl
  have:=h s.heap (Heap.SameBut.refl a s.heap) (by rw[if_pos YZ];exact⟨o,es,ep,t,ho,hex,hd,I⟩);rw[abJ YZ]at this;rw[e];exact this
 |none=>
  dsimp only;have YZ:k∉ns:=λhk=>by
   obtain⟨e,he,hp⟩:=(I.mem k).mp hk;have:=List.findIdx?_eq_none_iff.mp hr e he;rw[hp]at this;exact Bool.noConfusion this
  have hgw:∀(b:Bool){s₁:Shared}{Q':Unit->Shared->Prop},Q' () s₁->wpAny g_ A (match b with|true=>rule "set.scan.the-table-gave-way" | false=>pure ()) Q' E s₁:=
   λb s₁ Q' hq=>by cases b<;>first|exact wpAny_pure hq|exact afw hq
  have Bx:=layNew_perm t es ((intKind prog w).hash k) x;have Mc:=layNew_fits t es ((intKind prog w).hash k) x;obtain⟨UD,UE⟩:=Ma (es:=es) (hh:=(intKind prog w).hash k) (x:=x) I.rise;generalize hL:layNew t es ((intKind prog w).hash k) x=L at Bx Mc UD UE ⊢;obtain⟨es1,t1,wasDummy,gave⟩:=L;dsimp only at Bx Mc UD UE ⊢;rw[Array.toList_push]at Bx;have I1:RW prog w es1 t1 (ns++[k]):=by
   refine⟨(I.el.push hkey hsc).perm Bx,?_,?_,Mc,UD,by rw[UE];exact I.led⟩
   .refine(Bx.map _).trans ?_;rw[ad8,List.map_singleton,intKind_is hkey];exact I.perm.append (aeK _)
   .rw[<-abM,Bx.length_eq,aaW,abM];simpa using hb1
  refine aam (hgw _ ?_);have hend:∀h',Heap.SameBut a s.heap h'->nD prog w h' a (ns++[k])->Q true {s with heap:=h'}:=by
   intro h' hsb hS';have:=h h' hsb (by rw[if_neg YZ];exact hS');rw[abP YZ]at this;exact this
  have off:RW prog w es1 {t1 with plain:=false} (ns++[k]):=⟨I1.el,I1.perm,I1.few,SetTable.fits_plain_off I1.fits,I1.rise,I1.led⟩
  split
  .refine aam ?_;rw[hashByValue_scannable 8 hsc];refine wpAny_pure ?_;refine El (ns':=ns++[k]) ?_ ho hex hd ?_ ?_
   .intro b s₁ Q' hq;cases b<;>first|exact wpAny_pure hq|exact afw hq
   .split
    .exact I1
    .exact off
   .intro h' hsb hS';dsimp only;exact wpAny_pure (hend h' hsb hS')
  .refine aam (wpAny_pure ?_);simp only[↓reduceIte];refine El (ns':=ns++[k]) ?_ ho hex hd I1 ?_
   .intro b s₁ Q' hq;cases b<;>first|exact wpAny_pure hq|exact afw hq
   .intro h' hsb hS';dsimp only;exact wpAny_pure (hend h' hsb hS')
end
noncomputable def uz(val:Nat->Int):Nat->BBD
 |0=>[]
 |i+1=>if val i∈uz val i then uz val i else uz val i++[val i]
theorem CB(val:Nat->Int):∀i,(uz val i).length<=i
 |0=>aaP _
 |i+1=>by
  have:=CB val i;show(if val i∈uz val i then uz val i else uz val i++[val i]).length<=i+1;split
  .lia
  .rw[aaW,acX];lia
theorem Me(val:Nat->Int):∀i,(uz val i).Nodup
 |0=>abZ
 |i+1=>by
  have:=Me val i;show(if val i∈uz val i then uz val i else uz val i++[val i]).Nodup;split
  .exact this
  .rename_i m;rw[af4];exact⟨this,by simp,λx hx y hy e=>m (by rw[aaO]at hy;rw[<-hy,<-e];exact hx)⟩
theorem Hw(val:Nat->Int)(k:Int):∀i,k∈uz val i↔∃j,j<i/\val j=k
 |0=>by simp[uz]
 |i+1=>by
  have ih:=Hw val k i;show k∈(if val i∈uz val i then uz val i else uz val i++[val i])↔_;by_cases m:val i∈uz val i
  .rw[if_pos m,ih];constructor
   .rintro⟨j,h,e⟩;exact⟨j,by lia,e⟩
   .rintro⟨j,h,e⟩;by_cases q:j=i
    .subst q;rw[e]at m;exact ih.mp m
    .exact⟨j,by lia,e⟩
  .rw[if_neg m,abu,ih,aaO];constructor
   .rintro(⟨j,h,e⟩|e)
    .exact⟨j,by lia,e⟩
    .exact⟨i,by lia,e.symm⟩
   .rintro⟨j,h,e⟩;by_cases q:j=i
    .subst q;exact .inr e.symm
    .exact .inl ⟨j,by lia,e⟩
section
variable {prog:Program}{w:World}{A:Around}{R:Result->Shared->Prop}{I:Addr}{fp wr:BBE}{G:Array GenState->Array GenState->Prop}{n:Nat}{P:Nat->Value->Prop}{St:Nat->Shared->Prop}
def JJ(W:WalksS prog w A.in1 I fp wr G n P St)(S:Addr)(hSf:S∉fp)(val:Nat->Int)(hval:∀i v,P i v->∃t,v= .int (val i) t)(hb:n+1<scanBound):
  ∀(k i:Nat)(s:Shared),n-i=k->i<=n->St i s->nD prog w s.heap S (uz val i)->
   (∀s',Moved (S::wr) G s s'->nD prog w s'.heap S (uz val n)->R (.ok (.ret .none)) s')->
   codeAny g_ A (.builtin "set.update.loop" ⟨[.ref S,.ref I],[]⟩) R s:=by
 have hSw:S∉wr:=λh=>hSf (W.sub _ h);have hsub:∀b∈wr,b∈S::wr:=λb hb=>aaR _ hb;have keep:∀{i:Nat}{s s':Shared},Moved wr G s s'->nD prog w s.heap S (uz val i)->nD prog w s'.heap S (uz val i):=
  λhm ⟨o,es,ep,t,ho,rest⟩=>⟨o,es,ep,t,hm.heap S _ hSw ho,rest⟩
 intro k
 induction k with
 |zero=>
  intro i s hk hi hst hS hR;obtain rfl:i=n:=by lia
  refine aeF F.entry_set_update_loop ?_;rw[aeZ afZ _];show wpAny _ A.in1 (pyNext (.ref I) >>= _) _ _ s;refine aam (W.done s _ _ hst λs' hm=>?_);show wpAny _ A.in1 (ret Value.none) _ _ s';exact wpAny_pure (hR s' (hm.mono hsub) (keep hm hS))
 |succ k ih=>
  intro i s hk hi hst hS hR;have hlt:i<n:=by lia
  refine aeF F.entry_set_update_loop ?_;rw[aeZ afZ _];show wpAny _ A.in1 (pyNext (.ref I) >>= _) _ _ s;refine aam (W.item i s _ _ hlt hst λv s' hP ac8 hm=>?_);obtain⟨t,rfl⟩:=hval i v hP;have hS':=keep hm hS;show wpAny _ A.in1 (holding [Value.int (val i) t] (setAdd S (.int (val i) t)) >>= _) _ _ s';refine aam (acK ?_);unfold setAdd;refine acK ?_;have his:(intKind prog w).is (val i) (.int (val i) t)=true:=by show Value.isInt (val i) (.int (val i) t)=true;simp[Value.isInt]
  refine aam ((intKind prog w).pyHash (k:=val i) his ?_);have hroom:(uz val i).length+1<scanBound:=by have:=CB val i;lia
  refine Pz his rfl hS' hroom λh' hsb hSi=>?_;have hSi:nD prog w h' S (uz val (i+1)):=hSi;refine wpAny_pure ⟨afa afZ _,ih (i+1) _ a_ hlt (W.frame _ s' _ _ ac8 (aeM _) λb hb o e=>?_) hSi λs'' ada adb=>?_⟩
  .rw[hsb.2 b (λh:b=S=>hSf (by rw[<-h];exact hb))];exact e
  .refine hR s'' (Moved.trans W.gtrans ((hm.mono hsub).then_heap (aeM _) λb o hb e=>?_) ada) adb;rw[hsb.2 b (λh:b=S=>hb (by rw[h];exact aaT))];exact e
end
section
variable {prog:Program}{w:World}{A:Around}{E:AAE}{s:Shared}
def Mf(a:Value){Q₁:AAE}(h:Q₁ (.ref c_) {s with heap:=s.heap.push (fq (!uy w))}):
  codeAny g_ A (.call (.builtin "set.__new__") ⟨[.type "set",a],[]⟩) (wants Q₁ E) s:=by
 refine codeAny_of_tree ?_;show wpAny _ A.in1 (do checkBuiltinCall "set.__new__" ⟨[.type "set",a],[]⟩;again (.builtin "set.__new__" ⟨[.type "set",a],[]⟩)) _ _ s;refine aam (wpAny_of_eq (F.newCall_set_1 a) (wpAny_pure ⟨afa F.plain_set_new _,aeF F.entry_set_new ?_⟩));rw[aeZ F.plain_set_new _];unfold Builtin.«set.__new__» Builtin.Frozenset.newClass
 have hsub:=sub_set_self;obtain⟨hp,g,d,tk,os⟩:=s;dsimp only
 wp_walk
 refine afy (wpAny_pure ?_);dsimp only;simp only[newObj];refine aam (wpAny_alloc (wpAny_pure ?_));exact wpAny_pure h
def Em:isSubtype (.type "tuple") (.type "set")=pure false:=by rw[afX];kernel_rfl
def En:isSubtype (.type "tuple") (.type "frozenset")=pure false:=by rw[afX];kernel_rfl
noncomputable def Ky:Bool->String
 |true=>"list"
 |false=>"tuple"
def Po.seq{k:Bool}{h:Heap}{a:Addr}{its:AAK}(x:Po k h a its):∃o,h.get? a=some o/\o.cls= .type (Ky k)/\∃n,o.data= .seq its n:=by cases k<;>exact x
def UG{k:Bool}(hh:A.handled=none)(I l:Addr)(hne:l≠I)(its:AAK):Walks prog w A I [I,l] [I] its.size (λi v=>its[i]? =some v) (λi h=>ItK k h I l i/\Po k h l its):=by
 cases k
 .exact Walks.tuple hh I l hne its
 .exact Walks.list hh I l hne its
set_option maxHeartbeats 3200000 in
def By{k:Bool}{l:Addr}{its:AAL}{Q:AAE}(hh:A.handled=none)(hl:Po k s.heap l its.toArray)(hi:∀(i:Nat)(v:Value),its[i]? =some v->∃t,v=Value.int (ns.getD i 0) t)(hb:its.length+1<scanBound)
  (h:∀(h':Heap)(tk:Nat),nD prog w h' c_ (uz (λi=>ns.getD i 0) its.length)->
   (∀b o,b<s.heap.objs.size->s.heap.get? b=some o->h'.get? b=some o)->Q (.ref c_) {s with heap:=h',toks:=tk}):
  wpAny g_ A (call (.type "set") [.ref l]) Q E s:=by
 obtain⟨c,tl,agQ⟩:=ae4.mro;have hmade:=ae4.made;have hsub:=ae4.sub;refine wpAny_call (codeAny_of_tree ?_);show wpAny _ _ (callAny (.type "set") _) _ _ _;refine wpAny_pure ⟨Code.quiet_builtin _ i_,aeF F.entry_type_call ?_⟩;rw[Around.under_plain (weight_type_call_type "set" [.ref l] []) rfl];have h1:=ae4.notType;have h2:=ae4.canCreate;have hct:=F.typeCall_set_1 (.ref l)
 repeat (any_goals (first|assumption|wp_step))
 refine ae2 (Mf (.ref l) (E:=E) (Q₁:=λobj s₁=>obj= .ref c_/\s₁={s with heap:=s.heap.push (fq (!uy w))}) ⟨rfl,rfl⟩) λr s₁ hr=>?_;cases r with
 |error e=>exact hr
 |ok fl=>
  cases fl with
  |ret obj=>
   obtain⟨rfl,rfl⟩:=hr;have hS:(s.heap.push (fq (!uy w))).get? c_=some (fq (!uy w)):=aaZ _ rfl;have hT:Shared.TypeIs {s with heap:=s.heap.push (fq (!uy w))} (.ref c_) "set":=⟨_,hS,rfl⟩
   have hli:=ae4.init.lookup;have hbi:=ae4.init.bind (.ref c_)
   repeat (any_goals (first|assumption|wp_step))
   refine ae2 (codeAny_call_builtin (R:=wants (λr s₂=>r= .none/\∃h' tk,s₂={s with heap:=h',toks:=tk}/\
     nD prog w h' c_ (uz (λi=>ns.getD i 0) its.length)/\
     (∀b o,b<s.heap.objs.size->s.heap.get? b=some o->h'.get? b=some o)) E) ae4.init.plain F.entry_set_init (check_set_init_1 hT ?_)) λr₂ s₂ Mg=>?_
   .obtain⟨ol,Y0,hcl,nl,hdl⟩:=hl.seq;obtain⟨agR,Y3,ae8,UH⟩:=ol;simp only at hcl hdl;subst hcl;subst hdl;have agS:(s.heap.push (fq (!uy w))).get? l=some {cls:=.type (Ky k),dict:=Y3,data:=.seq its.toArray nl,slots:=UH}:=aaE _ Y0;have agT:isSubtype (.type (Ky k)) (.type "set")=pure false:=by cases k;exact Em;exact F.sub_list_set
    have agU:isSubtype (.type (Ky k)) (.type "frozenset")=pure false:=by cases k;exact En;exact F.sub_list_frozenset
    have hne:(Value.type (Ky k) == Value.type "dict")=false:=by cases k<;>decide
    have hl1:Po k (s.heap.push (fq (!uy w))) l its.toArray:=hl.at λo e=>aaE _ e;unfold Builtin.«set.__init__» noKeywords Builtin.Frozenset.updateFrom
    generalize hPI:pyIter=PI
    wp_walk
    subst hPI;refine YU hl1 ?_;refine aam (wpAny_runValue ?_);have hlS:l<c_:=aaX Y0;have hh3:A.in1.in1.in1.handled=none:=by simp[hh]
    have ade:l≠(s.heap.push (fq (!uy w))).objs.size:=by
     rw[ae0];exact aa1 (aeI hlS)
    have hSf:c_∉[(s.heap.push (fq (!uy w))).objs.size,l]:=by
     rw[ae0];simp only[aaV,aaO,abG,ad2,not_or];exact⟨aa1 (ae1 _),agJ hlS⟩
    have hb':its.toArray.size+1<scanBound:=by rw[aaQ];exact hb
    have hval:∀(i:Nat)(v:Value),its.toArray[i]? =some v->∃t,v= .int ((λi=>ns.getD i 0) i) t:=λi v hv=>hi i v (by simpa using hv);refine JJ ((UG hh3 _ l ade its.toArray).toS) c_
     hSf (λi=>ns.getD i 0) hval hb' (its.toArray.size-0) 0 _ a_ (abK _)
     ⟨ItK.new k _ l,hl1.at λo e=>aaE _ e⟩ ?Jt ?hR
    case Jt=>
     have hget:((s.heap.push (fq (!uy w))).push (itO k l)).get? c_=some (fq (!uy w)):=aaE _ hS;exact⟨_,_,_,_,hget,⟨rfl,rfl,rfl⟩,rfl,⟨λe he=>by simp at he,aeK _,by show 0<scanBound;unfold scanBound;decide,rfl,List.Pairwise.nil,rfl⟩⟩
    case hR=>
     intro s' hm hS';rw[aaQ]at hS';obtain⟨h',g',d',tk',os'⟩:=s';have eg:g'=s.gens:=hm.gens;have ed:d'=s.drawn:=hm.drawn;have eo:os'=s.os:=hm.os;subst eg;subst ed;subst eo;show wpAny _ _ _ _ _ _;refine wpAny_pure ?_;show wpAny _ _ (ret Value.none) _ _ _;refine wpAny_pure ⟨rfl,h',tk',rfl,hS',λb o hb e=>?_⟩;have hb1:b≠c_:=aa1 hb;have hb2:b≠(s.heap.push (fq (!uy w))).objs.size:=by
      rw[ae0];exact aa1 (aeI hb)
     exact hm.heap b o (by simp only[aaV,aaO,abG,ad2,not_or];exact⟨hb1,hb2⟩) (aaE _ (aaE _ e))
   .cases r₂ with
    |error e=>exact Mg
    |ok Y4=>
     cases Y4 with
     |ret r=>
      obtain⟨rfl,h',tk,rfl,hS',hk'⟩:=Mg
      repeat (any_goals (first|assumption|wp_step))
      exact h _ _ hS' hk'
     |_=>exact Mg.elim
  |_=>exact hr.elim
end
end L2
end
section
namespace L2
open PySem.Calls
variable {i n slot:Nat}{f0:Value}{Q:BBP->Shared->Prop}{pl:BBJ}
noncomputable def slotAt(place:Array Nat)(i:Nat):Nat:=if i=0 then 0 else place.getD (i-1) 0+1
def Gj{place:Array Nat}(h:kX place)(hi:i<=place.size):SetTable.below place (slotAt place i)=i:=by
 unfold slotAt;split
 .rename_i e;subst e;exact Ek h
 .rename_i e;rw[Gi h a_];lia
def Hx{α:Type}{l:List α}(h:i<l.length):(l[i]::l.eraseIdx i).Perm l:=by
 rw[List.eraseIdx_eq_take_drop_succ];have e:l=l.take i++l[i]::l.drop (i+1):=by rw[List.getElem_cons_drop,List.take_append_drop]
 conv=>rhs;rw[e]
 exact List.perm_middle.symm
theorem Hy{α:Type}(f:Nat->Nat):∀(fuel k:Nat)(left:List α)(out:Array α),left.length=fuel->(pickOrder.go f fuel k left out).toList.Perm (out.toList++left)
 |0,k,left,out,h=>by
  have:left=[]:=af0.mp h;subst this;show out.toList.Perm (out.toList++[]);rw[ad7]
 |fuel+1,k,left,out,h=>by
  have hl:f k % left.length<left.length:=agG _ a_;show(match left[f k % left.length]? with|some x=>pickOrder.go f fuel (k+1) (left.eraseIdx (f k % left.length)) (out.push x)|none=>out).toList.Perm _;rw[aaS hl];refine(Hy f fuel (k+1) _ _ (by rw[agw hl];lia)).trans ?_;rw[Array.toList_push,afs];refine List.Perm.append (aeK _) ?_;show(left[f k % left.length]::left.eraseIdx (f k % left.length)).Perm left;exact Hx hl
def JK{α:Type}(f:Nat->Nat)(xs:Array α):(pickOrder f xs).toList.Perm xs.toList:=by
 have:=Hy f xs.size 0 xs.toList #[] (by simp);rw[show(#[]:Array α).toList++xs.toList=xs.toList from rfl]at this;exact this
def Mh(h:Heap)(a:Addr)(es:Array (Int×Value))(ep:Nat)(t:SetTable):Prop:=∃o,h.get? a=some o/\o.ExactSet/\o.data= .set es ep t
def WU(h:Heap)(I a:Addr)(f0:Value)(i n ep:Nat):Prop:=h.get? I=some {cls:=.type "set_iterator",dict:=none,data:=.fields #[f0,.int i 0,.ref a,.int n 0,.int ep 0],slots:=#[]}
def vY(w:World)(a:Addr)(es:Array (Int×Value))(ep:Nat):List (Int×Value):=if uy w then(pickOrder (w.params.setOrder a ep) es).toList else es.toList
def BA(w:World)(a:Addr)(es:Array (Int×Value))(ep:Nat):(vY w a es ep).Perm es.toList:=by
 unfold vY;split
 .exact JK _ _
 .exact aeK _
section
variable {prog:Program}{w:World}{A:Around}{E:AAE}{s:Shared}{a I:Addr}{es:Array (Int×Value)}{ep:Nat}{t:SetTable}
def WU.typeIs(h:WU s.heap I a f0 i n ep):s.TypeIs (.ref I) "set_iterator":=⟨_,h,rfl⟩
def Nx(w:World)(t:SetTable)(i:Nat):Option (Value×Nat)->Option (Int×Value)->Prop
 |some (x,j),some e=>x=e.2/\(uy w=true\/j=slotAt t.place (i+1))
 |none,none=>True
 |_,_=>False
theorem UI(hb:uy w=true):∀z:Option (Int×Value),Nx w t i (z.map λe=>(e.2,slot)) z
 |none=>trivial
 |some _=>⟨rfl,.inl hb⟩
def Mi{Q:Option (Value×Nat)->Shared->Prop}(hS:Mh s.heap a es ep t)(hf:t.fits es.size=true)(hr:kX t.place)(JL:t.led=!uy w)(hpl:uy w=true\/(!t.plain && decide (es.size > 1))=false)(hi:i<=es.size)(hsl:uy w=true\/slot=slotAt t.place i)
  (q:∀r,Nx w t i r ((vY w a es ep)[i]?)->Q r s):wpAny g_ A (setNext a slot i ep) Q E s:=by
 obtain⟨o,ho,hex,hd⟩:=hS;have hps:t.place.size=es.size:=by
  unfold SetTable.fits at hf;rw[abS]at hf
  simpa using hf.1
 unfold setNext;refine aam (afr ho hd hf ?_);unfold setsByText;refine aam (aam (afy (wpAny_pure ?_)));refine acN (λhb=>?_) λhb=>?_
 .have hb':uy w=true:=hb;refine acN (λh=>absurd h (by simp)) λ_=>?_;refine aam ?_;unfold setWalk;refine aam (afr ho hd hf ?_);unfold setsByText;refine aam (aam (afy (wpAny_pure ?_)));refine acN (λ_=>?_) λh=>absurd hb h;refine aam (afy (wpAny_pure ?_));refine wpAny_pure (q _ ?_);unfold vY;rw[if_pos hb',ad9];exact UI hb' _
 .have hb':uy w=false:=by
   cases e:uy w with
   |false=>rfl
   |true=>exact absurd e hb
  refine acN (λh=>?_) λ_=>?_
  .rcases hpl with z|z
   .rw[hb']at z;cases z
   .exact absurd (show(!t.plain && decide (es.size > 1))=true from h) (by rw[z];decide)
  refine aam ?_;refine ab3 (Q:=λ_ s'=>s'=s) (E:=λ_ _=>False) ?_ (λ_ s' e=>?_) λ_ _ h=>h.elim
  .show wpAny _ _ (if(!t.led && !es.isEmpty)=true then _ else _) _ _ _;refine acN (λh=>?_) λ_=>wpAny_pure rfl;rw[JL,hb']at h;simp at h
  .subst e;have es1:slot=slotAt t.place i:=by
    rcases hsl with z|z
    .rw[hb']at z;cases z
    .exact z
   have bl:SetTable.below t.place slot=i:=by rw[es1];exact Gj hr a_
   refine wpAny_pure (q _ ?_);rw[bl];unfold vY;rw[hb',if_neg b_,ad9];by_cases c:i<es.size
   .rw[abH c,abH (by lia:i<t.place.size)];refine⟨rfl,.inr ?_⟩;unfold slotAt;rw[if_neg a_,Nat.add_sub_cancel,abQ,abH (by lia:i<t.place.size)];rfl
   .rw[Array.getElem?_eq_none a_];trivial
def StS(w:World)(a I:Addr)(es:Array (Int×Value))(ep:Nat)(t:SetTable)(i:Nat)(h:Heap):Prop:=∃slot:Nat,WU h I a (.int slot 0) i es.size ep/\Mh h a es ep t/\(uy w=true\/slot=slotAt t.place i)
def RX(hh:A.handled=none)(hoi:WU s.heap I a f0 i n ep)(hQ:∀h',Heap.ExtBut I s.heap h'->Q none {s with heap:=h'}):
  wpAny g_ A.in1 (do
     setField (Value.ref I,([]:AAL)).fst 2 Value.none
     let e <-newExc (Value.type "StopIteration") []
     (raiseNew e:Sem Fin)) (λfin s'=>∃v,fin=Fin.done (Flow.ret v)/\wpAny g_ A (pure (some v)) Q E s') (λe s'=>wpAny g_ A (do
         let b <-isInstance e (Value.type "StopIteration")
         if b=true then pure none else throw e) Q E s') s:=by
 refine aam (wpAny_setField hoi rfl (by simp) ?_);refine aam ?_;simp only[newExc,newTuple];refine aam (acV ?_ (by size_fits));refine aam (m:=firstArgMember _ _) (wpAny_of_eq (a:=Value.none) (by first|rfl|(simp only[firstArgMember];rfl)) ?_);refine acV ?_ (by size_fits);simp only[raiseNew];refine aam (wpAny_handled ?_);rw[show A.in1.handled=none from hh];refine aam (wpAny_pure (wpAny_throw ?_));refine aam (agd (T:="StopIteration") (b:=true) ⟨_,aaZ _ rfl,rfl⟩ isSubtype_stop ?_);exact wpAny_pure (hQ _ (((acU ..).extBut.push _).push _))
def RY(hh:A.handled=none)(st:StS w a I es ep t i s.heap)(haI:a≠I)(hf:t.fits es.size=true)(hr:kX t.place)(JL:t.led=!uy w)(hpl:uy w=true\/(!t.plain && decide (es.size > 1))=false)(hi:i<=es.size)
  (q1:∀e h',(vY w a es ep)[i]? =some e->StS w a I es ep t (i+1) h'->Heap.SameBut I s.heap h'->Q (some e.2) {s with heap:=h'})
  (q2:∀h',(vY w a es ep)[i]? =none->Heap.ExtBut I s.heap h'->Q none {s with heap:=h'}):wpAny g_ A (pyNext (.ref I)) Q E s:=by
 obtain⟨slot,hit,hS,hsl⟩:=st;obtain⟨o,ho,hex,hd⟩:=id hS;unfold pyNext;refine aam (wpAny_attempt (ae6 (name:=Str.ofString "__next__") hit.typeIs c9
  (aeb c9 hit.typeIs nC ?_ (pJ _))))
 unfold Builtin.«set_iterator.__next__»
 refine aam (wpAny_pure ?_);refine aam (wpAny_fieldsOf hit rfl ?_);refine aam (agm ho hd hf ?_);refine acN (λh=>absurd h (by simp)) λ_=>?_;show wpAny _ _ (setNext a slot i ep >>= _) _ _ _;refine aam (Mi hS hf hr JL hpl hi hsl λr hr=>?_);cases r with
 |none=>
  refine RX hh hit λh' he=>q2 h' ?_ he;cases e:(vY w a es ep)[i]? with
  |none=>rfl
  |some e'=>rw[e]at hr;exact hr.elim
 |some p=>
  obtain⟨x,j⟩:=p;cases e:(vY w a es ep)[i]? with
  |none=>rw[e]at hr;exact hr.elim
  |some e'=>
   rw[e]at hr;obtain⟨rfl,hj⟩:=hr;refine aam (afR hit (by simp) λh1 z1 e1=>?_);refine aam (afR z1 (by simp) λh2 z2 e2=>?_);have e1:Heap.SameBut I s.heap h1:=e1;have e2:Heap.SameBut I h1 h2:=e2;refine wpAny_pure ⟨_,rfl,wpAny_pure ?_⟩;refine q1 e' h2 e ⟨j,z2,⟨o,(e2.2 a haI).trans ((e1.2 a haI).trans ho),hex,hd⟩,hj⟩ (e1.trans e2)
end
section
variable {prog:Program}{w:World}{A:Around}{E:AAE}{s:Shared}{a I T:Addr}{es:Array (Int×Value)}{ep:Nat}{t:SetTable}
def CC{src:Source}{Q:Nat->Shared->Prop}(hn:n≠0)(h:∀i d',i<n->Q i {s with drawn:=d'}):wpAny g_ A (choose src n) Q E s:=λΓ p hΓ=>by
 show Sem.wp _ _ (Sem.choose src n Sem.pure) _ _ _ _;rw[Sem.wp_choose];exact⟨hn,wpAny_pure (h _ _ (agG _ (Nat.pos_of_ne_zero hn))) Γ p hΓ⟩
theorem zC{α:Type}:∀(n:Nat)(xs:List α)(s:Shared)(Q:List α->Shared->Prop),xs.length=n->(∀out d',out.Perm xs->Q out {s with drawn:=d'})->wpAny g_ A (drawOrder n xs) Q E s
 |0,xs,s,Q,hl,h=>by
  have:xs=[]:=af0.mp hl;subst this;unfold drawOrder;exact wpAny_pure (h [] s.drawn (aeK _))
 |n+1,[],s,Q,hl,h=>by cases hl
 |n+1,x::xs,s,Q,hl,h=>by
  unfold drawOrder;refine aam (CC (by simp) λi d' hi=>?_);rw[aaS hi];refine aam (zC n ((x::xs).eraseIdx i) {s with drawn:=d'} _ (by rw[agw hi];lia) λout d2 hp=>?_);exact wpAny_pure (h _ d2 ((List.Perm.cons _ hp).trans (Hx hi)))
noncomputable def lW(pl:BBJ):Array Value:=(pl.map λ(i:Nat)=>rawInt i).toArray
def StD(a I T:Addr)(es:Array (Int×Value))(ep:Nat)(t:SetTable)(pl:BBJ)(i:Nat)(h:Heap):Prop:=WU h I a (.ref T) i es.size ep/\TupAt h T (lW pl)/\Mh h a es ep t
noncomputable def zD(es:Array (Int×Value))(pl:BBJ):List (Int×Value):=pl.filterMap λi=>es[i]?
theorem zE{es:Array (Int×Value)}:∀{pl:BBJ},(∀p∈pl,p<es.size)->∀i:Nat,(zD es pl)[i]? =(pl[i]?).bind λ(p:Nat)=>es[p]?
 |[],_,i=>by kernel_rfl
 |p::pl,h,i=>by
  have hp:=h p aaT;have e:zD es (p::pl)=es[p]::zD es pl:=by
   show List.filterMap _ (p::pl)=_;rw[afD,abH hp];rfl
  rw[e];cases i with
  |zero=>simp[hp]
  |succ i=>simpa using zE (es:=es) (pl:=pl) (λq hq=>h q (aaR _ hq)) i
def JM(h:pl.Perm (List.range es.size)):(zD es pl).Perm es.toList:=by
 have e:zD es (List.range es.size)=es.toList:=by
  apply aft;intro k;rw[zE (λp hp=>abY.mp hp) k];by_cases c:k<es.size
  .rw[List.getElem?_range c,ad9];rfl
  .rw[acI (by rw[abW];lia),acI (by simpa using c)];rfl
 rw[<-e];exact h.filterMap _
def RZ(hh:A.handled=none)(st:StD a I T es ep t pl i s.heap)(haI:a≠I)(hTI:T≠I)(hf:t.fits es.size=true)(hp:pl.Perm (List.range es.size))
  (q1:∀e h',(zD es pl)[i]? =some e->StD a I T es ep t pl (i+1) h'->Heap.SameBut I s.heap h'->Q (some e.2) {s with heap:=h'})
  (q2:∀h',(zD es pl)[i]? =none->Heap.ExtBut I s.heap h'->Q none {s with heap:=h'}):wpAny g_ A (pyNext (.ref I)) Q E s:=by
 obtain⟨hit,hT,hS⟩:=st;obtain⟨o,ho,hex,hd⟩:=id hS;have lt:∀p∈pl,p<es.size:=λp h=>abY.mp (hp.mem_iff.mp h);have og:=zE lt i;unfold pyNext;refine aam (wpAny_attempt (ae6 (name:=Str.ofString "__next__") hit.typeIs c9
  (aeb c9 hit.typeIs nC ?_ (pJ _))))
 unfold Builtin.«set_iterator.__next__»
 refine aam (wpAny_pure ?_);refine aam (wpAny_fieldsOf hit rfl ?_);refine aam (agm ho hd hf ?_);refine acN (λh=>absurd h (by simp)) λ_=>?_;refine aam (wpAny_seqItems hT rfl ?_);have pg:(lW pl)[i]? =(pl[i]?).map λ(p:Nat)=>rawInt p:=by
  unfold lW;rw[aeS,abI]
 show wpAny _ _ (match(lW pl)[i]? with
  |some (.int place _)=>_
  |some _=>_
  |none=>_) _ _ _
 rw[pg];cases hpi:pl[i]? with
 |none=>
  rw[hpi]at og;refine aam (afR hit (by simp) λh1 z1 e1=>?_);have e1:Heap.SameBut I s.heap h1:=e1;exact RX (f0:=rawInt 0) (i:=i) (n:=es.size) hh z1 λh' he=>q2 h' og λb o hb e=>he b o hb (e1.extBut b o hb e)
 |some p=>
  rw[hpi]at og;have hlt:=lt p (abU hpi);have og:(zD es pl)[i]? =some es[p]:=by rw[og];exact abH hlt
  show wpAny _ _ (setNextDrawn a p ep >>= _) _ _ _;refine aam ?_;unfold setNextDrawn;refine aam (afr ho hd hf ?_);refine acN (λh=>absurd h (by simp)) λ_=>?_;rw[abH hlt];refine wpAny_pure ?_;refine aam (afR hit (by simp) λh1 z1 e1=>?_);have e1:Heap.SameBut I s.heap h1:=e1;refine wpAny_pure ⟨_,rfl,wpAny_pure ?_⟩;exact q1 es[p] h1 og ⟨z1,(e1.2 T hTI).trans hT,⟨o,(e1.2 a haI).trans ho,hex,hd⟩⟩ e1
def zF{Q:AAE}(st:WU s.heap I a f0 i n ep)(hQ:Q (.ref I) s):wpAny g_ A (pyIter (.ref I)) Q E s:=by
 refine wpAny_pyIter_slot st.typeIs pK (aeb pK st.typeIs vX ?_ (xO _));show wpAny _ _ (ret (.ref _)) _ _ s;exact wpAny_pure ⟨_,rfl,"set_iterator",_,st.typeIs,c9.lookup,hQ⟩
def Y5(hh:A.handled=none)(haI:a≠I)(hf:t.fits es.size=true)(hr:kX t.place)(JL:t.led=!uy w)(hpl:uy w=true\/(!t.plain && decide (es.size > 1))=false):
  Walks prog w A I [I,a] [I] (vY w a es ep).length (λi v=>∃e,(vY w a es ep)[i]? =some e/\v=e.2) (λi h=>StS w a I es ep t i h/\i<=es.size) where
 sub:=λb hb=>by simp at hb;simp[hb]
 frame:=λi h h' st k=>by
  obtain⟨⟨slot,h1,⟨o,h2,h3⟩,h4⟩,hi⟩:=st;exact⟨⟨slot,k I (by simp) _ h1,⟨o,k a (by simp) _ h2,h3⟩,h4⟩,hi⟩
 item:=λi s Q E hi st hQ=>by
  have hl:(vY w a es ep).length=es.size:=by rw[(BA w a es ep).length_eq,abM]
  refine RY hh st.1 haI hf hr JL hpl st.2 (λe h' he st' sb=>?_) (λh' he _=>?_)
  .exact hQ e.2 h' s.toks ⟨e,he,rfl⟩ ⟨st',by lia⟩ λb o hb q=>(sb.2 b (by simpa using hb)).trans q
  .rw[aaS hi]at he;cases he
 done:=λs Q E st hQ=>by
  refine RY hh st.1 haI hf hr JL hpl st.2 (λe h' he st' sb=>?_) (λh' he xb=>?_)
  .have:=(abv.mp he).1;lia
  .exact hQ h' s.toks λb o hb q=>xb b o (by simpa using hb) q
 self:=λi s Q E st hQ=>by
  obtain⟨⟨slot,h1,_⟩,_⟩:=st;exact zF h1 hQ
def Y6(hh:A.handled=none)(haI:a≠I)(hTI:T≠I)(hf:t.fits es.size=true)(hp:pl.Perm (List.range es.size)):
  Walks prog w A I [I,a,T] [I] (zD es pl).length (λi v=>∃e,(zD es pl)[i]? =some e/\v=e.2) (λi h=>StD a I T es ep t pl i h) where
 sub:=λb hb=>by simp at hb;simp[hb]
 frame:=λi h h' st k=>by
  obtain⟨h1,h2,o,h3,h4⟩:=st;exact⟨k I (by simp) _ h1,k T (by simp) _ h2,o,k a (by simp) _ h3,h4⟩
 item:=λi s Q E hi st hQ=>by
  refine RZ hh st haI hTI hf hp (λe h' he st' sb=>?_) (λh' he _=>?_)
  .exact hQ e.2 h' s.toks ⟨e,he,rfl⟩ st' λb o hb q=>(sb.2 b (by simpa using hb)).trans q
  .rw[aaS hi]at he;cases he
 done:=λs Q E st hQ=>by
  refine RZ hh st haI hTI hf hp (λe h' he st' sb=>?_) (λh' he xb=>?_)
  .have:=(abv.mp he).1;lia
  .exact hQ h' s.toks λb o hb q=>xb b o (by simpa using hb) q
 self:=λi s Q E st hQ=>zF st.1 hQ
def Y7{ns:BBD}{Q:AAE}(hh:A.handled=none)(hS:nD prog w s.heap a ns)
  (h:∀(I:Addr)(h':Heap)(d':Drawn)(ord:List (Int×Value))(fp:BBE)(St:Nat->Heap->Prop),(ord.map λe=>intOf e.2).Perm ns->(∀e∈ord,∃tk,e.2= .int (intOf e.2) tk)->c_<=I->(∀b∈fp,b=a\/c_<=b)->
   Walks prog w A I fp [I] ord.length (λi v=>∃e,ord[i]? =some e/\v=e.2) St->St 0 h'->(∀b o,s.heap.get? b=some o->h'.get? b=some o)->Q (.ref I) {s with heap:=h',drawn:=d'}):
  wpAny g_ A (pyIter (.ref a)) Q E s:=by
 obtain⟨o,es,ep,t,ho,hex,hd,X⟩:=hS;have hT:s.TypeIs (.ref a) "set":=⟨o,ho,hex.1⟩
 have alt:a<c_:=aaX ho;have vals:∀ord:List (Int×Value),ord.Perm es.toList->(ord.map λe=>intOf e.2).Perm ns/\∀e∈ord,∃tk,e.2= .int (intOf e.2) tk:=λord hp=>⟨(hp.map _).trans X.perm,λe he=>by
  obtain⟨⟨k,hk,_⟩,_⟩:=X.el e (hp.mem_iff.mp he);obtain⟨tk,e'⟩:=agB hk;exact⟨tk,by rw[e'];rfl⟩⟩
 refine wpAny_pyIter_slot hT PySem.F.slot_set_iter (aeb PySem.F.slot_set_iter hT CA ?_ (PySem.F.args_set_iter_1 _));unfold Builtin.«frozenset.__iter__»
 refine aam (wpAny_pure ?_);refine aam ?_;unfold Builtin.Frozenset.sizeOf;refine aam (agm ho hd X.fits (wpAny_pure ?_));refine aam ?_;unfold setDrawn;refine aam (afr ho hd X.fits ?_);unfold setsByText;refine aam (aam (afy (wpAny_pure (wpAny_pure ?_))));refine acN (λhc=>?_) λhc=>?_
 .refine aam (zC es.size (List.range es.size) s _ (by rw[abW]) λpl d' hp=>?_);refine aam (wpAny_newTuple ?_ (hsz:=by rw[aar,hp.length_eq,abW];exact agD X.few));have Mb:(s.heap.push {cls:=.type "tuple",data:=.seq (lW pl)}).get? a=some o:=aaE _ ho;refine aam (wpAny_setEpoch_of (s:={s with heap:=s.heap.push {cls:=.type "tuple",data:=.seq (lW pl)},drawn:=d'}) Mb hd X.fits ?_);have hz:(s.heap.push {cls:=.type "tuple",data:=.seq (lW pl)}).objs.size=c_+1:=ae0 ..;refine aam (acV (wpAny_pure ⟨_,rfl,"set_iterator",_,⟨_,aaZ _ rfl,rfl⟩,c9.lookup,?_⟩));obtain⟨v1,v2⟩:=vals _ (JM hp);refine h _ _ d' (zD es pl) [(s.heap.push {cls:=.type "tuple",data:=.seq (lW pl)}).objs.size,a,c_] _ v1 v2 (by rw[hz];exact aeM _) (λb hb=>?_) (Y6 (ep:=ep) (t:=t) hh (by rw[hz];exact aa1 (aeI alt)) (by rw[hz];exact aa1 (ae1 _)) X.fits hp) ⟨aaZ _ rfl,aaE _ (aaZ _ rfl),o,aaE _ Mb,hex,hd⟩ λb o e=>aaE _ (aaE _ e);simp only[aaV,abG,ad2]at hb;rcases hb with rfl|rfl|rfl
  .exact .inr (by rw[hz];exact aeM _)
  .exact .inl rfl
  .exact .inr (aaP _)
 .have hpl:uy w=true\/(!t.plain && decide (es.size > 1))=false:=by
   cases e:uy w with
   |true=>exact .inl rfl
   |false=>
    refine .inr ?_;cases q:(!t.plain && decide (es.size > 1)) with
    |false=>rfl
    |true=>
     refine absurd ?_ hc;show(!uy w && (!t.plain && decide (es.size > 1)))=true;rw[e,q];rfl
  refine aam (wpAny_pure ?_);refine aam (wpAny_setEpoch_of ho hd X.fits ?_);refine aam (acV (wpAny_pure ⟨_,rfl,"set_iterator",_,⟨_,aaZ _ rfl,rfl⟩,c9.lookup,?_⟩));obtain⟨v1,v2⟩:=vals _ (BA w a es ep);refine h _ _ s.drawn (vY w a es ep) [c_,a] _ v1 v2 (aaP _) (λb hb=>?_) (Y5 (ep:=ep) hh (aa1 alt) X.fits X.rise X.led hpl) ⟨⟨0,aaZ _ rfl,⟨o,aaE _ ho,hex,hd⟩,.inr rfl⟩,abK _⟩ λb o e=>aaE _ e;simp only[aaV,abG,ad2]at hb;rcases hb with rfl|rfl
  .exact .inr (aaP _)
  .exact .inl rfl
end
end L2
end
section
namespace L2
open PySem.Calls PyProof.V
variable {ns:BBD}
section
variable {prog:Program}{w:World}{A:Around}{E:AAE}{s:Shared}{a:Addr}
def Y8{Q:Bool->Shared->Prop}(hT:s.TypeIs (.ref a) "set")(h:Q false s):wpAny g_ A (Builtin.List.listLengthHint (.ref a)) Q E s:=by
 unfold Builtin.List.listLengthHint;refine aam (wpAny_specialOf hT PySem.F.slot_set_len.lookup ?_);generalize hid:("set.__len__":String)=id0
 wp_delta
 rw[show splitId id0=some ("set","__len__") from by subst hid;decide +kernel];subst hid;refine aam (agd (T:="set") (b:=true) hT (by rw[afX];kernel_rfl) ?_);refine acN (λhab=>absurd hab b_) (λ_=>?_);refine acN (λ_=>?_) (λhab=>absurd i_ hab);refine aam (agj hT ?_);exact wpAny_pure h
theorem Eo:∀{ord:List (Int×Value)},(∀e∈ord,∃tk,e.2= .int (intOf e.2) tk)->IntsAre (ord.map (·.2)) (ord.map λe=>intOf e.2)
 |[],_=>.nil
 |e::ord,h=>by
  obtain⟨tk,q⟩:=h e aaT;have ih:=Eo λx hx=>h x (aaR _ hx);show IntsAre (e.2::ord.map (·.2)) (intOf e.2::ord.map λe=>intOf e.2);generalize intOf e.2=k at *;rw[q];exact .cons k tk ih
def JN{ord:List (Int×Value)}{acc:AAK}(h:ItemsOf (λi v=>∃e,ord[i]? =some e/\v=e.2) acc ord.length):acc.toList=ord.map (·.2):=by
 obtain⟨h1,h2⟩:=h;apply aft;intro i;rw[abI];by_cases c:i<ord.length
 .have hv:acc[i]? =some acc[i]:=abH a_;obtain⟨e,e1,e2⟩:=h2 i _ hv;rw[ad9,hv,e1,e2];rfl
 .rw[acI (by rw[abM];lia),acI a_];rfl
def nD.keep{h h':Heap}(x:nD prog w h a ns)(k:∀o,h.get? a=some o->h'.get? a=some o):nD prog w h' a ns:=by
 obtain⟨o,es,ep,t,h1,r⟩:=x;exact⟨o,es,ep,t,k o h1,r⟩
def PB{R:Result->Shared->Prop}(hh:A.handled=none)(Jt:nD prog w s.heap a ns)(S:Addr)(hSa:S≠a)(res:Value)(c₀:Nat)(hS:s.heap.get? S=some {cls:=.type "list",data:=.seq #[] c₀})
  (hR:∀h' d' tk acc' c',(∀b o,b≠S->s.heap.get? b=some o->h'.get? b=some o)->h'.get? S=some {cls:=.type "list",dict:=none,data:=.seq acc' c',slots:=#[]}->(∃ms,IntsAre acc'.toList ms/\ms.Perm ns)->R (.ok (.ret res)) {s with heap:=h',toks:=tk,drawn:=d'})(hn:ns.length<=sizeLine):
  wpAny g_ A.in1 (Builtin.List.listExtendWith (.ref S) (.ref a) res)
   (λfin s'=>match fin with|.done f=>R (.ok f) s'|.again c'=>c'.quiet=true/\codeAny (model prog w) A c' R s') (λe s'=>R (.error e) s') s:=by
 have Slt:S<c_:=aaX hS;have hT:s.TypeIs (.ref a) "set":=by
  obtain⟨o,es,ep,t,h1,hex,_⟩:=Jt;exact⟨o,h1,hex.1⟩
 unfold Builtin.List.listExtendWith;refine aam (agj (T:="set") hT ?_);have h1:Builtin.List.listSameRef (.ref S) (.ref a)=false:=by simp[Builtin.List.listSameRef,hSa]
 have n1:(Value.type "set" == Value.type "list")=false:=by decide
 have n2:(Value.type "set" == Value.type "tuple")=false:=by decide
 simp only[h1,n1,n2,ahg,aeO,aeW];refine aam (Y7 (A:=A.in1) hh Jt λI h1 d' ord fp St p1 p2 hI hfp W st hk=>?_);have hSf:S∉fp:=λm=>by
  rcases hfp S m with z|z
  .exact hSa z
  .exact absurd Slt (Nat.not_lt.mpr z)
 have SI:S≠I:=aa1 (aaU Slt hI);have Y0:ord.length<=sizeLine:=by have:=p1.length_eq;rw[aar]at this;lia
 have key:∀(h:Heap)(c₁ tk:Nat),St 0 h->(∀b o,b≠S->s.heap.get? b=some o->h.get? b=some o)->
   h.get? S=some {cls:=.type "list",data:=.seq #[] c₁}->codeAny g_ A (.builtin "list.extend.loop" ⟨[.ref S,.ref I,res],[]⟩) R {s with heap:=h,toks:=tk,drawn:=d'}:=by
  intro h c₁ tk hst hk zG;refine codeAny_extend_loopS W.toS Y0 S hSf res ord.length 0 _ #[] c₁ rfl (abK _) hst zG (ItemsOf.nil _) λs' acc' c' hm hS' hacc=>?_;rw[Moved.eq_with hm];refine hR s'.heap d' s'.toks acc' c' (λb o hb e=>hm.heap b o (λhmem=>?_) (hk b o hb e)) hS' ⟨_,by rw[JN hacc];exact Eo p2,p1⟩;rcases aaV.mp hmem with e'|hmem
  .exact hb e'
  .have bl:=aaX e;rw[aaO.mp hmem]at bl;exact absurd bl (Nat.not_lt.mpr hI)
 have zG:=hk S _ hS;have hT1:Shared.TypeIs {s with heap:=h1,drawn:=d'} (.ref a) "set":=by
  obtain⟨o,q1,q2⟩:=hT;exact⟨o,hk a o q1,q2⟩
 refine aam (acK (Y8 hT1 ?_));refine acN (λ_=>?_) (λ_=>wpAny_pure ⟨afa agH _,key _ c₀ _ st (λb o _ e=>hk b o e) zG⟩);refine aam (afw ?_);refine aam ?_;show wpAny _ _ (updateSeq S (·.push .none) >>= λ_=>updateSeq S (·.pop)) _ _ _;refine aam (wpAny_updateSeq zG rfl ?_);have R5:=afu (Obj.mapSeq (·.push Value.none)) zG rfl;refine wpAny_updateSeq (hz:=by seq_fits) R5 rfl ?_;have Y9:=afu (Obj.mapSeq (·.pop)) R5 rfl;refine wpAny_pure ⟨afa agH _,key _ _ _ ?_ (λb o hb e=>?_) Y9⟩
 .refine W.frame 0 _ _ st λb hb o e=>?_;have hbS:b≠S:=λh=>hSf (h▸hb);exact(aee _ _ (acH hbS)).trans ((aee _ _ (acH hbS)).trans e)
 .exact(aee _ _ (acH hb)).trans ((aee _ _ (acH hb)).trans (hk b o e))
def Mj{R:BBG->Shared->Prop}(hh:A.handled=none)(Jt:nD prog w s.heap a ns)(hn:ns.length<=sizeLine)
  (h:∀(h':Heap)(d':Drawn)(tk:Nat)(acc:AAK),(∀b o,s.heap.get? b=some o->h'.get? b=some o)->(∃ms,IntsAre acc.toList ms/\ms.Perm ns)->R acc.toList {s with heap:=h',toks:=tk,drawn:=d'}):
  wpAny g_ A (collect (.ref a)) R E s:=by
 have alt:a<c_:=by obtain⟨o,es,ep,t,h1,_⟩:=Jt;exact aaX h1
 unfold collect;refine aam (wpAny_runValue (aeF entry_proto_collect' ?_));rw[aeZ PySem.F.plain_proto_collect _];show wpAny _ A.in1 (newList [] >>= λl=>again (.builtin "list.__iadd__" ⟨[l,.ref a],[]⟩)) _ _ s;refine aam (acV ?_);refine wpAny_pure ⟨afa ag6 _,aeF entry_list_iadd' ?_⟩;rw[aeZ ag6 _];have zG:(s.heap.push {cls:=.type "list",data:=.seq ([]:AAL).toArray}).get? c_=some {cls:=.type "list",data:=.seq #[]}:=aaZ _ rfl;show wpAny _ A.in1 (Builtin.List.listExtendWith (.ref c_) (.ref a) (.ref c_)) _ _ _;have key:=PB (A:=A) (s:={s with heap:=s.heap.push {cls:=.type "list",data:=.seq ([]:AAL).toArray}})
  (R:=λ(q:Result)(s':Shared)=>∃(h':Heap)(d':Drawn)(tk:Nat)(acc':AAK)(c':Nat),q= .ok (.ret (.ref c_))/\s'={s with heap:=h',toks:=tk,drawn:=d'}/\
   (∀b o,s.heap.get? b=some o->h'.get? b=some o)/\h'.get? c_=some {cls:=.type "list",dict:=none,data:=.seq acc' c',slots:=#[]}/\∃ms,IntsAre acc'.toList ms/\ms.Perm ns)
  hh (Jt.keep λo e=>aaE _ e) c_ (agJ alt) (.ref c_) 0 zG
  (λh' d' tk acc' c' hk hS' hacc=>⟨h',d',tk,acc',c',rfl,rfl,λb o e=>hk b o (aa1 (aaX e)) (aaE _ e),hS',hacc⟩) hn
 refine ab3 key (λfin s' x=>?_) λe s' x=>?_
 .cases fin with
  |done f=>
   obtain⟨h',d',tk,acc',c',e,rfl,hk,hS',hacc⟩:=x;cases e;show wpAny _ A (load c_ >>= _) _ _ _;refine aam (wpAny_load hS' ?_);exact wpAny_pure (h h' d' tk acc' hk hacc)
  |again c₁=>
   refine⟨x.1,ae2 x.2 λq s₂ y=>?_⟩;obtain⟨h',d',tk,acc',c',rfl,rfl,hk,hS',hacc⟩:=y;show wpAny _ A (load c_ >>= _) _ _ _;refine aam (wpAny_load hS' ?_);exact wpAny_pure (h h' d' tk acc' hk hacc)
 .obtain⟨_,_,_,_,_,e',_⟩:=x;cases e'
def PD{Q:AAE}(hh:A.handled=none)(Jt:nD prog w s.heap a ns)(hn:ns.length<64)
  (h:∀(h1 h':Heap)(d':Drawn)(tk n:Nat)(out:AAK)(ns':BBD),(∀b o,s.heap.get? b=some o->h1.get? b=some o)->(∀b o,h1.get? b=some o->h'.get? b=some o)->IntsAre out.toList ns'->ns'.Perm ns->ns'.Pairwise (·<=·)->
   h'.get? h1.objs.size=some (seqObj "list" out n)->Q (.ref h1.objs.size) {s with heap:=h',toks:=tk,drawn:=d'}):
  wpAny g_ A (call (.builtin "sorted") [.ref a]) Q E s:=by
 refine call_function_entry kind_sorted plain_sorted entry_sorted (args_sorted1 _) ?_;unfold Builtin.«sorted»
 refine aam (m:=checkCount "sorted" 1 1 _) (wpAny_pure ?_);refine aam (Mj (A:=A.in1) hh Jt (aaY (acz hn) b_) λh' d' tk acc hk hh=>?_);obtain⟨ms,hm,hp⟩:=hh;have hl:acc.toList.length<64:=by rw[hm.length,hp.length_eq];exact hn
 refine aam (agb ?_ (aaY (acz hl) b_));have KU:(h'.push (seqObj "list" acc.toList.toArray 0)).get? h'.objs.size=some (seqObj "list" acc.toList.toArray 0):=aaZ _ rfl;show wpAny _ _ _ _ _ {s with heap:=h'.push (seqObj "list" acc.toList.toArray 0),toks:=tk,drawn:=d'};refine aam (acK (aeb slot_list_sort ⟨_,KU,rfl⟩ entry_list_sort (list_sort_tree (ns:=ms) KU hm hl λout ns' a1 a2 a3=>⟨_,rfl,?_⟩) (args_list_sort _)));refine wpAny_pure ⟨_,rfl,?_⟩;obtain⟨e,he⟩:=sortedHeap_at (out:=out) KU;exact h _ _ d' tk e out ns' hk (λb o hb=>by
  have:=aaX hb;rw[sortedHeap_old (aa1 this) (by rw[size_push'];exact aeI this)];exact aaE _ hb) a1 (a2.trans hp) a3 he
end
def sortI(ns:BBD):BBD:=(uz (λi=>ns.getD i 0) ns.length).mergeSort (λa b=>decide (a<=b))
def sortI_perm(ns:BBD):(sortI ns).Perm (uz (λi=>ns.getD i 0) ns.length):=List.mergeSort_perm _ _
def nF{k:Int}:k∈sortI ns↔k∈ns:=by
 rw[(sortI_perm ns).mem_iff,Hw];constructor
 .rintro⟨j,hj,rfl⟩;rw[abC,aaS hj];exact ae3 hj
 .intro h;obtain⟨j,hj,e⟩:=List.getElem_of_mem h;exact⟨j,hj,by rw[abC,aaS hj];exact e⟩
def Ml(ns:BBD):(sortI ns).Nodup:=(sortI_perm ns).nodup_iff.mpr (Me _ _)
def BB(ns:BBD):(sortI ns).Pairwise (·<=·):=by
 have:=List.pairwise_mergeSort (le:=λa b:Int=>decide (a<=b)) (λa b c h1 h2=>by simp at *;lia) (λa b=>by simp;lia) (uz (λi=>ns.getD i 0) ns.length);exact this.imp λh=>by simpa using h
def CD:List D->Option U
 |[.lst ds]=>(uO ds).bind λns=>if ns.length<64 then some (.m (.lst ((sortI ns).map D.int))) else none
 |_=>none
def SqD(d:D)(ns:BBD):Prop:=∃ds,(d= .tup ds\/d= .lst ds)/\uO ds=some ns/\ns.length<64
def Gk{d:D}{u:U}(h:CD [d]=some u):∃ns,SqD d ns/\u= .m (.lst ((sortI ns).map D.int)):=by
 have key:∀ds,(uO ds).bind (λns=>if ns.length<64 then some (U.m (.lst ((sortI ns).map D.int))) else none)=some u->∃ns,uO ds=some ns/\ns.length<64/\u= .m (.lst ((sortI ns).map D.int)):=by
  intro ds h;obtain⟨zs,h5,h6⟩:=aj h;split at h6
  .rename_i hl;cases h6;exact⟨zs,h5,hl,rfl⟩
  .cases h6
 cases d with
 |lst ds=>obtain⟨ns,h1,h2,h3⟩:=key ds h;exact⟨ns,⟨ds,.inr rfl,h1,h2⟩,h3⟩
 |_=>cases h
theorem ints_getD:∀{ns:BBD}{its:AAL},Vals (ns.map V.int) its->∀(i:Nat)(v:Value),its[i]? =some v->∃t,v=Value.int (ns.getD i 0) t
 |[],_,r,i,v,h=>by cases r;cases h
 |n::ns,_,r,i,v,h=>by
  cases r with
  |cons q t=>
   obtain⟨t',rfl⟩:=q;cases i with
   |zero=>cases h;exact⟨t',rfl⟩
   |succ i=>exact ints_getD t i v h
def JP{l:AAL}(h:IntsAre l ns):Vals (ns.map V.int) l:=by
 induction h with
 |nil=>exact .nil
 |cons k tk _ ih=>exact .cons ⟨_,rfl⟩ ih
section
variable {X:Cx}{pins:AAG}{O:St}{F H:Hp}{s:Shared}{v:V}{u:Value}{d:D}{ns:BBD}{Q:AAE}{E:AAE}
def JQ(hc:X.calm=true)(I:Inv X pins O H s)(sb:Sub F H)(rd:Rep F v d)(ru:RelV v u)(h:SqD d ns)
  (k:∀h' tk,nD X.prog X.w h' c_ (uz (λi=>ns.getD i 0) ns.length)->(∀b o,s.heap.get? b=some o->h'.get? b=some o)->Q (.ref c_) {s with heap:=h',toks:=tk}):
  wpAny d_ X.A (call (.type "set") [u]) Q E s:=by
 obtain⟨ds,hd,h5,hl⟩:=h;rcases hd with rfl|rfl
 .obtain⟨a',vs',rfl,fa,rB⟩:=rd.mZ;obtain rfl:=sV rB h5;cases ru;obtain⟨its,rv,pl,hz⟩:=I.tuple (.inl (.inl (sb _ _ fa)));have hil:its.length=ns.length:=by have:=rv.length;simpa using this.symm
  refine By (k:=false) (ns:=ns) (I.ok.hd hc) pl (ints_getD rv) (by rw[hil];unfold scanBound;lia) λh' tk hS hk=>?_;rw[hil]at hS;exact k h' tk hS λb o e=>hk b o (aaX e) e
 .obtain⟨a',vs',rfl,fa,hla,rB⟩:=sb.gO rd;obtain rfl:=sV rB h5;cases ru;obtain⟨its,rv,pl,hz⟩:=I.list (.inl hla);have hil:its.length=ns.length:=by have:=rv.length;simpa using this.symm
  refine By (k:=true) (ns:=ns) (I.ok.hd hc) pl.isList (ints_getD rv) (by rw[hil];unfold scanBound;lia) λh' tk hS hk=>?_;rw[hil]at hS;exact k h' tk hS λb o e=>hk b o (aaX e) e
def Inv.drawn{h':Heap}{t':Nat}{d':Drawn}(I:Inv X pins O H s)(k:∀b o,s.heap.get? b=some o->h'.get? b=some o):Inv X pins O H {s with heap:=h',toks:=t',drawn:=d'}:=
 I.call (g':=s.gens) (ch:=[]) (Un.kept k) (I.hok.kept k) I.bare (λ_ z=>nomatch z)
end
section
variable {X:Cx}{a:Expr}{pos p p1 p2:Pos}{ga:GD}
def Ep(hc:X.calm=true)(Za:Gl X "sorted")(hm1:X.mg "sorted" =none)(YL:Gl X "set")(hm2:X.mg "set" =none)(ha:JD X a ga)
  (hs1:starEach [.Call (.Name "set" p1) [a] [] p2] X.env=(false,eval (.Call (.Name "set" p1) [a] [] p2) X.env)::starEach [] X.env:=by rfl)
  (hs2:starEach [a] X.env=(false,eval a X.env)::starEach [] X.env:=by rfl):
  JE X (.Call (.Name "sorted" p) [.Call (.Name "set" p1) [a] [] p2] [] pos) (eP CD (ah ga aB)):=⟨λB=>by
 rintro pins s O H Q I ⟨S,F,u,S',R,hg,q⟩;obtain⟨⟨dl,S1⟩,h1,hg⟩:=aj hg;obtain⟨w',h2,hg⟩:=aA hg;cases hg;obtain⟨⟨d,S2⟩,h3,h1⟩:=aj h1;obtain⟨⟨dr,S3⟩,h4,h1⟩:=aA h1;cases h4;cases h1;obtain⟨ns,hsq,rfl⟩:=Gk h2;refine ac9 (mz I Za hm1 afS ?_ b_ b_);refine afc ?_ hs1 rfl;rw[hs1];show wpAny _ _ (spliced ((false,eval (.Call (.Name "set" p1) [a] [] p2) X.env)::backTo pos (starEach [] X.env))) _ _ s;refine afO ?_;refine ac9 (mz I YL hm2 PyProof.Rows.Boot.set ?_ b_ b_);refine aeP (ez (dN (ha.h B) iI hs2 p2 pins s O H (λvs H1=>∃v F1,vs=[v]/\Rel X.K B S2 O F1 H1/\Step S S2 O F H F1 H1/\Rep F1 v d) I ⟨S,F,_,S2,R,h3,λv F1 H1 R1 st1 r1=>⟨v,F1,rfl,R1,st1,r1⟩⟩) ?_) hs2 rfl;rintro us s1 ⟨vs,H1,I1,r1,v,F1,rfl,R1,st1,rd⟩;obtain⟨u',rfl,ru⟩:=vals1 r1;refine JQ hc I1 R1.sub rd ru hsq λh' tk hS hk=>?_;refine agC ?_;have hlen:(uz (λi=>ns.getD i 0) ns.length).length<64:=aeQ (CB _ _) hsq.choose_spec.2.2;refine PD (I1.ok.hd hc) hS hlen λg1 g2 d' tk2 n out ns' k1 k2 hi hp ho k3=>?_;have he:ns'=sortI ns:=W.ksm_same (hp.trans (sortI_perm ns).symm) ho (BB ns);subst he;have J:=I1.drawn (h':=g1) (t':=tk2) (d':=d') λb o e=>k1 b o (hk b o e);have hp:=J.hok.fresh (aaP _);have hv:Vals ((sortI ns).map V.int) out.toList:=JP hi;have n1:=jm.obj (F:=F1) hp (.lst ((sortI ns).map V.int));have s4:=R1.sub.same n1.same;have hr:∀l:BBD,bC F1 (l.map V.int) (l.map D.int):=λl=>by
  induction l with
  |nil=>exact .nil
  |cons x l ih=>exact .cons (.int x) ih
 have Zb:((sortI ns).map V.int).length<=sizeLine:=by
  rw[aar,(sortI_perm ns).length_eq];exact aaY (acz hlen) b_
 exact⟨.ref g1.objs.size,_,J.laid (a:=g1.objs.size) (o:=.lst ((sortI ns).map V.int)) (h':=g2) (t':=tk2) k2 (aaP _) ⟨Zb,out.toList,n,hv,by simpa using k3⟩,rfl,
  q _ F1 _ (R1.new n1 s4) (st1.trans n1.step) (uD.FW (u:=.m (.lst ((sortI ns).map D.int))) R1 st1 ⟨_,rfl,hp,R1.sub.fresh hp,(sortI ns).map V.int,aR,hr _⟩)⟩⟩
end
end L2
end
section
namespace L2
section
variable (S:SS)(d e:D)(o:MO)(i j:Nat)(g ga gb gc:GD)(ge:GE)(q q1 q2:GT)(gA:GA)(gu:GU)(a b:GS)(f f':List D->Option U)(fm:FM)(bd:GB)(gi:GI)
@[simp] theorem adh:au i S=match S[i]? with|some (some (.t d))=>some (.t d,S)|some (some (.s d))=>some (.s d,S)|some (some (.f d))=>some (.f d,S)|some (some _)=>some (.v i,S)|_=>none:=rfl
@[simp] theorem agZ:eC d S=some (d,S):=rfl
@[simp] theorem adi:aB S=some ([],S):=rfl
@[simp] theorem aa3:ah g gA S=(g S).bind λp=>(gA p.2).map λq=>(p.1::q.1,q.2):=rfl
@[simp] theorem ag0:eP f gA S=(gA S).bind λp=>(f p.1).map λu=>(u,p.2):=rfl
@[simp] theorem ag1:eF ge S=(ge S).bind λp=>fz p.1 p.2:=rfl
@[simp] theorem ag2:eT g S=(g S).map λp=>(.t p.1,p.2):=rfl
@[simp] theorem adk:fz (.t d) S=some (d,S):=rfl
@[simp] theorem adl(ds:List D):fz (.m (.lst ds)) S=some (.lst ds,S):=rfl
@[simp] theorem adm:fz (.v i) S=match S[i]? with|some (some (.t d))=>some (d,S)|some (some (.m (.lst ds)))=>some (.lst ds,S.set i (some (.t (.lst ds))))|_=>none:=rfl
@[simp] theorem ag3:qB g S=(g S).bind λp=>match p.1 with|.bl k=>some (k,p.2)|_=>none:=rfl
@[simp] theorem adn:kr q S=(q S).map λp=>(!p.1,p.2):=rfl
@[simp] theorem ado:yP q1 q2 S=(q1 S).bind λp=>if p.1 then q2 p.2 else some (false,p.2):=rfl
@[simp] theorem afg:FY q1 q2 S=(q1 S).bind λp=>if p.1 then some (true,p.2) else q2 p.2:=rfl
@[simp] theorem ag4:eQ q S=(q S).map λp=>(.bl p.1,p.2):=rfl
@[simp] theorem aa4:bB S=some (true,S):=rfl
@[simp] theorem afh(g1 g2:GE):Oe q g1 g2 S=(q S).bind λp=>if p.1 then g1 p.2 else g2 p.2:=rfl
@[simp] theorem adp:dg S=some (.nx S):=rfl
@[simp] theorem fC:aP a b S=(a S).bind λo=>match o with|.nx S1=>b S1|o=>some o:=rfl
@[simp] theorem adq:cD i ge S=(ge S).bind λp=>match p.1 with|.m o=>(qk i (.m o) p.2).map .nx|u=>(fz u p.2).bind λq=>(qk i (.t q.1) q.2).map .nx:=rfl
@[simp] theorem bH(u:U):qk i u S=match S[i]? with|some (some (.b _))=>none|some _=>some (S.set i (some u))|none=>none:=rfl
@[simp] theorem aa5:kP ge S=(ge S).map λp=>.nx p.2:=rfl
@[simp] theorem ads:bU ge S=(ge S).bind λp=>match p.1 with
 |.v i=>match p.2[i]? with
  |some (some (.t d))=>some (.rt (.t d) p.2)
  |some (some (.m o))=>some (.rt (.m o) (p.2.set i none))
  |_=>none
 |.s _=>none
 |.f _=>none
 |u=>some (.rt u p.2):=rfl
@[simp] theorem afi:ju q a b S=(q S).bind λp=>if p.1 then a p.2 else b p.2:=rfl
@[simp] theorem aa6:bName i d S=qk i (.t d) S:=rfl
@[simp] theorem adt:kQ bd gi a S=(gi S).bind λp=>loop bd a p.1 p.2:=rfl
@[simp] theorem adu:LM g S=(g S).bind λp=>match p.1 with|.tup ds=>some (ds,p.2)|.lst ds=>some (ds,p.2)|_=>none:=rfl
@[simp] theorem Hz:ql gA S=(gA S).bind λp=>match p.1 with|[.int j]=>if j<1000000/\-1000000<j then some (pH 0 j.toNat,p.2) else none|_=>none:=rfl
@[simp] theorem HA:xg gA S=(gA S).bind λp=>match p.1 with|[.int i,.int j]=>if i<1000000/\-1000000<i/\j<1000000/\-1000000<j then some (pH i (j-i).toNat,p.2) else none|_=>none:=rfl
@[simp] theorem UJ:loop bd a [] S=some (.nx S):=rfl
@[simp] theorem adv:bQ S=some ([],S):=rfl
@[simp] theorem adw:aW g gu S=(g S).bind λp=>(gu p.2).map λq=>(.t p.1::q.1,q.2):=rfl
@[simp] theorem adx:cG ge gu S=(ge S).bind λp=>(gu p.2).map λq=>(p.1::q.1,q.2):=rfl
@[simp] theorem aa7:bq fm gu S=(gu S).bind λp=>if(slotsOf p.1).Nodup/\cz p.1<=1 then(bY p.2 p.1).bind λus=>(fm us).bind λr=>(wb p.1 r.2 p.2).map λS2=>(r.1,S2) else none:=rfl
@[simp] theorem WV:bY S []=some []:=rfl
@[simp] theorem UK(u:U)(us:List U):bY S (u::us)=(resolve S u).bind λw=>(bY S us).map λws=>w::ws:=rfl
@[simp] theorem aa8:resolve S (.t d)=AAA d:=rfl
@[simp] theorem aa9:resolve S (.m o)=some (.b o):=rfl
@[simp] theorem aba(ns:BBD):resolve S (.s ns)=some (.s ns):=rfl
@[simp] theorem abb:resolve S (.v i)=match S[i]? with|some (some (.m o))=>some (.b o)|some (some (.b o))=>some (.b o)|_=>none:=rfl
@[simp] theorem Zd:slotsOf []=[]:=rfl
@[simp] theorem ady(us:List U):slotsOf (.t d::us)=slotsOf us:=rfl
@[simp] theorem adz(us:List U):slotsOf (.m o::us)=slotsOf us:=rfl
@[simp] theorem adA(ns:BBD)(us:List U):slotsOf (.s ns::us)=slotsOf us:=rfl
@[simp] theorem adB(us:List U):slotsOf (.v i::us)=i::slotsOf us:=rfl
@[simp] theorem Ze:cz []=0:=rfl
@[simp] theorem adC(us:List U):cz (.t d::us)=cz us:=rfl
@[simp] theorem adD(us:List U):cz (.m o::us)=cz us+1:=rfl
@[simp] theorem adE(ns:BBD)(us:List U):cz (.s ns::us)=cz us:=rfl
@[simp] theorem adF(us:List U):cz (.v i::us)=cz us:=rfl
@[simp] theorem Zf:wb [] [] S=some S:=rfl
@[simp] theorem adG(us:List U)(os:List MO):wb (.t d::us) os S=wb us os S:=by cases os<;>rfl
@[simp] theorem adH(ns:BBD)(us:List U)(os:List MO):wb (.s ns::us) os S=wb us os S:=by cases os<;>rfl
@[simp] theorem adI(us:List U)(os:List MO):wb (.m o::us) (o'::os) S=wb us os S:=rfl
@[simp] theorem adJ(us:List U)(os:List MO):wb (.v i::us) (o::os) S=match S[i]? with|some (some (.m _))=>wb us os (S.set i (some (.m o)))|some (some (.b _))=>wb us os (S.set i (some (.b o)))|_=>none:=rfl
@[simp] theorem adK:b9 i gb S=match S[i]? with|some (some _)=>(gb S).bind λp=>(match p.2[i]? with|some (some u)=>(xm u p.1).map λd=>(d,p.2)|_=>none)|_=>none:=rfl
@[simp] theorem adL:nq i S=match S[i]? with|some (some u)=>(Ga u).map λn=>(.int (n:Nat),S)|_=>none:=rfl
@[simp] theorem ag5(h:List D->MO->Option (D×MO)):eM i h gA S=if YB S i then(gA S).bind λp=>vP p.2 i (h p.1) else none:=rfl
@[simp] theorem adM(gk gv:GD):AN i gk gv S=(gv S).bind λp=>match p.2[i]? with|some (some _)=>(gk p.2).bind λr=>(vP r.2 i λo=>(vR o r.1 p.1).map λo'=>(.cI,o')).map λz=>.nx z.2|_=>none:=rfl
@[simp] theorem afj(Ts:List String):Kw Ts g S=(g S).bind λp=>(yZ Ts p.1).map λb=>(.bl b,p.2):=rfl
@[simp] theorem UL(ds:List D)(k:Int):xm (.t (.tup ds)) (.int k)=dZ ds k:=rfl
@[simp] theorem UM(ds:List D)(k:Int):xm (.t (.lst ds)) (.int k)=dZ ds k:=rfl
@[simp] theorem UN(ds:List D)(k:Int):xm (.m (.lst ds)) (.int k)=dZ ds k:=rfl
@[simp] theorem UO(ds:List D)(k:Int):xm (.b (.lst ds)) (.int k)=dZ ds k:=rfl
@[simp] theorem UP(kvs:List (Key×D))(k:D):xm (.b (.dct kvs)) k=(keyOf k).bind (bW kvs):=by cases k<;>rfl
@[simp] theorem abd(k:Int):keyOf (.int k)=some (.inl k):=rfl
@[simp] theorem abe(k:Str):keyOf (.str k)=some (.inr k):=rfl
@[simp] theorem WW(ds:List D):Ga (.t (.tup ds))=some ds.length:=rfl
@[simp] theorem WX(ds:List D):Ga (.t (.lst ds))=some ds.length:=rfl
@[simp] theorem WY(ds:List D):Ga (.m (.lst ds))=some ds.length:=rfl
@[simp] theorem WZ(ds:List D):Ga (.b (.lst ds))=some ds.length:=rfl
@[simp] theorem afk(C:Int->Int->Bool)(h:Int->Int->D)(x y:Int):xM C h [.int x,.int y]=if C x y then AAA (h x y) else none:=rfl
@[simp] theorem Zg(x y:Int):gU [.int x,.int y]=AAC (x+y):=rfl
@[simp] theorem Zh(x y:List D):gU [.tup x,.tup y]=if x.length+y.length<=100000 then AAA (.tup (x++y)) else none:=rfl
@[simp] theorem Zi(x y:List D):gU [.lst x,.lst y]=if x.length+y.length<=100000 then AAB (x++y) else none:=rfl
@[simp] theorem adN(x y:Int):yT [.int x,.int y]=if((decide (-(2 ^ 64)<x) && decide (x<2 ^ 64)) || (decide (-(2 ^ 64)<y) && decide (y<2 ^ 64))) then AAC (x*y) else none:=rfl
@[simp] theorem adO(ds:List D):fT ds=if ds.length<=100000 then AAA (.tup ds) else none:=rfl
@[simp] theorem adP(ds:List D):eB ds=if ds.length<=100000 then AAB ds else none:=rfl
@[simp] theorem abf(ds:List D)(k:Int):Hr [.tup ds,.int k]=(dZ ds k).map .t:=rfl
@[simp] theorem abg(ds:List D)(k:Int):Hr [.lst ds,.int k]=(dZ ds k).map .t:=rfl
@[simp] theorem Zj:kg [d,e]=if cJ d<=40 then AAA (.bl (lT d e)) else none:=rfl
@[simp] theorem afl:Bt [d,e]=if cJ d<=40 then AAA (.bl (!lT d e)) else none:=rfl
@[simp] theorem abh(x y z:Int):YM [.int x,.int y,.int z]=AAC (if y<x then(if z<y then z else y) else if z<x then z else x):=rfl
@[simp] theorem Zk(ds:List D):LJ [.lst ds]=AAC ds.length:=rfl
@[simp] theorem W0(ds:List D):pI [.lst ds]=AAB ds:=rfl
@[simp] theorem UQ(ds:List D):sU [.lst ds]=AAA (.tup ds):=rfl
@[simp] theorem adQ(ds:List D):y9 [.lst ds]=(g7 ds).map λbs=>.t (.bl (bs.all id)):=rfl
@[simp] theorem adR(ds:List D):xN [.lst ds]=(g7 ds).map λbs=>.t (.bl (bs.any id)):=rfl
@[simp] theorem PF:zo [d]=if Pj d then AAA (.str (toPy d).shown) else none:=rfl
@[simp] theorem CF(x y:Str):lT (.str x) (.str y)=(x == y):=by kernel_rfl
@[simp] theorem abi(x y:Int):lT (.int x) (.int y)=(x == y):=by kernel_rfl
@[simp] theorem abj(x y:Bool):lT (.bl x) (.bl y)=(x == y):=by kernel_rfl
@[simp] theorem abk(x:Str):cJ (.str x)=0:=by kernel_rfl
@[simp] theorem abl(x:Int):cJ (.int x)=0:=by kernel_rfl
@[simp] theorem abm(x:Bool):cJ (.bl x)=0:=by kernel_rfl
@[simp] theorem adS(h:MO->Option (D×MO)):vP S i h=match S[i]? with|some (some (.m o))=>(h o).map λr=>(r.1,S.set i (some (.m r.2)))|some (some (.b o))=>(h o).map λr=>(r.1,S.set i (some (.b r.2)))|_=>none:=rfl
@[simp] theorem afm:YB S i=match S[i]? with|some (some (.m (.lst _)))=>true|some (some (.b (.lst _)))=>true|_=>false:=rfl
@[simp] theorem W2(kvs:List (Key×D))(k:D):vR (.dct kvs) k d=(keyOf k).bind λkk=>if kvs.length<100000 then some (.dct (putD kvs kk d)) else none:=rfl
@[simp] theorem W3(ds:List D)(k:Int):vR (.lst ds) (.int k) d=(Hg ds.length k).map λj=>.lst (ds.set j d):=rfl
@[simp] theorem Zl(ds:List D):hAppend [d] (.lst ds)=if ds.length<100000 then some (.cI,.lst (ds++[d])) else none:=rfl
@[simp] theorem W4:bN [] S=some []:=rfl
@[simp] theorem abn(us:List U)(o2:MO):bN (.b o2::us) (some (.b o)::S)=(bN us S).map λos=>o::os:=rfl
@[simp] theorem HB(us:List U)(x:Option U):bN (.t d::us) (x::S)=bN us S:=rfl
@[simp] theorem abo(ns:BBD)(us:List U)(x:Option U):bN (.s ns::us) (x::S)=bN us S:=rfl
@[simp] theorem abp(us:List U)(x:Option U):bN (.m o::us) (x::S)=bN us S:=rfl
@[simp] theorem abq(us:List U)(x:Option U):bN (.v i::us) (x::S)=bN us S:=rfl
@[simp] theorem abr(a:Addr)(us:List U)(x:Option U):bN (.f a::us) (x::S)=bN us S:=rfl
end
noncomputable def jE:Option U->Bool
 |some (.b _)=>true
 |_=>false
@[simp] theorem afn:jE none=false:=rfl
@[simp] theorem afo(d:D):jE (AAA d)=false:=rfl
@[simp] theorem afp(o:MO):jE (some (.m o))=false:=rfl
def bh(i:Nat)(u:U)(S:SS):qk i u S=(S[i]?).bind λx=>if jE x then none else some (S.set i (some u)):=by
 unfold qk;cases S[i]? with
 |none=>rfl
 |some x=>cases x with
  |none=>rfl
  |some u=>cases u<;>rfl
end L2
end
section
namespace Sw
open L2
variable {n:Nat}{K:AAD}
@[simp] theorem Zm(g:GD)(lo hi:Option GD)(S:SS):Uz g lo hi S=(g S).bind λp=>(nv lo p.2).bind λl=>(nv hi l.2).bind λh=>(RV p.1 l.1 h.1).map λu=>(u,h.2):=rfl
@[simp] theorem adT(S:SS):nv none S=some (none,S):=rfl
@[simp] theorem adU(g:GD)(S:SS):nv (some g) S=(g S).bind λp=>match p.1 with|.int i=>some (some i,p.2)|_=>none:=rfl
@[simp] theorem PJ(ds:List D)(lo hi:BBM):RV (.tup ds) lo hi=AAA (.tup (cutD ds lo hi)):=rfl
@[simp] theorem PK(ds:List D)(lo hi:BBM):RV (.lst ds) lo hi=AAB (cutD ds lo hi):=rfl
theorem Mm:∀(ts:List D)(S:SS),S.length=ts.length->bN (ts.map U.t) S=some []
 |[],S,_=>by cases S<;>rfl
 |d::ts,[],h=>by cases h
 |d::ts,x::S,h=>by
  show bN (U.t d::ts.map U.t) (x::S)=_;rw[HB];exact Mm ts S (by simpa using h)
theorem R6(S:SS):∀ts:List D,bY S (ts.map U.t)=some (ts.map U.t)
 |[]=>rfl
 |d::ts=>by
  show(some (U.t d)).bind _=_;rw[R6 S ts];rfl
theorem Zn:∀ts:List D,slotsOf (ts.map U.t)=[]
 |[]=>rfl
 |d::ts=>Zn ts
theorem Zo:∀ts:List D,cz (ts.map U.t)=0
 |[]=>rfl
 |d::ts=>Zo ts
theorem UR(S:SS):∀ts:List D,wb (ts.map U.t) [] S=some S
 |[]=>rfl
 |d::ts=>UR S ts
theorem yq{cap:BBJ}{q:GT}{g:GD}{S:SS}{ts:List D}(hc:dz S cap=some (ts.map U.t))(p:D->Bool)(f:D->D):∀(ds acc:List D),
  (∀d∈ds,q (AAA d::ts.map λx=>AAA x)=some (p d,AAA d::ts.map λx=>AAA x))->(∀d∈ds,p d=true->g (AAA d::ts.map λx=>AAA x)=some (f d,AAA d::ts.map λx=>AAA x))->
  bK cap q g ds S acc=some (acc++(ds.filter p).map f,S)
 |[],acc,_,_=>by simp[bK]
 |d::ds,acc,hq,hg=>by
  have em:(ts.map U.t).map some=ts.map λx=>some (U.t x):=by simp
  have eo:bN (.t d::ts.map U.t) (AAA d::ts.map λx=>AAA x)=some []:=by rw[HB];exact Mm ts _ (by simp)
  have q0:=hq d (aaT);unfold bK;rw[hc];simp only[aaN];rw[if_pos ⟨by rw[Zn];exact abZ,by rw[Zo];exact abK _⟩,R6];simp only[aaN];rw[em,q0];simp only[aaN];by_cases hp:p d=true
  .rw[if_pos hp,hg d aaT hp];simp only[aaN];rw[eo];simp only[aaN];rw[UR];simp only[aaN];rw[yq hc p f ds (acc++[f d]) (λe he=>hq e (aaR _ he)) (λe he=>hg e (aaR _ he)),ag7 hp];simp
  .rw[if_neg hp,eo];simp only[aaN];rw[UR];simp only[aaN];rw[yq hc p f ds acc (λe he=>hq e (aaR _ he)) (λe he=>hg e (aaR _ he)),ag8 hp]
def iN{cap:BBJ}{g:GD}{S:SS}{ts:List D}(hc:dz S cap=some (ts.map U.t))(f:D->D)(ds acc:List D)(hg:∀d∈ds,g (AAA d::ts.map λx=>AAA x)=some (f d,AAA d::ts.map λx=>AAA x)):
  bK cap bB g ds S acc=some (acc++ds.map f,S):=by
 rw[yq hc (λ_=>true) f ds acc (λ_ _=>rfl) (λd hd _=>hg d hd),List.filter_eq_self.mpr (λ_ _=>rfl)]
@[simp] theorem uR(cap:BBJ)(gi:GI)(q:GT)(g:GD)(S:SS):cM cap gi q g S=(gi S).bind λp=>if p.1.length<=100000 then(bK cap q g p.1 p.2 []).map λr=>(.m (.lst r.1),r.2) else none:=rfl
def cQ(g:GD)(S:SS):iF g S=(g S).bind λp=>match p.1 with|.tup ds=>some (ds,p.2)|.lst ds=>some (ds,p.2)|_=>none:=rfl
theorem vZ{α:Type}(f:α->Bool):∀ds:List α,g7 (ds.map λd=>.bl (f d))=some (ds.map f)
 |[]=>rfl
 |d::ds=>by simp[g7,vZ f ds]
def Er(x:D)(z:Str):lT x (.str z)=lT (.str z) x:=by
 cases x with
 |str y=>rw[CF,CF,aec,afW,afW];exact eq_comm
 |_=>kernel_rfl
def v5{x:D}{z:Str}(h:lT (.str z) x=true):x= .str z:=by
 cases x with
 |str y=>rw[eq_of_beq ((CF z y).symm.trans h)]
 |_=>cases h
mutual
def Sane:D->Prop
 |.int i=>i.natAbs<10 ^ 30
 |.str z=>∀c∈z.cps.toList,c<16 ^ 8
 |.tup ds=>Es ds
 |.lst ds=>Es ds
 |.cI=>True
 |.bl _=>True
def Es:List D->Prop
 |[]=>True
 |d::ds=>Sane d/\Es ds
end
mutual
noncomputable def wD:D->Nat
 |.cI=>6
 |.bl _=>6
 |.int _=>40
 |.str z=>10*z.length+2
 |.tup ds=>US ds+4
 |.lst ds=>US ds+4
noncomputable def US:List D->Nat
 |[]=>0
 |d::ds=>wD d+2+US ds
end
def JR(s:String):(Str.ofString s).length=s.length:=PySem.ofString_length s
theorem HC:∀(ts:BBB)(k:Nat)(acc:Str),(textFrom k acc ts).length<=acc.length+piled ts
 |[],k,acc=>aaP _
 |t::ts,k,acc=>by
  have ih:=HC ts (k+1) (acc++(if k > 0 then ", " else "":String)++t);have e:(acc++(if k > 0 then ", " else "":String)++t).length<=acc.length+2+t.length:=by
   rw[agc,agc];split
   .show acc.length+2+t.length<=_;lia
   .show acc.length+0+t.length<=_;lia
  rw[piled_cons];show(textFrom (k+1) _ ts).length<=_;lia
mutual
theorem shown_le:∀d:D,Sane d->(toPy d).shown.length<=wD d
 |.cI,_=>by show(Str.ofString "None").length<=6;decide
 |.bl b,_=>by cases b<;>(show(Str.ofString _).length<=6;decide)
 |.int i,h=>by
  show(Str.ofString (toString i)).length<=40;rw[JR];exact aaY (int_text_length_le10 (k:=30) b_ h) b_
 |.str z,h=>PySem.StrLaws.reprText_len z h
 |.tup ds,h=>by
  have k:=v7 ds h;show(tupleText (PyData.shownAll (gq ds))).length<=US ds+4;unfold tupleText;rw[agc,agc];have e1:("(":Str).length=1:=rfl;have e2:((if(PyData.shownAll (gq ds)).length == 1 then ",)" else ")":String):Str).length<=2:=by split<;>decide
  by_cases hn:PyData.shownAll (gq ds)=[]
  .rw[hn]at e2 ⊢;have e3:(Str.join ", " []).length=0:=rfl;lia
  .have:=join_length_add _ hn;lia
 |.lst ds,h=>by
  have k:=v7 ds h;show(listText (PyData.shownAll (gq ds))).length<=US ds+4;unfold listText;rw[agc];have e1:=HC (PyData.shownAll (gq ds)) 0 "[";have e2:("[":Str).length=1:=rfl;have e3:("]":Str).length=1:=rfl;lia
theorem v7:∀ds:List D,Es ds->piled (PyData.shownAll (gq ds))<=US ds
 |[],_=>aaP _
 |d::ds,h=>by
  show piled ((toPy d).shown::PyData.shownAll (gq ds))<=wD d+2+US ds;rw[piled_cons];have:=shown_le d h.1;have:=v7 ds h.2;lia
end
mutual
theorem xr:∀d:D,Sane d->(toPy d).showable=true
 |.cI,_=>rfl
 |.bl b,_=>rfl
 |.int i,h=>by
  show decide (i.natAbs.log2<1920)=true;rw[ab5];by_cases hz:i.natAbs=0
  .rw[hz];decide
  .exact(ahc hz).mpr (afP h (aaU (show(10:Nat) ^ 30<2 ^ 100 by decide) (abN b_ b_)))
 |.str z,_=>rfl
 |.tup ds,h=>by show PyData.showableAll (gq ds)=true;exact oA ds h
 |.lst ds,h=>by show PyData.showableAll (gq ds)=true;exact oA ds h
theorem oA:∀ds:List D,Es ds->PyData.showableAll (gq ds)=true
 |[],_=>rfl
 |d::ds,h=>by
  show((toPy d).showable && PyData.showableAll (gq ds))=true;rw[xr d h.1,oA ds h.2];rfl
end
mutual
theorem depth_eq:∀d:D,(toPy d).depth=cJ d
 |.cI=>rfl
 |.bl _=>rfl
 |.int _=>rfl
 |.str _=>rfl
 |.tup ds=>by show PyData.depthAll (gq ds)+1=bX ds+1;rw[v8 ds]
 |.lst ds=>by show PyData.depthAll (gq ds)+1=bX ds+1;rw[v8 ds]
theorem v8:∀ds:List D,PyData.depthAll (gq ds)=bX ds
 |[]=>rfl
 |d::ds=>by show max (toPy d).depth (PyData.depthAll (gq ds))=max (cJ d) (bX ds);rw[depth_eq d,v8 ds]
end
structure Good(n k:Nat)(d:D):Prop where
 nG:Sane d
 w:wD d<=n
 dep:cJ d<=k
def Good.mono{k n' k':Nat}{d:D}(h:Good n k d)(a:n<=n')(b:k<=k'):Good n' k' d:=⟨h.nG,aaY h.w a,aaY h.dep b⟩
noncomputable def CG(n:Nat):FM
 |[.s ns]=>if ns.length<=n then some (.t (.bl true),[]) else none
 |_=>none
def UT{P:Program}{w:World}{mg:AAF}{base:Heap}{f:Addr}{fd:FuncData}{k:Nat}{ps:BBB}{fm:FM}(h:∀us,fm us=none):jC P w K mg base vK n f fd ps (spT K k fm):=by
 have no:∀vs H Q E,¬spT K k fm vs H Q E:=λvs H Q E ⟨_,F,us,r,outs,_,_,_,e,_⟩=>by rw[h us]at e;cases e
 exact⟨λvs H Q E h=>absurd h (no vs H Q E),λA outer s H args us vs Q E _ _ _ _ h=>absurd h (no vs H Q E)⟩
def UU{H:Hp}{a:Addr}{ns:BBD}{E:XK}(hl:ns.length<=n)(hO:OZ H)(hS:mX K H a (ns.map V.int)):spT K 1 (CG n) [.ref a] H (λv _=>v= .bl true) E:=by
 have sc:O6 K H a ns:=by
  rcases hS with(h|h)|h
  .rcases hO a with z|⟨o,xs,z⟩|z<;>(rw[h]at z;cases z)
  .exact .inl h
  .exact .inr h
 exact⟨rfl,λ_=>none,[.s ns],.t (.bl true),[],(λb o z=>by cases z),.cons ⟨a,rfl,sc⟩ .nil,abZ,by simp[CG,hl],λv F' H' _ r=>n8 r⟩
end Sw
end
section
namespace L2
variable {x:Str}{st:Stmt}{od an:BBN}{osl:Array (BBP)}{doc cdv:Value}{N ps:BBB}{fm:FM}{n:Nat}{O:St}{H:Hp}{vs:List V}{K:AAD}{B:Base}
section
variable {X:Cx}{e elt iter:Expr}{ifs:BBC}{b:Expr}{g:GE}{gd gb:GD}{gi:GI}{q:GT}{x y:Str}{p pos pos' px py spos:Pos}{k:Nat}{scope:Scope}{cl:List (Str×Addr)}{bL:BBB}{cap:BBJ}
def zs(hN:X.N.Nodup)(i:Nat)(he:JE X e g)(hi:X.N[i]? =some x:=by rfl)(hx:Loc X.env.scope x:=by trivial)(hs:swapsWith e (some (.Name x pos')) pos.line X.env=pure false:=by rfl)
  (hf:X.fn x=true\/X.env.scope.names.lookup x=some .local:=by trivial):JS X (.Assign [.Name x pos'] e pos) (cD i g):=Uq hN hi hx he hs hf
def zg(hN:X.N.Nodup)(i:Nat)(hi:X.N[i]? =some x:=by rfl)(hx:Loc X.env.scope x:=by trivial)(hf:X.fn x=true\/X.env.scope.names.lookup x=some .local:=by trivial):JG X (.Name x pos) (bName i):=O9 hN hi hx hf
def zc(hN:X.N.Nodup)(i:Nat)(T:dW X x bL cap scope cl)(hi:JI X e_ iter gi)(ht:∀C s H fp,Uw (cF X (x::bL) scope cl C s H fp) ifs q)(he:∀C s H fp,JD (cF X (x::bL) scope cl C s H fp) elt gd)
  (hy:X.N[i]? =some y:=by rfl)(hx:Loc X.env.scope y:=by trivial)(hc:X.calm=true:=by rfl)
  (hsw:swapsWith (.ListComp elt [⟨.Name x px,iter,ifs,0⟩] scope pos) (some (.Name y py)) spos.line X.env=pure true:=by rfl)(hf:X.fn y=true\/X.env.scope.names.lookup y=some .local:=by trivial)
  (hs:∀x,foldedSetIterable iter X.env x=pure x:=by intro _;rfl):JS X (.Assign [.Name y py] (.ListComp elt [⟨.Name x px,iter,ifs,0⟩] scope pos) spos) (cD i (cM cap gi q gd)):=LQ hN hy hx T hc hi ht he hsw hf hs
def ys(hr:dU k X.A)(i:Nat)(hb:JD X b gb)(hs:nY b:=by first|(intro _ _;rfl))(hN:X.N[i]? =some x:=by rfl)(hv:pF X.env.scope x:=by trivial)
  (hd:BBT x:=by decide)(hcd:BBU x:=by decide):JD X (.Subscript e_ b pos) (b9 i gb):=Uy (lQ hr) hb hs hN hv hd hcd
def jv(i:Nat)(hN:X.N[i]? =some x:=by rfl)(hv:pF X.env.scope x:=by trivial)(hd:BBT x:=by decide)
  (hcd:BBU x:=by decide):JD X (.Name x pos) (eF (au i)):=(bD i hN hv hd hcd).d
def cp(h1:∀y∈scope.names,y.2≠.free:=by decide)(h2:∀y∈scope.names,y.2≠.cell:=by decide)(h3:scope.kind= .function:=by rfl)(h4:∀y∈scope.names,y.2= .local->scope.names.lookup y.1=some .local:=by decide)(h5:scope.names.lookup x=some .local:=by rfl):
  dW X x [] [] scope []:=FU h1 h2 h3 h4 h5
def cc{c:Addr}(i:Nat)(clos:closureFor scope X.env=pure [(y,c)]:=by rfl)(gZ:∀z∈scope.names,z.2≠.cell:=by decide)(kind:scope.kind= .function:=by rfl)(names:∀z∈scope.names,z.2= .local->scope.names.lookup z.1=some .local:=by decide)
  (loc:scope.names.lookup x=some .local:=by rfl)(hc:X.env.cells.lookup y=some c:=by rfl)(only:∀z∈scope.names,z.2= .free->z.1=y:=by decide)(ne:x≠y:=by decide)(hN:X.N[i]? =some y:=by rfl)(vis:X.env.scope.names.lookup y=some .cell:=by rfl)(rel:(relabel scope X.env).names.lookup y=some .cell:=by rfl):
  dW X x [y] [i] scope [(y,c)]:=LZ clos gZ kind names loc hc only ne hN vis rel
def cs(bL:BBB)(cap:BBJ)(clos:closureFor scope X.env=pure cl:=by rfl)(gZ:∀z∈scope.names,z.2≠.cell:=by decide)(kind:scope.kind= .function:=by rfl)(names:∀z∈scope.names,z.2= .local->scope.names.lookup z.1=some .local:=by decide)
  (loc:scope.names.lookup x=some .local:=by rfl)(hc:cl.map (λp=>X.env.cells.lookup p.1)=cl.map (λp=>some p.2):=by rfl)(only:∀z∈scope.names,z.2= .free->z.1∈bL:=by decide)(hcl:cl.map (·.1)=bL.reverse\/cl.map (·.1)=bL:=by trivial)(nd:(x::bL).Nodup:=by decide)
  (slot:cap.map (λi=>X.N[i]?)=bL.map some:=by rfl)(vis:bL.map (λn=>X.env.scope.names.lookup n)=bL.map λ_=>some .cell:=by rfl)(rel:bL.map (λn=>(relabel scope X.env).names.lookup n)=bL.map λ_=>some .cell:=by rfl):
  dW X x bL cap scope cl:=Gb clos gZ kind names loc hc only hcl nd slot vis rel
end
section
variable {P:Program}{w:World}{K:AAD}{mg:AAF}{base:Heap}{h:Heap}
structure Df(K:AAD)(mg:AAF)(x:Str)(st:Stmt):Prop where
 ex:∃f fd,Oc K x x st f fd/\mg x=some (.ref f)
def R7{f:Addr}{oc:Value}{kV pm ct:Value}(X:K.In h)(G:h.Ns mainGlobals mg)(a:W.nsIn K mainGlobals x=some (some (.ref f)))
  (l:K.lookup f=some ⟨oc,od,.func (W.fnOf x x (jl st) (dh st) (aI st) .none kV doc pm an cdv ct),osl⟩)(c:W.codeIn K cdv x=true)(k:W.keepIn K (.ref f)=true):Df K mg x st:=
 ⟨_,_,Ly l c k,agx X G a⟩
structure xu(P:Program)(w:World)(K:AAD)(mg:AAF)(base:Heap)(n:Nat)(x:Str)(ps:BBB)(fm:FM):Prop where
 ex:∃a d,jC P w K mg base vK n a d ps (spT K ps.length fm)/\Binds K d ps []/\W.keepIn K (.ref a)=true/\mg x=some (.ref a)
def xu.mono{j k:Nat}{x:Str}{ps:BBB}{fm:FM}(c:xu P w K mg base j x ps fm)(h:j<=k):xu P w K mg base k x ps fm:=
 let⟨a,d,G,r⟩:=c.ex;⟨a,d,G.mono h,r⟩
def Bd(x:Str)(st:Stmt)(ps:BBB):Prop:=∀(kV doc pm:Value)(an:BBN)(cdv ct:Value)(us:AAL),us.length=ps.length->bindArgs (W.fnOf x x (jl st) (dh st) (aI st) .none kV doc pm an cdv ct) ⟨us,[]⟩=pure (ps.zip us)
def sI{sc:Scope}(a:sc.kind= .function:=by rfl)(b:sc.isCoroutine=false:=by rfl)(c:sc.isGenerator=false:=by rfl)(d:N.Nodup:=by decide +kernel)(e:N.take ps.length=ps:=by rfl)
  (f:∀x∈ps,sc.names.lookup x=some .local\/sc.names.lookup x=some .cell:=by decide +kernel)(g:∀y∈sc.names,y.2≠.free:=by decide +kernel):bw N ps sc:=⟨a,b,c,d,e,f,g⟩
def CH{k:Nat}{g:GS}(D:Df K mg x st)(Sc:bw N ps (aI st))
  (hf:∀us r,fm us=some r->bf N.length g us=some r)
  (hb:∀(f:Addr)(cdv:Value)(A:Around)(outer:BBF)(s:Shared)(H:Hp)(E:XK),dU k (A.deeper (envOfC x (aI st) c_ f cdv))->JB (vI vK P w K mg base N x (aI st) f cdv A outer s H E).K2 (dh st) g)
  (bd:Bd x st ps:=by trivial):xu P w K mg base (k+1) x ps fm:=by
 obtain⟨f,fd,F,m⟩:=D.ex;exact⟨f,fd,okT F Sc (hb f) hf,F.binds bd,F.kp,m⟩
end
section
variable {X:Cx}{e:Expr}{es:BBC}{gu:GU}{x:Str}{p pos:Pos}{k j:Nat}{ps:BBB}{fm:FM}
def jc(c:xu X.prog X.w X.K X.mg X.base j x ps fm)(hr:dU k X.A)(ha:JU X (e::es) gu)(hj:j<=k:=by lia)(hg:Gl X x:=by rfl)(hn:(e::es).length=ps.length:=by rfl)
  (hdb:BBT x:=by decide)(he:starEach (e::es) X.env=(false,eval e X.env)::starEach es X.env:=by rfl)(hpl:(backTo pos (starEach es X.env)).any (·.1)=false:=by rfl):
  JE X (.Call (.Name x p) (e::es) [] pos) (bq fm gu):=by
 obtain⟨a,d,G,b,kp,m⟩:=c.ex;exact Pb (G.mono hj) hr hg m kp b ha hn hdb he hpl
end
section
variable {P:Program}{w:World}{K:AAD}{mg:AAF}{base:Heap}{h:Heap}{C:Addr}{m q x:Str}{st:Stmt}{ps:BBB}{fm:FM}
def CI(D:Df K mg x st)(z:∀us,fm us=none)(bd:Bd x st ps:=by trivial):xu P w K mg base n x ps fm:=by
 obtain⟨f,fd,F,m⟩:=D.ex;exact⟨f,fd,Sw.UT z,F.binds bd,F.kp,m⟩
structure xP(K:AAD)(C:Addr)(m q:Str)(st:Stmt):Prop where
 ex:∃f fd,Oc K m q st f fd/\Meth K C m f
def UW{f:Addr}{oc:Value}{kV pm ct:Value}(a:W.findIn K (.ref C) m=some (some (.ref f)))
  (l:K.lookup f=some ⟨oc,od,.func (W.fnOf m q (jl st) (dh st) (aI st) .none kV doc pm an cdv ct),osl⟩)(c:W.codeIn K cdv q=true)(k:W.keepIn K (.ref f)=true)(y:W.isFn K (.ref f)=true):xP K C m q st:=
 ⟨_,_,Ly l c k,a,y,k⟩
def BdM(x q:Str)(st:Stmt)(ps:BBB):Prop:=∀(kV doc pm:Value)(an:BBN)(cdv ct:Value)(us:AAL),us.length=ps.length->bindArgs (W.fnOf x q (jl st) (dh st) (aI st) .none kV doc pm an cdv ct) ⟨us,[]⟩=pure (ps.zip us)
structure Zp(K:AAD)(mg:AAF)(x:Str)(C:Addr):Prop where
 nm:mg x=some (.ref C)
 mks:W.makesIn K C=true
 kp:W.keepIn K (.ref C)=true
def UX(X:K.In h)(G:h.Ns mainGlobals mg)(a:W.nsIn K mainGlobals x=some (some (.ref C)))(b:W.makesIn K C=true)(c:W.keepIn K (.ref C)=true):Zp K mg x C:=⟨agx X G a,b,c⟩
end
def Inv.gh{X:Cx}{pins:AAG}{O':St}{s:Shared}(I:Inv X pins O H s)(hl:O'.length=O.length)(h:∀(i:Nat) x,X.N[i]? =some x->pF X.env.scope x->O'[i]? =O[i]?):Inv X pins O' H s:=
 ⟨I.ok,I.os,I.bare,I.base,let⟨m,a,b⟩:=I.loc;⟨m,a,λi x v h1 h2 h3=>b i x v h1 (by rw[<-h i x h1 h3];exact h2) h3⟩,I.cell,I.free,I.kN,I.pin,I.hok,by rw[hl];exact I.len⟩
inductive tGh(X:Cx)(t:TS)(D:Ends)(O:St)(H:Hp):Prop
 |mk(O':St)(hl:O'.length=O.length)(he:∀(i:Nat) x,X.N[i]? =some x->pF X.env.scope x->O'[i]? =O[i]?)(q:t D O' H)
def vG.gh{X:Cx}{st:BBH}{t:TS}(h:vG X st t):vG X st (tGh X t):=λpins s O H D I q=>by
 obtain⟨O',hl,he,q⟩:=q;exact h pins s O' H D (I.gh hl he) q
def PL(K:AAD)(n ng:Nat)(f:FM):Sp:=λvs H Q _=>vs.length=n/\∃gv F us r outs,gv.length=ng/\Sub F H/\Paired (sR K F H) (vs++gv) us/\(addrs (vs++gv) us).Nodup/\f us=some (r,outs)/\∀v F' H',Post F H F' H' (addrs (vs++gv) us) outs->uD H F' H' v r->Q v H'
def Et{sc:Scope}{gv:List V}(hl:vs.length=ps.length)(hn:ps.length+gv.length<=N.length)(hg:∀x∈(N.drop ps.length).take gv.length,sc.names.lookup x=none):(start N (vs++gv)).length=(start N vs).length/\∀(i:Nat) x,N[i]? =some x->pF sc x->(start N (vs++gv))[i]? =(start N vs)[i]?:=by
 refine⟨by simp only[start,aaW,aar,aen];lia,λi x hN hv=>?_⟩;have hi:=(abv.mp hN).1;unfold start;by_cases h1:i<vs.length
 .rw[ab1 (by simp;lia),ab1 (by simpa using h1),abI,abI,ab1 h1]
 .by_cases h2:i<vs.length+gv.length
  .have:x∈(N.drop ps.length).take gv.length:=by
    refine abU (i:=i-ps.length) ?_;rw[List.getElem?_take,if_pos a_,List.getElem?_drop,<-hl,Nat.add_sub_cancel' a_];exact hN
   have:=hg x this;rcases hv with z|z|z<;>(rw[this]at z;cases z)
  .rw[aeX (by simp;lia),aeX (by simp;lia),ae5,ae5,if_pos (by simp;lia),if_pos (by simp;lia)]
section
variable {P:Program}{w:World}{K:AAD}{mg:AAF}{base:Heap}
def adV{qual:Str}{f:Addr}{fd:FuncData}{k ng:Nat}{g:GS}(F:Oc K x qual st f fd)(Sc:bw N ps (aI st))(hn:ps.length+ng<=N.length)(hgs:∀x∈(N.drop ps.length).take ng,(aI st).names.lookup x=none)
  (hb:∀(cdv:Value)(A:Around)(outer:BBF)(s:Shared)(H:Hp)(E:XK),dU k (A.deeper (envOfC qual (aI st) c_ f cdv))->JB (vI vK P w K mg base N qual (aI st) f cdv A outer s H E).K2 (dh st) g)
  (hf:∀us r,fm us=some r->bf N.length g us=some r):jC P w K mg base vK (k+1) f fd ps (PL K ps.length ng fm):=by
 refine F.ok Sc (λvs H Q E h=>h.1) λcdv A outer s H vs Q E hr h=>?_;obtain⟨hlen,gv,F0,us,r,outs,gl,sb,ar,nd,hfm,q⟩:=h;have hrun:=hf us (r,outs) hfm;have J:=hb cdv A outer s H E hr;subst gl;obtain⟨s1,s2⟩:=Et (sc:=aI st) hlen hn hgs;exact⟨_,(J.h ⟨lent (vs++gv) us,F0,H⟩).gh,start N (vs++gv),s1,s2,yj sb ar nd hrun q⟩
structure UY(P:Program)(w:World)(K:AAD)(mg:AAF)(base:Heap)(n:Nat)(x:Str)(ps:BBB)(ng:Nat)(fm:FM):Prop where
 ex:∃a d,jC P w K mg base vK n a d ps (PL K ps.length ng fm)/\Binds K d ps []/\W.keepIn K (.ref a)=true/\mg x=some (.ref a)
end
noncomputable def AD(gu:GU)(gh:BBJ):GU:=λS=>(gu S).map λp=>(p.1++gh.map U.v,p.2)
theorem uS{S:SS}:∀{a b ws:List U},bY S (a++b)=some ws->∃w2,bY S b=some w2
 |[],_,ws,h=>⟨ws,h⟩
 |u::a,b,ws,h=>by
  obtain⟨w,h1,h⟩:=aj h;obtain⟨ws',h2,h⟩:=aA h;exact uS (a:=a) h2
theorem HD{K:AAD}{B:Base}{S:SS}{O:St}{H0 F H:Hp}(R:Rel K B S O F H):∀(gh:BBJ){ws:List U},bY S (gh.map U.v)=some ws->∃gv,gv.length=gh.length/\Paired (λv u=>gI K B S O H0 F H v u) gv (gh.map U.v)
 |[],_,_=>⟨[],rfl,.nil⟩
 |i::gh,ws,h=>by
  obtain⟨w,h1,h⟩:=aj h;obtain⟨ws',h2,h⟩:=aA h;obtain⟨gv,l,p⟩:=HD R gh h2;obtain⟨u,o,hS,_⟩:=m6 h1;obtain⟨v,k1,_⟩:=R.rep i u hS;exact⟨v::gv,congrArg Nat.succ l,.cons ⟨k1,u,hS⟩ p⟩
theorem sZ{α β:Type}{P:α->β->Prop}:∀{a c:List α}{b d:List β},Paired P a b->Paired P c d->Paired P (a++c) (b++d)
 |_,_,_,_,.nil,q=>q
 |_,_,_,_,.cons p ps,q=>.cons p (sZ ps q)
def tu{S0 S1 S2:SS}{F0 F1 H1:Hp}{Q:VK}{gh:BBJ}{f:FM}{us ws:List U}{r:U}{outs:List MO}(R1:Rel K B S1 O F1 H1)(st1:Step S0 S1 O F0 H F1 H1)(JV:Paired (λv u=>gI K B S1 O H F1 H1 v u) vs us)(hlen:vs.length=n)
  (hc:(slotsOf (us++gh.map U.v)).Nodup/\cz (us++gh.map U.v)<=1)(h2:bY S1 (us++gh.map U.v)=some ws)(h3:f ws=some (r,outs))(h4:wb (us++gh.map U.v) outs S1=some S2)(q:∀v F' H',Rel K B S2 O F' H'->Step S0 S2 O F0 H F' H'->gI K B S2 O H F' H' v r->Q v H'):PL K n gh.length f vs H1 Q E0:=by
 obtain⟨w2,hw2⟩:=uS h2;obtain⟨gv,gl,gp⟩:=HD (H0:=H) R1 gh hw2;have rr:=sZ JV gp;refine⟨hlen,gv,F1,ws,r,outs,gl,R1.sub,rE R1 rr h2,dF R1 rr h2 hc.1 hc.2,h3,λv F2 H2 po rn=>?_⟩;obtain⟨R2,st2,mu⟩:=kR R1 st1 rr h2 h4 hc.1 po;refine q v F2 H2 R2 st2 ?_;cases r with
 |t d=>exact rn
 |b o=>cases rn
 |v i=>cases rn
 |s i=>cases rn
 |f i=>cases rn
 |m o=>
  obtain⟨a,e,h0,f,h⟩:=rn;refine⟨a,e,none_of st1.ext.there h0,f,h,λm=>?_,none_of R1.ext.there h0⟩;obtain⟨o',ho⟩:=R1.has (mu a m);rw[h0]at ho;cases ho
def zH{f:FM}{gu:GU}{S S':SS}{u:U}(h:bq f gu S=some (u,S')):∃us S1 ws outs,gu S=some (us,S1)/\((slotsOf us).Nodup/\cz us<=1)/\bY S1 us=some ws/\f ws=some (u,outs)/\wb us outs S1=some S':=by
 obtain⟨⟨us,S1⟩,h1,h⟩:=aj h;obtain⟨hc,h⟩:=cC h;obtain⟨ws,h2,h⟩:=aj h;obtain⟨⟨r,outs⟩,h3,h⟩:=aj h;obtain⟨S2,h4,h⟩:=aA h;cases h;exact⟨us,S1,ws,outs,h1,hc,h2,h3,h4⟩
def BC{Q:VK}{gu:GU}{gh:BBJ}{f:FM}{G:List V->Hp->Prop}(hn:∀S us S',gu S=some (us,S')->us.length=n)
  (hG:∀S S' us vs F F' H',Rel K B S O F H->gu S=some (us,S')->Rel K B S' O F' H'->Paired (λv u=>gI K B S' O H F' H' v u) vs us->PL K n gh.length f vs H' Q E0->G vs H')(h:tE K B (bq f (AD gu gh)) O H Q):tAU K B gu O H G:=by
 obtain⟨S,F0,u,S',R,hg,q⟩:=h;obtain⟨us',S1,ws,outs,h1,hc,h2,h3,h4⟩:=zH hg;obtain⟨⟨us,S1'⟩,Ov,hq⟩:=aA h1;cases hq;exact⟨S,F0,us,_,R,Ov,λvs F1 H1 R1 st1 JV=>hG _ _ _ _ _ _ _ R Ov R1 JV (tu R1 st1 JV (by rw[JV.length,hn _ _ _ Ov]) hc h2 h3 h4 q)⟩
section
variable {X:Cx}{e:Expr}{es:BBC}{gu:GU}{x:Str}{p pos:Pos}{f:FM}{fa:Addr}{fd:FuncData}{ps:BBB}{k n j:Nat}{gh:BBJ}
def Mn(F:jC X.prog X.w X.K X.mg X.base vK k fa fd ps (PL X.K n gh.length f))(hr:dU k X.A)(hg:Gl X x)(hm:X.mg x=some (.ref fa))(hk:W.keepIn X.K (.ref fa)=true)(hb:Binds X.K fd ps [])(ha:JU X (e::es) gu)(hn:(e::es).length=n:=by rfl)
  (hdb:BBT x:=by decide)(he:starEach (e::es) X.env=(false,eval e X.env)::starEach es X.env:=by rfl)(hpl:(backTo pos (starEach es X.env)).any (·.1)=false:=by rfl):
  JE X (.Call (.Name x p) (e::es) [] pos) (bq f (AD gu gh)):=
 ⟨λB=>(uA F hr hg hm hk hb .nil yM (ha.h B) hdb he hpl).imp λO H Q hh=>BC (λS us S' z=>(ha.len _ _ _ z).trans hn) (λ_ _ _ vs _ _ H1 _ _ _ _ z=>by show PL X.K n gh.length f (vs++[]) H1 Q E0;rw[ad7];exact z) hh⟩
def jcg(gh:BBJ)(c:UY X.prog X.w X.K X.mg X.base j x ps gh.length fm)(hr:dU k X.A)(ha:JU X (e::es) gu)(hj:j<=k:=by lia)(hg:Gl X x:=by rfl)(hn:(e::es).length=ps.length:=by rfl)
  (hdb:BBT x:=by decide)(he:starEach (e::es) X.env=(false,eval e X.env)::starEach es X.env:=by rfl)(hpl:(backTo pos (starEach es X.env)).any (·.1)=false:=by rfl):
  JE X (.Call (.Name x p) (e::es) [] pos) (bq fm (AD gu gh)):=by
 obtain⟨a,d,G,b,kp,m⟩:=c.ex;exact Mn (G.mono hj) hr hg m kp b ha hn hdb he hpl
end
noncomputable def Zq(c:Addr)(h:List D->MO->Option (D×MO))(args:List D):MO->Option (D×MO)
 |.lat c' ds=>if c'=c then match h args (.lst ds) with
  |some (d,.lst ds')=>some (d,.lat c ds')
  |_=>none else none
 |_=>none
noncomputable def HE(S:SS)(j:Nat)(c:Addr):Bool:=match S[j]? with
 |some (some (.m (.lat c' _)))=>c' == c
 |some (some (.b (.lat c' _)))=>c' == c
 |_=>false
def Mp{S:SS}{F:Hp}{j:Nat}{c:Addr}(R:Rel K B S O F H)(h:HE S j c=true):O[j]? =some (some (.ref c))/\∃vs,H c=some (.lst vs):=by
 unfold HE at h;split at h
 .rename_i c' ds e;obtain⟨v,k1,a,rfl,f,vs,⟨rfl,k2⟩,k3⟩:=R.rep j _ e;cases eq_of_beq h;exact⟨k1,vs,k2⟩
 .rename_i c' ds e;obtain⟨v,k1,a,rfl,f,vs,⟨rfl,k2⟩,k3⟩:=R.rep j _ e;cases eq_of_beq h;exact⟨k1,vs,k2⟩
 .cases h
end L2
end
section
namespace L2
open PySem.Calls PyProof.V
def leX(a b:Str):Prop:=¬b.cps.toList<a.cps.toList
noncomputable instance abt(a b:Str):Decidable (leX a b):=inferInstanceAs (Decidable (¬b.cps.toList<a.cps.toList))
def Mq{a b:Str}(h1:leX a b)(h2:leX b a):a=b:=by
 have:=List.le_antisymm (List.not_lt.mp h1) (List.not_lt.mp h2);obtain⟨⟨x⟩⟩:=a;obtain⟨⟨y⟩⟩:=b;have:x=y:=this;rw[this]
end L2
end
section
namespace L2
section
variable {S:SS}{O:St}
def v9{j:Nat}{u:U}{c a:Addr}(h:cL (S.set j (some u)) (O.set j (some (.ref c))) a):a=c\/cL S O a:=by
 obtain⟨i,w,h1,hm,h2⟩:=h;rcases get_set h1 with⟨rfl,_,_⟩|⟨ne,q⟩
 .rcases get_set h2 with⟨_,z,_⟩|⟨ne,_⟩
  .cases z;exact .inl rfl
  .exact absurd rfl ne
 .rw[abF ne]at h2;exact .inr ⟨i,w,q,hm,h2⟩
end
open Classical in
noncomputable def zI(f:Addr->Addr->Option Out):Option Out:=if h:∃r,∀c d,f c d=some r then some (Classical.choose h) else none
def Eu{f:Addr->Addr->Option Out}{r:Out}(h:zI f=some r)(c d:Addr):f c d=some r:=by
 unfold zI at h;split at h
 .rename_i hx;cases h;exact acY hx c d
 .cases h
def JX{f:Addr->Addr->Option Out}{r:Out}(h:∀c d,f c d=some r):zI f=some r:=by
 unfold zI;rw[dif_pos ⟨r,h⟩];have:=acY (⟨r,h⟩:∃r,∀c d,f c d=some r) 0 0;rw[h 0 0]at this;exact congrArg some (abT this).symm
section
variable {O:St}{i j k:Nat}{x:List D}
def Mr{N:BBB}{sc:Scope}{c d p:Addr}{zj zk:Str}(hj:N[j]? =some zj)(hk:N[k]? =some zk)(lj:sc.names.lookup zj=none)(lk:sc.names.lookup zk=none):
  (((O.set j (some (.ref c))).set k (some (.ref d))).set i (some (.ref p))).length=(O.set i (some (V.ref p))).length/\∀(m:Nat) x,N[m]? =some x->pF sc x->(((O.set j (some (.ref c))).set k (some (.ref d))).set i (some (.ref p)))[m]? =(O.set i (some (V.ref p)))[m]?:=by
 refine⟨by simp only[aeo],λm x hm hv=>?_⟩;have nj:j≠m:=λe=>by
  subst e;rw[hj]at hm;cases hm;rcases hv with z|z|z<;>(rw[lj]at z;cases z)
 have nk:k≠m:=λe=>by
  subst e;rw[hk]at hm;cases hm;rcases hv with z|z|z<;>(rw[lk]at z;cases z)
 by_cases e:i=m
 .subst e;by_cases hl:i<O.length
  .rw[ace (by simpa using hl),ace hl]
  .rw[acI (by simpa using hl),acI (by simpa using hl)]
 .rw[abF e,abF e,abF nk,abF nj]
end
section
variable {X:Cx}
def JY{x y:Int}(hx:0<=x)(hy:0<=y):Builtin.bitOr x y=((x.toNat ||| y.toNat:Nat):Int):=by
 rw[bitOr_and,bitAnd_pp hx hy];have:=nat_or_add_and x.toNat y.toNat;lia
def zJ:List D->Option U:=xM (λi j=>decide (0<=i) && decide (0<=j)) λi j=>.int ((i.toNat ||| j.toNat:Nat):Int)
def yr:Bo X (binaryOp .BitOr) zJ:=pG XW (λi j H Q c q=>⟨i,j,rfl,rfl,by
 simp only[abS,ab5]at c;show Q (.int (Builtin.bitOr i j)) H;rw[JY c.1 c.2];exact q⟩) λ_ _=>rfl
def qw:List D->Option U:=xM (λi j=>decide (0<=i) && decide (0<=j)) λi j=>.int ((i.toNat &&& j.toNat:Nat):Int)
def qx:Bo X (binaryOp .BitAnd) qw:=pG TU (λi j H Q c q=>⟨i,j,rfl,rfl,by
 simp only[abS,ab5]at c;show Q (.int (Builtin.bitAnd i j)) H;rw[bitAnd_pp c.1 c.2];exact q⟩) λ_ _=>rfl
def Gm:List D->Option U:=xM (λi j=>decide (i=1) && (decide (0<=j) && decide (j<=100000))) λi j=>.int ((2 ^ j.toNat:Nat):Int)
def CJ:Bo X (binaryOp .LShift) Gm:=pG TQ (λi j H Q c q=>by
 simp only[abS,ab5]at c;obtain⟨rfl,c1,c2⟩:=c;refine⟨1,j,rfl,rfl,⟨c1,by lia,by decide⟩,?_⟩;show Q (.int (1*2 ^ j.toNat)) H;rw[Int.one_mul,two_pow_cast];exact q) λ_ _=>rfl
def Mt:List D->Option U:=xM (λi j=>decide (0<=i) && (decide (0<=j))) λi j=>.int ((i.toNat / 2 ^ j.toNat:Nat):Int)
def HF:Bo X (binaryOp .RShift) Mt:=pG TR (λi j H Q c q=>by
 simp only[abS,ab5]at c;refine⟨i,j,rfl,rfl,c.2,?_⟩;have e:i / 2 ^ j.toNat=((i.toNat / 2 ^ j.toNat:Nat):Int):=by
  obtain⟨n,rfl⟩:=af1 c.1;rw[two_pow_cast];rfl
 show Q (.int (i / 2 ^ j.toNat)) H;rw[e];exact q) λ_ _=>rfl
end
end L2
end
section
namespace L2
open PySem.Calls PyProof.V
open PySem.W (KasT kas_asc kas_desc kas_tail3 kas_descPart kas_count kas_place kas_bin kas_sort kas_rev kas_item kas_st kas_cmp kas_runs kasC)
variable {p:Array Nat}{r:Nat}
section
variable {α β:Type}{n:Nat}
noncomputable def jF(Dz:Nat->Nat->Bool):KasT α->α
 |.ret a=>a
 |.ask i j k=>jF Dz (k (Dz i j))
def BD(n:Nat)(R:α->Prop):KasT α->Prop
 |.ret a=>R a
 |.ask i j k=>i<n/\j<n/\∀b,BD n R (k b)
theorem BD.go{R:α->Prop}{Dz:Nat->Nat->Bool}:∀{t:KasT α},BD n R t->R (jF Dz t)
 |.ret _,h=>h
 |.ask i j k,h=>BD.go (t:=k (Dz i j)) (h.2.2 _)
theorem BD.bind{R:α->Prop}{R':β->Prop}{f:α->KasT β}(hf:∀a,R a->BD n R' (f a)):∀{t:KasT α},BD n R t->BD n R' (t.bind f)
 |.ret a,h=>hf a h
 |.ask i j k,h=>⟨h.1,h.2.1,λb=>BD.bind hf (t:=k b) (h.2.2 b)⟩
theorem Mu{cmp:Nat->Nat->(Bool->Shared->Prop)->Shared->Prop}{Dz:Nat->Nat->Bool}{R:α->Prop}{G:α->Shared->Prop}(hc:∀i j C s,i<n->j<n->C (Dz i j) s->cmp i j C s):∀{t:KasT α}{s:Shared},BD n R t->G (jF Dz t) s->t.kasWp cmp G s
 |.ret _,_,_,g=>g
 |.ask i j k,s,h,g=>hc i j _ s h.1 h.2.1 (Mu hc (t:=k (Dz i j)) (h.2.2 _) g)
def eU(n:Nat)(p:Array Nat):Prop:=p.toList.Perm (List.range n)
def eU.lt(h:eU n p)(hn:0<n)(i:Nat):p.getD i 0<n:=by
 by_cases hi:i<p.size
 .have e:p.getD i 0=p[i]:=by simp[Array.getD,hi]
  rw[e];have:p[i]∈p.toList:=by simp
  exact abY.mp (h.mem_iff.mp this)
 .have e:p.getD i 0=0:=by simp[Array.getD,hi]
  rw[e];exact hn
def eU.rev(h:eU n p)(i j:Nat):eU n (kas_rev p i j):=(agy.mp (mirror_perm p i j _)).trans h
def eU.bub(h:eU n p)(i j:Nat):eU n (bubble p i j):=(agy.mp (bubble_perm p i j)).trans h
theorem Mv{p:Array Nat}(h:eU n p)(hn:0<n):∀(f m:Nat),BD n (λ_=>True) (kas_asc p f m)
 |0,_=>trivial
 |f+1,m=>⟨h.lt hn _,h.lt hn _,λb=>by
   cases b
   .exact Mv h hn f (m+1)
   .trivial⟩
theorem CK(hn:0<n):∀(f:Nat)(p:Array Nat)(m q:Nat),eU n p->BD n (λr:Array Nat×Nat×Nat=>eU n r.1) (kas_desc f p m q)
 |0,p,m,q,h=>h
 |f+1,p,m,q,h=>⟨h.lt hn _,h.lt hn _,λb=>by
   cases b
   .refine⟨h.lt hn _,h.lt hn _,λd=>?_⟩;cases d
    .exact CK hn f p _ _ h
    .exact h
   .show BD n _ (if q > 0 then _ else _);split
    .exact CK hn f _ _ _ (h.rev _ _)
    .exact CK hn f p _ _ h⟩
def HG(hn:0<n){m:Nat}(h:eU n p):BD n (λr:Nat×Array Nat=>eU n r.2) (kas_tail3 m r p):=(Mv (h.rev 0 m) hn (r-m) m).bind (R':=λr:Nat×Array Nat=>eU n r.2) (f:=λq=>.ret (q,kas_rev p 0 m)) λ_ _=>h.rev 0 m
def zK(hn:0<n){m:Nat}(h:eU n p):BD n (λr:Nat×Array Nat=>eU n r.2) (kas_descPart m r p):=(CK hn _ p _ _ h).bind λa ha=>by
 split
 .exact HG hn (ha.rev _ _)
 .exact HG hn ha
def PM(hn:0<n)(h:eU n p):BD n (λr:Nat×Array Nat=>eU n r.2) (kas_count r p):=(Mv h hn _ _).bind λm _=>by
 split
 .exact h
 .split
  .refine⟨h.lt hn _,h.lt hn _,λb=>?_⟩;cases b
   .exact zK hn (h.rev _ _)
   .exact h
  .exact zK hn h
theorem CL(hn:0<n){p:Array Nat}(h:eU n p)(k:Nat):∀(f l r:Nat),BD n (λ_=>True) (kas_place p k f l r)
 |0,_,_=>trivial
 |f+1,l,r=>by
  unfold kas_place;split
  .trivial
  .refine⟨h.lt hn _,h.lt hn _,λb=>?_⟩;cases b
   .exact CL hn h k f _ _
   .exact CL hn h k f _ _
theorem R8(hn:0<n):∀(f:Nat)(p:Array Nat)(k:Nat),eU n p->BD n (eU n) (kas_bin f p k)
 |0,p,k,h=>h
 |f+1,p,k,h=>(CL hn h k _ _ _).bind λl _=>R8 hn f _ _ (h.bub _ _)
def wc(hn:0<n):BD n (eU n) (kas_sort n):=(PM hn (p:=(List.range n).toArray) (by show((List.range n).toArray).toList.Perm _;simp)).bind λa ha=>by
 split
 .exact R8 hn _ _ _ ha
 .exact ha
end
def kY(ks:BBJ):BBJ:=if ks.length<2 then List.range ks.length else(jF (λi j=>decide (ks.getD i 0<ks.getD j 0)) (kas_sort ks.length)).toList
def iO(ks:BBJ):(kY ks).Perm (List.range ks.length):=by
 unfold kY;split
 .exact aeK _
 .exact(wc a_).go
section
variable {prog:Program}{w:World}{A:Around}{E:AAE}{s:Shared}{a kS:Addr}{vs:AAL}{ks:BBJ}{keys:AAK}{e e1:Nat}{P:PySem.Fin->Shared->Prop}{g0:Heap}
def BF{st:SortSt}{out:AAL}(hk0:∀b o,g0.get? b=some o->s.heap.get? b=some o)(ga:g0.get? a=none)(gk:g0.get? kS=none)(nk:s.heap.get? kS=some (seqObj "list" keys e))(na:s.heap.get? a=some (seqObj "list" #[] e1))(hka:kS≠a)(hks:keys.size<64)(Y0:out.length<64)
  (hst:(arrOf st).map (·.2)=out.toArray)(hfl:failedOf st=none)
  (h:∀h' c,(∀b o,g0.get? b=some o->h'.get? b=some o)->h'.get? a=some (seqObj "list" out.toArray c)->P (.done (.ret .none)) {s with heap:=h'}):wpAny g_ A (ksk_tail a false e1 (.ref kS) st) P E s:=by
 have s1:=acU s.heap kS (Obj.mapSeq λ_=>(#[]:AAK));have Zr:(s.heap.update kS (Obj.mapSeq λ_=>(#[]:AAK))).get? a=some (seqObj "list" #[] e1):=(s1.2 a hka.symm).trans na;have s2:=acU (s.heap.update kS (Obj.mapSeq λ_=>(#[]:AAK))) a (Obj.mapSeq λ_=>(arrOf st).map (·.2));unfold ksk_tail
 try dsimp only
 refine aam (afC nk rfl ?_ (by rw[acT];lia) (abK _));refine aam (wpAny_letGo ?_);refine aam (seqEpoch_at Zr rfl ?_);refine aam (afC Zr rfl ?_ (abK _) (by show((arrOf st).map (·.2)).size<=_;rw[hst,aaQ,acT];lia));rw[hfl];simp only[bne_self_eq_false,aeO,aeW];refine wpAny_pure (h _ _ (λb o z=>?_) (by rw[<-hst];exact afF Zr λ_=>(arrOf st).map (·.2)));have nb1:b≠kS:=λq=>by rw[q,gk]at z;cases z
 have nb2:b≠a:=λq=>by rw[q,ga]at z;cases z
 exact(s2.2 b nb2).trans ((s1.2 b nb1).trans (hk0 b o z))
theorem Ew:∀{xs:AAL}{ns:BBD},IntsAre xs ns->∀{i:Nat}{n:Int},ns[i]? =some n->∃t,xs[i]? =some (Value.int n t)
 |_,_,.nil,_,_,h=>by cases h
 |_,_,.cons n t r,0,_,h=>by cases h;exact⟨t,rfl⟩
 |_,_,.cons n t r,i+1,_,h=>Ew r (i:=i) h
def BG(keys:AAK)(vs:AAL)(h:keys.size=vs.length):((List.range vs.length).toArray.map (kas_item (keys.zip vs.toArray)))=keys.zip vs.toArray:=by
 apply afe;intro i;have hz:(keys.zip vs.toArray).size=vs.length:=by rw[Array.size_zip,h,aaQ,Nat.min_self]
 by_cases hi:i<vs.length
 .have hi2:i<(keys.zip vs.toArray).size:=by rw[hz];exact hi
  rw[abH hi2];simp[hi,kas_item,Array.getD];lia
 .rw[Array.getElem?_eq_none (xs:=keys.zip vs.toArray) (by rw[hz];lia)];simp;lia
def Mw(hk0:∀b o,g0.get? b=some o->s.heap.get? b=some o)(ga:g0.get? a=none)(gk:g0.get? kS=none)(nk:s.heap.get? kS=some (seqObj "list" keys e))(na:s.heap.get? a=some (seqObj "list" #[] e1))(hka:kS≠a)
  (hk:IntsAre keys.toList (ks.map λ(k:Nat)=>(k:Int)))(hlen:ks.length=vs.length)(h64:vs.length<64)
  (h:∀h' c,(∀b o,g0.get? b=some o->h'.get? b=some o)->h'.get? a=some (seqObj "list" ((kY ks).map λi=>vs.getD i Value.none).toArray c)->P (.done (.ret .none)) {s with heap:=h'}):
  wpAny g_ A (ksk_end a false vs.toArray e1 (.ref kS) keys) P E s:=by
 have hsz:keys.size=vs.length:=by
  have h1:=hk.length;rw[abM,aar]at h1;lia
 have ol:(kY ks).length=vs.length:=by rw[(iO ks).length_eq,abW,hlen]
 unfold ksk_end
 try dsimp only
 simp only[aeO,aeW];by_cases h2:vs.toArray.size<2
 .rw[if_pos h2,if_pos h2];refine aam (wpAny_pure ?_);rw[StateT.run_pure];refine aam (wpAny_pure ?_)
  try dsimp only
  refine BF (out:=(kY ks).map λi=>vs.getD i Value.none) hk0 ga gk nk na hka a_ (by rw[aar,ol];exact h64) ?_ rfl h;have e0:kY ks=List.range vs.length:=by unfold kY;rw[if_pos (by rw[hlen];simpa using h2),hlen]
  rw[e0];show(keys.zip vs.toArray).map (·.2)=_;apply afe;intro i;by_cases hi:i<vs.length
  .simp[hi,hsz]
  .simp[hi,hsz]
 .rw[if_neg h2,if_neg h2];rw[aaQ]at h2;rw[ksk_kind hk (by rw[hsz];lia)];refine aam (wpAny_pure ?_);have hrun:=kas_runs (prog:=prog) (w:=w) (A:=A) (E:=E) (κ:=oneType') (it:=keys.zip vs.toArray) (n:=vs.length) (s:=s) (Q:=λ_ st' s'=>s'=s/\arrOf st'=(jF (λi j=>decide (ks.getD i 0<ks.getD j 0)) (kas_sort vs.length)).map (kas_item (keys.zip vs.toArray))/\failedOf st'=none)
   (G:=λp' s'=>s'=s/\p'=jF (λi j=>decide (ks.getD i 0<ks.getD j 0)) (kas_sort vs.length)) a_ h64 (λp' st' s' _ a1 a2 a3=>⟨a3.1,by rw[<-a3.2];exact a1,a2⟩)
   (Mu (n:=vs.length) (R:=eU vs.length) (λi j C s' hi hj hC=>by
    have item:∀i,i<vs.length->∃t v,kas_item (keys.zip vs.toArray) i=(Value.int (ks.getD i 0) t,v):=λi hi=>by
     have hik:i<keys.toList.length:=by rw[abM,hsz];exact hi
     obtain⟨t,ht⟩:∃t,keys.toList[i]? =some (Value.int (ks.getD i 0) t):=by
      exact Ew hk (by rw[abI,abC,aaS (by rw[hlen];exact hi)];rfl)
     have hi2:i<(keys.zip vs.toArray).size:=by rw[Array.size_zip,hsz,aaQ,Nat.min_self];exact hi
     have hk2:i<keys.size:=by rw[hsz];exact hi
     refine⟨t,vs[i],?_⟩;unfold kas_item;have e1:keys[i]=Value.int (ks.getD i 0) t:=by
      rw[ad9,abH hk2]at ht;exact abT ht
     have e2:(keys.zip vs.toArray).getD i (Value.none,Value.none)=(keys.zip vs.toArray)[i]:=by unfold Array.getD;rw[dif_pos hi2];rfl
     rw[e2];simp[e1]
    obtain⟨t1,v1,q1⟩:=item i hi;obtain⟨t2,v2,q2⟩:=item j hj;unfold kas_cmp;rw[q1,q2,keyLt'_oneType];refine oneLt_int ?_;have:decide (((ks.getD i 0:Nat):Int)<((ks.getD j 0:Nat):Int))=decide (ks.getD i 0<ks.getD j 0):=by simp
    rw[this];exact hC) (wc a_) ⟨rfl,rfl⟩)
  have e0:kas_st oneType' (keys.zip vs.toArray) (List.range vs.length).toArray=SortSt.mk' oneType' (keys.zip vs.toArray) #[] 7 none:=by
   unfold kas_st;rw[BG keys vs hsz]
  rw[e0]at hrun;refine aam (ab3 hrun ?_ λ_ _ e=>e);rintro⟨⟨⟩,st'⟩ s' ⟨rfl,ha,hf⟩
  try dsimp only
  refine BF (out:=(kY ks).map λi=>vs.getD i Value.none) hk0 ga gk nk na hka a_ (by rw[aar,ol];exact h64) ?_ hf h;have e1:kY ks=(jF (λi j=>decide (ks.getD i 0<ks.getD j 0)) (kas_sort vs.length)).toList:=by unfold kY;rw[if_neg a_,hlen]
  rw[ha,e1];have good:eU vs.length (jF (λi j=>decide (ks.getD i 0<ks.getD j 0)) (kas_sort vs.length)):=(wc a_).go;generalize jF (λi j=>decide (ks.getD i 0<ks.getD j 0)) (kas_sort vs.length)=p at *;apply afe;intro i;by_cases hi:i<p.size
  .have hpi:p[i]<vs.length:=abY.mp (good.mem_iff.mp (by simp));simp[hi,kas_item,Array.getD,hpi,hsz]
  .simp[hi]
end
section
variable {prog:Program}{w:World}{A:Around}{E:AAE}{s:Shared}{a kS l:Addr}{vs:AAL}{ks:BBJ}{e1:Nat}{P:PySem.Fin->Shared->Prop}{g0:Heap}
def CM(g:Heap)(vs:AAL)(ks:BBJ):Prop:=∀(i:Nat) v k,vs[i]? =some v->ks[i]? =some k->∃c its,v= .ref c/\g.IsList c its/\its.size=k/\(k:Int)<2 ^ 63
def JZ(hk0:∀b o,g0.get? b=some o->s.heap.get? b=some o)(ga:g0.get? a=none)(gk:g0.get? kS=none)(nk:s.heap.get? kS=some (seqObj "list" #[] 0))(na:s.heap.get? a=some (seqObj "list" #[] e1))(hka:kS≠a)(hlen:ks.length=vs.length)(h64:vs.length<64)(hv:CM g0 vs ks)
  (h:∀h' tk c,(∀b o,g0.get? b=some o->h'.get? b=some o)->h'.get? a=some (seqObj "list" ((kY ks).map λi=>vs.getD i Value.none).toArray c)->P (.done (.ret .none)) {s with heap:=h',toks:=tk}):
  wpAny g_ A (ksk_rest a (.builtin "len") false vs.toArray e1 (.ref kS)) P E s:=by
 unfold ksk_rest;refine aam (afw ?_)
 first
  |rw[List.forIn_toArray]
  |(rw[<-afM];simp only[List.toList_toArray])
  |rw[<-afM]
 refine aam (ksk_fold (λi s'=>∃h' tk kA e,s'={s with heap:=h',toks:=tk}/\(∀b o,g0.get? b=some o->h'.get? b=some o)/\h'.get? kS=some (seqObj "list" kA e)/\h'.get? a=some (seqObj "list" #[] e1)/\IntsAre kA.toList ((ks.take i).map λ(k:Nat)=>(k:Int))) vs 0 s
  ⟨s.heap,s.toks,#[],0,rfl,hk0,nk,na,by simpa using IntsAre.nil⟩ ?step ?done)
 case step=>
  rintro j x s' hx ⟨h',tk,kA,e,rfl,k1,k2,k3,hk⟩;simp only[agN]at hk ⊢;have hj:j<vs.length:=(abv.mp hx).1;obtain⟨k,hkj⟩:∃k,ks[j]? =some k:=⟨_,aaS a_⟩
  obtain⟨c,its,rfl,hl,hz,hf⟩:=hv j x k hx hkj;have hz2:kA.size<=vs.length:=by
   have h1:=hk.length;rw[abM,aar,aea]at h1;lia
  obtain⟨o,ho,hc⟩:=hl;refine aam (wpAny_attempt (call_len_list (s:={s with heap:=h',toks:=tk}) (items:=its) ⟨o,k1 c o ho,hc⟩ (by rw[hz];exact hf) ?_))
  try dsimp only
  have s1:=acU h' kS (Obj.mapSeq (·.push (.int (its.size:Int) (tk+1))));obtain⟨c2,hc2⟩:∃c2,(h'.update kS (Obj.mapSeq (·.push (.int (its.size:Int) (tk+1))))).get? kS=some (seqObj "list" (kA.push (.int (its.size:Int) (tk+1))) c2):=⟨_,afF k2 (·.push (.int (its.size:Int) (tk+1)))⟩
  have ek:(ks.take (j+1)).map (λ(k:Nat)=>(k:Int))=(ks.take j).map (λ(k:Nat)=>(k:Int))++[(its.size:Int)]:=by rw[List.take_add_one,hkj,hz];simp
  have ea:(kA.push (Value.int (its.size:Int) (tk+1))).toList=kA.toList++[Value.int (its.size:Int) (tk+1)]:=by simp
  refine aam (afC k2 rfl ?_ (by rw[acT];lia) (aaY (agK (Array.size_push ..)) (by rw[acT];lia)));refine wpAny_pure ⟨rfl,_,_,kA.push (.int (its.size:Int) (tk+1)),c2,rfl,λb o z=>?_,hc2,(s1.2 a hka.symm).trans k3,by rw[ea,ek];exact ksk_snoc hk⟩;exact(s1.2 b (λq=>by rw[q,gk]at z;cases z)).trans (k1 b o z)
 case done=>
  rintro s' ⟨h',tk,kA,e,rfl,k1,k2,k3,hk⟩;have hk':IntsAre kA.toList (ks.map λ(k:Nat)=>(k:Int)):=by
   have e3:ks.take (0+vs.length)=ks:=aef a_;rw[e3]at hk;exact hk
  try dsimp only
  refine aam (acR k2 rfl ?_);exact Mw k1 ga gk k2 k3 hka hk' hlen h64 λh3 c a1 a2=>h h3 tk c a1 a2
def J0{n:Nat}(ho:s.heap.get? a=some (seqObj "list" vs.toArray n))(hk0:∀b o,g0.get? b=some o->s.heap.get? b=some o)(ga:g0.get? a=none)(hg:g0.objs.size<=c_)(hlen:ks.length=vs.length)(h64:vs.length<64)(hv:CM g0 vs ks)
  (h:∀h' tk c,(∀b o,g0.get? b=some o->h'.get? b=some o)->h'.get? a=some (seqObj "list" ((kY ks).map λi=>vs.getD i Value.none).toArray c)->P (.done (.ret .none)) {s with heap:=h',toks:=tk}):
  wpAny g_ A (ksk_tree a (.builtin "len") false) P E s:=by
 have ha:a<c_:=aaX ho;have s1:=acU s.heap a (Obj.mapSeq λ_=>(#[]:AAK));obtain⟨e1,Mb⟩:∃e1,(s.heap.update a (Obj.mapSeq λ_=>(#[]:AAK))).get? a=some (seqObj "list" #[] e1):=⟨_,afF ho λ_=>#[]⟩
 have hkS:((s.heap.update a (Obj.mapSeq λ_=>(#[]:AAK))).push (seqObj "tuple" vs.toArray 0)).objs.size=c_+1:=by rw[size_push',agO]
 unfold ksk_tree;refine aam (acR ho rfl ?_);refine aam (afC ho rfl ?_ (by rw[aaQ,acT];lia) (abK _));refine aam (seqEpoch_at Mb rfl ?_);refine aam (wpAny_newTuple ?_ (by show vs.length<=_;rw[acT];lia));refine aam (agb ?_ (abK _));refine acK ?_;refine JZ (s:={s with heap:=((s.heap.update a (Obj.mapSeq λ_=>(#[]:AAK))).push (seqObj "tuple" vs.toArray 0)).push (seqObj "list" #[] 0)}) (kS:=((s.heap.update a (Obj.mapSeq λ_=>(#[]:AAK))).push (seqObj "tuple" vs.toArray 0)).objs.size)
  (λb o z=>?_) ga (afv (by rw[hkS];lia)) (aaZ _ rfl) (aaE _ (aaE _ Mb)) (by rw[hkS];exact agJ (aeI ha)) hlen h64 hv h
 exact aaE _ (aaE _ ((s1.2 b (λq=>by rw[q,ga]at z;cases z)).trans (hk0 b o z)))
def PN{Q:AAE}(hl:s.heap.IsList l vs.toArray)(hlen:ks.length=vs.length)(h64:vs.length<64)(hv:CM s.heap vs ks)
  (h:∀D h' tk c,c_<=D->(∀b o,s.heap.get? b=some o->h'.get? b=some o)->h'.get? D=some (seqObj "list" ((kY ks).map λi=>vs.getD i Value.none).toArray c)->Q (.ref D) {s with heap:=h',toks:=tk}):
  wpAny g_ A (call (.builtin "sorted") [.ref l] [(Str.ofString "key",.builtin "len")]) Q E s:=by
 refine call_function_entry_kw kind_sorted plain_sorted entry_sorted (ksk_s1 _ _) ?_;unfold Builtin.«sorted»
 refine aam (m:=checkCount "sorted" 1 1 _) (wpAny_pure ?_);refine aam (collect_list hl ?_ (by rw[acT];lia));refine aam (agb ?_ (by rw[acT];lia));have hsz:((s.heap.push (seqObj "list" #[] 0)).update c_ (Obj.mapSeq (· ++vs.toArray))).objs.size=c_+1:=by
  rw[agO,size_push']
 have KU:(((s.heap.push (seqObj "list" #[] 0)).update c_ (Obj.mapSeq (· ++vs.toArray))).push (seqObj "list" vs.toArray 0)).get? (c_+1)=some (seqObj "list" vs.toArray 0):=by
  rw[<-hsz];exact aaZ _ rfl
 have keep:∀b o,s.heap.get? b=some o->(((s.heap.push (seqObj "list" #[] 0)).update c_ (Obj.mapSeq (· ++vs.toArray))).push (seqObj "list" vs.toArray 0)).get? b=some o:=λb o q=>by
  have hlt:b<c_:=aaX q;rw[af5 _ _ _ (by rw[hsz];exact aa1 (aeI hlt)),Heap.get?_update_ne _ _ _ _ (aa1 hlt),af5 _ _ _ (aa1 hlt)];exact q
 have fr:s.heap.get? (c_+1)=none:=afv (aeM _);show wpAny _ _ _ _ _ {s with heap:=((s.heap.push (seqObj "list" #[] 0)).update s.heap.objs.size (Obj.mapSeq (· ++vs.toArray))).push (seqObj "list" vs.toArray 0)};rw[hsz];refine aam (acK (wpAny_call_entry_kw slot_list_sort ⟨_,KU,rfl⟩ entry_list_sort ?body (ksk_l1 _ _)))
 case body=>
  show wpAny g_ A.in1.in1 (Builtin.«list.sort» ⟨[.ref (c_+1)],[(Str.ofString "key",.builtin "len")]⟩) _ _ _;rw[ksk_t4];refine J0 (g0:=s.heap) (s:={s with heap:=((s.heap.push (seqObj "list" #[] 0)).update s.heap.objs.size (Obj.mapSeq (· ++vs.toArray))).push (seqObj "list" vs.toArray 0)}) KU keep fr (by rw[size_push',hsz];lia) hlen h64 hv λh' tk c a1 a2=>⟨_,rfl,?_⟩
  exact wpAny_pure ⟨_,rfl,h _ h' tk c (aeM _) a1 a2⟩
end
noncomputable def sA:List D->Option (BBJ)
 |[]=>some []
 |.lst xs::ds=>(sA ds).map λks=>xs.length::ks
 |_=>none
def oB(ks:BBJ)(ds:List D):List D:=(kY ks).map λi=>ds.getD i .cI
def zL:List D->Option U
 |[.lst ds]=>(sA ds).bind λks=>if ds.length<64 then some (.m (.lst (oB ks ds))) else none
 |_=>none
def Gn{d:D}{u:U}(h:zL [d]=some u):∃ds ks,d= .lst ds/\sA ds=some ks/\ds.length<64/\u= .m (.lst (oB ks ds)):=by
 cases d with
 |lst ds=>
  obtain⟨ks,h1,h2⟩:=aj (show(sA ds).bind _=some u from h);obtain⟨h3,h4⟩:=cV h2;exact⟨ds,ks,rfl,h1,h3,h4.symm⟩
 |_=>cases h
theorem BH:∀{ds:List D}{ks:BBJ},sA ds=some ks->ks.length=ds.length
 |[],ks,h=>by cases h;rfl
 |d::ds,ks,h=>by
  cases d with
  |lst xs=>
   obtain⟨r,h1,h2⟩:=aA (show(sA ds).map _=some ks from h);subst h2;rw[abD,abD,BH h1]
  |_=>cases h
theorem HH{F:Hp}:∀{xs:List V}{ds:List D}{ks:BBJ},bC F xs ds->sA ds=some ks->∀(i:Nat) x k,xs[i]? =some x->ks[i]? =some k->∃a ys,x= .ref a/\Rd F a (.lst ys)/\ys.length=k
 |_,_,_,.nil,h,i,x,k,h1,_=>by cases h1
 |_,_,ks,@bC.cons _ v d vs ds r rs,h,i,x,k,h1,h2=>by
  cases d with
  |lst es=>
   obtain⟨q,g1,g2⟩:=aA (show(sA ds).map _=some ks from h);subst g2;cases i with
   |zero=>
    cases h1;cases h2;cases r with
    |lst e rr=>exact⟨_,_,rfl,e,rr.length⟩
   |succ i=>exact HH rs g1 i x k h1 h2
  |_=>cases h
section
variable {X:Cx}{a:Expr}{pos p p2 kp:Pos}{ga:GD}
theorem we{F:Hp}{xs:List V}{ds:List D}(r:bC F xs ds):∀is:BBJ,(∀i∈is,i<ds.length)->bC F (is.map λi=>xs.getD i .cI) (is.map λi=>ds.getD i .cI)
 |[],_=>.nil
 |i::is,h=>by
  have hi:=h i aaT;obtain⟨v,h1,h2⟩:=r.get (aaS hi);refine .cons ?_ (we r is λj hj=>h j (aaR _ hj));dsimp only;rw[abC,abC,h1,aaS hi];exact h2
theorem wg{xs:List V}{us:AAL}(r:Vals xs us):∀is:BBJ,(∀i∈is,i<xs.length)->Vals (is.map λi=>xs.getD i .cI) (is.map λi=>us.getD i Value.none)
 |[],_=>.nil
 |i::is,h=>by
  have hi:=h i aaT;obtain⟨v,h1,h2⟩:=r.get (aaS hi);refine .cons ?_ (wg r is λj hj=>h j (aaR _ hj));dsimp only;rw[abC,abC,h1,aaS hi];exact h2
def Gp(Za:Gl X "sorted")(hm1:X.mg "sorted" =none)(YL:Gl X "len")(hm2:X.mg "len" =none)(ha:JD X a ga)(hs2:starEach [a] X.env=(false,eval a X.env)::starEach [] X.env:=by rfl):
  JE X (.Call (.Name "sorted" p) [a] [⟨some (Str.ofString "key"),.Name "len" p2,kp⟩] pos) (eP zL (ah ga aB)):=⟨λB=>by
 rintro pins s O H Q I ⟨S,F,u,S',R,hg,q⟩;obtain⟨⟨dl,S1⟩,h1,hg⟩:=aj hg;obtain⟨w',h2,hg⟩:=aA hg;cases hg;obtain⟨⟨d,S2⟩,h3,h1⟩:=aj h1;obtain⟨⟨dr,S3⟩,h4,h1⟩:=aA h1;cases h4;cases h1;obtain⟨ds,ks,rfl,hks,h64,rfl⟩:=Gn h2;have kl:=BH hks;refine ac9 (mz I Za hm1 afS ?_ b_ b_);refine callWith_kw (ez (dN (ha.h B) iI hs2 pos pins s O H (λvs H1=>∃v F1,vs=[v]/\Rel X.K B S2 O F1 H1/\Step S S2 O F H F1 H1/\Rep F1 v (.lst ds)) I ⟨S,F,_,S2,R,h3,λv F1 H1 R1 st1 r1=>⟨v,F1,rfl,R1,st1,r1⟩⟩) ?_) (by rw[hs2];rfl) (by rw[hs2];rfl);rintro us s1 ⟨vs,H1,I1,r1,v,F1,rfl,R1,st1,rd⟩;obtain⟨u',rfl,ru⟩:=vals1 r1;refine kws_cons (mz I1 YL hm2 agq ?_ b_ b_);refine kws_nil ?_;obtain⟨a',vs',rfl,fa,hla,rB⟩:=R1.sub.gO rd;cases ru;obtain⟨its,rv,pl,hz⟩:=I1.list (.inl hla);have xl:=rB.length;have il:its.length=vs'.length:=rv.length.symm;refine PN (ks:=ks) (vs:=its) pl.isList a_ a_ (λi v k hi hk=>?_) λD h' tk c hD hk hat=>?_
 .obtain⟨x,g1,g2⟩:=kT rv hi;obtain⟨a2,ys,rfl,e1,e2⟩:=HH rB hks i x k g1 hk;obtain⟨z2,its2,n2,rv2,hl2,ho2⟩:=Rd.FO I1 (e1.imp (R1.sub _ _) λ⟨o,h⟩=>⟨o,R1.sub _ _ h⟩);cases g2;refine⟨a2,its2.toArray,rfl,⟨_,ho2,rfl,n2,rfl⟩,by rw[aaQ,<-hl2,e2],?_⟩;have:ys.length<=2 ^ 40:=aaY z2 b_;lia
 .have ol:∀i∈kY ks,i<ds.length:=λi hi=>by rw[<-kl];exact abY.mp ((iO ks).mem_iff.mp hi)
  have hp:H1 D=none:=I1.hok.fresh hD;have n1:=jm.obj (F:=F1) hp (.lst ((kY ks).map λi=>vs'.getD i .cI));have s4:=R1.sub.same n1.same;have Zb:((kY ks).map λi=>vs'.getD i V.cI).length<=sizeLine:=by
   rw[aar,(iO ks).length_eq,abW,kl];exact aaY (acz h64) b_
  have hvv:=wg rv (kY ks) λi hi=>by rw[xl];exact ol i hi
  exact⟨.ref D,_,I1.laid (a:=D) (o:=.lst ((kY ks).map λi=>vs'.getD i V.cI)) (h':=h') (t':=tk) hk hD ⟨Zb,_,c,hvv,hat⟩,rfl,
   q _ F1 _ (R1.new n1 s4) (st1.trans n1.step) (uD.FW (u:=.m (.lst (oB ks ds))) R1 st1 ⟨_,rfl,hp,R1.sub.fresh hp,_,aR,we rB (kY ks) ol⟩)⟩⟩
end
end L2
end
section
namespace L2
variable {S:SS}{i k:Nat}{kvs:List (Str×(D ⊕ Addr))}{K:AAD}{B:Base}{O:St}{H:Hp}{ds:List D}{Q:VK}{N bL:BBB}{scope:Scope}{elt:Expr}{cl:List (Str×Addr)}{cap:BBJ}{g:GD}{q:GT}
noncomputable def iH(C:Addr)(S:SS)(i:Nat):Option (List (Str×(D ⊕ Addr))):=match S[i]? with
 |some (some (.m (.Fi C' kvs)))=>if C'=C then some kvs else none
 |some (some (.b (.Fi C' kvs)))=>if C'=C then some kvs else none
 |_=>none
def zM{C:Addr}(h:iH C S i=some kvs):∃u,S[i]? =some (some u)/\fj u=true/\RO u=some (.Fi C kvs):=by
 unfold iH at h;split at h
 .rename_i C' kvs' e;obtain⟨hc,hk⟩:=cC h;subst hc;cases hk;exact⟨_,e,rfl,rfl⟩
 .rename_i C' kvs' e;obtain⟨hc,hk⟩:=cC h;subst hc;cases hk;exact⟨_,e,rfl,rfl⟩
 .cases h
theorem wj{F:Hp}{f:Str}{y:D ⊕ Addr}:∀{ws:List (Str×V)}{kvs:List (Str×(D ⊕ Addr))},Paired (Jl F) ws kvs->kvs.lookup f=some y->∃v,ws.lookup f=some v/\Jk F v y
 |_,_,.nil,h=>by cases h
 |_,_,@Paired.cons _ _ _ (k,v) (k',d') ws kvs r rs,h=>by
  obtain⟨e,r⟩:=r;have e:k=k':=e;subst e;rw[acF]at h ⊢;split at h
  .cases h;exact⟨v,rfl,r⟩
  .exact wj rs h
theorem BI{F:Hp}{f:Str}:∀{ws:List (Str×V)}{kvs:List (Str×(D ⊕ Addr))},Paired (Jl F) ws kvs->kvs.lookup f=none->ws.lookup f=none
 |_,_,.nil,h=>rfl
 |_,_,@Paired.cons _ _ _ (k,v) (k',d') ws kvs r rs,h=>by
  obtain⟨e,r⟩:=r;have e:k=k':=e;subst e;rw[acF]at h ⊢;split at h
  .cases h
  .exact BI rs h
noncomputable def Ex(f:Str)(y:D ⊕ Addr):List (Str×(D ⊕ Addr))->List (Str×(D ⊕ Addr))
 |[]=>[(f,y)]
 |(g,x)::r=>if g=f then(g,y)::r else(g,x)::Ex f y r
theorem BJ{F:Hp}{f:Str}{v:V}{y:D ⊕ Addr}(r:Jk F v y):∀{ws:List (Str×V)}{kvs:List (Str×(D ⊕ Addr))},Paired (Jl F) ws kvs->Paired (Jl F) (nX f v ws) (Ex f y kvs)
 |_,_,.nil=>.cons ⟨rfl,r⟩ .nil
 |_,_,@Paired.cons _ _ _ (k,v') (k',d') ws kvs q qs=>by
  obtain⟨e,q⟩:=q;have e:k=k':=e;subst e;unfold nX Ex;split
  .exact .cons ⟨rfl,r⟩ qs
  .exact .cons ⟨rfl,q⟩ (BJ r qs)
def yt{F:Hp}{C:Addr}(R:Rel K B S O F H)(h:iH C S i=some kvs):∃a ws dx,O[i]? =some (some (.ref a))/\H a=some (.ins C dx ws)/\Paired (Jl F) ws kvs:=by
 obtain⟨u,hS,hm,hi⟩:=zM h;obtain⟨v,e,r⟩:=R.rep i u hS;obtain⟨a,o,rfl,_,e2,h⟩:=r.cL hm;rw[hi]at e2;cases e2;obtain⟨ws,⟨dx,h1⟩,h2⟩:=h;exact⟨a,ws,dx,e,h1,h2⟩
noncomputable def BK(S:SS)(j:Nat)(c:Addr):Option (List D):=match S[j]? with
 |some (some (.m (.lat c' ds)))=>if c'=c then some ds else none
 |some (some (.b (.lat c' ds)))=>if c'=c then some ds else none
 |_=>none
noncomputable def xw(S:SS)(j:Nat)(c:Addr):Option (List (D×D)):=match S[j]? with
 |some (some (.m (.gF c' ds)))=>if c'=c then some ds else none
 |some (some (.b (.gF c' ds)))=>if c'=c then some ds else none
 |_=>none
section
variable {K:AAD}{B:Base}{S:SS}{O:St}{F H:Hp}{j:Nat}{c:Addr}
def Ey(R:Rel K B S O F H)(h:BK S j c=some ds):O[j]? =some (some (.ref c))/\∃vs,H c=some (.lst vs)/\bC F vs ds:=by
 unfold BK at h;split at h
 .rename_i c' ds' e;obtain⟨hc,hk⟩:=cC h;subst hc;cases hk;obtain⟨v,k1,a,rfl,f,vs,⟨rfl,k2⟩,k3⟩:=R.rep j _ e;exact⟨k1,vs,k2,k3⟩
 .rename_i c' ds' e;obtain⟨hc,hk⟩:=cC h;subst hc;cases hk;obtain⟨v,k1,a,rfl,f,vs,⟨rfl,k2⟩,k3⟩:=R.rep j _ e;exact⟨k1,vs,k2,k3⟩
 .cases h
def zN{kvs:List (D×D)}(R:Rel K B S O F H)(h:xw S j c=some kvs):O[j]? =some (some (.ref c))/\∃ws,H c=some (.dT ws)/\Paired (gw F) ws kvs:=by
 unfold xw at h;split at h
 .rename_i c' ds' e;obtain⟨hc,hk⟩:=cC h;subst hc;cases hk;obtain⟨v,k1,a,rfl,f,vs,⟨rfl,k2⟩,k3⟩:=R.rep j _ e;exact⟨k1,vs,k2,k3⟩
 .rename_i c' ds' e;obtain⟨hc,hk⟩:=cC h;subst hc;cases hk;obtain⟨v,k1,a,rfl,f,vs,⟨rfl,k2⟩,k3⟩:=R.rep j _ e;exact⟨k1,vs,k2,k3⟩
 .cases h
end
def zO(C:Addr)(S:SS)(i:Nat)(f:Str):BBN:=(iH C S i).bind λkvs=>(kvs.lookup f).bind Sum.getRight?
def zP(C:Addr)(i:Nat)(f:Str):GD:=λS=>(iH C S i).bind λkvs=>(kvs.lookup f).bind λy=>y.getLeft?.map λd=>(d,S)
def Mx(C:Addr)(i:Nat)(f:Str)(g:GD):GS:=λS=>(g S).bind λp=>(iH C p.2 i).bind λkvs=>if kvs.length<900 then(vP p.2 i λ_=>some (.cI,.Fi C (Ex f (.inl p.1) kvs))).map λz=>.nx z.2 else none
def HJ(C:Addr)(i:Nat)(f:Str)(j:Nat):GD:=λS=>(zO C S i f).bind λc=>(BK S j c).map λds=>(.int ds.length,S)
def J1(n:Bool)(C:Addr)(i:Nat)(f:Str)(j:Nat)(gk:GD):GD:=λS=>(gk S).bind λp=>(zO C p.2 i f).bind λc=>(xw p.2 j c).bind λkvs=>(LX p.1).map λkk=>(.bl (n != (bW kvs kk).isSome),p.2)
def My(C:Addr)(i:Nat)(f:Str)(j:Nat)(gk:GD):GD:=λS=>(zO C S i f).bind λc=>(gk S).bind λp=>(xw p.2 j c).bind λkvs=>(LX p.1).bind λkk=>(bW kvs kk).map λd=>(d,p.2)
def Zs(c:Addr)(k d:D):MO->Option (D×MO)
 |.gF c' kvs=>if c'=c/\kvs.length<100000 then(LX k).map λkk=>(.cI,.gF c (putD kvs kk d)) else none
 |_=>none
def Mz(C:Addr)(i:Nat)(f:Str)(j:Nat)(gk gv:GD):GS:=λS=>(gv S).bind λp=>(zO C p.2 i f).bind λc=>(gk p.2).bind λr=>(xw r.2 j c).bind λ_=>(vP r.2 j (Zs c r.1 p.1)).map λz=>.nx z.2
def MA(C:Addr)(i:Nat)(f:Str)(j:Nat)(h:List D->MO->Option (D×MO))(gA:GA):GD:=λS=>(zO C S i f).bind λc=>if HE S j c then(gA S).bind λp=>vP p.2 j (Zq c h p.1) else none
section
variable {X:Cx}{C:Addr}{e value k:Expr}{es:BBC}{x name:Str}{id:String}{px p pos pos' apos spos cpos:Pos}{f:Str}{i:Nat}{g gk gv:GD}{gA:GA}
def rL{F:Hp}{c:Addr}(R:Rel X.K B S O F H)(h:zO C S i f=some c):∃a ws dx,O[i]? =some (some (.ref a))/\H a=some (.ins C dx ws)/\ws.lookup f=some (.ref c):=by
 obtain⟨kvs,h1,h⟩:=aj h;obtain⟨y,h2,h⟩:=aj h;obtain⟨a,ws,dx,e1,e2,e3⟩:=yt R h1;obtain⟨v,l1,r1⟩:=wj e3 h2;cases y with
 |inl d=>cases h
 |inr c'=>cases h;exact⟨a,ws,dx,e1,e2,by rw[l1];exact congrArg some r1⟩
def CN(i:Nat)(c:A8 X.K C)(na:fB X.K C f)(hN:X.N[i]? =some x:=by rfl)(hv:pF X.env.scope x:=by trivial)
  (hd:BBT x:=by decide)(hcd:BBU x:=by decide)(hb:attributeBase e_ f X.env (eval e_ X.env)=eval e_ X.env:=by rfl):JD X (.Attribute e_ f pos) (zP C i f):=
 ⟨λB=>(sP (cA hN hv hd hcd) hb).imp λO H Q hh=>by
 obtain⟨S,F,d,S',R,hg,q⟩:=hh;obtain⟨kvs,h1,hg⟩:=aj hg;obtain⟨y,h2,hg⟩:=aj hg;obtain⟨d',h3,hg⟩:=aA hg;cases hg;obtain⟨a,ws,dx,e1,e2,e3⟩:=yt R h1;obtain⟨v,l1,r1⟩:=wj e3 h2;cases y with
 |inr c=>cases h3
 |inl d0=>cases h3;exact⟨.ref a,e1,a,C,dx,ws,v,rfl,e2,c,na,l1,q v F H R (Step.refl ..) r1⟩⟩
def PR(i:Nat)(c:A8 X.K C)(na:fB X.K C f)(hval:JD X value g)(hN:X.N[i]? =some x:=by rfl)(hv:pF X.env.scope x:=by trivial)
  (hd:BBT x:=by decide)(hcd:BBU x:=by decide)(hs:swapsWith value (some (.Attribute e_ f pos')) pos.line X.env=pure false:=by rfl):
  JS X (.Assign [.Attribute e_ f pos'] value pos) (Mx C i f g):=⟨λB=>(Cb (cA hN hv hd hcd) (hval.h B) hs).imp λD O H hh=>by
 obtain⟨S,F,o,R,hg,q⟩:=hh;obtain⟨⟨d,S1⟩,h1,hg⟩:=aj hg;obtain⟨kvs,h2,hg⟩:=aj hg;obtain⟨hl,hg⟩:=cC hg;obtain⟨⟨dd,S2⟩,h3,hg⟩:=aA hg;subst hg;refine⟨S,F,d,S1,R,h1,λv F1 H1 R1 st1 r1=>?_⟩;obtain⟨a,ws,dx,e1,e2,e3⟩:=yt R1 h2;obtain⟨u,u',o,o',hS,LP,hio,hf,Og,rfl⟩:=m5 h3;cases hf;obtain⟨R3,st3⟩:=R1.write (ho:=.ins C dx (nX f v ws)) hS Og e1 ⟨_,⟨dx,aR⟩,BJ (y:=.inl d) r1 e3⟩;exact⟨.ref a,e1,a,C,dx,ws,rfl,e2,c,na,by rw[gz e3];lia,q O F1 _ R3 st1.ext.le⟩⟩
def HK(i j:Nat)(c:A8 X.K C)(na:fB X.K C f)(hg:Gl X "len")(hm:X.mg "len" =none)(hN:X.N[i]? =some x:=by rfl)(hv:pF X.env.scope x:=by trivial)
  (hd:BBT x:=by decide)(hcd:BBU x:=by decide)(hb:attributeBase e_ f X.env (eval e_ X.env)=eval e_ X.env:=by rfl)
  (he:starEach [.Attribute e_ f apos] X.env=(false,eval (.Attribute e_ f apos) X.env)::starEach [] X.env:=by rfl)(hpl:(backTo pos (starEach [] X.env)).any (·.1)=false:=by rfl):
  JD X (.Call (.Name "len" p) [.Attribute e_ f apos] [] pos) (HJ C i f j):=⟨λB=>(qd nZ hg hm agq (dN (sP (cA hN hv hd hcd) hb) iI he) b_ b_ he hpl).imp λO H Q hh=>by
 obtain⟨S,F,d,S',R,hg',q⟩:=hh;obtain⟨cc,h1,hg'⟩:=aj hg';obtain⟨ds,h2,hg'⟩:=aA hg';cases hg';obtain⟨a,ws,dx,e1,e2,e3⟩:=rL R h1;obtain⟨_,vs,e4,e5⟩:=Ey R h2;exact⟨.ref a,e1,a,C,dx,ws,_,rfl,e2,c,na,e3,cc,vs,rfl,.inl (mX.of e4),by rw[e5.length];exact q _ F H R (Step.refl ..) (.int _)⟩⟩
def PU{n:Bool}{j:Nat}(c:A8 X.K C)(na:fB X.K C f)(h:tD X.K B (J1 n C i f j gk) O H Q):tD X.K B gk O H λy H1=>X4 X.K (DN i) f O H1 λx H2=>∃a o,x= .ref a/\pP H2 a y o/\Q (.bl (n != o.isSome)) H2:=by
 obtain⟨S,F,d,S',R,hg,q⟩:=h;obtain⟨⟨d1,S1⟩,h1,hg⟩:=aj hg;obtain⟨cc,h2,hg⟩:=aj hg;obtain⟨kvs,h3,hg⟩:=aj hg;obtain⟨kk,h4,hg⟩:=aA hg;cases hg;refine⟨S,F,d1,_,R,h1,λv F1 H1 R1 st1 r1=>?_⟩;obtain⟨a,ws,dx,e1,e2,e3⟩:=rL R1 h2;obtain⟨_,vs,e4,e5⟩:=zN R1 h3;obtain⟨b,rfl,hb⟩:=zf R1.sub r1 h4;refine⟨.ref a,e1,a,C,dx,ws,_,rfl,e2,c,na,e3,cc,_,rfl,pP.t e4 hb,?_⟩;rw[L3 e5 kk];exact q (.bl _) F1 H1 R1 st1 (.bl _)
def J2(i j:Nat)(c:A8 X.K C)(na:fB X.K C f)(hu:X.A.units+20<cLine)(hk:JD X k gk)(hN:X.N[i]? =some x:=by rfl)(hv:pF X.env.scope x:=by trivial)(hd:BBT x:=by decide)(hcd:BBU x:=by decide)
  (hb:attributeBase e_ f X.env (eval e_ X.env)=eval e_ X.env:=by rfl)(hm:behindInMarks .NotIn (.Attribute e_ f apos)=false:=by with_unfolding_all rfl):
  JT X (.Compare k [.NotIn] [.Attribute e_ f apos] pos) (qB (J1 true C i f j gk)):=⟨λB=>(S6 (Je hu (hk.h B) (sP (cA hN hv hd hcd) hb)) hm).imp λO H Q hh=>by
 obtain⟨S,F,kk,S',R,hg,q⟩:=hh;have h:tD X.K B (J1 true C i f j gk) O H (λv H'=>∃d,v= .bl d/\Q d H'):=⟨S,F,.bl kk,S',R,lR hg,λv F' H' R' st r=>⟨kk,n8 r,q F' H' R' st⟩⟩
 have h2:=PU c na h
 simpa[tB,G6] using h2⟩
def PV(i j:Nat)(c:A8 X.K C)(na:fB X.K C f)(hu:X.A.units+20<cLine)(hk:JD X k gk)(hs:nY k:=by first|(intro _ _;rfl))(hN:X.N[i]? =some x:=by rfl)(hv:pF X.env.scope x:=by trivial)
  (hd:BBT x:=by decide)(hcd:BBU x:=by decide)(hb:attributeBase e_ f X.env (eval e_ X.env)=eval e_ X.env:=by rfl):JD X (.Subscript (.Attribute e_ f apos) k pos) (My C i f j gk):=
 ⟨λB=>(Ce hu (sP (cA hN hv hd hcd) hb) (hk.h B) hs).imp λO H Q hh=>by
 obtain⟨S,F,d,S',R,hg,q⟩:=hh;obtain⟨cc,h1,hg⟩:=aj hg;obtain⟨⟨d1,S1⟩,h2,hg⟩:=aj hg;obtain⟨kvs,h3,hg⟩:=aj hg;obtain⟨kk,h4,hg⟩:=aj hg;obtain⟨d2,h5,hg⟩:=aA hg;cases hg;obtain⟨a,ws,dx,e1,e2,e3⟩:=rL R h1;refine⟨.ref a,e1,a,C,dx,ws,_,rfl,e2,c,na,e3,S,F,d1,_,R,h2,λv F1 H1 R1 st1 r1=>?_⟩;obtain⟨_,vs,e4,e5⟩:=zN R1 h3;obtain⟨w',z1,z2⟩:=kI e5 h5;obtain⟨b',rfl,hb'⟩:=zf R1.sub r1 h4;exact⟨cc,w',rfl,by rw[<-z1];exact pP.t e4 hb',q w' F1 H1 R1 st1 z2⟩⟩
def PX(i j:Nat)(c:A8 X.K C)(na:fB X.K C f)(hu:X.A.units+20<cLine)(hk:JD X k gk)(hval:JD X value gv)(hN:X.N[i]? =some x:=by rfl)(hv:pF X.env.scope x:=by trivial)
  (hd:BBT x:=by decide)(hcd:BBU x:=by decide)(hb:attributeBase e_ f X.env (eval e_ X.env)=eval e_ X.env:=by rfl)
  (hs:swapsWith value (some (.Subscript (.Attribute e_ f apos) k pos')) pos.line X.env=pure false:=by rfl):
  JS X (.Assign [.Subscript (.Attribute e_ f apos) k pos'] value pos) (Mz C i f j gk gv):=⟨λB=>(G7 hu (sP (cA hN hv hd hcd) hb) (hk.h B) (hval.h B) hs).imp λD O H hh=>by
 obtain⟨S,F,o,R,hg,q⟩:=hh;obtain⟨⟨d,S1⟩,h1,hg⟩:=aj hg;obtain⟨cc,h2,hg⟩:=aj hg;obtain⟨⟨kd,S2⟩,h3,hg⟩:=aj hg;obtain⟨kvs,h4,hg⟩:=aj hg;obtain⟨⟨nd,S3⟩,h5,hg⟩:=aA hg;subst hg;obtain⟨u,u',mo,mo',hS,LP,hio,hf,Og,rfl⟩:=m5 h5;refine⟨S,F,d,S1,R,h1,λv F1 H1 R1 st1 r1=>?_⟩;obtain⟨a,ws,dx,e1,e2,e3⟩:=rL R1 h2;refine⟨.ref a,e1,a,C,dx,ws,_,rfl,e2,c,na,e3,S1,F1,kd,S2,R1,h3,λy F2 H2 R2 st2 r2=>?_⟩;obtain⟨hv0,_⟩:=zN R2 h4;obtain⟨v',k1,k2⟩:=R2.rep j u hS;rw[hv0]at k1;cases k1;obtain⟨a2,o2,e6,fa,eo,k3⟩:=k2.cL LP;cases e6;rw[hio]at eo;cases eo;cases mo with
 |gF c' kvs'=>
  obtain⟨⟨rfl,hl⟩,hf⟩:=cC hf;obtain⟨kk,e7,hf⟩:=aA hf;cases hf;obtain⟨ws',⟨_,ha⟩,pr⟩:=k3;obtain⟨b',rfl,hb'⟩:=zf R2.sub r2 e7;refine⟨_,_,rfl,DT.t ha hb' (by rw[gz pr];exact aaU hl b_),?_⟩;obtain⟨R3,st3⟩:=R2.write (ho:=.dT (putK ws' kk v)) hS Og hv0 ⟨_,⟨rfl,aR⟩,ze pr (r1.le st2.ext.le)⟩;exact q O F2 _ R3 λb o z=>st2.ext.le b o (st1.ext.le b o z)
 |_=>cases hf⟩
def PY(i j:Nat)(c:A8 X.K C)(na:fB X.K C f){r:V->List V->Hp->VK->Prop}{h:List D->MO->Option (D×MO)}(slot:Slot "list" name id)(hty:typeOf (.builtin id)=pure (.type "method_descriptor"))(hm:MtR X id r)(hh:MtP r h)(ha:JA X (e::es) gA)
  (hN:X.N[i]? =some x:=by rfl)(hv:pF X.env.scope x:=by trivial)(hb:attributeBase e_ f X.env (eval e_ X.env)=eval e_ X.env:=by rfl)
  (hbase:attributeBase (.Attribute e_ f spos) name X.env (eval (.Attribute e_ f spos) X.env)=eval (.Attribute e_ f spos) X.env:=by rfl)
  (hfew:((backTo cpos (starEach (e::es) X.env)).all (λx=>!x.1) && (backToKw cpos (keywordEach [] X.env)).all (λx=>x.1.isSome)
   && decide ((e::es).length+([]:BBI).length+(if([]:BBI).isEmpty then 0 else 1)<30))=true:=by rfl)
  (hline:(apos.endLine == cpos.line)=true:=by rfl)(hs:starEach (e::es) X.env=(false,eval e X.env)::starEach es X.env:=by rfl)(hplain:(backTo cpos (starEach es X.env)).any (·.1)=false:=by rfl)
  (hd:BBT x:=by decide)(hcd:BBU x:=by decide):
  JD X (.Call (.Attribute (.Attribute e_ f spos) name apos) (e::es) [] cpos) (MA C i f j h gA):=
 ⟨λB=>(RG agY slot hty hm (sP (cA hN hv hd hcd) hb) (ha.h B) hbase hfew hline hs hplain).imp λO H Q hq=>by
 obtain⟨S,F,d,S',R,hg,q⟩:=hq;obtain⟨cc,h0,hg⟩:=aj hg;split at hg
 .rename_i hL;obtain⟨⟨args,S1⟩,h1,hg⟩:=aj hg;obtain⟨u,u',o,o',hS,LP,hio,hf,Og,rfl⟩:=m5 hg;obtain⟨a,ws,dx,g1,g2,g3⟩:=rL R h0;obtain⟨l1,vs1,l2⟩:=Mp R hL;refine⟨.ref a,g1,a,C,dx,ws,_,rfl,g2,c,na,g3,⟨rfl,vs1,mX.of l2⟩,S,F,args,S1,R,h1,λxs F1 H1 R1 st1 r1=>?_⟩;cases o with
  |lat c' ds=>
   obtain⟨rfl,hf⟩:=cC hf;cases hx:h args (.lst ds) with
   |none=>rw[hx]at hf;cases hf
   |some p=>
    rw[hx]at hf;obtain⟨d',o2⟩:=p;cases o2 with
    |lst ds'=>
     cases hf;obtain⟨v,k1,k2⟩:=R1.rep j u hS;rw[l1]at k1;cases k1;obtain⟨b',o2,e1,f,e2,k3⟩:=k2.cL LP;cases e1;rw[hio]at e2;cases e2;obtain⟨vs,⟨_,hH1⟩,rs⟩:=k3;refine hh F1 H1 _ vs xs ds args _ _ R1.sub hH1 f rs r1 hx Q λrv ho rr ha=>?_;obtain⟨ws,z1,z2⟩:=ha;obtain⟨R2,st2⟩:=R1.write (ho:=ho) (o:=.lat _ ds') hS Og l1 ⟨ws,⟨rfl,z1⟩,z2⟩;exact q rv F1 _ R2 (st1.trans st2) rr
    |_=>cases hf
  |_=>cases hf
 .cases hg⟩
end
section
variable {P:Program}{w:World}{K:AAD}{mg:AAF}{base:Heap}{C:Addr}{m q x:Str}{st:Stmt}{ps:BBB}{fm:FM}{ng:Nat}
structure pM(P:Program)(w:World)(K:AAD)(mg:AAF)(base:Heap)(n:Nat)(C:Addr)(m:Str)(ps:BBB)(ng:Nat)(fm:FM):Prop where
 ex:∃a d,jC P w K mg base vK n a d ps (PL K ps.length ng fm)/\Binds K d ps []/\Meth K C m a
def AR{g:GS}(D:xP K C m q st)(Sc:bw N ps (aI st))
  (hf:∀us r,fm us=some r->bf N.length g us=some r)
  (hb:∀(f:Addr)(cdv:Value)(A:Around)(outer:BBF)(s:Shared)(H:Hp)(E:XK),dU k (A.deeper (envOfC q (aI st) c_ f cdv))->JB (vI vK P w K mg base N q (aI st) f cdv A outer s H E).K2 (dh st) g)(hn:ps.length+ng<=N.length:=by decide)(hgs:∀x∈(N.drop ps.length).take ng,(aI st).names.lookup x=none:=by decide +kernel)
  (bd:BdM m q st ps:=by trivial):pM P w K mg base (k+1) C m ps ng fm:=by
 obtain⟨f,fd,F,m⟩:=D.ex;exact⟨f,fd,adV F Sc hn hgs (hb f) hf,F.binds bd,m⟩
end
def dc(C:Addr)(m:Str)(i:Nat)(f:FM)(gu:GU)(gh:BBJ):GE:=λS=>(iH C S i).bind λkvs=>if kvs.lookup m=none then bq f (AD (pL i gu) gh) S else none
section
variable {X:Cx}{C:Addr}{e:Expr}{es:BBC}{gu:GU}{x m:Str}{px pos apos:Pos}{fm:FM}{ps:BBB}{k j i:Nat}{gh:BBJ}
def Kz{pl:Sem Bool}(i:Nat)(gh:BBJ)(c:A8 X.K C)(Cl:pM X.prog X.w X.K X.mg X.base j C m ps gh.length fm)(hr:dU k X.A)(ha:JU X (e::es) gu)(hj:j<=k:=by lia)(hn:(e::es).length+1=ps.length:=by rfl)
  (hN:X.N[i]? =some x:=by rfl)(hv:pF X.env.scope x:=by trivial)(hd:BBT x:=by decide)(hcd:BBU x:=by decide)
  (hst:starEach (e::es) X.env=(false,eval e X.env)::starEach es X.env:=by rfl)(hpl:(backTo pos (starEach es X.env)).any (·.1)=false:=by rfl)
  (ht:eval (.Call (.Attribute e_ m apos) (e::es) [] pos) X.env=(do
   let ov <-eval e_ X.env
   standAt apos.atName
   let(f,first) <-holding [ov] (getMethod ov m pl)
   callWith pos f first (backTo pos (starEach (e::es) X.env)) (backToKw pos (keywordEach [] X.env))):=by rfl):
  JE X (.Call (.Attribute e_ m apos) (e::es) [] pos) (dc C m i fm gu gh):=by
 obtain⟨fa,fd,G,hb,hm⟩:=Cl.ex;exact⟨λB=>(OL (pl:=pl) (cA hN hv hd hcd) c hm (G.mono hj) hr hb .nil yM (ha.h B) hst hpl ht).imp λO H Q hh=>by
 obtain⟨S,F0,u,S',R,hg,q⟩:=hh;obtain⟨kvs,h0,hg⟩:=aj hg;obtain⟨hl,hg⟩:=cC hg;obtain⟨⟨us',S1⟩,h1,hg⟩:=aj hg;obtain⟨⟨MB,S1a⟩,h1a,hq⟩:=aA h1;cases hq;obtain⟨⟨us,S1'⟩,Ov,hq⟩:=aA h1a;cases hq;obtain⟨u0,hS,_,_⟩:=zM h0;obtain⟨a,ws,dx,e1,e2,e3⟩:=yt R h0;obtain⟨hc,hg⟩:=cC hg;obtain⟨ws',h2,hg⟩:=aj hg;obtain⟨⟨r,outs⟩,h3,hg⟩:=aj hg;obtain⟨S2,h4,hg⟩:=aA hg;cases hg;refine⟨.ref a,e1,a,dx,ws,rfl,e2,BI e3 hl,S,F0,us,_,R,Ov,λvs F1 H1 R1 st1 JV=>?_⟩;show PL X.K ps.length gh.length fm (.ref a::(vs++[])) H1 Q E0;rw[ad7];have W5:Paired (λv u=>gI X.K B S1' O H F1 H1 v u) (.ref a::vs) (.v i::us):=.cons ⟨e1,st1.slots i u0 hS⟩ JV;exact tu R1 st1 W5 (by show vs.length+1=_;rw[JV.length,ha.len _ _ _ Ov];exact hn) hc h2 h3 h4 q⟩
end
section
variable {X:Cx}{pins:AAG}{O gv:St}{H:Hp}{s:Shared}{gh:BBB}
def Cx.Ok.other(o:X.Ok):{X with N:=N}.Ok:=⟨o.mod,o.kind,o.glob,o.blt,o.above,o.inj,o.has,o.Rv,o.hd,o.frames,o.stk,o.WJ,o.bs,o.Ft,o.B5,o.DJ,o.rU,o.KS,o.tab⟩
def Cx.Ok.back(o:{X with N:=N}.Ok):X.Ok:=⟨o.mod,o.kind,o.glob,o.blt,o.above,o.inj,o.has,o.Rv,o.hd,o.frames,o.stk,o.WJ,o.bs,o.Ft,o.B5,o.DJ,o.rU,o.KS,o.tab⟩
def Inv.wide(I:Inv X pins O H s)(hl:gv.length=gh.length)(hg:∀x∈gh,X.env.scope.names.lookup x=none):Inv {X with N:=X.N++gh} pins (O++gv) H s:=
 ⟨I.ok.other,I.os,I.bare,I.base,let⟨m,a,b⟩:=I.loc;⟨m,a,λi x v h1 h2 h3=>by
  have h1:(X.N++gh)[i]? =some x:=h1;have le:=I.len;by_cases hi:i<X.N.length
  .rw[ab1 hi]at h1;rw[ab1 (by rw[le];exact hi)]at h2;exact b i x v h1 h2 h3
  .rw[aeX (Nat.le_of_not_lt hi)]at h1;have:=hg x (abU h1);rcases h3 with z|z|z<;>(rw[this]at z;cases z)⟩,I.cell,I.free,I.kN,I.pin,I.hok,by show(O++gv).length=(X.N++gh).length;rw[aaW,aaW,hl,I.len]⟩
def Inv.slim(I:Inv {X with N:=X.N++gh} pins (O++gv) H s)(hl:O.length=X.N.length):Inv X pins O H s:=
 ⟨I.ok.back,I.os,I.bare,I.base,let⟨m,a,b⟩:=I.loc;⟨m,a,λi x v h1 h2 h3=>by
  have hi:=(abv.mp h1).1;exact b i x v (by show(X.N++gh)[i]? =_;rw[ab1 hi];exact h1) (by rw[ab1 (by rw[hl];exact hi)];exact h2) h3⟩,I.cell,I.free,I.kN,I.pin,I.hok,hl⟩
def PE.wide{e:Expr}{t:TE}(h:PE {X with N:=X.N++gh} e t)(hg:∀x∈gh,X.env.scope.names.lookup x=none):PE X e (λO H Q=>∃gv:St,gv.length=gh.length/\t (O++gv) H Q):=by
 intro pins s O H Q I ⟨gv,hl,q⟩;have:=h pins s (O++gv) H Q (I.wide hl hg) q;exact ab3 this (λu s' ⟨v,H',I',r,q⟩=>⟨v,H',I'.slim I.len,r,q⟩) λ_ _ e=>e
end
theorem BL{f:Str×NameKind->Str×NameKind}(hf:∀p,(f p).1=p.1){z:Str}:∀{l:List (Str×NameKind)},l.lookup z=none->(l.map f).lookup z=none
 |[],_=>rfl
 |(a,k)::l,h=>by
  rw[acF]at h;split at h
  .cases h
  .rename_i q;rw[acd];have e:=hf (a,k);generalize f (a,k)=p at *;obtain⟨b,k'⟩:=p;cases e;rw[acF,q];exact BL hf h
def CO{env:Env}{z:Str}(h:scope.names.lookup z=none):(relabel scope env).names.lookup z=none:=by
 unfold relabel;exact BL (λp=>by obtain⟨n,k⟩:=p;dsimp only;split<;>rfl) h
def MC{X:Cx}{iter:Expr}{x:Str}{px pos:Pos}{gi:GI}(gh:BBB)(gs:BBJ)(T:dW X x bL cap scope cl)(hc:X.calm=true)(hi:JI X e_ iter gi)
  (he:∀C s H fp,JD (cF X (x::bL++gh) scope cl C s H fp) elt g)(Zt:gs.length=gh.length:=by rfl)(Zu:∀z∈gh,scope.names.lookup z=none:=by decide +kernel)
  (hs:∀x,foldedSetIterable iter X.env x=pure x:=by intro _;rfl):JE X (.ListComp elt [⟨.Name x px,iter,[],0⟩] scope pos) (cM (cap++gs) gi bB g):=⟨λB=>by
 refine(yO (tc:=Uk) (te:=λO H Q=>∃gv:St,gv.length=gh.length/\∃B,tD X.K B g (O++gv) H Q) T hc (hi.h B) (λC s H fp=>Ho) (λC s H fp=>PE.wide (X:=cF X (x::bL) scope cl C s H fp) (t:=λO H Q=>∃B,tD X.K B g O H Q) (λpins s' O H' Q I ⟨B',z⟩=>(he C s H fp).h B' pins s' O H' Q I z) (λz hz=>CO (Zu z hz))) hs).imp λO H Q h=>?_;obtain⟨S,F,ds,S1,R,hg,q⟩:=yV h;refine⟨S,F,ds,S1,R,hg,λJ F1 H1 R1 st1 w=>?_⟩;obtain⟨W,w0,w1⟩:=q J F1 H1 R1 st1 w;refine⟨W,w0,λi m ys H' hW=>?_⟩;obtain⟨l,r⟩:=w1 i m ys H' hW;refine⟨l,r.imp (λz=>z) λ⟨go,y⟩=>⟨go,λxv H3 hy=>?_⟩⟩;obtain⟨B',S2,F2,b,S3,R2,hq,k⟩:=y xv H3 hy;cases hq;have k2:=k F2 H3 R2 (Step.refl ..);rw[if_pos rfl]at k2;simp only[Uk,↓reduceIte];refine⟨cU gs O,by unfold cU;rw[aar];exact Zt,?_⟩;have e:some xv::cU (cap++gs) O=(some xv::cU cap O)++cU gs O:=by unfold cU;rw[ad8];rfl
 rw[<-e];exact k2⟩
noncomputable def spI(C:Addr):Sp:=λvs H Q _=>∃x dx,vs=[.ref x]/\H x=some (.ins C dx [])/\∀c d H',H c=none->H d=none->c≠d->H' x=some (.ins C dx [("basics",.ref c),("numbers",.ref d),("trues",.int 0)])->H' c=some (.lst [])->H' d=some (.dT [])->(∀b o,H b=some o->b≠x->H' b=some o)->Q .cI H'
structure UZ(P:Program)(w:World)(K:AAD)(mg:AAF)(base:Heap)(n:Nat)(C:Addr):Prop where
 ex:∃a d,jC P w K mg base vK n a d ["self"] (spI C)/\Binds K d ["self"] []/\Meth K C "__init__" a
section
variable {X:Cx}{C:Addr}{p1 p2 p3 p4 p5 p6 p7 p8 p9 pa pb pc:Pos}{kk:Nat}
def R9(C:Addr):TS:=λD O H=>∃x dx,O[0]? =some (some (.ref x))/\H x=some (.ins C dx [])/\∀c d H',H c=none->H d=none->c≠d->H' x=some (.ins C dx [("basics",.ref c),("numbers",.ref d),("trues",.int 0)])->H' c=some (.lst [])->H' d=some (.dT [])->(∀b o,H b=some o->b≠x->H' b=some o)->D.nx O H'
def MD(c:A8 X.K C)(n1:fB X.K C "basics")(n2:fB X.K C "numbers")(n3:fB X.K C "trues")(hN:X.N[0]? =some ("self":Str):=by rfl)(hv:pF X.env.scope ("self":Str):=by trivial)
  (s1:swapsWith (.List [] p3) (some (.Attribute (.Name "self" p1) "basics" p2)) p4.line X.env=pure false:=by rfl)(s2:swapsWith (.Dict [] [] p7) (some (.Attribute (.Name "self" p5) "numbers" p6)) p8.line X.env=pure false:=by rfl)(s3:swapsWith (.Constant (.int 0) kk pb) (some (.Attribute (.Name "self" p9) "trues" pa)) pc.line X.env=pure false:=by rfl):
  vG X [.Assign [.Attribute (.Name "self" p1) "basics" p2] (.List [] p3) p4,.Assign [.Attribute (.Name "self" p5) "numbers" p6] (.Dict [] [] p7) p8,.Assign [.Attribute (.Name "self" p9) "trues" pa] (.Constant (.int 0) kk pb) pc] (R9 C):=by
 refine(qb (Cb (cA hN hv b_ b_) (Lc iI) s1) (qb (Cb (cA hN hv b_ b_) Ln s2) (nW (Cb (cA hN hv b_ b_) (KW (i:=0)) s3)))).imp λD O H hh=>?_;obtain⟨x,dx,hs,hx,q⟩:=hh;refine⟨by show 0<=_;exact abK _,λcc hc=>?_⟩;have U0:x≠cc:=λe=>by rw[<-e,hx]at hc;cases hc
 refine⟨.ref x,hs,x,C,dx,[],rfl,by rw[aO U0];exact hx,c,n1,by decide,?_⟩;intro dd hd;have U1:x≠dd:=λe=>by rw[<-e,aR]at hd;cases hd
 rw[aO (acH U1)]at hd;have Zv:cc≠dd:=λe=>by rw[<-e,aR]at hd;cases hd
 have hd0:H dd=none:=by rw[aO (acH Zv)]at hd;exact hd
 refine⟨.ref x,hs,x,C,dx,_,rfl,by rw[aO U1];exact aR,c,n2,by show 1<1000;decide,?_⟩;refine⟨.ref x,hs,x,C,dx,_,rfl,aR,c,n3,by show 2<1000;decide,?_⟩;refine q cc dd _ hc hd0 Zv aR ?_ ?_ λb o z nb=>?_
 .rw[aO (acH U0),aO (acH U0),aO Zv,aO (acH U0)];exact aR
 .rw[aO (acH U1),aO (acH U1)];exact aR
 .have b1:b≠cc:=λe=>by rw[e,hc]at z;cases z
  have b2:b≠dd:=λe=>by rw[e,hd0]at z;cases z
  rw[aO nb,aO nb,aO b2,aO nb,aO b1];exact z
end
section
variable {P:Program}{w:World}{K:AAD}{mg:AAF}{base:Heap}{C:Addr}{q:Str}{st:Stmt}
def okI(D:xP K C "__init__" q st)(Sc:bw ["self"] ["self"] (aI st))
  (hb:∀(f:Addr)(cdv:Value)(A:Around)(outer:BBF)(s:Shared)(H:Hp)(E:XK),vG (vI vK P w K mg base ["self"] q (aI st) f cdv A outer s H E).K2 (dh st) (R9 C))
  (bd:BdM "__init__" q st ["self"]:=by intro _ _ _ _ _ _ us hl;rcases us with _|⟨_,_|⟨_,_⟩⟩<;>first|rfl|cases hl):UZ P w K mg base (k+1) C:=by
 obtain⟨f,fd,F,m⟩:=D.ex;refine⟨f,fd,F.ok Sc (λvs H Q E ⟨x,dx,e,_⟩=>by rw[e];rfl) λcdv A outer s H vs Q E hr h=>?_,F.binds bd,m⟩;obtain⟨x,dx,rfl,hx,q⟩:=h;exact⟨_,hb f cdv A outer s H E,x,dx,rfl,hx,q⟩
end
def U3(i j k:Nat)(C c d:Addr)(S:SS):Option SS:=
 (qk j (.m (.lat c [])) S).bind λS1=>(qk k (.m (.gF d [])) S1).bind λS2=>qk i (.m (.Fi C [("basics",.inr c),("numbers",.inr d),("trues",.inl (.int 0))])) S2
noncomputable def BN(S:SS)(i:Nat):Bool:=match S[i]? with
 |some (some (.m _))=>true
 |_=>false
def U4(i j k:Nat):Out->Option Out
 |.rt (.t d) S=>if BN S i/\BN S j/\BN S k/\i≠j/\i≠k/\j≠k then some (.rt (.t d) (((S.set i none).set j none).set k none)) else none
 |_=>none
def ME(i j k:Nat)(C:Addr)(gr:GS):GS:=λS=>zI λc d=>(U3 i j k C c d S).bind λS1=>(gr S1).bind (U4 i j k)
def zQ(h:BN S i=true):∃o,S[i]? =some (some (.m o)):=by
 unfold BN at h;split at h
 .rename_i o e;exact⟨o,e⟩
 .cases h
def PZ{j:Nat}{F:Hp}{D:Ends}{o o1:Out}(h:U4 i j k o1=some o)(q:Bm K B F D o):Bm K B F D o1:=by
 cases o1 with
 |rt u S1=>
  cases u with
  |t dd=>
   obtain⟨⟨hi,hj,hk,ij,ik,jk'⟩,h⟩:=cC (show(if _ then some (Out.rt (.t dd) (((S1.set i none).set j none).set k none)) else none)=some o from h);cases h;intro v O' F' H' R le r;obtain⟨oi,ei⟩:=zQ hi;obtain⟨oj,ej⟩:=zQ hj;obtain⟨ok,ek⟩:=zQ hk;have R1:=R.drop ei;have R2:=R1.drop (i:=j) (o:=oj) (by rw[abF ij];exact ej);have R3:=R2.drop (i:=k) (o:=ok) (by rw[abF jk',abF ik];exact ek);exact q v O' F' H' R3 le r
  |_=>cases h
 |_=>cases h
section
variable {X:Cx}{C:Addr}{rest:BBH}{gr:GS}{i:Nat}{x y:Str}{p pos py spos:Pos}{n m:Nat}
def MF(j k:Nat){zj zk:Str}(M:Zp X.K X.mg x C)(I:UZ X.prog X.w X.K X.mg X.base n C)(hr:dU m X.A)(hN:X.N.Nodup)(hy:X.N[i]? =some y)(hx:Loc X.env.scope y)(hb:JB X rest gr)(hn:n+1<=m:=by lia)(hg:Gl X x:=by rfl)
  (hj:X.N[j]? =some zj:=by rfl)(hk:X.N[k]? =some zk:=by rfl)(lj:X.env.scope.names.lookup zj=none:=by rfl)(lk:X.env.scope.names.lookup zk=none:=by rfl)(hdb:BBT x:=by decide)
  (hs:swapsWith (.Call (.Name x p) [] [] pos) (some (.Name y py)) spos.line X.env=pure false:=by rfl)(hf:X.fn y=true\/X.env.scope.names.lookup y=some .local:=by trivial):
  JB X (.Assign [.Name y py] (.Call (.Name x p) [] [] pos) spos::rest) (ME i j k C gr):=by
 obtain⟨fa,fd,G,bd,me⟩:=I.ex;exact⟨λB=>by
 refine(qb (Fw hN hy hx (Lg ⟨M.mks,me.at_,me.fn,M.kp⟩ G (hr.mono hn) hg M.nm bd .nil yM hdb) hs hf) (hb.h B).gh).imp λD O H hh=>?_;obtain⟨S,F,o,R,h,q⟩:=hh;have hall:=Eu h;intro xa dx hx hdx ne;refine⟨xa,dx,rfl,aR,λc d H' hc hd Zv a1 a2 a3 a4=>⟨rfl,?_⟩⟩;have U0:c≠xa:=λe=>by rw[e,aR]at hc;cases hc
 have U1:d≠xa:=λe=>by rw[e,aR]at hd;cases hd
 have old:∀b,b≠xa->upd (upd H dx (.own xa)) xa (.ins C dx []) b=none->H b=none:=λb nb z=>by
  rw[aO nb]at z;by_cases e:b=dx
  .subst e;rw[aR]at z;cases z
  .rw[aO e]at z;exact z
 have hc0:=old c U0 hc;have hd0:=old d U1 hd;have keep:∀b o,H b=some o->H' b=some o:=λb o z=>by
  have b1:b≠xa:=λe=>by rw[e,hx]at z;cases z
  have b2:b≠dx:=λe=>by rw[e,hdx]at z;cases z
  exact a4 b o (by rw[aO b1,aO b2];exact z) b1
 have nw:jm F H F H':=⟨λ_ _ z=>z,keep,λ_ _ _ z=>z⟩
 have R1:=R.new nw (R.sub.same nw.same);have fr:∀a,H a=none->F a=none/\¬cL S O a/\B.H a=none:=λa z=>⟨R.sub.fresh z,λmm=>(by obtain⟨o,ho⟩:=R.has mm;rw[z]at ho;cases ho),none_of R.ext.there z⟩
 have hcd:=hall c d;obtain⟨S4,h4,hcd⟩:=aj hcd;obtain⟨o1,b1,b2⟩:=aj hcd;obtain⟨Sa,ha,h4⟩:=aj h4;obtain⟨Sb,hb',h4⟩:=aj h4;have Ra:=R1.put ha (v:=.ref c) ⟨c,rfl,(fr c hc0).1,⟨[],⟨rfl,a2⟩,.nil⟩,(fr c hc0).2.1,(fr c hc0).2.2⟩;have ea:=(vN ha).1;subst ea;have Rb:=Ra.put hb' (v:=.ref d) ⟨d,rfl,(fr d hd0).1,⟨[],⟨rfl,a3⟩,.nil⟩,λmm=>(v9 mm).elim (acH Zv) (fr d hd0).2.1,(fr d hd0).2.2⟩;have eb:=(vN hb').1;subst eb;have Rc:=Rb.put h4 (v:=.ref xa) ⟨xa,rfl,(fr xa hx).1,⟨_,⟨dx,a1⟩,.cons ⟨rfl,rfl⟩ (.cons ⟨rfl,rfl⟩ (.cons ⟨rfl,.int 0⟩ .nil))⟩,λmm=>(v9 mm).elim (acH U1) λmm=>(v9 mm).elim (acH U0) (fr xa hx).2.1,(fr xa hx).2.2⟩;obtain⟨l,e⟩:=Mr (O:=O) (i:=i) (c:=c) (d:=d) (p:=xa) hj hk lj lk;exact⟨_,l,e,S4,F,o1,Rc,b1,PZ b2 q⟩⟩
end
def Ez(S:SS)(cap:BBJ):Bool:=match dz S cap with
 |some us=>(slotsOf us).isEmpty && cz us == 0
 |none=>false
def wk(i:Nat)(cap:BBJ)(q:GT)(g:GD):GE:=λS=>match S[i]? with
 |some (some (.m (.lst ds)))=>if ds.length<=100000/\Ez S cap=true then(bK cap q g ds S []).map λr=>(.m (.lst r.1),r.2) else none
 |some (some (.b (.lst ds)))=>if ds.length<=100000/\Ez S cap=true then(bK cap q g ds S []).map λr=>(.m (.lst r.1),r.2) else none
 |_=>none
theorem uT{S S':SS}:∀{us ws:List U}{outs:List MO},slotsOf us=[]->cz us=0->bY S us=some ws->wb us outs S=some S'->S'=S
 |[],_,[],_,_,_,h=>by cases h;rfl
 |[],_,_::_,_,_,_,h=>by cases h
 |u::us,ws,outs,h1,h2,h3,h=>by
  obtain⟨w,e1,h3⟩:=aj h3;obtain⟨ws',e2,h3⟩:=aA h3;cases u with
  |t d=>exact uT (us:=us) (outs:=outs) h1 h2 e2 (by cases outs<;>exact h)
  |m o=>exact absurd h2 (Nat.succ_ne_zero _)
  |b o=>cases e1
  |v j=>cases h1
  |s ns=>exact uT (us:=us) (outs:=outs) h1 h2 e2 (by cases outs<;>exact h)
  |f a=>exact uT (us:=us) (outs:=outs) h1 h2 e2 (by cases outs<;>exact h)
def EA{Sf:SS}{F:Hp}{res:List D}{a:Addr}(R:Rel K B S O F H)(hi:O[i]? =some (some (.ref a)))(at':∀F' H',Rel K B S O F' H'->∃vs,H' a=some (.lst vs)/\bC F' vs ds)(hlen:ds.length<=100000)(hct:Ez S cap=true)(h2:bK cap q g ds S []=some (res,Sf))
  (k:∀v F' H',Rel K B Sf O F' H'->Step S Sf O F H F' H'->gI K B Sf O H F' H' v (.m (.lst res))->Q v H'):WL (K6 K (DN i)) cap (λO H Q=>∃B,tQ K B q O H Q) (λO H Q=>∃B,tD K B g O H Q) O H Q:=by
 obtain⟨x,_⟩:∃x:Str,True:=⟨"",trivial⟩
 obtain⟨us,hus,hsl,hfr⟩:∃us,dz S cap=some us/\slotsOf us=[]/\cz us=0:=by
  unfold Ez at hct;split at hct
  .rename_i us e;obtain⟨c1,c2⟩:=abR.mp hct;exact⟨us,e,List.isEmpty_iff.mp c1,eq_of_beq c2⟩
  .cases hct
 obtain⟨vs0,ha0,_⟩:=at' F H R;refine⟨.ref a,hi,a,rfl,⟨vs0,mX.of ha0⟩,?_⟩;refine⟨λj m ys H'=>∃F2 acc,Rel K B S O F2 H'/\Step S S O F H F2 H'/\bC F2 ys acc/\acc.length<=j/\j<=ds.length/\m=ds.length-j/\bK cap q g (ds.drop j) S acc=some (res,Sf),
  ⟨_,F,[],R,Step.refl ..,.nil,aaP _,abK _,rfl,h2⟩,?_⟩
 rintro j m ys H' ⟨F2,acc,R2,st2,ry,hac,hl,rfl,eO⟩;refine⟨by rw[ry.length];exact aeQ (aaY hac (aaY hl hlen)) b_,?_⟩;refine abO λng=>?_;obtain⟨vs,ha,rs⟩:=at' F2 H' R2;by_cases hlt:j<ds.length
 .have hd:ds[j]? =some ds[j]:=aaS hlt;obtain⟨xv,hx,rx⟩:=rs.get hd;rw[acs hlt]at eO;refine ng (.inr ⟨⟨vs,xv,mX.of ha,hx⟩,λxv' H3 y=>?_⟩);refine abO λng=>?_;obtain⟨rfl,y2⟩:=y;have e0:=y2 vs (mX.of ha);rw[hx]at e0;cases e0;obtain⟨us',e1,eO⟩:=aj eO;rw[hus]at e1;cases e1;split at eO
  .rename_i hnd;obtain⟨ws,e2,eO⟩:=aj eO;obtain⟨⟨bk,T1⟩,e3,eO⟩:=aj eO;obtain⟨cvs,k1,k2⟩:=Cy R2 hus;have rr:Paired (λv u=>gI K B S O H3 F2 H3 v u) (xv::cvs) (.t ds[j]::us):=.cons rx k2;have er:=uJ R2 ds[j] e2;have ar:=rE R2 rr er;have nd:=dF R2 rr er hnd.1 hnd.2;have R3:=rG (n:=ws.length+1) R2.sub ar nd (List.replicate (ws.length+1) x) (by simp);have hvl:cvs.length=ws.length:=by have:=ar.length;simpa using this
   have es:start (List.replicate (ws.length+1) x) (xv::cvs)=some xv::cU cap O:=by
    unfold start;rw[k1];simp[hvl]
   have eS:(U.t ds[j]::ws).map some++List.replicate (ws.length+1-(U.t ds[j]::ws).length) none=some (U.t ds[j])::ws.map some:=by simp
   rw[es,eS]at R3;have back:∀(T2:SS)(F3 H4:Hp)(outs:List MO)(S3:SS),Rel K ⟨lent (xv::cvs) (U.t ds[j]::ws),F2,H3⟩ T2 (some xv::cU cap O) F3 H4->bN (U.t ds[j]::ws) T2=some outs->wb us outs S=some S3->S3=S/\Rel K B S3 O F3 H4/\Step S S3 O F H F3 H4/\(∀b o,F2 b=some o->F3 b=some o):=λT2 F3 H4 outs S3 RT ho hw=>by
    have po:=post_of ar T2 _ F3 H4 outs RT ho;obtain⟨Ra,AM,_⟩:=kR (S0:=S) (F0:=F2) (H0:=H3) R2 (Step.refl ..) rr er (show wb (U.t ds[j]::us) outs S=some S3 by cases outs<;>exact hw) hnd.1 po;exact⟨uT hsl hfr e2 hw,Ra,st2.trans AM,AM.ext.le⟩
   refine ng (⟨_,_,F2,bk,T1,R3,e3,λF3 H4 RS YD=>?_⟩);cases bk with
   |true=>
    obtain⟨⟨yd,T2⟩,e4,eO⟩:=aj (show(g T1).bind _=_ from eO);obtain⟨outs,e5,eO⟩:=aj eO;obtain⟨S3,e6,U5⟩:=aj eO;refine Cn ⟨_,T1,F3,yd,T2,RS,e4,λyv F4 H5 YE YF YG=>?_⟩;obtain⟨rfl,Ra,AM,F9⟩:=back T2 F4 H5 outs S3 YE e5 e6;exact⟨ds.length-(j+1),by lia,F4,acc++[yd],Ra,AM,(ry.le F9).append (.cons YG .nil),by simp;lia,hlt,rfl,U5⟩
   |false=>
    obtain⟨outs,e5,eO⟩:=aj (show(bN (U.t ds[j]::ws) T1).bind _=_ from eO);obtain⟨S3,e6,U5⟩:=aj eO;obtain⟨rfl,Ra,AM,F9⟩:=back T1 F3 H4 outs S3 RS e5 e6;exact Cm ⟨ds.length-(j+1),by lia,F3,acc,Ra,AM,ry.le F9,by lia,hlt,rfl,U5⟩
  .cases eO
 .have e:j=ds.length:=by lia
  subst e;rw[age]at eO;cases eO;refine ng (.inl ⟨⟨vs,mX.of ha,by rw[rs.length];exact aaP _⟩,λp hp=>?_⟩);have n:=jm.obj (F:=F2) hp (.lst ys);refine k (.ref p) F2 _ (R2.new n (R2.sub.same n.same)) (st2.trans n.step) ⟨p,rfl,none_of st2.ext.there hp,R2.sub.fresh hp,⟨ys,aR,ry⟩,λm=>?_,none_of R2.ext.there hp⟩;obtain⟨o,ho⟩:=R2.has m;rw[hp]at ho;cases ho
def J3(h:tE K B (wk i cap q g) O H Q):WL (K6 K (DN i)) cap (λO H Q=>∃B,tQ K B q O H Q) (λO H Q=>∃B,tD K B g O H Q) O H Q:=by
 obtain⟨S,F,u,S',R,hg,k⟩:=h;unfold wk at hg;split at hg
 .rename_i ds e;obtain⟨⟨hlen,hct⟩,hg⟩:=cC hg;obtain⟨⟨res,Sf⟩,h2,hg⟩:=aA hg;cases hg;obtain⟨v,e1,a,rfl,_⟩:=R.rep i _ e;exact EA R e1 (λF' H' R'=>by
   obtain⟨v',e2,a',rfl,_,r⟩:=R'.rep i _ e;rw[e1]at e2;cases e2;exact r) hlen hct h2 k
 .rename_i ds e;obtain⟨⟨hlen,hct⟩,hg⟩:=cC hg;obtain⟨⟨res,Sf⟩,h2,hg⟩:=aA hg;cases hg;obtain⟨v,e1,a,rfl,_⟩:=R.rep i _ e;exact EA R e1 (λF' H' R'=>by
   obtain⟨v',e2,a',rfl,_,r⟩:=R'.rep i _ e;rw[e1]at e2;cases e2;exact r) hlen hct h2 k
 .cases hg
def MG{X:Cx}{ifs:BBC}{x y:Str}{px py pos:Pos}(i:Nat)(T:dW X x bL cap scope cl)(hc:X.calm=true)
  (ht:∀C s H fp,Uw (cF X (x::bL) scope cl C s H fp) ifs q)(he:∀C s H fp,JD (cF X (x::bL) scope cl C s H fp) elt g)
  (hN:X.N[i]? =some y:=by rfl)(hv:pF X.env.scope y:=by trivial)(hd:BBT y:=by decide)(hcd:BBU y:=by decide)
  (hs:∀x,foldedSetIterable (.Name y py) X.env x=pure x:=by intro _;rfl):JE X (.ListComp elt [⟨.Name x px,.Name y py,ifs,0⟩] scope pos) (wk i cap q g):=⟨λB=>by
 exact(yO (tc:=λO H Q=>∃B,tQ X.K B q O H Q) (te:=λO H Q=>∃B,tD X.K B g O H Q) T hc (B8 (cA hN hv hd hcd)) (λC s H fp pins s' O H' Q I ⟨B',z⟩=>(ht C s H fp).h B' pins s' O H' Q I z) (λC s H fp pins s' O H' Q I ⟨B',z⟩=>(he C s H fp).h B' pins s' O H' Q I z) hs).imp λO H Q h=>J3 h⟩
def EB(ge:GE)(gk:GD):GD:=λS=>(ge S).bind λp=>match p.1 with
 |.m (.dct kvs)=>(gk p.2).bind λr=>(keyOf r.1).bind λkk=>(bW kvs kk).map λd=>(d,r.2)
 |_=>none
section
variable {X:Cx}{e k:Expr}{pos:Pos}{ge:GE}{gk:GD}
def P0(hu:X.A.units+20<cLine)(he:JE X e ge)(hk:JD X k gk)(hs:nY k:=by first|(intro _ _;rfl)):JD X (.Subscript e k pos) (EB ge gk):=
 ⟨λB=>(Ce hu (he.h B) (hk.h B) hs).imp λO H Q hh=>by
 obtain⟨S,F,d,S',R,hg,q⟩:=hh;obtain⟨⟨u,S1⟩,h1,hg⟩:=aj hg;dsimp only at hg;split at hg
 .rename_i kvs;obtain⟨⟨d1,S2⟩,h2,hg⟩:=aj hg;obtain⟨kk,h3,hg⟩:=aj hg;obtain⟨d2,h4,hg⟩:=aA hg;cases hg;refine⟨S,F,_,S1,R,h1,λv F1 H1 R1 st1 r1=>⟨S1,F1,d1,_,R1,h2,λy F2 H2 R2 st2 r2=>?_⟩⟩;obtain⟨a,rfl,_,_,⟨ws,ha,pr⟩,_,_⟩:=r1.step st2;obtain⟨w',z1,z2⟩:=kI pr h4;exact⟨a,w',rfl,by rw[<-z1];exact pP.ky ha (rK r2 h3),q w' F2 H2 R2 (st1.trans st2) z2⟩
 .cases hg⟩
end
def CP(f:FM)(g:GD)(i:Nat):GD:=λS=>(g S).bind λp=>match p.2[i]? with
 |some (some u)=>(look u).bind λd=>match f [.t p.1,.t d] with
  |some (.t e,[])=>if jD e=true then some (e,p.2) else none
  |_=>none
 |_=>none
def MH{F:Hp}{u:U}{d d1:D}{v:V}(R:Rel K B S O F H)(h:S[i]? =some (some u))(hl:look u=some d)(r1:Rep F v d1):∃w F1,O[i]? =some (some w)/\Sub F1 H/\Rep F1 w d/\Rep F1 v d1:=by
 obtain⟨w,hv,r⟩:=R.rep i u h;unfold look at hl;split at hl
 .cases hl;exact⟨_,F,hv,R.sub,r,r1⟩
 .cases hl;obtain⟨a,rfl,fa,vs,ha,rs⟩:=r;exact⟨_,upd F a (.lst vs),hv,R.sub.fy ha,.lst (.inl aR) (rs.le (iK fa)),r1.le (iK fa)⟩
 .cases hl;obtain⟨a,rfl,fa,vs,ha,rs⟩:=r;exact⟨_,upd F a (.lst vs),hv,R.sub.fy ha,.lst (.inl aR) (rs.le (iK fa)),r1.le (iK fa)⟩
 .cases hl
section
variable {X:Cx}{e:Expr}{g:GD}{x y:Str}{p px pos:Pos}{ps:BBB}{k j:Nat}{fm:FM}
def jlk(i:Nat)(c:xu X.prog X.w X.K X.mg X.base j x ps fm)(hr:dU k X.A)(he:JD X e g)(hj:j<=k:=by lia)(hg:Gl X x:=by rfl)(hn:ps.length=2:=by rfl)
  (hN:X.N[i]? =some y:=by rfl)(hv:pF X.env.scope y:=by trivial)(hd:BBT y:=by decide)(hcd:BBU y:=by decide)
  (hdb:BBT x:=by decide)(h1:starEach [e,.Name y px] X.env=(false,eval e X.env)::starEach [.Name y px] X.env:=by rfl)(h2:starEach [.Name y px] X.env=(false,eval (.Name y px) X.env)::starEach [] X.env:=by rfl)(hpl:(backTo pos (starEach [.Name y px] X.env)).any (·.1)=false:=by rfl):
  JD X (.Call (.Name x p) [e,.Name y px] [] pos) (CP fm g i):=by
 obtain⟨a,d,G,b,kp,m⟩:=c.ex;exact⟨λB=>(uA (G.mono hj) hr hg m kp b .nil yM (dN (he.h B) (dN (cA hN hv hd hcd) iI h2) h1) hdb h1 hpl).imp λO H Q hh=>by
 obtain⟨S,F,d0,S',R,hg',q⟩:=hh;obtain⟨⟨d1,S1⟩,e1,hg'⟩:=aj hg';dsimp only at hg';split at hg'
 .rename_i u hS;obtain⟨dl,e2,hg'⟩:=aj hg';split at hg'
  .rename_i e' he';obtain⟨hfl,hg'⟩:=cV hg';cases hg';refine⟨S,F,d1,_,R,e1,λv F1 H1 R1 st1 r1=>?_⟩;obtain⟨w2,F3,z1,z2,z3,z4⟩:∃w2 F3,O[i]? =some (some w2)/\Sub F3 H1/\Rep F3 w2 dl/\Rep F3 v d1:=MH R1 hS e2 r1;refine⟨w2,z1,?_⟩;show spT X.K ps.length fm ([v,w2]++[]) H1 Q E0;rw[ad7];refine⟨by rw[hn];rfl,F3,[.t d1,.t dl],_,[],z2,.cons z4 (.cons z3 .nil),?_,he',λv' F' H' po rn=>?_⟩
   .rw[Uv,Uv];exact abZ
   .have keep:∀b o,H1 b=some o->H' b=some o:=λb o z=>po.ext.keep b o z (by rw[Uv,Uv];exact abG);have n':jm F1 H1 F1 H':=⟨λ_ _ z=>z,keep,λ_ _ _ z=>z⟩
    exact q v' F1 H' (R1.new n' (R1.sub.same n'.same)) (st1.trans n'.step) (Ec hfl rn)
  .cases hg'
 .cases hg'⟩
end
end L2
end
section
namespace L2
open PySem.Calls PyProof.V
open PySem.W (KasT kas_asc kas_desc kas_tail3 kas_descPart kas_count kas_place kas_bin kas_sort kas_rev kas_item kas_st kas_cmp kas_runs kasC)
variable {p:Array Nat}{a:Str}{Q:AAE}{xs ys:AAL}{ns ms:BBB}{ks:List (BBB)}
section
variable {n:Nat}(ky:Nat->Nat)
noncomputable def kf(p:Array Nat)(i:Nat):Nat:=ky (p.getD i 0)
noncomputable def klt(i j:Nat):Bool:=decide (ky i<ky j)
def Se(p:Array Nat)(m:Nat):Prop:=∀i j,i<=j->j<m->kf ky p i<=kf ky p j
def NI(p:Array Nat)(m:Nat):Prop:=∀i j,i<=j->j<m->kf ky p j<=kf ky p i
variable {ky}
theorem nH{α β:Type}{Dz:Nat->Nat->Bool}{f:α->KasT β}:∀t:KasT α,jF Dz (t.bind f)=jF Dz (f (jF Dz t))
 |.ret _=>rfl
 |.ask i j k=>nH (k (Dz i j))
def Gq{a b k:Nat}(h:b<=p.size):kf ky (kas_rev p a b) k=if a<=k/\k<b then kf ky p (a+b-1-k) else kf ky p k:=by
 have:=getElem?_mirror_all (xs:=p) (i:=a) (j:=b) h k;unfold kf kas_rev;simp only[abQ,this];split<;>rfl
def MI{c d k:Nat}(h:c<p.size)(hd:d<=c):kf ky (bubble p c d) k=if k=c-d then kf ky p c else if c-d<k/\k<=c then kf ky p (k-1) else kf ky p k:=by
 have:=getElem?_bubble (xs:=p) h d hd k;unfold kf;simp only[abQ,this];split
 .rfl
 .split<;>rfl
def Gr{a b:Nat}(h:b<=p.size)(e:∀i,a<=i->i<b->kf ky p i=kf ky p (b-1))(k:Nat):kf ky (kas_rev p a b) k=kf ky p k:=by
 rw[Gq h];split
 .rw[e _ a_ a_,e k a_ a_]
 .rfl
theorem MJ{p:Array Nat}:∀(f m:Nat),1<=m->Se ky p m->m<=jF (klt ky) (kas_asc p f m)/\jF (klt ky) (kas_asc p f m)<=m+f/\Se ky p (jF (klt ky) (kas_asc p f m))/\(jF (klt ky) (kas_asc p f m)=m+f\/kf ky p (jF (klt ky) (kas_asc p f m))<kf ky p (jF (klt ky) (kas_asc p f m)-1))
 |0,m,_,h=>⟨aaP _,aaP _,h,.inl rfl⟩
 |f+1,m,h1,h=>by
  have e:jF (klt ky) (kas_asc p (f+1) m)=if kf ky p m<kf ky p (m-1) then m else jF (klt ky) (kas_asc p f (m+1)):=by
   show jF (klt ky) (if klt ky (p.getD m 0) (p.getD (m-1) 0)=true then _ else _)=_;unfold klt kf;simp only[ab5];split<;>rfl
  rw[e];split
  .rename_i c;exact⟨aaP _,by lia,h,.inr c⟩
  .rename_i c;obtain⟨a1,a2,a3,a4⟩:=MJ f (m+1) a_ (λi j hij hj=>by
    by_cases q:j<m
    .exact h i j hij q
    .have:j=m:=by lia
     subst this;by_cases q2:i=j
     .rw[q2];exact aaP _
     .have:=h i (j-1) a_ a_;lia)
   exact⟨by lia,by lia,a3,a4.imp (λz=>by lia) id⟩
def NI.next{m:Nat}(h:NI ky p m)(h1:1<=m)(c:kf ky p m<=kf ky p (m-1)):NI ky p (m+1):=λi j hij hj=>by
 by_cases q:j<m
 .exact h i j hij q
 .have:j=m:=by lia
  subst this;by_cases q2:i=j
  .rw[q2];exact aaP _
  .have:=h i (j-1) a_ a_;lia
def NI.same{q:Array Nat}{m:Nat}(h:NI ky p m)(e:∀k,kf ky q k=kf ky p k):NI ky q m:=λi j a b=>by rw[e,e];exact h i j a b
structure MK(n m:Nat)(r:Array Nat×Nat×Nat):Prop where
 sz:r.1.size=n
 ge:m<=r.2.1
 le:r.2.1<=n
 ni:NI ky r.1 r.2.1
 q:r.2.2+1<=r.2.1
 eqs:∀i,r.2.1-(r.2.2+1)<=i->i<r.2.1->kf ky r.1 i=kf ky r.1 (r.2.1-1)
theorem CQ:∀(f:Nat)(p:Array Nat)(m q:Nat),p.size=n->1<=m->m+f<=n->NI ky p m->q+1<=m->(∀i,m-(q+1)<=i->i<m->kf ky p i=kf ky p (m-1))->MK (ky:=ky) n m (jF (klt ky) (kas_desc f p m q))
 |0,p,m,q,hs,h1,hf,hn,hq,he=>⟨hs,aaP _,hf,hn,hq,he⟩
 |f+1,p,m,q,hs,h1,hf,hn,hq,he=>by
  have e:jF (klt ky) (kas_desc (f+1) p m q)=if kf ky p m<kf ky p (m-1) then(if q > 0 then jF (klt ky) (kas_desc f (kas_rev p (m-(q+1)) m) (m+1) 0) else jF (klt ky) (kas_desc f p (m+1) 0)) else if kf ky p (m-1)<kf ky p m then(p,m,q) else jF (klt ky) (kas_desc f p (m+1) (q+1)):=by
   show jF (klt ky) (if klt ky (p.getD m 0) (p.getD (m-1) 0)=true then _ else _)=_;unfold klt kf;simp only[ab5];split
   .split<;>rfl
   .show jF _ (if decide _=true then _ else _)=_;simp only[ab5];split<;>rfl
  have up:∀{p' q'},MK (ky:=ky) n (m+1) (jF (klt ky) (kas_desc f p' (m+1) q'))->MK (ky:=ky) n m (jF (klt ky) (kas_desc f p' (m+1) q')):=λd=>⟨d.sz,Nat.le_of_succ_le d.ge,d.le,d.ni,d.q,d.eqs⟩
  rw[e];have one:∀{p':Array Nat}(i:Nat),m+1-(0+1)<=i->i<m+1->kf ky p' i=kf ky p' (m+1-1):=λi a b=>by rw[show i=m+1-1 by lia]
  split
  .rename_i c;split
   .have es:=Gr (ky:=ky) (p:=p) (a:=m-(q+1)) (b:=m) a_ he;exact up (CQ f _ (m+1) 0 (by unfold kas_rev;rw[mirror_size];exact hs) a_ a_ ((hn.next h1 a_).same es) a_ one)
   .exact up (CQ f p (m+1) 0 hs a_ a_ (hn.next h1 a_) a_ one)
  .rename_i c;split
   .exact⟨hs,aaP _,by show m<=n;lia,hn,hq,he⟩
   .rename_i c2;refine up (CQ f p (m+1) (q+1) hs a_ a_ (hn.next h1 a_) a_ λi a b=>?_);show _=kf ky p m;by_cases z:i=m
    .rw[z]
    .rw[he i a_ a_];lia
structure P1(n:Nat)(r:Nat×Array Nat):Prop where
 ge:1<=r.1
 le:r.1<=n
 sz:r.2.size=n
 s:Se ky r.2 r.1
def HM{m:Nat}(hs:p.size=n)(h1:1<=m)(hm:m<=n)(hn:NI ky p m):P1 (ky:=ky) n (jF (klt ky) (kas_tail3 m n p)):=by
 unfold kas_tail3;rw[nH];have hs2:(kas_rev p 0 m).size=n:=by unfold kas_rev;rw[mirror_size];exact hs
 obtain⟨a1,a2,a3,_⟩:=MJ (ky:=ky) (p:=kas_rev p 0 m) (n-m) m h1 (λi j hij hj=>by
  rw[Gq a_,Gq a_,if_pos a_,if_pos a_];exact hn _ _ a_ a_)
 exact⟨aaY h1 a1,by show jF _ _<=n;lia,hs2,a3⟩
def zR{m:Nat}(hs:p.size=n)(hm:m+1<=n)(hn:NI ky p (m+1)):P1 (ky:=ky) n (jF (klt ky) (kas_descPart m n p)):=by
 unfold kas_descPart;rw[nH];have d:=CQ (ky:=ky) (n:=n) (n-(m+1)) p (m+1) 0 hs a_ a_ hn a_ (λi a b=>by rw[show i=m+1-1 by lia]);generalize jF (klt ky) (kas_desc (n-(m+1)) p (m+1) 0)=r at d;have g:=d.ge;split
 .exact HM (by unfold kas_rev;rw[mirror_size];exact d.sz) a_ d.le (d.ni.same (Gr (by rw[d.sz];exact d.le) d.eqs))
 .exact HM d.sz a_ d.le d.ni
def P4(hs:p.size=n)(h1:1<=n):P1 (ky:=ky) n (jF (klt ky) (kas_count n p)):=by
 unfold kas_count;rw[nH];obtain⟨a1,a2,a3,a4⟩:=MJ (ky:=ky) (p:=p) (n-1) 1 (aaP _) (λi j hij hj=>by rw[show i=j by lia];exact aaP _);generalize jF (klt ky) (kas_asc p (n-1) 1)=r at a1 a2 a3 a4;by_cases e:r=n
 .rw[if_pos (by simpa using e)];exact⟨a1,by show r<=n;lia,hs,a3⟩
 .rw[if_neg (by simpa using e)];have a4:kf ky p r<kf ky p (r-1):=a4.resolve_left a_;split
  .show P1 (ky:=ky) n (jF (klt ky) (if klt ky (p.getD 0 0) (p.getD (r-1) 0)=true then _ else _));by_cases c:kf ky p 0<kf ky p (r-1)
   .rw[if_pos (show klt ky _ _=true from abJ c)];exact⟨a1,by show r<=n;lia,hs,a3⟩
   .rw[if_neg (show ¬klt ky _ _=true by unfold klt;simpa[kf] using c)];have es:=Gr (ky:=ky) (p:=p) (a:=0) (b:=r) a_ (λi _ hi=>by
     have h2:=a3 0 i a_ hi;have h3:=a3 i (r-1) a_ a_;lia)
    have ni:NI ky p r:=λi j hij hj=>by
     have h2:=a3 0 i a_ a_;have h3:=a3 j (r-1) a_ a_;lia
    exact zR (by unfold kas_rev;rw[mirror_size];exact hs) a_ ((ni.next a1 a_).same es)
  .have:r=1:=by lia
   subst this;exact zR hs a_ (NI.next (λi j hij hj=>by rw[show i=j by lia];exact aaP _) (aaP _) (acz a4))
structure Zw(p:Array Nat)(k l r x:Nat):Prop where
 ge:l<=x
 le:x<=r
 lo:∀i,i<x->kf ky p i<=kf ky p k
 hi:∀i,x<=i->i<k->kf ky p k<kf ky p i
theorem CS{p:Array Nat}{k:Nat}(hs:Se ky p k):∀(f l r:Nat),l<=r->r<=k->r-l<=f->(∀i,i<l->kf ky p i<=kf ky p k)->(∀i,r<=i->i<k->kf ky p k<kf ky p i)->Zw (ky:=ky) p k l r (jF (klt ky) (kas_place p k f l r))
 |0,l,r,hl,hr,hf,lo,hi=>by
  have:l=r:=by lia
  subst this;exact⟨aaP _,aaP _,lo,hi⟩
 |f+1,l,r,hl,hr,hf,lo,hi=>by
  unfold kas_place;split
  .have:l=r:=by lia
   subst this;exact⟨aaP _,aaP _,lo,hi⟩
  .show Zw (ky:=ky) p k l r (jF (klt ky) (if klt ky (p.getD k 0) (p.getD ((l+r) / 2) 0)=true then _ else _));by_cases c:kf ky p k<kf ky p ((l+r) / 2)
   .rw[if_pos (show klt ky _ _=true from abJ c)];have d:=CS hs f l ((l+r) / 2) a_ a_ a_ lo (λi a b=>by have:=hs _ _ a b;lia);have:=d.le;exact⟨d.ge,by lia,d.lo,d.hi⟩
   .rw[if_neg (show ¬klt ky _ _=true by unfold klt;simpa[kf] using c)];have d:=CS hs f ((l+r) / 2+1) r a_ hr a_ (λi a=>by have:=hs i ((l+r) / 2) a_ a_;lia) hi;have:=d.ge;exact⟨by lia,d.le,d.lo,d.hi⟩
theorem Sg:∀(f:Nat)(p:Array Nat)(k:Nat),p.size=n->k+f=n->Se ky p k->Se ky (jF (klt ky) (kas_bin f p k)) n
 |0,p,k,hs,hk,h=>by rw[<-hk];exact h
 |f+1,p,k,hs,hk,h=>by
  unfold kas_bin;rw[nH];have d:=CS (ky:=ky) h k 0 k (abK _) (aaP _) a_ (λi a=>by lia) (λi a b=>by lia);generalize jF (klt ky) (kas_place p k k 0 k)=x at d;have hx:=d.le;refine Sg f _ (k+1) (by rw[bubble_size];exact hs) a_ λi j hij hj=>?_;rw[MI a_ a_,MI a_ a_,show k-(k-x)=x by lia];by_cases i1:i=x
  .rw[if_pos i1];by_cases j1:j=x
   .rw[if_pos j1];exact aaP _
   .rw[if_neg j1,if_pos a_];exact acz (d.hi _ a_ a_)
  .rw[if_neg i1];by_cases j1:j=x
   .rw[if_pos j1,if_neg a_];exact d.lo _ a_
   .rw[if_neg j1];by_cases j2:x<j/\j<=k
    .rw[if_pos j2];by_cases i2:x<i/\i<=k
     .rw[if_pos i2];exact h _ _ a_ a_
     .rw[if_neg i2];exact h _ _ a_ a_
    .rw[if_neg j2,if_neg a_];exact h _ _ a_ a_
def ML(h:1<=n):Se ky (jF (klt ky) (kas_sort n)) n:=by
 unfold kas_sort;rw[nH];have c:=P4 (ky:=ky) (p:=(List.range n).toArray) (by simp) h;generalize jF (klt ky) (kas_count n (List.range n).toArray)=r at c;have h1:=c.ge;have h2:=c.le;split
 .rw[Nat.max_eq_left h1];exact Sg (n-r.1) r.2 r.1 c.sz a_ c.s
 .have:r.1=n:=by lia
  rw[<-this];exact c.s
end
noncomputable def pU:BBB->BBB->Bool
 |[],[]=>false
 |[],_::_=>true
 |_::_,[]=>false
 |a::l,b::m=>if a=b then pU l m else decide (a.cps.toList<b.cps.toList)
section
variable {prog:Program}{w:World}{A:Around}{E:AAE}{s:Shared}
def MM{b:Str}{t u:Tok}(h:Q (.bool (decide (a.cps.toList<b.cps.toList))) s):wpAny g_ A (richCompare .Lt (.str a t) (.str b u)) Q E s:=by
 refine wpAny_richCompare_same (T:="str") rfl rfl F.slot_str_lt ?_;refine aeb F.slot_str_lt rfl F.entry_str_lt ?_ (F.args_str_lt_2 _ _);refine wpAny_pure ⟨_,rfl,?_,?_⟩
 .exact λz=>by cases z
 .exact h
theorem zS:∀{xs:AAL}{ns:BBB},StrsAre xs ns->∀{i:Nat}{a:Str},ns[i]? =some a->∃t,xs[i]? =some (.str a t)
 |_,_,.nil,_,_,h=>by cases h
 |_,_,.cons n t r,0,_,h=>by cases h;exact⟨t,rfl⟩
 |_,_,.cons n t r,i+1,_,h=>zS r (i:=i) h
def P5{l b:Addr}{n n2:Nat}{o1 o2:Obj}(d1:o1.data= .seq xs.toArray n)(d2:o2.data= .seq ys.toArray n2)(hx:StrsAre xs ns)(hy:StrsAre ys ms):∀(k i:Nat),ns.length-i=k->i<=ns.length->i<=ms.length->
  Meets (Builtin.«list.__eq__.loop» {pos:=[.ref l,.ref b,rawInt (i:Nat),rawInt 0]}) λA R s=>s.heap.get? l=some o1/\s.heap.get? b=some o2/\R (.ok (.ret (.bool (pU (ns.drop i) (ms.drop i))))) s:=by
 intro k
 induction k with
 |zero=>
  intro i hi i1 i2 prog w A R s ⟨h1,h2,h3⟩;have lx:xs.length=ns.length:=hx.length;have ly:ys.length=ms.length:=hy.length;have xn:xs.toArray[((i:Nat):Int).toNat]? =none:=by rw[aeS];exact acI (by rw[lx];show _<=i;lia)
  have e:pU (ns.drop i) (ms.drop i)=decide (xs.toArray.size<ys.toArray.size):=by
   rw[List.drop_eq_nil_of_le (show ns.length<=i by lia),aaQ,aaQ,lx,ly];cases hd:ms.drop i with
   |nil=>rw[abP (by have:=List.drop_eq_nil_iff.mp hd;lia)];rfl
   |cons a r=>
    have:i<ms.length:=by have:=congrArg List.length hd;rw[adW,abD]at this;lia
    rw[abJ a_];rfl
  rw[e]at h3;unfold Builtin.«list.__eq__.loop»
  refine aam (acR h1 d1 ?_);refine aam (acR h2 d2 ?_)
  try dsimp only
  rw[xn];refine aam (acR h1 d1 ?_);refine aam (acR h2 d2 ?_);exact wpAny_pure h3
 |succ k ih=>
  intro i hi i1 i2 prog w A R s ⟨h1,h2,h3⟩;have lx:xs.length=ns.length:=hx.length;have ly:ys.length=ms.length:=hy.length;have ha:ns[i]? =some ns[i]:=aaS a_;have da:ns.drop i=ns[i]::ns.drop (i+1):=acs a_;obtain⟨t,xa⟩:=zS hx ha;have xa:xs.toArray[((i:Nat):Int).toNat]? =some (.str ns[i] t):=by rw[aeS];exact xa
  by_cases q:i<ms.length
  .have hb:ms[i]? =some ms[i]:=aaS q;have db:ms.drop i=ms[i]::ms.drop (i+1):=acs q;obtain⟨u,ya⟩:=zS hy hb;have ya:ys.toArray[((i:Nat):Int).toNat]? =some (.str ms[i] u):=by rw[aeS];exact ya
   rw[da,db]at h3;unfold pU at h3;unfold Builtin.«list.__eq__.loop»
   refine aam (acR h1 d1 ?_);refine aam (acR h2 d2 ?_)
   try dsimp only
   rw[xa,ya];refine aam (wpAny_eqBool_str ?_);by_cases c:ns[i]=ms[i]
   .rw[if_pos c]at h3;rw[if_pos (abJ c)];refine wpAny_pure ⟨afa MeetsSeq3.plain_eq_loop _,aeF MeetsSeq3.entry_eq_loop ?_⟩;exact ih (i+1) a_ a_ a_ prog w _ R s ⟨h1,h2,h3⟩
   .rw[if_neg c]at h3;rw[if_neg (by simpa using c)];refine aam (acR h1 d1 ?_);refine aam (acR h2 d2 ?_)
    try dsimp only
    rw[xa,ya];refine aam (MM ?_);exact wpAny_pure h3
  .have ya:ys.toArray[((i:Nat):Int).toNat]? =none:=by rw[aeS];exact acI (by rw[ly];show _<=i;lia)
   have e:pU (ns.drop i) (ms.drop i)=decide (xs.toArray.size<ys.toArray.size):=by
    rw[da,List.drop_eq_nil_of_le (show ms.length<=i by lia),aaQ,aaQ,lx,ly,abP a_];rfl
   rw[e]at h3;unfold Builtin.«list.__eq__.loop»
   refine aam (acR h1 d1 ?_);refine aam (acR h2 d2 ?_)
   try dsimp only
   rw[xa,ya];refine aam (acR h1 d1 ?_);refine aam (acR h2 d2 ?_);exact wpAny_pure h3
def EC{x y:Addr}(ix:s.heap.IsList x xs.toArray)(iy:s.heap.IsList y ys.toArray)(hx:StrsAre xs ns)(hy:StrsAre ys ms)(hu:A.units<cLine){Q:Bool->Shared->Prop}(h:Q (pU ns ms) s):wpAny g_ A (oneLt' true (.ref x) (.ref y)) Q E s:=by
 obtain⟨o1,h1,c1,n,d1⟩:=ix;obtain⟨o2,h2,c2,n2,d2⟩:=iy;rw[oneLt'_eq,if_pos rfl];refine aam (wpAny_cRoomFor hu ?_);refine aam (wpAny_callSpecialIfBound?_slot (T:="list") ⟨_,h1,c1⟩ F.slot_list_lt ?_);refine call_meets F.slot_list_lt ⟨_,h1,c1⟩ F.entry_list_lt (F.args_list_lt_2 _ _) (S:=λA R s=>s.heap.get? x=some o1/\s.heap.get? y=some o2/\R (.ok (.ret (.bool (pU ns ms)))) s) ?_ ⟨h1,h2,?_⟩
 .intro prog w A R s ⟨h1,h2,h3⟩;show wpAny _ _ (slotArgs "__lt__" 1 _ >>= _) _ _ _;refine aam (wpAny_pure ?_);refine aam (agd (T:="list") ⟨_,h2,c2⟩ rfl ?_)
  try dsimp only
  refine wpAny_pure ⟨afa MeetsSeq3.plain_eq_loop _,aeF MeetsSeq3.entry_eq_loop ?_⟩;exact P5 d1 d2 hx hy _ 0 rfl (abK _) (abK _) prog w _ R s ⟨h1,h2,h3⟩
 .show wpAny _ _ (truthOfDropped (.bool _)) _ _ _;exact wpAny_pure h
end
def MN{b:Str}(h:a≠b):a.cps.toList<b.cps.toList\/b.cps.toList<a.cps.toList:=by
 by_cases p:a.cps.toList<b.cps.toList
 .exact .inl p
 .by_cases q:b.cps.toList<a.cps.toList
  .exact .inr q
  .exact absurd (Mq q p) h
theorem CT:∀a:BBB,pU a a=false
 |[]=>rfl
 |a::l=>by unfold pU;rw[if_pos rfl];exact CT l
def zT{b:Str}{l m:BBB}:pU (a::l) (b::m)=true↔(a=b/\pU l m=true)\/a.cps.toList<b.cps.toList:=by
 rw[show pU (a::l) (b::m)=if a=b then pU l m else decide (a.cps.toList<b.cps.toList) from rfl];by_cases h:a=b
 .subst h;rw[if_pos rfl];exact⟨λq=>.inl ⟨rfl,q⟩,λq=>q.elim (·.2) λq=>absurd q (List.lt_irrefl _)⟩
 .rw[if_neg h,decide_eq_true_iff];exact⟨.inr,λq=>q.elim (λq=>absurd q.1 h) id⟩
theorem wm:∀{a b c:BBB},pU a b=true->pU b c=true->pU a c=true
 |[],[],_,h,_=>by cases h
 |[],_::_,[],_,k=>by cases k
 |[],_::_,_::_,_,_=>rfl
 |_::_,[],_,h,_=>by cases h
 |_::_,_::_,[],_,k=>by cases k
 |a::l,b::m,c::r,h,k=>by
  rw[zT]at *;rcases h with⟨rfl,h⟩|h
  .rcases k with⟨rfl,k⟩|k
   .exact .inl ⟨rfl,wm h k⟩
   .exact .inr k
  .rcases k with⟨rfl,k⟩|k
   .exact .inr h
   .exact .inr (List.lt_trans h k)
theorem CU:∀{a b:BBB},pU a b=false->pU b a=false->a=b
 |[],[],_,_=>rfl
 |[],_::_,h,_=>by cases h
 |_::_,[],_,k=>by cases k
 |a::l,b::m,h,k=>by
  by_cases e:a=b
  .subst e;unfold pU at h k;rw[if_pos rfl]at h k;rw[CU h k]
  .rcases MN e with q|q
   .rw[zT.mpr (.inr q)]at h;cases h
   .rw[zT.mpr (.inr q)]at k;cases k
theorem Gu{α:Type}{p q:α->Bool}{a:α}(hq:q a=true)(hp:p a=false):∀{L:List α},(∀x,p x=true->q x=true)->a∈L->L.countP p<L.countP q
 |x::L,h,ha=>by
  rw[List.countP_cons,List.countP_cons];have m:L.countP p<=L.countP q:=List.countP_mono_left λx _=>h x;rcases aaV.mp ha with rfl|ha
  .rw[hq,hp];simp;lia
  .have:=Gu hq hp h ha;cases e:p x
   .cases q x<;>simp<;>lia
   .rw[h x e];simp;exact this
def J5(ks:List (BBB))(i:Nat):Nat:=(([]:BBB)::ks).countP λr=>pU r (ks.getD i [])
def getD_in(ks:List (BBB))(i:Nat):ks.getD i []∈(([]:BBB)::ks):=by
 rw[abC];cases h:ks[i]? with
 |none=>exact aaT
 |some r=>exact aaR _ (abU h)
def MP(ks:List (BBB))(i j:Nat):pU (ks.getD i []) (ks.getD j [])=decide (J5 ks i<J5 ks j):=by
 cases h:pU (ks.getD i []) (ks.getD j []) with
 |true=>
  rw[abJ];exact Gu (p:=λr=>pU r (ks.getD i [])) (q:=λr=>pU r (ks.getD j [])) (a:=ks.getD i []) h (CT _) (λx hx=>wm hx h) (getD_in ks i)
 |false=>
  rw[abP];have:J5 ks j<=J5 ks i:=by
   cases k:pU (ks.getD j []) (ks.getD i []) with
   |true=>exact acz (Gu (p:=λr=>pU r (ks.getD j [])) (q:=λr=>pU r (ks.getD i [])) (a:=ks.getD j []) k (CT _) (λx hx=>wm hx k) (getD_in ks j))
   |false=>unfold J5;rw[CU h k];exact aaP _
  lia
def mD(ks:List (BBB)):BBJ:=if ks.length<2 then List.range ks.length else(jF (klt (J5 ks)) (kas_sort ks.length)).toList
def kK(ks:List (BBB)):(mD ks).Perm (List.range ks.length):=by
 unfold mD;split
 .exact aeK _
 .exact(wc a_).go
def CV(ks:List (BBB)):((mD ks).map λi=>ks.getD i []).Pairwise λa b=>pU b a=false:=by
 have pm:=kK ks;unfold mD at pm ⊢;split
 .rename_i h;rw[acW];rcases ks with _|⟨a,_|⟨b,ks⟩⟩
  .exact List.Pairwise.nil
  .exact ae9 _ _
  .exact absurd h (by simp)
 .rename_i h;rw[if_neg h]at pm;have s:=ML (ky:=J5 ks) (n:=ks.length) a_;generalize jF (klt (J5 ks)) (kas_sort ks.length)=p at *;have sz:p.size=ks.length:=by have:=pm.length_eq;rwa [abM,abW]at this
  rw[acW,aeY];intro i j hi hj hij;rw[abM,sz]at hj;rw[abM,sz]at hi;have:=s i j (acz hij) hj;unfold kf at this;rw[abQ,abQ,abH a_,abH a_]at this;rw[MP,abP];simp only[aeJ,afx]at this ⊢;lia
def wu(ks:List (BBB)):((mD ks).map λi=>ks.getD i []).Perm ks:=by
 have p:=(kK ks).map λi=>ks.getD i [];have e:(List.range ks.length).map (λi=>ks.getD i [])=ks:=by
  apply aft;intro i;by_cases hi:i<ks.length
  .simp[hi]
  .simp[hi]
 rw[e]at p;exact p
def kZ(ks:List (BBB)):List (BBB):=(mD ks).map λi=>ks.getD i []
def zU{a b:List (BBB)}(h:a.Perm b):kZ a=kZ b:=
 List.Perm.eq_of_pairwise (λx y _ _ h1 h2=>CU h2 h1) (CV a) (CV b) ((wu a).trans (h.trans (wu b).symm))
def tF(ks:List (BBB)):(kZ ks).Perm ks:=wu ks
section
variable {α:Type}{n:Nat}
theorem MQ{cmp:Nat->Nat->(Bool->Shared->Prop)->Shared->Prop}{Dz:Nat->Nat->Bool}{R:α->Prop}{G:α->Shared->Prop}{s:Shared}(hc:∀i j C,i<n->j<n->C (Dz i j) s->cmp i j C s):∀{t:KasT α},BD n R t->G (jF Dz t) s->t.kasWp cmp G s
 |.ret _,_,g=>g
 |.ask i j k,h,g=>hc i j _ h.1 h.2.1 (MQ hc (t:=k (Dz i j)) (h.2.2 _) g)
end
def sC(b:Option Bool)(g:Heap)(v:Value)(k:BBB):Prop:=match b with
 |some true=>∃a t,v= .str a t/\k=[a]
 |some false=>∃c xs,v= .ref c/\g.IsList c xs.toArray/\StrsAre xs k
 |none=>∃(n:Nat)(t:Tok),v= .int n t/\k=List.replicate n ("":Str)
theorem CW:∀n m:Nat,pU (List.replicate n ("":Str)) (List.replicate m ("":Str))=decide (n<m)
 |0,0=>rfl
 |0,m+1=>by simp[pU,agn]
 |n+1,0=>by simp[pU,agn]
 |n+1,m+1=>by simp[pU,agn,CW n m]
section
variable {prog:Program}{w:World}{A:Around}{E:AAE}{s:Shared}{a l:Addr}{b:Option Bool}{vs:AAL}{ks:List (BBB)}{P:PySem.Fin->Shared->Prop}{g0:Heap}
def U6{x y:Value}{k m:BBB}(hx:sC b s.heap x k)(hy:sC b s.heap y m)(hu:A.units<cLine){Q:Bool->Shared->Prop}(h:Q (pU k m) s):wpAny g_ A (oneLt' true x y) Q E s:=by
 match b,hx,hy with
 |some true,hx,hy=>
  obtain⟨c,t,rfl,rfl⟩:=hx;obtain⟨d,u,rfl,rfl⟩:=hy;have e:pU [c] [d]=decide (c.cps.toList<d.cps.toList):=by
   unfold pU;split
   .rename_i z;subst z;rw[abP (List.lt_irrefl _)];rfl
   .rfl
  rw[e]at h;exact strKind_oneLt prog w A E s _ _ _ _ rfl rfl h
 |none,hx,hy=>
  obtain⟨n,t,rfl,rfl⟩:=hx;obtain⟨m,u,rfl,rfl⟩:=hy;rw[CW]at h;refine oneLt_int ?_
  rwa [show decide ((n:Int)<(m:Int))=decide (n<m) from decide_eq_decide.mpr Int.ofNat_lt]
 |some false,hx,hy=>
  obtain⟨c,xs,rfl,i1,s1⟩:=hx;obtain⟨d,ys,rfl,i2,s2⟩:=hy;exact EC i1 i2 s1 s2 hu h
def sC.keep{h h':Heap}{v:Value}{k:BBB}(x:sC b h v k)(e:∀c o,h.get? c=some o->h'.get? c=some o):sC b h' v k:=by
 match b,x with
 |some true,x=>exact x
 |none,x=>exact x
 |some false,x=>
  obtain⟨c,xs,rfl,⟨o,g,r⟩,s⟩:=x;exact⟨c,xs,rfl,⟨o,e _ _ g,r⟩,s⟩
def J6{n:Nat}(ho:s.heap.get? a=some (seqObj "list" vs.toArray n))(hk0:∀c o,g0.get? c=some o->s.heap.get? c=some o)(ga:g0.get? a=none)(hlen:ks.length=vs.length)(h64:vs.length<64)(hu:A.units<cLine)(hv:∀(i:Nat) v k,vs[i]? =some v->ks[i]? =some k->sC b g0 v k)
  (h:∀h' c,(∀d o,g0.get? d=some o->h'.get? d=some o)->h'.get? a=some (seqObj "list" ((mD ks).map λi=>vs.getD i Value.none).toArray c)->P (.done (.ret .none)) {s with heap:=h'}):
  wpAny g_ A (Builtin.«list.sort» {pos:=[.ref a]}) P E s:=by
 have ha:a<c_:=aaX ho;have s1:=acU s.heap a (Obj.mapSeq λ_=>(#[]:AAK));obtain⟨e1,Mb⟩:∃e1,(s.heap.update a (Obj.mapSeq λ_=>(#[]:AAK))).get? a=some (seqObj "list" #[] e1):=⟨_,afF ho λ_=>#[]⟩
 have ol:(mD ks).length=vs.length:=by rw[(kK ks).length_eq,abW,hlen]
 rw[list_sort_plain];refine aam (acR ho rfl ?_);refine aam (afC ho rfl ?_ (by rw[aaQ,acT];lia) (abK _));refine aam (seqEpoch_at Mb rfl ?_);refine aam (wpAny_newTuple ?_ (by show vs.length<=_;rw[acT];lia));refine aam (agb ?_ (abK _));refine acK ?_;have na:(((s.heap.update a (Obj.mapSeq λ_=>(#[]:AAK))).push (seqObj "tuple" vs.toArray 0)).push (seqObj "list" #[] 0)).get? a=some (seqObj "list" #[] e1):=aaE _ (aaE _ Mb);have kp:∀c o,g0.get? c=some o->(((s.heap.update a (Obj.mapSeq λ_=>(#[]:AAK))).push (seqObj "tuple" vs.toArray 0)).push (seqObj "list" #[] 0)).get? c=some o:=λc o z=>aaE _ (aaE _ ((s1.2 c (λq=>by rw[q,ga]at z;cases z)).trans (hk0 c o z)));show wpAny _ _ _ _ _ {s with heap:=((s.heap.update a (Obj.mapSeq λ_=>(#[]:AAK))).push (seqObj "tuple" vs.toArray 0)).push (seqObj "list" #[] 0)};generalize ((s.heap.update a (Obj.mapSeq λ_=>(#[]:AAK))).push (seqObj "tuple" vs.toArray 0)).push (seqObj "list" #[] 0)=hB at na kp;have tail:∀(st:SortSt),(arrOf st).map (·.2)=((mD ks).map λi=>vs.getD i Value.none).toArray->failedOf st=none->wpAny g_ A (do
   let __do_lift <-seqEpoch a
   have touched:Bool:=__do_lift != e1
   Builtin.List.listUpdate (Value.ref a) λx=>(arrOf st).map (·.2)
   have __do_jp:Unit->Sem PySem.Fin:=λ__r=>
    have __do_jp:=λ__r=>ret Value.none;
    if touched=true then do
     rule "list.sort.modified"
     let __r <-raiseErrorWords "ValueError" "list modified during sort"
     __do_jp __r
    else __do_jp ()
   match failedOf st with
    |some e=>do
     rule "list.sort.comparison-raised"
     let __r <-throw e
     __do_jp __r
    |x=>__do_jp ()) P E {s with heap:=hB}:=by
  intro st hst hfl;have s2:=acU hB a (Obj.mapSeq λ_=>(arrOf st).map (·.2));refine aam (seqEpoch_at na rfl ?_);refine aam (afC na rfl ?_ (abK _) (by show((arrOf st).map (·.2)).size<=_;rw[hst,aaQ,aar,ol,acT];lia));rw[hfl];simp only[bne_self_eq_false,aeO,aeW];refine wpAny_pure (h _ _ (λc o z=>?_) (by rw[<-hst];exact afF na λ_=>(arrOf st).map (·.2)));exact(s2.2 c (λq=>by rw[q,ga]at z;cases z)).trans (kp c o z)
 try dsimp only
 by_cases h2:vs.toArray.size<2
 .rw[if_pos h2];refine aam (wpAny_pure ?_);rw[if_pos h2,StateT.run_pure];refine aam (wpAny_pure ?_);refine tail _ ?_ rfl;have e0:mD ks=List.range vs.length:=by unfold mD;rw[if_pos (by rw[hlen];simpa using h2),hlen]
  rw[e0];show(vs.toArray.zip vs.toArray).map (·.2)=_;apply afe;intro i;by_cases hi:i<vs.length
  .simp[hi]
  .simp[hi]
 .rw[if_neg h2];have h2':2<=vs.length:=by rw[aaQ]at h2;lia
  have kat:∀(i:Nat) v k,vs[i]? =some v->ks[i]? =some k->sC b hB v k:=λi v k x y=>(hv i v k x y).keep kp;have adY:∀v∈vs,∃k,sC b g0 v k:=λv hv'=>by
   obtain⟨i,hi,e⟩:=List.getElem_of_mem hv';exact⟨_,hv i v ks[i] (by rw[aaS hi,e]) (aaS a_)⟩
  refine aam (W.kas_kind (T:=.type (match b with|some true=>"str" | some false=>"list" | none=>"int")) h2' (λv hv'=>?_) (by rcases b with _|_|_<;>rfl) (by rcases b with _|_|_<;>rfl) ?_)
  .obtain⟨k,hk⟩:=adY v hv';have hk:=hk.keep kp
   match b,hk with
   |some true,hk=>obtain⟨c,t,rfl,_⟩:=hk;exact λA Q E s _ h=>wpAny_pure h
   |none,hk=>obtain⟨c,t,rfl,_⟩:=hk;exact λA Q E s _ h=>wpAny_pure h
   |some false,hk=>obtain⟨c,xs,rfl,⟨o,g,r,_⟩,_⟩:=hk;exact λA Q E s k q=>wpAny_typeOf_ref (k _ _ g) (by rw[r];exact q)
  .rw[if_neg h2];have hrun:=kas_runs (prog:=prog) (w:=w) (A:=A) (E:=E) (κ:=oneType') (it:=vs.toArray.zip vs.toArray) (n:=vs.length) (s:={s with heap:=hB}) (Q:=λ_ st' s'=>s'={s with heap:=hB}/\arrOf st'=(jF (klt (J5 ks)) (kas_sort vs.length)).map (kas_item (vs.toArray.zip vs.toArray))/\failedOf st'=none)
    (G:=λp' s'=>s'={s with heap:=hB}/\p'=jF (klt (J5 ks)) (kas_sort vs.length)) h2' h64 (λp' st' s' _ a1 a2 a3=>⟨a3.1,by rw[<-a3.2];exact a1,a2⟩)
    (MQ (n:=vs.length) (R:=eU vs.length) (λi j C hi hj hC=>by
     have item:∀i,i<vs.length->sC b hB (kas_item (vs.toArray.zip vs.toArray) i).1 (ks.getD i []):=λi hi=>by
      have e:(kas_item (vs.toArray.zip vs.toArray) i).1=vs[i]:=by simp[kas_item,Array.getD,hi]
      rw[e];exact kat i _ _ (aaS hi) (by rw[abC,aaS a_];rfl)
     unfold kas_cmp;rw[keyLt'_oneType];refine U6 (item i hi) (item j hj) hu ?_;rw[MP];exact hC) (wc a_) ⟨rfl,rfl⟩)
   have e0:kas_st oneType' (vs.toArray.zip vs.toArray) (List.range vs.length).toArray=SortSt.mk' oneType' (vs.toArray.zip vs.toArray) #[] 7 none:=by
    unfold kas_st;rw[BG vs.toArray vs aaQ]
   rw[e0]at hrun;refine aam (ab3 hrun ?_ λ_ _ e=>e);rintro⟨⟨⟩,st'⟩ s' ⟨rfl,ha,hf⟩
   try dsimp only
   refine tail st' ?_ hf;have e1:mD ks=(jF (klt (J5 ks)) (kas_sort vs.length)).toList:=by unfold mD;rw[if_neg a_,hlen]
   rw[ha,e1];have good:eU vs.length (jF (klt (J5 ks)) (kas_sort vs.length)):=(wc a_).go;generalize jF (klt (J5 ks)) (kas_sort vs.length)=p at *;apply afe;intro i;by_cases hi:i<p.size
   .have hpi:p[i]<vs.length:=abY.mp (good.mem_iff.mp (by simp));simp[hi,kas_item,Array.getD,hpi]
   .simp[hi]
def P6(hl:s.heap.IsList l vs.toArray)(hlen:ks.length=vs.length)(h64:vs.length<64)(hu:A.units+2<cLine)(hv:∀(i:Nat) v k,vs[i]? =some v->ks[i]? =some k->sC b s.heap v k)
  (h:∀D h' c,c_<=D->(∀b o,s.heap.get? b=some o->h'.get? b=some o)->h'.get? D=some (seqObj "list" ((mD ks).map λi=>vs.getD i Value.none).toArray c)->Q (.ref D) {s with heap:=h'}):
  wpAny g_ A (call (.builtin "sorted") [.ref l]) Q E s:=by
 refine call_function_entry kind_sorted plain_sorted entry_sorted (args_sorted1 _) ?_;unfold Builtin.«sorted»
 refine aam (m:=checkCount "sorted" 1 1 _) (wpAny_pure ?_);refine aam (collect_list hl ?_ (by rw[acT];lia));refine aam (agb ?_ (by rw[acT];lia));have hsz:((s.heap.push (seqObj "list" #[] 0)).update c_ (Obj.mapSeq (· ++vs.toArray))).objs.size=c_+1:=by
  rw[agO,size_push']
 have KU:(((s.heap.push (seqObj "list" #[] 0)).update c_ (Obj.mapSeq (· ++vs.toArray))).push (seqObj "list" vs.toArray 0)).get? (c_+1)=some (seqObj "list" vs.toArray 0):=by
  rw[<-hsz];exact aaZ _ rfl
 have keep:∀b o,s.heap.get? b=some o->(((s.heap.push (seqObj "list" #[] 0)).update c_ (Obj.mapSeq (· ++vs.toArray))).push (seqObj "list" vs.toArray 0)).get? b=some o:=λb o q=>by
  have hlt:b<c_:=aaX q;rw[af5 _ _ _ (by rw[hsz];exact aa1 (aeI hlt)),Heap.get?_update_ne _ _ _ _ (aa1 hlt),af5 _ _ _ (aa1 hlt)];exact q
 have fr:s.heap.get? (c_+1)=none:=afv (aeM _);show wpAny _ _ _ _ _ {s with heap:=((s.heap.push (seqObj "list" #[] 0)).update s.heap.objs.size (Obj.mapSeq (· ++vs.toArray))).push (seqObj "list" vs.toArray 0)};rw[hsz];refine aam (acK (aeb slot_list_sort ⟨_,KU,rfl⟩ entry_list_sort ?body (args_list_sort _)))
 case body=>
  refine J6 (g0:=s.heap) (b:=b) (ks:=ks) KU keep fr hlen h64 hu hv λh' c a1 a2=>⟨_,rfl,?_⟩
  exact wpAny_pure ⟨_,rfl,h _ h' c (aeM _) a1 a2⟩
end
def zV:List D->Option (List (BBB))
 |[]=>some []
 |.lst xs::ds=>(lV xs).bind λr=>(zV ds).map λrs=>r::rs
 |_=>none
noncomputable def sD:List D->Option (List (BBB))
 |[]=>some []
 |.int (.ofNat n)::ds=>(sD ds).map λns=>List.replicate n ("":Str)::ns
 |_=>none
def sE(b:Option Bool)(ds:List D):Option (List (BBB)):=match b with
 |some true=>(lV ds).map λns=>ns.map λa=>[a]
 |some false=>zV ds
 |none=>sD ds
def ED(ks:List (BBB))(ds:List D):List D:=(mD ks).map λi=>ds.getD i .cI
def jM(b:Option Bool):List D->Option U
 |[.lst ds]=>(sE b ds).bind λks=>if ds.length<64 then some (.m (.lst (ED ks ds))) else none
 |_=>none
def Gv{b:Option Bool}{d:D}{u:U}(h:jM b [d]=some u):∃ds ks,d= .lst ds/\sE b ds=some ks/\ds.length<64/\u= .m (.lst (ED ks ds)):=by
 cases d with
 |lst ds=>
  obtain⟨ks,h1,h2⟩:=aj (show(sE b ds).bind _=some u from h);obtain⟨h3,h4⟩:=cV h2;exact⟨ds,ks,rfl,h1,h3,h4.symm⟩
 |_=>cases h
theorem zW:∀{ds:List D}{ns:BBB},lV ds=some ns->ds=ns.map D.str
 |[],ns,h=>by cases h;rfl
 |d::ds,ns,h=>by
  cases d with
  |str a=>
   obtain⟨r,h1,h2⟩:=aA (show(lV ds).map _=some ns from h);subst h2;rw[zW h1];rfl
  |_=>cases h
noncomputable def pQ(r:BBB):D:=.lst (r.map D.str)
theorem zX:∀{ds:List D}{ks:List (BBB)},zV ds=some ks->ds=ks.map pQ
 |[],ns,h=>by cases h;rfl
 |d::ds,ns,h=>by
  cases d with
  |lst xs=>
   obtain⟨r,h1,h2⟩:=aj (show(lV xs).bind _=some ns from h);obtain⟨rs,h3,h4⟩:=aA h2;subst h4;rw[zW h1,zX h3];rfl
  |_=>cases h
theorem uU:∀ns:BBB,lV (ns.map D.str)=some ns
 |[]=>rfl
 |a::ns=>by show(lV (ns.map D.str)).map _=_;rw[uU];rfl
theorem EE:∀ks:List (BBB),zV (ks.map pQ)=some ks
 |[]=>rfl
 |r::ks=>by show(lV (r.map D.str)).bind _=_;rw[uU,aaN,EE];rfl
def wz(f:BBB->D)(ks:List (BBB)):ED ks (ks.map f)=(kZ ks).map f:=by
 unfold ED kZ;rw[abV];refine ab2 λi hi=>?_;have:i<ks.length:=abY.mp ((kK ks).mem_iff.mp hi);simp[this]
def qy(ns:BBB):BBB:=(kZ (ns.map λa=>[a])).map λr=>r.headD ""
def J7(ns:BBB):kZ (ns.map λa=>[a])=(qy ns).map λa=>[a]:=by
 unfold qy;rw[abV];have:∀r∈kZ (ns.map λa=>[a]),r=[r.headD ""]:=λr hr=>by
  obtain⟨a,_,rfl⟩:=aa2.mp ((tF _).mem_iff.mp hr);rfl
 refine(List.map_id _).symm.trans (ab2 λr hr=>this r hr)
def Gw{a b:BBB}(h:a.Perm b):qy a=qy b:=by unfold qy;rw[zU (h.map _)]
def P7(h:ns.length<64):jM true [.lst (ns.map D.str)]=AAB ((qy ns).map D.str):=by
 show(sE true (ns.map D.str)).bind _=_;rw[show sE true (ns.map D.str)=(lV (ns.map D.str)).map λns=>ns.map λa=>[a] from rfl,uU];show(if(ns.map D.str).length<64 then _ else _)=_;rw[if_pos (by rw[aar];exact h)];have e:ns.map D.str=(ns.map λa=>[a]).map λr=>.str (r.headD ""):=by rw[abV];rfl
 rw[e,wz,J7,abV];rfl
def HN(h:ks.length<64):jM false [.lst (ks.map pQ)]=AAB ((kZ ks).map pQ):=by
 show(sE false (ks.map pQ)).bind _=_;rw[show sE false (ks.map pQ)=zV (ks.map pQ) from rfl,EE];show(if(ks.map pQ).length<64 then _ else _)=_;rw[if_pos (by rw[aar];exact h),wz]
theorem zY:∀{ds:List D}{ks:List (BBB)},sD ds=some ks->∃ns:BBJ,ds=ns.map (λn=>D.int (n:Nat))/\ks=ns.map λn=>List.replicate n ("":Str)
 |[],ks,h=>by cases h;exact⟨[],rfl,rfl⟩
 |d::ds,ks,h=>by
  cases d with
  |int i=>
   cases i with
   |ofNat n=>
    obtain⟨r,h1,h2⟩:=aA (show(sD ds).map _=some ks from h);subst h2;obtain⟨ns,rfl,rfl⟩:=zY h1;exact⟨n::ns,rfl,rfl⟩
   |negSucc n=>cases h
  |_=>cases h
theorem EF:∀ns:BBJ,sD (ns.map λn=>D.int (n:Nat))=some (ns.map λn=>List.replicate n ("":Str))
 |[]=>rfl
 |n::ns=>by show(sD (ns.map λn=>D.int (n:Nat))).map _=_;rw[EF];rfl
def J8{b:Option Bool}{ds:List D}(h:sE b ds=some ks):ks.length=ds.length:=by
 match b,h with
 |none,h=>obtain⟨ns,rfl,rfl⟩:=zY (show sD ds=some ks from h);rw[aar,aar]
 |some true,h=>
  obtain⟨ns,h1,h2⟩:=aA (show(lV ds).map _=some ks from h);subst h2;rw[zW h1,aar,aar]
 |some false,h=>rw[zX (show zV ds=some ks from h),aar]
theorem zZ:∀{ns:BBB}{its:AAL},Vals (ns.map V.str) its->StrsAre its ns
 |[],_,r=>by cases r;exact .nil
 |n::ns,_,r=>by
  cases r with
  |cons q t=>
   obtain⟨t',rfl⟩:=q;exact .cons _ _ (zZ t)
section
variable {X:Cx}{a:Expr}{pos p:Pos}{ga:GD}{b:Option Bool}
def qz(b:Option Bool)(hu:X.A.units+64<cLine)(Za:Gl X "sorted")(hm1:X.mg "sorted" =none)(ha:JD X a ga)(hs2:starEach [a] X.env=(false,eval a X.env)::starEach [] X.env:=by rfl):
  JE X (.Call (.Name "sorted" p) [a] [] pos) (eP (jM b) (ah ga aB)):=⟨λB=>by
 rintro pins s O H Q I ⟨S,F,u,S',R,hg,q⟩;obtain⟨⟨dl,S1⟩,h1,hg⟩:=aj hg;obtain⟨w',h2,hg⟩:=aA hg;cases hg;obtain⟨⟨d,S2⟩,h3,h1⟩:=aj h1;obtain⟨⟨dr,S3⟩,h4,h1⟩:=aA h1;cases h4;cases h1;obtain⟨ds,ks,rfl,hks,h64,rfl⟩:=Gv h2;have kl:=J8 hks;refine ac9 (mz I Za hm1 afS ?_ b_ b_);refine afc (ez (dN (ha.h B) iI hs2 pos pins s O H (λvs H1=>∃v F1,vs=[v]/\Rel X.K B S2 O F1 H1/\Step S S2 O F H F1 H1/\Rep F1 v (.lst ds)) I ⟨S,F,_,S2,R,h3,λv F1 H1 R1 st1 r1=>⟨v,F1,rfl,R1,st1,r1⟩⟩) ?_) hs2 rfl;rintro us s1 ⟨vs,H1,I1,r1,v,F1,rfl,R1,st1,rd⟩;obtain⟨u',rfl,ru⟩:=vals1 r1;obtain⟨a',vs',rfl,fa,hla,rB⟩:=R1.sub.gO rd;cases ru;obtain⟨its,rv,pl,hz⟩:=I1.list (.inl hla);have xl:=rB.length;have il:its.length=vs'.length:=rv.length.symm;refine P6 (b:=b) (ks:=ks) (vs:=its) pl.isList a_ a_ a_ (λi v k hi hk=>?_) λD h' c hD hk hat=>?_
 .obtain⟨x,g1,g2⟩:=kT rv hi
  match b,hks with
  |none,hks=>
   obtain⟨ns,rfl,rfl⟩:=zY (show sD ds=some ks from hks);rw[abI]at hk;obtain⟨n,e1,e2⟩:=af7.mp hk;subst e2;obtain⟨y,e3,e4⟩:=rB.get (i:=i) (d:=.int (n:Nat)) (by rw[abI,e1];rfl);rw[g1]at e3;cases e3;cases e4;obtain⟨t,rfl⟩:=g2;exact⟨n,t,rfl,rfl⟩
  |some true,hks=>
   obtain⟨ns,q1,q2⟩:=aA (show(lV ds).map _=some ks from hks);subst q2;obtain rfl:=sW rB q1;rw[abI]at hk;obtain⟨n,e1,e2⟩:=af7.mp hk;subst e2;rw[abI,e1]at g1;cases g1;obtain⟨t,rfl⟩:=g2;exact⟨n,t,rfl,rfl⟩
  |some false,hks=>
   have hks:zV ds=some ks:=hks;obtain rfl:=zX hks;obtain⟨y,e1,e2⟩:=rB.get (i:=i) (d:=pQ k) (by rw[abI,hk];rfl);rw[g1]at e1;cases e1;obtain⟨a2,ys,rfl,f2,e3,Jm⟩:=R1.sub.gO e2;cases g2;obtain⟨its2,rv2,pl2,hz2⟩:=I1.list (.inl e3);obtain rfl:=sW Jm (uU k);exact⟨a2,its2,rfl,pl2.isList,zZ rv2⟩
 .have ol:∀i∈mD ks,i<ds.length:=λi hi=>by rw[<-kl];exact abY.mp ((kK ks).mem_iff.mp hi)
  have hp:H1 D=none:=I1.hok.fresh hD;have n1:=jm.obj (F:=F1) hp (.lst ((mD ks).map λi=>vs'.getD i .cI));have s4:=R1.sub.same n1.same;have Zb:((mD ks).map λi=>vs'.getD i V.cI).length<=sizeLine:=by
   rw[aar,(kK ks).length_eq,abW,kl];exact aaY (acz h64) b_
  have hvv:=wg rv (mD ks) λi hi=>by rw[xl];exact ol i hi
  exact⟨.ref D,_,I1.laid (a:=D) (o:=.lst ((mD ks).map λi=>vs'.getD i V.cI)) (h':=h') (t':=s1.toks) hk hD ⟨Zb,_,c,hvv,hat⟩,rfl,
   q _ F1 _ (R1.new n1 s4) (st1.trans n1.step) (uD.FW (u:=.m (.lst (ED ks ds))) R1 st1 ⟨_,rfl,hp,R1.sub.fresh hp,_,aR,we rB (mD ks) ol⟩)⟩⟩
end
end L2
end
section
namespace L2
variable {H H':Hp}{a:Addr}{pos:Pos}{x:Str}{vs:List V}{us:List U}{st:Stmt}{ng:Nat}{fm:FM}{ps:BBB}{K:AAD}{S S':SS}{gu:GU}
def U7(C:Addr)(i:Nat)(f:Str)(j:Nat)(gk:GD):GD:=λS=>(zO C S i f).bind λc=>(gk S).bind λp=>(BK p.2 j c).bind λds=>match p.1 with
 |.int n=>(dZ ds n).map λd=>(d,p.2)
 |_=>none
noncomputable def MR:List D->Option U
 |[.int z]=>some (.t (.int (Builtin.Int.intBits z)))
 |_=>none
section
variable {X:Cx}{C:Addr}{k o:Expr}{x f:Str}{px pos apos cpos:Pos}{gk go:GD}
def U8(i j:Nat)(c:A8 X.K C)(na:fB X.K C f)(hk:JD X k gk)(hs:nY k:=by first|(intro _ _;rfl))(hN:X.N[i]? =some x:=by rfl)(hv:pF X.env.scope x:=by trivial)
  (hd:BBT x:=by decide)(hcd:BBU x:=by decide)(hb:attributeBase e_ f X.env (eval e_ X.env)=eval e_ X.env:=by rfl):JD X (.Subscript (.Attribute e_ f apos) k pos) (U7 C i f j gk):=
 ⟨λB=>(Ls Lv (sP (cA hN hv hd hcd) hb) (hk.h B) hs).imp λO H Q hh=>by
 obtain⟨S,F,d,S',R,hg,q⟩:=hh;obtain⟨cc,h1,hg⟩:=aj hg;obtain⟨⟨d1,S1⟩,h2,hg⟩:=aj hg;obtain⟨ds,h3,hg⟩:=aj hg;cases d1 with
 |int n=>
  obtain⟨d2,h5,hg⟩:=aA hg;cases hg;obtain⟨a,ws,dx,e1,e2,e3⟩:=rL R h1;refine⟨.ref a,e1,a,C,dx,ws,_,rfl,e2,c,na,e3,S,F,_,_,R,h2,λv F1 H1 R1 st1 r1=>?_⟩;obtain⟨_,vs,e4,e5⟩:=Ey R1 h3;obtain⟨w',z1,z2⟩:=e5.dZ h5;rw[jo r1];exact .inl ⟨cc,vs,n,w',rfl,rfl,mX.of e4,z1,q w' F1 H1 R1 st1 z2⟩
 |_=>cases hg⟩
def P8(ho:JD X o go)(hb:attributeBase o "bit_length" X.env (eval o X.env)=eval o X.env:=by rfl)
  (hfew:((backTo cpos (starEach [] X.env)).all (λx=>!x.1) && (backToKw cpos (keywordEach [] X.env)).all (λx=>x.1.isSome) && decide (([]:BBC).length+([]:BBI).length+(if([]:BBI).isEmpty then 0 else 1)<30))=true:=by rfl)
  (hline:(apos.endLine == cpos.line)=true:=by rfl)(htr:backTo cpos (starEach [] X.env)=[]:=by rfl):
  JE X (.Call (.Attribute o "bit_length" apos) [] [] cpos) (eP MR (ah go aB)):=⟨λB=>by
 rintro pins s O H Q I ⟨S,F,u,S',R,hg,q⟩;obtain⟨⟨dl,S1⟩,h1,hg⟩:=aj hg;obtain⟨w,hf,hg⟩:=aA hg;cases hg;obtain⟨⟨d1,Sa⟩,k1,h1⟩:=aj h1;obtain⟨⟨dr,Sb⟩,kk,h1⟩:=aA h1;cases kk;cases h1;cases d1 with
 |int z=>
  cases hf;refine wpAny_Call_method hb hfew hline PySem.F.plainAttrs_int PySem.F.slot_int_bit_length PySem.F.type_int_bit_length (ez (ho.h B pins s O H (λv H1=>∃F1,Rel X.K B Sa O F1 H1/\Step S Sa O F H F1 H1/\Rep F1 v (.int z)) I ⟨S,F,_,Sa,R,k1,λv F1 H1 R1 st1 r1=>⟨F1,R1,st1,r1⟩⟩) ?_);rintro ov s1 ⟨x,H1,I1,rx,F1,R1,st1,r1⟩;cases r1;obtain⟨t,rfl⟩:∃t,ov= .int z t:=rx;refine⟨typeIs_int _ _ _,(λ_ e=>nomatch e),?_⟩;rw[htr];refine af8 rfl (wpAny_pure ?_);refine call_int_bit_length ⟨.int _,H1,I1.tok _,⟨_,rfl⟩,q _ F1 H1 R1 st1 (.int _)⟩
 |_=>cases hf⟩
end
structure qA where
 params:Arguments
 body:Expr
 scope:Scope
 x:Str
 pm:Value
def U9(T:qA)(c c':Addr)(ctv:Value):Obj:=W.kla_obj "<lambda>" lP T.params T.body T.scope [(T.x,c)] T.pm c' ctv
def Zx(H:Hp)(c':Addr):Prop:=∃P od vs t,H c'=some (.fy od (.own P))/\od.data= .fields vs/\vs[1]? =some (.str lP t)
def xQ(T:qA)(H:Hp)(p a:Addr):Prop:=∃c oc c' ctv,H p=some (.fy (U9 T c c' ctv) (.own p))/\H c=some (.fy oc (.own c))/\oc.data= .cell (some (.ref a))/\Zx H c'
theorem xQ.le{T:qA}{p:Addr}(k:∀b o u,H b=some (.fy o u)->H' b=some (.fy o u)):xQ T H p a->xQ T H' p a
 |⟨c,oc,c',ctv,h1,h2,h3,P,od,vs,t,h4,h5⟩=>⟨c,oc,c',ctv,k _ _ _ h1,k _ _ _ h2,h3,P,od,vs,t,k _ _ _ h4,h5⟩
def Gx{i j:Int}{c cv:Value}(l:AAL)(h:TriplesOk l)(e:codeAmong pos (l++[rawInt i,rawInt j,c])=some cv):codeAmong pos l=some cv\/cv=c:=by
 fun_induction TriplesOk l with
 |case1=>
  simp only[acy,rawInt,codeAmong]at e;split at e
  .cases e;exact .inr rfl
  .cases e
 |case2 a t b u x rest ih=>
  simp only[List.cons_append,codeAmong]at e ⊢;split at e
  .rename_i hc;rw[if_pos hc];exact .inl e
  .rename_i hc;rw[if_neg hc];exact ih h e
 |case3 l h1 h2=>exact h.elim
def adZ(T:qA)(c:Addr):TE:=λO H Q=>∀p c' ctv H',H p=none->(∀b o,H b=some o->H' b=some o)->H' p=some (.fy (U9 T c c' ctv) (.own p))->Zx H' c'->Q (.ref p) H'
section
variable {X:Cx}{params:Arguments}{body:Expr}{scope:Scope}{pos:Pos}{x:Str}{c cc P:Addr}
def Va(hP:(cc,P)∈X.base.life.ids)(hcode:X.env.code= .ref cc)(C:W.CodeHd X.base cc P)(hcl:closureFor scope X.env=pure [(x,c)])(hq:X.env.qual++"<lambda>" =lP)(hdef:defaultsOf params X.env=([],[]):=by rfl):
    PE X (.Lambda params body scope pos) (adZ ⟨params,body,scope,x,(X.mg "__name__").getD .none⟩ c):=by
  intro pins s O H Q I h;refine W.kla_eval hdef ?_;rw[hq];have hT:=I.tab _ hP;obtain⟨ps,e,t,z⟩:=I.hok P _ hT;obtain⟨bm,ob,b1,b2,b3,b4,b5,b6⟩:=I.mod.bmn;have Zy:=I.bk _ _ b3;have hgs:s.heap.Ns mainGlobals X.mg:=I.mod.glob.keeps I.bk;have hgP:mainGlobals≠P:=λq=>by
    obtain⟨o,es,ep,e2,hd,_⟩:=hgs;rw[q,e]at e2;cases e2;cases hd
  have hbP:bm≠P:=λq=>by rw[q,e]at Zy;cases Zy;cases b4
  have hbG:bm≠mainGlobals:=λq=>by
    obtain⟨o,es,ep,e2,hd,_⟩:=hgs;rw[q,e2]at Zy;cases Zy;rw[hd]at b6;cases b6
  have hb:s.heap.BuiltinsAt X.mg P:=⟨bm,ob,b1,b2,hbG,hbP,Zy,b4,b5,b6⟩
  cases hf:codeAmong pos ps.toList with
  |some cv=>
    obtain⟨c',oc,vs,t',rfl,h1,h2,h3⟩:=z pos cv hf;refine W.kla_makeFunctionHit hcl I.ok.glob hgs hcode (C.keeps I.bk) e t hf hb λctv h' tk k hsz=>?_;have hn:=I.hok.fresh hsz;exact⟨.ref h'.objs.size,_,I.laid (a:=h'.objs.size) (o:=.fy (U9 ⟨params,body,scope,x,_⟩ c c' ctv) (.own h'.objs.size)) (λb u q=>aaE _ (k b u q)) hsz ⟨aaZ _ rfl,_,aaZ _ rfl⟩,rfl,
      h _ c' ctv _ hn (λb o q=>by rw[aO (bx q hn)];exact q) aR ⟨P,oc,vs,t',by rw[aO (bx h1 hn)];exact h1,h2,h3⟩⟩
  |none=>
    refine W.kla_makeFunction hcl I.ok.glob hgs hcode (C.keeps I.bk) e t hf hgP hb λc' ctv h' tk hx hge hlt hrec htb=>?_;obtain⟨c2,oc,vs,t',e2,hoc,hd,hv⟩:=hrec;cases e2;have hc0:=I.hok.fresh hge;have hp0:H h'.objs.size=none:=I.hok.fresh (aaY hge (acz hlt));have npc:c'≠h'.objs.size:=aa1 hlt;generalize hfo:W.kla_obj "<lambda>" lP params body scope [(x,c)] ((X.mg "__name__").getD .none) c' ctv=fo;have kp:∀b o,b≠P->s.heap.get? b=some o->(h'.push fo).get? b=some o:=λb o nb q=>aaE _ (hx b o nb q);have same:∀b u,H b=some u->upd (upd H c' (.fy oc (.own P))) h'.objs.size (.fy fo (.own h'.objs.size)) b=some u:=λb u q=>by
      rw[aO (bx q hp0),aO (bx q hc0)];exact q
    have nP:∀b,H b=none->b≠P:=λb n q=>by rw[q,hT]at n;cases n
    have hcH:upd (upd H c' (.fy oc (.own P))) h'.objs.size (.fy fo (.own h'.objs.size)) c'=some (.fy oc (.own P)):=by rw[aO npc];exact aR
    have un:Un X.fs [] H (upd (upd H c' (.fy oc (.own P))) h'.objs.size (.fy fo (.own h'.objs.size))) s.heap (h'.push fo):=
      ⟨λb o q n _ _=>kp b o (nP b n) q,λb o q n _ _=>⟨o.slots,kp b o (nP b n) q⟩,
       λb o q n _=>by
        have lb:=aaU (aaX q) hge;rw[aO (aa1 (afP lb hlt)),aO (aa1 lb)];exact n,
       λb o q _=>by
        by_cases hb:b=P
        . exact⟨_,by rw[hb];exact aaE _ htb⟩
        . exact⟨o,kp b o hb q⟩,λb xs q=>same _ _ q,λb o u q=>same _ _ q,λb y q=>same _ _ q⟩
    refine⟨.ref h'.objs.size,_,I.un un λb u q=>?_,rfl,h _ c' ctv _ hp0 same (by rw[aR,<-hfo];rfl) ⟨P,oc,vs,t',hcH,hd,hv⟩⟩;by_cases hb1:b=h'.objs.size
    . subst hb1;rw[aR]at q;cases q;have nf:fo.isFreed=false:=by rw[<-hfo];rfl
      exact⟨aaZ _ nf,_,aaZ _ nf⟩
    . rw[aO hb1]at q
      by_cases hb2:b=c'
      . subst hb2;rw[aR]at q;cases q;exact⟨aaE _ hoc,_,aaE _ hoc⟩
      . rw[aO hb2]at q
        by_cases hb3:b=P
        . subst hb3
          rw[hT]at q;cases q;refine⟨_,aaE _ htb,?_,λpos' cv y=>?_⟩
          . rw[Array.toList_append];exact TriplesOk_snoc _ _ _ _ t
          . rw[Array.toList_append]at y
            rcases Gx _ t y with y|rfl
            . obtain⟨d,od,vs',t2,r1,r2,r3⟩:=z pos' cv y
              exact⟨d,od,vs',t2,r1,same _ _ r2,r3⟩
            . exact⟨c',oc,vs,t',rfl,hcH,hd,hv⟩
        . exact(I.hok b u q).stay (λd v hd' y=>kp d v (λz'=>by
            subst z';rcases hd' with r|r
            . exact hb3 r.symm
            . rw[hT]at r;cases r) y) (λd r=>same _ _ r) (λd xs r=>same _ _ r) λd o y r=>same _ _ r
end
def Zz(P:Program)(w:World)(K:AAD)(mg:AAF)(base:Heap)(N:BBB)(scope:Scope)(p:Addr)(cd:Value)(cl:List (Str×Addr))(A:Around)(outer:BBF)(s:Shared)(H:Hp):Cx where
 prog:=P
 w:=w
 K:=K
 mg:=mg
 base:=base
 A:=A.deeper (W.envX lP scope c_ p cd cl)
 N:=N
 s₀:=s
 H₀:=H
 env:=W.envX lP scope c_ p cd cl
 outer:=outer
 stack:=W.envX lP scope c_ p cd cl::outer
 ex:=[]
 calm:=true
 fn:=λ_=>false
 pn:=[]
 xe:=λ_ _=>False
structure P9(T:qA)(y1 y2:Str):Prop where
 kind:T.scope.kind= .function
 co:T.scope.isCoroutine=false
 gen:T.scope.isGenerator=false
 gZ:∀x∈T.scope.names,x.2≠.cell
 l1:T.scope.names.lookup y1=some .local
 l2:T.scope.names.lookup y2=some .local
 fx:T.scope.names.lookup T.x=some .free
 only:∀y∈T.scope.names,y.2= .free->y.1=T.x
 ne:y1≠y2
 bind:∀c c' ctv u1 u2,bindArgs (W.kla_fn "<lambda>" lP T.params T.body T.scope [(T.x,c)] T.pm (.ref c') ctv) ⟨[u1,u2],[]⟩=pure [(y1,u1),(y2,u2)]
section
variable {P:Program}{w:World}{K:AAD}{mg:AAF}{base:Heap}{T:qA}{y1 y2:Str}{gh:BBB}{k:Nat}{t:TE}{A:Around}{outer:BBF}{s:Shared}{H:Hp}{p a:Addr}{v1 v2:V}{u1 u2:Value}{gv:St}{Q:VK}{E:XK}
def Qa(S:P9 T y1 y2)(Zu:∀z∈gh,T.scope.names.lookup z=none)(Zt:gv.length=gh.length)
  (hb:∀(c:Addr)(cd:Value),dU k (A.deeper (W.envX lP T.scope c_ p cd [(T.x,c)]))->PE (Zz P w K mg base (y1::y2::T.x::gh) T.scope p cd [(T.x,c)] A outer s H) T.body t)
  (hr:dU (k+1) A)(e0:DQ P w K mg base A outer s H)(L:xQ T H p a)(r1:RelV v1 u1)(r2:RelV v2 u2)(hq:t (some v1::some v2::some (.ref a)::gv) H Q):
  codeAny (model P w) A (.call (.ref p) ⟨[u1,u2],[]⟩) (CR vK outer P w H s Q E) s:=by
 obtain⟨c,oc,c',ctv,h1,h2,h3,Pt,od,vs,t',h4,h5,h6⟩:=L;have hp:=(e0.hok p _ h1).1;have hcd:s.heap.CodeRec (.ref c') lP:=⟨c',od,vs,t',rfl,(e0.hok c' _ h4).1,h5,h6⟩
 have lim:s.heap.NoLimit:=e0.mod.nolimit.keeps λb o e=>(e0.bs b o e).1;refine W.kla_callFunE hr.depth hp rfl S.co S.gen rfl hcd ?_;rw[S.bind];refine wpAny_pure (wpAny_newFunctionEnv S.gZ (λx hx=>?_) (λh₁ hns hsb=>⟨lim.fresh _ hsb,?_⟩) S.kind)
 .rcases aaV.mp hx with rfl|hx
  .exact S.l1
  .cases aaO.mp hx;exact S.l2
 show codeAny _ _ (.expr T.body (W.envX lP T.scope c_ p (.ref c') [(T.x,c)])) _ _;have hk₁:∀b o,s.heap.get? b=some o->h₁.get? b=some o:=λb o e=>hsb.extBut b o (aa1 (aaX e)) (aaE _ e);have hcell:h₁.IsCell c (some (.ref a)):=⟨oc,hk₁ _ _ (e0.hok c _ h2).1,h3⟩
 have one:∀{x d},([(T.x,c)]:List (Str×Addr)).lookup x=some d->x=T.x/\d=c:=λ{x d} e=>by
  rw[acF]at e;split at e
  .rename_i q;cases e;exact⟨eq_of_beq q,rfl⟩
  .cases e
 have lkx:([(T.x,c)]:List (Str×Addr)).lookup T.x=some c:=by rw[acF,acS]
 have OM:∀b:Addr,b∉([]:BBE):=λb z=>by cases z
 have I:Inv (Zz P w K mg base (y1::y2::T.x::gh) T.scope p (.ref c') [(T.x,c)] A outer s H) [] (some v1::some v2::some (.ref a)::gv) H {s with heap:=h₁,toks:=s.toks+2}:=by
  refine⟨⟨e0.mod,S.kind,rfl,rfl,aaP _,λy z d h1 h2=>(one h1).1.trans (one h2).1.symm,λy hy=>?_,λy d z=>(by cases z),λ_=>hr.hd,Around.frames_deeper e0.frames,.inr ⟨rfl,rfl⟩,λb z=>absurd z (OM b),e0.bs,e0.Ft,λb _ _=>OM b,λb z=>absurd z (OM b),e0.rU,e0.KS,e0.tab⟩,
   rfl,e0.bare,Un.kept hk₁,⟨_,hns,λi y v g1 g2 g3=>?_⟩,λy d h=>?_,e0.hok.fresh (aaP _),λy d h=>?_,λq hq=>(by cases hq),e0.hok.kept hk₁,by show gv.length+3=gh.length+3;rw[Zt]⟩
  .rcases hy with hy|hy
   .exact absurd rfl (S.gZ _ (aco hy))
   .have e:y=T.x:=S.only _ (aco hy) rfl;exact⟨c,by rw[e];exact lkx⟩
  .match i,g1,g2 with
   |0,g1,g2=>
    cases g1;cases g2;refine⟨u1,r1,.inl ⟨S.l1,?_⟩⟩;show([(y2,u2),(y1,u1)]:List (Str×Value)).lookup y1=some u1;rw[acF,ad0.mpr S.ne,acF,acS]
   |1,g1,g2=>
    cases g1;cases g2;refine⟨u2,r2,.inl ⟨S.l2,?_⟩⟩;show([(y2,u2),(y1,u1)]:List (Str×Value)).lookup y2=some u2;rw[acF,acS]
   |2,g1,g2=>
    cases g1;cases g2;exact⟨.ref a,rfl,.inr ⟨.inr S.fx,c,lkx,hcell⟩⟩
   |i+3,g1,g2=>
    have:=Zu y (abU (show gh[i]? =some y from g1));rcases g3 with z|z|z<;>(rw[show(Zz P w K mg base (y1::y2::T.x::gh) T.scope p (.ref c') [(T.x,c)] A outer s H).env.scope.names.lookup y=none from this]at z;cases z)
  .obtain⟨_,rfl⟩:=one h;exact⟨_,hcell⟩
  .obtain⟨_,rfl⟩:=one h;exact .inr ⟨rfl,oc,h2⟩
 refine W.kla_codeExpr (ab3 (hb c (.ref c') (hr.deeper _) [] _ _ H Q I hq) (λu s' hu=>?_) λ_ _ y=>False.elim y);obtain⟨v,H',J,rv,q⟩:=hu;exact⟨v,H',J.os,J.bare,J.base,J.hok,rv,q⟩
end
section
variable {X:Cx}{T:qA}{y1 y2 f:Str}{gh:BBB}{i k:Nat}{t:TE}{ta:TA}{e1 e2:Expr}{p pos:Pos}
def Vb(T:qA)(gh:BBB)(i:Nat)(t:TE)(ta:TA):TE:=λO H Q=>∃pa a,O[i]? =some (some (.ref pa))/\xQ T H pa a/\ta O H λvs H1=>∃v1 v2 gv,vs=[v1,v2]/\xQ T H1 pa a/\gv.length=gh.length/\t (some v1::some v2::some (.ref a)::gv) H1 Q
def xQ.fnAt{pa:Addr}{P:Program}{w:World}{h:Heap}(L:xQ T H pa a)(ok:pO P w H h):W.FnAt pa h:=by
 obtain⟨c,oc,c',ctv,h1,_⟩:=L;exact⟨_,_,_,_,(ok pa _ h1).1⟩
def MS(S:P9 T y1 y2)(Zu:∀z∈gh,T.scope.names.lookup z=none)(hr:dU (k+1) X.A)
  (hb:∀(pa c:Addr)(cd:Value)(s:Shared)(H:Hp),dU k (X.A.deeper (W.envX lP T.scope c_ pa cd [(T.x,c)]))->PE (Zz X.prog X.w X.K X.mg X.base (y1::y2::T.x::gh) T.scope pa cd [(T.x,c)] X.A X.stack s H) T.body t)
  (ha:PA X [e1,e2] ta)(hN:X.N[i]? =some f)(hv:pF X.env.scope f)(hdb:BBT f)(hcd:BBU f)(he:starEach [e1,e2] X.env=(false,eval e1 X.env)::starEach [e2] X.env:=by rfl)(hpl:(backTo pos (starEach [e2] X.env)).any (·.1)=false:=by rfl):
  PE X (.Call (.Name f p) [e1,e2] [] pos) (Vb T gh i t ta):=by
 intro pins s O H Q I ⟨pa,a,hs,L0,h⟩;refine ac9 ?_;refine ab3 (cA (pos:=p) hN hv hdb hcd pins s O H (λv H1=>v= .ref pa/\H1=H) I ⟨.ref pa,hs,rfl,rfl⟩) (λu s1 hh=>?_) λ_ _ z=>z;obtain⟨v,H1,I1,r,ev,eH⟩:=hh;subst ev eH;obtain rfl:u=Value.ref pa:=r;refine W.callWith_F (L0.fnAt I1.hok) (ez (ha pos pins s1 O _ _ I1 h) λus s2 ⟨vs,H2,I2,r2,q⟩=>?_) he hpl;obtain⟨v1,v2,gv,rfl,L,gl,q⟩:=q;refine⟨L.fnAt I2.hok,?_⟩;cases r2 with
 |cons ra r2=>
 cases r2 with
 |cons rb r2=>
 cases r2;refine wpAny_call (ae2 (Qa (E:=E0) S Zu gl (λc cd=>hb pa c cd s2 H2) hr I2.TY L ra rb q) λr s' hq=>?_);cases r with
 |error e=>exact False.elim hq
 |ok fl=>
  cases fl with
  |ret u=>exact I2.after hq
  |next=>exact False.elim hq
  |brk=>exact False.elim hq
  |cont=>exact False.elim hq
end
def spL(K:AAD)(T:qA)(n ng:Nat)(fm:FM):Sp:=λvs H Q E=>(∃a v1 v2 p,vs=[.ref a,v1,v2,.ref p]/\xQ T H p a)/\PL K n ng fm vs H Q E
structure EG(P:Program)(w:World)(K:AAD)(mg:AAF)(base:Heap)(n:Nat)(x:Str)(ps:BBB)(ng:Nat)(T:qA)(fm:FM):Prop where
 ex:∃a d,jC P w K mg base vK n a d ps (spL K T ps.length ng fm)/\Binds K d ps []/\W.keepIn K (.ref a)=true/\mg x=some (.ref a)
theorem sR.le{K:AAD}{F H H':Hp}(k:∀b o,H b=some o->H' b=some o){v:V}:∀{u:U},sR K F H v u->sR K F H' v u
 |.s _,⟨a,e,h⟩=>⟨a,e,h.le λb o u z=>k b _ z⟩
 |.f _,h=>h
 |.t _,h=>h
 |.b _,⟨a,e,f,h⟩=>⟨a,e,f,h.le (λ_ _ z=>z) λo z=>k a o z⟩
 |.m _,h=>h
 |.v _,h=>h
def Post.of{F H4 F':Hp}{as:BBE}{outs:List MO}(k:∀b o,H b=some o->H4 b=some o)(p:Post F H4 F' H' as outs):Post F H F' H' as outs:=
 ⟨p.sub,⟨p.ext.le,λb o h n=>p.ext.keep b o (k b o h) n,λb o h n f=>p.ext.kj b o (k b o h) n f,λb o h=>p.ext.there b o (k b o h),λb o u h=>p.ext.fy b o u (k _ _ h)⟩,p.out⟩
theorem uD.of{H4 F':Hp}{v:V}(k:∀b o,H b=some o->H4 b=some o):∀{u:U},uD H4 F' H' v u->uD H F' H' v u
 |.t _,h=>h
 |.m _,⟨a,e,h0,r⟩=>⟨a,e,none_of (λb o z=>⟨o,k b o z⟩) h0,r⟩
 |.b _,h=>h
 |.v _,h=>h
 |.s _,h=>h
 |.f _,h=>h
def Inv.freeze{X:Cx}{pins:AAG}{O:St}{s:Shared}{c:Addr}{oc:Obj}{v:BBP}(I:Inv X pins O H s)(hc:X.env.cells.lookup x=some c)(hn:H c=none)(hab:X.s₀.heap.objs.size<=c)(ho:s.heap.get? c=some oc)(hd:oc.data= .cell v):
  Inv {X with fn:=λ_=>false} pins O (upd H c (.fy oc (.own c))) s:=by
 have up:∀b o,H b=some o->upd H c (.fy oc (.own c)) b=some o:=λb o q=>by rw[aO (bx q hn)];exact q
 refine⟨⟨I.ok.mod,I.ok.kind,I.ok.glob,I.ok.blt,I.ok.above,I.ok.inj,I.ok.has,(λy d z=>by cases z),I.ok.hd,I.ok.frames,I.ok.stk,I.ok.WJ,I.ok.bs,I.ok.Ft,I.ok.B5,I.ok.DJ,I.ok.rU,I.ok.KS,I.ok.tab⟩,I.os,I.bare,
  ⟨I.base.keep,I.base.slot,λb o e n hx=>?_,I.base.there,λb xs e=>up _ _ (I.base.tups b xs e),λb o u e=>up _ _ (I.base.vF b o u e),λb q e=>up _ _ (I.base.xH b q e)⟩,I.loc,I.cell,?_,λy d e=>?_,λp hp=>?_,I.hok.RI hn ⟨ho,oc,ho⟩,I.len⟩
 .rw[aO (aa1 (aaU (aaX e) hab))];exact I.base.free b o e n hx
 .show upd H c _ X.env.locals=none;rw[aO (acH (I.Rx x c hc))];exact I.free
 .by_cases hd':d=c
  .rw[hd'];exact .inr ⟨rfl,oc,aR⟩
  .rw[aO hd'];exact(I.kN y d e).imp_right λz=>⟨rfl,z.2⟩
 .obtain⟨e,n,ne,nf,d⟩:=I.pin p hp;have hpc:p.1≠c:=λz=>by rw[z,ho]at e;cases e;exact d v hd
  exact⟨e,by rw[aO hpc];exact n,ne,nf,d⟩
structure DfL(K:AAD)(mg:AAF)(x:Str)(st:Stmt)(cc Pt:Addr):Prop where
 ex:∃f oc od kV doc pm an ct osl,K.lookup f=some ⟨oc,od,.func (W.fnOf x x (jl st) (dh st) (aI st) .none kV doc pm an (.ref cc) ct),osl⟩/\W.codeIn K (.ref cc) x=true/\W.keepIn K (.ref f)=true/\mg x=some (.ref f)/\W.codeHdIn K cc Pt=true
section
variable {P:Program}{w:World}{K:AAD}{mg:AAF}{base:Heap}
def qC{vs':List V}{us':List U}(h:addrs vs us=addrs vs' us')(v:V)(u:U):addrs (v::vs) (u::us)=addrs (v::vs') (u::us'):=by
 cases v<;>cases u<;>first|exact h|exact congrArg (List.cons _) h
def ad1{g x0 x1 x2:Str}{cc Pt:Addr}{k j:Nat}{fm':FM}{ps':BBB}{params:Arguments}{body:Expr}{scope:Scope}{lp pg p0 p1 p2 cp rp:Pos}(D:DfL K mg x st cc Pt)(Sc:bw [x0,x1,x2] [x0,x1,x2] (aI st))
  (C:EG P w K mg base j g ps' ng ⟨params,body,scope,x0,(mg "__name__").getD .none⟩ fm')(hT:(cc,Pt)∈base.life.ids)
  (hf:∀us r,fm us=some r->∃o u1 u2 gs,us= .b o::u1::u2::gs/\∀p,fm' (.b o::u1::u2 :: .f p::gs)=some r)
  (hst:dh st=[.Return (some (.Call (.Name g pg) [.Name x0 p0,.Name x1 p1,.Name x2 p2,.Lambda params body scope lp] [] cp)) rp]:=by rfl)
  (hx:(aI st).names.lookup x0=some .cell:=by rfl)(h1:(aI st).names.lookup x1=some .local:=by rfl)(h2:(aI st).names.lookup x2=some .local:=by rfl)(hg:(aI st).names.lookup g=some .globalImplicit:=by rfl)
  (hcl:∀L f,∃c,closureFor scope (envOfC x (aI st) L f (.ref cc))=pure [(x0,c)]/\(cellsFrom (L+1) (aI st).names []).lookup x0=some c:=by intro L f;exact⟨_,rfl,rfl⟩)
  (hq:x++".<locals>." ++"<lambda>" =lP:=by rfl)(hdef:∀env,defaultsOf params env=([],[]):=by intro _;rfl)(hps:ps'.length=4:=by rfl)
  (hdb:∀y∈[x0,x1,x2,g],BBT y/\BBU y:=by decide)
  (hjk:j<=k:=by lia)(bd:Bd x st [x0,x1,x2]:=by intro _ _ _ _ _ _ us hl;rcases us with _|⟨_,_|⟨_,_|⟨_,_|⟨_,_⟩⟩⟩⟩<;>first|rfl|cases hl):UY P w K mg base (k+1) x [x0,x1,x2] ng fm:=by
 obtain⟨f,oc,od,kV,doc,pm,an,ct,osl,lk,hcd,kp,m,hhd⟩:=D.ex;obtain⟨fa,fd',G,bG,kG,mG⟩:=C.ex;refine⟨f,_,⟨λvs H Q E h=>h.1,λA outer s H args us vs Q E hr e0 hb r Lh=>?_⟩,.all (bd kV doc pm an (.ref cc) ct),kp,m⟩;have hl:=Lh.1;have KX:K.In s.heap:=e0.mod.WI.keeps λb o e=>(e0.bs b o e).1;have lim:s.heap.NoLimit:=e0.mod.nolimit.keeps λb o e=>(e0.bs b o e).1;have hkind:∀y∈[x0,x1,x2].zip us,(aI st).names.lookup y.1=some .local\/((aI st).names.lookup y.1=some .cell/\((cellsFrom (c_+1) (aI st).names []).lookup y.1).isSome=true):=λ⟨n,v⟩ hy=>by
  rcases Sc.par n (agi hy).1 with q|q
  .exact .inl q
  .exact .inr ⟨q,af6 _ _ _ (.inl q)⟩
 refine codeAny_call_function hr.depth (KX _ _ lk) rfl Sc.co Sc.gen rfl (W.codeRec_of KX hcd) (hb _ _ _ _ ?_);refine wpAny_newFunctionEnv_cells Sc.kind hkind λenv he s1 x=>?_;subst he;refine⟨lim.keeps x.toInCall.keep,codeAny_func ?_⟩;have I:=(Bf (CX:=vK) (E:=E) Sc hr.hd e0 hl r x).yF λ_ _=>False;refine abO λng=>?_;obtain⟨_,gv,F,us',rr,outs,gl,sb,ar,nd,hfm,q⟩:=Lh;obtain⟨ou,u1,u2,gs,rfl,hf'⟩:=hf us' _ hfm;obtain⟨v0,v1,v2,rfl⟩:∃v0 v1 v2,vs=[v0,v1,v2]:=by
  rcases vs with _|⟨v0,_|⟨v1,_|⟨v2,_|⟨_,_⟩⟩⟩⟩<;>first|exact⟨_,_,_,rfl⟩|cases hl
 cases ar with
 |cons a0 ar=>
 cases ar with
 |cons a1 ar=>
 cases ar with
 |cons a2 ar=>
 obtain⟨a,rfl,f0,at0⟩:=a0;obtain⟨c,hclo,hlk⟩:=hcl c_ f;have hn:H c=none:=(I.kN _ c hlk).resolve_right λz=>by cases z.1
 obtain⟨mm,_,hloc⟩:=id I.loc;obtain⟨u,ru,lo⟩:=hloc 0 x0 (.ref a) rfl rfl (.inr (.inl hx));cases(show u= .ref a from ru);obtain⟨ZA,ho,hd⟩:s1.heap.IsCell c (some (.ref a)):=by
  rcases lo with⟨z,_⟩|⟨_,c2,e2,z⟩
  .rw[show(aI st).names.lookup x0=some .local from z]at hx;cases hx
  .cases hlk.symm.trans e2;exact z
 have I':=I.freeze hlk hn (I.ok.Rv _ c rfl hlk) ho hd;have J:=nW (Fv (pos:=rp) (uA (X:={(vI vK P w K mg base [x0,x1,x2] _ (aI st) f (.ref cc) A outer s H E).K2 with fn:=λ_=>false}) (p:=pg) (pos:=cp) (G.mono hjk) (hr.deeper _) hg mG kG bG .nil yM
  (dN (cA (i:=0) (x:=x0) (pos:=p0) rfl (.inr (.inl hx)) (hdb x0 (by simp)).1 (hdb x0 (by simp)).2) (dN (cA (i:=1) (x:=x1) (pos:=p1) rfl (.inl h1) (hdb x1 (by simp)).1 (hdb x1 (by simp)).2) (dN (cA (i:=2) (x:=x2) (pos:=p2) rfl (.inl h2) (hdb x2 (by simp)).1 (hdb x2 (by simp)).2)
   (dN (Va (pos:=lp) (params:=params) (body:=body) hT rfl (W.codeHd_of_K e0.mod.WI hhd) hclo hq (hdef _)) iI)))) (hdb g (by simp)).1))
 rw[<-hst]at J;refine ng (ab3 (J [] s1 (start [x0,x1,x2] [.ref a,v1,v2]) _ {nx:=λ_ _=>False,rt:=Q} I' ?_) (λfl s' hs=>?_) λe s' hs=>False.elim hs)
 .refine⟨.ref a,rfl,v1,rfl,v2,rfl,λp c' ctv H4 hp same hpf hLC=>?_⟩;have k4:∀b o,H b=some o->H4 b=some o:=λb o z=>same b o (by rw[aO (bx z hn)];exact z);have ea:addrs ([.ref a,v1,v2,.ref p]++gv) (.b ou::u1::u2 :: .f p::gs)=addrs ([.ref a,v1,v2]++gv) (.b ou::u1::u2::gs):=qC (qC (qC (show addrs (.ref p::gv) (.f p::gs)=addrs gv gs by simp[addrs]) v2 u2) v1 u1) (.ref a) (.b ou);refine⟨⟨a,v1,v2,p,rfl,c,ZA,c',ctv,hpf,same _ _ aR,hd,hLC⟩,?_⟩;refine⟨by rw[hps];rfl,gv,F,_,rr,outs,gl,λb o z=>k4 b o (sb b o z),.cons (sR.le (u:=.b ou) k4 ⟨a,rfl,f0,at0⟩) (.cons (sR.le k4 a1) (.cons (sR.le k4 a2) (.cons (show sR K F H4 (.ref p) (.f p) from rfl) (Paired.DI ar λ_ _ z=>sR.le k4 z)))),?_,hf' p,λv F' H' po rn=>q v F' H' (Post.of k4 ?_) (rn.of k4)⟩
  .show(addrs ([.ref a,v1,v2,.ref p]++gv) _).Nodup;rw[ea];exact nd
  .have po:Post F H4 F' H' (addrs ([.ref a,v1,v2,.ref p]++gv) (.b ou::u1::u2 :: .f p::gs)) outs:=po;rw[ea]at po;exact po
 .cases fl with
  |ret u=>
   obtain⟨v,O',H',J,rv,q⟩:=hs;exact⟨v,H',J.os,J.bare,J.base,J.hok,rv,q⟩
  |next=>obtain⟨_,_,_,q⟩:=hs;exact False.elim q
  |brk=>obtain⟨_,_,_,q⟩:=hs;exact False.elim q
  |cont=>obtain⟨_,_,_,q⟩:=hs;exact False.elim q
end
def ZC{o:MO}:(lent (.ref a::vs) (.b o::us))[0]? =some (some a):=by simp[lent]
section
variable {P:Program}{w:World}{K:AAD}{mg:AAF}{base:Heap}
def ad3{N:BBB}{k:Nat}{g:Addr->GS}{T:qA}(D:Df K mg x st)(Sc:bw N ps (aI st))
  (hf:∀us r,fm us=some r->∃o u1 u2 p gs,us= .b o::u1::u2 :: .f p::gs/\bf N.length (g p) us=some r)
  (hb:∀(f:Addr)(cdv:Value)(A:Around)(outer:BBF)(s:Shared)(H:Hp)(E:XK)(p a:Addr)(B:Base),dU k (A.deeper (envOfC x (aI st) c_ f cdv))->xQ T B.H p a->B.P[0]? =some (some a)->
   vG (vI vK P w K mg base N x (aI st) f cdv A outer s H E).K2 (dh st) (tO K B (g p)))
  (hn:ps.length+ng<=N.length:=by decide)(hgs:∀x∈(N.drop ps.length).take ng,(aI st).names.lookup x=none:=by decide +kernel)
  (bd:Bd x st ps:=by trivial):EG P w K mg base (k+1) x ps ng T fm:=by
 obtain⟨f,fd,F,m⟩:=D.ex;refine⟨f,fd,F.ok Sc (λvs H Q E h=>h.2.1) λcdv A outer s H vs Q E hr h=>?_,F.binds bd,F.kp,m⟩;obtain⟨⟨a,v1,v2,p,rfl,L⟩,hlen,gv,F0,us,r,outs,gl,sb,ar,nd,hfm,q⟩:=h;obtain⟨o,u1,u2,p',gs,rfl,hrun⟩:=hf us _ hfm;cases id ar with
 |cons a0 W6=>
 cases W6 with
 |cons a1 W6=>
 cases W6 with
 |cons a2 W6=>
 cases W6 with
 |cons a3 W6=>
 cases(show V.ref p= .ref p' from a3);subst gl;obtain⟨s1,s2⟩:=Et (sc:=aI st) hlen hn hgs;exact⟨_,(hb f cdv A outer s H E p a ⟨lent ([.ref a,v1,v2,.ref p]++gv) (.b o::u1::u2 :: .f p::gs),F0,H⟩ hr L (ZC (o:=o))).gh,start N _,s1,s2,yj sb ar nd hrun q⟩
def MT{n:Nat}{T:qA}(D:Df K mg x st)(z:∀us,fm us=none)(bd:Bd x st ps:=by trivial):EG P w K mg base n x ps ng T fm:=by
 obtain⟨f,fd,F,m⟩:=D.ex;have no:∀vs H Q E,¬spL K T ps.length ng fm vs H Q E:=λvs H Q E ⟨_,_,gv,F,us,r,outs,_,_,_,_,e,_⟩=>by rw[z us]at e;cases e
 exact⟨f,fd,⟨λvs H Q E h=>absurd h (no vs H Q E),λA outer s H args us vs Q E _ _ _ _ h=>absurd h (no vs H Q E)⟩,F.binds bd,F.kp,m⟩
def EG.mono{j k ng:Nat}{x:Str}{ps:BBB}{fm:FM}{T:qA}(c:EG P w K mg base j x ps ng T fm)(h:j<=k):EG P w K mg base k x ps ng T fm:=
 let⟨a,d,G,r⟩:=c.ex;⟨a,d,G.mono h,r⟩
end
noncomputable def isFn(S:SS)(i:Nat)(p:Addr):Bool:=match S[i]? with
 |some (some (.f q))=>q == p
 |_=>false
def HP{B:Base}{O:St}{F:Hp}{i:Nat}{p:Addr}(R:Rel K B S O F H)(h:isFn S i p=true):S[i]? =some (some (.f p))/\O[i]? =some (some (.ref p)):=by
 unfold isFn at h;split at h
 .rename_i q e;cases eq_of_beq h;obtain⟨v,h1,h2⟩:=R.rep i _ e;cases(show v= .ref p from h2);exact⟨e,h1⟩
 .cases h
def Gy(i:Nat)(p:Addr):GE:=λS=>if isFn S i p then some (.f p,S) else none
def CY(f:FM)(g1 g2:GD)(i:Nat)(p:Addr)(gh:BBJ):GE:=bq f (AD (cG (au 0) (aW g1 (aW g2 (cG (Gy i p) bQ)))) gh)
def MU(f:FM)(gu:GU)(i:Nat)(p:Addr)(gh:BBJ):GE:=λS=>if isFn S i p then bq f (AD (λS=>(gu S).map λq=>(q.1++[.v 0],q.2)) gh) S else none
section
variable {X:Cx}{B:Base}{T:qA}{p a:Addr}{k j:Nat}{ps:BBB}{gh:BBJ}{fm:FM}
def Vc(i:Nat)(p:Addr)(hN:X.N[i]? =some x)(hv:pF X.env.scope x)(hd:BBT x)(hcd:BBU x):JE X (.Name x pos) (Gy i p):=⟨λB=>(cA hN hv hd hcd).imp λO H Q hh=>by
 obtain⟨S,F,u,S',R,hg,q⟩:=hh;obtain⟨hi,hg⟩:=cC hg;cases hg;exact⟨.ref p,(HP R hi).2,q _ F H R (Step.refl ..) rfl⟩⟩
def EH{g:GE}(h:cG g gu S=some (us,S')):∃u S1 MB,g S=some (u,S1)/\gu S1=some (MB,S')/\us=u::MB:=by
 obtain⟨⟨u,S1⟩,q,h⟩:=aj h;obtain⟨⟨MB,S2⟩,q1,h⟩:=aA h;cases h;exact⟨u,S1,MB,q,q1,rfl⟩
def EI{g:GD}(h:aW g gu S=some (us,S')):∃d S1 MB,g S=some (d,S1)/\gu S1=some (MB,S')/\us= .t d::MB:=by
 obtain⟨⟨u,S1⟩,q,h⟩:=aj h;obtain⟨⟨MB,S2⟩,q1,h⟩:=aA h;cases h;exact⟨u,S1,MB,q,q1,rfl⟩
def Vd{g1 g2:GD}{i:Nat}(hu:cG (au 0) (aW g1 (aW g2 (cG (Gy i p) bQ))) S=some (us,S')):∃u0 d1 d2 S1,au 0 S=some (u0,S1)/\us=[u0,.t d1,.t d2,.f p]:=by
 refine abO λng=>?_;obtain⟨u0,S1,MB,q0,h1,rfl⟩:=EH hu;obtain⟨d1,S2,RP,_,h2,rfl⟩:=EI h1;obtain⟨d2,S3,us3,_,h3,rfl⟩:=EI h2;obtain⟨u3,S4,us4,q4,h4,rfl⟩:=EH h3;cases h4;obtain⟨_,q4⟩:=cC q4;cases q4;exact ng ⟨u0,d1,d2,S1,q0,rfl⟩
def Gz{x0 x3:Str}{e1 e2:Expr}{g1 g2:GD}{pp p0 p3:Pos}(i:Nat)(gh:BBJ)(c:EG X.prog X.w X.K X.mg X.base j x ps gh.length T fm)(hr:dU k X.A)(hL:xQ T B.H p a)(hB:B.P[0]? =some (some a))(h1:JD X e1 g1)(h2:JD X e2 g2)(hj:j<=k:=by lia)(hg:Gl X x:=by rfl)
  (hN0:X.N[0]? =some x0:=by rfl)(hv0:pF X.env.scope x0:=by trivial)(hN3:X.N[i]? =some x3:=by rfl)(hv3:pF X.env.scope x3:=by trivial)(hps:ps.length=4:=by rfl)
  (hd:BBT x/\BBT x0/\BBU x0/\BBT x3/\BBU x3:=by decide)
  (s1:starEach [.Name x0 p0,e1,e2,.Name x3 p3] X.env=(false,eval (.Name x0 p0) X.env)::starEach [e1,e2,.Name x3 p3] X.env:=by rfl)(s2:starEach [e1,e2,.Name x3 p3] X.env=(false,eval e1 X.env)::starEach [e2,.Name x3 p3] X.env:=by rfl)(s3:starEach [e2,.Name x3 p3] X.env=(false,eval e2 X.env)::starEach [.Name x3 p3] X.env:=by rfl)
  (hpl:(backTo pos (starEach [e1,e2,.Name x3 p3] X.env)).any (·.1)=false:=by rfl):
  PE X (.Call (.Name x pp) [.Name x0 p0,e1,e2,.Name x3 p3] [] pos) (tE X.K B (CY fm g1 g2 i p gh)):=by
 obtain⟨fa,fd,G,b,kp,m⟩:=c.ex;have J4:JU X [.Name x0 p0,e1,e2,.Name x3 p3] (cG (au 0) (aW g1 (aW g2 (cG (Gy i p) bQ)))):=bJ (bD 0 hN0 hv0 hd.2.1 hd.2.2.1) (aG h1 (aG h2 (bJ (Vc i p hN3 hv3 hd.2.2.2.1 hd.2.2.2.2) aX) s3) s2) s1;refine(uA (G.mono hj) hr hg m kp b .nil yM (J4.h B) hd.1 s1 hpl).imp λO H Q hh=>BC (λS us S' z=>(J4.len _ _ _ z).trans hps.symm) (λS S' us vs F F' H' R hu R1 rr z=>?_) hh;show spL X.K T ps.length gh.length fm (vs++[]) H' Q E0;rw[ad7];refine⟨?_,z⟩;refine abO λng=>?_;obtain⟨e0,o,hS⟩:=R.par 0 a hB;obtain⟨u0,d1,d2,S1,q0,rfl⟩:=Vd hu;have e:u0= .v 0:=by
  simp only[au,hS]at q0;cases q0;rfl
 subst e;cases rr with
 |cons r0 rr=>
 cases rr with
 |cons r1 rr=>
 cases rr with
 |cons r2 rr=>
 cases rr with
 |cons r3 rr=>
 cases rr;obtain⟨z0,_⟩:=r0;rw[e0]at z0;cases z0;cases(show _=V.ref p from r3);exact ng ⟨a,_,_,p,rfl,hL.le R1.ext.fy⟩
def Qc{f y1 y2:Str}{gn:BBB}{e1 e2:Expr}{gL:GE}{pf:Pos}(i:Nat)(gh:BBJ)(S:P9 T y1 y2)(hgn:∀z∈gn,T.scope.names.lookup z=none)(hr:dU (k+1) X.A)
  (hb:∀(pa c:Addr)(cd:Value)(s:Shared)(H:Hp),dU k (X.A.deeper (W.envX lP T.scope c_ pa cd [(T.x,c)]))->JE (Zz X.prog X.w X.K X.mg X.base (y1::y2::T.x::gn) T.scope pa cd [(T.x,c)] X.A X.stack s H) T.body gL)
  (hf:∀us r,fm us=some r->bf (gn.length+3) (bU gL) us=some r)(hL:xQ T B.H p a)(hB:B.P[0]? =some (some a))(ha:JU X [e1,e2] gu)(Zt:gh.length=gn.length:=by rfl)(hN:X.N[i]? =some f:=by rfl)(hv:pF X.env.scope f:=by trivial)
  (hdb:BBT f:=by decide)(hcd:BBU f:=by decide)(he:starEach [e1,e2] X.env=(false,eval e1 X.env)::starEach [e2] X.env:=by rfl)(hpl:(backTo pos (starEach [e2] X.env)).any (·.1)=false:=by rfl):
  PE X (.Call (.Name f pf) [e1,e2] [] pos) (tE X.K B (MU fm gu i p gh)):=
 (MS (t:=λO H Q=>∃B',tE X.K B' gL O H Q) S hgn hr (λpa c cd s H hr pins s' O H' Q I ⟨B',z⟩=>(hb pa c cd s H hr).h B' pins s' O H' Q I z) (ha.h B) hN hv hdb hcd he hpl).imp λO H Q hh=>by
 obtain⟨S0,F0,u,S',R,hg,q⟩:=hh;obtain⟨hi,hg⟩:=cC hg;obtain⟨us',S1,ws,outs,h1,hc,h2,h3,h4⟩:=zH hg;obtain⟨⟨us3,S3⟩,hu3,hq⟩:=aA h1;cases hq;obtain⟨⟨us,S2⟩,hu,hq⟩:=aA hu3;cases hq;refine⟨p,a,(HP R hi).2,hL.le R.ext.fy,S0,F0,us,_,R,hu,λvs F1 H1 R1 st1 rr=>?_⟩;obtain⟨e0,o,hS⟩:=R1.par 0 a hB;have hlen:vs.length=2:=by rw[rr.length,ha.len _ _ _ hu];rfl
 obtain⟨v1,v2,rfl⟩:∃v1 v2,vs=[v1,v2]:=by
  rcases vs with _|⟨v1,_|⟨v2,_|⟨_,_⟩⟩⟩<;>first|exact⟨_,_,rfl⟩|cases hlen
 obtain⟨_,gv,F,ws',r',afz,gl,sb,ar,nd,hfm,q'⟩:=tu (n:=3) R1 st1 (sZ rr (.cons (show gI X.K B _ O H F1 H1 (.ref a) (.v 0) from⟨e0,_,hS⟩) .nil)) rfl hc h2 h3 h4 q;have t:=Ct (yj (N:=y1::y2::T.x::gn) sb ar nd (hf _ _ hfm) q');have e:start (y1::y2::T.x::gn) ([v1,v2]++[.ref a]++gv)=some v1::some v2::some (.ref a)::gv.map some:=by
  unfold start;have:(y1::y2::T.x::gn).length-([v1,v2]++[V.ref a]++gv).length=0:=by simp;lia
  rw[this];simp
 rw[e]at t;exact⟨v1,v2,gv.map some,rfl,hL.le R1.ext.fy,by rw[aar,gl,Zt],_,t⟩
end
section
variable {X:Cx}{B:Base}{st:Stmt}{rest b1 b2:BBH}{s1 s2:GS}{q1:GT}{c e:Expr}{g:GE}{pos pos':Pos}{x:Str}
def rM(h1:PS X st (tO X.K B s1))(h2:vG X rest (tO X.K B s2)):vG X (st::rest) (tO X.K B (aP s1 s2)):=(qb h1 h2).imp λD O H=>Hs
def MV(hc:JT X c q1)(ha:vG X b1 (tO X.K B s1))(hb:vG X b2 (tO X.K B s2)):PS X (.If c b1 b2 pos) (tO X.K B (ju q1 s1 s2)):=(Rz (hc.h B) ha hb).imp λD O H=>LK
def MW(he:PE X e (tE X.K B g)):PS X (.Return (some e) pos) (tO X.K B (bU g)):=(Fv he).imp λD O H=>Ct
def MX(hN:X.N.Nodup)(i:Nat)(he:PE X e (tE X.K B g))(hi:X.N[i]? =some x:=by rfl)(hx:Loc X.env.scope x:=by trivial)(hs:swapsWith e (some (.Name x pos')) pos.line X.env=pure false:=by rfl)
  (hf:X.fn x=true\/X.env.scope.names.lookup x=some .local:=by trivial):PS X (.Assign [.Name x pos'] e pos) (tO X.K B (cD i g)):=(Fw hN hi hx he hs hf).imp λD O H h=>Cs h
end
def Qd(st:Stmt)(x:Str)(pm:Value):qA:=match dh st with
 |[.Return (some (.Call _ [_,_,_,.Lambda ps b sc _] _ _)) _]=>⟨ps,b,sc,x,pm⟩
 |_=>⟨⟨[],[],none,[],[],none,[]⟩,.Name "" ⟨0,0,0,0⟩,aI st,x,pm⟩
def Ve{mg:AAF}{h:Heap}{f cc Pt:Addr}{oc:Value}{od an:BBN}{osl:Array (BBP)}{kV doc pm ct:Value}(X:K.In h)(G:h.Ns mainGlobals mg)(a:W.nsIn K mainGlobals x=some (some (.ref f)))
  (l:K.lookup f=some ⟨oc,od,.func (W.fnOf x x (jl st) (dh st) (aI st) .none kV doc pm an (.ref cc) ct),osl⟩)(c:W.codeIn K (.ref cc) x=true)(k:W.keepIn K (.ref f)=true)(y:W.codeHdIn K cc Pt=true):DfL K mg x st cc Pt:=
 ⟨f,oc,od,kV,doc,pm,an,ct,osl,l,c,k,agx X G a,y⟩
end L2
end
section
namespace Sw
open L2
noncomputable def ZD:Str:="abcdefghijklmnopqrstuvwxyz"
def ZE(y:Str):Bool:=!(Builtin.Str.occurrences ZD y 0 ZD.length 1).isEmpty
noncomputable def signs(z:Str):BBB:=z.cps.toList.map λc=>(⟨#[c]⟩:Str)
def nameB:D->Bool
 |.str z=>decide (1<=z.length) && decide (z.length<=8) && (signs z).all ZE
 |_=>false
end Sw
end
section
namespace L2
section
variable (S:SS)(d:D)(i:Nat)(g ga gb gc:GD)(gA:GA)
@[simp] theorem ad4(ds:List D)(k:Int):ac3 [.lst ds,.int k]=if 0<=k/\k.toNat<=100000/\ds.length*k.toNat<=100000 then some (.m (.lst (List.replicate k.toNat ds).flatten)) else none:=rfl
@[simp] theorem W7(es ds:List D):eY [.lst es] (.lst ds)=if ds.length+es.length<=100000 then some (.cI,.lst (ds++es)) else none:=rfl
def k9(cap:BBJ)(gi:GI)(q:GT):cM cap gi q g S=(gi S).bind λp=>if p.1.length<=100000 then(bK cap q g p.1 p.2 []).map λr=>(.m (.lst r.1),r.2) else none:=rfl
@[simp] theorem abw(x y:Int):Bv [.int x,.int y]=AAC (if y<x then y else x):=rfl
end
end L2
namespace Sq
open L2 Sw
theorem HQ{bd:GB}{body:GS}:∀(ds:List D)(I:List D->SS->Prop)(S:SS),I ds S->(∀d r S,I (d::r) S->∃S1 S2,bd d S=some S1/\body S1=some (.nx S2)/\I r S2)->∃S',loop bd body ds S=some (.nx S')/\I [] S'
 |[],I,S,h,_=>⟨S,rfl,h⟩
 |d::ds,I,S,h,k=>by
  obtain⟨S1,S2,e1,e2,h2⟩:=k d ds S h;obtain⟨S',e,h'⟩:=HQ ds I S2 h2 k;refine⟨S',?_,h'⟩;show((bd d S).bind λS1=>(body S1).bind _)=_;rw[e1,aaN,e2,aaN];exact e
def lg(cap:BBJ)(q:GT)(g:GD)(d:D)(ds:List D)(S:SS)(acc:List D):bK cap q g (d::ds) S acc=(bK cap q g [d] S acc).bind λr=>bK cap q g ds r.2 r.1:=by
 simp only[bK];cases dz S cap with
 |none=>rfl
 |some us=>
  simp only[aaN];split
  .cases bY S us with
   |none=>rfl
   |some ws=>
    simp only[aaN];cases q (AAA d::ws.map some) with
    |none=>rfl
    |some p=>
     simp only[aaN];split
     .cases g p.2 with
      |none=>rfl
      |some r=>
       simp only[aaN];cases bN (.t d::ws) r.2 with
       |none=>rfl
       |some outs=>
        simp only[aaN];cases wb us outs S with
        |none=>rfl
        |some S'=>rfl
     .cases bN (.t d::ws) p.2 with
      |none=>rfl
      |some outs=>
       simp only[aaN];cases wb us outs S with
       |none=>rfl
       |some S'=>rfl
  .rfl
theorem HR{cap:BBJ}{g:GD}:∀(ds:List D)(I:List D->List D->SS->Prop)(S:SS)(acc:List D),I ds acc S->(∀d r acc S,I (d::r) acc S->∃acc' S',bK cap bB g [d] S acc=some (acc',S')/\I r acc' S')->∃acc' S',bK cap bB g ds S acc=some (acc',S')/\I [] acc' S'
 |[],I,S,acc,h,_=>⟨acc,S,rfl,h⟩
 |d::ds,I,S,acc,h,k=>by
  obtain⟨a1,S1,e1,h1⟩:=k d ds acc S h;obtain⟨a2,S2,e2,h2⟩:=HR ds I S1 a1 h1 k;exact⟨a2,S2,by rw[lg,e1];exact e2,h2⟩
def MY{α:Type}{l:List α}{i:Int}{x:α}(h0:0<=i)(h:l[i.toNat]? =some x):dZ l i=some x:=by
 have hl:=(abv.mp h).1;unfold dZ Hg;rw[if_pos h0,if_pos a_];exact h
def Vf{α:Type}{l:List α}{i:Int}(h0:0<=i)(h1:i<l.length):∃x,dZ l i=some x/\l[i.toNat]? =some x:=by
 have h:i.toNat<l.length:=by lia
 exact⟨l[i.toNat],MY h0 (aaS h),aaS h⟩
noncomputable abbrev fd(c i l:Int):MO:=.lst [.int c,.int i,.int l]
end Sq
end
section
namespace L2
@[simp] theorem ad5(n:Nat)(bs:Of)(ds:List D)(S:SS):F6 n bs (.tup ds) S=if ds.length=n then bs ds S else none:=rfl
@[simp] theorem abx(b:GB)(bs:Of)(d:D)(r:List D)(S:SS):sr b bs (d::r) S=(b d S).bind λS1=>bs r S1:=rfl
@[simp] theorem ad6(S:SS):Jp [] S=some S:=rfl
@[simp] theorem aby(S:SS):Ef S=some (.m (.dct []),S):=rfl
@[simp] theorem ZF(z:Str):jD (.str z)=true:=rfl
@[simp] theorem ZG(b:Bool):jD (.bl b)=true:=rfl
@[simp] theorem ZI(b:Int):jD (.int b)=true:=rfl
@[simp] theorem Zm(g:GD)(lo hi:Option GD)(S:SS):Uz g lo hi S=(g S).bind λp=>(nv lo p.2).bind λl=>(nv hi l.2).bind λh=>(RV p.1 l.1 h.1).map λu=>(u,h.2):=rfl
@[simp] theorem W8(S:SS):nv none S=some (none,S):=rfl
@[simp] theorem W9(g:GD)(S:SS):nv (some g) S=(g S).bind λp=>match p.1 with|.int i=>some (some i,p.2)|_=>none:=rfl
@[simp] theorem PJ(ds:List D)(lo hi:BBM):RV (.tup ds) lo hi=AAA (.tup (cutD ds lo hi)):=rfl
@[simp] theorem PK(ds:List D)(lo hi:BBM):RV (.lst ds) lo hi=AAB (cutD ds lo hi):=rfl
def EJ{bd:GB}{body:GS}(ds:List D)(I:Nat->SS->Prop)(S:SS)(h0:I 0 S)(hs:∀j d S,ds[j]? =some d->I j S->∃S1 S2,bd d S=some S1/\body S1=some (.nx S2)/\I (j+1) S2):∃S',loop bd body ds S=some (.nx S')/\I ds.length S':=by
 obtain⟨S',e,j,hr,hj,hI⟩:=Sq.HQ (bd:=bd) (body:=body) ds (λr S=>∃j,ds.drop j=r/\j<=ds.length/\I j S) S ⟨0,rfl,abK _,h0⟩ (by
  rintro d r S ⟨j,hr,hj,hI⟩;have hlt:j<ds.length:=by
   have:=congrArg List.length hr;rw[adW,abD]at this;lia
  rw[acs hlt]at hr;injection hr with h1 h2
  obtain⟨S1,S2,e1,e2,h3⟩:=hs j d S (by rw[aaS hlt,h1]) hI;exact⟨S1,S2,e1,e2,j+1,h2,hlt,h3⟩)
 have:j=ds.length:=by
  have:=congrArg List.length hr;rw[adW,afE]at this;lia
 subst this;exact⟨S',e,hI⟩
def MZ{cap:BBJ}{g:GD}(ds:List D)(I:Nat->List D->SS->Prop)(S:SS)(h0:I 0 [] S)(hs:∀j d acc S,ds[j]? =some d->I j acc S->∃x S',bK cap bB g [d] S acc=some (acc++[x],S')/\I (j+1) (acc++[x]) S'):∃acc S',bK cap bB g ds S []=some (acc,S')/\I ds.length acc S':=by
 obtain⟨acc,S',e,j,hr,hj,hI⟩:=Sq.HR (cap:=cap) (g:=g) ds (λr acc S=>∃j,ds.drop j=r/\j<=ds.length/\I j acc S) S [] ⟨0,rfl,abK _,h0⟩ (by
  rintro d r acc S ⟨j,hr,hj,hI⟩;have hlt:j<ds.length:=by
   have:=congrArg List.length hr;rw[adW,abD]at this;lia
  rw[acs hlt]at hr;injection hr with h1 h2
  obtain⟨x,S',e1,h3⟩:=hs j d acc S (by rw[aaS hlt,h1]) hI;exact⟨_,S',e1,j+1,h2,hlt,h3⟩)
 have:j=ds.length:=by
  have:=congrArg List.length hr;rw[adW,afE]at this;lia
 subst this;exact⟨acc,S',e,hI⟩
def HS{n j:Nat}{d:D}(h:(pH 0 n)[j]? =some d):j<n/\d= .int j:=by
 unfold pH at h;rw[abI]at h;cases e:(List.range n)[j]? with
 |none=>rw[e]at h;cases h
 |some k=>
  rw[e]at h;obtain⟨h1,h2⟩:=abv.mp e;rw[List.getElem_range]at h2;rw[abW]at h1;subst h2;refine⟨h1,?_⟩;have:=abT h;rw[<-this];show D.int (0+(j:Int))=_;rw[Int.zero_add]
theorem gP(bd:GB)(body:GS)(d:D)(ds:List D)(S:SS):loop bd body (d::ds) S=(bd d S).bind λS1=>(body S1).bind λo=>match o with
  |.nx S2=>loop bd body ds S2
  |.rt u S2=>some (.rt u S2):=rfl
end L2
end
section
namespace Ss
open L2 Sw
variable {z:Str}{bs:BBB}
def jN(a:D)(r:List D):dZ (a::r) 0=some a:=by
 unfold dZ Hg;rw[if_pos b_,if_pos (by simp only[abD];lia)];rfl
def uV(x:D)(zs:BBB):D8 [x,.tup (zs.map D.str)]=AAA (.bl (inD x (zs.map D.str))):=by
 have:bX (zs.map D.str)<=40:=by rw[L2.zq];decide
 exact if_pos this
noncomputable def z7:BBB:=["less","same","more"]
noncomputable def BND:BBB:=["each","one"]
def EK(bs:BBB):D->Bool
 |.tup [a]=>lT a (.str "any")
 |.tup [a,b]=>if lT a (.str "name") then nameB b else inD a (z7.map D.str) && (qj b 0 9 || inD b (bs.map D.str))
 |_=>false
noncomputable def LEN:List (Str×Int):=[("yes",1),("no",1),("now",2),("not",2),("both",3),("either",3),("next",2),("till",3),("within",3),("always",2),("some",2),("each",4),("one",4)]
noncomputable def STA:List (Str×Int):=[("yes",1),("no",1),("now",2),("not",1),("both",1),("either",1),("next",1),("till",1),("within",2),("always",1),("some",1),("each",3),("one",3)]
def kh(z:Str):Int:=(Eg LEN z).getD 0
def jO(z:Str):Nat:=((Eg STA z).getD 0).toNat
def eG(z:Str):Bool:=inD (.str z) (BND.map D.str)
noncomputable def BO:BBB:=["yes","no","now","not","both","either","next","till","within","always","some","each","one"]
def CZ{kvs:AAJ}(h:z∉kvs.map (·.1)):Eg kvs z=none:=by
 unfold Eg;have:kvs.find? (λp=>decide (p.1=z))=none:=agr.mpr λp hp q=>h (by rw[<-abX q];exact ago hp);rw[this];rfl
def J9(h:z∉BO):kh z=0:=by unfold kh;rw[CZ (show z∉LEN.map (·.1) from h)];rfl
def EL(h:kh z≠0):z∈BO:=abO λq=>h (J9 q)
structure M0(z:Str):Prop where
 AM:Eg STA z=some ((jO z:Nat):Int)
 s1:1<=jO z
 s4:(jO z:Int)<=kh z
 l4:kh z<=4
 few:kh z-jO z<=2
def C0:∀z∈BO,M0 z:=by
 intro z hz;simp only[BO,aaV,abG,ad2]at hz;rcases hz with rfl|rfl|rfl|rfl|rfl|rfl|rfl|rfl|rfl|rfl|rfl|rfl|rfl<;>exact⟨by decide,by decide,by decide,by decide,by decide⟩
def M1(ds:List D)(k:Nat):L2.cutD ds (some (k:Int)) none=ds.drop k:=by
 unfold L2.cutD;rw[HT.DW,HT.G8];by_cases h:k<=ds.length
 .rw[Nat.min_eq_left h,aef (by rw[adW];lia)]
 .rw[Nat.min_eq_right a_,List.drop_of_length_le (aaP _),List.drop_of_length_le a_,List.take_nil]
def eL(bs:BBB)(z:Str)(r:List D):Bool:=
 if kh z=(r.length:Int)+1 then
  (match r with
  |[]=>true
  |a::r2=>if z="now" then EK bs a else if z="within" then qj a 0 5 else if eG z then(match r2 with|b::_=>nameB a && nameB b|[]=>false) else true)
 else false
noncomputable def strOf:D->Str
 |.str z=>z
 |_=>""
def g9(bs:BBB)(z:Str)(r:List D):BBB:=if eG z=true then bs++[strOf (r.getD 1 .cI)] else bs
def dM(z:Str)(r:List D):List D:=(.str z::r).drop (jO z)
def oE:Nat->BBB->D->Bool
 |0,_,_=>false
 |n+1,bs,.tup (.str z::r)=>eL bs z r && (dM z r).all (oE n (g9 bs z r))
 |_+1,_,_=>false
def GC{r:List D}(h:eL bs z r=true):kh z=(r.length:Int)+1/\M0 z/\z∈BO:=by
 unfold eL at h;split at h
 .rename_i c;have:=EL (z:=z) a_;exact⟨c,C0 z this,this⟩
 .cases h
def qD{d:D}(h:nameB d=true):∃y,d= .str y:=by
 cases d with
 |str z=>exact⟨z,rfl⟩
 |_=>cases h
def z9:Nat->D->List D
 |0,_=>[]
 |n+1,.tup (.str z::r)=>.tup (.str z::r)::(dM z r).flatMap (z9 n)
 |_+1,d=>[d]
def GF{n:Nat}{d:D}(h:oE (n+1) bs d=true):∃z r,d= .tup (.str z::r)/\eL bs z r=true/\∀p∈dM z r,oE n (g9 bs z r) p=true:=by
 cases d with
 |tup ds=>
  cases ds with
  |nil=>cases h
  |cons a r=>
   cases a with
   |str z=>
    obtain⟨h1,h2⟩:=abR.mp (show(eL bs z r && (dM z r).all (oE n (g9 bs z r)))=true from h);exact⟨z,r,rfl,h1,λp hp=>acB.mp h2 p hp⟩
   |_=>cases h
 |_=>cases h
def xx(n:Nat)(d:D):Nat:=(z9 n d).length
def M3:D->Bool
 |.tup (.str z::_)=>eG z
 |_=>false
def EM(n:Nat)(d:D):Nat:=((z9 n d).filter M3).length
end Ss
end
section
namespace Sd
open L2 Sw Ss
variable {bs:BBB}{z:Str}{r:List D}{n room:Nat}{T:MO}{cs:BBD}{a l c k a' b':Int}{x1 x2:Option U}{rows:AAJ}
@[simp] theorem abz(AO:List (Str×GD))(S:SS):zl AO S=(kW AO S).map λp=>(.m (.dct (mC [] p.1)),p.2):=rfl
@[simp] theorem Qe(S:SS):kW [] S=some ([],S):=rfl
@[simp] theorem Oj(z:Str)(g:GD)(r:List (Str×GD))(S:SS):kW ((z,g)::r) S=(g S).bind λp=>(kW r p.2).map λq=>((.inr z,p.1)::q.1,q.2):=rfl
@[simp] theorem abA(i:Nat)(ge:GE)(S:SS):YW i ge S=match S[i]? with
 |some (some u)=>if uP u then(ge S).bind λp=>match p.1 with
  |.m (.dct more)=>vP p.2 i λo=>match o with
   |.dct kvs=>if kvs.length+more.length<=100000 then some (.cI,.dct (mC kvs more)) else none
   |_=>none
  |_=>none
  else none
 |_=>none:=rfl
@[simp] theorem abB(i:Nat)(gk gd:GD)(S:SS):zu i gk gd S=match S[i]? with
 |some (some u)=>if uP u then(gk S).bind λp=>(gd p.2).bind λq=>match q.2[i]? with
  |some (some u2)=>(L4 u2 p.1).map λo=>(o.getD q.1,q.2)
  |_=>none
  else none
 |_=>none:=rfl
def HU:kh "now" =2/\kh "within" =3:=by decide
def Aa(n:Nat)(z:Str)(r:List D):(xx (n+1) (.tup (.str z::r)):Int)=1+(((dM z r).flatMap (z9 n)).length:Int):=by
 unfold xx;show(((.tup (.str z::r):D)::(dM z r).flatMap (z9 n)).length:Int)=_;rw[abD];push_cast;lia
def C1(n:Nat)(z:Str)(r:List D):(EM (n+1) (.tup (.str z::r)):Int)=(if eG z=true then 1 else 0)+((((dM z r).flatMap (z9 n)).filter M3).length:Int):=by
 unfold EM;show((((.tup (.str z::r):D)::(dM z r).flatMap (z9 n)).filter M3).length:Int)=_;by_cases h:eG z=true
 .rw[ag7 (by exact h),if_pos h,abD];push_cast;lia
 .rw[ag8 (by exact h),if_neg h];lia
def tG(n:Nat)(bs:BBB)(z:Str)(r:List D):oE (n+1) bs (.tup (.str z::r))=true↔eL bs z r=true/\∀p∈dM z r,oE n (g9 bs z r) p=true:=by
 show(eL bs z r && (dM z r).all (oE n (g9 bs z r)))=true↔_;rw[abR,acB]
def EN(c:kh z=(r.length:Int)+1)(n1:¬z="now")(n2:¬(z="within"/\qj (r.getD 0 .cI) 0 5=false))(hb:eG z=false):eL bs z r=true:=by
 unfold eL;rw[if_pos c];cases r with
 |nil=>rfl
 |cons a q=>
  simp only[n1,aeW,hb];by_cases k:z="within"
  .rw[if_pos k];cases w:qj a 0 5 with
   |true=>rfl
   |false=>exact absurd ⟨k,w⟩ n2
  .rw[if_neg k];rfl
structure Dr(deep:Nat)(bs:BBB)(room:Nat)(bin:Nat)(d:D):Prop where
 fm:oE deep bs d=true
 sz:xx deep d<=room
 bn:EM deep d=bin
 fit:O5 8 d
 dep:cJ d<=deep+1
def nI{x:D}{l:List D}{i:Int}(h0:0<=i)(h1:i<l.length):∃y,dZ l i=some y/\y∈l:=by
 obtain⟨y,a,b⟩:=Sq.Vf (l:=l) h0 h1;exact⟨y,a,abU b⟩
def EO(bs:BBB)(a b:D):EK bs (.tup [a,b])=if lT a (.str "name")=true then nameB b else inD a (z7.map D.str) && (qj b 0 9 || inD b (bs.map D.str)):=rfl
def dr0(sh:eL bs z r=true)(pl:dM z r=[])(nb:eG z=false)(hr:1<=room)(fit:O5 8 (.tup (.str z::r)))(dep:cJ (.tup (.str z::r))<=n+2):Dr (n+1) bs room 0 (.tup (.str z::r)):=by
 have es:=Aa n z r;have eb:=C1 n z r;rw[pl]at es eb;rw[nb]at eb;simp at es eb;exact⟨(tG n bs z r).mpr ⟨sh,by rw[pl];simp⟩,by lia,by lia,fit,dep⟩
def dr1{b:Nat}{p:D}(sh:eL bs z r=true)(pl:dM z r=[p])(h:Dr n (g9 bs z r) room b p)(fit:O5 8 (.tup (.str z::r)))(dep:cJ (.tup (.str z::r))<=n+2):Dr (n+1) bs (room+1) ((if eG z=true then 1 else 0)+b) (.tup (.str z::r)):=by
 have es:=Aa n z r;have eb:=C1 n z r;rw[pl]at es eb;have e1:([p].flatMap (z9 n)).length=xx n p:=by simp[xx]
 have e2:(([p].flatMap (z9 n)).filter M3).length=EM n p:=by simp[EM]
 rw[e1]at es;rw[e2]at eb;have:=h.sz;have:=h.bn;refine⟨(tG n bs z r).mpr ⟨sh,by rw[pl];intro q hq;rw[show q=p by simpa using hq];exact h.fm⟩,by lia,?_,fit,dep⟩;by_cases hb:eG z=true
 .rw[if_pos hb]at eb ⊢;lia
 .rw[if_neg hb]at eb ⊢;lia
def dr2{r1 r2 b1 b2:Nat}{p q:D}(sh:eL bs z r=true)(pl:dM z r=[p,q])(nb:eG z=false)(h1:Dr n bs r1 b1 p)(h2:Dr n bs r2 b2 q)(fit:O5 8 (.tup (.str z::r)))(dep:cJ (.tup (.str z::r))<=n+2):Dr (n+1) bs (r1+r2+1) (b1+b2) (.tup (.str z::r)):=by
 have es:=Aa n z r;have eb:=C1 n z r;rw[pl]at es eb;have e1:([p,q].flatMap (z9 n)).length=xx n p+xx n q:=by simp[xx]
 have e2:(([p,q].flatMap (z9 n)).filter M3).length=EM n p+EM n q:=by simp[EM]
 rw[e1]at es;rw[e2,nb]at eb;simp at eb;have:=h1.sz;have:=h1.bn;have:=h2.sz;have:=h2.bn;have ib:g9 bs z r=bs:=by unfold g9;rw[if_neg (by rw[nb];simp)]
 refine⟨(tG n bs z r).mpr ⟨sh,by rw[pl,ib];intro x hx;simp at hx;rcases hx with rfl|rfl;exact h1.fm;exact h2.fm⟩,by lia,by lia,fit,dep⟩
def Dr.more{Sh b:Nat}{d:D}(h:Dr n bs room b d)(hr:room<=Sh):Dr n bs Sh b d:=⟨h.fm,aaY h.sz hr,h.bn,h.fit,h.dep⟩
def M4(h:z.length<=8):O5 8 (.str z):=h
def uW(c:kh z=(r.length:Int)+1)(n1:z≠"now")(n2:z≠"within")(hb:eG z=false):eL bs z r=true:=EN c n1 (λq=>n2 q.1) hb
noncomputable def vC(cs:BBD)(a l:Int):List (Key×D):=[(.inr "cells",.lst (cs.map D.int)),(.inr "at",.int a),(.inr "left",.int l)]
def Si(cs:BBD)(a l:Int):bW (vC cs a l) (.inr "cells")=some (.lst (cs.map D.int)):=rfl
def ZJ(cs:BBD)(a l:Int):bW (vC cs a l) (.inr "at")=some (.int a):=rfl
def Sj(cs:BBD)(a l:Int):bW (vC cs a l) (.inr "left")=some (.int l):=rfl
def Vg(cs:BBD)(a l x:Int):putD (vC cs a l) (.inr "at") (.int x)=vC cs x l:=rfl
def M5(cs:BBD)(a l x:Int):putD (vC cs a l) (.inr "left") (.int x)=vC cs a x:=rfl
def M6(cs:BBD)(a l:Int):(vC cs a l).length=3:=rfl
def Fd(n:Nat)(T:MO):Prop:=∃(cs:BBD)(a l:Int),T= .dct (vC cs a l)/\cs.length<=63/\0<=a/\a<=n
def Fd.mono{m:Nat}(h:Fd n T)(k:n<=m):Fd m T:=by
 obtain⟨cs,a,l,e,h1,h2,h3⟩:=h;exact⟨cs,a,l,e,h1,h2,by lia⟩
def Xa:GS:=
 (ju (qB (eF (eP Uo (ah (b9 0 (eC (.str "left"))) (ah (eC (.int 0)) aB))))) (aP (cD 2 (eP yR (ah (b9 0 (eC (.str "left"))) (ah j_ aB))))
 (aP (AN 0 (eC (.str "left")) (eF (eP LI (ah (b9 0 (eC (.str "left"))) (ah j_ aB)))))
 (bU (au 2)))) dg)
def ZK:GS:=
 (cD 3 (eT (b9 0 (eC (.str "at")))))
def ZL:GS:=
 (AN 0 (eC (.str "at")) (eF (eP gU (ah (eF (au 3)) (ah f_ aB)))))
def ZM:GS:=
 (cD 4 (eP yT (ah (eF (au 3)) (ah (eF (au 3)) aB))))
def ZN:GS:=
 (ju (qB (eF (eP Bt (ah (b9 0 (eC (.str "cells"))) (ah (eF (eP eB aB)) aB))))) (cD 4 (eP Hr (ah (b9 0 (eC (.str "cells"))) (ah (eF (eP yR (ah (eF (au 3)) (ah (eF (eP LJ (ah (b9 0 (eC (.str "cells"))) aB))) aB)))) aB)))) dg)
def ZO:GS:=
 (ju (qB (eF (eP fGe (ah (eF (au 4)) (ah (eF (eP Yw (ah (eC (.int 10)) (ah (eC (.int 18)) aB)))) aB))))) (aP (AN 0 (eC (.str "left")) (eF (eP LI (ah (eF (au 4)) (ah j_ aB)))))
 (bU (eP yR (ah (eF (au 4)) (ah j_ aB))))) dg)
def dw6:GS:=
 (cD 5 (eP yR (ah (eF (eP yT (ah (eF (eP gU (ah (eF (eP gU (ah (eF (eP yT (ah (eF (eP yR (ah (eF (au 4)) (ah (eC (.int 1000003)) aB)))) (ah (eC (.int 7)) aB)))) (ah (eF (eP yT (ah (eC (.int 104729)) (ah (eF (au 3)) aB)))) aB)))) (ah f_ aB)))) (ah (eC (.int 48271)) aB)))) (ah (eC (.int 999983)) aB))))
def dw7:GS:=
 (cD 5 (eP yR (ah (eF (eP yT (ah (eF (eP yR (ah (eF (eP gU (ah (eF (eP yT (ah (eF (au 5)) (ah (eF (au 5)) aB)))) (ah (eF (eP yT (ah (eC (.int 7919)) (ah (eF (au 3)) aB)))) aB)))) (ah (eC (.int 2147483629)) aB)))) (ah (eC (.int 30269)) aB)))) (ah (eC (.int 998244353)) aB))))
def dw8:GS:=
 (bU (eP yR (ah (eF (eP LI (ah (eF (au 5)) (ah (eC (.int 7)) aB)))) (ah j_ aB))))
def gQ:GS:=aP (Xa) (aP (ZK) (aP (ZL) (aP (ZM) (aP (ZN) (aP (ZO) (aP (dw6) (aP (dw7) (dw8))))))))
def Sk:gQ=aP (Xa) (aP (ZK) (aP (ZL) (aP (ZM) (aP (ZN) (aP (ZO) (aP (dw6) (aP (dw7) (dw8)))))))):=rfl
def cN:FM:=bf 6 gQ
def M7:∀us r,cN us=some r->bf 6 gQ us=some r:=λ_ _ h=>h
def md1(x:Int):-18446744073709551616<x % 999983:=by lia
def md2(x:Int):x % 999983<18446744073709551616:=by lia
def M8(is:BBD):bX (is.map D.int)=0:=by
 induction is with
 |nil=>rfl
 |cons i is ih=>show max 0 (bX (is.map D.int))=0;lia
def M9(is:BBD):lT (.lst (is.map D.int)) (.lst [])=is.isEmpty:=by cases is<;>rfl
def Ka{m:Int}(h:0<l)(m0:0<m)(m1:m<1000000):cN [.b (.dct (vC cs a l)),.t (.int m)]=some (.t (.int (l % m)),[.dct (vC cs a (l / m))]):=by
 have e3:m<1073741824:=by lia
 have n0:¬m=0:=by lia
 simp[cN,bf,gQ,Xa,Sj,M5,M6,h,m0,e3,n0]
def Ky{a b:GS}{S S1:SS}(h:a S=some (.nx S1)):aP a b S=b S1:=by simp[h]
noncomputable abbrev dS(kv:List (Key×D))(m:Int)(x3 x4:Option U):SS:=[some (.b (.dct kv)),AAC m,none,x3,x4,none]
def Na{m:Int}{rest:GS}(h:¬0<l)(a0:0<=a)(a1:a<1000000)(hc:(cs=[]/\c=a*a)\/(cs≠[]/\dZ (cs.map D.int) (a % (cs.length:Int))=some (.int c)))(hl:cs.length<=63):
  aP Xa (aP ZK (aP ZL (aP ZM (aP ZN rest)))) (dS (vC cs a l) m none none)=rest (dS (vC cs (a+1) l) m (AAC a) (AAC c)):=by
 have b1:-18446744073709551616<a:=by lia
 have b2:a<18446744073709551616:=by lia
 have s0:Xa (dS (vC cs a l) m none none)=some (.nx (dS (vC cs a l) m none none)):=by simp[Xa,Sj,h]
 have s1:ZK (dS (vC cs a l) m none none)=some (.nx (dS (vC cs a l) m (AAC a) none)):=by simp[ZK,ZJ]
 have s2:ZL (dS (vC cs a l) m (AAC a) none)=some (.nx (dS (vC cs (a+1) l) m (AAC a) none)):=by simp[ZL,Vg,M6]
 have s3:∀kv,ZM (dS kv m (AAC a) none)=some (.nx (dS kv m (AAC a) (AAC (a*a)))):=λkv=>by simp[ZM,b1,b2]
 rw[Ky s0,Ky s1,Ky s2,Ky (s3 _)];refine Ky ?_;have dd:=M8 cs;have en:=M9 cs;rcases hc with⟨rfl,rfl⟩|⟨hne,hc⟩
 .have ee:lT (.lst []) (.lst [])=true:=rfl;simp[ZN,Si,cJ,bX,ee]
 .have en:lT (.lst (cs.map D.int)) (.lst [])=false:=by rw[en];cases cs with|nil=>exact absurd rfl hne|cons _ _=>rfl
  have l0:0<(cs.length:Int):=by cases cs with|nil=>exact absurd rfl hne|cons _ _=>simp only[abD];lia
  have l1:(cs.length:Int)<1073741824:=by lia
  have l3:0<cs.length:=by lia
  have l4:cs.length<1073741824:=by lia
  have l2:((cs.map D.int).length:Int)=cs.length:=by rw[aar]
  generalize hx:cs.map D.int=xs at *;simp[ZN,Si,cJ,dd,en,l2,l0,l1,l3,l4,hc,hx]
def Nc{m:Int}(m0:0<m)(m1:m<1000000)(h:¬0<l)(a0:0<=a)(a1:a<1000000)(hc:(cs=[]/\c=a*a)\/(cs≠[]/\dZ (cs.map D.int) (a % (cs.length:Int))=some (.int c)))(hl:cs.length<=63)(hb:10 ^ 18<=c):
  cN [.b (.dct (vC cs a l)),.t (.int m)]=some (.t (.int (c % m)),[.dct (vC cs (a+1) (c / m))]):=by
 have e3:m<1073741824:=by lia
 have n0:¬m=0:=by lia
 have hb:(1000000000000000000:Int)<=c:=hb;show(gQ (dS (vC cs a l) m none none)).bind _=_;rw[Sk,Na h a0 a1 hc hl];simp[ZO,M5,M6,hb,m0,e3,n0]
noncomputable def ZP(c a:Int):Int:=((c % 1000003*7+104729*a+1)*48271 % 999983*((c % 1000003*7+104729*a+1)*48271 % 999983)+7919*a) % 2147483629*30269 % 998244353 / 7
def Nd{m:Int}(m0:0<m)(m1:m<1000000)(h:¬0<l)(a0:0<=a)(a1:a<1000000)(hc:(cs=[]/\c=a*a)\/(cs≠[]/\dZ (cs.map D.int) (a % (cs.length:Int))=some (.int c)))(hl:cs.length<=63)(hb:¬10 ^ 18<=c):
  cN [.b (.dct (vC cs a l)),.t (.int m)]=some (.t (.int (ZP c a % m)),[.dct (vC cs (a+1) l)]):=by
 have e3:m<1073741824:=by lia
 have n0:¬m=0:=by lia
 have hb:¬(1000000000000000000:Int)<=c:=hb;show(gQ (dS (vC cs a l) m none none)).bind _=_;rw[Sk,Na h a0 a1 hc hl];generalize vC cs (a+1) l=kv;have s5:ZO (dS kv m (AAC a) (AAC c))=some (.nx (dS kv m (AAC a) (AAC c))):=by simp[ZO,hb]
 rw[Ky s5];simp[dw6,dw7,dw8,m0,e3,n0,md1,md2,ZP]
def dO{m:Int}(h:Fd n T)(hn:n<1000000)(m0:0<m)(m1:m<1000000):∃v T',cN [.b T,.t (.int m)]=some (.t (.int v),[T'])/\0<=v/\v<m/\Fd (n+1) T':=by
 obtain⟨cs,a,l,rfl,hl,a0,a1⟩:=h;have r1:∀x:Int,0<=x % m/\x % m<m:=λx=>⟨ag9 _ a_,ags _ m0⟩
 by_cases c:0<l
 .exact⟨_,_,Ka c m0 m1,(r1 _).1,(r1 _).2,cs,a,_,rfl,hl,a0,by lia⟩
 .obtain⟨x,hx⟩:∃x,(cs=[]/\x=a*a)\/(cs≠[]/\dZ (cs.map D.int) (a % (cs.length:Int))=some (.int x)):=by
   cases cs with
   |nil=>exact⟨_,.inl ⟨rfl,rfl⟩⟩
   |cons y ys=>
    have l0:(0:Int)<((y::ys).length:Int):=by simp only[abD];lia
    obtain⟨d,h1,h2⟩:=nI (x:=.cI) (l:=(y::ys).map D.int) (i:=a % ((y::ys).length:Int)) (ag9 _ a_) (by rw[aar];exact ags _ l0);obtain⟨z,_,rfl⟩:=aa2.mp h2;exact⟨z,.inr ⟨by simp,h1⟩⟩
  by_cases hb:10 ^ 18<=x
  .exact⟨_,_,Nc m0 m1 c a0 a_ hx hl hb,(r1 _).1,(r1 _).2,cs,_,_,rfl,hl,by lia,by lia⟩
  .exact⟨_,_,Nd m0 m1 c a0 a_ hx hl hb,(r1 _).1,(r1 _).2,cs,_,_,rfl,hl,by lia,by lia⟩
def qE:GS:=
 (bU (zl [("cells",(eF (eP pI (ah (eF (Ph 0 none (some (eC (.int 63))))) aB)))),("at",(eC (.int 0))),("left",(eC (.int 0)))]))
def sF:FM:=bf 1 qE
def Nf:∀us r,sF us=some r->bf 1 qE us=some r:=λ_ _ h=>h
def Qg(ns:BBD):∃T,sF [.s ns]=some (.m T,[])/\Fd 0 T:=by
 refine⟨.dct (vC (AQ ns none (some 63)) 0 0),?_,AQ ns none (some 63),0,0,rfl,?_,by decide,by decide⟩
 .have e:∀l:List D,mC [] [(.inr "cells",.lst l),(.inr "at",.int 0),(.inr "left",.int 0)]=[((.inr "cells":Key),D.lst l),(.inr "at",.int 0),(.inr "left",.int 0)]:=λl=>rfl;have f:pI [.lst ((AQ ns none (some 63)).map D.int)]=AAB ((AQ ns none (some 63)).map D.int):=rfl;simp[sF,bf,qE,Ph,f,e,vC]
 .unfold AQ;rw[aea];have:HT.fR ns.length ns.length (some 63)<=63:=by
   show(if(63:Int)<0 then((63:Int)+(ns.length:Int)).toNat else min (63:Int).toNat ns.length)<=63;rw[if_neg b_];exact Nat.min_le_left _ _
  lia
def Nm(z:Str):Prop:=nameB (.str z)=true/\z.length<=8/\Sane (.str z)
noncomputable instance (z:Str):Decidable (Nm z):=by unfold Nm Sane;infer_instance
noncomputable def kC(p:Str×Int):D:=.tup [.str p.1,.int p.2]
def Tb(td:D):Prop:=∃rows:List (Str×Int),td= .tup (rows.map kC)/\rows≠[]/\rows.length<=4/\∀p∈rows,Nm p.1
noncomputable def NA:List (BBB):=[["a","ab","abc","b"],["now","any","name","less"],["x","xxxxxxxx","xxxxxxx","y"]]
def ZQ:∀l∈NA,l.length=4/\∀z∈l,Nm z:=by decide +kernel
def Ng(ds:List D)(k:Nat):L2.cutD ds none (some (k:Int))=ds.take k:=by
 unfold L2.cutD;rw[HT.DW,HT.G8,List.drop_zero,Nat.sub_zero];by_cases h:k<=ds.length
 .rw[Nat.min_eq_left h]
 .rw[Nat.min_eq_right a_,aef (aaP _),aef a_]
def kD(ak:FM):GS:=
 (aP (cD 1 (eP eB (ah (eF (eP eB (ah (eC (.str "a")) (ah (eC (.str "ab")) (ah (eC (.str "abc")) (ah (eC (.str "b")) aB)))))) (ah (eF (eP eB (ah (eC (.str "now")) (ah (eC (.str "any")) (ah (eC (.str "name")) (ah (eC (.str "less")) aB)))))) (ah (eF (eP eB (ah (eC (.str "x")) (ah (eC (.str "xxxxxxxx")) (ah (eC (.str "xxxxxxx")) (ah (eC (.str "y")) aB)))))) aB)))))
 (aP (cD 2 (eT (b9 1 (eF (bq ak (cG (au 0) (aW (eC (.int 3)) bQ)))))))
 (aP (cD 3 (bq ak (cG (au 0) (aW (eC (.int 4)) bQ))))
 (aP (cD 2 (Uz (eF (eP gU (ah (eF (Uz (eF (au 2)) (some (eF (au 3))) none)) (ah (eF (Uz (eF (au 2)) none (some (eF (au 3))))) aB)))) none (some (eF (eP Hr (ah (eF (eP eB (ah f_ (ah (eC (.int 2)) (ah (eC (.int 2)) (ah (eC (.int 3)) aB)))))) (ah (eF (bq ak (cG (au 0) (aW (eC (.int 4)) bQ)))) aB)))))))
 (bU (eP sU (ah (eF (cM [0] (iF (eF (au 2))) bB (eF (eP fT (ah (eF (au 0)) (ah (eF (eP Hr (ah (eF (eP eB (ah (eC (.int 0)) (ah f_ (ah f_ (ah (eC (.int 2)) aB)))))) (ah (eF (bq ak (cG (au 1) (aW (eC (.int 4)) bQ)))) aB)))) aB)))))) aB)))))))
def oF:FM:=bf 4 (kD cN)
def Kc:∀us r,oF us=some r->bf 4 (kD cN) us=some r:=λ_ _ h=>h
abbrev Nh(f:FM):GD:=eF (eP fT (ah (eF (au 0)) (ah (eF (eP Hr (ah (eF (eP eB (ah (eC (.int 0)) (ah f_ (ah f_ (ah (eC (.int 2)) aB)))))) (ah (eF (bq f (cG (au 1) (aW (eC (.int 4)) bQ)))) aB)))) aB)))
def Ni{f:FM}{T0 T1 T2 T3 T4:MO}{v kk:Int}{nl l2 acc:List D}(p1:f [.b T0,.t (.int 3)]=some (.t (.int v),[T1]))
  (h1:dZ [D.lst [.str "a",.str "ab",.str "abc",.str "b"],.lst [.str "now",.str "any",.str "name",.str "less"],.lst [.str "x",.str "xxxxxxxx",.str "xxxxxxx",.str "y"]] v=some (.lst nl))
  (p2:f [.b T1,.t (.int 4)]=some (.t (.int a),[T2]))(p3:f [.b T2,.t (.int 4)]=some (.t (.int k),[T3]))(h2:dZ [D.int 1,.int 2,.int 2,.int 3] k=some (.int kk))
  (hl:(L2.cutD nl (some a) none).length+(L2.cutD nl none (some a)).length<=100000)(hc:L2.cutD (L2.cutD nl (some a) none++L2.cutD nl none (some a)) none (some kk)=l2)(hl2:l2.length<=100000)
  (h4:bK [0] bB (Nh f) l2 [some (.b T3),AAB [.lst [.str "a",.str "ab",.str "abc",.str "b"],.lst [.str "now",.str "any",.str "name",.str "less"],.lst [.str "x",.str "xxxxxxxx",.str "xxxxxxx",.str "y"]],AAA (.lst l2),AAC a] []=some (acc,[some (.b T4),x1,x2,AAC a])):
  bf 4 (kD f) [.b T0]=some (.t (.tup acc),[T4]):=by
 simp only[Nh]at h4;simp[bf,kD,p1,h1,p2,p3,h2,hl,hc,cQ,hl2,h4,sU]
def Nj{x3:Option U}(l:BBB)(hT:Fd n T)(hn:n+l.length<1000000):
  ∃(rows:AAJ)(T':MO),bK [0] bB (Nh cN) (l.map D.str) [some (.b T),x1,x2,x3] []=some (rows.map kC,[some (.b T'),x1,x2,x3])/\rows.map (·.1)=l/\Fd (n+l.length) T'/\∀p∈rows,0<=p.2/\p.2<=2:=by
 obtain⟨acc,S',e,T',rows,rfl,rfl,hr,hf,hb⟩:=MZ (cap:=[0]) (g:=Nh cN) (l.map D.str)
  (λj acc S=>∃(T':MO)(rows:AAJ),S=[some (.b T'),x1,x2,x3]/\acc=rows.map kC/\rows.map (·.1)=l.take j/\Fd (n+j) T'/\∀p∈rows,0<=p.2/\p.2<=2)
  [some (.b T),x1,x2,x3] ⟨T,[],rfl,rfl,by simp,hT,by simp⟩ (by
   rintro j d acc S hd ⟨T1,rows,rfl,rfl,hr,hf,hb⟩;rw[abI]at hd;obtain⟨z,hz,rfl⟩:=aA hd;have hj:j<l.length:=(abv.mp hz).1;obtain⟨v,T2,e1,v0,v1,f2⟩:=dO (m:=4) hf a_ b_ b_;obtain⟨y,y1,y2⟩:=nI (x:=.cI) (l:=[.int 0,.int 1,.int 1,.int 2]) v0 v1;obtain⟨i,rfl,i0,i2⟩:∃i:Int,y= .int i/\0<=i/\i<=2:=by
    simp only[aaV,abG,ad2]at y2;rcases y2 with rfl|rfl|rfl|rfl<;>exact⟨_,rfl,by decide,by decide⟩
   refine⟨kC (z,i),[some (.b T2),x1,x2,x3],?_,T2,rows++[(z,i)],rfl,by simp,?_,f2,λp hp=>by
    rcases abu.mp hp with q|q
    .exact hb p q
    .rw[aaO.mp q];exact⟨i0,i2⟩⟩
   .generalize cN=f at *;simp[bK,dz,oh,Nh,e1,y1,kC]
   .rw[ad8,hr,List.take_add_one,hz];rfl)
 rw[aar]at hr hf;exact⟨rows,T',e,by rw[hr,List.take_length],hf,hb⟩
def Tn(td:D):Prop:=∃rows:List (Str×Int),td= .tup (rows.map kC)/\rows.length<=4/\∀p∈rows,0<=p.2/\p.2<=2
def Ke(h:Fd n T)(hn:n<900000):∃td T',oF [.b T]=some (.t td,[T'])/\Tb td/\Fd (n+7) T'/\Tn td:=by
 obtain⟨v,T1,p1,v0,v1,h1⟩:=dO (m:=3) h a_ b_ b_;obtain⟨a,T2,p2,a0,a1,h2⟩:=dO (m:=4) h1 a_ b_ b_;obtain⟨k,T3,p3,k0,k1,h3⟩:=dO (m:=4) h2 a_ b_ b_;obtain⟨nl,g1,g2⟩:=nI (x:=.cI) (l:=[D.lst [.str "a",.str "ab",.str "abc",.str "b"],.lst [.str "now",.str "any",.str "name",.str "less"],.lst [.str "x",.str "xxxxxxxx",.str "xxxxxxx",.str "y"]]) v0 v1;obtain⟨L,hL,rfl⟩:∃L∈NA,nl= .lst (L.map D.str):=by
  simp only[aaV,abG,ad2]at g2;rcases g2 with rfl|rfl|rfl
  .exact⟨_,by unfold NA;exact aaT,rfl⟩
  .exact⟨_,by unfold NA;exact aaR _ aaT,rfl⟩
  .exact⟨_,by unfold NA;exact aaR _ (aaR _ aaT),rfl⟩
 obtain⟨hl,hz⟩:=ZQ L hL;obtain⟨kd,q1,q2⟩:=nI (x:=.cI) (l:=[.int 1,.int 2,.int 2,.int 3]) k0 k1;obtain⟨kk,rfl,kk1,kk3⟩:∃kk:Nat,kd= .int kk/\1<=kk/\kk<=3:=by
  simp only[aaV,abG,ad2]at q2;rcases q2 with rfl|rfl|rfl|rfl
  .exact⟨1,rfl,by lia,by lia⟩
  .exact⟨2,rfl,by lia,by lia⟩
  .exact⟨2,rfl,by lia,by lia⟩
  .exact⟨3,rfl,by lia,by lia⟩
 obtain⟨b,rfl⟩:∃b:Nat,a=b:=⟨a.toNat,by lia⟩
 have c1:=M1 (L.map D.str) b;have c2:=Ng (L.map D.str) b;have c3:=Ng ((L.map D.str).drop b++(L.map D.str).take b) kk;have ce:((L.map D.str).drop b++(L.map D.str).take b).take kk=((L.drop b++L.take b).take kk).map D.str:=by
  rw[ahh,ad8,List.map_drop,ahh]
 rw[ce]at c3;have ll:(L.drop b++L.take b).length=4:=by rw[aaW,adW,aea];lia
 have lt:((L.drop b++L.take b).take kk).length=kk:=by rw[aea,ll];lia
 have hmem:∀z∈(L.drop b++L.take b).take kk,Nm z:=λz hzz=>by
  rcases abu.mp (List.mem_of_mem_take hzz) with q|q
  .exact hz z (List.mem_of_mem_drop q)
  .exact hz z (List.mem_of_mem_take q)
 generalize (L.drop b++L.take b).take kk=R at *;obtain⟨rows,T4,e4,r1,h4,hb4⟩:=Nj (x1:=AAB [.lst [.str "a",.str "ab",.str "abc",.str "b"],.lst [.str "now",.str "any",.str "name",.str "less"],.lst [.str "x",.str "xxxxxxxx",.str "xxxxxxx",.str "y"]]) (x2:=AAA (.lst (R.map D.str))) (x3:=AAC (b:Int)) R h3 a_;refine⟨.tup (rows.map kC),T4,?_,⟨rows,rfl,?_,?_,?_⟩,h4.mono a_,rows,rfl,by have:=congrArg List.length r1;rw[aar]at this;lia,hb4⟩
 .exact Ni (f:=cN) (l2:=R.map D.str) (k:=k) (kk:=(kk:Int)) p1 g1 p2 p3 q1 (by rw[c1,c2,adW,aea,aar];lia) (by rw[c1,c2,c3]) (by rw[aar];lia) e4
 .rintro rfl;rw[<-r1]at lt;simp at lt;lia
 .have:=congrArg List.length r1;rw[aar]at this;lia
 .intro p hp;exact hmem p.1 (by rw[<-r1];exact ago hp)
def cW(ak:FM):GS:=
 (aP (cD 3 (bq ak (cG (au 0) (aW (eC (.int 8)) bQ))))
 (aP (ju (qB (eF (eP kg (ah (eF (au 3)) (ah (eC (.int 0)) aB))))) (bU (eP fT (ah (eC (.str "any")) aB))) dg)
 (aP (ju (qB (eF (eP FZ (ah (eF (au 3)) (ah (eC (.int 3)) aB))))) (aP (cD 4 (eP gU (ah (eF (cM [] (iF j_) bB (b9 0 (eC (.int 0))))) (ah (eF (eP eB (ah (eC (.str "zz")) aB))) aB))))
 (bU (eP fT (ah (eC (.str "name")) (ah (b9 4 (eF (bq ak (cG (au 0) (aW (nq 4) bQ))))) aB))))) dg)
 (aP (cD 5 (bq ak (cG (au 0) (aW (eC (.int 4)) bQ))))
 (aP (ju (yP (qB (eF (eP Bt (ah (eF (au 2)) (ah (eF (eP fT aB)) aB))))) (qB (eF (eP Uo (ah (eF (bq ak (cG (au 0) (aW (eC (.int 4)) bQ)))) (ah (eC (.int 0)) aB)))))) (cD 5 (eT (b9 2 (eF (bq ak (cG (au 0) (aW (nq 2) bQ))))))) dg)
 (bU (eP fT (ah (eF (eP Hr (ah (eF (eP eB (ah (eC (.str "same")) (ah (eC (.str "less")) (ah (eC (.str "more")) aB))))) (ah (eF (eP yR (ah (eF (au 3)) (ah (eC (.int 3)) aB)))) aB)))) (ah (eF (au 5)) aB)))))))))
def Ol:FM:=bf 6 (cW cN)
def Vh:∀us r,Ol us=some r->bf 6 (cW cN) us=some r:=λ_ _ h=>h
noncomputable def qF(rows:AAJ):List D:=(rows.map Prod.fst).map D.str
def uX(rows:AAJ):(qF rows).length=rows.length:=by unfold qF;rw[aar,aar]
noncomputable def ZR(z:Str):Bool:=z.cps.toList.all λc=>decide (c<16 ^ 8)
def cY(h:ZR z=true):Sane (.str z):=by
 intro c hc;exact abX (acB.mp h c hc)
def Ab{S:SS}(rows:AAJ):bK [] bB (b9 0 (eC (.int 0))) (rows.map kC) S []=some (qF rows,S):=by
 have e:=iN (cap:=[]) (g:=b9 0 (eC (.int 0))) (S:=S) (ts:=[]) rfl (λd=>match d with|.tup (a::_)=>a|_=>.cI) (rows.map kC) [] (by
  intro d hd;obtain⟨p,_,rfl⟩:=aa2.mp hd;simp[kC,jN])
 unfold qF;rw[e,acy,abV,abV];rfl
structure Tw(bs:BBB)(d:D):Prop where
 ok:EK bs d=true
 fit:O5 8 d
 dep:cJ d<=1
 nG:Sane d
 w:wD d<=180
section
variable {f:FM}{T0 T1 T2 T3 T4:MO}{td:D}{bl:List D}{w v x:Int}{nd:D}
def Vi(p1:f [.b T0,.t (.int 8)]=some (.t (.int 0),[T1])):bf 6 (cW f) [.b T0,.t td,.t (.tup bl)]=some (.t (.tup [.str "any"]),[T1]):=by
 simp[bf,cW,p1]
def Qh(p1:f [.b T0,.t (.int 8)]=some (.t (.int w),[T1]))(h0:¬w=0)(h3:w<3)(hr:rows.length<=10)(p2:f [.b T1,.t (.int ((qF rows++[D.str "zz"]).length:Int))]=some (.t (.int v),[T2]))(ha:dZ (qF rows++[D.str "zz"]) v=some nd):
  bf 6 (cW f) [.b T0,.t (.tup (rows.map kC)),.t (.tup bl)]=some (.t (.tup [.str "name",nd]),[T2]):=by
 have ec:=λS=>Ab (S:=S) rows;have l1:(rows.map kC).length<=100000:=by rw[aar];lia
 have l2:(qF rows).length+1<=100000:=by rw[uX];lia
 generalize qF rows=L at *;generalize rows.map kC=R at *;have el:((L++[D.str "zz"]).length:Int)=(L.length:Int)+1:=by rw[aaW];push_cast;rfl
 rw[el]at p2;simp[bf,cW,p1,h0,h3,cQ,l1,ec,l2,p2,ha]
def gt_num(p1:f [.b T0,.t (.int 8)]=some (.t (.int w),[T1]))(h0:¬w=0)(h3:¬w<3)(p2:f [.b T1,.t (.int 4)]=some (.t (.int v),[T2]))(hh:dZ [D.str "same",.str "less",.str "more"] (w % 3)=some nd)
  (hb:bl=[]/\T3=T2\/bl≠[]/\∃u,f [.b T2,.t (.int 4)]=some (.t (.int u),[T3])/\¬0<u)(hd:cJ (.tup bl)<=40):bf 6 (cW f) [.b T0,.t td,.t (.tup bl)]=some (.t (.tup [nd,.int v]),[T3]):=by
 rcases hb with⟨rfl,rfl⟩|⟨hne,u,p3,hu⟩
 .have q:lT (.tup []) (.tup [])=true:=rfl;simp[bf,cW,p1,h0,h3,p2,q,hh,cJ,bX]
 .have q:lT (.tup bl) (.tup [])=false:=by cases bl with|nil=>exact absurd rfl hne|cons _ _=>rfl
  simp[bf,cW,p1,h0,h3,p2,q,hd,p3,hu,hh]
def Vj{u:Int}{xd:D}(p1:f [.b T0,.t (.int 8)]=some (.t (.int w),[T1]))(h0:¬w=0)(h3:¬w<3)(p2:f [.b T1,.t (.int 4)]=some (.t (.int v),[T2]))(hh:dZ [D.str "same",.str "less",.str "more"] (w % 3)=some nd)
  (hne:bl≠[])(p3:f [.b T2,.t (.int 4)]=some (.t (.int u),[T3]))(hu:0<u)(p4:f [.b T3,.t (.int (bl.length:Int))]=some (.t (.int x),[T4]))(hx:dZ bl x=some xd)(hd:cJ (.tup bl)<=40):bf 6 (cW f) [.b T0,.t td,.t (.tup bl)]=some (.t (.tup [nd,xd]),[T4]):=by
 have q:lT (.tup bl) (.tup [])=false:=by cases bl with|nil=>exact absurd rfl hne|cons _ _=>rfl
 simp[bf,cW,p1,h0,h3,p2,q,hd,p3,hu,p4,hx,hh]
end
def ER(h:z.length<=8):wD (.str z)<=82:=by show 10*z.length+2<=82;lia
def ZS{td:D}(h:Fd n T)(hn:n<900000)(ht:Tb td)(hb:bs.length<900)(hs:∀z∈bs,Nm z):
  ∃d T',Ol [.b T,.t td,.t (.tup (bs.map D.str))]=some (.t d,[T'])/\Tw bs d/\Fd (n+4) T':=by
 obtain⟨w,T1,p1,w0,w1,h1⟩:=dO (m:=8) h a_ b_ b_;obtain⟨rows,rfl,rne,rl,rn⟩:=ht;by_cases c0:w=0
 .subst c0;exact⟨_,T1,Vi p1,⟨rfl,⟨(by show 1<=8;lia),(by show 3<=8;lia),True.intro⟩,by decide,⟨cY i_,True.intro⟩,by decide⟩,h1.mono a_⟩
 .by_cases c1:w<3
  .have hl:((qF rows++[D.str "zz"]).length:Int)=rows.length+1:=by rw[aaW,uX];push_cast;rfl
   obtain⟨v,T2,p2,v0,v1,h2⟩:=dO (m:=((qF rows++[D.str "zz"]).length:Int)) h1 a_ a_ a_;obtain⟨nd,a1,a2⟩:=nI (x:=.cI) v0 v1;obtain⟨z,rfl,nz⟩:∃z,nd= .str z/\Nm z:=by
    rcases abu.mp a2 with q|q
    .obtain⟨z,hz,rfl⟩:=aa2.mp q;obtain⟨p,hp,rfl⟩:=aa2.mp hz;exact⟨_,rfl,rn p hp⟩
    .rw[aaO]at q;exact⟨"zz",q,by decide +kernel,by decide,cY i_⟩
   obtain⟨z1,z2,z3⟩:=nz;refine⟨_,T2,Qh p1 c0 c1 a_ p2 a1,⟨?_,⟨(by show 2<=8;lia),(by show 4<=8;lia),z2,True.intro⟩,by show max 0 (max 0 0)+1<=1;lia,⟨cY i_,z3,True.intro⟩,?_⟩,h2.mono a_⟩
   .rw[EO,if_pos (qm _)];exact z1
   .have:=ER z2;show 42+2+(wD (.str z)+2+0)+4<=180;lia
  .obtain⟨v,T2,p2,v0,v1,h2⟩:=dO (m:=4) h1 a_ b_ b_;obtain⟨hd,d1,d2⟩:=nI (x:=.cI) (l:=[.str "same",.str "less",.str "more"]) (i:=w % 3) (ag9 _ b_) (ags _ b_);have hhd:inD hd (z7.map D.str)=true/\lT hd (.str "name")=false/\O5 8 hd/\cJ hd=0/\Sane hd/\wD hd<=82:=by
    simp only[aaV,abG,ad2]at d2;rcases d2 with rfl|rfl|rfl<;>exact⟨by decide,by decide,(by show _<=8;decide),rfl,cY i_,by decide⟩
   obtain⟨q1,q2,q3,q4,q5,q6⟩:=hhd;have fin:∀x:D,(qj x 0 9=true\/inD x (bs.map D.str)=true)->O5 8 x->cJ x=0->Sane x->wD x<=82->Tw bs (.tup [hd,x]):=λx h1 h2 h3 h4 h5=>by
    refine⟨?_,⟨(by show 2<=8;lia),q3,h2,True.intro⟩,by show max (cJ hd) (max (cJ x) 0)+1<=1;rw[q4,h3];decide,⟨q5,h4,True.intro⟩,by show wD hd+2+(wD x+2+0)+4<=180;lia⟩;rw[EO,q2,q1];rcases h1 with q|q
    .rw[q];rfl
    .rw[q];simp
   have dv:cJ (.tup (bs.map D.str))<=40:=by show bX (bs.map D.str)+1<=40;rw[L2.zq];lia
   have hv:Tw bs (.tup [hd,.int v]):=fin _ (.inl (by show(decide (0<=v) && decide (v<=9))=true;simp only[abS,ab5];lia)) True.intro rfl (by show v.natAbs<10 ^ 30;lia) (by show 40<=82;lia);cases hbs:bs with
   |nil=>
    subst hbs;exact⟨_,T2,gt_num p1 c0 c1 p2 d1 (.inl ⟨rfl,rfl⟩) dv,hv,h2.mono a_⟩
   |cons y ys=>
    rw[<-hbs];have hne:bs.map D.str≠[]:=by rw[hbs];simp
    obtain⟨u,T3,p3,u0,u1,h3⟩:=dO (m:=4) h2 a_ b_ b_;by_cases c3:0<u
    .have hl0:0<((bs.map D.str).length:Int):=by rw[hbs];simp only[acd,abD];lia
     obtain⟨x,T4,p4,x0,x1,h4⟩:=dO (m:=((bs.map D.str).length:Int)) h3 a_ hl0 (by rw[aar];lia);obtain⟨xd,g1,g2⟩:=nI (x:=.cI) x0 x1;obtain⟨vs,m1,rfl⟩:=aa2.mp g2;have iv:inD (.str vs) (bs.map D.str)=true:=by
      unfold inD;exact abL.mpr ⟨.str vs,g2,qm _⟩
     obtain⟨z1,z2,z3⟩:=hs vs m1;exact⟨_,T4,Vj p1 c0 c1 p2 d1 hne p3 c3 p4 g1 dv,fin _ (.inr iv) z2 rfl z3 (ER z2),h4.mono a_⟩
    .exact⟨_,T3,gt_num p1 c0 c1 p2 d1 (.inr ⟨hne,u,p3,c3⟩) dv,hv,h3.mono a_⟩
def sy0(ak aZ ao:FM):GS:=
 (AN 3 (eC (.int 0)) (eF (eP yQ (ah (b9 3 (eC (.int 0))) (ah f_ aB)))))
def sy1(ak aZ ao:FM):GS:=
 (cD 5 (eP eB (ah (eC (.str "next")) (ah (eC (.str "not")) (ah (eC (.str "within")) (ah (eC (.str "always")) (ah (eC (.str "some")) (ah (eC (.str "till")) (ah (eC (.str "both")) (ah (eC (.str "either")) (ah (eC (.str "till")) (ah (eC (.str "each")) (ah (eC (.str "one")) (ah (eC (.str "now")) aB))))))))))))))
def sy2(ak aZ ao:FM):GS:=
 (cD 6 (eT (b9 5 (eF (bq ak (cG (au 0) (aW (eC (.int 12)) bQ)))))))
def Om(ak aZ ao:FM):GS:=
 (ju (FY (yP (qB (eF (eP D8 (ah (eF (au 6)) (ah (eF (eP fT (ah (eC (.str "each")) (ah (eC (.str "one")) aB)))) aB))))) (qB (eF (eP kg (ah (b9 3 f_) (ah (eC (.int 0)) aB)))))) (yP (qB (eF (eP D8 (ah (eF (au 6)) (ah (eF (eP fT (ah (eC (.str "till")) (ah (eC (.str "both")) (ah (eC (.str "either")) aB))))) aB))))) (qB (eF (eP FZ (ah (b9 3 (eC (.int 0))) (ah (eC (.int 2)) aB))))))) (cD 6 (eP Hr (ah (eF (eP eB (ah (eC (.str "next")) (ah (eC (.str "some")) (ah (eC (.str "always")) aB))))) (ah (eF (bq ak (cG (au 0) (aW (eC (.int 3)) bQ)))) aB)))) dg)
def Qi(ak aZ ao:FM):GS:=
 (ju (FY (qB (eF (eP FZ (ah (b9 3 (eC (.int 0))) (ah f_ aB))))) (FY (qB (eF (eP FZ (ah (eF (au 4)) (ah (eC (.int 2)) aB))))) (qB (eF (eP kg (ah (eF (au 6)) (ah (eC (.str "now")) aB))))))) (bU (eP Hr (ah (eF (eP eB (ah (eF (eP fT (ah (eC (.str "yes")) aB))) (ah (eF (eP fT (ah (eC (.str "no")) aB))) (ah (eF (eP fT (ah (eC (.str "now")) (ah (eF (bq aZ (cG (au 0) (aW j_ (aW (eF (au 2)) bQ))))) aB)))) aB))))) (ah (eF (eP Bv (ah (eC (.int 2)) (ah (eF (bq ak (cG (au 0) (aW (eC (.int 9)) bQ)))) aB)))) aB)))) dg)
def Oo(ak aZ ao:FM):GS:=
 (ju (qB (eF (eP D8 (ah (eF (au 6)) (ah (eF (eP fT (ah (eC (.str "each")) (ah (eC (.str "one")) aB)))) aB))))) (aP (AN 3 f_ (eF (eP yQ (ah (b9 3 f_) (ah f_ aB)))))
 (aP (cD 7 (cM [] (iF j_) bB (b9 0 (eC (.int 0)))))
 (aP (cD 8 (eP Hr (ah (eF (eP gU (ah (eF (au 7)) (ah (eF (eP eB (ah (eC (.str "x")) (ah (eC (.str "y")) (ah (eC (.str "x")) aB))))) aB)))) (ah (eF (bq ak (cG (au 0) (aW (eF (eP gU (ah (nq 7) (ah (eC (.int 3)) aB)))) bQ)))) aB))))
 (aP (cD 9 (bq ao (cG (au 0) (aW j_ (aW (eF (eP gU (ah (eF (au 2)) (ah (eF (eP fT (ah (eF (au 8)) aB))) aB)))) (cG (au 3) (aW (eF (eP yQ (ah (eF (au 4)) (ah f_ aB)))) bQ)))))))
 (bU (eP fT (ah (eF (au 6)) (ah (b9 7 (eF (bq ak (cG (au 0) (aW (nq 7) bQ))))) (ah (eF (au 8)) (ah (eF (au 9)) aB)))))))))) dg)
def Sl(ak aZ ao:FM):GS:=
 (ju (qB (eF (eP kg (ah (eF (au 6)) (ah (eC (.str "within")) aB))))) (bU (eP fT (ah (eF (au 6)) (ah (eF (eP Hr (ah (eF (eP eB (ah (eC (.int 2)) (ah f_ (ah (eC (.int 3)) (ah (eC (.int 0)) (ah (eC (.int 5)) (ah (eC (.int 2)) aB)))))))) (ah (eF (bq ak (cG (au 0) (aW (eC (.int 6)) bQ)))) aB)))) (ah (eF (bq ao (cG (au 0) (aW j_ (aW (eF (au 2)) (cG (au 3) (aW (eF (eP yQ (ah (eF (au 4)) (ah f_ aB)))) bQ))))))) aB))))) dg)
def Xb(ak aZ ao:FM):GS:=
 (ju (qB (eF (eP D8 (ah (eF (au 6)) (ah (eF (eP fT (ah (eC (.str "till")) (ah (eC (.str "both")) (ah (eC (.str "either")) aB))))) aB))))) (aP (AN 3 (eC (.int 0)) (eF (eP yQ (ah (b9 3 (eC (.int 0))) (ah f_ aB)))))
 (aP (cD 10 (bq ao (cG (au 0) (aW j_ (aW (eF (au 2)) (cG (au 3) (aW (eF (eP yQ (ah (eF (au 4)) (ah f_ aB)))) bQ)))))))
 (aP (AN 3 (eC (.int 0)) (eF (eP gU (ah (b9 3 (eC (.int 0))) (ah f_ aB)))))
 (bU (eP fT (ah (eF (au 6)) (ah (eF (au 10)) (ah (eF (bq ao (cG (au 0) (aW j_ (aW (eF (au 2)) (cG (au 3) (aW (eF (eP yQ (ah (eF (au 4)) (ah f_ aB)))) bQ))))))) aB)))))))) dg)
def sy8(ak aZ ao:FM):GS:=
 (bU (eP fT (ah (eF (au 6)) (ah (eF (bq ao (cG (au 0) (aW j_ (aW (eF (au 2)) (cG (au 3) (aW (eF (eP yQ (ah (eF (au 4)) (ah f_ aB)))) bQ))))))) aB))))
def dG(ak aZ ao:FM):GS:=aP (sy0 ak aZ ao) (aP (sy1 ak aZ ao) (aP (sy2 ak aZ ao) (aP (Om ak aZ ao) (aP (Qi ak aZ ao) (aP (Oo ak aZ ao) (aP (Sl ak aZ ao) (aP (Xb ak aZ ao) (sy8 ak aZ ao))))))))
def ZT(ak aZ ao:FM):dG ak aZ ao=aP (sy0 ak aZ ao) (aP (sy1 ak aZ ao) (aP (sy2 ak aZ ao) (aP (Om ak aZ ao) (aP (Qi ak aZ ao) (aP (Oo ak aZ ao) (aP (Sl ak aZ ao) (aP (Xb ak aZ ao) (sy8 ak aZ ao)))))))):=rfl
noncomputable def HL:BBB:=["next","not","within","always","some","till","both","either","till","each","one","now"]
noncomputable def Fl:BBB:=["till","both","either"]
noncomputable abbrev bg(a b:Int):MO:=.lst [.int a,.int b]
section
variable {f1 f2 f3:FM}{T0 T1 T2 T3 T4 T5:MO}{td:D}{bl:List D}{b0 b1 deep:Int}{z:Str}{hl:List D}
abbrev sv(hl:List D)(T:MO)(td:D)(bl:List D)(a b deep:Int)(h:Str):SS:=[some (.b T),AAA td,AAA (.tup bl),some (.b (bg a b)),AAC deep,AAB hl,AAA (.str h),none,none,none,none]
def KA(f1 f2 f3:FM):GS:=aP (Qi f1 f2 f3) (aP (Oo f1 f2 f3) (aP (Sl f1 f2 f3) (aP (Xb f1 f2 f3) (sy8 f1 f2 f3))))
def lX(a b:D):dZ [a,b] 0=some a/\dZ [a,b] 1=some b:=⟨rfl,rfl⟩
def Nk:Hg 2 0=some 0/\Hg 2 1=some 1:=⟨rfl,rfl⟩
def uY(z:Str):D8 [.str z,.tup [.str "each",.str "one"]]=AAA (.bl (eG z)):=uV (.str z) BND
def C2(z:Str):D8 [.str z,.tup [.str "till",.str "both",.str "either"]]=AAA (.bl (inD (.str z) (Fl.map D.str))):=uV (.str z) Fl
def HV{v:Int}{h0:Str}(p1:f1 [.b T0,.t (.int 12)]=some (.t (.int v),[T1]))(hh:dZ (HL.map D.str) v=some (.str h0))
  (hz:(eG h0=true/\b1=0\/inD (.str h0) (Fl.map D.str)=true/\b0-1<2)/\(∃u,f1 [.b T1,.t (.int 3)]=some (.t (.int u),[T2])/\dZ [D.str "next",.str "some",.str "always"] u=some (.str z))\/¬(eG h0=true/\b1=0\/inD (.str h0) (Fl.map D.str)=true/\b0-1<2)/\z=h0/\T2=T1):
  dG f1 f2 f3 [some (.b T0),AAA td,AAA (.tup bl),some (.b (bg b0 b1)),AAC deep,none,none,none,none,none,none]=KA f1 f2 f3 (sv (HL.map D.str) T2 td bl (b0-1) b1 deep z):=by
 rw[ZT];have e0:sy0 f1 f2 f3 [some (.b T0),AAA td,AAA (.tup bl),some (.b (bg b0 b1)),AAC deep,none,none,none,none,none,none]=some (.nx [some (.b T0),AAA td,AAA (.tup bl),some (.b (bg (b0-1) b1)),AAC deep,none,none,none,none,none,none]):=by simp[sy0,lX,Nk]
 have e1:sy1 f1 f2 f3 [some (.b T0),AAA td,AAA (.tup bl),some (.b (bg (b0-1) b1)),AAC deep,none,none,none,none,none,none]=some (.nx [some (.b T0),AAA td,AAA (.tup bl),some (.b (bg (b0-1) b1)),AAC deep,AAB (HL.map D.str),none,none,none,none,none]):=by simp[sy1,HL]
 have e1':∃hl:List D,hl=HL.map D.str:=⟨_,rfl⟩
 obtain⟨hl,ehl⟩:=e1';rw[<-ehl]at hh e1 ⊢;have e2:sy2 f1 f2 f3 [some (.b T0),AAA td,AAA (.tup bl),some (.b (bg (b0-1) b1)),AAC deep,AAB hl,none,none,none,none,none]=some (.nx (sv hl T1 td bl (b0-1) b1 deep h0)):=by
  simp[sy2,p1,hh]
 have e3:Om f1 f2 f3 (sv hl T1 td bl (b0-1) b1 deep h0)=some (.nx (sv hl T2 td bl (b0-1) b1 deep z)):=by
  have i1:=uY h0;have i2:=C2 h0;rcases hz with⟨hc,u,p2,hu⟩|⟨hc,rfl,rfl⟩
  .cases q1:eG h0 with
   |true=>
    rw[q1]at i1;by_cases c1:b1=0
    .simp[Om,i1,lX,c1,p2,hu]
    .have q3:inD (.str h0) (Fl.map D.str)=true/\b0-1<2:=by rcases hc with h|h;exact absurd h.2 c1;exact h
     rw[q3.1]at i2;simp[Om,i1,i2,lX,c1,p2,hu,q3.2]
   |false=>
    rw[q1]at i1 hc;have q3:inD (.str h0) (Fl.map D.str)=true/\b0-1<2:=by rcases hc with h|h;cases h.1;exact h
    rw[q3.1]at i2;simp[Om,i1,i2,lX,p2,hu,q3.2]
  .cases q1:eG z with
   |true=>
    rw[q1]at i1;have c1:¬b1=0:=λc=>hc (.inl ⟨q1,c⟩);cases q2:inD (.str z) (Fl.map D.str) with
    |true=>
     rw[q2]at i2;have c2:¬b0-1<2:=λc=>hc (.inr ⟨q2,c⟩);simp[Om,i1,i2,lX,c1,c2]
    |false=>
     rw[q2]at i2;simp[Om,i1,i2,lX,c1]
   |false=>
    rw[q1]at i1;cases q2:inD (.str z) (Fl.map D.str) with
    |true=>
     rw[q2]at i2;have c2:¬b0-1<2:=λc=>hc (.inr ⟨q2,c⟩);simp[Om,i1,i2,lX,c2]
    |false=>
     rw[q2]at i2;simp[Om,i1,i2,lX]
 rw[fC,e0,aaN];simp only;rw[fC,e1,aaN];simp only;rw[fC,e2,aaN];simp only;rw[fC,e3,aaN];rfl
def Vk(T:MO)(td:D)(bl:List D)(a b deep:Int)(o:Option Out):Option (U×List MO):=o.bind λo=>match o with
 |.rt (.t d) S=>(bN [.b T,.t td,.t (.tup bl),.b (bg a b),.t (.int deep)] S).map λos=>(.t d,os)
 |.rt (.m o) S=>(bN [.b T,.t td,.t (.tup bl),.b (bg a b),.t (.int deep)] S).map λos=>(.m o,os)
 |.nx S=>(bN [.b T,.t td,.t (.tup bl),.b (bg a b),.t (.int deep)] S).map λos=>(.t .cI,os)
 |_=>none
def Vl:bf 11 (dG f1 f2 f3) [.b T0,.t td,.t (.tup bl),.b (bg b0 b1),.t (.int deep)]=Vk T0 td bl b0 b1 deep (dG f1 f2 f3 [some (.b T0),AAA td,AAA (.tup bl),some (.b (bg b0 b1)),AAC deep,none,none,none,none,none,none]):=rfl
def Ac{d:D}{T':MO}{b:Int}{r:SS}:Vk T td bl a b deep (some (.rt (.t d) (some (.b T')::AAA td::AAA (.tup bl)::some (.b (bg a' b'))::AAC deep::r)))=some (.t d,[T',bg a' b']):=by
 simp[Vk]
def Qj{b:Int}{Oq d:D}(hc:a<1\/deep<2\/z="now")(p1:f2 [.b T2,.t td,.t (.tup bl)]=some (.t Oq,[T3]))(p2:f1 [.b T3,.t (.int 9)]=some (.t (.int k),[T4]))(hk:dZ [.tup [.str "yes"],.tup [.str "no"],.tup [.str "now",Oq]] (if k<2 then k else 2)=some d):
  KA f1 f2 f3 (sv hl T2 td bl a b deep z)=some (.rt (.t d) (sv hl T4 td bl a b deep z)):=by
 have e4:Qi f1 f2 f3 (sv hl T2 td bl a b deep z)=some (.rt (.t d) (sv hl T4 td bl a b deep z)):=by
  by_cases c1:a<1
  .simp[Qi,lX,c1,p1,p2,hk]
  .by_cases c2:deep<2
   .simp[Qi,lX,c1,c2,p1,p2,hk]
   .have c3:z="now":=by rcases hc with h|h|h;exact absurd h c1;exact absurd h c2;exact h
    subst c3;simp[Qi,lX,c1,c2,p1,p2,hk]
 unfold KA;rw[fC,e4,aaN]
def yu{b:Int}(h1:¬a<1)(h2:¬deep<2)(h3:¬z="now"):Qi f1 f2 f3 (sv hl T2 td bl a b deep z)=some (.nx (sv hl T2 td bl a b deep z)):=by
 simp[Qi,lX,h1,h2,h3]
def Vm{b x nx:Int}{xd nd d:D}(h1:¬a<1)(h2:¬deep<2)(h3:¬z="now")(hb:eG z=true)(hr:rows.length<=10)
  (p1:f1 [.b T2,.t (.int ((rows.length:Int)+3))]=some (.t (.int x),[T3]))(hx:dZ (qF rows++[.str "x",.str "y",.str "x"]) x=some xd)(hv:bl.length+1<=100000)
  (p2:f3 [.b T3,.t (.tup (rows.map kC)),.t (.tup (bl++[xd])),.b (bg a (b-1)),.t (.int (deep-1))]=some (.t d,[T4,bg a' b']))(p3:f1 [.b T4,.t (.int (rows.length:Int))]=some (.t (.int nx),[T5]))(hn:dZ (qF rows) nx=some nd):
  ∃r,KA f1 f2 f3 (sv hl T2 (.tup (rows.map kC)) bl a b deep z)=some (.rt (.t (.tup [.str z,nd,xd,d])) (some (.b T5)::AAA (.tup (rows.map kC))::AAA (.tup bl)::some (.b (bg a' b'))::AAC deep::r)):=by
 unfold KA;rw[fC,yu h1 h2 h3,aaN];simp only;have i1:=uY z;rw[hb]at i1;have ec:=λS=>Ab (S:=S) rows;have l1:(rows.map kC).length<=100000:=by rw[aar];lia
 have ln:(qF rows).length=rows.length:=uX rows;have l3:rows.length<=99997:=by lia
 have l4:((qF rows).length:Int)=rows.length:=by rw[ln]
 generalize qF rows=L at *;generalize rows.map kC=R at *;rw[fC];simp[Oo,lX,Nk,i1,cQ,l1,ec,l3,l4,ln,p1,hx,hv,p2,p3,hn]
def Kf{b:Int}{kd d:D}(h1:¬a<1)(h2:¬deep<2)(h3:¬z="now")(hb:eG z=false)(hz:z="within")
  (p1:f1 [.b T2,.t (.int 6)]=some (.t (.int k),[T3]))(hk:dZ [D.int 2,.int 1,.int 3,.int 0,.int 5,.int 2] k=some kd)
  (p2:f3 [.b T3,.t td,.t (.tup bl),.b (bg a b),.t (.int (deep-1))]=some (.t d,[T4,bg a' b'])):
  KA f1 f2 f3 (sv hl T2 td bl a b deep z)=some (.rt (.t (.tup [.str z,kd,d])) (sv hl T4 td bl a' b' deep z)):=by
 unfold KA;rw[fC,yu h1 h2 h3,aaN];simp only;have i1:=uY z;rw[hb]at i1;have e5:Oo f1 f2 f3 [some (.b T2),AAA td,AAA (.tup bl),some (.b (bg a b)),AAC deep,AAB hl,AAA (.str z),none,none,none,none]=some (.nx [some (.b T2),AAA td,AAA (.tup bl),some (.b (bg a b)),AAC deep,AAB hl,AAA (.str z),none,none,none,none]):=by simp[Oo,i1]
 rw[fC,e5,aaN];simp only;rw[fC];simp[Sl,eq_true hz,p1,hk,p2]
def Vn{b:Int}{d e:D}{a2 b2:Int}(h1:¬a<1)(h2:¬deep<2)(h3:¬z="now")(hb:eG z=false)(hz:¬z="within")(ht:inD (.str z) (Fl.map D.str)=true)
  (p1:f3 [.b T2,.t td,.t (.tup bl),.b (bg (a-1) b),.t (.int (deep-1))]=some (.t d,[T3,bg a' b']))(p2:f3 [.b T3,.t td,.t (.tup bl),.b (bg (a'+1) b'),.t (.int (deep-1))]=some (.t e,[T4,bg a2 b2])):
  ∃r,KA f1 f2 f3 (sv hl T2 td bl a b deep z)=some (.rt (.t (.tup [.str z,d,e])) (some (.b T4)::AAA td::AAA (.tup bl)::some (.b (bg a2 b2))::AAC deep::r)):=by
 unfold KA;rw[fC,yu h1 h2 h3,aaN];simp only;have i1:=uY z;rw[hb]at i1;have i2:=C2 z;rw[ht]at i2;have e5:Oo f1 f2 f3 [some (.b T2),AAA td,AAA (.tup bl),some (.b (bg a b)),AAC deep,AAB hl,AAA (.str z),none,none,none,none]=some (.nx [some (.b T2),AAA td,AAA (.tup bl),some (.b (bg a b)),AAC deep,AAB hl,AAA (.str z),none,none,none,none]):=by simp[Oo,i1]
 have e6:Sl f1 f2 f3 [some (.b T2),AAA td,AAA (.tup bl),some (.b (bg a b)),AAC deep,AAB hl,AAA (.str z),none,none,none,none]=some (.nx [some (.b T2),AAA td,AAA (.tup bl),some (.b (bg a b)),AAC deep,AAB hl,AAA (.str z),none,none,none,none]):=by simp[Sl,hz]
 rw[fC,e5,aaN];simp only;rw[fC,e6,aaN];simp only;rw[fC];simp[Xb,lX,Nk,i2,p1,p2]
def Vo{b:Int}{d:D}(h1:¬a<1)(h2:¬deep<2)(h3:¬z="now")(hb:eG z=false)(hz:¬z="within")(ht:inD (.str z) (Fl.map D.str)=false)
  (p1:f3 [.b T2,.t td,.t (.tup bl),.b (bg a b),.t (.int (deep-1))]=some (.t d,[T3,bg a' b'])):
  KA f1 f2 f3 (sv hl T2 td bl a b deep z)=some (.rt (.t (.tup [.str z,d])) (sv hl T3 td bl a' b' deep z)):=by
 unfold KA;rw[fC,yu h1 h2 h3,aaN];simp only;have i1:=uY z;rw[hb]at i1;have i2:=C2 z;rw[ht]at i2;have e5:Oo f1 f2 f3 [some (.b T2),AAA td,AAA (.tup bl),some (.b (bg a b)),AAC deep,AAB hl,AAA (.str z),none,none,none,none]=some (.nx [some (.b T2),AAA td,AAA (.tup bl),some (.b (bg a b)),AAC deep,AAB hl,AAA (.str z),none,none,none,none]):=by simp[Oo,i1]
 have e6:Sl f1 f2 f3 [some (.b T2),AAA td,AAA (.tup bl),some (.b (bg a b)),AAC deep,AAB hl,AAA (.str z),none,none,none,none]=some (.nx [some (.b T2),AAA td,AAA (.tup bl),some (.b (bg a b)),AAC deep,AAB hl,AAA (.str z),none,none,none,none]):=by simp[Sl,hz]
 have e7:Xb f1 f2 f3 [some (.b T2),AAA td,AAA (.tup bl),some (.b (bg a b)),AAC deep,AAB hl,AAA (.str z),none,none,none,none]=some (.nx [some (.b T2),AAA td,AAA (.tup bl),some (.b (bg a b)),AAC deep,AAB hl,AAA (.str z),none,none,none,none]):=by simp[Xb,i2]
 rw[fC,e5,aaN];simp only;rw[fC,e6,aaN];simp only;rw[fC,e7,aaN];simp only;simp[sy8,p1]
end
structure Dw(deep:Nat)(bs:BBB)(room bin:Nat)(d:D):Prop where
 dr:Dr deep bs room bin d
 nG:Sane d
 w:wD d+2<=450*room
noncomputable def rm(deep:Nat):Nat:=2 ^ deep-1
def Nl(n:Nat):1<=rm (n+1):=by
 unfold rm;have:1<=2 ^ n:=afT;rw[ac4];lia
def Qk(n:Nat):rm (n+1)=2*rm n+1:=by
 unfold rm;have:1<=2 ^ n:=afT;rw[ac4];lia
def rX:Nat->FM
 |0=>λ_=>none
 |j+1=>bf 11 (dG cN Ol (rX j))
def Ql(j:Nat):∀us r,rX (j+1) us=some r->bf 11 (dG cN Ol (rX j)) us=some r:=λ_ _ h=>h
noncomputable def be:Nat->D->Nat
 |n+1,.tup [.str z,a]=>if z="not" then be n a else 0
 |n+1,.tup [.str z,a,b]=>if z="both"\/z="either" then be n a+be n b+1 else 0
 |_,_=>0
def Vp(n:Nat)(z:Str)(a:D):be (n+1) (.tup [.str z,a])<=be n a:=by show(if _ then _ else _)<=_;split<;>lia
def Vq(n:Nat)(z:Str)(a b:D):be (n+1) (.tup [.str z,a,b])<=be n a+be n b+1:=by
 show(if _ then _ else _)<=_;split
 .exact aaP _
 .exact abK _
inductive Vr(r:Option (U×List MO))(deep:Nat)(bs:BBB)(n:Nat)(b0:Int)(b1:Nat):Prop where
 |mk(d:D)(T':MO)(a':Int)(bin:Nat):r=some (.t d,[T',bg a' ((b1-bin:Nat):Int)])->Dw deep bs (rm deep) bin d->bin<=b1->Fd (n+8*rm deep) T'->(1<=b0->0<=a'/\2*(be deep d:Int)+1+a'<=b0)->Vr r deep bs n b0 b1
def ZU(f:FM)(deep:Nat):Prop:=∀(T:MO)(n:Nat)(td:D)(bs:BBB)(b0:Int)(b1:Nat),Fd n T->n+8*rm deep<800000->Tb td->bs.length+deep<800->(∀z∈bs,Nm z)->
 Vr (f [.b T,.t td,.t (.tup (bs.map D.str)),.b (bg b0 b1),.t (.int deep)]) deep bs n b0 b1
structure Hd(z:Str):Prop where
 h8:z.length<=8
 sn:Sane (.str z)
 nw:z="now"\/z="within"/\eG z=false/\inD (.str z) (Fl.map D.str)=false\/eG z=true/\kh z=4/\jO z=3/\z≠"now"/\z≠"within"\/
  eG z=false/\inD (.str z) (Fl.map D.str)=true/\kh z=3/\jO z=1/\z≠"now"/\z≠"within"\/eG z=false/\inD (.str z) (Fl.map D.str)=false/\kh z=2/\jO z=1/\z≠"now"/\z≠"within"
def ZV:∀z∈HL,Hd z:=by
 intro z hz;unfold HL at hz;simp only[aaV,abG,ad2]at hz;rcases hz with rfl|rfl|rfl|rfl|rfl|rfl|rfl|rfl|rfl|rfl|rfl|rfl
 .exact⟨by decide,cY i_,.inr (.inr (.inr (.inr ⟨by decide,by decide,by decide,by decide,by decide,by decide⟩)))⟩
 .exact⟨by decide,cY i_,.inr (.inr (.inr (.inr ⟨by decide,by decide,by decide,by decide,by decide,by decide⟩)))⟩
 .exact⟨by decide,cY i_,.inr (.inl ⟨rfl,by decide,by decide⟩)⟩
 .exact⟨by decide,cY i_,.inr (.inr (.inr (.inr ⟨by decide,by decide,by decide,by decide,by decide,by decide⟩)))⟩
 .exact⟨by decide,cY i_,.inr (.inr (.inr (.inr ⟨by decide,by decide,by decide,by decide,by decide,by decide⟩)))⟩
 .exact⟨by decide,cY i_,.inr (.inr (.inr (.inl ⟨by decide,by decide,by decide,by decide,by decide,by decide⟩)))⟩
 .exact⟨by decide,cY i_,.inr (.inr (.inr (.inl ⟨by decide,by decide,by decide,by decide,by decide,by decide⟩)))⟩
 .exact⟨by decide,cY i_,.inr (.inr (.inr (.inl ⟨by decide,by decide,by decide,by decide,by decide,by decide⟩)))⟩
 .exact⟨by decide,cY i_,.inr (.inr (.inr (.inl ⟨by decide,by decide,by decide,by decide,by decide,by decide⟩)))⟩
 .exact⟨by decide,cY i_,.inr (.inr (.inl ⟨by decide,by decide,by decide,by decide,by decide⟩))⟩
 .exact⟨by decide,cY i_,.inr (.inr (.inl ⟨by decide,by decide,by decide,by decide,by decide⟩))⟩
 .exact⟨by decide,cY i_,.inl rfl⟩
def C0{f2 f3:FM}{td:D}{bl:List D}{b0 b1 deep:Int}(h:Fd n T)(hn:n+2<900000):
  ∃z T2,dG cN f2 f3 [some (.b T),AAA td,AAA (.tup bl),some (.b (bg b0 b1)),AAC deep,none,none,none,none,none,none]=KA cN f2 f3 (sv (HL.map D.str) T2 td bl (b0-1) b1 deep z)/\z∈HL/\(eG z=true->b1≠0)/\(inD (.str z) (Fl.map D.str)=true->2<=b0-1)/\Fd (n+2) T2:=by
 obtain⟨v,T1,p1,v0,v1,h1⟩:=dO (m:=12) h a_ b_ b_;obtain⟨hd,a1,a2⟩:=nI (x:=.cI) (l:=HL.map D.str) v0 (by rw[aar];exact v1);obtain⟨h0,hm,rfl⟩:=aa2.mp a2;by_cases c:eG h0=true/\b1=0\/inD (.str h0) (Fl.map D.str)=true/\b0-1<2
 .obtain⟨u,T2,p2,u0,u1,h2⟩:=dO (m:=3) h1 a_ b_ b_;obtain⟨zd,q1,q2⟩:=nI (x:=.cI) (l:=[D.str "next",.str "some",.str "always"]) u0 u1;obtain⟨z,rfl,zm,zb,zt⟩:∃z,zd= .str z/\z∈HL/\eG z=false/\inD (.str z) (Fl.map D.str)=false:=by
   simp only[aaV,abG,ad2]at q2;rcases q2 with rfl|rfl|rfl
   .exact⟨"next",rfl,by decide,by decide,by decide⟩
   .exact⟨"some",rfl,by decide,by decide,by decide⟩
   .exact⟨"always",rfl,by decide,by decide,by decide⟩
  exact⟨z,T2,HV p1 a1 (.inl ⟨c,u,p2,q1⟩),zm,λq=>(by rw[zb]at q;cases q),λq=>(by rw[zt]at q;cases q),h2⟩
 .exact⟨h0,T1,HV p1 a1 (.inr ⟨c,rfl,rfl⟩),hm,λq e=>c (.inl ⟨q,e⟩),λq=>(by by_cases h:b0-1<2;exact absurd (.inr ⟨q,h⟩) c;lia),h1.mono a_⟩
def Vs{Oq d:D}(ht:Tw bs Oq)(h:d∈[D.tup [.str "yes"],.tup [.str "no"],.tup [.str "now",Oq]]):Dw (n+1) bs (rm (n+1)) 0 d:=by
 have r1:=Nl n;simp only[aaV,abG,ad2]at h;rcases h with rfl|rfl|rfl
 .exact⟨dr0 (uW b_ b_ b_ b_) (by unfold dM;rw[show jO "yes" =1 by decide];rfl) b_ r1 ⟨(by show 1<=8;lia),(by show 3<=8;lia),True.intro⟩ (by show max 0 0+1<=n+2;lia),⟨cY i_,True.intro⟩,by show 32+2+0+4+2<=_;lia⟩
 .exact⟨dr0 (uW b_ b_ b_ b_) (by unfold dM;rw[show jO "no" =1 by decide];rfl) b_ r1 ⟨(by show 1<=8;lia),(by show 2<=8;lia),True.intro⟩ (by show max 0 0+1<=n+2;lia),⟨cY i_,True.intro⟩,by show 22+2+0+4+2<=_;lia⟩
 .refine⟨dr0 (z:="now") (r:=[Oq]) ?_ (by unfold dM;rw[show jO "now" =2 by decide];rfl) b_ r1 ⟨(by show 2<=8;lia),(by show 3<=8;lia),ht.fit,True.intro⟩ (by have:=ht.dep;show max 0 (max (cJ Oq) 0)+1<=n+2;lia),⟨cY i_,ht.nG,True.intro⟩,by have:=ht.w;show 32+2+(wD Oq+2+0)+4+2<=_;lia⟩;unfold eL;rw[if_pos (by rw[HU.1];rfl)];simp only[if_true];exact ht.ok
def Vt:∀(deep:Nat),1<=deep->∀(j:Nat),deep<=j->ZU (rX j) deep:=by
 intro deep
 induction deep with
 |zero=>intro h;lia
 |succ m ih=>
  intro _ j hj T n td bs b0 b1 hT hn ht hl hs;obtain⟨i,rfl⟩:∃i,j=i+1:=⟨j-1,by lia⟩
  have r0:=Nl m;have r1:=Qk m;show Vr (bf 11 (dG cN Ol (rX i)) _) _ _ _ _ _;rw[Vl];obtain⟨z,T2,e0,zm,zb,zt,h2⟩:=C0 (f2:=Ol) (f3:=rX i) (td:=td) (bl:=bs.map D.str) (b0:=b0) (b1:=b1) (deep:=((m+1:Nat):Int)) hT a_;rw[e0];generalize HL.map D.str=hl;obtain⟨z8,zs,zk⟩:=ZV z zm;have zw:=ER z8;by_cases c:b0-1<1\/((m+1:Nat):Int)<2\/z="now"
  .obtain⟨Oq,T3,p1,tw,h3⟩:=ZS (bs:=bs) h2 a_ ht a_ hs;obtain⟨k,T4,p2,k0,k1,h4⟩:=dO (m:=9) h3 a_ b_ b_;obtain⟨d,q1,q2⟩:=nI (x:=.cI) (l:=[D.tup [.str "yes"],.tup [.str "no"],.tup [.str "now",Oq]]) (i:=if k<2 then k else 2) (by split<;>lia) (by show _<(3:Int);split<;>lia);have Ru:be (m+1) d=0:=by
    simp only[aaV,abG,ad2]at q2;rcases q2 with rfl|rfl|rfl
    .rfl
    .rfl
    .exact if_neg b_
   refine⟨d,T4,b0-1,0,?_,Vs tw q2,by lia,h4.mono a_,λ_=>by lia⟩;rw[Qj c p1 p2 q1,Ac];rfl
  .have c1:¬b0-1<1:=λq=>c (.inl q);have c2:¬((m+1:Nat):Int)<2:=λq=>c (.inr (.inl q));have c3:¬z="now":=λq=>c (.inr (.inr q));have ed:(((m+1:Nat):Int)-1)=(m:Int):=by lia
   have ih:=ih a_ i a_;rcases zk with zk|⟨zk,bz,tz⟩|⟨bz,l4,s3,n1,n2⟩|⟨bz,tz,l3,s1,n1,n2⟩|⟨bz,tz,l2,s1,n1,n2⟩
   .exact absurd zk c3
   .obtain⟨k,T3,p1,k0,k1,h3⟩:=dO (m:=6) h2 a_ b_ b_;obtain⟨kd,q1,q2⟩:=nI (x:=.cI) (l:=[D.int 2,.int 1,.int 3,.int 0,.int 5,.int 2]) k0 k1;obtain⟨d,T4,a',bin,g1,g2,g3,g4,g5⟩:=ih T3 (n+2+1) td bs (b0-1) b1 h3 a_ ht a_ hs;obtain⟨x,rfl,x0,x5⟩:∃x:Int,kd= .int x/\0<=x/\x<=5:=by
     simp only[aaV,abG,ad2]at q2;rcases q2 with rfl|rfl|rfl|rfl|rfl|rfl<;>exact⟨_,rfl,by decide,by decide⟩
    subst zk;have sh:eL bs "within" [.int x,d]=true:=by
     unfold eL;rw[if_pos (by rw[HU.2];rfl)];simp only[show ¬(("within":Str)="now") by decide,aeW,if_true];show(decide (0<=x) && decide (x<=5))=true;simp only[abS,ab5];lia
    have pl:dM "within" [.int x,d]=[d]:=by unfold dM;rw[show jO "within" =2 by decide];rfl
    have ib:g9 bs "within" [.int x,d]=bs:=by unfold g9;rw[if_neg (by rw[bz];simp)]
    have dr:=dr1 (n:=m) (room:=rm m) (b:=bin) (bs:=bs) (z:="within") (r:=[.int x,d]) sh pl (by rw[ib];exact g2.dr) ⟨(by show 3<=8;lia),(by show 6<=8;lia),True.intro,g2.dr.fit,True.intro⟩ (by
     have:=g2.dr.dep;show max 0 (max 0 (max (cJ d) 0))+1<=m+2;lia)
    rw[if_neg (by rw[bz];simp),agN]at dr;refine⟨_,T4,a',bin,?_,⟨dr.more a_,⟨zs,(by show x.natAbs<10 ^ 30;lia),g2.nG,True.intro⟩,?_⟩,g3,g4.mono a_,λ_=>by have:=g5 a_;have hb:be (m+1) (.tup [.str "within",.int x,d])=0:=if_neg b_;lia⟩
    .rw[Kf c1 c2 c3 bz rfl p1 q1 (by rw[ed];exact g1),Ac]
    .have:=g2.w;show wD (.str "within")+2+(40+2+(wD d+2+0))+4+2<=_;lia
   .obtain⟨rows,rfl,rne,rl,rn⟩:=id ht;have b1n:b1≠0:=λq=>zb bz (by rw[q];rfl);have rp:0<(rows.length:Int):=by cases rows with|nil=>exact absurd rfl rne|cons _ _=>simp only[abD];lia
    obtain⟨x,T3,p1,x0,x1,h3⟩:=dO (m:=(rows.length:Int)+3) h2 a_ a_ a_;obtain⟨xd,q1,q2⟩:=nI (x:=.cI) (l:=qF rows++[.str "x",.str "y",.str "x"]) x0 (by rw[aaW,uX];push_cast;exact x1);obtain⟨xs,rfl,xn⟩:∃xs,xd= .str xs/\Nm xs:=by
     rcases abu.mp q2 with q|q
     .obtain⟨y,hy,rfl⟩:=aa2.mp q;obtain⟨p,hp,rfl⟩:=aa2.mp hy;exact⟨_,rfl,rn p hp⟩
     .simp only[aaV,abG,ad2]at q;rcases q with rfl|rfl|rfl<;>exact⟨_,rfl,by decide +kernel,by decide,cY i_⟩
    obtain⟨d,T4,a',bin,g1,g2,g3,g4,g5⟩:=ih T3 (n+2+1) _ (bs++[xs]) (b0-1) (b1-1) h3 a_ ht (by rw[aaW,acX];lia) (by
     intro y hy;rcases abu.mp hy with q|q
     .exact hs y q
     .rw[show y=xs by simpa using q];exact xn)
    obtain⟨y,T5,p3,y0,y1,h5⟩:=dO (m:=(rows.length:Int)) g4 a_ rp a_;obtain⟨nd,w1,w2⟩:=nI (x:=.cI) (l:=qF rows) y0 (by rw[uX];exact y1);obtain⟨ns,rfl,nn⟩:∃ns,nd= .str ns/\Nm ns:=by
     obtain⟨y,hy,rfl⟩:=aa2.mp w2;obtain⟨p,hp,rfl⟩:=aa2.mp hy;exact⟨_,rfl,rn p hp⟩
    obtain⟨n1',n2',n3'⟩:=nn;obtain⟨x1',x2',x3'⟩:=xn;have ev:(bs++[xs]).map D.str=bs.map D.str++[.str xs]:=by rw[ad8];rfl
    have eb1:((b1-1:Nat):Int)=(b1:Int)-1:=by lia
    rw[ev,eb1]at g1;have sh:eL bs z [.str ns,.str xs,d]=true:=by
     unfold eL;rw[if_pos (by rw[l4];rfl)];simp only[n1,n2,aeW,bz,if_true,n1',x1'];rfl
    have pl:dM z [.str ns,.str xs,d]=[d]:=by unfold dM;rw[s3];rfl
    have ib:g9 bs z [.str ns,.str xs,d]=bs++[xs]:=by unfold g9;rw[if_pos bz];rfl
    have dr:=dr1 (n:=m) (room:=rm m) (b:=bin) (bs:=bs) (z:=z) (r:=[.str ns,.str xs,d]) sh pl (by rw[ib];exact g2.dr) ⟨(by show 4<=8;lia),M4 z8,M4 n2',M4 x2',g2.dr.fit,True.intro⟩ (by
     have:=g2.dr.dep;show max 0 (max 0 (max 0 (max (cJ d) 0)))+1<=m+2;lia)
    rw[if_pos bz]at dr;refine⟨_,T5,a',1+bin,?_,⟨dr.more a_,⟨zs,n3',x3',g2.nG,True.intro⟩,?_⟩,by lia,h5.mono a_,λ_=>by have:=g5 a_;have hb:be (m+1) (.tup [.str z,.str ns,.str xs,d])=0:=rfl;lia⟩
    .obtain⟨r,es⟩:=Vm (f1:=cN) (f2:=Ol) (f3:=rX i) (hl:=hl) (T2:=T2) (a:=b0-1) (b:=(b1:Int)) (deep:=((m+1:Nat):Int)) (z:=z) (bl:=bs.map D.str) (rows:=rows) c1 c2 c3 bz a_ p1 q1 (by rw[aar];lia) (by rw[ed];exact g1) p3 w1;rw[es,Ac];have ebb:((b1-1-bin:Nat):Int)=((b1-(1+bin):Nat):Int):=by lia
     rw[ebb]
    .have:=g2.w;have:=ER n2';have:=ER x2';show wD (.str z)+2+(wD (.str ns)+2+(wD (.str xs)+2+(wD d+2+0)))+4+2<=_;lia
   .obtain⟨d1,T3,a1,bi1,g1,g2,g3,g4,g5⟩:=ih T2 (n+2) td bs (b0-1-1) b1 h2 a_ ht a_ hs;obtain⟨d2,T4,a2,bi2,k1,k2,k3,k4,k5⟩:=ih T3 (n+2+8*rm m) td bs (a1+1) (b1-bi1) g4 a_ ht a_ hs;have dr:=dr2 (n:=m) (bs:=bs) (z:=z) (r:=[d1,d2]) (uW (by rw[l3];rfl) n1 n2 bz) (by unfold dM;rw[s1];rfl) bz g2.dr k2.dr ⟨(by show 3<=8;lia),M4 z8,g2.dr.fit,k2.dr.fit,True.intro⟩ (by
     have:=g2.dr.dep;have:=k2.dr.dep;show max 0 (max (cJ d1) (max (cJ d2) 0))+1<=m+2;lia)
    refine⟨_,T4,a2,bi1+bi2,?_,⟨dr.more a_,⟨zs,g2.nG,k2.nG,True.intro⟩,?_⟩,by lia,k4.mono a_,λ_=>by have z2:=zt tz;have:=g5 a_;have:=k5 a_;have:=Vq m z d1 d2;lia⟩
    .obtain⟨r,es⟩:=Vn (f1:=cN) (f2:=Ol) (f3:=rX i) (hl:=hl) (T2:=T2) (a:=b0-1) (b:=(b1:Int)) (deep:=((m+1:Nat):Int)) (z:=z) (bl:=bs.map D.str) (td:=td) c1 c2 c3 bz n2 tz (by rw[ed];exact g1) (by rw[ed];exact k1);rw[es,Ac];have ebb:((b1-bi1-bi2:Nat):Int)=((b1-(bi1+bi2):Nat):Int):=by lia
     rw[ebb]
    .have:=g2.w;have:=k2.w;show wD (.str z)+2+(wD d1+2+(wD d2+2+0))+4+2<=_;lia
   .obtain⟨d,T3,a',bin,g1,g2,g3,g4,g5⟩:=ih T2 (n+2) td bs (b0-1) b1 h2 a_ ht a_ hs;have sh:eL bs z [d]=true:=uW (by rw[l2];rfl) n1 n2 bz;have pl:dM z [d]=[d]:=by unfold dM;rw[s1];rfl
    have ib:g9 bs z [d]=bs:=by unfold g9;rw[if_neg (by rw[bz];simp)]
    have dr:=dr1 (n:=m) (room:=rm m) (b:=bin) (bs:=bs) (z:=z) (r:=[d]) sh pl (by rw[ib];exact g2.dr) ⟨(by show 2<=8;lia),M4 z8,g2.dr.fit,True.intro⟩ (by
     have:=g2.dr.dep;show max 0 (max (cJ d) 0)+1<=m+2;lia)
    rw[if_neg (by rw[bz];simp),agN]at dr;refine⟨_,T3,a',bin,?_,⟨dr.more a_,⟨zs,g2.nG,True.intro⟩,?_⟩,g3,g4.mono a_,λ_=>by have:=g5 a_;have:=Vp m z d;lia⟩
    .rw[Vo (f1:=cN) (f2:=Ol) (f3:=rX i) c1 c2 c3 bz n2 tz (by rw[ed];exact g1),Ac]
    .have:=g2.w;show wD (.str z)+2+(wD d+2+0)+4+2<=_;lia
end Sd
end
section
namespace Sp
open L2 Sw Ss Sd
noncomputable def ONE:BBB:=["not","next","always","some"]
noncomputable def TWO:BBB:=["both","either","till"]
inductive Ts(bs:BBB):D->Prop where
 |any:Ts bs (.tup [.str "any"])
 |name{a:Str}:nameB (.str a)=true->Ts bs (.tup [.str "name",.str a])
 |num{o:Str}{k:Int}:o∈z7->0<=k->k<=9->Ts bs (.tup [.str o,.int k])
 |var{o y:Str}:o∈z7->y∈bs->Ts bs (.tup [.str o,.str y])
inductive Sy:Nat->BBB->D->Prop where
 |leaf{n:Nat}{bs:BBB}{z:Str}:z="yes"\/z="no"->Sy (n+1) bs (.tup [.str z])
 |now{n:Nat}{bs:BBB}{t:D}:Ts bs t->Sy (n+1) bs (.tup [.str "now",t])
 |one{n:Nat}{bs:BBB}{z:Str}{p:D}:z∈ONE->Sy n bs p->Sy (n+1) bs (.tup [.str z,p])
 |two{n:Nat}{bs:BBB}{z:Str}{p q:D}:z∈TWO->Sy n bs p->Sy n bs q->Sy (n+1) bs (.tup [.str z,p,q])
 |Vu{n:Nat}{bs:BBB}{k:Int}{p:D}:0<=k->k<=5->Sy n bs p->Sy (n+1) bs (.tup [.str "within",.int k,p])
 |bnd{n:Nat}{bs:BBB}{z a y:Str}{p:D}:z="each"\/z="one"->nameB (.str a)=true->nameB (.str y)=true->Sy n (bs++[y]) p->Sy (n+1) bs (.tup [.str z,.str a,.str y,p])
def HW{x:D}{zs:BBB}(h:inD x (zs.map D.str)=true):∃z∈zs,x= .str z:=by
 unfold inD at h;rw[agP,abL]at h;obtain⟨z,hz,e⟩:=h;exact⟨z,hz,v5 (show lT (.str z) x=true from e)⟩
def BP{b:D}{m:Int}(h:qj b 0 m=true):∃k,b= .int k/\0<=k/\k<=m:=by
 cases b with
 |int k=>simp only[qj,abS,ab5]at h;exact⟨k,rfl,h.1,h.2⟩
 |_=>cases h
def Ts.of{bs:BBB}{t:D}(h:EK bs t=true):Ts bs t:=by
 unfold EK at h;split at h
 .rename_i a;have:lT (.str "any") a=true:=(Er a _).symm.trans h;rw[v5 this];exact .any
 .rename_i a b;split at h
  .rename_i c;have:lT (.str "name") a=true:=(Er a _).symm.trans c;rw[v5 this];obtain⟨y,rfl⟩:=qD h;exact .name h
  .obtain⟨h1,h2⟩:=abR.mp h;obtain⟨o,ho,rfl⟩:=HW h1;rcases Bool.or_eq_true_iff.mp h2 with q|q
   .obtain⟨k,rfl,k0,k1⟩:=BP q;exact .num ho k0 k1
   .obtain⟨y,hy,rfl⟩:=HW q;exact .var ho hy
 .cases h
def Nn{o:Str}(h:o∈z7):o≠"name"/\o≠"any":=by
 simp only[z7,aaV,abG,ad2]at h;rcases h with rfl|rfl|rfl<;>decide
theorem Sy.of:∀{n:Nat}{bs:BBB}{d:D},oE n bs d=true->Sy n bs d
 |0,_,_,h=>by cases h
 |n+1,bs,d,h=>by
  obtain⟨z,r,rfl,hs,hp⟩:=GF h;obtain⟨c,hh,hz⟩:=GC hs;unfold eL at hs;rw[if_pos c]at hs;simp only[BO,aaV,abG,ad2]at hz;have two:∀{k:Nat},kh z=(k:Int)+1->r.length=k:=λe=>by lia
  have l0:r.length=0->r=[]:=List.eq_nil_of_length_eq_zero;have l1:r.length=1->∃a,r=[a]:=λe=>by match r,e with|[a],_=>exact⟨a,rfl⟩
  have l2:r.length=2->∃a b,r=[a,b]:=λe=>by match r,e with|[a,b],_=>exact⟨a,b,rfl⟩
  have l3:r.length=3->∃a b p,r=[a,b,p]:=λe=>by match r,e with|[a,b,p],_=>exact⟨a,b,p,rfl⟩
  rcases hz with rfl|rfl|rfl|rfl|rfl|rfl|rfl|rfl|rfl|rfl|rfl|rfl|rfl
  .rw[l0 (two (k:=0) b_)];exact .leaf (.inl rfl)
  .rw[l0 (two (k:=0) b_)];exact .leaf (.inr rfl)
  .obtain⟨a,rfl⟩:=l1 (two (k:=1) b_);exact .now (.of hs)
  .obtain⟨a,rfl⟩:=l1 (two (k:=1) b_);exact .one b_ (Sy.of (hp a (by show a∈[a];simp)))
  .obtain⟨a,b,rfl⟩:=l2 (two (k:=2) b_);exact .two b_ (Sy.of (hp a (by show a∈[a,b];simp))) (Sy.of (hp b (by show b∈[a,b];simp)))
  .obtain⟨a,b,rfl⟩:=l2 (two (k:=2) b_);exact .two b_ (Sy.of (hp a (by show a∈[a,b];simp))) (Sy.of (hp b (by show b∈[a,b];simp)))
  .obtain⟨a,rfl⟩:=l1 (two (k:=1) b_);exact .one b_ (Sy.of (hp a (by show a∈[a];simp)))
  .obtain⟨a,b,rfl⟩:=l2 (two (k:=2) b_);exact .two b_ (Sy.of (hp a (by show a∈[a,b];simp))) (Sy.of (hp b (by show b∈[a,b];simp)))
  .obtain⟨a,b,rfl⟩:=l2 (two (k:=2) b_);obtain⟨k,rfl,k0,k1⟩:=BP (m:=5) hs;exact .Vu k0 k1 (Sy.of (hp b (by show b∈[b];simp)))
  .obtain⟨a,rfl⟩:=l1 (two (k:=1) b_);exact .one b_ (Sy.of (hp a (by show a∈[a];simp)))
  .obtain⟨a,rfl⟩:=l1 (two (k:=1) b_);exact .one b_ (Sy.of (hp a (by show a∈[a];simp)))
  .obtain⟨a,b,p,rfl⟩:=l3 (two (k:=3) b_);obtain⟨h1,h2⟩:=abR.mp (show(nameB a && nameB b)=true from hs);obtain⟨x,rfl⟩:=qD h1;obtain⟨y,rfl⟩:=qD h2;exact .bnd (.inl rfl) h1 h2 (Sy.of (hp p (by show p∈[p];simp)))
  .obtain⟨a,b,p,rfl⟩:=l3 (two (k:=3) b_);obtain⟨h1,h2⟩:=abR.mp (show(nameB a && nameB b)=true from hs);obtain⟨x,rfl⟩:=qD h1;obtain⟨y,rfl⟩:=qD h2;exact .bnd (.inr rfl) h1 h2 (Sy.of (hp p (by show p∈[p];simp)))
def wA{z:Str}(h:z∈ONE):z="not"\/z="next"\/z="always"\/z="some":=by simpa[ONE] using h
def wB{z:Str}(h:z∈TWO):z="both"\/z="either"\/z="till":=by simpa[TWO] using h
end Sp
end
section
namespace Sp
open L2 Sw Ss
variable {c n k n2 k2:Nat}{a:D}
def Kg(h:ZE ⟨#[c]⟩=true):c<16 ^ 8:=by
 obtain⟨i,hi⟩:=(PySem.StrLaws.found_iff Sw.ZD ⟨#[c]⟩).mp h;have:=(PySem.StrLaws.subAt_one Sw.ZD c i).mp hi;have k:∀c∈Sw.ZD.cps.toList,c<16 ^ 8:=by decide +kernel
 exact k c (abU this)
def rN{z:Str}(h:nameB (.str z)=true):Sane (.str z)/\z.length<=8:=by
 unfold nameB at h;simp only[abS,ab5,acB]at h;exact⟨λc hc=>Kg (h.2 _ (aa2.mpr ⟨c,hc,rfl⟩)),h.1.2⟩
def Wd(z:Str):Prop:=Sane (.str z)/\z.length<=8
def uZ(z:Str)(h:(z.cps.toList.all λc=>decide (c<16 ^ 8))=true)(h8:z.length<=8):Wd z:=⟨λc hc=>abX (acB.mp h c hc),h8⟩
def good_str{z:Str}(h:Wd z):Good 82 0 (.str z):=⟨h.1,by show 10*z.length+2<=82;have:=h.2;lia,aaP _⟩
def good_int{k:Int}(h0:0<=k)(h9:k<=9):Good 40 0 (.int k):=by
 refine⟨?_,aaP _,aaP _⟩;show k.natAbs<10 ^ 30;have:k.natAbs<=9:=by lia
 exact aeQ this b_
def mx{a b d:Nat}(h:a<=c)(k:b<=d):max a b<=max c d:=Nat.max_le.mpr ⟨aaY h (Nat.le_max_left ..),aaY k (Nat.le_max_right ..)⟩
def mx0{a:Nat}(h:a<=c):max a 0<=c:=Nat.max_le.mpr ⟨h,abK _⟩
def BQ(h:Good n k a):Good (n+6) (k+1) (.tup [a]):=⟨⟨h.nG,True.intro⟩,by show wD a+2+0+4<=_;have:=h.w;lia,afA (mx0 h.dep)⟩
def nJ{b:D}(h:Good n k a)(g:Good n2 k2 b):Good (n+n2+8) (max k k2+1) (.tup [a,b]):=⟨⟨h.nG,g.nG,True.intro⟩,by show wD a+2+(wD b+2+0)+4<=_;have:=h.w;have:=g.w;lia,afA (mx h.dep (mx0 g.dep))⟩
def BR{b c:D}{n3 k3:Nat}(h:Good n k a)(g:Good n2 k2 b)(j:Good n3 k3 c):Good (n+n2+n3+10) (max k (max k2 k3)+1) (.tup [a,b,c]):=
 ⟨⟨h.nG,g.nG,j.nG,True.intro⟩,by show wD a+2+(wD b+2+(wD c+2+0))+4<=_;have:=h.w;have:=g.w;have:=j.w;lia,afA (mx h.dep (mx g.dep (mx0 j.dep)))⟩
def Kh{b c d:D}{n3 k3 n4 k4:Nat}(h:Good n k a)(g:Good n2 k2 b)(j:Good n3 k3 c)(l:Good n4 k4 d):Good (n+n2+n3+n4+12) (max k (max k2 (max k3 k4))+1) (.tup [a,b,c,d]):=
 ⟨⟨h.nG,g.nG,j.nG,l.nG,True.intro⟩,by show wD a+2+(wD b+2+(wD c+2+(wD d+2+0)))+4<=_;have:=h.w;have:=g.w;have:=j.w;have:=l.w;lia,afA (mx h.dep (mx g.dep (mx j.dep (mx0 l.dep))))⟩
def Np{o:Str}(h:o∈z7):Wd o:=by
 simp only[z7,aaV,abG,ad2]at h;rcases h with rfl|rfl|rfl<;>exact uZ _ i_ b_
def Ts.good{bs:BBB}{t:D}(h:Ts bs t)(hw:∀y∈bs,Wd y):Good 172 1 t:=by
 cases h with
 |any=>exact(BQ (good_str (uZ "any" (by decide +kernel) b_))).mono b_ b_
 |name h=>exact(nJ (good_str (uZ "name" (by decide +kernel) b_)) (good_str (rN h))).mono b_ b_
 |num a b c=>exact(nJ (good_str (Np a)) (good_int b c)).mono b_ b_
 |var a b=>exact(nJ (good_str (Np a)) (good_str (hw _ b))).mono b_ b_
def Sy.good{n:Nat}{bs:BBB}{d:D}(h:Sy n bs d)(hw:∀y∈bs,Wd y):Good (400*2 ^ n-300) (n+1) d:=by
 have pw:∀n:Nat,1<=2 ^ n:=λn=>afT
 induction h with
 |@leaf n bs z h=>have:=pw n;exact(BQ (good_str (by rcases h with rfl|rfl<;>exact uZ _ i_ b_))).mono (by rw[ac4];lia) a_
 |@now n bs t h=>have:=pw n;exact(nJ (good_str (uZ "now" (by decide +kernel) b_)) (h.good hw)).mono (by rw[ac4];lia) a_
 |@one n bs z p hz _ ih=>have:=pw n;exact(nJ (good_str (by rcases wA hz with rfl|rfl|rfl|rfl<;>exact uZ _ i_ b_)) (ih hw)).mono (by rw[ac4];lia) a_
 |@two n bs z p q hz _ _ i1 i2=>have:=pw n;exact(BR (good_str (by rcases wB hz with rfl|rfl|rfl<;>exact uZ _ i_ b_)) (i1 hw) (i2 hw)).mono (by rw[ac4];lia) a_
 |@Vu n bs k p a b _ ih=>have:=pw n;exact(BR (good_str (uZ "within" (by decide +kernel) b_)) (good_int a a_) (ih hw)).mono (by rw[ac4];lia) a_
 |@bnd n bs z a y p hz ha hb _ ih=>
  have:=pw n;exact(Kh (good_str (by rcases hz with rfl|rfl<;>exact uZ _ i_ b_)) (good_str (rN ha)) (good_str (rN hb)) (ih λw hw'=>by
   rcases abu.mp hw' with q|q
   .exact hw w q
   .rw[aaO.mp q];exact rN hb)).mono (by rw[ac4];lia) a_
end Sp
end
section
namespace T5
open L2 Sw Ss Sd Sp
variable {a l k:Bu}{x:List Bu}{bs bs':List D}{C c:Addr}{n:Nat}{kvs:List (D×D)}{ks ms:BBJ}{s0 x4:Option U}
mutual
noncomputable def pl:D->Bool
 |.int _=>true
 |.str _=>true
 |.tup ds=>Ot ds
 |_=>false
noncomputable def Ot:List D->Bool
 |[]=>true
 |d::ds=>pl d && Ot ds
end
mutual
theorem Sm:∀d:D,pl d=true->nf d=d
 |.int _,_=>rfl
 |.str _,_=>rfl
 |.tup ds,h=>by show D.tup (Rt ds)=_;rw[Nq ds h]
 |.cI,h=>by cases h
 |.bl _,h=>by cases h
 |.lst _,h=>by cases h
theorem Nq:∀ds:List D,Ot ds=true->Rt ds=ds
 |[],_=>rfl
 |d::ds,h=>by
  obtain⟨h1,h2⟩:=abR.mp (show(pl d && Ot ds)=true from h);show nf d::Rt ds=_;rw[Sm d h1,Nq ds h2]
end
mutual
theorem So:∀(d:D)(n:Nat),pl d=true->cJ d<=n->kL n d=true
 |.int _,n,_,_=>by cases n<;>rfl
 |.str _,n,_,_=>by cases n<;>rfl
 |.tup ds,0,h,hd=>absurd (show bX ds+1<=0 from hd) a_
 |.tup ds,n+1,h,hd=>Nr ds n h (by have:bX ds+1<=n+1:=hd;lia)
 |.cI,_,h,_=>by cases h
 |.bl _,_,h,_=>by cases h
 |.lst _,_,h,_=>by cases h
theorem Nr:∀(ds:List D)(n:Nat),Ot ds=true->bX ds<=n->ds.all (kL n)=true
 |[],_,_,_=>rfl
 |d::ds,n,h,hd=>by
  obtain⟨h1,h2⟩:=abR.mp (show(pl d && Ot ds)=true from h);have:max (cJ d) (bX ds)<=n:=hd;rw[ael,So d n h1 a_,Nr ds n h2 a_];rfl
end
mutual
theorem Su:∀a b:D,pl a=true->pl b=true->lT a b=true->a=b
 |.int x,b,_,hb,h=>by
  cases b with
  |int y=>rw[eq_of_beq (show(x == y)=true from h)]
  |_=>first|(cases h;done)|(cases hb;done)
 |.str x,b,_,hb,h=>by
  cases b with
  |str y=>rw[eq_of_beq (show(x == y)=true from h)]
  |_=>first|(cases h;done)|(cases hb;done)
 |.tup xs,b,ha,hb,h=>by
  cases b with
  |tup ys=>rw[Nt xs ys ha hb h]
  |_=>first|(cases h;done)|(cases hb;done)
 |.cI,_,h,_,_=>by cases h
 |.bl _,_,h,_,_=>by cases h
 |.lst _,_,h,_,_=>by cases h
theorem Nt:∀a b:List D,Ot a=true->Ot b=true->jK a b=true->a=b
 |[],[],_,_,_=>rfl
 |[],_::_,_,_,h=>by cases h
 |_::_,[],_,_,h=>by cases h
 |x::xs,y::ys,ha,hb,h=>by
  obtain⟨a1,a2⟩:=abR.mp (show(pl x && Ot xs)=true from ha);obtain⟨b1,b2⟩:=abR.mp (show(pl y && Ot ys)=true from hb);obtain⟨h1,h2⟩:=abR.mp (show(lT x y && jK xs ys)=true from h);rw[Su x y a1 b1 h1,Nt xs ys a2 b2 h2]
end
def Vv{a b:D}(ha:pl a=true)(hb:pl b=true):lT a b=decide (a=b):=by
 by_cases h:a=b
 .subst h;rw[qm];simp
 .rw[abP h];cases q:lT a b with
  |false=>rfl
  |true=>exact absurd (Su a b ha hb q) h
structure Bc(b:D):Prop where
 p:pl b=true
 d:cJ b<=8
 t:∃ds,b= .tup ds
def Bc.key{b:D}(h:Bc b):LX b=some b:=by
 obtain⟨ds,rfl⟩:=h.t;show(if kL 8 (.tup ds)=true then some (nf (.tup ds)) else none)=_;rw[if_pos (So _ 8 h.p h.d),Sm _ h.p]
noncomputable abbrev Tg:=D×Bool
noncomputable def fh(p:Tg):D:=.tup [p.1,.bl p.2]
def ZW{p q:Tg}(hp:Bc p.1)(hq:Bc q.1):lT (fh p) (fh q)=decide (p=q):=by
 obtain⟨a,x⟩:=p;obtain⟨b,y⟩:=q;show(lT a b && ((x == y) && true))=_;rw[Vv hp.p hq.p];by_cases h:a=b<;>by_cases k:x=y<;>simp[h,k]
def HX{p:Tg}{l:List Tg}(hp:Bc p.1)(hl:∀q∈l,Bc q.1):inD (fh p) (l.map fh)=decide (p∈l):=by
 unfold inD;rw[agP];by_cases h:p∈l
 .rw[abJ h,abL];exact⟨p,h,qm _⟩
 .rw[abP h,afq];intro q hq e;have e:lT (fh q) (fh p)=true:=e;rw[ZW (hl q hq) hp]at e;exact h (abX e▸hq)
abbrev Bu:=List Tg
noncomputable def cB(l:Bu):Bool:=l.any λp=>decide ((p.1,!p.2)∈l)
noncomputable def dJ(a b:Bu):Bool:=a.all λp=>decide (p∈b)
def yw(x y:List Bu):Bool:=x.all λl=>cB l || y.any λk=>dJ k l
def bO{b:Bu}:dJ a b=true↔∀p∈a,p∈b:=by unfold dJ;simp
def fV :cB l=true↔∃b,(b,true)∈l/\(b,false)∈l:=by
 unfold cB;rw[abL];constructor
 .rintro⟨⟨b,q⟩,h1,h2⟩;have h2:=abX h2;cases q
  .exact⟨b,h2,h1⟩
  .exact⟨b,h1,h2⟩
 .rintro⟨b,h1,h2⟩;exact⟨(b,true),h1,abJ h2⟩
def Ad{b:Bu}(h:dJ a b=true)(hv:cB a=true):cB b=true:=by
 obtain⟨c,h1,h2⟩:=fV.mp hv;exact fV.mpr ⟨c,bO.mp h _ h1,bO.mp h _ h2⟩
def fu{b c:Bu}(h:dJ a b=true)(k:dJ b c=true):dJ a c=true:=bO.mpr λp hp=>bO.mp k p (bO.mp h p hp)
def dP{y:List Bu}:yw x y=true↔∀l∈x,cB l=false->∃k∈y,dJ k l=true:=by
 unfold yw;rw[acB];constructor
 .intro h l hl hv;have:=h l hl;rw[hv,agv,abL]at this;exact this
 .intro h l hl;cases hv:cB l with
  |true=>rfl
  |false=>rw[agv,abL];exact h l hl hv
structure Tr(x r:List Bu):Prop where
 from_:∀k∈r,cB k=false/\∃l∈x,dJ k l=true/\dJ l k=true
 all:∀l∈x,cB l=false->∃k∈r,dJ k l=true
def Tr.sh{y r s:List Bu}(h:Tr x r)(k:Tr y s):yw r s=yw x y:=by
 have:yw r s=true↔yw x y=true:=by
  rw[dP,dP];constructor
  .intro q l hl hv;obtain⟨a,ha,h1⟩:=h.all l hl hv;obtain⟨b,hb,h2⟩:=q a ha (h.from_ a ha).1;obtain⟨_,c,hc,_,h3⟩:=k.from_ b hb;exact⟨c,hc,fu h3 (fu h2 h1)⟩
  .intro q a ha hv;obtain⟨_,l,hl,h1,h2⟩:=h.from_ a ha;have hvl:cB l=false:=by
    cases e:cB l with
    |false=>rfl
    |true=>rw[Ad h2 e]at hv;cases hv
   obtain⟨c,hc,h3⟩:=q l hl hvl;have hvc:cB c=false:=by
    cases e:cB c with
    |false=>rfl
    |true=>rw[Ad h3 e]at hvl;cases hvl
   obtain⟨b,hb,h4⟩:=k.all c hc hvc;exact⟨b,hb,fu h4 (fu h3 h2)⟩
 cases e1:yw r s<;>cases e2:yw x y
 .rfl
 .exact absurd (this.mpr e2) (by rw[e1];simp)
 .exact absurd (this.mp e1) (by rw[e2];simp)
 .rfl
noncomputable def ix(bs:List D)(p:Tg):Nat:=2*bs.idxOf p.1+(if p.2 then 0 else 1)
noncomputable def KC:Nat->Nat
 |0=>0
 |n+1=>KC n ||| 2 ^ (2*n)
def pR(bs:List D)(l:Bu):Nat:=l.foldl (λm p=>m ||| 2 ^ ix bs p) 0
theorem HY(bs:List D)(k:Nat):∀(l:Bu)(m:Nat),(l.foldl (λm p=>m ||| 2 ^ ix bs p) m).testBit k=(m.testBit k || l.any λp=>decide (ix bs p=k))
 |[],m=>by simp
 |p::l,m=>by
  rw[aeT,HY bs k l,aeL,Nat.testBit_two_pow,acM,Bool.or_assoc]
def oG(bs:List D)(l:Bu)(k:Nat):(pR bs l).testBit k=l.any λp=>decide (ix bs p=k):=by
 unfold pR;rw[HY];simp
theorem C3:∀(n k:Nat),(KC n).testBit k=decide (k % 2=0/\k / 2<n)
 |0,k=>by simp[KC]
 |n+1,k=>by
  show(KC n ||| 2 ^ (2*n)).testBit k=_;rw[aeL,C3 n k,Nat.testBit_two_pow];by_cases h:2*n=k
  .subst h;simp
  .rw[abP h,ahg];by_cases q:k % 2=0<;>simp[q]
   lia
def HZ{a b:D}(ha:a∈bs)(hb:b∈bs)(h:bs.idxOf a=bs.idxOf b):a=b:=by
 have h1:=agt (adf ha);have h2:=agt (adf hb);rw[<-h1,<-h2]
 congr 1
def Vx{p q:Tg}(hp:p.1∈bs)(hq:q.1∈bs)(h:ix bs p=ix bs q):p=q:=by
 obtain⟨a,x⟩:=p;obtain⟨b,y⟩:=q;have hp:a∈bs:=hp;have hq:b∈bs:=hq;have h:2*bs.idxOf a+(if x=true then 0 else 1)=2*bs.idxOf b+(if y=true then 0 else 1):=h;have:x=y:=by
  cases x<;>cases y
  .rfl
  .simp at h;lia
  .simp at h;lia
  .rfl
 subst this;have:bs.idxOf a=bs.idxOf b:=by lia
 rw[HZ hp hq this]
def wC(hl:∀p∈l,p.1∈bs){p:Tg}(hp:p.1∈bs):(pR bs l).testBit (ix bs p)=decide (p∈l):=by
 rw[oG];by_cases h:p∈l
 .rw[abJ h,abL];exact⟨p,h,by simp⟩
 .rw[abP h,afq];intro q hq e;exact h (Vx (hl q hq) hp (abX e)▸hq)
def wF{b:Bu}(ha:∀p∈a,p.1∈bs)(hb:∀p∈b,p.1∈bs):(pR bs a &&& pR bs b=pR bs a)↔dJ a b=true:=by
 rw[bO];constructor
 .intro h p hp;have e:(pR bs a &&& pR bs b).testBit (ix bs p)=(pR bs a).testBit (ix bs p):=by rw[h]
  rw[aed,wC ha (ha p hp),wC hb (ha p hp),abJ hp]at e
  simpa using e
 .intro h;apply afB;intro k;rw[aed,oG,oG];cases e:a.any λp=>decide (ix bs p=k) with
  |false=>rfl
  |true=>
   obtain⟨p,hp,q⟩:=abL.mp e;rw[Bool.true_and,abL];exact⟨p,h p hp,q⟩
def Ia(hl:∀p∈l,p.1∈bs):(pR bs l &&& pR bs l / 2 &&& KC bs.length≠0)↔cB l=true:=by
 rw[fV];have bit:∀k,(pR bs l &&& pR bs l / 2 &&& KC bs.length).testBit k=(((pR bs l).testBit k && (pR bs l).testBit (k+1)) && decide (k % 2=0/\k / 2<bs.length)):=λk=>by
  rw[aed,aed,C3,Nat.testBit_div_two]
 constructor
 .intro h;obtain⟨k,hk⟩:=Nat.exists_testBit_of_ne_zero h;rw[bit]at hk;obtain⟨h1,h2⟩:=abR.mp hk;obtain⟨h3,h4⟩:=abR.mp h1;have h2:=abX h2;rw[oG,abL]at h3 h4;obtain⟨⟨b,x⟩,hp,e1⟩:=h3;obtain⟨⟨c,y⟩,hq,e2⟩:=h4;have e1:=abX e1;have e2:=abX e2;unfold ix at e1 e2;dsimp only at e1 e2;have hx:x=true:=by
   cases x with
   |true=>rfl
   |false=>simp at e1;lia
  have hy:y=false:=by
   cases y with
   |false=>rfl
   |true=>simp at e2;lia
  subst hx;subst hy;simp at e1 e2;have:bs.idxOf b=bs.idxOf c:=by lia
  have:=HZ (hl _ hp) (hl _ hq) this;subst this;exact⟨b,hp,hq⟩
 .rintro⟨b,h1,h2⟩ h;have hb:=hl _ h1;have e:=bit (ix bs (b,true));rw[h,Nat.zero_testBit,wC (p:=(b,true)) hl hb,abJ h1]at e;have e2:ix bs (b,true)+1=ix bs (b,false):=by simp[ix]
  have hl2:bs.idxOf b<bs.length:=adf hb;rw[e2,wC (p:=(b,false)) hl hb,abJ h2]at e;have:ix bs (b,true) % 2=0/\ix bs (b,true) / 2<bs.length:=by
   simp only[ix,if_true];lia
  rw[abJ this]at e;cases e
def ZX(aC:Addr):GS:=
 (ju (qB (J1 true aC 0 "numbers" 4 j_)) (aP (Mz aC 0 "numbers" 4 j_ (HJ aC 0 "basics" 3))
 (aP (Mx aC 0 "trues" (eF (eP zJ (ah (zP aC 0 "trues") (ah (eF (eP Gm (ah f_ (ah (eF (eP yT (ah (eC (.int 2)) (ah (HJ aC 0 "basics" 3) aB)))) aB)))) aB)))))
 (kP (eT (MA aC 0 "basics" 3 hAppend (ah j_ aB)))))) dg)
def mo1(aC:Addr):GS:=
 (cD 5 (eP yT (ah (eC (.int 2)) (ah (My aC 0 "numbers" 4 j_) aB))))
def WQ(aC:Addr):GS:=
 (bU (eP Gm (ah f_ (ah (eF (Oe (qB (eF (au 2))) (au 5) (eP gU (ah (eF (au 5)) (ah f_ aB))))) aB))))
def fW(aC:Addr):GS:=aP (ZX aC) (aP (mo1 aC) (WQ aC))
def mo_eq(aC:Addr):fW aC=aP (ZX aC) (aP (mo1 aC) (WQ aC)):=rfl
def gW(C c d:Addr)(n:Nat):MO:=.Fi C [("basics",.inr c),("numbers",.inr d),("trues",.inl (.int (KC n:Nat)))]
noncomputable def lq:Nat->List D->List (D×D)
 |_,[]=>[]
 |k,b::l=>(b,.int (k:Nat))::lq (k+1) l
noncomputable def add(bs:List D)(b:D):List D:=if b∈bs then bs else bs++[b]
theorem rO(b:D):∀(k:Nat)(bs:List D),bW (lq k bs) b=if b∈bs then some (.int ((k+bs.idxOf b:Nat):Int)) else none
 |_,[]=>rfl
 |k,a::bs=>by
  have ih:=rO b (k+1) bs;unfold bW at ih ⊢;unfold lq;rw[ab0,List.idxOf_cons];by_cases h:a=b
  .subst h;simp
  .rw[abP h,ih];have h':¬b=a:=λe=>h e.symm;have h2:(a == b)=false:=by simpa using h
   simp only[aaV,h',false_or,h2,cond_false];split
   .congr 3;lia
   .rfl
theorem ES(b:D):∀(k:Nat)(bs:List D),lq k (bs++[b])=lq k bs++[(b,.int ((k+bs.length:Nat):Int))]
 |k,[]=>rfl
 |k,a::bs=>by
  show(a,D.int (k:Nat))::lq (k+1) (bs++[b])=(a,D.int (k:Nat))::(lq (k+1) bs++_);rw[ES b (k+1) bs,abD,show k+1+bs.length=k+(bs.length+1) by lia]
def Nu{b:D}{k:Nat}{v:D}(h:b∉bs):putD (lq k bs) b v=lq k bs++[(b,v)]:=by
 unfold putD;rw[if_neg];intro e;rw[abL]at e;obtain⟨x,hx,e⟩:=e;have e:=abX e;have:=rO b k bs;rw[if_neg h]at this;unfold bW at this;rw[Option.map_eq_none_iff,agr]at this;exact this x hx (abJ e)
theorem ET:∀(k:Nat)(bs:List D),(lq k bs).length=bs.length
 |_,[]=>rfl
 |k,_::bs=>by show(lq (k+1) bs).length+1=bs.length+1;rw[ET]
section
variable {x y z:D ⊕ Addr}
@[simp] theorem ahK:List.lookup ("basics":Str) [("basics",x),("numbers",y),("trues",z)]=some x:=by rfl
@[simp] theorem ahL:List.lookup ("numbers":Str) [("basics",x),("numbers",y),("trues",z)]=some y:=by rfl
@[simp] theorem ahM:List.lookup ("trues":Str) [("basics",x),("numbers",y),("trues",z)]=some z:=by rfl
@[simp] theorem afG:List.lookup ("of_thing":Str) [(("basics":Str),x),(("numbers":Str),y),(("trues":Str),z)]=none:=by rfl
@[simp] theorem afH:List.lookup ("of_bunch":Str) [(("basics":Str),x),(("numbers":Str),y),(("trues":Str),z)]=none:=by rfl
@[simp] theorem afI:List.lookup ("of_stand":Str) [(("basics":Str),x),(("numbers":Str),y),(("trues":Str),z)]=none:=by rfl
@[simp] theorem afJ:List.lookup ("trim":Str) [(("basics":Str),x),(("numbers":Str),y),(("trues":Str),z)]=none:=by rfl
@[simp] theorem afK:List.lookup ("is_void":Str) [(("basics":Str),x),(("numbers":Str),y),(("trues":Str),z)]=none:=by rfl
@[simp] theorem afL{w:D ⊕ Addr}:Ex "trues" w [("basics",x),("numbers",y),("trues",z)]=[(("basics":Str),x),(("numbers":Str),y),(("trues":Str),w)]:=by rfl
end
def ZY(C:Addr):FM:=bf 6 (fW C)
def Vy(C:Addr):∀us r,ZY C us=some r->bf 6 (fW C) us=some r:=λ_ _ h=>h
def Ib(C c d:Addr)(bs:List D):List MO:=[gW C c d bs.length,.lat c bs,.gF d (lq 0 bs)]
abbrev mS(C c d:Addr)(bs:List D)(b:D)(q:Bool)(x:Option U):SS:=[some (.b (gW C c d bs.length)),AAA b,AAA (.bl q),some (.b (.lat c bs)),some (.b (.gF d (lq 0 bs))),x]
section
variable {C c d:Addr}{bs:List D}{b:D}{q:Bool}
def aeg(hb:Bc b)(hl:bs.length<10000):ZX C (mS C c d bs b q none)=some (.nx (mS C c d (add bs b) b q none)):=by
 have lk:=rO b 0 bs;by_cases h:b∈bs
 .rw[if_pos h]at lk;rw[show add bs b=bs from if_pos h];simp[ZX,gW,J1,zO,iH,xw,hb.key,lk]
 .rw[if_neg h]at lk;rw[show add bs b=bs++[b] from if_neg h];have a1:(2:Int)*(bs.length:Nat)<=100000:=by lia
  have a3:(0:Int)<=2*(bs.length:Nat):=by lia
  have a5:((2:Int)*(bs.length:Nat)).toNat=2*bs.length:=by lia
  have nl:=ET 0 bs;have pt:=λv=>Nu (k:=0) (v:=v) h;have hl':bs.length<100000:=by lia
  have p0:(0:Int)<=2 ^ (2*bs.length):=Int.pow_nonneg a_;have p1:((2:Int) ^ (2*bs.length)).toNat=2 ^ (2*bs.length):=by
   have:((2:Int) ^ (2*bs.length))=((2 ^ (2*bs.length):Nat):Int):=by simp
   rw[this,Int.toNat_natCast]
  simp[ZX,gW,J1,zO,iH,xw,BK,HE,Zq,hb.key,lk,Mz,Zs,Mx,zP,HJ,MA,Gm,zJ,xM,a1,a3,a5,nl,pt,p0,p1,hl',ES,KC,hAppend]
def aeh(hb:Bc b)(h:b∈bs):mo1 C (mS C c d bs b q none)=some (.nx (mS C c d bs b q (AAC (2*(bs.idxOf b:Nat))))):=by
 have lk:=rO b 0 bs;rw[if_pos h,agN]at lk;simp[-bH,bh,mo1,gW,My,zO,iH,xw,hb.key,lk]
def aei{i:Nat}(hl:i<20000):WQ C (mS C c d bs b q (AAC (2*(i:Nat))))=some (.rt (.t (.int ((2 ^ (2*i+if q then 0 else 1):Nat):Int))) (mS C c d bs b q (AAC (2*(i:Nat))))):=by
 have a1:(2:Int)*(i:Nat)<=100000:=by lia
 have a2:(2:Int)*(i:Nat)+1<=100000:=by lia
 have a3:(0:Int)<=2*(i:Nat):=by lia
 have a4:(0:Int)<=2*(i:Nat)+1:=by lia
 have a5:((2:Int)*(i:Nat)).toNat=2*i:=by lia
 have a6:((2:Int)*(i:Nat)+1).toNat=2*i+1:=by lia
 cases q<;>simp[WQ,Gm,xM,a1,a2,a3,a4,a5,a6]
def ZZ(hb:Bc b)(hl:bs.length<10000):
  ZY C [.b (gW C c d bs.length),.t b,.t (.bl q),.b (.lat c bs),.b (.gF d (lq 0 bs))]=some (.t (.int ((2 ^ ix (add bs b) (b,q):Nat):Int)),Ib C c d (add bs b)):=by
 have hm:b∈add bs b:=by unfold add;split<;>simp[*]
 have hi:(add bs b).idxOf b<(add bs b).length:=adf hm;have ha:(add bs b).length<=bs.length+1:=by unfold add;split<;>simp
 show(fW C (mS C c d bs b q none)).bind _=_;rw[mo_eq,aP,aeg hb hl];show(aP _ _ _).bind _=_;rw[aP,aeh hb hm];show(WQ C _).bind _=_;rw[aei a_];rfl
end
section
variable {C c d:Addr}{S:SS}{n:Nat}{s0 s1:Option U}
def AE(c d:Addr)(n:Nat):List (Str×(D ⊕ Addr)):=[("basics",.inr c),("numbers",.inr d),("trues",.inl (.int (KC n:Nat)))]
def Ae:iH C (some (.b (gW C c d n))::S) 0=some (AE c d n):=by simp[iH,gW,AE]
def aej:iH C (s0::some (.b (gW C c d n))::S) 1=some (AE c d n):=by simp[iH,gW,AE]
def aek:iH C (s0::s1::some (.m (gW C c d n))::S) 2=some (AE c d n):=by simp[iH,gW,AE]
end
def Qm(bs:List D)(b:D):b∈add bs b:=by unfold add;split<;>simp[*]
def Qn{b x:D}(h:x∈bs):x∈add bs b:=by unfold add;split<;>simp[*]
def Vz{b:D}{p:Tg}(h:p.1∈bs):ix (add bs b) p=ix bs p:=by
 unfold add ix;split
 .rfl
 .rw[List.idxOf_append,if_pos h]
def u5(l:Bu):D:=.tup (l.map fh)
def jP(aC:Addr):GS:=
 (bU (eP Bt (ah (eF (eP qw (ah (eF (eP qw (ah j_ (ah (eF (eP Mt (ah j_ (ah f_ aB)))) aB)))) (ah (zP aC 0 "trues") aB)))) (ah (eC (.int 0)) aB))))
def fE:GS:=
 (ju (qB (eF (eP kg (ah (eF (eP qw (ah (eF (au 2)) (ah (eF (au 0)) aB)))) (ah (eF (au 2)) aB))))) (bU (eT (eC (.bl true)))) dg)
def iP:GS:=
 (aP (kQ (bName 2) (iF j_) (fE))
 (bU (eT (eC (.bl false)))))
def gB(lu jQ:FM)(aC:Addr):GS:=
 (ju (yP (kr (qB (eF (dc aC "is_void" 0 lu (aW (eF (au 5)) bQ) [2,3])))) (kr (qB (CP jQ (eF (au 5)) 4)))) (kP (eT (eM 4 hAppend (ah (eF (au 5)) aB)))) dg)
def oH(lu jQ:FM)(aC:Addr):GS:=
 (aP (cD 4 (eP eB aB))
 (aP (kQ (bName 5) (iF (eF (eP CD (ah j_ aB)))) (gB lu jQ aC))
 (bU (au 4))))
def Qo(C:Addr):FM:=bf 4 (jP C)
def VA(C:Addr):∀us r,Qo C us=some r->bf 4 (jP C) us=some r:=λ_ _ h=>h
def vM(n m:Nat):Bool:=decide (m &&& m / 2 &&& KC n≠0)
def Z0(a:Nat):(((a:Nat):Int) == 0)=decide (a=0):=by rw[aec];simp
def Z1{d:Addr}{m:Nat}:
  Qo C [.b (gW C c d n),.t (.int (m:Nat)),.b (.lat c bs),.b (.gF d kvs)]=some (.t (.bl (vM n m)),[gW C c d n,.lat c bs,.gF d kvs]):=by
 have h1:(0:Int)<=(m:Nat) / 2:=by lia
 have h2:((m:Int) / 2).toNat=m / 2:=by lia
 simp[Qo,bf,jP,zP,Ae,AE,qw,Mt,xM,vM,h1,h2];exact Z0 _
noncomputable def DA(m:Nat)(ks:BBJ):Bool:=ks.any λk=>decide (k &&& m=k)
noncomputable def nats(ks:BBJ):List D:=ks.map λk=>.int (k:Nat)
def C4:FM:=bf 3 iP
def Qp:∀us r,C4 us=some r->bf 3 iP us=some r:=λ_ _ h=>h
theorem EU{m:Nat}{t:D}:∀(ks:BBJ)(x:Option U),jE x=false->∃y,loop (bName 2) fE (nats ks) [AAC (m:Nat),AAA t,x]
  = some (if DA m ks then .rt (.t (.bl true)) [AAC (m:Nat),AAA t,y] else .nx [AAC (m:Nat),AAA t,y])
 |[],x,_=>⟨x,rfl⟩
 |k::ks,x,hx=>by
  obtain⟨y,e⟩:=EU (m:=m) (t:=t) ks (AAC (k:Nat)) rfl;by_cases h:k &&& m=k
  .refine⟨AAC (k:Nat),?_⟩;have:DA m (k::ks)=true:=by simp[DA,h]
   rw[if_pos this];simp[nats,loop,-bH,bh,hx,fE,qw,xM,h]
  .refine⟨y,?_⟩;have:DA m (k::ks)=DA m ks:=by simp[DA,h]
   rw[this,<-e];have h':¬((k &&& m:Nat):Int)=(k:Int):=λe=>h (Int.ofNat.inj e);simp[nats,loop,-bH,bh,hx,fE,qw,xM,h']
def VB{m:Nat}:C4 [.t (.int (m:Nat)),.t (.lst (nats ks))]=some (.t (.bl (DA m ks)),[]):=by
 obtain⟨y,e⟩:=EU (m:=m) (t:=.lst (nats ks)) ks none rfl;cases h:DA m ks<;>rw[h]at e<;>simp[C4,bf,iP,cQ,e]
def fG(n:Nat):BBJ->BBJ->BBJ
 |[],kept=>kept
 |m::r,kept=>if vM n m=false/\DA m kept=false then fG n r (kept++[m]) else fG n r kept
theorem C5{n k:Nat}:∀(ms kept:BBJ),k∈fG n ms kept->k∈kept\/(k∈ms/\vM n k=false)
 |[],kept,h=>.inl h
 |m::r,kept,h=>by
  unfold fG at h;split at h
  .rename_i c;rcases C5 r _ h with q|q
   .rcases abu.mp q with q|q
    .exact .inl q
    .rw[aaO.mp q];exact .inr ⟨aaT,c.1⟩
   .exact .inr ⟨aaR _ q.1,q.2⟩
  .rcases C5 r _ h with q|q
   .exact .inl q
   .exact .inr ⟨aaR _ q.1,q.2⟩
theorem rQ{n k:Nat}:∀(ms kept:BBJ),k∈kept->k∈fG n ms kept
 |[],kept,h=>h
 |m::r,kept,h=>by
  unfold fG;split
  .exact rQ r _ (abu.mpr (.inl h))
  .exact rQ r _ h
def Ic{m:Nat}:DA m ks=true↔∃k∈ks,k &&& m=k:=by unfold DA;simp
theorem Af{n m:Nat}:∀(ms kept:BBJ),m∈ms->vM n m=false->∃k∈fG n ms kept,k &&& m=k
 |x::r,kept,h,hv=>by
  rcases aaV.mp h with rfl|h
  .unfold fG;split
   .exact⟨m,rQ r _ (abu.mpr (.inr aaT)),agV m⟩
   .rename_i c;have:DA m kept=true:=by
     cases e:DA m kept with
     |true=>rfl
     |false=>exact absurd ⟨hv,e⟩ c
    obtain⟨k,hk,e⟩:=Ic.mp this;exact⟨k,rQ r _ hk,e⟩
  .unfold fG;split
   .exact Af r _ h hv
   .exact Af r _ h hv
def Nv(C:Addr):FM:=bf 6 (oH (Qo C) C4 C)
def tm_run(C:Addr):∀us r,Nv C us=some r->bf 6 (oH (Qo C) C4 C) us=some r:=λ_ _ h=>h
def Qq{d:Addr}{m:Nat}{t:D}(hl:ks.length<1000):
  gB (Qo C) C4 C [some (.b (gW C c d n)),AAA t,some (.b (.lat c bs)),some (.b (.gF d kvs)),AAB (nats ks),AAC (m:Nat)]
   = some (.nx [some (.b (gW C c d n)),AAA t,some (.b (.lat c bs)),some (.b (.gF d kvs)),AAB (nats (if vM n m=false/\DA m ks=false then ks++[m] else ks)),AAC (m:Nat)]):=by
 have e1:=Z1 (C:=C) (c:=c) (d:=d) (n:=n) (m:=m) (bs:=bs) (kvs:=kvs);have e2:=VB (m:=m) (ks:=ks);have hl':(nats ks).length<100000:=by rw[nats,aar];lia
 cases h1:vM n m<;>cases h2:DA m ks<;>rw[h1]at e1<;>rw[h2]at e2<;>simp[gB,dc,Ae,AE,AD,pL,e1,CP,look,e2,jD,hl',hAppend]<;>simp[nats]
theorem Ie{C c d:Addr}{n:Nat}{t:D}{bs:List D}{kvs:List (D×D)}:∀(ms ks:BBJ)(x:Option U),jE x=false->ms.length+ks.length<1000->
  ∃y,loop (bName 5) (gB (Qo C) C4 C) (nats ms) [some (.b (gW C c d n)),AAA t,some (.b (.lat c bs)),some (.b (.gF d kvs)),AAB (nats ks),x]
   = some (.nx [some (.b (gW C c d n)),AAA t,some (.b (.lat c bs)),some (.b (.gF d kvs)),AAB (nats (fG n ms ks)),y])
 |[],ks,x,_,_=>⟨x,rfl⟩
 |m::ms,ks,x,hx,hl=>by
  have hl:ms.length+1+ks.length<1000:=hl;have tn:=Qq (C:=C) (c:=c) (d:=d) (n:=n) (m:=m) (t:=t) (bs:=bs) (kvs:=kvs) (ks:=ks) a_;have eb:bName 5 (.int (m:Nat)) [some (.b (gW C c d n)),AAA t,some (.b (.lat c bs)),some (.b (.gF d kvs)),AAB (nats ks),x]=some [some (.b (gW C c d n)),AAA t,some (.b (.lat c bs)),some (.b (.gF d kvs)),AAB (nats ks),AAC (m:Nat)]:=by simp[-bH,bh,hx]
  have hk:fG n (m::ms) ks=fG n ms (if vM n m=false/\DA m ks=false then ks++[m] else ks):=by
   show(if _ then _ else _)=_;split<;>rfl
  have hl2:(if vM n m=false/\DA m ks=false then ks++[m] else ks).length<=ks.length+1:=by split<;>simp
  rw[hk];generalize (if vM n m=false/\DA m ks=false then ks++[m] else ks)=ks' at *;obtain⟨y,e⟩:=Ie (C:=C) (c:=c) (d:=d) (n:=n) (t:=t) (bs:=bs) (kvs:=kvs) ms ks' (AAC (m:Nat)) rfl a_;refine⟨y,?_⟩;show((bName 5 (.int (m:Nat)) _).bind _)=_;rw[eb,aaN,tn,aaN];exact e
def BS(ms:BBJ):BBJ:=(sortI (ms.map Int.ofNat)).map Int.toNat
def Ig{k:Nat}:k∈BS ms↔k∈ms:=by
 unfold BS;rw[aa2];constructor
 .rintro⟨z,hz,rfl⟩;obtain⟨a,ha,rfl⟩:=aa2.mp (nF.mp hz);exact ha
 .intro h;exact⟨(k:Int),nF.mpr (aa2.mpr ⟨k,h,rfl⟩),rfl⟩
def Ny(ms:BBJ):(sortI (ms.map Int.ofNat)).map D.int=nats (BS ms):=by
 unfold nats BS;rw[abV];refine ab2 λz hz=>?_;obtain⟨a,ha,rfl⟩:=aa2.mp (nF.mp hz);rfl
theorem BU:∀ms:BBJ,uO (nats ms)=some (ms.map Int.ofNat)
 |[]=>rfl
 |m::ms=>by
  have:=BU ms;unfold nats at this ⊢;simp[uO,this]
def Ih(ms:BBJ):(BS ms).length<=ms.length:=by
 unfold BS;rw[aar,(sortI_perm _).length_eq];have:=CB (λi=>(ms.map Int.ofNat).getD i 0) (ms.map Int.ofNat).length;rw[aar]at this ⊢;exact this
def Sv{d:Addr}(hl:ms.length<64):
  Nv C [.b (gW C c d n),.t (.lst (nats ms)),.b (.lat c bs),.b (.gF d kvs)]=some (.m (.lst (nats (fG n (BS ms) []))),[gW C c d n,.lat c bs,.gF d kvs]):=by
 have sl:=Ih ms;obtain⟨y,e⟩:=Ie (C:=C) (c:=c) (d:=d) (n:=n) (t:=.lst (nats ms)) (bs:=bs) (kvs:=kvs) (BS ms) [] none rfl (by show _+0<1000;lia);have e:loop (bName 5) (gB (Qo C) C4 C) (nats (BS ms)) [some (.b (gW C c d n)),AAA (.lst (nats ms)),some (.b (.lat c bs)),some (.b (.gF d kvs)),AAB [],none]=_:=e;have hl':(ms.map Int.ofNat).length<64:=by rw[aar];exact hl
 simp[-bH,bh,Nv,bf,oH,cQ,CD,BU,hl,Ny,e]
def Qs(h:∀p∈l,ix bs' p=ix bs p):pR bs' l=pR bs l:=by
 unfold pR;generalize (0:Nat)=m
 induction l generalizing m with
 |nil=>rfl
 |cons p l ih=>
  rw[aeT,aeT,h p aaT];exact ih (λq hq=>h q (aaR _ hq)) _
def pS(x:List Bu):D:=.tup (x.map u5)
structure Kp(bs:List D)(x:List Bu)(ks:BBJ):Prop where
 from_:∀k∈ks,∃l∈x,k=pR bs l/\cB l=false
 all:∀l∈x,cB l=false->∃k∈ks,k &&& pR bs l=k
def Ii(hl:∀p∈l,p.1∈bs):vM bs.length (pR bs l)=cB l:=by
 unfold vM;cases h:cB l with
 |true=>exact abJ ((Ia hl).mpr h)
 |false=>exact abP λq=>by rw[(Ia hl).mp q]at h;cases h
def Kp.ext(h:Kp bs x ks)(he:∀l∈x,pR bs' l=pR bs l):Kp bs' x ks:=
 ⟨λk hk=>by obtain⟨l,hl,e,v⟩:=h.from_ k hk;exact⟨l,hl,by rw[he l hl];exact e,v⟩,λl hl hv=>by rw[he l hl];exact h.all l hl hv⟩
noncomputable def Qt:FM:=λ_=>none
def DB(l:Bu):Prop:=∀p∈l,Bc p.1
def Nz{p:Tg}(h:Bc p.1):cJ (fh p)<=9:=by
 have:=h.d;show max (cJ p.1) (max (cJ (.bl p.2)) 0)+1<=9;have:cJ (.bl p.2)=0:=rfl;lia
theorem yx:∀{l:Bu},DB l->bX (l.map fh)<=9
 |[],_=>abK _
 |p::l,h=>by
  have h1:=Nz (h p aaT);have h2:=yx (l:=l) λq hq=>h q (aaR _ hq);show max (cJ (fh p)) (bX (l.map fh))<=9;lia
theorem BV{cap:BBJ}{q:GT}{t:D}{S:SS}(P:Tg->Bool)(hc:dz S cap=some [.t t]):∀(l:Bu)(acc:List D),
  (∀p∈l,q [AAA p.1,AAA (.bl p.2),AAA t]=some (P p,[AAA p.1,AAA (.bl p.2),AAA t]))->
  g8 cap q f_ (l.map fh) S acc=some (acc++(l.filter P).map (λ_=>.int 1),S)
 |[],acc,_=>by simp[g8]
 |p::l,acc,hq=>by
  have q0:=hq p aaT;have ih:=λacc=>BV (q:=q) P hc l acc λp hp=>hq p (aaR _ hp);rw[acd];show g8 cap q f_ (.tup [p.1,.bl p.2]::l.map fh) S acc=_;cases h:P p
  .rw[h]at q0;simp[g8,hc,q0,ih,h]
  .rw[h]at q0;simp[g8,hc,q0,ih,h]
def NB{P:Tg->Bool}:lT (.lst ((l.filter P).map λ_=>.int 1)) (.lst [])=!(l.any P):=by
 cases h:l.filter P with
 |nil=>
  have:l.any P=false:=by
   rw[afq];intro p hp e;exact absurd (afb.mpr ⟨hp,e⟩) (by rw[h];exact abG)
  rw[this];rfl
 |cons p r=>
  have:p∈l.filter P:=by rw[h];exact aaT
  obtain⟨h1,h2⟩:=afb.mp this;rw[abL.mpr ⟨p,h1,h2⟩];rfl
def VD{p:Tg}(hl:DB l)(hp:p∈l):inD (.tup [p.1,.bl (!p.2)]) (l.map fh)=decide ((p.1,!p.2)∈l):=HX (p:=(p.1,!p.2)) (hl p hp) hl
def Qu(x:List Bu):Prop:=∀l∈x,DB l/\l.length<=1000
def bu{g h:GS}{S S1:SS}(e:g S=some (.nx S1)):aP g h S=h S1:=by
 show(g S).bind _=_;rw[e];rfl
def yy(hk:DB k)(hl:DB l):((k.map fh).all λz=>inD z (l.map fh))=dJ k l:=by
 rw[agg];unfold dJ;rw[aec,acB,acB];constructor
 .intro h p hp;rw[<-HX (hk p hp) hl];exact h p hp
 .intro h p hp;show inD (fh p) _=true;rw[HX (hk p hp) hl];exact h p hp
def NC(r:Bu):cJ (.lst (r.map λ_=>(D.int 1)))<=40:=by
 have:bX (r.map λ_=>(D.int 1))<=0:=by
  induction r with
  |nil=>exact aaP _
  |cons p r ih=>show max (cJ (.int 1)) _<=0;have:cJ (.int 1)=0:=rfl;lia
 show bX _+1<=40;lia
def fX:GS:=
 (ju (qB (sX true 3 (eF (au 4)))) (kP (eT (eM 3 hAppend (ah (eF (au 4)) aB)))) dg)
def tb0:GS:=
 (cD 3 (eP eB aB))
def tb1:GS:=
 (kQ (bName 4) (iF (eF (au 2))) (fX))
def tb2:GS:=
 (ju (qB (eF (eP kg (ah (eF (ow [3] (LM (eF (au 3))) (qB (sX false 2 (eF (eP fT (ah (eF (au 0)) (ah (eQ (kr (qB j_))) aB)))))) f_)) (ah (eF (eP eB aB)) aB))))) (kP (eT (eM 1 hAppend (ah (eF (au 3)) aB)))) dg)
def fY:GS:=aP (tb0) (aP (tb1) (tb2))
def Z2:fY=aP (tb0) (aP (tb1) (tb2)):=rfl
def eZ:GS:=
 (ju (kr (qB (eF (eP xN (ah (eF (wk 5 [3] bB (eF (eP y9 (ah (eF (cM [1] (iF (eF (au 0))) bB (sX false 1 (eF (au 0))))) aB))))) aB))))) (kP (eT (eM 5 hAppend (ah (eF (au 3)) aB)))) dg)
def Xc:GS:=
 (cD 1 (eP eB aB))
def Xd:GS:=
 (kQ (bName 2) (iF (eF (au 0))) (fY))
def Xe:GS:=
 (cD 5 (eP eB aB))
def Xf:GS:=
 (kQ (bName 3) (iF (eF (eP zL (ah j_ aB)))) (eZ))
def ts4:GS:=
 (bU (au 5))
def jG:GS:=aP (Xc) (aP (Xd) (aP (Xe) (aP (Xf) (ts4))))
def Sx:jG=aP (Xc) (aP (Xd) (aP (Xe) (aP (Xf) (ts4)))):=rfl
noncomputable def dd:Bu->Bu->Bu
 |acc,[]=>acc
 |acc,p::l=>dd (if p∈acc then acc else acc++[p]) l
theorem ND{p:Tg}:∀(l acc:Bu),p∈dd acc l↔p∈acc\/p∈l
 |[],acc=>by simp[dd]
 |q::l,acc=>by
  unfold dd;rw[ND l];split
  .rename_i h;constructor
   .rintro(h|h)
    .exact .inl h
    .exact .inr (aaR _ h)
   .rintro(h'|h')
    .exact .inl h'
    .rcases aaV.mp h' with rfl|h'
     .exact .inl h
     .exact .inr h'
  .rw[abu,aaO,aaV,or_assoc]
theorem NF:∀(l acc:Bu),(dd acc l).length<=acc.length+l.length
 |[],acc=>aaP _
 |q::l,acc=>by
  unfold dd;have:=NF l (if q∈acc then acc else acc++[q]);have h2:(if q∈acc then acc else acc++[q]).length<=acc.length+1:=by split<;>simp
  rw[abD];lia
def Ag{b:Bu}(h:∀p,p∈a↔p∈b):cB a=cB b:=by
 rw[aec,fV,fV];constructor
 .rintro⟨c,h1,h2⟩;exact⟨c,(h _).mp h1,(h _).mp h2⟩
 .rintro⟨c,h1,h2⟩;exact⟨c,(h _).mpr h1,(h _).mpr h2⟩
def vD(l:Bu):Bu:=dd [] l
def jx{p:Tg}:p∈vD l↔p∈l:=by unfold vD;rw[ND];simp
def Ah(l:Bu):cB (vD l)=cB l:=Ag λ_=>jx
def u6(l:Bu):(vD l).length<=l.length:=by have:=NF l [];simpa[vD] using this
def GG(h:DB l):DB (vD l):=λp hp=>h p (jx.mp hp)
noncomputable def Kl(b:Bool)(ds:List D):D:=if b then .lst ds else .tup ds
def wG(b:Bool)(l:Bu):D:=Kl b (l.map fh)
def lz(b:Bool)(x:List Bu):D:=Kl b (x.map (wG b))
def EV:FM:=bf 6 jG
def VE:∀us r,EV us=some r->bf 6 jG us=some r:=λ_ _ h=>h
section
variable {s0 s1 s2 x4 x5:Option U}
def Qv{acc:Bu}{p:Tg}(ha:DB acc)(hp:Bc p.1)(hn:acc.length<1000):fX [s0,s1,s2,AAB (acc.map fh),AAA (fh p),x5]=some (.nx [s0,s1,s2,AAB ((if p∈acc then acc else acc++[p]).map fh),AAA (fh p),x5]):=by
 have h1:bX (acc.map fh)<=40:=by have:=yx ha;lia
 have h2:=HX hp ha;have h3:acc.length<100000:=by lia
 by_cases h:p∈acc
 .rw[abJ h]at h2;simp[fX,sX,sy,h1,h2,h]
 .rw[abP h]at h2;simp[fX,sX,sy,h1,h2,h,hAppend,h3]
theorem Ij:∀(l acc:Bu)(x4:Option U),DB acc->DB l->acc.length+l.length<1000->jE x4=false->
  ∃y4,jE y4=false/\loop (bName 4) fX (l.map fh) [s0,s1,s2,AAB (acc.map fh),x4,x5]=some (.nx [s0,s1,s2,AAB ((dd acc l).map fh),y4,x5])
 |[],acc,x4,_,_,_,h4=>⟨x4,h4,rfl⟩
 |p::l,acc,x4,ha,hl,hn,h4=>by
  have hn:acc.length+(l.length+1)<1000:=hn;have tn:=Qv (s0:=s0) (s1:=s1) (s2:=s2) (x5:=x5) ha (hl p aaT) (show acc.length<1000 by lia);have eb:bName 4 (fh p) [s0,s1,s2,AAB (acc.map fh),x4,x5]=some [s0,s1,s2,AAB (acc.map fh),AAA (fh p),x5]:=by simp[-bH,bh,h4]
  have h2:(if p∈acc then acc else acc++[p]).length<=acc.length+1:=by split<;>simp
  have h3:DB (if p∈acc then acc else acc++[p]):=by
   split
   .exact ha
   .intro q hq;rcases abu.mp hq with h|h
    .exact ha q h
    .rw[aaO.mp h];exact hl p aaT
  obtain⟨y4,i4,e⟩:=Ij l (if p∈acc then acc else acc++[p]) (AAA (fh p)) h3 (λq hq=>hl q (aaR _ hq)) a_ rfl;refine⟨y4,i4,?_⟩;show((bName 4 (fh p) _).bind _)=_;rw[eb,aaN,tn,aaN];exact e
end
def cu(l:Bu):D:=.lst (l.map fh)
def cy(x:List Bu):List Bu:=(x.filter λl=>!cB l).map vD
def Qw{b:Bool}{R:List Bu}{x3 x5:Option U}(hl:DB l)(hn:l.length<1000)(hR:R.length<1000)(h3:jE x3=false)(h4:jE x4=false):
  ∃y3 y4,jE y3=false/\jE y4=false/\fY [s0,AAB (R.map cu),AAA (wG b l),x3,x4,x5]=some (.nx [s0,AAB ((if cB l then R else R++[vD l]).map cu),AAA (wG b l),y3,y4,x5]):=by
 rw[Z2];have hn':l.length<=100000:=by lia
 have s0':tb0 [s0,AAB (R.map cu),AAA (wG b l),x3,x4,x5]=some (.nx [s0,AAB (R.map cu),AAA (wG b l),AAB [],x4,x5]):=by simp[-bH,bh,tb0,h3]
 obtain⟨y4,i4,e⟩:=Ij (s0:=s0) (s1:=AAB (R.map cu)) (s2:=AAA (wG b l)) (x5:=x5) l [] x4 (λp hp=>by cases hp) hl (by show 0+l.length<1000;lia) h4;have e:loop (bName 4) fX (l.map fh) [s0,AAB (R.map cu),AAA (wG b l),AAB [],x4,x5]=some (.nx [s0,AAB (R.map cu),AAA (wG b l),AAB ((vD l).map fh),y4,x5]):=e;have s1':tb1 [s0,AAB (R.map cu),AAA (wG b l),AAB [],x4,x5]=some (.nx [s0,AAB (R.map cu),AAA (wG b l),AAB ((vD l).map fh),y4,x5]):=by
  rw[<-e];cases b<;>simp[tb1,cQ,wG,Kl]
 rw[bu s0',bu s1'];have gl:=GG hl;have dl:=yx gl;have e0:=BV (cap:=[3]) (q:=qB (sX false 2 (eF (eP fT (ah (eF (au 0)) (ah (eQ (kr (qB j_))) aB)))))) (t:=.lst ((vD l).map fh)) (S:=[s0,AAB (R.map cu),AAA (wG b l),AAA (.lst ((vD l).map fh)),y4,x5]) (λp=>decide ((p.1,!p.2)∈vD l)) rfl (vD l) [] (λp hp=>by
  have h1:bX ((vD l).map fh)<=40:=by lia
  have h2:=VD gl hp;simp[sX,sy,h1,h2])
 rw[acy]at e0;generalize hV:(((vD l).filter λp=>decide ((p.1,!p.2)∈vD l)).map λ_=>(D.int 1))=V at e0;have ev:lT (.lst V) (.lst [])=!(cB l):=by rw[<-hV,NB,<-Ah];rfl
 have dv:cJ (.lst V)<=40:=hV▸NC _;have hd:(vD l).length<=100000:=by have:=u6 l;lia
 have hR':R.length<100000:=by lia
 refine⟨AAA (.lst ((vD l).map fh)),y4,rfl,i4,?_⟩;cases hv:cB l<;>rw[hv]at ev
 .simp[tb2,ow,hd,e0,dv,ev,hAppend,hR'];rfl
 .simp[tb2,ow,hd,e0,dv,ev]
def GH(l:Bu)(x:List Bu):cy (l::x)=(if cB l then [] else [vD l])++cy x:=by
 unfold cy;rw[List.filter_cons];cases cB l<;>simp
theorem C6{b:Bool}{s0 x5:Option U}:∀(x:List Bu)(R:List Bu)(x2 x3 x4:Option U),Qu x->(∀l∈x,l.length<1000)->R.length+x.length<1000->jE x2=false->jE x3=false->jE x4=false->
  ∃y2 y3 y4,jE y2=false/\jE y3=false/\jE y4=false/\loop (bName 2) fY (x.map (wG b)) [s0,AAB (R.map cu),x2,x3,x4,x5]=some (.nx [s0,AAB ((R++cy x).map cu),y2,y3,y4,x5])
 |[],R,x2,x3,x4,_,_,_,h2,h3,h4=>⟨x2,x3,x4,h2,h3,h4,by simp[loop,cy]⟩
 |l::x,R,x2,x3,x4,hx,hm,hn,h2,h3,h4=>by
  have hn:R.length+(x.length+1)<1000:=hn;obtain⟨y3,y4,i3,i4,tn⟩:=Qw (b:=b) (s0:=s0) (x5:=x5) (hx l aaT).1 (hm l aaT) (show R.length<1000 by lia) h3 h4;have eb:bName 2 (wG b l) [s0,AAB (R.map cu),x2,x3,x4,x5]=some [s0,AAB (R.map cu),AAA (wG b l),x3,x4,x5]:=by simp[-bH,bh,h2]
  have h2:(if cB l then R else R++[vD l]).length<=R.length+1:=by split<;>simp
  obtain⟨z2,z3,z4,j2,j3,j4,e⟩:=C6 (b:=b) (s0:=s0) (x5:=x5) x (if cB l then R else R++[vD l]) (AAA (wG b l)) y3 y4 (λq hq=>hx q (aaR _ hq)) (λq hq=>hm q (aaR _ hq)) a_ rfl i3 i4;refine⟨z2,z3,z4,j2,j3,j4,?_⟩;have ea:R++cy (l::x)=(if cB l then R else R++[vD l])++cy x:=by
   rw[GH];cases cB l<;>simp
  rw[ea];show((bName 2 (wG b l) _).bind _)=_;rw[eb,aaN,tn,aaN];exact e
def kb:List Bu->List Bu->List Bu
 |[],F=>F
 |k::r,F=>kb r (if(F.any λf=>dJ f k) then F else F++[k])
theorem NG{k:Bu}:∀(r F:List Bu),k∈kb r F->k∈F\/k∈r
 |[],F,h=>.inl h
 |m::r,F,h=>by
  unfold kb at h;rcases NG r _ h with q|q
  .split at q
   .exact .inl q
   .rcases abu.mp q with q|q
    .exact .inl q
    .rw[aaO.mp q];exact .inr aaT
  .exact .inr (aaR _ q)
theorem C7{k:Bu}:∀(r F:List Bu),k∈F->k∈kb r F
 |[],F,h=>h
 |m::r,F,h=>by
  unfold kb;refine C7 r _ ?_;split
  .exact h
  .exact abu.mpr (.inl h)
def rR(k:Bu):dJ k k=true:=bO.mpr λ_ h=>h
theorem GJ{m:Bu}:∀(r F:List Bu),m∈r->∃k∈kb r F,dJ k m=true
 |x::r,F,h=>by
  unfold kb;rcases aaV.mp h with rfl|h
  .split
   .rename_i c;obtain⟨f,hf,e⟩:=abL.mp c;exact⟨f,C7 r _ hf,e⟩
   .exact⟨m,C7 r _ (abu.mpr (.inr aaT)),rR m⟩
  .exact GJ r _ h
theorem GK:∀(r F:List Bu),(kb r F).length<=F.length+r.length
 |[],F=>aaP _
 |m::r,F=>by
  unfold kb;have:=GK r (if(F.any λf=>dJ f m) then F else F++[m]);have h2:(if(F.any λf=>dJ f m) then F else F++[m]).length<=F.length+1:=by split<;>simp
  rw[abD];lia
def Qx:GD:=eF (eP y9 (ah (eF (cM [1] (iF (eF (au 0))) bB (sX false 1 (eF (au 0))))) aB))
def Qy(hk:DB k)(hl:DB l)(hn:k.length<=1000):Qx [AAA (cu k),AAA (cu l)]=some (.bl (dJ k l),[AAA (cu k),AAA (cu l)]):=by
 have dl:=yx hl;have e:=iN (cap:=[1]) (g:=sX false 1 (eF (au 0))) (S:=[AAA (cu k),AAA (cu l)]) (ts:=[cu l]) rfl (λz=>.bl (inD z (l.map fh))) (k.map fh) [] (λd hd=>by
  have h1:bX (l.map fh)<=40:=by lia
  simp[sX,sy,cu,h1])
 rw[acy]at e;have hb:=vZ (λz=>inD z (l.map fh)) (k.map fh);have hs:=yy hk hl;have hn':k.length<=100000:=by lia
 have hs':((k.map fh).map λz=>inD z (l.map fh)).all id=dJ k l:=by rw[<-hs,agg];rfl
 generalize (k.map fh).map (λz=>(D.bl (inD z (l.map fh))))=Z at e hb;generalize (k.map fh).map (λz=>(inD z (l.map fh)))=Y at hb hs';unfold cu at e ⊢;simp[Qx,cQ,hn',e,y9,hb,hs']
def Qz{F:List Bu}{s1 s2:Option U}(hl:DB l)(hF:Qu F)(hn:F.length<1000):
  eZ [s0,s1,s2,AAA (cu l),x4,AAB (F.map cu)]=some (.nx [s0,s1,s2,AAA (cu l),x4,AAB ((if(F.any λf=>dJ f l) then F else F++[l]).map cu)]):=by
 have e:=iN (cap:=[3]) (g:=Qx) (S:=[s0,s1,s2,AAA (cu l),x4,AAB (F.map cu)]) (ts:=[cu l]) rfl (λd=>.bl (match d with|.lst es=>es.all λz=>inD z (l.map fh)|_=>false)) (F.map cu) [] (λd hd=>by
  obtain⟨k,hk,rfl⟩:=aa2.mp hd;have:=Qy (hF k hk).1 hl (hF k hk).2;rw[show [cu l].map (λx=>some (U.t x))=[AAA (cu l)] from rfl,this,<-yy (hF k hk).1 hl];rfl)
 rw[acy]at e;have hb:=vZ (λd:D=>(match d with|.lst es=>es.all λz=>inD z (l.map fh)|_=>false)) (F.map cu);have ha:((F.map cu).map (λd:D=>(match d with|.lst es=>es.all λz=>inD z (l.map fh)|_=>false))).any id=F.any λf=>dJ f l:=by
  rw[abV,agP];rw[aec,abL,abL];constructor
  .rintro⟨f,hf,e⟩;exact⟨f,hf,by rw[<-yy (hF f hf).1 hl];exact e⟩
  .rintro⟨f,hf,e⟩;exact⟨f,hf,by show((f.map fh).all _)=true;rw[yy (hF f hf).1 hl];exact e⟩
 generalize (F.map cu).map (λd:D=>D.bl (match d with|.lst es=>es.all λz=>inD z (l.map fh)|_=>false))=Z at e hb;generalize (F.map cu).map (λd:D=>(match d with|.lst es=>es.all λz=>inD z (l.map fh)|_=>false))=Y at hb ha;have hn':F.length<=100000:=by lia
 have hn2:F.length<100000:=by lia
 unfold Qx at e;have hcap:Ez [s0,s1,s2,AAA (cu l),x4,AAB (F.map cu)] [3]=true:=rfl;cases q:F.any λf=>dJ f l<;>rw[q]at ha
 .simp[eZ,wk,hcap,hn',e,xN,hb,ha,hAppend,hn2]
 .simp[eZ,wk,hcap,hn',e,xN,hb,ha]
theorem C8{s0 s1 s2 x4:Option U}:∀(r F:List Bu)(x3:Option U),Qu r->Qu F->F.length+r.length<1000->jE x3=false->
  ∃y3,loop (bName 3) eZ (r.map cu) [s0,s1,s2,x3,x4,AAB (F.map cu)]=some (.nx [s0,s1,s2,y3,x4,AAB ((kb r F).map cu)])
 |[],F,x3,_,_,_,_=>⟨x3,rfl⟩
 |k::r,F,x3,hr,hF,hn,h3=>by
  have hn:F.length+(r.length+1)<1000:=hn;have tn:=Qz (s0:=s0) (s1:=s1) (s2:=s2) (x4:=x4) (hr k aaT).1 hF a_;have eb:bName 3 (cu k) [s0,s1,s2,x3,x4,AAB (F.map cu)]=some [s0,s1,s2,AAA (cu k),x4,AAB (F.map cu)]:=by simp[-bH,bh,h3]
  have h2:(if(F.any λf=>dJ f k) then F else F++[k]).length<=F.length+1:=by split<;>simp
  have h4:Qu (if(F.any λf=>dJ f k) then F else F++[k]):=by
   split
   .exact hF
   .intro q hq;rcases abu.mp hq with h|h
    .exact hF q h
    .rw[aaO.mp h];exact hr k aaT
  obtain⟨y3,e⟩:=C8 (s0:=s0) (s1:=s1) (s2:=s2) (x4:=x4) r (if(F.any λf=>dJ f k) then F else F++[k]) (AAA (cu k)) (λq hq=>hr q (aaR _ hq)) h4 a_ rfl;refine⟨y3,?_⟩;show((bName 3 (cu k) _).bind _)=_;rw[eb,aaN,tn,aaN];exact e
theorem C9:∀r:List Bu,sA (r.map cu)=some (r.map List.length)
 |[]=>rfl
 |k::r=>by
  show(sA (r.map cu)).map _=_;rw[C9 r];simp
def Km(r:List Bu):∃s:List Bu,oB (r.map List.length) (r.map cu)=s.map cu/\s.Perm r:=by
 have p:=iO (r.map List.length);rw[aar]at p;refine⟨(kY (r.map List.length)).map λi=>r.getD i [],?_,?_⟩
 .unfold oB;rw[abV];refine ab2 λi hi=>?_;have hi:i<r.length:=abY.mp (p.mem_iff.mp hi);show(r.map cu).getD i .cI=cu (r.getD i []);simp[hi]
 .have q:=p.map λi=>r.getD i [];have e:(List.range r.length).map (λi=>r.getD i [])=r:=by
   apply aft;intro i;by_cases hi:i<r.length
   .simp[hi]
   .simp[hi]
  rw[e]at q;exact q
structure Td(x r:List Bu):Prop where
 from_:∀k∈r,∃l∈x,cB l=false/\k=vD l
 all:∀l∈x,cB l=false->∃k∈r,dJ k l=true
 len:r.length<=x.length
def Td.tr{r:List Bu}(h:Td x r):Tr x r:=
 ⟨λk hk=>by obtain⟨l,hl,v,rfl⟩:=h.from_ k hk;exact⟨by rw[Ah];exact v,l,hl,bO.mpr λp hp=>jx.mp hp,bO.mpr λp hp=>jx.mpr hp⟩,h.all⟩
def iQ :k∈cy x↔∃l∈x,cB l=false/\k=vD l:=by
 unfold cy;rw[aa2];constructor
 .rintro⟨l,hl,rfl⟩;obtain⟨h1,h2⟩:=afb.mp hl;exact⟨l,h1,by simpa using h2,rfl⟩
 .rintro⟨l,hl,v,rfl⟩;exact⟨l,afb.mpr ⟨hl,by rw[v];rfl⟩,rfl⟩
def wH(x:List Bu):(cy x).length<=x.length:=by
 unfold cy;rw[aar];exact List.length_filter_le _ _
def Z3{b:Bool}(hx:∀l∈x,DB l/\l.length<=900)(hn:x.length<64):∃r,EV [.t (lz b x)]=some (.m (.lst (r.map cu)),[])/\Td x r:=by
 have hx':Qu x:=λl hl=>⟨(hx l hl).1,by have:=(hx l hl).2;lia⟩
 obtain⟨y2,y3,y4,j2,j3,j4,e⟩:=C6 (b:=b) (s0:=AAA (lz b x)) (x5:=none) x [] none none none hx' (λl hl=>by have:=(hx l hl).2;lia) (by show 0+x.length<1000;lia) rfl rfl rfl;have l1:=wH x;obtain⟨s,es,ps⟩:=Km (cy x);have lr:=C9 (cy x);have gr:Qu s:=λk hk=>by
  obtain⟨l,hl,v,rfl⟩:=iQ.mp (ps.mem_iff.mp hk);exact⟨GG (hx l hl).1,by have:=(hx l hl).2;have:=u6 l;lia⟩
 have ls:=ps.length_eq;obtain⟨z3,e3⟩:=C8 (s0:=AAA (lz b x)) (s1:=AAA (.lst ((cy x).map cu))) (s2:=y2) (x4:=y4) s [] y3 gr (λk hk=>by cases hk) (by show 0+s.length<1000;lia) j3;refine⟨kb s [],?_,?_⟩
 .have e:loop (bName 2) fY (x.map (wG b)) [AAA (lz b x),AAB [],none,none,none,none]=some (.nx [AAA (lz b x),AAB ((cy x).map cu),y2,y3,y4,none]):=e;have s0:Xc [AAA (lz b x),none,none,none,none,none]=some (.nx [AAA (lz b x),AAB [],none,none,none,none]):=by simp[-bH,bh,Xc]
  have s1:Xd [AAA (lz b x),AAB [],none,none,none,none]=some (.nx [AAA (lz b x),AAB ((cy x).map cu),y2,y3,y4,none]):=by
   rw[<-e];cases b<;>simp[Xd,cQ,lz,Kl]
  have s2:Xe [AAA (lz b x),AAB ((cy x).map cu),y2,y3,y4,none]=some (.nx [AAA (lz b x),AAB ((cy x).map cu),y2,y3,y4,AAB []]):=by simp[-bH,bh,Xe]
  have h64:(cy x).length<64:=by lia
  have e3:loop (bName 3) eZ (s.map cu) [AAA (lz b x),AAA (.lst ((cy x).map cu)),y2,y3,y4,AAB []]=some (.nx [AAA (lz b x),AAA (.lst ((cy x).map cu)),y2,z3,y4,AAB ((kb s []).map cu)]):=e3;have s3:Xf [AAA (lz b x),AAB ((cy x).map cu),y2,y3,y4,AAB []]=some (.nx [AAA (lz b x),AAA (.lst ((cy x).map cu)),y2,z3,y4,AAB ((kb s []).map cu)]):=by
   rw[<-e3];simp[Xf,cQ,zL,lr,h64,es]
  show((jG [AAA (lz b x),none,none,none,none,none]).bind _)=_;rw[Sx,bu s0,bu s1,bu s2,bu s3];simp[ts4]
 .refine⟨λk hk=>?_,λl hl hv=>?_,?_⟩
  .rcases NG _ _ hk with q|q
   .cases q
   .exact iQ.mp (ps.mem_iff.mp q)
  .obtain⟨k,hk,e⟩:=GJ s [] (m:=vD l) (ps.mem_iff.mpr (iQ.mpr ⟨l,hl,hv,rfl⟩));exact⟨k,hk,fu e (bO.mpr λp hp=>jx.mp hp)⟩
  .have:=GK s [];have:(kb s []).length<=0+s.length:=this;lia
end T5
end
section
namespace T6
open L2 Sw Ss Sd Sp T5
variable {bs:List D}
structure Ms(x r:List Bu):Prop where
 tr:Tr x r
 nd:∀k∈r,k.Nodup
 anti:∀a∈r,∀b∈r,dJ a b=true->a=b
 rnd:r.Nodup
section
variable {rp:Tg->Str}{x y r s:List Bu}{a b:Bu}
def Fo(rp:Tg->Str)(k:Bu):BBB:=qy (k.map rp)
def NH(ha:a.Nodup)(hb:b.Nodup)(h1:dJ a b=true)(h2:dJ b a=true):Fo rp a=Fo rp b:=
 Gw (((agA ha hb).mpr λp=>⟨bO.mp h1 p,bO.mp h2 p⟩).map rp)
def Ms.within(h:Ms x r)(k:Ms y s)(h1:yw x y=true)(h2:yw y x=true):∀a∈r,∃b∈s,dJ a b=true/\dJ b a=true:=λa ha=>by
 have e1:=dP.mp ((Tr.sh h.tr k.tr).trans h1);have e2:=dP.mp ((Tr.sh k.tr h.tr).trans h2);obtain⟨b,hb,i1⟩:=e1 a ha (h.tr.from_ a ha).1;obtain⟨c,hc,i2⟩:=e2 b hb (k.tr.from_ b hb).1;have:=h.anti c hc a ha (fu i2 i1);subst this;exact⟨b,hb,i2,i1⟩
def KD(x y:List Bu):Bool:=yw x y && yw y x
def EW(x:List Bu):KD x x=true:=by
 have:yw x x=true:=dP.mpr λl hl _=>⟨l,hl,rR l⟩
 unfold KD;rw[this];rfl
def Ms.sh(h:Ms x r):KD x r=true:=by
 have h1:yw x r=true:=dP.mpr h.tr.all;have h2:yw r x=true:=dP.mpr λk hk _=>let⟨_,l,hl,_,e⟩:=h.tr.from_ k hk;⟨l,hl,e⟩
 unfold KD;rw[h1,h2];rfl
end
def QA(a:BBJ):Prop:=∀m∈a,∀k∈a,m &&& k=m->m=k
theorem u9{n:Nat}:∀(ms kept:BBJ),(fG n ms kept).Sublist (kept++ms)
 |[],kept=>by rw[ad7];exact List.Sublist.refl _
 |m::r,kept=>by
  unfold fG;split
  .have:=u9 (n:=n) r (kept++[m])
   rwa [afs]at this
  .exact(u9 (n:=n) r kept).trans ((aga m r).append_left kept)
theorem wI{n:Nat}:∀(ms kept:BBJ),(kept++ms).Pairwise (· < ·)->QA kept->QA (fG n ms kept)
 |[],kept,_,h=>h
 |m::r,kept,hp,h=>by
  unfold fG;split
  .rename_i c;refine wI r (kept++[m]) (by rw[afs];exact hp) λa ha b hb e=>?_;have lt:∀k∈kept,k<m:=λk hk=>(agk.mp hp).2.2 k hk m aaT;rcases abu.mp ha with ha|ha<;>rcases abu.mp hb with hb|hb
   .exact h a ha b hb e
   .rw[aaO.mp hb]at e;have:=Ic.mpr ⟨a,ha,e⟩;rw[c.2]at this;cases this
   .rw[aaO.mp ha]at e;have h1:=lt b hb;have h2:m &&& b<=b:=Nat.and_le_right;lia
   .rw[aaO.mp ha,aaO.mp hb]
  .exact wI r kept (hp.sublist ((aga m r).append_left kept)) h
def Ik(ms:BBJ):(BS ms).Pairwise (· < ·):=by
 unfold BS;rw[acW];have h1:=BB (ms.map Int.ofNat);have h2:=Ml (ms.map Int.ofNat);refine(h1.and h2).imp_of_mem λ{a b} ha hb h=>?_;obtain⟨a',_,rfl⟩:=aa2.mp (nF.mp ha);obtain⟨b',_,rfl⟩:=aa2.mp (nF.mp hb);obtain⟨h1,h2⟩:=h;have h1:(a':Int)<=(b':Int):=h1;have h2:¬(a':Int)=(b':Int):=h2;show a' < b';lia
noncomputable def tg(bs:List D)(k:Nat):Tg:=(bs.getD (k / 2) .cI,decide (k % 2=0))
def Ai(bs:List D):Nat->Nat->Bu
 |0,_=>[]
 |f+1,m=>if m=0 then [] else tg bs m.log2::Ai bs f (m-2 ^ m.log2)
def Dc{m:Nat}(h:m≠0):m-2 ^ m.log2=m % 2 ^ m.log2:=by
 have h1:=Nat.log2_self_le h;have h2:m<2 ^ (m.log2+1):=Nat.lt_log2_self;rw[ac4]at h2;rw[Nat.mod_eq_sub_mod h1,Nat.mod_eq_of_lt a_]
theorem Dd{bs:List D}{p:Tg}:∀(f m:Nat),m<2 ^ f->(p∈Ai bs f m↔∃k,m.testBit k=true/\p=tg bs k)
 |0,m,h=>by
  have:m=0:=by simpa using h
  subst this;exact⟨λh=>(nomatch h),λ⟨k,hk,_⟩=>by simp at hk⟩
 |f+1,m,h=>by
  unfold Ai;split
  .rename_i e;subst e;exact⟨λh=>(nomatch h),λ⟨k,hk,_⟩=>by simp at hk⟩
  .rename_i e;have top:m.testBit m.log2=true:=Nat.testBit_log2 e;have lt:m.log2<f+1:=(ahc e).mpr h;rw[Dc e,aaV,Dd f _ (aaU (agG _ (aha _)) (abN a_ a_))];constructor
   .rintro(rfl|⟨k,hk,rfl⟩)
    .exact⟨_,top,rfl⟩
    .rw[af2]at hk;exact⟨k,(abR.mp hk).2,rfl⟩
   .rintro⟨k,hk,rfl⟩;by_cases q:k=m.log2
    .subst q;exact .inl rfl
    .refine .inr ⟨k,?_,rfl⟩;rw[af2,hk,Bool.and_true,abJ];have:k<=m.log2:=by
      apply abO;intro n;have h2:m<2 ^ (m.log2+1):=Nat.lt_log2_self;have:m<2 ^ k:=aaU h2 (abN a_ a_);rw[Nat.testBit_lt_two_pow this]at hk;cases hk
     lia
def QB(h:bs.Nodup){i j:Nat}(hi:i<bs.length)(hj:j<bs.length)(e:bs.getD i .cI=bs.getD j .cI):i=j:=by
 rw[abC,abC,aaS hi,aaS hj]at e;have e:bs[i]=bs[j]:=e;have ne:=aeY.mp h;rcases Nat.lt_trichotomy i j with q|q|q
 .exact absurd e (ne i j hi hj q)
 .exact q
 .exact absurd e.symm (ne j i hj hi q)
def VF(h:bs.Nodup){i j:Nat}(hi:i<2*bs.length)(hj:j<2*bs.length)(e:tg bs i=tg bs j):i=j:=by
 have e1:=QB h a_ a_ (congrArg Prod.fst e);have e2:decide (i % 2=0)=decide (j % 2=0):=congrArg Prod.snd e;rw[decide_eq_decide]at e2;lia
theorem NJ{bs:List D}(h:bs.Nodup):∀(f m:Nat),m<2 ^ f->f<=2*bs.length->(Ai bs f m).Nodup
 |0,m,_,_=>abZ
 |f+1,m,hm,hf=>by
  unfold Ai;split
  .exact abZ
  .rename_i e;have lt:m.log2<f+1:=(ahc e).mpr hm;have hm':m % 2 ^ m.log2<2 ^ f:=aaU (agG _ (aha _)) (abN a_ a_);rw[Dc e];refine ab7.mpr ⟨λq=>?_,NJ h f _ hm' a_⟩;obtain⟨k,hk,e2⟩:=(Dd f _ hm').mp q;rw[af2]at hk;have hk:=abX (abR.mp hk).1;have:=VF h a_ a_ e2;lia
def Sz{p:Tg}(h:p.1∈bs):tg bs (ix bs p)=p:=by
 obtain⟨b,q⟩:=p;have h:b∈bs:=h;have hi:bs.idxOf b<bs.length:=adf h;unfold tg ix;have e:(2*bs.idxOf b+if q=true then 0 else 1) / 2=bs.idxOf b:=by cases q<;>simp<;>lia
 have e2:decide ((2*bs.idxOf b+if q=true then 0 else 1) % 2=0)=q:=by cases q<;>simp<;>lia
 simp only[e,e2];rw[abC,aaS hi,aeJ,agt hi]
def Z4{p:Tg}(h:p.1∈bs):ix bs p<2*bs.length:=by
 have hi:bs.idxOf p.1<bs.length:=adf h;unfold ix;split<;>lia
def NK{l:Bu}(h:∀p∈l,p.1∈bs):pR bs l<2 ^ (2*bs.length):=by
 apply Nat.lt_pow_two_of_testBit;intro k hk;rw[oG,afq];intro p hp e;have:=Z4 (h p hp);have:=abX e;lia
def Il(bs:List D)(m:Nat):Bu:=Ai bs (2*bs.length) m
def qG{l:Bu}(h:∀p∈l,p.1∈bs)(p:Tg):p∈Il bs (pR bs l)↔p∈l:=by
 unfold Il;rw[Dd _ _ (NK h)];constructor
 .rintro⟨k,hk,rfl⟩;rw[oG,abL]at hk;obtain⟨q,hq,e⟩:=hk;rw[<-abX e,Sz (h q hq)];exact hq
 .intro hp;exact⟨ix bs p,by rw[wC h (h p hp)];exact abJ hp,(Sz (h p hp)).symm⟩
def QC{x:List Bu}{a:BBJ}(hn:bs.Nodup)(hx:∀l∈x,∀p∈l,p.1∈bs)(ha:Kp bs x a)(aa:QA a)(oa:a.Pairwise (· < ·)):Ms x (a.map (Il bs)):=by
 have sub:∀m∈a,∀k∈a,dJ (Il bs m) (Il bs k)=true->m=k:=λm hm k hk e=>by
  obtain⟨l,hl,rfl,_⟩:=ha.from_ m hm;obtain⟨l2,hl2,rfl,_⟩:=ha.from_ k hk;refine aa _ hm _ hk ((wF (hx l hl) (hx l2 hl2)).mpr (bO.mpr λp hp=>?_));exact(qG (hx l2 hl2) p).mp (bO.mp e p ((qG (hx l hl) p).mpr hp))
 refine⟨⟨λk hk=>?_,λl hl hv=>?_⟩,λk hk=>?_,λk hk j hj e=>?_,?_⟩
 .obtain⟨m,hm,rfl⟩:=aa2.mp hk;obtain⟨l,hl,rfl,v⟩:=ha.from_ m hm;have s:=qG (hx l hl);exact⟨by rw[Ag s];exact v,l,hl,bO.mpr λp hp=>(s p).mp hp,bO.mpr λp hp=>(s p).mpr hp⟩
 .obtain⟨m,hm,e⟩:=ha.all l hl hv;obtain⟨l2,hl2,rfl,_⟩:=ha.from_ m hm;exact⟨_,ago hm,bO.mpr λp hp=>bO.mp ((wF (hx l2 hl2) (hx l hl)).mp e) p ((qG (hx l2 hl2) p).mp hp)⟩
 .obtain⟨m,hm,rfl⟩:=aa2.mp hk;obtain⟨l,hl,rfl,_⟩:=ha.from_ m hm;exact NJ hn _ _ (NK (hx l hl)) (aaP _)
 .obtain⟨m,hm,rfl⟩:=aa2.mp hk;obtain⟨m2,hm2,rfl⟩:=aa2.mp hj;rw[sub m hm m2 hm2 e]
 .refine acW.mpr ((oa.imp λh=>aa1 h).imp_of_mem λ{m k} hm hk n e=>n ?_);exact sub m hm k hk (by rw[e];exact rR _)
end T6
end
section
namespace T5
open L2 Sw Ss Sd Sp
variable {y x:List Bu}{N n a:Nat}{o acc R:List D}{bs:BBB}{kvs:List (Key×D)}{S:SS}{G:GD}{gi:GI}{bl:List Bool}{row td:D}
def jH(bT:FM):GS:=
 (kP (eT (eM 3 eY (ah (eF (cM [4] (iF (eF (au 2))) bB (eF (eP gU (ah (eF (eP pI (ah j_ aB))) (ah (eF (eP pI (ah (eF (au 0)) aB))) aB)))))) aB))))
def Z5(bT:FM):GS:=
 (ju (kr (qB (eF (au 0)))) (bU (bq bT (aW (eF (eP gU (ah (eF (eP pI (ah j_ aB))) (ah (eF (eP pI (ah (eF (au 2)) aB))) aB)))) bQ))) dg)
def ps1(bT:FM):GS:=
 (cD 3 (eP eB aB))
def ps2(bT:FM):GS:=
 (kQ (bName 4) (iF j_) (jH bT))
def ps3(bT:FM):GS:=
 (bU (bq bT (aW (eF (au 3)) bQ)))
def lA(bT:FM):GS:=aP (Z5 bT) (aP (ps1 bT) (aP (ps2 bT) (ps3 bT)))
def ps_eq(bT:FM):lA bT=aP (Z5 bT) (aP (ps1 bT) (aP (ps2 bT) (ps3 bT))):=rfl
def Xg:FM:=bf 5 (lA EV)
def VG:∀us r,Xg us=some r->bf 5 (lA EV) us=some r:=λ_ _ h=>h
noncomputable def prod(x y:List Bu):List Bu:=x.flatMap λa=>y.map λb=>a++b
def tH(t:Bool)(x y:List Bu):List Bu:=if t then prod x y else x++y
def QD{t:D}{s1:Option U}{F:List Bu}{a:Bu}(hy:y.length<=1000)(ha:a.length<=1000)(hl:∀k∈y,k.length<=1000)(hF:F.length<=1000):
  jH EV [AAA t,s1,AAA (.lst (y.map cu)),AAB (F.map cu),AAA (cu a)]=some (.nx [AAA t,s1,AAA (.lst (y.map cu)),AAB ((F++y.map λb=>a++b).map cu),AAA (cu a)]):=by
 have e:=iN (cap:=[4]) (g:=eF (eP gU (ah (eF (eP pI (ah j_ aB))) (ah (eF (eP pI (ah (eF (au 0)) aB))) aB)))) (S:=[AAA t,s1,AAA (.lst (y.map cu)),AAB (F.map cu),AAA (cu a)]) (ts:=[cu a]) rfl (λd=>match d with|.lst ds=>.lst (a.map fh++ds)|d=>d) (y.map cu) [] (λd hd=>by
  obtain⟨k,hk,rfl⟩:=aa2.mp hd;have:=hl k hk;have h1:k.length<=100000:=by lia
  have h2:a.length<=100000:=by lia
  have h3:k.length<100000:=by lia
  have h4:a.length<100000:=by lia
  have h5:a.length+k.length<=100000:=by lia
  simp[cu,pI,h1,h2,h3,h4,h5])
 have em:(y.map cu).map (λd=>match d with|.lst ds=>.lst (a.map fh++ds)|d=>d)=(y.map λb=>a++b).map cu:=by
  rw[abV,abV];refine ab2 λk _=>?_;show D.lst (a.map fh++k.map fh)= .lst ((a++k).map fh);rw[ad8]
 rw[acy,em]at e;have h1:y.length<=100000:=by lia
 have h2:y.length<100000:=by lia
 have h3:F.length<100000:=by lia
 have h4:F.length+y.length<=100000:=by lia
 have h5:F.length+y.length<100000:=by lia
 simp[jH,cQ,h1,e,eY,h3,h4,h2,h5]
def EX(x y:List Bu):(prod x y).length=x.length*y.length:=by
 unfold prod
 induction x with
 |nil=>simp
 |cons a x ih=>rw[agE,aaW,ih,aar,abD,Nat.succ_mul,Nat.add_comm]
theorem Im{t:D}{s1:Option U}{y:List Bu}(hy:y.length<=1000)(hl:∀k∈y,k.length<=1000):∀(x F:List Bu)(x4:Option U),jE x4=false->(∀a∈x,a.length<=1000)->F.length+x.length*y.length<=1000->
  ∃y4,loop (bName 4) (jH EV) (x.map cu) [AAA t,s1,AAA (.lst (y.map cu)),AAB (F.map cu),x4]=some (.nx [AAA t,s1,AAA (.lst (y.map cu)),AAB ((F++prod x y).map cu),y4])
 |[],F,x4,_,_,_=>⟨x4,by simp[loop,prod]⟩
 |a::x,F,x4,h4,hx,hn=>by
  have hn:F.length+(x.length+1)*y.length<=1000:=hn;rw[Nat.add_mul,Nat.one_mul]at hn;have tn:=QD (t:=t) (s1:=s1) (F:=F) hy (hx a aaT) hl a_;have eb:bName 4 (cu a) [AAA t,s1,AAA (.lst (y.map cu)),AAB (F.map cu),x4]=some [AAA t,s1,AAA (.lst (y.map cu)),AAB (F.map cu),AAA (cu a)]:=by simp[-bH,bh,h4]
  obtain⟨y4,e⟩:=Im (t:=t) (s1:=s1) hy hl x (F++y.map λb=>a++b) (AAA (cu a)) rfl (λq hq=>hx q (aaR _ hq)) (by rw[aaW,aar];lia);refine⟨y4,?_⟩;have ep:F++prod (a::x) y=F++(y.map λb=>a++b)++prod x y:=by simp[prod]
  rw[ep];show((bName 4 (cu a) _).bind _)=_;rw[eb,aaN,tn,aaN];exact e
def NL{k:Bu}(h:k∈prod x y):∃a∈x,∃b∈y,k=a++b:=by
 unfold prod at h;obtain⟨a,ha,h⟩:=agW.mp h;obtain⟨b,hb,rfl⟩:=aa2.mp h;exact⟨a,ha,b,hb,rfl⟩
def Gd(b:D):Prop:=Bc b/\(∃n,n<=9/\Sy n [] b)/\Sane b/\wD b<=12500
def QE(l:Bu):Prop:=∀p∈l,Gd p.1
def QE.gb{l:Bu}(h:QE l):DB l:=λp hp=>(h p hp).1
def GR(N:Nat)(x:List Bu):Prop:=∀l∈x,QE l/\l.length<=N
def GR.put{M:Nat}{t:Bool}(hx:GR N x)(hy:GR M y):GR (N+M) (tH t x y):=by
 intro k hk;unfold tH at hk;split at hk
 .obtain⟨a,ha,b,hb,rfl⟩:=NL hk;obtain⟨h1,h2⟩:=hx a ha;obtain⟨h3,h4⟩:=hy b hb;refine⟨λp hp=>?_,by rw[aaW];lia⟩;rcases abu.mp hp with q|q
  .exact h1 p q
  .exact h3 p q
 .rcases abu.mp hk with q|q
  .exact⟨(hx k q).1,by have:=(hx k q).2;lia⟩
  .exact⟨(hy k q).1,by have:=(hy k q).2;lia⟩
def GR.aem{r:List Bu}(hx:GR N x)(h:Td x r):GR N r:=λk hk=>by
 obtain⟨l,hl,_,rfl⟩:=h.from_ k hk;exact⟨λp hp=>(hx l hl).1 p (jx.mp hp),aaY (u6 l) (hx l hl).2⟩
def GR.mono{M:Nat}(h:GR N x)(k:N<=M):GR M x:=λl hl=>⟨(h l hl).1,aaY (h l hl).2 k⟩
def Z6{t:Bool}(hx:GR N x)(hy:GR N y)(hN:N<=400)(lx:x.length<=63)(ly:y.length<=63)(hn:(tH t x y).length<64):
  ∃r,Xg [.t (.bl t),.t (.lst (x.map cu)),.t (.lst (y.map cu))]=some (.m (.lst (r.map cu)),[])/\Td (tH t x y) r:=by
 have hp:=GR.put (t:=t) hx hy;obtain⟨r,e,td⟩:=Z3 (b:=true) (x:=tH t x y) (λl hl=>⟨(hp l hl).1.gb,by have:=(hp l hl).2;lia⟩) hn;refine⟨r,?_,td⟩;cases t with
 |false=>
  have e:EV [.t (.lst ((x++y).map cu))]=some (.m (.lst (r.map cu)),[]):=e;have h1:x.length<=100000:=by lia
  have h2:y.length<=100000:=by lia
  have h3:x.length<100000:=by lia
  have h4:y.length<100000:=by lia
  have h5:x.length+y.length<=100000:=by lia
  have h6:x.length+y.length<100000:=by lia
  rw[ad8]at e;simp[Xg,bf,lA,Z5,pI,h1,h2,h3,h4,h5,h6,e]
 |true=>
  have e:EV [.t (.lst ((prod x y).map cu))]=some (.m (.lst (r.map cu)),[]):=e;have hn:(prod x y).length<64:=hn;rw[EX]at hn;obtain⟨y4,q⟩:=Im (t:=.bl true) (s1:=AAA (.lst (x.map cu))) (y:=y) a_ (λk hk=>by have:=(hy k hk).2;lia) x [] none rfl (λk hk=>by have:=(hx k hk).2;lia) (by show 0+_<=1000;lia);have q:loop (bName 4) (jH EV) (x.map cu) [AAA (.bl true),AAA (.lst (x.map cu)),AAA (.lst (y.map cu)),AAB [],none]=some (.nx [AAA (.bl true),AAA (.lst (x.map cu)),AAA (.lst (y.map cu)),AAB ((prod x y).map cu),y4]):=q;show((lA EV [AAA (.bl true),AAA (.lst (x.map cu)),AAA (.lst (y.map cu)),none,none]).bind _)=_;have s0:Z5 EV [AAA (.bl true),AAA (.lst (x.map cu)),AAA (.lst (y.map cu)),none,none]=some (.nx [AAA (.bl true),AAA (.lst (x.map cu)),AAA (.lst (y.map cu)),none,none]):=by simp[Z5]
  have s1:ps1 EV [AAA (.bl true),AAA (.lst (x.map cu)),AAA (.lst (y.map cu)),none,none]=some (.nx [AAA (.bl true),AAA (.lst (x.map cu)),AAA (.lst (y.map cu)),AAB [],none]):=by simp[-bH,bh,ps1]
  have s2:ps2 EV [AAA (.bl true),AAA (.lst (x.map cu)),AAA (.lst (y.map cu)),AAB [],none]=some (.nx [AAA (.bl true),AAA (.lst (x.map cu)),AAA (.lst (y.map cu)),AAB ((prod x y).map cu),y4]):=by
   rw[<-q];simp[ps2,cQ]
  rw[ps_eq,bu s0,bu s1,bu s2];simp[ps3,e]
def dH(aM Ko:FM):GS:=
 (aP (cD 2 (eT (b9 0 (eC (.int 0)))))
 (aP (ju (qB (eF (eP D8 (ah (eF (au 2)) (ah (eF (eP fT (ah (eC (.str "yes")) (ah (eC (.str "no")) aB)))) aB))))) (bU (Oe (qB (eF (eP kg (ah (eF (eP kg (ah (eF (au 2)) (ah (eC (.str "yes")) aB)))) (ah j_ aB))))) (eP eB (ah (eF (eP eB aB)) aB)) (eP eB aB))) dg)
 (aP (ju (qB (eF (eP kg (ah (eF (au 2)) (ah (eC (.str "not")) aB))))) (bU (bq aM (aW (b9 0 f_) (aW (eQ (kr (qB j_))) bQ)))) dg)
 (aP (ju (qB (eF (eP D8 (ah (eF (au 2)) (ah (eF (eP fT (ah (eC (.str "both")) (ah (eC (.str "either")) aB)))) aB))))) (bU (bq Ko (aW (eF (eP kg (ah (eF (eP kg (ah (eF (au 2)) (ah (eC (.str "both")) aB)))) (ah j_ aB)))) (aW (eF (bq aM (aW (b9 0 f_) (aW j_ bQ)))) (aW (eF (bq aM (aW (b9 0 (eC (.int 2))) (aW j_ bQ)))) bQ))))) dg)
 (bU (eP eB (ah (eF (eP eB (ah (eF (eP fT (ah (eF (au 0)) (ah j_ aB)))) aB))) aB)))))))
def KG:Nat->FM
 |0=>λ_=>none
 |j+1=>bf 3 (dH (KG j) Xg)
def VH(j:Nat):∀us r,KG (j+1) us=some r->bf 3 (dH (KG j) Xg) us=some r:=λ_ _ h=>h
section
variable {f g:FM}{z:Str}{r:List D}{t:Bool}
noncomputable def YN:BBB:=["yes","no"]
noncomputable def BE:BBB:=["both","either"]
def tK(z:Str):D8 [.str z,.tup [.str "yes",.str "no"]]=AAA (.bl (inD (.str z) (YN.map D.str))):=uV (.str z) YN
def De(z:Str):D8 [.str z,.tup [.str "both",.str "either"]]=AAA (.bl (inD (.str z) (BE.map D.str))):=uV (.str z) BE
def NN(h1:inD (.str z) (YN.map D.str)=false)(h2:¬z="not")(h3:inD (.str z) (BE.map D.str)=false):
  bf 3 (dH f g) [.t (.tup (.str z::r)),.t (.bl t)]=some (.m (.lst [.lst [.tup [.tup (.str z::r),.bl t]]]),[]):=by
 have i1:=tK z;have i2:=De z;rw[h1]at i1;rw[h3]at i2;simp[bf,dH,jN,i1,i2,h2]
def QF(hz:z="yes"\/z="no"):bf 3 (dH f g) [.t (.tup [.str z]),.t (.bl t)]=some (.m (.lst (if decide (z="yes") == t then [.lst []] else [])),[]):=by
 have i1:=tK z;have h1:inD (.str z) (YN.map D.str)=true:=by rcases hz with rfl|rfl<;>decide
 rw[h1]at i1;have n1:¬(("no":Str)="yes"):=by decide
 rcases hz with rfl|rfl<;>cases t<;>simp[bf,dH,jN,i1,n1]
def VI{d:D}(e:f [.t d,.t (.bl (!t))]=some (.m (.lst o),[])):bf 3 (dH f g) [.t (.tup [.str "not",d]),.t (.bl t)]=some (.m (.lst o),[]):=by
 have i1:=tK "not";have h1:inD (.str "not") (YN.map D.str)=false:=by decide
 have a1:dZ [D.str "not",d] 1=some d:=rfl;rw[h1]at i1;simp[bf,dH,jN,i1,a1,e]
def VJ{d1 d2:D}{o1 o2:List D}(hz:z="both"\/z="either")(e1:f [.t d1,.t (.bl t)]=some (.m (.lst o1),[]))(e2:f [.t d2,.t (.bl t)]=some (.m (.lst o2),[]))(e3:g [.t (.bl ((z == ("both":Str)) == t)),.t (.lst o1),.t (.lst o2)]=some (.m (.lst o),[])):
  bf 3 (dH f g) [.t (.tup [.str z,d1,d2]),.t (.bl t)]=some (.m (.lst o),[]):=by
 have i1:=tK z;have i2:=De z;have h1:inD (.str z) (YN.map D.str)=false:=by rcases hz with rfl|rfl<;>decide
 have h2:inD (.str z) (BE.map D.str)=true:=by rcases hz with rfl|rfl<;>decide
 have a1:dZ [D.str z,d1,d2] 1=some d1:=rfl;have a2:dZ [D.str z,d1,d2] 2=some d2:=rfl;have n:¬z="not":=by rcases hz with rfl|rfl<;>decide
 rw[h1]at i1;rw[h2]at i2;simp[bf,dH,jN,i1,i2,a1,a2,n,e1,e2,e3]
end
def Z7{t:D}(h:Ts bs t):pl t=true/\cJ t<=1:=by cases h<;>exact⟨rfl,aaP _⟩
def SA{d:D}(h:Sy n bs d):pl d=true/\cJ d<=n+1:=by
 induction h with
 |leaf h=>exact⟨rfl,by show 1<=_;lia⟩
 |now h=>
  obtain⟨h1,h2⟩:=Z7 h;exact⟨by show(true && (pl _ && true))=true;rw[h1];rfl,by show max 0 (max (cJ _) 0)+1<=_;lia⟩
 |one hz _ ih=>exact⟨by show(true && (pl _ && true))=true;rw[ih.1];rfl,by have:=ih.2;show max 0 (max (cJ _) 0)+1<=_;lia⟩
 |two hz _ _ i1 i2=>exact⟨by show(true && (pl _ && (pl _ && true)))=true;rw[i1.1,i2.1];rfl,by have:=i1.2;have:=i2.2;show max 0 (max (cJ _) (max (cJ _) 0))+1<=_;lia⟩
 |Vu _ _ _ ih=>exact⟨by show(true && (true && (pl _ && true)))=true;rw[ih.1];rfl,by have:=ih.2;show max 0 (max 0 (max (cJ _) 0))+1<=_;lia⟩
 |bnd _ _ _ _ ih=>exact⟨by show(true && (true && (true && (pl _ && true))))=true;rw[ih.1];rfl,by have:=ih.2;show max 0 (max 0 (max 0 (max (cJ _) 0)))+1<=_;lia⟩
def VL{d:D}(h:Sy n bs d):∃ds,d= .tup ds:=by cases h<;>exact⟨_,rfl⟩
def NO{d:D}(h:Sy n [] d)(hn:n<=5):Gd d:=by
 have g:=h.good (λy hy=>by cases hy);have:2 ^ n<=2 ^ 5:=abN a_ hn;exact⟨⟨(SA h).1,by have:=(SA h).2;lia,VL h⟩,⟨n,by lia,h⟩,g.nG,by have:=g.w;lia⟩
def one_pow(n:Nat):1<=2 ^ n:=afT
def EY{d:D}{t:Bool}(h:Gd d):GR (2 ^ n) [[(d,t)]]:=λl hl=>by
 rw[aaO.mp hl];exact⟨λp hp=>by rw[aaO.mp hp];exact h,one_pow n⟩
def d7:GS:=
 (aP (ju (qB (eF (eP kg (ah (b9 0 (eC (.int 0))) (ah (eC (.str "any")) aB))))) (bU (eT (eC (.bl true)))) dg)
 (aP (ju (qB (eF (eP kg (ah (b9 0 (eC (.int 0))) (ah (eC (.str "name")) aB))))) (bU (eP kg (ah (b9 0 f_) (ah (b9 1 (eC (.int 0))) aB)))) dg)
 (aP (cD 3 (eT (zu 2 (b9 0 f_) (b9 0 f_))))
 (bU (eT (EB (zl [("less",(eF (eP FZ (ah (b9 1 f_) (ah (eF (au 3)) aB))))),("same",(eF (eP kg (ah (b9 1 f_) (ah (eF (au 3)) aB))))),("more",(eF (eP Uo (ah (b9 1 f_) (ah (eF (au 3)) aB)))))]) (b9 0 (eC (.int 0)))))))))
def xy:FM:=bf 4 d7
def VM:∀us r,xy us=some r->bf 4 d7 us=some r:=λ_ _ h=>h
structure Kn(bs:BBB)(kvs:List (Key×D)):Prop where
 all:∀kv∈kvs,∃(y:Str)(k:Int),kv=(.inr y,.int k)
 has:∀y∈bs,∃k:Int,bW kvs (.inr y)=some (.int k)
 len:kvs.length<=bs.length
def Kn.inl{bs:BBB}{kvs:List (Key×D)}(h:Kn bs kvs)(k:Int):bW kvs (.inl k)=none:=by
 unfold bW;rw[Option.map_eq_none_iff,agr];intro kv hkv e;obtain⟨y,j,rfl⟩:=h.all kv hkv;have e:=abX e;cases e
noncomputable def qH(p:Str×Int):D:=.tup [.str p.1,.int p.2]
def lkc(x y w:D):bW (mC [] [((.inr "less":Key),x),(.inr "same",y),(.inr "more",w)]) (.inr "less")=some x/\bW (mC [] [((.inr "less":Key),x),(.inr "same",y),(.inr "more",w)]) (.inr "same")=some y/\bW (mC [] [((.inr "less":Key),x),(.inr "same",y),(.inr "more",w)]) (.inr "more")=some w:=⟨rfl,rfl,rfl⟩
def NP{t1:D}{o a:Str}{v k:Int}{g:Option D}(ho:o∈z7)(hg:L4 (.b (.dct kvs)) t1=some g)(hd:g.getD t1= .int k):
  ∃b,xy [.t (.tup [.str o,t1]),.t (qH (a,v)),.b (.dct kvs)]=some (.t (.bl b),[.dct kvs]):=by
 have a1:dZ [D.str o,t1] 1=some t1:=rfl;have b1:dZ [D.str a,D.int v] 1=some (.int v):=rfl;have n1:=(Nn ho).1;have n2:=(Nn ho).2;simp only[z7,aaV,abG,ad2]at ho;rcases ho with rfl|rfl|rfl
 .refine⟨decide (v<k),?_⟩;simp[xy,bf,d7,qH,jN,a1,b1,n1,n2,zu,uP,hg,hd,EB,zl,kW,keyOf,FZ,Uo,(lkc _ _ _).1]
 .refine⟨v == k,?_⟩;simp[xy,bf,d7,qH,jN,a1,b1,n1,n2,zu,uP,hg,hd,EB,zl,kW,keyOf,FZ,Uo,(lkc _ _ _).2.1]
 .refine⟨decide (k<v),?_⟩;simp[xy,bf,d7,qH,jN,a1,b1,n1,n2,zu,uP,hg,hd,EB,zl,kW,keyOf,FZ,Uo,(lkc _ _ _).2.2]
def Z8{t:D}{p:Str×Int}(h:Ts bs t)(hk:Kn bs kvs):∃b,xy [.t t,.t (qH p),.b (.dct kvs)]=some (.t (.bl b),[.dct kvs]):=by
 obtain⟨a,v⟩:=p;cases h with
 |any=>exact⟨true,by simp[xy,bf,d7,jN]⟩
 |@name y h=>
  have a1:dZ [D.str "name",.str y] 1=some (.str y):=rfl;have n:¬(("name":Str)="any"):=by decide
  exact⟨y == a,by simp[xy,bf,d7,qH,jN,a1,n]⟩
 |@num o k ho k0 k1=>exact NP (g:=none) (k:=k) ho (by show((keyOf (.int k)).map (bW kvs))=_;show some (bW kvs (.inl k))=_;rw[hk.inl]) rfl
 |@var o y ho hy=>
  obtain⟨k,e⟩:=hk.has y hy;exact NP (g:=some (.int k)) (k:=k) ho (by show some (bW kvs (.inr y))=_;rw[e]) rfl
def cK(aK aJ:FM):GS:=
 (aP (ju (qB (eF (bq aJ (aW (b9 0 (eC (.int 2))) (aW j_ (aW (eF (au 6)) (cG (au 3) bQ))))))) (bU (eT (eC (.bl true)))) dg)
 (ju (kr (qB (eF (bq aJ (aW (b9 0 f_) (aW j_ (aW (eF (au 6)) (cG (au 3) bQ)))))))) (bU (eT (eC (.bl false)))) dg))
def d8(aK aJ:FM):GS:=
 (ju (qB (eF (eP kg (ah (eF (eP Hr (ah (b9 1 (eF (au 6))) (ah (eC (.int 0)) aB)))) (ah (b9 0 f_) aB))))) (aP (cD 7 (zx 3))
 (aP (AN 7 (b9 0 (eC (.int 2))) (eF (eP Hr (ah (b9 1 (eF (au 6))) (ah f_ aB)))))
 (kP (eT (eM 5 hAppend (ah (eF (bq aJ (aW (b9 0 (eC (.int 3))) (aW j_ (aW (eF (au 6)) (cG (au 7) bQ)))))) aB)))))) dg)
def hs0(aK aJ:FM):GS:=
 (cD 4 (eT (b9 0 (eC (.int 0)))))
def hs1(aK aJ:FM):GS:=
 (ju (qB (eF (eP D8 (ah (eF (au 4)) (ah (eF (eP fT (ah (eC (.str "yes")) (ah (eC (.str "no")) aB)))) aB))))) (bU (eP kg (ah (eF (au 4)) (ah (eC (.str "yes")) aB)))) dg)
def hs2(aK aJ:FM):GS:=
 (ju (qB (eF (eP kg (ah (eF (au 4)) (ah (eC (.str "now")) aB))))) (bU (eT (eQ (yP (qB (eF (eP FZ (ah (eF (au 2)) (ah (nq 1) aB))))) (qB (eF (bq aK (aW (b9 0 f_) (aW (b9 1 (eF (au 2))) (cG (au 3) bQ)))))))))) dg)
def Oi(aK aJ:FM):GS:=
 (ju (qB (eF (eP kg (ah (eF (au 4)) (ah (eC (.str "not")) aB))))) (bU (eT (eQ (kr (qB (eF (bq aJ (aW (b9 0 f_) (aW j_ (aW (eF (au 2)) (cG (au 3) bQ))))))))))) dg)
def LY(aK aJ:FM):GS:=
 (ju (qB (eF (eP D8 (ah (eF (au 4)) (ah (eF (eP fT (ah (eC (.str "both")) (ah (eC (.str "either")) aB)))) aB))))) (aP (cD 5 (cM [2,3,1] (iF (eF (Uz (eF (au 0)) (some f_) none))) bB (eF (bq aJ (aW (eF (au 0)) (aW (eF (au 3)) (aW j_ (cG (au 2) bQ))))))))
 (bU (Oe (qB (eF (eP kg (ah (eF (au 4)) (ah (eC (.str "both")) aB))))) (eT (nA y9 5)) (eT (nA xN 5))))) dg)
def SD(aK aJ:FM):GS:=
 (ju (qB (eF (eP kg (ah (eF (au 4)) (ah (eC (.str "next")) aB))))) (bU (eT (eQ (yP (qB (eF (eP FZ (ah (eF (au 2)) (ah (nq 1) aB))))) (qB (eF (bq aJ (aW (b9 0 f_) (aW j_ (aW (eF (eP gU (ah (eF (au 2)) (ah f_ aB)))) (cG (au 3) bQ))))))))))) dg)
def Xh(aK aJ:FM):GS:=
 (ju (qB (eF (eP kg (ah (eF (au 4)) (ah (eC (.str "till")) aB))))) (aP (kQ (bName 6) (xg (ah (eF (au 2)) (ah (nq 1) aB))) (cK aK aJ))
 (bU (eT (eC (.bl false))))) dg)
def Xi(aK aJ:FM):GS:=
 (ju (qB (eF (eP kg (ah (eF (au 4)) (ah (eC (.str "within")) aB))))) (bU (eP xN (ah (eF (cM [3,1,0] (xg (ah (eF (au 2)) (ah (eF (eP Bv (ah (eF (eP gU (ah (eF (au 2)) (ah (b9 0 f_) aB)))) (ah (nq 1) aB)))) aB))) bB (eF (bq aJ (aW (b9 3 (eC (.int 2))) (aW (eF (au 2)) (aW (eF (au 0)) (cG (au 1) bQ)))))))) aB))) dg)
def Xj(aK aJ:FM):GS:=
 (ju (qB (eF (eP D8 (ah (eF (au 4)) (ah (eF (eP fT (ah (eC (.str "always")) (ah (eC (.str "some")) aB)))) aB))))) (aP (cD 5 (cM [3,1,0] (xg (ah (eF (au 2)) (ah (nq 1) aB))) bB (eF (bq aJ (aW (b9 3 f_) (aW (eF (au 2)) (aW (eF (au 0)) (cG (au 1) bQ))))))))
 (bU (Oe (qB (eF (eP kg (ah (eF (au 4)) (ah (eC (.str "always")) aB))))) (eT (nA y9 5)) (eT (nA xN 5))))) dg)
def hs9(aK aJ:FM):GS:=
 (cD 5 (eP eB aB))
def QG(aK aJ:FM):GS:=
 (kQ (bName 6) (xg (ah (eF (au 2)) (ah (nq 1) aB))) (d8 aK aJ))
def QH(aK aJ:FM):GS:=
 (bU (Oe (qB (eF (eP kg (ah (eF (au 4)) (ah (eC (.str "each")) aB))))) (eT (nA y9 5)) (eT (nA xN 5))))
def cS(aK aJ:FM):GS:=aP (hs0 aK aJ) (aP (hs1 aK aJ) (aP (hs2 aK aJ) (aP (Oi aK aJ) (aP (LY aK aJ) (aP (SD aK aJ) (aP (Xh aK aJ) (aP (Xi aK aJ) (aP (Xj aK aJ) (aP (hs9 aK aJ) (aP (QG aK aJ) (QH aK aJ)))))))))))
def hs_eq(aK aJ:FM):cS aK aJ=aP (hs0 aK aJ) (aP (hs1 aK aJ) (aP (hs2 aK aJ) (aP (Oi aK aJ) (aP (LY aK aJ) (aP (SD aK aJ) (aP (Xh aK aJ) (aP (Xi aK aJ) (aP (Xj aK aJ) (aP (hs9 aK aJ) (aP (QG aK aJ) (QH aK aJ))))))))))):=rfl
def AF:Nat->FM
 |0=>λ_=>none
 |j+1=>bf 8 (cS xy (AF j))
def VN(j:Nat):∀us r,AF (j+1) us=some r->bf 8 (cS xy (AF j)) us=some r:=λ_ _ h=>h
section
variable {f g:FM}{z:Str}{r row:List D}{at':Int}{kvs:List (Key×D)}{x5 x6 x7:Option U}
noncomputable abbrev hS(d:D)(row:List D)(at':Int)(kvs:List (Key×D))(z:Str)(x5 x6 x7:Option U):SS:=[AAA d,AAA (.tup row),AAC at',some (.b (.dct kvs)),AAA (.str z),x5,x6,x7]
def h0:hs0 f g [AAA (.tup (.str z::r)),AAA (.tup row),AAC at',some (.b (.dct kvs)),none,none,none,none]=some (.nx (hS (.tup (.str z::r)) row at' kvs z none none none)):=by simp[-bH,bh,hs0,jN]
def k1(h:inD (.str z) (YN.map D.str)=false):hs1 f g h_=some (.nx h_):=by
 have i:=tK z;rw[h]at i;simp[hs1,i]
def k2(h:¬z="now"):hs2 f g h_=some (.nx h_):=by simp[hs2,h]
def k3(h:¬z="not"):Oi f g h_=some (.nx h_):=by simp[Oi,h]
def k4(h:inD (.str z) (BE.map D.str)=false):LY f g h_=some (.nx h_):=by
 have i:=De z;rw[h]at i;simp[LY,i]
def k5(h:¬z="next"):SD f g h_=some (.nx h_):=by simp[SD,h]
def k6(h:¬z="till"):Xh f g h_=some (.nx h_):=by simp[Xh,h]
def k7(h:¬z="within"):Xi f g h_=some (.nx h_):=by simp[Xi,h]
noncomputable def AS:BBB:=["always","some"]
def NQ(z:Str):D8 [.str z,.tup [.str "always",.str "some"]]=AAA (.bl (inD (.str z) (AS.map D.str))):=uV (.str z) AS
def k8(h:inD (.str z) (AS.map D.str)=false):Xj f g h_=some (.nx h_):=by
 have i:=NQ z;rw[h]at i;simp[Xj,i]
end
def tL(g:FM)(p:D)(row:List D)(kvs:List (Key×D)):Prop:=∀a:Nat,a<=row.length->∃b,g [.t p,.t (.tup row),.t (.int (a:Nat)),.b (.dct kvs)]=some (.t (.bl b),[.dct kvs])
def Fin(d:D)(row:List D)(at':Int)(kvs:List (Key×D))(o:Option Out):Prop:=∃b rest,o=some (.rt (.t (.bl b)) (AAA d::AAA (.tup row)::AAC at'::some (.b (.dct kvs))::rest))
def Fin.run{f g:FM}{d:D}{row:List D}{at':Int}(h:Fin d row at' kvs (cS f g [AAA d,AAA (.tup row),AAC at',some (.b (.dct kvs)),none,none,none,none])):
  ∃b,bf 8 (cS f g) [.t d,.t (.tup row),.t (.int at'),.b (.dct kvs)]=some (.t (.bl b),[.dct kvs]):=by
 obtain⟨b,rest,e⟩:=h;refine⟨b,?_⟩;show((cS f g [AAA d,AAA (.tup row),AAC at',some (.b (.dct kvs)),none,none,none,none]).bind _)=_;rw[e];simp
def rY{g h:GS}{S1:SS}{u:U}(e:g S=some (.rt u S1)):aP g h S=some (.rt u S1):=by
 show(g S).bind _=_;rw[e];rfl
def GL{l:List D}{d:D}(h:l[a]? =some d):dZ l (a:Int)=some d:=Sq.MY a_ (by simpa using h)
theorem Dg{cap:BBJ}{g:GD}{S:SS}:∀(ds acc:List D),(∀d∈ds,∀acc,∃b,bK cap bB g [d] S acc=some (acc++[.bl b],S))->∃bl:List Bool,bK cap bB g ds S acc=some (acc++bl.map D.bl,S)
 |[],acc,_=>⟨[],by simp[bK]⟩
 |d::ds,acc,h=>by
  obtain⟨b,e⟩:=h d aaT acc;obtain⟨bl,e2⟩:=Dg ds (acc++[.bl b]) λx hx=>h x (aaR _ hx);refine⟨b::bl,?_⟩;rw[Sq.lg,e,aaN];show bK cap bB g ds S _=_;rw[e2];simp
theorem lB:∀bl:List Bool,g7 (bl.map D.bl)=some bl
 |[]=>rfl
 |b::bl=>by show(g7 (bl.map D.bl)).map _=_;rw[lB bl];rfl
def GO{d:D}(h:d∈pH (a:Int) ((n:Int)-a).toNat):∃s:Nat,d= .int (s:Nat)/\a<=s/\s<n:=by
 unfold pH at h;obtain⟨i,hi,rfl⟩:=aa2.mp h;have:=abY.mp hi;exact⟨a+i,by push_cast;rfl,by lia,by lia⟩
section
variable {f g:FM}{row:List D}{a:Nat}{kvs:List (Key×D)}{p q:D}{z:Str}
def VO(hz:z="yes"\/z="no"):Fin (.tup [.str z]) row a kvs (hs1 f g (hS (.tup [.str z]) row a kvs z none none none)):=by
 have i:=tK z;have h1:inD (.str z) (YN.map D.str)=true:=by rcases hz with rfl|rfl<;>decide
 rw[h1]at i;exact⟨z == "yes",_,by simp[hs1,i];rfl⟩
def Z9(ht:Ts bs p)(hk:Kn bs kvs)(hr:∀h∈row,∃x,h=qH x):Fin (.tup [.str "now",p]) row a kvs (hs2 xy g (hS (.tup [.str "now",p]) row a kvs "now" none none none)):=by
 have a1:dZ [D.str "now",p] 1=some p:=rfl;by_cases h:a<row.length
 .obtain⟨hd,e⟩:∃hd,row[a]? =some hd:=⟨row[a],aaS h⟩
  obtain⟨x,rfl⟩:=hr hd (abU e);obtain⟨b,e2⟩:=Z8 (p:=x) ht hk;have e3:=GL e;have h':(a:Int)<row.length:=by lia
  exact⟨b,_,by simp[hs2,a1,e3,e2,h',FZ];rfl⟩
 .have h':¬(a:Int)<row.length:=by lia
  exact⟨false,_,by simp[hs2,h',FZ];rfl⟩
def aaa(h:tL g p row kvs)(ha:a<=row.length):Fin (.tup [.str "not",p]) row a kvs (Oi f g (hS (.tup [.str "not",p]) row a kvs "not" none none none)):=by
 have a1:dZ [D.str "not",p] 1=some p:=rfl;obtain⟨b,e⟩:=h a ha;exact⟨!b,_,by simp[Oi,a1,e];rfl⟩
def VP(h:tL g p row kvs):Fin (.tup [.str "next",p]) row a kvs (SD f g (hS (.tup [.str "next",p]) row a kvs "next" none none none)):=by
 have a1:dZ [D.str "next",p] 1=some p:=rfl;by_cases h1:a<row.length
 .obtain⟨b,e⟩:=h (a+1) a_;have h':(a:Int)<row.length:=by lia
  have e:g [.t p,.t (.tup row),.t (.int ((a:Int)+1)),.b (.dct kvs)]=some (.t (.bl b),[.dct kvs]):=e;exact⟨b,_,by simp[SD,a1,e,h',FZ];rfl⟩
 .have h':¬(a:Int)<row.length:=by lia
  exact⟨false,_,by simp[SD,h',FZ];rfl⟩
def aab{b c:Bool}(hz:z="both"\/z="either")(e1:g [.t p,.t (.tup row),.t (.int (a:Nat)),.b (.dct kvs)]=some (.t (.bl b),[.dct kvs]))(e2:g [.t q,.t (.tup row),.t (.int (a:Nat)),.b (.dct kvs)]=some (.t (.bl c),[.dct kvs])):
  LY f g (hS (.tup [.str z,p,q]) row a kvs z none none none)=some (.rt (.t (.bl (if(z == ("both":Str)) then b && c else b || c))) (hS (.tup [.str z,p,q]) row a kvs z (AAB [.bl b,.bl c]) none none)):=by
 have i:=De z;have hi:inD (.str z) (BE.map D.str)=true:=by rcases hz with rfl|rfl<;>decide
 rw[hi]at i;have e:bK [2,3,1] bB (eF (bq g (aW (eF (au 0)) (aW (eF (au 3)) (aW j_ (cG (au 2) bQ)))))) [p,q] (hS (.tup [.str z,p,q]) row a kvs z none none none) []=some ([.bl b,.bl c],hS (.tup [.str z,p,q]) row a kvs z none none none):=by
  simp[bK,dz,oh,bB,e1,e2]
 have ec:L2.cutD [D.str z,p,q] (some 1) none=[p,q]:=rfl;have m:¬(("either":Str)="both"):=by decide
 have hb:g7 [.bl b,.bl c]=some [b,c]:=rfl;rcases hz with rfl|rfl
 .simp[-bH,bh,LY,i,cQ,ec,e,hb,jD]
 .simp[-bH,bh,LY,i,cQ,ec,e,hb,jD,m]
def aac(hz:z="both"\/z="either")(h1:tL g p row kvs)(h2:tL g q row kvs)(ha:a<=row.length):Fin (.tup [.str z,p,q]) row a kvs (LY f g (hS (.tup [.str z,p,q]) row a kvs z none none none)):=by
 obtain⟨b,e1⟩:=h1 a ha;obtain⟨c,e2⟩:=h2 a ha;exact⟨_,[_,_,_,_],aab hz e1 e2⟩
def GP(ha:a<=row.length)(hr:row.length<=1000){S:SS}{y5 y6 y7:Option U}{d:D}:xg (ah (eF (au 2)) (ah (nq 1) aB)) (hS d row a kvs z y5 y6 y7)=some (pH (a:Int) ((row.length:Int)-a).toNat,hS d row a kvs z y5 y6 y7):=by
 have h1:(a:Int)<1000000:=by lia
 have h2:(-1000000:Int)<a:=by lia
 have h3:(row.length:Int)<1000000:=by lia
 have h4:(-1000000:Int)<row.length:=by lia
 have e:ah (eF (au 2)) (ah (nq 1) aB) (hS d row a kvs z y5 y6 y7)=some ([.int (a:Int),.int (row.length:Int)],hS d row a kvs z y5 y6 y7):=by simp
 rw[HA,e,aaN];exact if_pos ⟨h1,h2,h3,h4⟩
def asG(g:FM):GD:=eF (bq g (aW (b9 3 f_) (aW (eF (au 2)) (aW (eF (au 0)) (cG (au 1) bQ)))))
def VQ{s:Nat}{b:Bool}(e:g [.t p,.t (.tup row),.t (.int (s:Nat)),.b (.dct kvs)]=some (.t (.bl b),[.dct kvs])):bK [3,1,0] bB (asG g) [.int (s:Nat)] (hS (.tup [.str z,p]) row a kvs z none none none) acc=some (acc++[.bl b],hS (.tup [.str z,p]) row a kvs z none none none):=by
 have a1:dZ [D.str z,p] 1=some p:=rfl;simp[bK,dz,oh,bB,asG,a1,e]
def VR(h1:tL g p row kvs):∃bl:List Bool,bK [3,1,0] bB (asG g) (pH (a:Int) ((row.length:Int)-a).toNat) (hS (.tup [.str z,p]) row a kvs z none none none) []=some (bl.map D.bl,hS (.tup [.str z,p]) row a kvs z none none none):=by
 obtain⟨bl,e⟩:=Dg (cap:=[3,1,0]) (g:=asG g) (S:=hS (.tup [.str z,p]) row a kvs z none none none) (pH (a:Int) ((row.length:Int)-a).toNat) [] (λd hd acc=>by
  obtain⟨s,rfl,s0,s1⟩:=GO hd;obtain⟨b,e⟩:=h1 s a_;exact⟨b,VQ e⟩)
 exact⟨bl,e⟩
def Aj{cap:BBJ}(er:gi S=some (R,S))(el:R.length<=100000)(e:bK cap bB G R S []=some (o,S)):cM cap gi bB G S=some (.m (.lst o),S):=by
 simp[er,el,e]
def QI(ha:a<=row.length)(hr:row.length<=1000):(pH (a:Int) ((row.length:Int)-a).toNat).length<=100000:=by
 unfold pH;rw[aar,abW];lia
def VS(hz:z="always"\/z="some")(ec:cM [3,1,0] gi bB G (hS (.tup [.str z,p]) row a kvs z none none none)=some (.m (.lst (bl.map D.bl)),hS (.tup [.str z,p]) row a kvs z none none none)):
  Fin (.tup [.str z,p]) row a kvs (ju (qB (eF (eP D8 (ah (eF (au 4)) (ah (eF (eP fT (ah (eC (.str "always")) (ah (eC (.str "some")) aB)))) aB))))) (aP (cD 5 (cM [3,1,0] gi bB G)) (bU (Oe (qB (eF (eP kg (ah (eF (au 4)) (ah (eC (.str "always")) aB))))) (eT (nA y9 5)) (eT (nA xN 5))))) dg (hS (.tup [.str z,p]) row a kvs z none none none)):=by
 have i:=NQ z;have hi:inD (.str z) (AS.map D.str)=true:=by rcases hz with rfl|rfl<;>decide
 rw[hi]at i;have n:¬(("some":Str)="always"):=by decide
 rcases hz with rfl|rfl
 .exact⟨bl.all id,[AAA (.str "always"),AAB (bl.map D.bl),none,none],by simp[-bH,bh,-uR,i,ec,lB,jD]⟩
 .exact⟨bl.any id,[AAA (.str "some"),AAB (bl.map D.bl),none,none],by simp[-bH,bh,-uR,i,ec,lB,jD,n]⟩
def aad(hz:z="always"\/z="some")(h1:tL g p row kvs)(ha:a<=row.length)(hr:row.length<=1000):Fin (.tup [.str z,p]) row a kvs (Xj f g (hS (.tup [.str z,p]) row a kvs z none none none)):=by
 obtain⟨bl,e⟩:=VR (z:=z) (a:=a) h1;exact VS hz (Aj (GP (S:=[]) ha hr) (QI ha hr) e)
end
def QJ{m:Int}{d:D}(h:d∈pH (a:Int) (m-a).toNat):∃s:Nat,d= .int (s:Nat)/\a<=s/\(s:Int)<m:=by
 unfold pH at h;obtain⟨i,hi,rfl⟩:=aa2.mp h;have:=abY.mp hi;exact⟨a+i,by push_cast;rfl,by lia,by lia⟩
def QK{gA:GA}{i j:Int}(e:gA S=some ([.int i,.int j],S))(h1:i<1000000)(h2:-1000000<i)(h3:j<1000000)(h4:-1000000<j):xg gA S=some (pH i (j-i).toNat,S):=by
 rw[HA,e,aaN];exact if_pos ⟨h1,h2,h3,h4⟩
section
variable {f g:FM}{row:List D}{a:Nat}{kvs:List (Key×D)}{p q:D}{z:Str}
def wiG(g:FM):GD:=eF (bq g (aW (b9 3 (eC (.int 2))) (aW (eF (au 2)) (aW (eF (au 0)) (cG (au 1) bQ)))))
def VT{s:Nat}{b:Bool}{k:D}(e:g [.t p,.t (.tup row),.t (.int (s:Nat)),.b (.dct kvs)]=some (.t (.bl b),[.dct kvs])):bK [3,1,0] bB (wiG g) [.int (s:Nat)] (hS (.tup [.str z,k,p]) row a kvs z none none none) acc=some (acc++[.bl b],hS (.tup [.str z,k,p]) row a kvs z none none none):=by
 have a1:dZ [D.str z,k,p] 2=some p:=rfl;simp[bK,dz,oh,bB,wiG,a1,e]
def VU{k:D}(ec:cM [3,1,0] gi bB G (hS (.tup [.str "within",k,p]) row a kvs "within" none none none)=some (.m (.lst (bl.map D.bl)),hS (.tup [.str "within",k,p]) row a kvs "within" none none none)):
  Fin (.tup [.str "within",k,p]) row a kvs (ju (qB (eF (eP kg (ah (eF (au 4)) (ah (eC (.str "within")) aB))))) (bU (eP xN (ah (eF (cM [3,1,0] gi bB G)) aB))) dg (hS (.tup [.str "within",k,p]) row a kvs "within" none none none)):=
 ⟨bl.any id,[AAA (.str "within"),none,none,none],by simp[-uR,ec,lB]⟩
def aep{k:Int}(k0:0<=k)(k5:k<=5)(h1:tL g p row kvs)(ha:a<=row.length)(hr:row.length<=1000):Fin (.tup [.str "within",.int k,p]) row a kvs (Xi f g (hS (.tup [.str "within",.int k,p]) row a kvs "within" none none none)):=by
 have a1:dZ [D.str "within",.int k,p] 1=some (.int k):=rfl;have em:ah (eF (au 2)) (ah (eF (eP Bv (ah (eF (eP gU (ah (eF (au 2)) (ah (b9 0 f_) aB)))) (ah (nq 1) aB)))) aB) (hS (.tup [.str "within",.int k,p]) row a kvs "within" none none none)=some ([.int (a:Int),.int (if(row.length:Int)<a+k then row.length else a+k)],hS (.tup [.str "within",.int k,p]) row a kvs "within" none none none):=by
  simp[a1]
 have hm:(if(row.length:Int)<a+k then(row.length:Int) else a+k)<=row.length/\(0:Int)<=(if(row.length:Int)<a+k then(row.length:Int) else a+k):=by split<;>lia
 generalize (if(row.length:Int)<a+k then(row.length:Int) else a+k)=m at em hm;have er:=QK em a_ a_ a_ a_;obtain⟨bl,e⟩:=Dg (cap:=[3,1,0]) (g:=wiG g) (S:=hS (.tup [.str "within",.int k,p]) row a kvs "within" none none none) (pH (a:Int) (m-a).toNat) [] (λd hd acc=>by
  obtain⟨s,rfl,s0,s1⟩:=QJ hd;obtain⟨b,e⟩:=h1 s a_;exact⟨b,VT e⟩)
 have el:(pH (a:Int) (m-a).toNat).length<=100000:=by unfold pH;rw[aar,abW];lia
 exact VU (Aj er el e)
theorem Io(h1:tL g p row kvs)(h2:tL g q row kvs):∀(ds:List D)(x6:Option U),(∀d∈ds,∃s:Nat,d= .int (s:Nat)/\s<=row.length)->jE x6=false->
  ∃y6,(∃b,loop (bName 6) (cK f g) ds (hS (.tup [.str z,p,q]) row a kvs z none x6 none)=some (.rt (.t (.bl b)) (hS (.tup [.str z,p,q]) row a kvs z none y6 none)))\/loop (bName 6) (cK f g) ds (hS (.tup [.str z,p,q]) row a kvs z none x6 none)=some (.nx (hS (.tup [.str z,p,q]) row a kvs z none y6 none))
 |[],x6,_,_=>⟨x6,.inr rfl⟩
 |d::ds,x6,hd,h6=>by
  obtain⟨s,rfl,s1⟩:=hd d aaT;obtain⟨b2,e2⟩:=h2 s s1;obtain⟨b1,e1⟩:=h1 s s1;have a1:dZ [D.str z,p,q] 1=some p:=rfl;have a2:dZ [D.str z,p,q] 2=some q:=rfl;have eb:bName 6 (.int (s:Nat)) (hS (.tup [.str z,p,q]) row a kvs z none x6 none)=some (hS (.tup [.str z,p,q]) row a kvs z none (AAC (s:Nat)) none):=by simp[-bH,bh,h6]
  cases b2 with
  |true=>
   have tn:cK f g (hS (.tup [.str z,p,q]) row a kvs z none (AAC (s:Nat)) none)=some (.rt (.t (.bl true)) (hS (.tup [.str z,p,q]) row a kvs z none (AAC (s:Nat)) none)):=by simp[cK,a2,e2]
   exact⟨_,.inl ⟨true,by rw[gP,eb,aaN,tn];rfl⟩⟩
  |false=>
   cases b1 with
   |false=>
    have tn:cK f g (hS (.tup [.str z,p,q]) row a kvs z none (AAC (s:Nat)) none)=some (.rt (.t (.bl false)) (hS (.tup [.str z,p,q]) row a kvs z none (AAC (s:Nat)) none)):=by simp[cK,a1,a2,e1,e2]
    exact⟨_,.inl ⟨false,by rw[gP,eb,aaN,tn];rfl⟩⟩
   |true=>
    have tn:cK f g (hS (.tup [.str z,p,q]) row a kvs z none (AAC (s:Nat)) none)=some (.nx (hS (.tup [.str z,p,q]) row a kvs z none (AAC (s:Nat)) none)):=by simp[cK,a1,a2,e1,e2]
    obtain⟨y6,o⟩:=Io h1 h2 ds (AAC (s:Nat)) (λx hx=>hd x (aaR _ hx)) rfl;refine⟨y6,?_⟩;rw[gP,eb,aaN,tn];exact o
def VW{w:GS}(er:gi (hS (.tup [.str "till",p,q]) row a kvs "till" none none none)=some (R,hS (.tup [.str "till",p,q]) row a kvs "till" none none none))
  (o:∃y6,(∃b,loop (bName 6) w R (hS (.tup [.str "till",p,q]) row a kvs "till" none none none)=some (.rt (.t (.bl b)) (hS (.tup [.str "till",p,q]) row a kvs "till" none y6 none)))\/loop (bName 6) w R (hS (.tup [.str "till",p,q]) row a kvs "till" none none none)=some (.nx (hS (.tup [.str "till",p,q]) row a kvs "till" none y6 none))):
  Fin (.tup [.str "till",p,q]) row a kvs (ju (qB (eF (eP kg (ah (eF (au 4)) (ah (eC (.str "till")) aB))))) (aP (kQ (bName 6) gi w) (bU (eT (eC (.bl false))))) dg (hS (.tup [.str "till",p,q]) row a kvs "till" none none none)):=by
 obtain⟨y6,⟨b,e⟩|e⟩:=o
 .exact⟨b,[AAA (.str "till"),none,y6,none],by simp[er,e]⟩
 .exact⟨false,[AAA (.str "till"),none,y6,none],by simp[er,e]⟩
def aer(h1:tL g p row kvs)(h2:tL g q row kvs)(ha:a<=row.length)(hr:row.length<=1000):Fin (.tup [.str "till",p,q]) row a kvs (Xh f g (hS (.tup [.str "till",p,q]) row a kvs "till" none none none)):=
 VW (GP (S:=[]) ha hr) (Io h1 h2 _ none (λd hd=>by obtain⟨s,e,_,s1⟩:=GO hd;exact⟨s,e,by lia⟩) rfl)
theorem Dh{nm y:Str}(hr:∀h∈row,∃x,h=qH x)(hk:kvs.length<1000)(h1:∀v:Int,tL g p row (putD kvs (.inr y) (.int v))):∀(ds:List D)(bl:List Bool)(x6 x7:Option U),(∀d∈ds,∃s:Nat,d= .int (s:Nat)/\s<row.length)->bl.length+ds.length<=1000->jE x6=false->jE x7=false->
  ∃VX y6 y7,loop (bName 6) (d8 f g) ds (hS (.tup [.str z,.str nm,.str y,p]) row a kvs z (AAB (bl.map D.bl)) x6 x7)=some (.nx (hS (.tup [.str z,.str nm,.str y,p]) row a kvs z (AAB (List.map D.bl VX)) y6 y7))
 |[],bl,x6,x7,_,_,_,_=>⟨bl,x6,x7,rfl⟩
 |d::ds,bl,x6,x7,hd,hn,h6,h7=>by
  have hn:bl.length+(ds.length+1)<=1000:=hn;obtain⟨s,rfl,s1⟩:=hd d aaT;obtain⟨hh,e⟩:∃hh,row[s]? =some hh:=⟨row[s],aaS s1⟩
  obtain⟨⟨x,v⟩,rfl⟩:=hr hh (abU e);have e3:=GL e;have c0:dZ [D.str x,.int v] 0=some (.str x):=rfl;have c1:dZ [D.str x,.int v] 1=some (.int v):=rfl;have b1:dZ [D.str z,.str nm,.str y,p] 1=some (.str nm):=rfl;have b2:dZ [D.str z,.str nm,.str y,p] 2=some (.str y):=rfl;have b3:dZ [D.str z,.str nm,.str y,p] 3=some p:=rfl;have eb:bName 6 (.int (s:Nat)) (hS (.tup [.str z,.str nm,.str y,p]) row a kvs z (AAB (bl.map D.bl)) x6 x7)=some (hS (.tup [.str z,.str nm,.str y,p]) row a kvs z (AAB (bl.map D.bl)) (AAC (s:Nat)) x7):=by simp[-bH,bh,h6]
  obtain⟨b,e1⟩:=h1 v s a_;have hk':kvs.length<100000:=by lia
  have hl':bl.length<100000:=by lia
  by_cases c:x=nm
  .subst c;have tn:d8 f g (hS (.tup [.str z,.str x,.str y,p]) row a kvs z (AAB (bl.map D.bl)) (AAC (s:Nat)) x7)=some (.nx (hS (.tup [.str z,.str x,.str y,p]) row a kvs z (AAB ((bl++[b]).map D.bl)) (AAC (s:Nat)) (some (.m (.dct (putD kvs (.inr y) (.int v))))))):=by
    simp[-bH,bh,d8,e3,qH,c0,c1,b1,b2,b3,h7,zx,keyOf,vR,hk',vP,e1,hl',hAppend]
   obtain⟨VX,y6,y7,o⟩:=Dh hr hk h1 ds (bl++[b]) (AAC (s:Nat)) (some (.m (.dct (putD kvs (.inr y) (.int v))))) (λx hx=>hd x (aaR _ hx)) (by rw[aaW,acX];lia) rfl rfl;refine⟨VX,y6,y7,?_⟩;rw[gP,eb,aaN,tn];exact o
  .have tn:d8 f g (hS (.tup [.str z,.str nm,.str y,p]) row a kvs z (AAB (bl.map D.bl)) (AAC (s:Nat)) x7)=some (.nx (hS (.tup [.str z,.str nm,.str y,p]) row a kvs z (AAB (bl.map D.bl)) (AAC (s:Nat)) x7)):=by
    simp[d8,e3,qH,c0,c1,b1,c]
   obtain⟨VX,y6,y7,o⟩:=Dh hr hk h1 ds bl (AAC (s:Nat)) x7 (λx hx=>hd x (aaR _ hx)) a_ rfl h7;refine⟨VX,y6,y7,?_⟩;rw[gP,eb,aaN,tn];exact o
def VY{w:GS}{nm y:Str}(hz:z="each"\/z="one")(er:gi (hS (.tup [.str z,.str nm,.str y,p]) row a kvs z (AAB []) none none)=some (R,hS (.tup [.str z,.str nm,.str y,p]) row a kvs z (AAB []) none none))
  (o:∃VX y6 y7,loop (bName 6) w R (hS (.tup [.str z,.str nm,.str y,p]) row a kvs z (AAB []) none none)=some (.nx (hS (.tup [.str z,.str nm,.str y,p]) row a kvs z (AAB (List.map D.bl VX)) y6 y7))):
  Fin (.tup [.str z,.str nm,.str y,p]) row a kvs (aP (cD 5 (eP eB aB)) (aP (kQ (bName 6) gi w) (bU (Oe (qB (eF (eP kg (ah (eF (au 4)) (ah (eC (.str "each")) aB))))) (eT (nA y9 5)) (eT (nA xN 5))))) (hS (.tup [.str z,.str nm,.str y,p]) row a kvs z none none none)):=by
 obtain⟨bl,y6,y7,e⟩:=o;have n:¬(("one":Str)="each"):=by decide
 rcases hz with rfl|rfl
 .exact⟨bl.all id,[AAA (.str "each"),AAB (bl.map D.bl),y6,y7],by simp[-bH,bh,er,e,lB,jD]⟩
 .exact⟨bl.any id,[AAA (.str "one"),AAB (bl.map D.bl),y6,y7],by simp[-bH,bh,er,e,lB,jD,n]⟩
def aes{nm y:Str}(hz:z="each"\/z="one")(hr:∀h∈row,∃x,h=qH x)(hk:kvs.length<1000)(h1:∀v:Int,tL g p row (putD kvs (.inr y) (.int v)))(ha:a<=row.length)(hl:row.length<=900):
  Fin (.tup [.str z,.str nm,.str y,p]) row a kvs (aP (hs9 f g) (aP (QG f g) (QH f g)) (hS (.tup [.str z,.str nm,.str y,p]) row a kvs z none none none)):=
 VY hz (GP (S:=[]) ha a_) (Dh hr hk h1 _ [] none none (λd hd=>by obtain⟨s,e,_,s1⟩:=GO hd;exact⟨s,e,s1⟩) (by unfold pH;rw[aar,abW];show 0+_<=1000;lia) rfl rfl)
end
def AU{κ:Type}[DecidableEq κ](kvs:List (κ×D))(k:κ)(v:D):bW (putD kvs k v) k=some v:=by
 unfold putD;split
 .rename_i h
  induction kvs with
  |nil=>simp at h
  |cons p ps ih=>
   by_cases e:p.1=k
   .simp[bW,ab0,e]
   .have h':(ps.any λkv=>decide (kv.1=k))=true:=by simpa[acM,e] using h
    have:=ih h'
    simpa[bW,ab0,e] using this
 .rename_i h
  induction kvs with
  |nil=>simp[bW]
  |cons p ps ih=>
   have e:¬p.1=k:=λq=>h (by simp[acM,q]);have h':¬(ps.any λkv=>decide (kv.1=k))=true:=λq=>h (by simp[acM,q]);have:=ih h'
   simpa[bW,ab0,e] using this
def EZ{κ:Type}[DecidableEq κ](kvs:List (κ×D)){k k':κ}(v:D)(hn:k'≠k):bW (putD kvs k v) k'=bW kvs k':=by
 unfold putD;split
 .rename_i h;clear h
  induction kvs with
  |nil=>rfl
  |cons p ps ih=>
   by_cases e:p.1=k
   .have:¬p.1=k':=λq=>hn (q.symm.trans e);have e2:¬k=k':=λq=>hn q.symm
    simpa[bW,ab0,e,e2] using ih
   .by_cases e2:p.1=k'
    .simp[bW,ab0,e,e2,hn]
    .simpa[bW,ab0,e,e2] using ih
 .have e2:¬k=k':=λq=>hn q.symm;simp[bW,List.find?_append,e2]
def NR{k k':Key}{d:D}:bW (putD kvs k d) k'=if k'=k then some d else bW kvs k':=by
 split
 .rename_i h;rw[h];exact AU kvs k d
 .rename_i h;exact EZ kvs d h
def Kn.put(h:Kn bs kvs)(y:Str)(v:Int):Kn (bs++[y]) (putD kvs (.inr y) (.int v)):=by
 refine⟨λkv hkv=>?_,λx hx=>?_,?_⟩
 .unfold putD at hkv;split at hkv
  .obtain⟨kv',h',rfl⟩:=aa2.mp hkv;obtain⟨y',k',rfl⟩:=h.all kv' h';split
   .exact⟨y',v,rfl⟩
   .exact⟨y',k',rfl⟩
  .rcases abu.mp hkv with q|q
   .exact h.all kv q
   .rw[aaO.mp q];exact⟨y,v,rfl⟩
 .rw[NR];split
  .exact⟨v,rfl⟩
  .rename_i n;rcases abu.mp hx with q|q
   .exact h.has x q
   .exact absurd (by rw[aaO.mp q]) n
 .have:=h.len;rw[aaW,acX];unfold putD;split
  .rw[aar];lia
  .rw[aaW,acX];lia
theorem Ip{row:List D}(hr:∀h∈row,∃x,h=qH x)(hl:row.length<=900):∀(n:Nat)(bs:BBB)(d:D)(kvs:List (Key×D)),Sy n bs d->Kn bs kvs->bs.length+n<1000->tL (AF n) d row kvs
 |0,_,_,_,h,_,_=>by cases h
 |n+1,bs,d,kvs,h,hk,hn=>λa ha=>by
  have ih:=λp(hp:Sy n bs p)=>Ip hr hl n bs p kvs hp hk a_;refine Fin.run ?_;rw[hs_eq];cases h with
  |leaf hz=>
   rw[bu h0];obtain⟨b,rest,e⟩:=VO (f:=xy) (g:=AF n) (row:=row) (a:=a) (kvs:=kvs) hz;exact⟨b,rest,rY e⟩
  |now ht=>
   rw[bu h0,bu (k1 b_)];obtain⟨b,rest,e⟩:=Z9 (g:=AF n) (row:=row) (a:=a) ht hk hr;exact⟨b,rest,rY e⟩
  |@one _ _ z p hz hp=>
   rcases wA hz with rfl|rfl|rfl|rfl
   .rw[bu h0,bu (k1 b_),bu (k2 b_)];obtain⟨b,rest,e⟩:=aaa (f:=xy) (ih p hp) ha;exact⟨b,rest,rY e⟩
   .rw[bu h0,bu (k1 b_),bu (k2 b_),bu (k3 b_),bu (k4 b_)];obtain⟨b,rest,e⟩:=VP (f:=xy) (a:=a) (ih p hp);exact⟨b,rest,rY e⟩
   .rw[bu h0,bu (k1 b_),bu (k2 b_),bu (k3 b_),bu (k4 b_),bu (k5 b_),bu (k6 b_),bu (k7 b_)];obtain⟨b,rest,e⟩:=aad (f:=xy) (.inl rfl) (ih p hp) ha a_;exact⟨b,rest,rY e⟩
   .rw[bu h0,bu (k1 b_),bu (k2 b_),bu (k3 b_),bu (k4 b_),bu (k5 b_),bu (k6 b_),bu (k7 b_)];obtain⟨b,rest,e⟩:=aad (f:=xy) (.inr rfl) (ih p hp) ha a_;exact⟨b,rest,rY e⟩
  |@two _ _ z p q hz hp hq=>
   rcases wB hz with rfl|rfl|rfl
   .rw[bu h0,bu (k1 b_),bu (k2 b_),bu (k3 b_)];obtain⟨b,rest,e⟩:=aac (f:=xy) (.inl rfl) (ih p hp) (ih q hq) ha;exact⟨b,rest,rY e⟩
   .rw[bu h0,bu (k1 b_),bu (k2 b_),bu (k3 b_)];obtain⟨b,rest,e⟩:=aac (f:=xy) (.inr rfl) (ih p hp) (ih q hq) ha;exact⟨b,rest,rY e⟩
   .rw[bu h0,bu (k1 b_),bu (k2 b_),bu (k3 b_),bu (k4 b_),bu (k5 b_)];obtain⟨b,rest,e⟩:=aer (f:=xy) (ih p hp) (ih q hq) ha a_;exact⟨b,rest,rY e⟩
  |@Vu _ _ k p k0 k5 hp=>
   rw[bu h0,bu (k1 b_),bu (k2 b_),bu (k3 b_),bu (k4 b_),bu (T5.k5 b_),bu (k6 b_)];obtain⟨b,rest,e⟩:=aep (f:=xy) k0 k5 (ih p hp) ha a_;exact⟨b,rest,rY e⟩
  |@bnd _ _ z nm y p hz h1 h2 hp=>
   have it:∀v:Int,tL (AF n) p row (putD kvs (.inr y) (.int v)):=λv=>Ip hr hl n (bs++[y]) p _ hp (hk.put y v) (by rw[aaW,acX];lia);have kl:=hk.len;have fin:=aes (f:=xy) (g:=AF n) (nm:=nm) (a:=a) hz hr a_ it ha hl;rcases hz with rfl|rfl
   .rw[bu h0,bu (k1 b_),bu (k2 b_),bu (k3 b_),bu (k4 b_),bu (k5 b_),bu (k6 b_),bu (k7 b_),bu (k8 b_)];exact fin
   .rw[bu h0,bu (k1 b_),bu (k2 b_),bu (k3 b_),bu (k4 b_),bu (k5 b_),bu (k6 b_),bu (k7 b_),bu (k8 b_)];exact fin
def jy(aJ:FM):GS:=
 (bU (bq aJ (aW (eF (au 0)) (aW j_ (aW (eC (.int 0)) (cG Ef bQ))))))
def Di:FM:=bf 2 (jy (AF 9))
def VZ:∀us r,Di us=some r->bf 2 (jy (AF 9)) us=some r:=λ_ _ h=>h
structure Rw(d:D):Prop where
 ex:∃row:List D,d= .tup row/\row.length<=900/\∀h∈row,∃x,h=qH x
def fv(b row:D):Bool:=match Di [.t b,.t row] with
 |some (.t (.bl x),_)=>x
 |_=>false
def Sy.up{d:D}(h:Sy n bs d):∀{m:Nat},n<=m->Sy m bs d:=by
 induction h with
 |leaf h=>intro m hm;obtain⟨k,rfl⟩:∃k,m=k+1:=⟨m-1,by lia⟩;exact .leaf h
 |now h=>intro m hm;obtain⟨k,rfl⟩:∃k,m=k+1:=⟨m-1,by lia⟩;exact .now h
 |one hz _ ih=>intro m hm;obtain⟨k,rfl⟩:∃k,m=k+1:=⟨m-1,by lia⟩;exact .one hz (ih a_)
 |two hz _ _ i1 i2=>intro m hm;obtain⟨k,rfl⟩:∃k,m=k+1:=⟨m-1,by lia⟩;exact .two hz (i1 a_) (i2 a_)
 |Vu a b _ ih=>intro m hm;obtain⟨k,rfl⟩:∃k,m=k+1:=⟨m-1,by lia⟩;exact .Vu a b (ih a_)
 |bnd hz a b _ ih=>intro m hm;obtain⟨k,rfl⟩:∃k,m=k+1:=⟨m-1,by lia⟩;exact .bnd hz a b (ih a_)
def SE{b:D}(hb:Gd b)(hr:Rw row):Di [.t b,.t row]=some (.t (.bl (fv b row)),[]):=by
 obtain⟨_,⟨n,hn,hs⟩,_⟩:=hb;obtain⟨rw',rfl,hl,hh⟩:=hr.ex;obtain⟨x,e⟩:=Ip hh hl 9 [] b [] (Sy.up hs hn) ⟨λ_ h=>(by cases h),λ_ h=>(by cases h),aaP _⟩ b_ 0 (abK _);have e:AF 9 [.t b,.t (.tup rw'),.t (.int 0),.b (.dct [])]=some (.t (.bl x),[.dct []]):=e;have main:Di [.t b,.t (.tup rw')]=some (.t (.bl x),[]):=by
  simp[Di,bf,jy,Ef,e]
 have:fv b (.tup rw')=x:=by unfold fv;rw[main]
 rw[main,this]
def cR(aF:FM):GS:=
 (ju (qB (eF (eP y9 (ah (eF (ow [1] (LM (eF (au 2))) bB (eF (eP kg (ah (eF (bq aF (aW (eF (au 0)) (aW (eF (au 2)) bQ)))) (ah j_ aB)))))) aB)))) (bU (eT (eC (.bl true)))) dg)
def ia(aF:FM):GS:=
 (aP (kQ (bName 2) (iF (eF (au 0))) (cR aF))
 (bU (eT (eC (.bl false)))))
def QL:FM:=bf 3 (ia Di)
def V0:∀us r,QL us=some r->bf 3 (ia Di) us=some r:=λ_ _ h=>h
def qI(row:D)(l:Bu):Bool:=l.all λp=>fv p.1 row == p.2
def rZ(row:D)(x:List Bu):Bool:=x.any (qI row)
theorem BW{cap:BBJ}{g:GD}{t:D}{S:SS}(f:Tg->Bool)(hc:dz S cap=some [.t t]):∀(l:Bu)(acc:List D),
  (∀p∈l,g [AAA p.1,AAA (.bl p.2),AAA t]=some (.bl (f p),[AAA p.1,AAA (.bl p.2),AAA t]))->
  g8 cap bB g (l.map fh) S acc=some (acc++(l.map f).map D.bl,S)
 |[],acc,_=>by simp[g8]
 |p::l,acc,hq=>by
  have q0:=hq p aaT;have ih:=λacc=>BW (g:=g) f hc l acc λp hp=>hq p (aaR _ hp);rw[acd];show g8 cap bB g (.tup [p.1,.bl p.2]::l.map fh) S acc=_;simp[g8,hc,bB,q0,ih]
def QM{t:D}{l:Bu}(hl:QE l)(hn:l.length<=1000)(hr:Rw row):
  cR Di [AAA t,AAA row,AAA (u5 l)]=some (if qI row l then .rt (.t (.bl true)) [AAA t,AAA row,AAA (u5 l)] else .nx [AAA t,AAA row,AAA (u5 l)]):=by
 have e:=BW (cap:=[1]) (g:=eF (eP kg (ah (eF (bq Di (aW (eF (au 0)) (aW (eF (au 2)) bQ)))) (ah j_ aB)))) (t:=row) (S:=[AAA t,AAA row,AAA (u5 l)]) (λp=>fv p.1 row == p.2) rfl l [] (λp hp=>by
  have:=SE (hl p hp) hr;simp[this])
 have hb:=lB (l.map λp=>fv p.1 row == p.2);have ha:(l.map λp=>fv p.1 row == p.2).all id=qI row l:=by rw[agg];rfl
 rw[acy]at e;generalize (l.map λp=>fv p.1 row == p.2).map D.bl=Z at e hb;have hn':l.length<=100000:=by lia
 unfold u5 at e ⊢;cases h:qI row l<;>rw[h]at ha
 .simp[cR,ow,hn',e,hb,ha]
 .simp[cR,ow,hn',e,hb,ha]
theorem Iq{t row:D}(hr:Rw row):∀(x:List Bu)(x2:Option U),GR 900 x->jE x2=false->∃y2,loop (bName 2) (cR Di) (x.map u5) [AAA t,AAA row,x2]=some (if rZ row x then .rt (.t (.bl true)) [AAA t,AAA row,y2] else .nx [AAA t,AAA row,y2])
 |[],x2,_,_=>⟨x2,rfl⟩
 |l::x,x2,hx,h2=>by
  have tn:=QM (t:=t) (hx l aaT).1 (by have:=(hx l aaT).2;lia) hr;have eb:bName 2 (u5 l) [AAA t,AAA row,x2]=some [AAA t,AAA row,AAA (u5 l)]:=by simp[-bH,bh,h2]
  have hs:rZ row (l::x)=(qI row l || rZ row x):=rfl;cases h:qI row l
  .obtain⟨y2,e⟩:=Iq (t:=t) hr x (AAA (u5 l)) (λk hk=>hx k (aaR _ hk)) rfl;rw[h]at tn;refine⟨y2,?_⟩;rw[hs,h,agv,acd,gP,eb,aaN,tn];exact e
  .rw[h]at tn;refine⟨AAA (u5 l),?_⟩;rw[hs,h,Bool.true_or,acd,gP,eb,aaN,tn];rfl
def SG(hr:Rw row)(hx:GR 900 x):QL [.t (pS x),.t row]=some (.t (.bl (rZ row x)),[]):=by
 obtain⟨y2,e⟩:=Iq (t:=pS x) hr x none hx rfl;have e:loop (bName 2) (cR Di) (x.map u5) [AAA (.tup (x.map u5)),AAA row,none]=_:=e;cases h:rZ row x<;>rw[h]at e<;>simp[QL,bf,ia,cQ,pS]at e ⊢<;>simp[e]
def BX(h:yw x y=true)(hf:rZ row x=true):rZ row y=true:=by
 obtain⟨l,hl,e⟩:=abL.mp hf;have e:=acB.mp e;have hv:cB l=false:=by
  cases q:cB l with
  |false=>rfl
  |true=>
   obtain⟨b,h1,h2⟩:=fV.mp q;have e1:=e _ h1;have e2:=e _ h2;have e1:(fv b row == true)=true:=e1;have e2:(fv b row == false)=true:=e2;rw[eq_of_beq e1]at e2;cases e2
 obtain⟨k,hk,s⟩:=dP.mp h l hl hv;exact abL.mpr ⟨k,hk,acB.mpr λp hp=>e p (bO.mp s p hp)⟩
def lY:GS:=
 (kP (eT (eM 1 eY (ah (eF (cM [2] (ql (ah (eF (eP gU (ah (eF (au 3)) (ah f_ aB)))) aB)) bB (eF (eP fT (ah j_ (ah (eF (au 0)) aB)))))) aB))))
def tM:GS:=
 (aP (cD 1 (eP eB aB))
 (aP (kQ (F6 2 (sr (bName 2) (sr (bName 3) Jp))) (LM (eF (au 0))) (lY))
 (bU (au 1))))
def QN:FM:=bf 4 tM
def V1:∀us r,QN us=some r->bf 4 tM us=some r:=λ_ _ h=>h
def Dj{gA:GA}{j:Int}(e:gA S=some ([.int j],S))(h3:j<1000000)(h4:-1000000<j):ql gA S=some (pH 0 j.toNat,S):=by
 rw[Hz,e,aaN];exact if_pos ⟨h3,h4⟩
def V2{H:List D}{z m:D}(ec:cM [2] gi bB G [AAA td,AAB H,AAA z,AAA m]=some (.m (.lst o),[AAA td,AAB H,AAA z,AAA m]))(hH:H.length+o.length<1000):
  kP (eT (eM 1 eY (ah (eF (cM [2] gi bB G)) aB))) [AAA td,AAB H,AAA z,AAA m]=some (.nx [AAA td,AAB (H++o),AAA z,AAA m]):=by
 have h1:H.length+o.length<=100000:=by lia
 have h2:H.length<100000:=by lia
 simp[-uR,ec,eY,h1,h2]
def QO{H:AAJ}{z:Str}{m:Int}(m0:0<=m)(m2:m<=2)(hH:H.length<900):∃H',(H.length<H'.length/\H'.length<=H.length+3)/\lY [AAA td,AAB (H.map qH),AAA (.str z),AAC m]=some (.nx [AAA td,AAB (List.map qH H'),AAA (.str z),AAC m]):=by
 have er:=Dj (gA:=ah (eF (eP gU (ah (eF (au 3)) (ah f_ aB)))) aB) (S:=[AAA td,AAB (H.map qH),AAA (.str z),AAC m]) (j:=m+1) (by simp) a_ a_;have e:=iN (cap:=[2]) (g:=eF (eP fT (ah j_ (ah (eF (au 0)) aB)))) (S:=[AAA td,AAB (H.map qH),AAA (.str z),AAC m]) (ts:=[.str z]) rfl (λk=>.tup [.str z,k]) (pH 0 (m+1).toNat) [] (λd hd=>by simp);have eo:(pH 0 (m+1).toNat).map (λk=>D.tup [.str z,k])=((List.range (m+1).toNat).map λ(i:Nat)=>(z,(i:Int))).map qH:=by
  unfold pH;rw[abV,abV];refine ab2 λi _=>?_;show D.tup [.str z,.int (0+(i:Int))]= .tup [.str z,.int (i:Int)];rw[Int.zero_add]
 rw[acy,eo]at e;have hl:0<((List.range (m+1).toNat).map λ(i:Nat)=>(z,(i:Int))).length/\((List.range (m+1).toNat).map λ(i:Nat)=>(z,(i:Int))).length<=3:=by rw[aar,abW];lia
 have el:(pH 0 (m+1).toNat).length<=100000:=by unfold pH;rw[aar,abW];lia
 generalize ((List.range (m+1).toNat).map λ(i:Nat)=>(z,(i:Int)))=o at e hl;refine⟨H++o,by rw[aaW];lia,?_⟩;have:=V2 (Aj er el e) (by rw[aar,aar];lia);rw[ad8];exact this
theorem Ir{td:D}:∀(rows H:AAJ)(x2 x3:Option U),(∀p∈rows,0<=p.2/\p.2<=2)->H.length+3*rows.length<900->jE x2=false->jE x3=false->
  ∃H' y2 y3,(H.length+rows.length<=H'.length/\H'.length<=H.length+3*rows.length)/\loop (F6 2 (sr (bName 2) (sr (bName 3) Jp))) lY (rows.map kC) [AAA td,AAB (H.map qH),x2,x3]=some (.nx [AAA td,AAB (List.map qH H'),y2,y3])
 |[],H,x2,x3,_,_,_,_=>⟨H,x2,x3,⟨aaP _,by lia⟩,rfl⟩
 |(z,m)::rows,H,x2,x3,hp,hn,h2,h3=>by
  have hn:H.length+3*(rows.length+1)<900:=hn;obtain⟨H1,l1,tn⟩:=QO (td:=td) (z:=z) (hp (z,m) aaT).1 (hp (z,m) aaT).2 (show H.length<900 by lia);have eb:F6 2 (sr (bName 2) (sr (bName 3) Jp)) (kC (z,m)) [AAA td,AAB (H.map qH),x2,x3]=some [AAA td,AAB (H.map qH),AAA (.str z),AAC m]:=by simp[-bH,bh,h2,h3,kC]
  obtain⟨H',y2,y3,l2,o⟩:=Ir (td:=td) rows H1 (AAA (.str z)) (AAC m) (λp q=>hp p (aaR _ q)) a_ rfl rfl;refine⟨H',y2,y3,by rw[abD];lia,?_⟩;rw[acd,gP,eb,aaN,tn];exact o
def aae(h:Tn td):∃H:List (Str×Int),(H.length<=12/\∀ds,td= .tup ds->ds.length<=H.length)/\QN [.t td]=some (.m (.lst (H.map qH)),[]):=by
 obtain⟨rows,rfl,hl,hp⟩:=h;obtain⟨H,y2,y3,l,o⟩:=Ir (td:=.tup (rows.map kC)) rows [] none none hp (by show 0+_<900;lia) rfl rfl;have l:0+rows.length<=H.length/\H.length<=0+3*rows.length:=l;have o:loop (F6 2 (sr (bName 2) (sr (bName 3) Jp))) lY (rows.map kC) [AAA (.tup (rows.map kC)),AAB [],none,none]=_:=o;exact⟨H,⟨by lia,λds e=>by cases e;rw[aar];lia⟩,by simp[-bH,bh,QN,bf,tM,o]⟩
end T5
end
section
namespace Sd
open L2
def Kr(us:List U):rX 0 us=none:=rfl
end Sd
namespace T5
open L2 Sw Ss Sd Sp
def NS(us:List U):AF 0 us=none:=rfl
def NT(us:List U):KG 0 us=none:=rfl
def aet{d:D}(h:Sane d)(hw:wD d<=16000000)(hd:cJ d<=20):Pj d:=
 ⟨xr d h,by rw[depth_eq];exact hd,aaY (shown_le d h) (aaY hw b_)⟩
def V3{d:D}(h:Pj d):zo [d]=AAA (.str (toPy d).shown):=by show(if Pj d then some (U.t (.str (toPy d).shown)) else none)=_;rw[if_pos h]
end T5
end
section
namespace T6
open L2 Sw Ss Sd Sp T5
variable {C c:Addr}{n:Nat}{bs acc:List D}{kvs:List (D×D)}{x:List Bu}{k:Bu}{s3:Option U}
def rp(p:Tg):Str:=(toPy (fh p)).shown
def cZ(aC:Addr):GS:=
 (aP (cD 5 (eP yQ (ah (eF (eP MR (ah j_ aB))) (ah f_ aB))))
 (aP (kP (eT (eM 4 hAppend (ah (eF (eP fT (ah (U7 aC 0 "basics" 2 (eF (eP LI (ah (eF (au 5)) (ah (eC (.int 2)) aB))))) (ah (eF (eP kg (ah (eF (eP yR (ah (eF (au 5)) (ah (eC (.int 2)) aB)))) (ah (eC (.int 0)) aB)))) aB)))) aB))))
 (cD 1 (eP yQ (ah j_ (ah (eF (eP Gm (ah f_ (ah (eF (au 5)) aB)))) aB))))))
def iR(aC:Addr):GS:=
 (aP (cD 4 (eP eB aB))
 (aP (F8 100000 (qB (eF (eP Bt (ah j_ (ah (eC (.int 0)) aB))))) (cZ aC))
 (bU (eP sU (ah (eF (au 4)) aB)))))
def iS(xR:FM)(aC:Addr):GS:=
 (bU (eP sU (ah (eF (cM [0,2,3] (iF j_) bB (eF (dc aC "bunch_of" 1 xR (aW (eF (au 0)) bQ) [2,3])))) aB)))
def V4(C:Addr):FM:=bf 6 (iR C)
def V5(C:Addr):∀us r,V4 C us=some r->bf 6 (iR C) us=some r:=λ_ _ h=>h
abbrev bS(C c d:Addr)(n:Nat)(bs:List D)(kvs:List (D×D))(m:Nat)(acc:List D)(x:Option U):SS:=[some (.b (gW C c d n)),AAC (m:Nat),some (.b (.lat c bs)),some (.b (.gF d kvs)),AAB acc,x]
def nbn:¬("bunch_of":Str)="basics"/\¬("bunch_of":Str)="numbers"/\¬("bunch_of":Str)="trues":=by decide
def nsn:¬("stand_of":Str)="basics"/\¬("stand_of":Str)="numbers"/\¬("stand_of":Str)="trues":=by decide
def QS{d:Addr}{m:Nat}{x:Option U}(hm:m≠0)(hl:m.log2<2*bs.length)(hb:bs.length<10000)(ha:acc.length<90000)(hx:jE x=false):
  cZ C (bS C c d n bs kvs m acc x)=some (.nx (bS C c d n bs kvs (m-2 ^ m.log2) (acc++[fh (tg bs m.log2)]) (AAC (m.log2:Nat)))):=by
 have e0:(Builtin.Int.intBits (m:Nat):Nat)=m.log2+1:=by
  unfold Builtin.Int.intBits;rw[if_neg (by simpa using hm)];rfl
 have hi:m.log2 / 2<bs.length:=by lia
 have e1:dZ bs ((m.log2:Nat) / 2:Int)=some (bs.getD (m.log2 / 2) .cI):=OY (j:=m.log2 / 2) (by rw[abC,aaS hi];rfl);have le:=Nat.log2_self_le hm;generalize hk:m.log2=k at *;have e2:((k:Int) % 2 == 0)=decide (k % 2=0):=by rw[aec];simp;lia
 have e3:((m:Int)-2 ^ k)=((m-2 ^ k:Nat):Int):=by rw[Int.ofNat_sub le];simp
 have k1:(k:Int)<=100000:=by lia
 have ha':acc.length<100000:=by lia
 simp[-bH,bh,cZ,MR,e0,hx,U7,zO,Ae,AE,BK,e1,e2,Gm,xM,k1,e3,hAppend,ha',tg,fh]
def QT{d:Addr}(hb:bs.length<10000):∀(f e m:Nat)(acc:List D)(x:Option U),m<2 ^ f->f<=2*bs.length->acc.length+f<90000->jE x=false->
  ∃y,uG (qB (eF (eP Bt (ah j_ (ah (eC (.int 0)) aB))))) (cZ C) (f+1+e) (bS C c d n bs kvs m acc x)=some (.nx (bS C c d n bs kvs 0 (acc++(Ai bs f m).map fh) y)):=by
 have stop:∀(e:Nat)(acc:List D)(x:Option U),uG (qB (eF (eP Bt (ah j_ (ah (eC (.int 0)) aB))))) (cZ C) (e+1) (bS C c d n bs kvs 0 acc x)=some (.nx (bS C c d n bs kvs 0 acc x)):=λe acc x=>by simp[uG,Bt]
 intro f
 induction f with
 |zero=>
  intro e m acc x hm _ _ _;have:m=0:=by simpa using hm
  subst this;refine⟨x,?_⟩;rw[show 0+1+e=e+1 by lia,stop];simp[Ai]
 |succ f ih=>
  intro e m acc x hm hf ha hx;unfold Ai;by_cases h0:m=0
  .subst h0;refine⟨x,?_⟩;rw[show f+1+1+e=(f+1+e)+1 by lia,stop];simp
  .have lt:m.log2<f+1:=(ahc h0).mpr hm;have lm:m-2 ^ m.log2<2 ^ f:=by
    rw[Dc h0];exact aaU (agG _ (aha _)) (abN a_ a_)
   have tn:=QS (C:=C) (c:=c) (d:=d) (n:=n) (bs:=bs) (kvs:=kvs) (acc:=acc) (x:=x) h0 a_ hb a_ hx;obtain⟨y,e2⟩:=ih e (m-2 ^ m.log2) (acc++[fh (tg bs m.log2)]) (AAC (m.log2:Nat)) lm a_ (by rw[aaW];show acc.length+1+f<90000;lia) rfl;refine⟨y,?_⟩;rw[show f+1+1+e=(f+1+e)+1 by lia,if_neg h0];have q:qB (eF (eP Bt (ah j_ (ah (eC (.int 0)) aB)))) (bS C c d n bs kvs m acc x)=some (true,bS C c d n bs kvs m acc x):=by simp[Bt,h0]
   unfold uG;rw[q,aaN];show(cZ C _).bind _=_;rw[tn,aaN];show uG _ _ (f+1+e) _=_;rw[e2];simp
def aaf{d:Addr}{m:Nat}(hb:bs.length<10000)(hm:m<2 ^ (2*bs.length)):
  V4 C [.b (gW C c d n),.t (.int (m:Nat)),.b (.lat c bs),.b (.gF d kvs)]=some (.t (u5 (Il bs m)),[gW C c d n,.lat c bs,.gF d kvs]):=by
 obtain⟨y,e⟩:=QT (C:=C) (c:=c) (d:=d) (n:=n) (kvs:=kvs) hb (2*bs.length) (100000-1-2*bs.length) m [] none hm (aaP _) (by show 0+_<_;lia) rfl;rw[show 2*bs.length+1+(100000-1-2*bs.length)=100000 by lia]at e;have e:uG _ _ 100000 [some (.b (gW C c d n)),AAC (m:Nat),some (.b (.lat c bs)),some (.b (.gF d kvs)),AAB [],none]=_:=e;have hl:(Il bs m).length<=100000:=by
  have:∀f m,(Ai bs f m).length<=f:=λf=>by
   induction f with
   |zero=>exact λ_=>aaP _
   |succ f ih=>
    intro m;unfold Ai;split
    .exact abK _
    .exact afA (ih _)
  have:=this (2*bs.length) m;unfold Il;lia
 unfold Il at hl;simp[-bH,bh,V4,bf,iR,F8,e,u5,Il,hl]
def SH(C:Addr):FM:=bf 4 (iS (V4 C) C)
def V6(C:Addr):∀us r,SH C us=some r->bf 4 (iS (V4 C) C) us=some r:=λ_ _ h=>h
def Xk(C:Addr):GD:=eF (dc C "bunch_of" 1 (V4 C) (aW (eF (au 0)) bQ) [2,3])
def V7{d:Addr}{m:Nat}{t:D}(hb:bs.length<10000)(hm:m<2 ^ (2*bs.length)):
  bK [0,2,3] bB (Xk C) [.int (m:Nat)] [some (.b (gW C c d n)),AAA t,some (.b (.lat c bs)),some (.b (.gF d kvs))] acc
   = some (acc++[u5 (Il bs m)],[some (.b (gW C c d n)),AAA t,some (.b (.lat c bs)),some (.b (.gF d kvs))]):=by
 have e:=aaf (C:=C) (c:=c) (d:=d) (n:=n) (kvs:=kvs) hb hm;simp[bK,dz,oh,bB,Xk,dc,aej,AE,AD,pL,e,nbn]
theorem Iu{C c d:Addr}{n:Nat}{bs:List D}{kvs:List (D×D)}{t:D}(hb:bs.length<10000):∀(ks:BBJ)(acc:List D),(∀m∈ks,m<2 ^ (2*bs.length))->
  bK [0,2,3] bB (Xk C) (nats ks) [some (.b (gW C c d n)),AAA t,some (.b (.lat c bs)),some (.b (.gF d kvs))] acc
   = some (acc++(ks.map (Il bs)).map u5,[some (.b (gW C c d n)),AAA t,some (.b (.lat c bs)),some (.b (.gF d kvs))])
 |[],acc,_=>by simp[bK,nats]
 |m::ks,acc,h=>by
  show bK [0,2,3] bB (Xk C) (.int (m:Nat)::nats ks) _ _=_;rw[Sq.lg,V7 hb (h m aaT),aaN];show bK [0,2,3] bB (Xk C) (nats ks) _ _=_;rw[Iu hb ks _ λk hk=>h k (aaR _ hk)];simp
def aag{d:Addr}{ks:BBJ}(hb:bs.length<10000)(h:∀m∈ks,m<2 ^ (2*bs.length))(hk:ks.length<1000):
  SH C [.b (gW C c d n),.t (.lst (nats ks)),.b (.lat c bs),.b (.gF d kvs)]=some (.t (pS (ks.map (Il bs))),[gW C c d n,.lat c bs,.gF d kvs]):=by
 have e:=Iu (C:=C) (c:=c) (d:=d) (n:=n) (kvs:=kvs) (t:=.lst (nats ks)) hb ks [] h;unfold Xk at e;have h1:(nats ks).length<=100000:=by unfold nats;rw[aar];lia
 have h2:ks.length<=100000:=by lia
 simp[SH,bf,iS,k9,cQ,h1,h2,e,pS]
def V8{b:D}(h:bs.Nodup):(add bs b).Nodup:=by
 unfold add;split
 .exact h
 .rename_i n;exact af4.mpr ⟨h,ab7.mpr ⟨by simp,abZ⟩,λx hx y hy e=>n (by rw[aaO.mp hy]at e;exact e▸hx)⟩
def tN(bT:FM):GS:=
 (bU (eP (jM false) (ah (eF (cM [] (iF (eF (bq bT (aW (eF (au 0)) bQ)))) bB (eF (eP (jM true) (ah (eF (cM [] (iF (eF (au 0))) bB (eF (eP zo (ah (eF (au 0)) aB))))) aB))))) aB)))
def gG(cH:FM):GS:=
 (ju (qB (eF (eP Bt (ah (eF (cM [] (iF (eF (au 2))) (FY (kr (qB (Kw ["tuple"] (eF (au 0))))) (FY (qB (eF (eP Bt (ah (nq 0) (ah (eC (.int 2)) aB))))) (kr (qB (Kw ["bool"] (b9 0 f_)))))) f_)) (ah (eF (eP eB aB)) aB))))) (bU (eT (eC (.bl false)))) dg)
def it0(cH:FM):GS:=
 (ju (FY (kr (qB (Kw ["tuple"] (eF (au 0))))) (qB (eF (eP Bt (ah (eF (cM [] (iF (eF (au 0))) (kr (qB (Kw ["tuple"] (eF (au 0))))) f_)) (ah (eF (eP eB aB)) aB)))))) (bU (eT (eC (.bl false)))) dg)
def it1(cH:FM):GS:=
 (kQ (bName 2) (iF (eF (au 0))) (gG cH))
def it2(cH:FM):GS:=
 (cD 3 (cM [] (iF (eF (au 0))) bB (eF (eP (jM true) (ah (eF (cM [] (iF (eF (au 0))) bB (eF (eP zo (ah (eF (au 0)) aB))))) aB)))))
def it3(cH:FM):GS:=
 (bU (eP kg (ah (eF (eP (jM false) (ah (eF (au 3)) aB))) (ah (eF (bq cH (aW j_ bQ))) aB))))
def ie(cH:FM):GS:=aP (it0 cH) (aP (it1 cH) (aP (it2 cH) (it3 cH)))
def it_eq(cH:FM):ie cH=aP (it0 cH) (aP (it1 cH) (aP (it2 cH) (it3 cH))):=rfl
def tR(r:List Bu):List Bu:=(kY (r.map List.length)).map λi=>r.getD i []
def QU(r:List Bu):oB (r.map List.length) (r.map cu)=(tR r).map cu:=by
 have p:=iO (r.map List.length);rw[aar]at p;unfold oB tR;rw[abV];refine ab2 λi hi=>?_;have hi:i<r.length:=abY.mp (p.mem_iff.mp hi);show(r.map cu).getD i .cI=cu (r.getD i []);simp[hi]
def nK(r:List Bu):(tR r).Perm r:=by
 have q:=(iO (r.map List.length)).map λi=>r.getD i [];rw[aar]at q;have e:(List.range r.length).map (λi=>r.getD i [])=r:=by
  apply aft;intro i;by_cases hi:i<r.length
  .simp[hi]
  .simp[hi]
 rw[e]at q;exact q
def QV(r:List Bu):(tR r).Pairwise λa b=>a.length<=b.length:=by
 have pm:=iO (r.map List.length);unfold tR;unfold kY at pm ⊢;split
 .rename_i h;rw[acW];rcases r with _|⟨a,_|⟨b,r⟩⟩
  .exact List.Pairwise.nil
  .exact ae9 _ _
  .exact absurd h (by simp)
 .rename_i h;rw[if_neg h]at pm;have s:=ML (ky:=λi=>(r.map List.length).getD i 0) (n:=(r.map List.length).length) a_;have s:Se (λi=>(r.map List.length).getD i 0) (jF (λi j=>decide ((r.map List.length).getD i 0<(r.map List.length).getD j 0)) (W.kas_sort (r.map List.length).length)) (r.map List.length).length:=s;generalize jF (λi j=>decide ((r.map List.length).getD i 0<(r.map List.length).getD j 0)) (W.kas_sort (r.map List.length).length)=p at *;rw[aar]at pm s;have sz:p.size=r.length:=by have:=pm.length_eq;rwa [abM,abW]at this
  rw[acW,aeY];intro i j hi hj hij;have ii:p.toList[i]<r.length:=abY.mp (pm.mem_iff.mp (ae3 hi));have jj:p.toList[j]<r.length:=abY.mp (pm.mem_iff.mp (ae3 hj));rw[abM,sz]at hj;rw[abM,sz]at hi;have:=s i j (acz hij) hj;unfold kf at this;rw[abQ,abQ,abH a_,abH a_]at this;rw[afx]at ii jj;simp[ii,jj]at this ⊢;exact this
def Dk(x:List Bu):List Bu:=kb (tR (cy x)) []
def V9{b:Bool}(hx:∀l∈x,DB l/\l.length<=900)(hn:x.length<64):EV [.t (lz b x)]=some (.m (.lst ((Dk x).map cu)),[]):=by
 have hx':Qu x:=λl hl=>⟨(hx l hl).1,by have:=(hx l hl).2;lia⟩
 obtain⟨y2,y3,y4,j2,j3,j4,e⟩:=C6 (b:=b) (s0:=AAA (lz b x)) (x5:=none) x [] none none none hx' (λl hl=>by have:=(hx l hl).2;lia) (by show 0+x.length<1000;lia) rfl rfl rfl;have l1:=wH x;have es:=QU (cy x);have ps:=nK (cy x);have lr:=C9 (cy x);have gr:Qu (tR (cy x)):=λk hk=>by
  obtain⟨l,hl,v,rfl⟩:=iQ.mp (ps.mem_iff.mp hk);exact⟨GG (hx l hl).1,by have:=(hx l hl).2;have:=u6 l;lia⟩
 have ls:=ps.length_eq;obtain⟨z3,e3⟩:=C8 (s0:=AAA (lz b x)) (s1:=AAA (.lst ((cy x).map cu))) (s2:=y2) (x4:=y4) (tR (cy x)) [] y3 gr (λk hk=>by cases hk) (by show 0+(tR (cy x)).length<1000;lia) j3;have e:loop (bName 2) fY (x.map (wG b)) [AAA (lz b x),AAB [],none,none,none,none]=some (.nx [AAA (lz b x),AAB ((cy x).map cu),y2,y3,y4,none]):=e;have s0:Xc [AAA (lz b x),none,none,none,none,none]=some (.nx [AAA (lz b x),AAB [],none,none,none,none]):=by simp[-bH,bh,Xc]
 have s1:Xd [AAA (lz b x),AAB [],none,none,none,none]=some (.nx [AAA (lz b x),AAB ((cy x).map cu),y2,y3,y4,none]):=by
  rw[<-e];cases b<;>simp[Xd,cQ,lz,Kl]
 have s2:Xe [AAA (lz b x),AAB ((cy x).map cu),y2,y3,y4,none]=some (.nx [AAA (lz b x),AAB ((cy x).map cu),y2,y3,y4,AAB []]):=by simp[-bH,bh,Xe]
 have h64:(cy x).length<64:=by lia
 have e3:loop (bName 3) eZ ((tR (cy x)).map cu) [AAA (lz b x),AAA (.lst ((cy x).map cu)),y2,y3,y4,AAB []]=some (.nx [AAA (lz b x),AAA (.lst ((cy x).map cu)),y2,z3,y4,AAB ((Dk x).map cu)]):=e3;have s3:Xf [AAA (lz b x),AAB ((cy x).map cu),y2,y3,y4,AAB []]=some (.nx [AAA (lz b x),AAA (.lst ((cy x).map cu)),y2,z3,y4,AAB ((Dk x).map cu)]):=by
  rw[<-e3];simp[Xf,cQ,zL,lr,h64,es]
 show((jG [AAA (lz b x),none,none,none,none,none]).bind _)=_;rw[Sx,bu s0,bu s1,bu s2,bu s3];simp[ts4]
theorem NV:∀(l acc:Bu),acc.Nodup->(dd acc l).Nodup
 |[],acc,h=>h
 |q::l,acc,h=>by
  unfold dd;refine NV l _ ?_;split
  .exact h
  .rename_i n;exact af4.mpr ⟨h,ab7.mpr ⟨by simp,abZ⟩,λx hx y hy e=>n (by rw[aaO.mp hy]at e;exact e▸hx)⟩
theorem Ak:∀{a b:Bu},a.Nodup->(∀p∈a,p∈b)->∃c,b.Perm (a++c)
 |[],b,_,_=>⟨b,aeK _⟩
 |p::a,b,hn,hs=>by
  obtain⟨n1,n2⟩:=ab7.mp hn;obtain⟨c,h⟩:=Ak (b:=b.erase p) n2 λq hq=>(List.mem_erase_of_ne λe:q=p=>n1 (e▸hq)).mpr (hs q (aaR _ hq));exact⟨c,(List.perm_cons_erase (hs p aaT)).trans (h.cons p)⟩
def NW{a b:Bu}(hn:a.Nodup)(hs:dJ a b=true)(hl:b.length<=a.length):dJ b a=true:=by
 obtain⟨c,h⟩:=Ak hn (bO.mp hs);have e:=h.length_eq;rw[aaW]at e;have:c=[]:=af0.mp a_;subst this;rw[ad7]at h;exact bO.mpr λp hp=>h.mem_iff.mp hp
theorem Dl:∀(r F:List Bu),(F++r).Pairwise (λa b=>a.length<=b.length)->(∀k∈r,k.Nodup)->(∀a∈F,∀b∈F,dJ a b=true->a=b)->F.Nodup->(∀a∈kb r F,∀b∈kb r F,dJ a b=true->a=b)/\(kb r F).Nodup
 |[],F,_,_,h,n=>⟨h,n⟩
 |k::r,F,hp,hn,h,n=>by
  unfold kb;split
  .exact Dl r F (hp.sublist ((aga k r).append_left F)) (λq hq=>hn q (aaR _ hq)) h n
  .rename_i c;have no:∀f∈F,dJ f k=false:=λf hf=>by
    cases e:dJ f k with
    |false=>rfl
    |true=>exact absurd (abL.mpr ⟨f,hf,e⟩) c
   have le:∀f∈F,f.length<=k.length:=λf hf=>(agk.mp hp).2.2 f hf k aaT;refine Dl r (F++[k]) (by rw[afs];exact hp) (λq hq=>hn q (aaR _ hq)) (λa ha b hb e=>?_) ?_
   .rcases abu.mp ha with ha|ha<;>rcases abu.mp hb with hb|hb
    .exact h a ha b hb e
    .rw[aaO.mp hb,no a ha]at e;cases e
    .rw[aaO.mp ha]at e;have:=NW (hn k aaT) e (le b hb);rw[no b hb]at this;cases this
    .rw[aaO.mp ha,aaO.mp hb]
   .refine af4.mpr ⟨n,ab7.mpr ⟨by simp,abZ⟩,λf hf q hq e=>?_⟩;have h2:=no f hf;rw[e,aaO.mp hq,rR]at h2;cases h2
def GQ(h:k∈Dk x):∃l∈x,cB l=false/\k=vD l:=by
 rcases NG _ _ h with q|q
 .cases q
 .exact iQ.mp ((nK _).mem_iff.mp q)
def Wa(x:List Bu):Ms x (Dk x):=by
 have nd:∀k∈tR (cy x),k.Nodup:=λk hk=>by
  obtain⟨l,hl,v,rfl⟩:=iQ.mp ((nK _).mem_iff.mp hk);exact NV l [] abZ
 obtain⟨h1,h2⟩:=Dl (tR (cy x)) [] (QV _) nd (λa h=>nomatch h) abZ;refine⟨⟨λk hk=>?_,λl hl hv=>?_⟩,λk hk=>?_,h1,h2⟩
 .obtain⟨l,hl,v,rfl⟩:=GQ hk;exact⟨by rw[Ah];exact v,l,hl,bO.mpr λp hp=>jx.mp hp,bO.mpr λp hp=>jx.mpr hp⟩
 .obtain⟨k,hk,e⟩:=GJ (tR (cy x)) [] (m:=vD l) ((nK _).mem_iff.mpr (iQ.mpr ⟨l,hl,hv,rfl⟩));exact⟨k,hk,fu e (bO.mpr λp hp=>jx.mp hp)⟩
 .obtain⟨l,hl,v,rfl⟩:=GQ hk;exact NV l [] abZ
def QW(x:List Bu):(Dk x).length<=x.length:=by
 have h1:=GK (tR (cy x)) [];have h1:(Dk x).length<=0+(tR (cy x)).length:=h1;have h2:=(nK (cy x)).length_eq;have h3:=wH x;lia
def aah:D->D
 |.lst es=>pQ (qy (es.map λe=>(toPy e).shown))
 |.tup es=>pQ (qy (es.map λe=>(toPy e).shown))
 |_=>.cI
def QX:GD:=eF (eP (jM true) (ah (eF (cM [] (iF (eF (au 0))) bB (eF (eP zo (ah (eF (au 0)) aB))))) aB))
def Wb{p:Tg}(h:Gd p.1):Pj (fh p):=by
 obtain⟨hb,_,hs,hw⟩:=h;refine aet ⟨hs,True.intro,True.intro⟩ ?_ (aaY (Nz hb) b_);show wD p.1+2+(wD (.bl p.2)+2+0)+4<=16000000;have:wD (.bl p.2)<=20:=by cases p.2<;>decide
 lia
def Wc{b:Bool}(h:QE k)(hl:k.length<64):QX [AAA (wG b k)]=some (pQ (Fo rp k),[AAA (wG b k)]):=by
 have e:=iN (cap:=[]) (g:=eF (eP zo (ah (eF (au 0)) aB))) (S:=[AAA (wG b k)]) (ts:=[]) rfl (λd=>.str (toPy d).shown) (k.map fh) [] (λd hd=>by
  obtain⟨p,hp,rfl⟩:=aa2.mp hd;have:=V3 (Wb (h p hp));simp[-PF,this])
 rw[acy]at e;have em:(k.map fh).map (λd=>D.str (toPy d).shown)=(k.map rp).map D.str:=by rw[abV,abV];rfl
 rw[em]at e;have h2:=P7 (ns:=k.map rp) (by rw[aar];exact hl);have h3:k.length<=100000:=by lia
 generalize (k.map rp).map D.str=Z at e h2;cases b<;>simp[QX,k9,cQ,wG,Kl,h3]at e ⊢<;>simp[e,h2,pQ,Fo]
def BY{b:Bool}{r:List Bu}{S:SS}(h:∀k∈r,QE k/\k.length<64):bK [] bB QX (r.map (wG b)) S []=some ((r.map (Fo rp)).map pQ,S):=by
 have e:=iN (cap:=[]) (g:=QX) (S:=S) (ts:=[]) rfl aah (r.map (wG b)) [] (λd hd=>by
  obtain⟨k,hk,rfl⟩:=aa2.mp hd;have:=Wc (b:=b) (h k hk).1 (h k hk).2;show QX [AAA (wG b k)]=_;rw[this];have:aah (wG b k)=pQ (Fo rp k):=by
   have em:(k.map fh).map (λe=>(toPy e).shown)=k.map rp:=by rw[abV];rfl
   cases b<;>(show pQ (qy ((k.map fh).map _))=_;rw[em];rfl)
  rw[this];rfl)
 rw[acy]at e;rw[e]
 congr 2
 rw[abV,abV];refine ab2 λk hk=>?_;have em:(k.map fh).map (λe=>(toPy e).shown)=k.map rp:=by rw[abV];rfl
 cases b<;>(show pQ (qy ((k.map fh).map _))=_;rw[em];rfl)
def KH:FM:=bf 1 (tN EV)
def We:∀us r,KH us=some r->bf 1 (tN EV) us=some r:=λ_ _ h=>h
def Al(r:List Bu):List (BBB):=kZ (r.map (Fo rp))
structure Gs(x:List Bu):Prop where
 g:∀l∈x,QE l/\l.length<40
 l:x.length<40
def Gs.Dk{x:List Bu}(h:Gs x):∀k∈Dk x,QE k/\k.length<64:=λk hk=>by
 obtain⟨l,hl,_,rfl⟩:=GQ hk;exact⟨λp hp=>(h.g l hl).1 p (jx.mp hp),by have:=(h.g l hl).2;have:=u6 l;lia⟩
def aai{b:Bool}(h:Gs x):KH [.t (lz b x)]=some (.m (.lst ((Al (Dk x)).map pQ)),[]):=by
 have hl:=h.l;have tl:=QW x;have e1:=V9 (b:=b) (x:=x) (λl hl=>⟨(h.g l hl).1.gb,by have:=(h.g l hl).2;lia⟩) a_;have e2:=BY (b:=true) (S:=[AAA (lz b x)]) h.Dk;have e2:bK [] bB QX ((Dk x).map cu) [AAA (lz b x)] []=_:=e2;have e3:=HN (ks:=(Dk x).map (Fo rp)) (by rw[aar];lia);have h3:(Dk x).length<=100000:=by lia
 unfold QX at e2;generalize ((Dk x).map (Fo rp)).map pQ=Z at e2 e3;simp[KH,bf,tN,k9,cQ,e1,h3,e2,e3,Al]
def QY:FM:=bf 4 (ie KH)
def Wf:∀us r,QY us=some r->bf 4 (ie KH) us=some r:=λ_ _ h=>h
def is_tup(ds:List D):yZ ["tuple"] (.tup ds)=some true:=rfl
def aaj(b:Bool):yZ ["bool"] (.bl b)=some true:=rfl
def Iv{q:L2.GT}{ds:List D}{S:SS}(h:∀d∈ds,q [AAA d]=some (false,[AAA d])):bK [] q f_ ds S []=some ([],S):=by
 have e:=yq (cap:=[]) (q:=q) (g:=eC (.int 1)) (S:=S) (ts:=[]) rfl (λ_=>false) (λd=>d) ds [] h (λ_ _ h=>by cases h);rw[e];simp
def aak{xd:D}{y:List Bu}{s2:Option U}(hl:y.length<1000):it0 KH [AAA (pS y),AAA xd,s2,s3]=some (.nx [AAA (pS y),AAA xd,s2,s3]):=by
 have e:=Iv (q:=kr (qB (Kw ["tuple"] (eF (au 0))))) (ds:=y.map u5) (S:=[AAA (pS y),AAA xd,s2,s3]) (λd hd=>by
  obtain⟨k,_,rfl⟩:=aa2.mp hd;simp[Kw,is_tup,u5])
 have h1:y.length<=100000:=by lia
 have z0:Bt [.lst [],.lst []]=AAA (.bl false):=rfl;unfold pS at e ⊢;simp[it0,Kw,is_tup,k9,cQ,h1]at e ⊢;simp[e,z0]
def QZ{x:D}{y:D}(hl:k.length<1000):gG KH [AAA y,AAA x,AAA (u5 k),s3]=some (.nx [AAA y,AAA x,AAA (u5 k),s3]):=by
 have e:=Iv (q:=FY (kr (qB (Kw ["tuple"] (eF (au 0))))) (FY (qB (eF (eP Bt (ah (nq 0) (ah (eC (.int 2)) aB))))) (kr (qB (Kw ["bool"] (b9 0 f_)))))) (ds:=k.map fh) (S:=[AAA y,AAA x,AAA (u5 k),s3]) (λd hd=>by
  obtain⟨p,_,rfl⟩:=aa2.mp hd;have a1:dZ [p.1,D.bl p.2] 1=some (.bl p.2):=rfl;have z2:Bt [.int 2,.int 2]=AAA (.bl false):=rfl;simp[Kw,is_tup,aaj,fh,z2,a1])
 have h1:k.length<=100000:=by lia
 have z0:Bt [.lst [],.lst []]=AAA (.bl false):=rfl;unfold u5 at e ⊢;simp[gG,k9,cQ,h1]at e ⊢;simp[e,z0]
theorem Iw{x y:D}{s3:Option U}:∀(r:List Bu)(s2:Option U),jE s2=false->(∀k∈r,k.length<1000)->∃y2,loop (bName 2) (gG KH) (r.map u5) [AAA y,AAA x,s2,s3]=some (.nx [AAA y,AAA x,y2,s3])/\jE y2=false
 |[],s2,h2,_=>⟨s2,rfl,h2⟩
 |k::r,s2,h2,hr=>by
  have tn:=QZ (x:=x) (y:=y) (s3:=s3) (hr k aaT);obtain⟨y2,e,i2⟩:=Iw (x:=x) (y:=y) (s3:=s3) r (AAA (u5 k)) rfl λq hq=>hr q (aaR _ hq);refine⟨y2,?_,i2⟩;have eb:bName 2 (u5 k) [AAA y,AAA x,s2,s3]=some [AAA y,AAA x,AAA (u5 k),s3]:=by simp[-bH,bh,h2]
  show((bName 2 (u5 k) _).bind _)=_;rw[eb,aaN,tn,aaN];exact e
theorem NX:∀(a b:BBB),jK (a.map D.str) (b.map D.str)=decide (a=b)
 |[],[]=>rfl
 |[],_::_=>rfl
 |_::_,[]=>rfl
 |x::a,y::b=>by
  show((x == y) && jK (a.map D.str) (b.map D.str))=_;rw[NX a b];by_cases h:x=y
  .subst h;simp
  .simp[h]
theorem Iz:∀(a b:List (BBB)),jK (a.map pQ) (b.map pQ)=decide (a=b)
 |[],[]=>rfl
 |[],_::_=>rfl
 |_::_,[]=>rfl
 |x::a,y::b=>by
  show(jK (x.map D.str) (y.map D.str) && jK (a.map pQ) (b.map pQ))=_;rw[Iz a b,NX];by_cases h:x=y
  .subst h;simp
  .simp[h]
def NY(a:List (BBB)):cJ (.lst (a.map pQ))<=40:=by
 have t:∀z:BBB,bX (z.map D.str)=0:=λz=>by
  induction z with
  |nil=>rfl
  |cons c z ih=>show max 0 (bX (z.map D.str))=0;rw[ih];rfl
 have r:bX (a.map pQ)<=1:=by
  induction a with
  |nil=>exact abK _
  |cons z a ih=>show max (bX (z.map D.str)+1) (bX (a.map pQ))<=1;rw[t];lia
 show bX _+1<=40;lia
def key_eq(a b:List (BBB)):kg [.lst (a.map pQ),.lst (b.map pQ)]=AAA (.bl (decide (a=b))):=by
 show(if cJ (.lst (a.map pQ))<=40 then some (U.t (.bl (jK (a.map pQ) (b.map pQ)))) else none)=_;rw[if_pos (NY a),Iz]
def aal{b:Bool}{y:List Bu}(hx:Gs x)(hy:Gs y):QY [.t (pS y),.t (lz b x)]=some (.t (.bl (decide (Al y=Al (Dk x)))),[]):=by
 have ly:=hy.l;have s0:=aak (xd:=lz b x) (y:=y) (s2:=none) (s3:=none) a_;obtain⟨y2,e1,i2⟩:=Iw (x:=lz b x) (y:=pS y) (s3:=none) y none rfl λk hk=>by have:=(hy.g k hk).2;lia
 have s1:it1 KH [AAA (pS y),AAA (lz b x),none,none]=some (.nx [AAA (pS y),AAA (lz b x),y2,none]):=by
  rw[<-e1];simp[it1,cQ,pS]
 have e2:=BY (b:=false) (r:=y) (S:=[AAA (pS y),AAA (lz b x),y2,none]) λk hk=>⟨(hy.g k hk).1,by have:=(hy.g k hk).2;lia⟩
 have e2:bK [] bB QX (y.map u5) [AAA (pS y),AAA (lz b x),y2,none] []=_:=e2;have h1:y.length<=100000:=by lia
 have s2:it2 KH [AAA (pS y),AAA (lz b x),y2,none]=some (.nx [AAA (pS y),AAA (lz b x),y2,AAB ((y.map (Fo rp)).map pQ)]):=by
  unfold QX at e2;generalize (y.map (Fo rp)).map pQ=Z at e2 ⊢;unfold pS at e2 ⊢;simp[-bH,bh,it2,k9,cQ,h1]at e2 ⊢;simp[e2]
 have e3:=HN (ks:=y.map (Fo rp)) (by rw[aar];lia);have e4:=aai (b:=b) hx;have e5:=key_eq (Al y) (Al (Dk x));show((ie KH [AAA (pS y),AAA (lz b x),none,none]).bind _)=_;rw[it_eq,bu s0,bu s1,bu s2];generalize (y.map (Fo rp)).map pQ=Z at e3;have e3:jM false [.lst Z]=AAB ((Al y).map pQ):=e3;generalize (Al y).map pQ=Y at e3 e5;generalize (Al (Dk x)).map pQ=W at e4 e5;simp[it3,e3,e4,e5]
end T6
end
section
namespace T7
open L2 Sw Ss Sd Sp T5 T6
variable {x y r:List Bu}{n:Nat}{ms a:BBJ}{q:Bool}{C:Addr}{α β:Type}{T:MO}{td:D}{ns:BBD}{x3 x6 x7 x8:Option U}
noncomputable def gR(a b:BBJ):BBJ:=a.flatMap λm=>b.map λk=>m ||| k
def nL{l:Bu}:l∈T5.prod x y↔∃a∈x,∃b∈y,l=a++b:=by
 unfold T5.prod;simp only[agW,aa2];exact⟨λ⟨a,ha,b,hb,e⟩=>⟨a,ha,b,hb,e.symm⟩,λ⟨a,ha,b,hb,e⟩=>⟨a,ha,b,hb,e.symm⟩⟩
def nM{x y:BBJ}{l:Nat}:l∈gR x y↔∃a∈x,∃b∈y,l=a ||| b:=by
 unfold gR;simp only[agW,aa2];exact⟨λ⟨a,ha,b,hb,e⟩=>⟨a,ha,b,hb,e.symm⟩,λ⟨a,ha,b,hb,e⟩=>⟨a,ha,b,hb,e.symm⟩⟩
def Dm(bs:List D)(l k:Bu):pR bs (l++k)=pR bs l ||| pR bs k:=afB λi=>by rw[aeL,oG,oG,oG,ahb]
def Xl{a b:Bu}(h:dJ a b=true)(hv:cB b=false):cB a=false:=by
 cases e:cB a with
 |false=>rfl
 |true=>rw[Ad h e]at hv;cases hv
def SJ(l k:Bu):dJ l (l++k)=true:=bO.mpr λp hp=>acp _ hp
def SK(l k:Bu):dJ k (l++k)=true:=bO.mpr λp hp=>abE _ hp
def Q0{a b c d:Bu}(h:dJ a c=true)(k:dJ b d=true):dJ (a++b) (c++d)=true:=bO.mpr λp hp=>by
 rcases abu.mp hp with q|q
 .exact acp _ (bO.mp h p q)
 .exact abE _ (bO.mp k p q)
structure Kq(bs:List D)(x:List Bu)(ks:BBJ):Prop where
 kp:Kp bs x ks
 anti:QA ks
 asc:ks.Pairwise (· < ·)
 vO:∀l∈x,∀p∈l,p.1∈bs
def Kq.ext{bs bs':List D}{x:List Bu}{ks:BBJ}(h:Kq bs x ks)(he:∀p:Tg,p.1∈bs->ix bs' p=ix bs p)(hs:∀b∈bs,b∈bs'):Kq bs' x ks:=
 ⟨h.kp.ext λl hl=>Qs λp hp=>he p (h.vO l hl p hp),h.anti,h.asc,λl hl p hp=>hs _ (h.vO l hl p hp)⟩
section
variable {bs:List D}{x y:List Bu}{a b ms:BBJ}
def IA(hin:∀l∈x,∀p∈l,p.1∈bs)(h1:∀m∈ms,∃l∈x,m=pR bs l)(h2:∀l∈x,cB l=false->∃m∈ms,m &&& pR bs l=m):Kq bs x (fG bs.length (BS ms) []):=by
 refine⟨⟨λk hk=>?_,λl hl hv=>?_⟩,wI _ [] (Ik _) (λm hm=>(nomatch hm)),(Ik _).sublist (u9 _ []),hin⟩
 .rcases C5 _ _ hk with q|⟨q,v⟩
  .cases q
  .obtain⟨l,hl,rfl⟩:=h1 _ (Ig.mp q);rw[Ii (hin l hl)]at v;exact⟨l,hl,rfl,v⟩
 .obtain⟨m,hm,e⟩:=h2 l hl hv;obtain⟨l',hl',rfl⟩:=h1 m hm;have v:=Xl ((wF (hin l' hl') (hin l hl)).mp e) hv;obtain⟨k,hk,e2⟩:=Af (n:=bs.length) (BS ms) [] (Ig.mpr hm) (by rw[Ii (hin l' hl')];exact v);exact⟨k,hk,by rw[<-e2,Nat.and_assoc,e]⟩
def Kq.beside(h:Kq bs x a)(k:Kq bs y b):Kq bs (x++y) (fG bs.length (BS (a++b)) []):=by
 refine IA (λl hl=>(abu.mp hl).elim (h.vO l) (k.vO l)) (λm hm=>?_) λl hl hv=>?_
 .rcases abu.mp hm with q|q
  .obtain⟨l,hl,e,_⟩:=h.kp.from_ m q;exact⟨l,acp _ hl,e⟩
  .obtain⟨l,hl,e,_⟩:=k.kp.from_ m q;exact⟨l,abE _ hl,e⟩
 .rcases abu.mp hl with q|q
  .obtain⟨m,hm,e⟩:=h.kp.all l q hv;exact⟨m,acp _ hm,e⟩
  .obtain⟨m,hm,e⟩:=k.kp.all l q hv;exact⟨m,abE _ hm,e⟩
def E1(h:Kq bs x a)(k:Kq bs y b):∀l∈T5.prod x y,∀p∈l,p.1∈bs:=λl hl p hp=>by
 obtain⟨c,hc,d,hd,rfl⟩:=nL.mp hl;exact(abu.mp hp).elim (h.vO c hc p) (k.vO d hd p)
def Q2(h:Kq bs x a)(k:Kq bs y b){m:Nat}(hm:m∈gR a b):∃l∈T5.prod x y,m=pR bs l:=by
 obtain⟨c,hc,d,hd,rfl⟩:=nM.mp hm;obtain⟨l1,hl1,rfl,_⟩:=h.kp.from_ c hc;obtain⟨l2,hl2,rfl,_⟩:=k.kp.from_ d hd;exact⟨l1++l2,nL.mpr ⟨l1,hl1,l2,hl2,rfl⟩,(Dm bs l1 l2).symm⟩
def IB(h:Kq bs x a)(k:Kq bs y b){l:Bu}(hl:l∈T5.prod x y)(hv:cB l=false):∃m∈gR a b,m &&& pR bs l=m:=by
 obtain⟨c,hc,d,hd,rfl⟩:=nL.mp hl;obtain⟨m1,h1,e1⟩:=h.kp.all c hc (Xl (SJ c d) hv);obtain⟨m2,h2,e2⟩:=k.kp.all d hd (Xl (SK c d) hv);refine⟨m1 ||| m2,nM.mpr ⟨m1,h1,m2,h2,rfl⟩,?_⟩;rw[Dm];apply afB;intro i;have q1:=congrArg (·.testBit i) e1;have q2:=congrArg (·.testBit i) e2;simp only[aed,aeL]at q1 q2 ⊢;generalize m1.testBit i=p1 at *;generalize m2.testBit i=p2 at *;generalize (pR bs c).testBit i=p3 at *;generalize (pR bs d).testBit i=p4 at *;revert q1 q2;cases p1<;>cases p2<;>cases p3<;>cases p4<;>decide
def Kq.prod(h:Kq bs x a)(k:Kq bs y b):Kq bs (T5.prod x y) (fG bs.length (BS (gR a b)) []):=
 IA (E1 h k) (λ_=>Q2 h k) λ_=>IB h k
noncomputable def orM(ms:BBJ):Nat:=ms.foldl (· ||| ·) 0
def Fp(n:Nat)(ms:BBJ):Nat:=(orM ms ||| orM ms / 2) &&& KC n
theorem IC(k:Nat):∀(ms:BBJ)(e:Nat),(ms.foldl (· ||| ·) e).testBit k=(e.testBit k || ms.any λm=>m.testBit k)
 |[],e=>by simp
 |m::ms,e=>by rw[aeT,IC k ms,aeL,acM,Bool.or_assoc]
def N1{m j:Nat}(hm:m∈ms)(hj:j / 2<n)(h:m.testBit j=true):(Fp n ms).testBit (2*(j / 2))=true:=by
 have o:∀k,(orM ms).testBit k=ms.any λm=>m.testBit k:=λk=>by unfold orM;rw[IC];simp
 unfold Fp;rw[aed,C3,aeL,Nat.testBit_div_two,o,o,abJ a_,Bool.and_true,Bool.or_eq_true,abL,abL];rcases Nat.mod_two_eq_zero_or_one j with q|q
 .exact .inl ⟨m,hm,by rw[show 2*(j / 2)=j by lia];exact h⟩
 .exact .inr ⟨m,hm,by rw[show 2*(j / 2)+1=j by lia];exact h⟩
def Apt(a b:BBJ):Prop:=∀m∈a,∀k∈b,∀i j,i / 2=j / 2->m.testBit i=true->k.testBit j=true->False
def Kq.lt(h:Kq bs x a){m:Nat}(hm:m∈a):m<2 ^ (2*bs.length):=by
 obtain⟨l,hl,rfl,_⟩:=h.kp.from_ m hm;exact NK (h.vO l hl)
def Kq.apt(h:Kq bs x a)(k:Kq bs y b)(e:Fp bs.length a &&& Fp bs.length b=0):Apt a b:=λm hm q hq i j hij h1 h2=>by
 have bd:∀{m i:Nat},m<2 ^ (2*bs.length)->m.testBit i=true->i / 2<bs.length:=λ{m i} lt t=>by
  apply abO;intro c;rw[Nat.testBit_lt_two_pow (aaU lt (abN a_ a_))]at t;cases t
 have t1:=N1 hm (bd (h.lt hm) h1) h1;have t2:=N1 hq (bd (k.lt hq) h2) h2;rw[<-hij]at t2;have:=congrArg (·.testBit (2*(i / 2))) e;simp only[aed,t1,t2,Nat.zero_testBit]at this;cases this
def Q3{m1 m2 k1 k2:Nat}(q:Apt a b)(h1:m1∈a)(h2:m2∈a)(h3:k1∈b)(h4:k2∈b)(e:(m1 ||| k1) &&& (m2 ||| k2)=m1 ||| k1):m1 &&& m2=m1/\k1 &&& k2=k1:=by
 constructor<;>refine afB λi=>?_
 .have ei:=congrArg (·.testBit i) e;simp only[aed,aeL]at ei ⊢;cases t:m1.testBit i with
  |false=>rfl
  |true=>
   rw[t]at ei;have n:k2.testBit i=false:=agF.mpr λz=>q m1 h1 k2 h4 i i rfl t z;rw[n]at ei
   simpa using ei
 .have ei:=congrArg (·.testBit i) e;simp only[aed,aeL]at ei ⊢;cases t:k1.testBit i with
  |false=>rfl
  |true=>
   rw[t]at ei;have n:m2.testBit i=false:=agF.mpr λz=>q m2 h2 k1 h3 i i rfl z t;rw[n]at ei
   simpa using ei
def Am(h:Kq bs x a)(k:Kq bs y b)(q:Apt a b){m1 m2 k1 k2:Nat}(h1:m1∈a)(h2:m2∈a)(h3:k1∈b)(h4:k2∈b)(e:(m1 ||| k1) &&& (m2 ||| k2)=m1 ||| k1):m1=m2/\k1=k2:=by
 obtain⟨e1,e2⟩:=Q3 q h1 h2 h3 h4 e;exact⟨h.anti _ h1 _ h2 e1,k.anti _ h3 _ h4 e2⟩
def Q4(h:Kq bs x a)(k:Kq bs y b)(q:Apt a b):(gR a b).Nodup:=by
 have na:a.Nodup:=h.asc.imp λz=>aa1 z;have nb:b.Nodup:=k.asc.imp λz=>aa1 z;unfold gR;refine List.pairwise_flatMap.mpr ⟨λm hm=>?_,?_⟩
 .refine acW.mpr (nb.imp_of_mem λ{c d} hc hd n e=>n ?_);exact(Am h k q hm hm hc hd (by rw[e,agV])).2
 .refine na.imp_of_mem λ{c d} hc hd n=>?_;intro z hz1 w hz2 e;obtain⟨p,hp,rfl⟩:=aa2.mp hz1;obtain⟨r,hr,rfl⟩:=aa2.mp hz2;exact n (Am h k q hc hd hp hr (by rw[e,agV])).1
def Kq.apart(h:Kq bs x a)(k:Kq bs y b)(e:Fp bs.length a &&& Fp bs.length b=0){r:BBJ}(hp:r.Perm (gR a b))(ho:r.Pairwise (·<=·)):Kq bs (T5.prod x y) r:=by
 have q:=h.apt k e;have nd:r.Nodup:=hp.nodup_iff.mpr (Q4 h k q);refine⟨⟨λm hm=>?_,λl hl hv=>?_⟩,λm hm n hn e=>?_,(ho.and nd).imp λz=>Nat.lt_of_le_of_ne z.1 z.2,E1 h k⟩
 .obtain⟨c,hc,d,hd,rfl⟩:=nM.mp (hp.mem_iff.mp hm);obtain⟨l1,hl1,e1,v1⟩:=h.kp.from_ c hc;obtain⟨l2,hl2,e2,v2⟩:=k.kp.from_ d hd;refine⟨l1++l2,nL.mpr ⟨l1,hl1,l2,hl2,rfl⟩,by rw[e1,e2,Dm],?_⟩;refine agF.mpr λv=>?_;obtain⟨z,z1,z2⟩:=fV.mp v;have bit:∀{l:Bu}{m:Nat}{t:Bool},(∀p∈l,p.1∈bs)->m=pR bs l->(z,t)∈l->m.testBit (ix bs (z,t))=true:=λ{l m t} hi e hz=>by rw[e,wC hi (hi _ hz),abJ hz]
  have same:ix bs (z,true) / 2=ix bs (z,false) / 2:=by simp only[ix,if_true];simp;lia
  rcases abu.mp z1 with a1|a1<;>rcases abu.mp z2 with a2|a2
  .rw[fV.mpr ⟨z,a1,a2⟩]at v1;cases v1
  .exact q c hc d hd _ _ same (bit (h.vO l1 hl1) e1 a1) (bit (k.vO l2 hl2) e2 a2)
  .exact q c hc d hd _ _ same.symm (bit (h.vO l1 hl1) e1 a2) (bit (k.vO l2 hl2) e2 a1)
  .rw[fV.mpr ⟨z,a1,a2⟩]at v2;cases v2
 .obtain⟨m,hm,e⟩:=IB h k hl hv;exact⟨m,hp.mem_iff.mpr hm,e⟩
 .obtain⟨c,hc,d,hd,rfl⟩:=nM.mp (hp.mem_iff.mp hm);obtain⟨c2,hc2,d2,hd2,rfl⟩:=nM.mp (hp.mem_iff.mp hn);obtain⟨rfl,rfl⟩:=Am h k q hc hc2 hd hd2 e;rfl
end
def dQ(aC:Addr):GS:=
 (cD 4 (eP zJ (ah (eF (au 4)) (ah (eF (au 5)) aB))))
def fK(aC:Addr):GS:=
 (aP (cD 4 (eT (eC (.int 0))))
 (aP (kQ (bName 5) (iF j_) (dQ aC))
 (bU (eP qw (ah (eF (eP zJ (ah (eF (au 4)) (ah (eF (eP Mt (ah (eF (au 4)) (ah f_ aB)))) aB)))) (ah (zP aC 0 "trues") aB))))))
def ig(ki:FM)(aC:Addr):GS:=
 (bU (eP kg (ah (eF (eP qw (ah (eF (dc aC "basics_among" 0 ki (aW j_ bQ) [3,4])) (ah (eF (dc aC "basics_among" 0 ki (aW (eF (au 2)) bQ) [3,4])) aB)))) (ah (eC (.int 0)) aB))))
def dY(iT jI:FM)(aC:Addr):GS:=
 (kP (eT (eM 5 eY (ah (eF (cM [6] (iF (eF (au 2))) bB (eF (eP zJ (ah j_ (ah (eF (au 0)) aB)))))) aB))))
def fZ(iT jI:FM)(aC:Addr):GS:=
 (aP (cD 5 (eP eB aB))
 (aP (kQ (bName 6) (iF j_) (dY iT jI aC))
 (aP (ju (qB (eF (dc aC "are_apart" 0 iT (aW j_ (aW (eF (au 2)) bQ)) [3,4]))) (bU (eP (jM none) (ah (eF (au 5)) aB))) dg)
 (bU (dc aC "trim" 0 jI (aW (eF (au 5)) bQ) [3,4])))))
def lC(jI:FM)(aC:Addr):GS:=
 (bU (dc aC "trim" 0 jI (aW (eF (eP gU (ah j_ (ah (eF (au 2)) aB)))) bQ) [3,4]))
def ir(AV xS:FM)(aC:Addr):GS:=
 (aP (ju (qB (eF (au 3))) (bU (dc aC "beside" 0 AV (aW j_ (aW (eF (au 2)) bQ)) [4,5])) dg)
 (bU (dc aC "together" 0 xS (aW j_ (aW (eF (au 2)) bQ)) [4,5])))
def oJ:GS:=
 (bU (Oe (qB (eF (au 0))) (eP eB (ah (eC (.int 0)) aB)) (eP eB aB)))
def nam:∀m∈(["basics_among","are_apart","together","beside","joined","trim","of_thing","stand_of"]:BBB),¬m="basics"/\¬m="numbers"/\¬m="trues":=by decide
def Zr:¬("basics_among":Str)="basics"/\¬("basics_among":Str)="numbers"/\¬("basics_among":Str)="trues":=nam _ (by simp)
def na2:¬("are_apart":Str)="basics"/\¬("are_apart":Str)="numbers"/\¬("are_apart":Str)="trues":=nam _ (by simp)
def na3:¬("together":Str)="basics"/\¬("together":Str)="numbers"/\¬("together":Str)="trues":=nam _ (by simp)
def na4:¬("beside":Str)="basics"/\¬("beside":Str)="numbers"/\¬("beside":Str)="trues":=nam _ (by simp)
def na5:¬("joined":Str)="basics"/\¬("joined":Str)="numbers"/\¬("joined":Str)="trues":=nam _ (by simp)
section
variable {C c d:Addr}{n:Nat}{bs:List D}{kvs:List (D×D)}{t:D}
def Xm(C:Addr):FM:=bf 6 (fK C)
def Wg(C:Addr):∀us r,Xm C us=some r->bf 6 (fK C) us=some r:=λ_ _ h=>h
theorem ID:∀(ms:BBJ)(e:Nat)(x:Option U),jE x=false->∃y,loop (bName 5) (dQ C) (nats ms) [some (.b (gW C c d n)),AAA t,some (.b (.lat c bs)),some (.b (.gF d kvs)),AAC (e:Nat),x]
  = some (.nx [some (.b (gW C c d n)),AAA t,some (.b (.lat c bs)),some (.b (.gF d kvs)),AAC (ms.foldl (· ||| ·) e:Nat),y])
 |[],e,x,_=>⟨x,rfl⟩
 |m::ms,e,x,hx=>by
  obtain⟨y,q⟩:=ID ms (e ||| m) (AAC (m:Nat)) rfl;refine⟨y,?_⟩;rw[aeT,<-q];simp[nats,loop,-bH,bh,hx,dQ,zJ,xM]
def SM(hl:ms.length<1000):Xm C [.b (gW C c d n),.t (.lst (nats ms)),.b (.lat c bs),.b (.gF d kvs)]=some (.t (.int (Fp n ms:Nat)),[gW C c d n,.lat c bs,.gF d kvs]):=by
 obtain⟨y,e⟩:=ID (C:=C) (c:=c) (d:=d) (n:=n) (bs:=bs) (kvs:=kvs) (t:=.lst (nats ms)) ms 0 none rfl;have e:loop (bName 5) (dQ C) (nats ms) [some (.b (gW C c d n)),AAA (.lst (nats ms)),some (.b (.lat c bs)),some (.b (.gF d kvs)),AAC 0,none]=_:=e;have h1:(nats ms).length<=100000:=by unfold nats;rw[aar];lia
 have h2:∀k:Nat,(0:Int)<=(k:Nat) / 2:=λk=>by lia
 have h3:∀k:Nat,((k:Int) / 2).toNat=k / 2:=λk=>by lia
 simp[-bH,bh,Xm,bf,fK,cQ,h1,e,zP,Ae,AE,qw,zJ,Mt,xM,Fp,orM,h2,h3]
def Q5(C:Addr):FM:=bf 5 (ig (Xm C) C)
def Wh(C:Addr):∀us r,Q5 C us=some r->bf 5 (ig (Xm C) C) us=some r:=λ_ _ h=>h
def aan{b:BBJ}(ha:a.length<1000)(hb:b.length<1000):Q5 C [.b (gW C c d n),.t (.lst (nats a)),.t (.lst (nats b)),.b (.lat c bs),.b (.gF d kvs)]=some (.t (.bl (decide (Fp n a &&& Fp n b=0))),[gW C c d n,.lat c bs,.gF d kvs]):=by
 have e1:=SM (C:=C) (c:=c) (d:=d) (n:=n) (bs:=bs) (kvs:=kvs) ha;have e2:=SM (C:=C) (c:=c) (d:=d) (n:=n) (bs:=bs) (kvs:=kvs) hb;generalize Fp n a=A at *;generalize Fp n b=B at *;simp[Q5,bf,ig,dc,Ae,AE,AD,pL,Zr,e1,e2,qw,xM];exact Z0 _
def Xn(ms:BBJ):BBJ:=(kZ (ms.map λn=>List.replicate n ("":Str))).map List.length
def IE(ms:BBJ):kZ (ms.map λn=>List.replicate n ("":Str))=(Xn ms).map λn=>List.replicate n ("":Str):=by
 unfold Xn;rw[abV];refine(List.map_id _).symm.trans (ab2 λr hr=>?_);obtain⟨n,_,rfl⟩:=aa2.mp ((tF _).mem_iff.mp hr);show _=List.replicate (List.replicate n ("":Str)).length ("":Str);rw[aen];rfl
def E2(ms:BBJ):(Xn ms).Perm ms:=by
 have:=(tF (ms.map λn=>List.replicate n ("":Str))).map List.length;rw[abV]at this;refine this.trans (List.Perm.of_eq ?_);refine(ab2 λn _=>?_).trans (List.map_id _);exact aen
def Q6(ms:BBJ):(Xn ms).Pairwise (·<=·):=by
 have:=CV (ms.map λn=>List.replicate n ("":Str));have:(kZ (ms.map λn=>List.replicate n ("":Str))).Pairwise λa b=>pU b a=false:=this;rw[IE,acW]at this;refine this.imp λh=>?_;rw[CW]at h;have:=of_decide_eq_false h;lia
def Q7(h:ms.length<64):jM none [.lst (nats ms)]=AAB (nats (Xn ms)):=by
 show(sE none (nats ms)).bind _=_;rw[show sE none (nats ms)=sD (nats ms) from rfl,show sD (nats ms)=_ from EF ms];show(if(nats ms).length<64 then _ else _)=_;rw[if_pos (by unfold nats;rw[aar];exact h)];have e:nats ms=(ms.map λn=>List.replicate n ("":Str)).map λr=>.int (r.length:Nat):=by
  unfold nats;rw[abV];refine ab2 λn _=>?_;show D.int (n:Nat)= .int ((List.replicate n ("":Str)).length:Nat);rw[aen]
 rw[e,wz,IE,abV]
 congr 3
 unfold nats;refine ab2 λn _=>?_;show D.int ((List.replicate n ("":Str)).length:Nat)=_;rw[aen]
def Wi(C:Addr):FM:=bf 7 (fZ (Q5 C) (Nv C) C)
def Wj(C:Addr):∀us r,Wi C us=some r->bf 7 (fZ (Q5 C) (Nv C) C) us=some r:=λ_ _ h=>h
abbrev gS(C c d:Addr)(n:Nat)(bs:List D)(kvs:List (D×D))(a b ms:BBJ)(x:Option U):SS:=[some (.b (gW C c d n)),AAA (.lst (nats a)),AAA (.lst (nats b)),some (.b (.lat c bs)),some (.b (.gF d kvs)),AAB (nats ms),x]
theorem IF{m:Nat}{S:SS}(hS:S[6]? =some (AAC (m:Nat))):∀(b:BBJ)(acc:List D),bK [6] bB (eF (eP zJ (ah j_ (ah (eF (au 0)) aB)))) (nats b) S acc=some (acc++nats (b.map (m ||| ·)),S)
 |[],acc=>by simp[bK,nats]
 |k::b,acc=>by
  show bK _ _ _ (.int (k:Nat)::nats b) S acc=_;have one:bK [6] bB (eF (eP zJ (ah j_ (ah (eF (au 0)) aB)))) [.int (k:Nat)] S acc=some (acc++[.int ((m ||| k:Nat):Int)],S):=by
   simp[bK,dz,oh,hS,bB,zJ,xM]
  rw[Sq.lg,one,aaN];show bK _ _ _ (nats b) S _=_;rw[IF hS b];simp[nats]
def Q8{b:BBJ}{m:Nat}(hb:b.length<1000)(hl:ms.length+b.length<10000):
  dY (Q5 C) (Nv C) C (gS C c d n bs kvs a b ms (AAC (m:Nat)))=some (.nx (gS C c d n bs kvs a b (ms++b.map (m ||| ·)) (AAC (m:Nat)))):=by
 have e:=IF (S:=gS C c d n bs kvs a b ms (AAC (m:Nat))) (m:=m) rfl b [];have h1:(nats b).length<=100000:=by unfold nats;rw[aar];lia
 have h2:(nats ms).length+(nats (b.map (m ||| ·))).length<=100000:=by simp only[nats,aar];lia
 have h3:(nats ms).length+b.length<=100000:=by simp only[nats,aar];lia
 rw[acy]at e;unfold gS at e ⊢;have ea:nats (ms++b.map (m ||| ·))=nats ms++nats (b.map (m ||| ·)):=by unfold nats;rw[ad8]
 rw[ea];generalize nats (b.map (m ||| ·))=Z at *;simp[dY,k9,cQ,h1,e,eY,h2,h3]
def BZ(a b:BBJ):(gR a b).length=a.length*b.length:=by
 unfold gR
 induction a with
 |nil=>simp
 |cons m a ih=>rw[agE,aaW,ih,aar,abD,Nat.succ_mul,Nat.add_comm]
theorem IG{a b:BBJ}(hb:b.length<1000):∀(r ms:BBJ)(x:Option U),jE x=false->ms.length+r.length*b.length<10000->
  ∃y,loop (bName 6) (dY (Q5 C) (Nv C) C) (nats r) (gS C c d n bs kvs a b ms x)=some (.nx (gS C c d n bs kvs a b (ms++gR r b) y))
 |[],ms,x,_,_=>⟨x,by simp[nats,loop,gR]⟩
 |m::r,ms,x,hx,hl=>by
  rw[abD,Nat.succ_mul]at hl;have tn:=Q8 (C:=C) (c:=c) (d:=d) (n:=n) (bs:=bs) (kvs:=kvs) (a:=a) (m:=m) hb (show ms.length+b.length<10000 by lia);obtain⟨y,e⟩:=IG (a:=a) hb r (ms++b.map (m ||| ·)) (AAC (m:Nat)) rfl (by rw[aaW,aar];lia);refine⟨y,?_⟩;have eb:bName 6 (.int (m:Nat)) (gS C c d n bs kvs a b ms x)=some (gS C c d n bs kvs a b ms (AAC (m:Nat))):=by simp[-bH,bh,hx]
  show((bName 6 (.int (m:Nat)) _).bind _)=_;rw[eb,aaN,tn,aaN];show loop _ _ (nats r) _=_;rw[e];show some (Out.nx (gS C c d n bs kvs a b (ms++b.map (m ||| ·)++gR r b) y))=some (Out.nx (gS C c d n bs kvs a b (ms++(b.map (m ||| ·)++gR r b)) y));rw[afs]
def Wk(n:Nat)(a b:BBJ):BBJ:=if Fp n a &&& Fp n b=0 then Xn (gR a b) else fG n (BS (gR a b)) []
def aao{b:BBJ}(ha:a.length<64)(hb:b.length<64)(hl:a.length*b.length<64):
  Wi C [.b (gW C c d n),.t (.lst (nats a)),.t (.lst (nats b)),.b (.lat c bs),.b (.gF d kvs)]=some (.m (.lst (nats (Wk n a b))),[gW C c d n,.lat c bs,.gF d kvs]):=by
 obtain⟨y,e⟩:=IG (C:=C) (c:=c) (d:=d) (n:=n) (bs:=bs) (kvs:=kvs) (a:=a) (b:=b) a_ a [] none rfl (by show 0+_<10000;lia);have e:loop (bName 6) (dY (Q5 C) (Nv C) C) (nats a) [some (.b (gW C c d n)),AAA (.lst (nats a)),AAA (.lst (nats b)),some (.b (.lat c bs)),some (.b (.gF d kvs)),AAB [],none]=some (.nx (gS C c d n bs kvs a b (gR a b) y)):=e;have e1:=aan (C:=C) (c:=c) (d:=d) (n:=n) (bs:=bs) (kvs:=kvs) (a:=a) (b:=b) a_ a_;have pl:=BZ a b;have e2:=Q7 (ms:=gR a b) a_;have e3:=Sv (C:=C) (c:=c) (d:=d) (n:=n) (bs:=bs) (kvs:=kvs) (ms:=gR a b) a_;have h1:(nats a).length<=100000:=by unfold nats;rw[aar];lia
 unfold Wk;generalize gR a b=M at *;by_cases z:Fp n a &&& Fp n b=0
 .rw[abJ z]at e1;rw[if_pos z];simp[-bH,bh,Wi,bf,fZ,cQ,h1,e,dc,Ae,AE,AD,pL,na2,e1,e2]
 .rw[abP z]at e1;rw[if_neg z];simp[-bH,bh,Wi,bf,fZ,cQ,h1,e,dc,Ae,AE,AD,pL,na2,e1,e3]
def Xo(C:Addr):FM:=bf 5 (lC (Nv C) C)
def Wl(C:Addr):∀us r,Xo C us=some r->bf 5 (lC (Nv C) C) us=some r:=λ_ _ h=>h
def aap{b:BBJ}(hl:a.length+b.length<64):
  Xo C [.b (gW C c d n),.t (.lst (nats a)),.t (.lst (nats b)),.b (.lat c bs),.b (.gF d kvs)]=some (.m (.lst (nats (fG n (BS (a++b)) []))),[gW C c d n,.lat c bs,.gF d kvs]):=by
 have e3:=Sv (C:=C) (c:=c) (d:=d) (n:=n) (bs:=bs) (kvs:=kvs) (ms:=a++b) (by rw[aaW];exact hl);have ea:nats (a++b)=nats a++nats b:=by unfold nats;rw[ad8]
 rw[ea]at e3;have h1:(nats a).length+(nats b).length<=100000:=by simp only[nats,aar];lia
 simp[Xo,bf,lC,dc,Ae,AE,AD,pL,h1,e3]
def E3(C:Addr):FM:=bf 6 (ir (Xo C) (Wi C) C)
def Wm(C:Addr):∀us r,E3 C us=some r->bf 6 (ir (Xo C) (Wi C) C) us=some r:=λ_ _ h=>h
def SN(n:Nat)(q:Bool)(a b:BBJ):BBJ:=if q then fG n (BS (a++b)) [] else Wk n a b
def aaq{b:BBJ}(ha:a.length<64)(hb:b.length<64)(h1:a.length+b.length<64)(h2:a.length*b.length<64):
  E3 C [.b (gW C c d n),.t (.lst (nats a)),.t (.lst (nats b)),.t (.bl q),.b (.lat c bs),.b (.gF d kvs)]=some (.m (.lst (nats (SN n q a b))),[gW C c d n,.lat c bs,.gF d kvs]):=by
 have e1:=aap (C:=C) (c:=c) (d:=d) (n:=n) (bs:=bs) (kvs:=kvs) h1;have e2:=aao (C:=C) (c:=c) (d:=d) (n:=n) (bs:=bs) (kvs:=kvs) ha hb h2;cases q with
 |true=>simp[E3,bf,ir,dc,Ae,AE,AD,pL,na4,e1,SN]
 |false=>simp[E3,bf,ir,dc,Ae,AE,AD,pL,na3,e2,SN]
end
def Kq.joined{bs:List D}{b:BBJ}(h:Kq bs x a)(k:Kq bs y b):Kq bs (tH (!q) x y) (SN bs.length q a b):=by
 unfold SN;cases q with
 |true=>exact h.beside k
 |false=>
  show Kq bs (T5.prod x y) (Wk bs.length a b);unfold Wk;split
  .rename_i z;exact h.apart k z (E2 _) (Q6 _)
  .exact h.prod k
def Q9{b:BBJ}:(SN n q a b).length<=if q then a.length+b.length else a.length*b.length:=by
 have kl:∀ms:BBJ,(fG n (BS ms) []).length<=ms.length:=λms=>by
  have h1:=(u9 (n:=n) (BS ms) []).length_le;rw[acy]at h1;exact aaY h1 (Ih ms)
 unfold SN;cases q with
 |true=>
  have:=kl (a++b);rw[aaW]at this;exact this
 |false=>
  show(Wk n a b).length<=a.length*b.length;unfold Wk;rw[<-BZ];split
  .exact agK (E2 _).length_eq
  .exact kl _
def GV:FM:=bf 1 oJ
def Wn:∀us r,GV us=some r->bf 1 oJ us=some r:=λ_ _ h=>h
def SO(t:Bool):GV [.t (.bl t)]=some (.m (.lst (nats (if t then [0] else []))),[]):=by
 cases t<;>simp[GV,bf,oJ,nats]
inductive Vw where
 |lf(b:Bool)|nt (p:D)|tw (e:Bool) (p q:D)|ba
noncomputable def vw:D->Vw
 |.tup [.str z]=>if z="yes" then .lf true else if z="no" then .lf false else .ba
 |.tup [.str z,p]=>if z="not" then .nt p else .ba
 |.tup [.str z,p,q]=>if z="both" then .tw true p q else if z="either" then .tw false p q else .ba
 |_=>.ba
inductive VC(n:Nat)(d:D):Prop
 |lf(z:Str):d= .tup [.str z]->(z="yes"\/z="no")->vw d= .lf (z == ("yes":Str))->VC n d
 |nt(p:D):d= .tup [.str "not",p]->Sy n [] p->vw d= .nt p->be (n+1) d=be n p->VC n d
 |tw(z:Str)(p q:D):d= .tup [.str z,p,q]->(z="both"\/z="either")->Sy n [] p->Sy n [] q->vw d= .tw (z == ("both":Str)) p q->be (n+1) d=be n p+be n q+1->VC n d
 |ba(z:Str)(r:List D):d= .tup (.str z::r)->inD (.str z) (T5.YN.map D.str)=false->¬z="not"->inD (.str z) (T5.BE.map D.str)=false->vw d= .ba->VC n d
def vc{d:D}(h:Sy (n+1) [] d):VC n d:=by
 cases h with
 |@leaf _ _ z hz=>exact .lf z rfl hz (by rcases hz with rfl|rfl<;>rfl)
 |now h=>exact .ba _ _ rfl b_ b_ b_ rfl
 |@one _ _ z p hz hp=>
  rcases wA hz with rfl|rfl|rfl|rfl
  .exact .nt p rfl hp rfl rfl
  all_goals exact .ba _ _ rfl b_ b_ b_ rfl
 |@two _ _ z p q hz hp hq=>
  rcases wB hz with rfl|rfl|rfl
  .exact .tw _ p q rfl (.inl rfl) hp hq rfl rfl
  .exact .tw _ p q rfl (.inr rfl) hp hq rfl rfl
  .exact .ba _ _ rfl b_ b_ b_ rfl
 |Vu _ _ _=>exact .ba _ _ rfl b_ b_ b_ rfl
 |@bnd _ _ z _ _ _ hz _ _ _=>rcases hz with rfl|rfl<;>exact .ba _ _ rfl b_ b_ b_ rfl
def II:Nat->D->Bool->List Bu
 |0,_,_=>[]
 |n+1,d,t=>match vw d with
  |.lf b=>if b == t then [[]] else []
  |.nt p=>II n p (!t)
  |.tw e p q=>tH (e == t) (II n p t) (II n q t)
  |.ba=>[[(d,t)]]
def xA:Nat->D->Bool->List D->BBJ×List D
 |0,_,_,bs=>([],bs)
 |n+1,d,t,bs=>match vw d with
  |.lf b=>(if b == t then [0] else [],bs)
  |.nt p=>xA n p (!t) bs
  |.tw e p q=>(SN (xA n q t (xA n p t bs).2).2.length (!(e == t)) (xA n p t bs).1 (xA n q t (xA n p t bs).2).1,(xA n q t (xA n p t bs).2).2)
  |.ba=>([2 ^ ix (add bs d) (d,t)],add bs d)
structure MbR(bs:List D)(x:List Bu)(N k:Nat)(r:BBJ×List D):Prop where
 kq:Kq r.2 x r.1
 sub:∀b∈bs,b∈r.2
 ix:∀p:Tg,p.1∈bs->T5.ix r.2 p=T5.ix bs p
 nd:r.2.Nodup
 len:r.2.length<=bs.length+N
 few:r.1.length<=2 ^ k
theorem vd:∀(n:Nat)(d:D)(t:Bool)(bs:List D),Sy n [] d->bs.Nodup->MbR bs (II n d t) (2 ^ n) (be n d) (xA n d t bs)
 |0,d,t,bs,h,_=>by cases h
 |n+1,d,t,bs,h,nd=>by
  have two:2 ^ (n+1)=2 ^ n+2 ^ n:=by rw[ac4];lia
  cases vc h with
  |lf z e hz v=>
   unfold II xA;rw[v];dsimp only;refine⟨?_,λ_ h=>h,λ_ _=>rfl,nd,Nat.le_add_right _ _,?_⟩
   .split
    .refine⟨⟨λk hk=>⟨[],aaO.mpr rfl,by rw[aaO.mp hk];rfl,rfl⟩,λl hl _=>⟨0,aaO.mpr rfl,Nat.zero_and _⟩⟩,λa ha b hb _=>by rw[aaO.mp ha,aaO.mp hb],ae9 _ _,λl hl p hp=>by rw[aaO.mp hl]at hp;cases hp⟩
    .exact⟨⟨λk hk=>(nomatch hk),λl hl=>(nomatch hl)⟩,λa ha=>(nomatch ha),List.Pairwise.nil,λl hl=>(nomatch hl)⟩
   .split
    .exact one_pow _
    .exact abK _
  |nt p e hp v eb=>
   unfold II xA;rw[v,eb];have r:=vd n p (!t) bs hp nd;exact⟨r.kq,r.sub,r.ix,r.nd,aaY r.len (Nat.add_le_add_left (abN a_ a_) _),r.few⟩
  |tw z p q e hz hp hq v eb=>
   unfold II xA;rw[v,eb];dsimp only;have r:=vd n p t bs hp nd;have s:=vd n q t (xA n p t bs).2 hq r.nd;generalize xA n p t bs=R at *;generalize xA n q t R.2=S at *;have k1:=r.kq.ext s.ix s.sub;have k2:=k1.joined (q:=!((z == ("both":Str)) == t)) s.kq;rw[Bool.not_not]at k2;refine⟨k2,λb hb=>s.sub b (r.sub b hb),λp' hp'=>(s.ix p' (r.sub _ hp')).trans (r.ix p' hp'),s.nd,aaY s.len (by have:=r.len;lia),?_⟩;have l:=Q9 (n:=S.2.length) (q:=!((z == ("both":Str)) == t)) (a:=R.1) (b:=S.1);refine aaY l ?_;have l1:=r.few;have l2:=s.few;have j1:=one_pow (be n p);have j2:=one_pow (be n q);have m1:R.1.length*S.1.length<=2 ^ be n p*2 ^ be n q:=ahf l1 l2;have m2:2 ^ be n p*1<=2 ^ be n p*2 ^ be n q:=Nat.mul_le_mul_left _ j2;have m3:1*2 ^ be n q<=2 ^ be n p*2 ^ be n q:=Nat.mul_le_mul_right _ j1;rw[ac4,Nat.pow_add];split<;>lia
  |ba z r e h1 h2 h3 v=>
   unfold II xA;rw[v];dsimp only;have al:(add bs d).length<=bs.length+1:=by unfold add;split<;>simp
   refine⟨⟨⟨λk hk=>⟨[(d,t)],aaO.mpr rfl,?_,?_⟩,λl hl _=>⟨_,aaO.mpr rfl,?_⟩⟩,λa ha b hb _=>by rw[aaO.mp ha,aaO.mp hb],ae9 _ _,λl hl p hp=>?_⟩,λb hb=>Qn hb,λp hp=>Vz hp,V8 nd,?_,one_pow _⟩
   .rw[aaO.mp hk];unfold pR;rw[aeT,List.foldl_nil,Nat.zero_or]
   .unfold cB;cases t<;>simp
   .rw[aaO.mp hl];unfold pR;rw[aeT,List.foldl_nil,Nat.zero_or,agV]
   .rw[aaO.mp hl]at hp;rw[aaO.mp hp];exact Qm bs d
   .exact aaY al (by have:=one_pow (n+1);lia)
def mF(xT:FM)(aC:Addr):GE:=
 (eP eB (ah (eF (dc aC "of_thing" 2 xT (aW (eF (au 0)) (aW j_ bQ)) [3,4])) aB))
def mb0(bR cg bA fL:FM)(aC p:Addr):GS:=
 (cD 6 (eT (b9 1 (eC (.int 0)))))
def Xp(bR cg bA fL:FM)(aC p:Addr):GS:=
 (ju (FY (qB (eF (eP kg (ah (eF (au 6)) (ah (eC (.str "yes")) aB))))) (qB (eF (eP kg (ah (eF (au 6)) (ah (eC (.str "no")) aB)))))) (bU (bq bR (aW (eF (eP kg (ah (eF (eP kg (ah (eF (au 6)) (ah (eC (.str "yes")) aB)))) (ah (eF (au 2)) aB)))) bQ))) dg)
def Xq(bR cg bA fL:FM)(aC p:Addr):GS:=
 (ju (qB (eF (eP kg (ah (eF (au 6)) (ah (eC (.str "not")) aB))))) (bU (CY cg (b9 1 f_) (eQ (kr (qB (eF (au 2))))) 3 p [4,5])) dg)
def mb3(bR cg bA fL:FM)(aC p:Addr):GS:=
 (ju (FY (qB (eF (eP kg (ah (eF (au 6)) (ah (eC (.str "both")) aB))))) (qB (eF (eP kg (ah (eF (au 6)) (ah (eC (.str "either")) aB)))))) (aP (cD 7 (CY cg (b9 1 f_) (eF (au 2)) 3 p [4,5]))
 (aP (cD 8 (CY cg (b9 1 (eC (.int 2))) (eF (au 2)) 3 p [4,5]))
 (bU (dc aC "joined" 0 bA (aW (eF (au 7)) (aW (eF (au 8)) (aW (eF (eP kg (ah (eF (eP kg (ah (eF (au 6)) (ah (eC (.str "either")) aB)))) (ah (eF (au 2)) aB)))) bQ))) [4,5])))) dg)
def mb4(bR cg bA fL:FM)(aC p:Addr):GS:=
 (bU (MU fL (aW j_ (aW (eF (au 2)) bQ)) 3 p [4,5]))
def oK(bR cg bA fL:FM)(aC p:Addr):GS:=aP (mb0 bR cg bA fL aC p) (aP (Xp bR cg bA fL aC p) (aP (Xq bR cg bA fL aC p) (aP (mb3 bR cg bA fL aC p) (mb4 bR cg bA fL aC p))))
def aas(bR cg bA fL:FM)(aC p:Addr):oK bR cg bA fL aC p=aP (mb0 bR cg bA fL aC p) (aP (Xp bR cg bA fL aC p) (aP (Xq bR cg bA fL aC p) (aP (mb3 bR cg bA fL aC p) (mb4 bR cg bA fL aC p)))):=rfl
def Dn(KI xU E4:FM)(aC:Addr):GS:=
 (ME 2 3 4 aC (bU (dc aC "stand_of" 2 xU (aW (eF (bq E4 (AD (cG (au 2) (aW (eF (au 0)) (aW j_ bQ))) [3,4]))) bQ) [3,4])))
section
variable {C c d:Addr}{bs:List D}{b:D}{q:Bool}
def aat{s0 s1:Option U}{S:SS}:iH C (s0::s1::some (.b (gW C c d n))::S) 2=some (AE c d n):=by simp[iH,gW,AE]
def IJ(C:Addr):FM:=bf 5 (bU (mF (ZY C) C))
def Wo(C:Addr):∀us r,IJ C us=some r->bf 5 (bU (mF (ZY C) C)) us=some r:=λ_ _ h=>h
def aau(hb:Bc b)(hl:bs.length<10000):
  IJ C [.t b,.t (.bl q),.b (gW C c d bs.length),.b (.lat c bs),.b (.gF d (lq 0 bs))]=some (.m (.lst (nats [2 ^ ix (add bs b) (b,q)])),Ib C c d (add bs b)):=by
 have e:=ZZ (C:=C) (c:=c) (d:=d) (q:=q) hb hl;generalize 2 ^ ix (add bs b) (b,q)=Z at *;simp[IJ,bf,mF,dc,aat,AE,AD,pL,e,Ib,nats]
end
section
variable {p:Addr}{us:List U}{outs:List MO}{S:SS}
def f1:slotsOf (.f p::us)=slotsOf us:=rfl
def f2:cz (.f p::us)=cz us:=rfl
def f3:resolve S (.f p)=some (.f p):=rfl
def f4:wb (.f p::us) outs S=wb us outs S:=by cases outs<;>rfl
end
def KJ(C:Addr):Nat->FM
 |0=>λ_=>none
 |j+1=>λus=>match us with
  |.b o::u1::u2 :: .f p::gs=>bf 9 (oK GV (KJ C j) (E3 C) (IJ C) C p) (.b o::u1::u2 :: .f p::gs)
  |_=>none
def Wq(C:Addr)(j:Nat):∀us r,KJ C (j+1) us=some r->∃o u1 u2 p gs,us= .b o::u1::u2 :: .f p::gs/\bf 9 (oK GV (KJ C j) (E3 C) (IJ C) C p) us=some r:=λus r h=>by
 match us,h with
 |.b o::u1::u2 :: .f p::gs,h=>exact⟨_,_,_,_,_,rfl,h⟩
abbrev yS(C c d p:Addr)(bs:List D)(e:D)(t:Bool)(x y z:Option U):SS:=[some (.b (gW C c d bs.length)),AAA e,AAA (.bl t),some (.f p),some (.b (.lat c bs)),some (.b (.gF d (lq 0 bs))),x,y,z]
section
variable {C c d p:Addr}{bs:List D}{t:Bool}{f:FM}{z:Str}{r:List D}{e:D}
def Rf:mb0 GV f (E3 C) (IJ C) C p (yS C c d p bs (.tup (.str z::r)) t none none none)=some (.nx (yS C c d p bs (.tup (.str z::r)) t (AAA (.str z)) none none)):=by
 simp[-bH,bh,mb0,jN]
def aav(hz:z="yes"\/z="no"):Xp GV f (E3 C) (IJ C) C p (yS C c d p bs e t (AAA (.str z)) none none)=some (.rt (.m (.lst (nats (if(z == ("yes":Str)) == t then [0] else [])))) (yS C c d p bs e t (AAA (.str z)) none none)):=by
 have n1:¬(("no":Str)="yes"):=by decide
 have s1:=SO true;have s2:=SO false;have n2:(("no":Str) == "yes")=false:=by decide
 rcases hz with rfl|rfl<;>cases t<;>simp[Xp,s1,s2,n1,n2]
def N2(h1:¬z="yes")(h2:¬z="no"):Xp GV f (E3 C) (IJ C) C p (yS C c d p bs e t (AAA (.str z)) none none)=some (.nx (yS C c d p bs e t (AAA (.str z)) none none)):=by
 simp[Xp,h1,h2]
def SQ(h:¬z="not"):Xq GV f (E3 C) (IJ C) C p (yS C c d p bs e t (AAA (.str z)) none none)=some (.nx (yS C c d p bs e t (AAA (.str z)) none none)):=by
 simp[Xq,h]
def aev{q:D}{o:List D}{bs':List D}(e:f [.b (gW C c d bs.length),.t q,.t (.bl !t),.f p,.b (.lat c bs),.b (.gF d (lq 0 bs))]=some (.m (.lst o),Ib C c d bs')):
  Xq GV f (E3 C) (IJ C) C p (yS C c d p bs (.tup [.str "not",q]) t (AAA (.str "not")) none none)=some (.rt (.m (.lst o)) (yS C c d p bs' (.tup [.str "not",q]) t (AAA (.str "not")) none none)):=by
 have a1:dZ [D.str "not",q] 1=some q:=rfl;simp[Xq,CY,Gy,isFn,AD,f1,f2,f3,f4,a1,e,Ib]
def aaw(h1:¬z="both")(h2:¬z="either"):mb3 GV f (E3 C) (IJ C) C p (yS C c d p bs e t (AAA (.str z)) none none)=some (.nx (yS C c d p bs e t (AAA (.str z)) none none)):=by
 simp[mb3,h1,h2]
def aew{u v:D}{A B:BBJ}{o:List D}{b1 b2:List D}(hz:z="both"\/z="either")(e1:f [.b (gW C c d bs.length),.t u,.t (.bl t),.f p,.b (.lat c bs),.b (.gF d (lq 0 bs))]=some (.m (.lst (nats A)),Ib C c d b1))
  (e2:f [.b (gW C c d b1.length),.t v,.t (.bl t),.f p,.b (.lat c b1),.b (.gF d (lq 0 b1))]=some (.m (.lst (nats B)),Ib C c d b2))
  (e3:E3 C [.b (gW C c d b2.length),.t (.lst (nats A)),.t (.lst (nats B)),.t (.bl (!((z == ("both":Str)) == t))),.b (.lat c b2),.b (.gF d (lq 0 b2))]=some (.m (.lst o),Ib C c d b2)):
  mb3 GV f (E3 C) (IJ C) C p (yS C c d p bs (.tup [.str z,u,v]) t (AAA (.str z)) none none)=some (.rt (.m (.lst o)) (yS C c d p b2 (.tup [.str z,u,v]) t (AAA (.str z)) (AAA (.lst (nats A))) (AAA (.lst (nats B))))):=by
 have a1:dZ [D.str z,u,v] 1=some u:=rfl;have a2:dZ [D.str z,u,v] 2=some v:=rfl;have n1:((z == ("either":Str)) == t)=!((z == ("both":Str)) == t):=by rcases hz with rfl|rfl<;>cases t<;>decide
 rw[<-n1]at e3;generalize nats A=X at *;generalize nats B=Y at *;have q:∀S:SS,S[6]? =some (AAA (.str z))->FY (qB (eF (eP kg (ah (eF (au 6)) (ah (eC (.str "both")) aB))))) (qB (eF (eP kg (ah (eF (au 6)) (ah (eC (.str "either")) aB))))) S=some (true,S):=λS h=>by
  rcases hz with rfl|rfl
  .simp[h]
  .simp[h,show ¬(("either":Str)="both") by decide]
 have s7:cD 7 (CY f (b9 1 f_) (eF (au 2)) 3 p [4,5]) (yS C c d p bs (.tup [.str z,u,v]) t (AAA (.str z)) none none)=some (.nx (yS C c d p b1 (.tup [.str z,u,v]) t (AAA (.str z)) (AAB X) none)):=by
  simp[-bH,bh,CY,Gy,isFn,AD,f1,f2,f3,f4,a1,e1,Ib]
 have s8:cD 8 (CY f (b9 1 (eC (.int 2))) (eF (au 2)) 3 p [4,5]) (yS C c d p b1 (.tup [.str z,u,v]) t (AAA (.str z)) (AAB X) none)=some (.nx (yS C c d p b2 (.tup [.str z,u,v]) t (AAA (.str z)) (AAB X) (AAB Y))):=by
  simp[-bH,bh,CY,Gy,isFn,AD,f1,f2,f3,f4,a2,e2,Ib]
 show(FY _ _ _).bind _=_;rw[q _ rfl,aaN];show aP _ (aP _ _) _=_;rw[bu s7,bu s8];simp[-bH,bh,Ib,dc,Ae,AE,AD,pL,na5,e3]
def aex(hb:Bc e)(hl:bs.length<10000):mb4 GV f (E3 C) (IJ C) C p (yS C c d p bs e t (AAA (.str z)) none none)=some (.rt (.m (.lst (nats [2 ^ ix (add bs e) (e,t)]))) (yS C c d p (add bs e) e t (AAA (.str z)) none none)):=by
 have q:=aau (C:=C) (c:=c) (d:=d) (q:=t) hb hl;generalize nats [2 ^ ix (add bs e) (e,t)]=Z at *;simp[mb4,MU,isFn,AD,q,Ib]
end
def Wr{z:Str}(h:inD (.str z) (T5.YN.map D.str)=false):¬z="yes"/\¬z="no":=⟨λe=>by subst e;exact absurd h b_,λe=>by subst e;exact absurd h b_⟩
def Ws{z:Str}(h:inD (.str z) (T5.BE.map D.str)=false):¬z="both"/\¬z="either":=⟨λe=>by subst e;exact absurd h b_,λe=>by subst e;exact absurd h b_⟩
theorem IK{C c d:Addr}:∀(n:Nat)(e:D)(t:Bool)(bs:List D)(p:Addr),Sy n [] e->n<=5->be n e<=5->bs.Nodup->bs.length+2 ^ n<9000->
  KJ C n [.b (gW C c d bs.length),.t e,.t (.bl t),.f p,.b (.lat c bs),.b (.gF d (lq 0 bs))]=some (.m (.lst (nats (xA n e t bs).1)),Ib C c d (xA n e t bs).2)
 |0,e,t,bs,p,h,_,_,_,_=>by cases h
 |n+1,e,t,bs,p,h,hn,hb,nd,hl=>by
  have two:2 ^ (n+1)=2 ^ n+2 ^ n:=by rw[ac4];lia
  rw[two]at hl;have k0:=one_pow n;have bc:=(NO h hn).1;show(oK GV (KJ C n) (E3 C) (IJ C) C p (yS C c d p bs e t none none none)).bind _=_;rw[aas];unfold xA;cases vc h with
  |lf z ee hz v=>
   rw[v,ee,bu Rf,rY (aav hz)];rfl
  |nt q ee hq v eb=>
   rw[eb]at hb;have ih:=IK (C:=C) (c:=c) (d:=d) n q (!t) bs p hq a_ hb nd a_;rw[v,ee,bu Rf,bu (N2 b_ b_),rY (aev ih)];rfl
  |tw z u v' ee hz hu hv v eb=>
   rw[eb]at hb;have r:=vd n u t bs hu nd;have s:=vd n v' t (xA n u t bs).2 hv r.nd;have e1:=IK (C:=C) (c:=c) (d:=d) n u t bs p hu a_ a_ nd a_;have e2:=IK (C:=C) (c:=c) (d:=d) n v' t (xA n u t bs).2 p hv a_ a_ r.nd (by have:=r.len;lia);rw[v,ee];dsimp only;generalize xA n u t bs=R at *;generalize xA n v' t R.2=S at *;have l1:=r.few;have l2:=s.few;have p1:2 ^ be n u<=2 ^ 4:=abN a_ a_;have p2:2 ^ be n v'<=2 ^ 4:=abN a_ a_;have p3:2 ^ be n u*2 ^ be n v'<=2 ^ 4:=by rw[<-Nat.pow_add];exact abN a_ a_
   have m1:R.1.length*S.1.length<=2 ^ be n u*2 ^ be n v':=ahf l1 l2;have e3:=aaq (C:=C) (c:=c) (d:=d) (n:=S.2.length) (bs:=S.2) (kvs:=lq 0 S.2) (a:=R.1) (b:=S.1) (q:=!((z == ("both":Str)) == t)) a_ a_ a_ a_;rw[bu Rf,bu (N2 (by rcases hz with rfl|rfl<;>decide) (by rcases hz with rfl|rfl<;>decide)),bu (SQ (by rcases hz with rfl|rfl<;>decide)),rY (aew hz e1 e2 e3)];rfl
  |ba z r ee h1 h2 h3 v=>
   rw[v];dsimp only;have q:=aex (C:=C) (c:=c) (d:=d) (p:=p) (bs:=bs) (t:=t) (f:=KJ C n) (z:=z) bc a_;rw[ee]at q ⊢;obtain⟨y1,y2⟩:=Wr h1;obtain⟨b1,b2⟩:=Ws h3;rw[bu Rf,bu (N2 y1 y2),bu (SQ h2),bu (aaw b1 b2),q];rfl
open Classical in
def Rg(C:Addr):FM:=λus=>match us with
 |.b o::u1::u2::gs=>if h:∃r,∀p,KJ C 5 (.b o::u1::u2 :: .f p::gs)=some r then some (Classical.choose h) else none
 |_=>none
open Classical in
def Wt(C:Addr):∀us r,Rg C us=some r->∃o u1 u2 gs,us= .b o::u1::u2::gs/\∀p,KJ C 5 (.b o::u1::u2 :: .f p::gs)=some r:=λus r h=>by
 unfold Rg at h;split at h
 .split at h
  .rename_i hx;cases h;exact⟨_,_,_,_,rfl,acY hx⟩
  .cases h
 .cases h
open Classical in
def aax{o:MO}{u1 u2:U}{gs:List U}{r:U×List MO}(h:∀p,KJ C 5 (.b o::u1::u2 :: .f p::gs)=some r):Rg C (.b o::u1::u2::gs)=some r:=by
 have hx:∃r,∀p,KJ C 5 (.b o::u1::u2 :: .f p::gs)=some r:=⟨r,h⟩
 unfold Rg;dsimp only;rw[dif_pos hx];have:=acY hx 0;rw[h 0]at this;exact congrArg some (abT this).symm
def vE(e:D)(t:Bool):List Bu:=(xA 5 e t []).1.map (Il (xA 5 e t []).2)
def SR(C:Addr):FM:=bf 5 (Dn Qt (SH C) (Rg C) C)
def Wu(C:Addr):∀us r,SR C us=some r->bf 5 (Dn Qt (SH C) (Rg C) C) us=some r:=λ_ _ h=>h
def SV{e:D}{t:Bool}(h:Sy 5 [] e)(hb:be 5 e<=5):SR C [.t e,.t (.bl t)]=some (.t (pS (vE e t)),[]):=by
 have main:Dn Qt (SH C) (Rg C) C [AAA e,AAA (.bl t),none,none,none]=some (.rt (.t (pS (vE e t))) [AAA e,AAA (.bl t),none,none,none]):=by
  refine JX λc d=>?_;have r:=vd 5 e t [] h abZ;have e1:=aax (C:=C) (o:=gW C c d 0) (u1:=.t e) (u2:=.t (.bl t)) (gs:=[.b (.lat c []),.b (.gF d [])]) λp=>IK (C:=C) (c:=c) (d:=d) 5 e t [] p h a_ hb abZ b_;unfold vE;generalize xA 5 e t []=R at *;have l1:R.2.length<=0+2 ^ 5:=r.len;have l2:=r.few;have l3:2 ^ be 5 e<=2 ^ 5:=abN a_ hb;have e2:=aag (C:=C) (c:=c) (d:=d) (n:=R.2.length) (bs:=R.2) (kvs:=lq 0 R.2) (ks:=R.1) a_ (λm hm=>r.kq.lt hm) a_;have em:U3 2 3 4 C c d [AAA e,AAA (.bl t),none,none,none]=some [AAA e,AAA (.bl t),some (.m (gW C c d 0)),some (.m (.lat c [])),some (.m (.gF d []))]:=by simp[U3,gW,KC]
  rw[em,aaN];generalize nats R.1=X at *;simp[dc,aek,AE,AD,pL,e1,e2,Ib,U4,BN,nsn]
 show((Dn Qt (SH C) (Rg C) C [AAA e,AAA (.bl t),none,none,none]).bind _)=_;rw[main,aaN];rfl
def N3{e:D}{t:Bool}(h:Sy 5 [] e):Ms (II 5 e t) (vE e t):=by
 have r:=vd 5 e t [] h abZ;exact QC r.nd r.kq.vO r.kq.kp r.kq.anti r.kq.asc
def Le{α β:Type}(a b:α->Option β):Prop:=∀S r,a S=some r->b S=some r
def bd{α β:Type}{o o':Option α}{k k':α->Option β}{r:β}(h:∀x,o=some x->o'=some x)(hk:∀x,k x=some r->k' x=some r)(e:o.bind k=some r):o'.bind k'=some r:=by
 obtain⟨x,h1,h2⟩:=aj e;rw[h x h1];exact hk x h2
def mp{α β:Type}{o o':Option α}{k:α->β}{r:β}(h:∀x,o=some x->o'=some x)(e:o.map k=some r):o'.map k=some r:=by
 obtain⟨x,h1,h2⟩:=aA e;rw[h x h1];exact congrArg some h2
section
variable {a a' b b':GS}{g g' h:GE}{d d' e:GD}{q q' r r':L2.GT}{A A':GA}{f f':FM}
def Le.rfl'{α β:Type}{a:α->Option β}:Le a a:=λ_ _ h=>h
def Wv(x:Le a a')(y:Le b b'):Le (aP a b) (aP a' b'):=λS r e=>bd (x S) (λo e=>by cases o<;>first|exact y _ _ e|exact e) e
def le_if(z:Le q q')(x:Le a a')(y:Le b b'):Le (ju q a b) (ju q' a' b'):=λS r e=>bd (z S) (λp e=>by
 cases c:p.1 with
 |true=>rw[c]at e;exact x _ _ e
 |false=>rw[c]at e;exact y _ _ e) e
def Ww(x:Le g g'):Le (bU g) (bU g'):=λS r e=>bd (x S) (λ_ e=>e) e
def Wx{i:Nat}(x:Le g g'):Le (cD i g) (cD i g'):=λS r e=>bd (x S) (λ_ e=>e) e
def Rh(x:Le g g'):Le (kP g) (kP g'):=λS r e=>mp (x S) e
def aey(x:Le d d'):Le (eT d) (eT d'):=λS r e=>mp (x S) e
def aez(x:Le g g'):Le (eF g) (eF g'):=λS r e=>bd (x S) (λ_ e=>e) e
def aeA(x:Le q q'):Le (eQ q) (eQ q'):=λS r e=>mp (x S) e
def aeB(x:Le d d'):Le (qB d) (qB d'):=λS r e=>bd (x S) (λ_ e=>e) e
def Wy(x:Le q q'):Le (kr q) (kr q'):=λS r e=>mp (x S) e
def Wz(x:Le q q')(y:Le r r'):Le (yP q r) (yP q' r'):=λS s e=>bd (x S) (λp e=>by
 cases c:p.1 with
 |true=>rw[c]at e;exact y _ _ e
 |false=>rw[c]at e;exact e) e
def Ri(x:Le d d')(y:Le A A'):Le (ah d A) (ah d' A'):=λS r e=>bd (x S) (λp e=>mp (y _) e) e
def aeC{k:List D->Option U}(x:Le A A'):Le (eP k A) (eP k A'):=λS r e=>bd (x S) (λ_ e=>e) e
def aeD{i:Nat}{k:List D->MO->Option (D×MO)}(x:Le A A'):Le (eM i k A) (eM i k A'):=λS r e=>by
 unfold eM at e ⊢;split at e
 .rename_i c;rw[if_pos c];exact bd (x S) (λ_ e=>e) e
 .cases e
def Rj{gu:GU}(x:Le f f'):Le (bq f gu) (bq f' gu):=λS r e=>bd (λ_ e=>e) (λp e=>by
 split at e
 .rename_i c;rw[if_pos c];exact bd (λ_ e=>e) (λus e=>bd (x us) (λ_ e=>e) e) e
 .cases e) e
def GW{α:Type}{c:Prop}{i:Decidable c}{x x' y y':Option α}{r:α}(h1:x=some r->x'=some r)(h2:y=some r->y'=some r)(e:@ite _ c i x y=some r):@ite _ c i x' y'=some r:=by
 by_cases h:c
 .rw[if_pos h]at e ⊢;exact h1 e
 .rw[if_neg h]at e ⊢;exact h2 e
theorem An{cap:BBJ}{q:L2.GT}(x:Le d d'):∀(l:List D)(S:SS)(acc:List D)(r:List D×SS),bK cap q d l S acc=some r->bK cap q d' l S acc=some r
 |[],S,acc,r,e=>e
 |y::l,S,acc,r,e=>by
  unfold bK at e ⊢;exact bd (λ_ e=>e) (λus e=>GW (bd (λ_ e=>e) λws e=>bd (λ_ e=>e) (λp e=>GW (bd (x _) λz e=>bd (λ_ e=>e) (λouts e=>bd (λ_ e=>e) (λS' e=>An x l S' _ r e) e) e)
   (bd (λ_ e=>e) λouts e=>bd (λ_ e=>e) (λS' e=>An x l S' _ r e) e) e) e) (λe=>e) e) e
def Rk{cap:BBJ}{gi:GI}(x:Le d d'):Le (cM cap gi q d) (cM cap gi q d'):=λS r e=>bd (λ_ e=>e) (λp e=>GW (mp (An x _ _ _)) (λe=>e) e) e
theorem IL{t:GB}(x:Le a a'):∀(l:List D)(S:SS)(r:Out),loop t a l S=some r->loop t a' l S=some r
 |[],S,r,e=>e
 |y::l,S,r,e=>by
  unfold loop at e ⊢;exact bd (λ_ e=>e) (λS1 e=>bd (x S1) (λo e=>by cases o<;>first|exact IL x l _ r e|exact e) e) e
def WA{t:GB}{gi:GI}(x:Le a a'):Le (kQ t gi a) (kQ t gi a'):=λS r e=>bd (λ_ e=>e) (λp e=>IL x _ _ r e) e
def WB(x:Le a a'):Le (bf n a) (bf n a'):=λus r e=>bd (x _) (λ_ e=>e) e
end
def N4{f f':FM}(x:Le f f'):Le (cS xy f) (cS xy f'):=by
 rw[hs_eq,hs_eq];unfold hs0 hs1 hs2 Oi LY SD Xh Xi Xj hs9 QG QH cK d8
 repeat (with_reducible first|exact Le.rfl'|exact x|apply Wv|apply le_if|apply Ww|apply Wx|apply Rh|apply aey|apply aez|apply aeA|apply aeB|apply Wy|apply Wz|apply aeC|apply aeD|apply Ri|apply Rj|apply Rk|apply WA)
theorem SW:∀n,Le (AF n) (AF (n+1))
 |0=>λ_ _ h=>by cases h
 |n+1=>WB (N4 (SW n))
def aay{m:Nat}(h:n<=m):Le (AF n) (AF m):=by
 induction h with
 |refl=>exact λ_ _ e=>e
 |step _ ih=>exact λS r e=>SW _ S r (ih S r e)
section
variable {row:List D}{z:Str}{p q d:D}{b c:Bool}{n:Nat}
abbrev Ou(n:Nat)(d:D)(row:List D):Option (U×List MO):=AF n [.t d,.t (.tup row),.t (.int 0),.b (.dct [])]
def fin_run{rest:SS}(e:cS xy (AF n) [AAA d,AAA (.tup row),AAC 0,some (.b (.dct [])),none,none,none,none]=some (.rt (.t (.bl b)) (AAA d::AAA (.tup row)::AAC 0::some (.b (.dct []))::rest))):Ou (n+1) d row=some (.t (.bl b),[.dct []]):=by
 show((cS xy (AF n) [AAA d,AAA (.tup row),AAC 0,some (.b (.dct [])),none,none,none,none]).bind _)=_;rw[e];simp
def WC(hz:z="yes"\/z="no"):Ou (n+1) (.tup [.str z]) row=some (.t (.bl (z == ("yes":Str))),[.dct []]):=by
 have i:=T5.tK z;have h1:inD (.str z) (T5.YN.map D.str)=true:=by rcases hz with rfl|rfl<;>decide
 rw[h1]at i;refine fin_run (rest:=[AAA (.str z),none,none,none]) ?_;rw[hs_eq,bu h0];exact rY (by simp[hs1,i])
def aaz(e:Ou n p row=some (.t (.bl b),[.dct []])):Ou (n+1) (.tup [.str "not",p]) row=some (.t (.bl (!b)),[.dct []]):=by
 have a1:dZ [D.str "not",p] 1=some p:=rfl;refine fin_run (rest:=[AAA (.str "not"),none,none,none]) ?_;rw[hs_eq,bu h0,bu (k1 b_),bu (k2 b_)];have e:AF n [.t p,.t (.tup row),.t (.int 0),.b (.dct [])]=_:=e;exact rY (by simp[Oi,a1,e])
def aeE(hz:z="both"\/z="either")(e1:Ou n p row=some (.t (.bl b),[.dct []]))(e2:Ou n q row=some (.t (.bl c),[.dct []])):Ou (n+1) (.tup [.str z,p,q]) row=some (.t (.bl (if(z == ("both":Str)) then b && c else b || c)),[.dct []]):=by
 refine fin_run (rest:=[AAA (.str z),AAB [.bl b,.bl c],none,none]) ?_;rw[hs_eq,bu h0,bu (k1 (by rcases hz with rfl|rfl<;>decide)),bu (k2 (by rcases hz with rfl|rfl<;>decide)),bu (k3 (by rcases hz with rfl|rfl<;>decide))];exact rY (T5.aab (a:=0) hz e1 e2)
def aaA(e:Ou 9 d row=some (.t (.bl b),[.dct []])):fv d (.tup row)=b:=by
 have e:AF 9 [.t d,.t (.tup row),.t (.int 0),.b (.dct [])]=_:=e;have main:Di [.t d,.t (.tup row)]=some (.t (.bl b),[]):=by simp[Di,bf,jy,Ef,e]
 unfold fv;rw[main]
def IM(hr:Rw (.tup row))(h:Sy n [] d)(hn:n<=9):Ou n d row=some (.t (.bl (fv d (.tup row))),[.dct []]):=by
 obtain⟨rw',e,hl,hh⟩:=hr.ex;cases e;obtain⟨x,e⟩:=Ip hh hl n [] d [] h ⟨λ_ h=>(by cases h),λ_ h=>(by cases h),aaP _⟩ (by show 0+n<1000;lia) 0 (abK _);have e:Ou n d row=some (.t (.bl x),[.dct []]):=e;rw[aaA (aay hn _ _ e)];exact e
def Rm{row:D}(x y:List Bu):rZ row (x++y)=(rZ row x || rZ row y):=ahb
def N5{row:D}(x y:List Bu):rZ row (T5.prod x y)=(rZ row x && rZ row y):=by
 have cat:∀a k:Bu,qI row (a++k)=(qI row a && qI row k):=λa k=>List.all_append;unfold rZ T5.prod
 induction x with
 |nil=>rfl
 |cons a x ih=>
  rw[agE,ahb,ih,acM,agP];have:(y.any (qI row ∘ λb=>a++b))=(qI row a && y.any (qI row)):=by
   clear ih
   induction y with
   |nil=>simp
   |cons k y ih2=>rw[acM,acM,ih2];show(qI row (a++k) || _)=_;rw[cat];cases qI row a<;>simp
  rw[this];cases qI row a<;>cases x.any (qI row)<;>cases y.any (qI row)<;>rfl
def GX{l:List MO}(h:some (U.t (.bl b),l)=some (U.t (.bl c),l)):b=c:=by injection h with h;injection h with h;injection h with h;injection h
theorem yz(hr:Rw (.tup row)):∀(n:Nat)(d:D)(t:Bool),Sy n [] d->n<=5->rZ (.tup row) (II n d t)=(fv d (.tup row) == t)
 |0,d,t,h,_=>by cases h
 |n+1,d,t,h,hn=>by
  have e:=IM hr h a_;unfold II;cases vc h with
  |lf z ee hz v=>
   subst ee;have this:=GX ((WC (n:=n) (row:=row) hz).symm.trans e);rw[v,<-this];dsimp only;cases((z == ("yes":Str)) == t)<;>rfl
  |nt p ee hp v eb=>
   subst ee;have this:=GX ((aaz (IM hr hp a_)).symm.trans e);rw[v,<-this];dsimp only;rw[yz hr n p (!t) hp a_];cases fv p (.tup row)<;>cases t<;>rfl
  |tw z p q ee hz hp hq v eb=>
   subst ee;have this:=GX ((aeE hz (IM hr hp a_) (IM hr hq a_)).symm.trans e);rw[v,<-this];dsimp only;have i1:=yz hr n p t hp a_;have i2:=yz hr n q t hq a_;unfold tH;generalize fv p (.tup row)=P at *;generalize fv q (.tup row)=Q at *;clear this e;cases(z == ("both":Str))<;>cases t<;>simp[Rm,N5,i1,i2]<;>cases P<;>cases Q<;>rfl
  |ba z r ee h1 h2 h3 v=>
   rw[v];show((fv d (.tup row) == t) && true || false)=_;simp
end
def E5{z:List Bu}(h:yw x y=true)(k:yw y z=true):yw x z=true:=dP.mpr λl hl hv=>by
 obtain⟨a,ha,s⟩:=dP.mp h l hl hv;obtain⟨b,hb,s2⟩:=dP.mp k a ha (Xl s hv);exact⟨b,hb,fu s2 s⟩
def oM :KD x y=true↔yw x y=true/\yw y x=true:=by unfold T6.KD;rw[abS]
def N6{a b:List Bu}(h:yw x a=true)(k:yw y b=true):yw (tH q x y) (tH q a b)=true:=dP.mpr λl hl hv=>by
 unfold tH at hl ⊢;cases q with
 |true=>
  obtain⟨c,hc,d,hd,rfl⟩:=nL.mp hl;obtain⟨e,he,s1⟩:=dP.mp h c hc (Xl (SJ c d) hv);obtain⟨f,hf,s2⟩:=dP.mp k d hd (Xl (SK c d) hv);exact⟨e++f,nL.mpr ⟨e,he,f,hf,rfl⟩,Q0 s1 s2⟩
 |false=>
  rcases abu.mp hl with z|z
  .obtain⟨e,he,s⟩:=dP.mp h l z hv;exact⟨e,acp _ he,s⟩
  .obtain⟨e,he,s⟩:=dP.mp k l z hv;exact⟨e,abE _ he,s⟩
def Ms.same{rp:Tg->Str}{s:List Bu}(h:Ms x r)(k:Ms y s)(e:KD x y=true):kZ (r.map (Fo rp))=kZ (s.map (Fo rp)):=by
 obtain⟨h1,h2⟩:=oM.mp e;have w:=h.within k h1 h2;obtain⟨F,hF⟩:∃F:Bu->Bu,∀a∈r,F a∈s/\dJ a (F a)=true/\dJ (F a) a=true:=⟨λa=>if q:a∈r then Classical.choose (w a q) else a,λa ha=>by
  dsimp only;rw[dif_pos ha];exact acY (w a ha)⟩
 have nd:(r.map F).Nodup:=acW.mpr (h.rnd.imp_of_mem λ{a b} ha hb n e=>n (h.anti a ha b hb (fu (e▸(hF a ha).2.1) (hF b hb).2.2)));have p:(r.map F).Perm s:=(agA nd k.rnd).mpr λb=>⟨λhb=>by
  obtain⟨a,ha,rfl⟩:=aa2.mp hb;exact(hF a ha).1,λhb=>by
  obtain⟨a,ha,_,i2⟩:=k.within h h2 h1 b hb;obtain⟨j1,_,j3⟩:=hF a ha;exact aa2.mpr ⟨a,ha,k.anti _ j1 b hb (fu j3 i2)⟩⟩
 refine zU (.trans (.of_eq ?_) (p.map (Fo rp)));rw[abV];exact ab2 λa ha=>NH (h.nd a ha) (k.nd _ (hF a ha).1) (hF a ha).2.1 (hF a ha).2.2
def aaB(h:Td x r):KD x r=true:=oM.mpr ⟨dP.mpr h.all,dP.mpr λk hk _=>let⟨_,l,hl,_,e⟩:=h.tr.from_ k hk;⟨l,hl,e⟩⟩
def Rn{a b:List Bu}(h:KD x a=true)(k:KD y b=true)(t:Td (tH q a b) r):KD (tH q x y) r=true:=by
 obtain⟨h1,h2⟩:=oM.mp h;obtain⟨k1,k2⟩:=oM.mp k;obtain⟨t1,t2⟩:=oM.mp (aaB t);exact oM.mpr ⟨E5 (N6 h1 k1) t1,E5 t2 (N6 h2 k2)⟩
structure LdR(N k:Nat)(x r:List Bu):Prop where
 gr:GR N r
 gx:GR N x
 lr:r.length<=2 ^ k
 eq:KD x r=true
def Ro{a b:List Bu}{m k:Nat}(ha:a.length<=2 ^ m)(hb:b.length<=2 ^ k):(tH q a b).length<=2 ^ (m+k+1):=by
 have k1:=one_pow m;have k2:=one_pow k;have m1:a.length*b.length<=2 ^ m*2 ^ k:=ahf ha hb;have m2:2 ^ m*1<=2 ^ m*2 ^ k:=Nat.mul_le_mul_left _ k2;have m3:1*2 ^ k<=2 ^ m*2 ^ k:=Nat.mul_le_mul_right _ k1;rw[ac4,Nat.pow_add];unfold tH;split
 .rw[EX];lia
 .rw[aaW];lia
theorem Rp:∀(n:Nat)(d:D)(t:Bool),Sy n [] d->n<=5->be n d<=5->∃r,KG n [.t d,.t (.bl t)]=some (.m (.lst (r.map cu)),[])/\LdR (2 ^ n) (be n d) (II n d t) r
 |0,d,t,h,_,_=>by cases h
 |n+1,d,t,h,hn,hb=>by
  have gd:=NO h a_;unfold II;cases vc h with
  |lf z e hz v=>
   subst e;rw[v];dsimp only;have eb:decide (z=("yes":Str))=(z == ("yes":Str)):=by rcases hz with rfl|rfl<;>decide
   have g:GR (2 ^ (n+1)) (if(z == ("yes":Str)) == t then [[]] else []):=λl hl=>by
    split at hl
    .rw[aaO.mp hl];exact⟨λp hp=>(by cases hp),abK _⟩
    .cases hl
   refine⟨if(z == ("yes":Str)) == t then [[]] else [],?_,g,g,?_,EW _⟩
   .show bf 3 _ _=_;rw[QF hz,eb];split<;>rfl
   .have:=one_pow (be (n+1) (.tup [.str z]));split
    .exact this
    .exact abK _
  |nt p e hp v eb=>
   subst e;rw[eb]at hb;rw[v,eb];obtain⟨r,e1,q⟩:=Rp n p (!t) hp a_ hb;have le:2 ^ n<=2 ^ (n+1):=abN a_ a_;exact⟨r,VI e1,q.gr.mono le,q.gx.mono le,q.lr,q.eq⟩
  |tw z p q e hz hp hq v eb=>
   subst e;rw[eb]at hb;rw[v,eb];dsimp only;obtain⟨r1,e1,q1⟩:=Rp n p t hp a_ a_;obtain⟨r2,e2,q2⟩:=Rp n q t hq a_ a_;have hN:2 ^ n<=2 ^ 5:=abN a_ a_;have p1:2 ^ be n p<=2 ^ 4:=abN a_ a_;have p2:2 ^ be n q<=2 ^ 4:=abN a_ a_;have hl:=Ro (q:=(z == ("both":Str)) == t) q1.lr q2.lr;have h5:2 ^ (be n p+be n q+1)<=2 ^ 5:=abN a_ a_;have l1:=q1.lr;have l2:=q2.lr;obtain⟨r,e3,td⟩:=Z6 (t:=(z == ("both":Str)) == t) q1.gr q2.gr a_ a_ a_ a_;have le:2 ^ n+2 ^ n<=2 ^ (n+1):=by rw[ac4];lia
   exact⟨r,VJ hz e1 e2 e3,((q1.gr.put q2.gr).aem td).mono le,(q1.gx.put q2.gx).mono le,aaY td.len hl,Rn q1.eq q2.eq td⟩
  |ba z r e h1 h2 h3 v=>
   rw[v];dsimp only;refine⟨[[(d,t)]],?_,EY gd,EY gd,one_pow _,EW _⟩;subst e;exact NN h1 h2 h3
def aaC{e:D}{t:Bool}{k:Bu}(h:Sy 5 [] e)(hk:k∈vE e t):∃l∈II 5 e t,(∀p,p∈k↔p∈l)/\k.length<=l.length:=by
 have r:=vd 5 e t [] h abZ;have nd:=(N3 (t:=t) h).nd k hk;obtain⟨m,hm,rfl⟩:=aa2.mp hk;obtain⟨l,hl,e2,_⟩:=r.kq.kp.from_ m hm;rw[e2]at nd ⊢;have s:=qG (r.kq.vO l hl);obtain⟨c,pm⟩:=Ak nd λp hp=>(s p).mp hp;have:=pm.length_eq;rw[aaW]at this;exact⟨l,hl,s,by lia⟩
def told{e:D}{t:Bool}(h:Sy 5 [] e)(hb:be 5 e<=5):∃r:List Bu,KG 5 [.t e,.t (.bl t)]=some (.m (.lst (r.map cu)),[])/\QY [.t (pS (vE e t)),.t (.lst (r.map cu))]=some (.t (.bl true),[])/\GR 900 (vE e t):=by
 obtain⟨r,e1,q⟩:=Rp 5 e t h (aaP _) hb;have l3:2 ^ be 5 e<=2 ^ 5:=abN a_ hb;have gl:∀k∈vE e t,QE k/\k.length<=2 ^ 5:=λk hk=>by
  obtain⟨l,hl,s,n⟩:=aaC h hk;exact⟨λp hp=>(q.gx l hl).1 p ((s p).mp hp),aaY n (q.gx l hl).2⟩
 have few:=(vd 5 e t [] h abZ).few;have gr:Gs r:=⟨λl hl=>⟨(q.gr l hl).1,by have:=(q.gr l hl).2;lia⟩,by have:=q.lr;lia⟩
 have gy:Gs (vE e t):=⟨λl hl=>⟨(gl l hl).1,by have:=(gl l hl).2;lia⟩,by unfold vE;rw[aar];lia⟩
 have:=aal (b:=true) gr gy;have key:decide (Al (vE e t)=Al (Dk r))=true:=abJ (Ms.same (N3 h) (Wa r) q.eq);rw[key]at this;exact⟨r,e1,this,λk hk=>⟨(gl k hk).1,by have:=(gl k hk).2;lia⟩⟩
def fits{e:D}{t:Bool}{row:List D}(h:Sy 5 [] e)(hr:Rw (.tup row)):rZ (.tup row) (vE e t)=(fv e (.tup row) == t):=by
 rw[<-yz hr 5 e t h (aaP _)];obtain⟨h1,h2⟩:=oM.mp (N3 (t:=t) h).sh;rw[aec];exact⟨BX h2,BX h1⟩
def JV(gf ak:FM):GS:=
 (cD 3 (bq gf (aW j_ bQ)))
def W5(gf ak:FM):GS:=
 (bU (eP sU (ah (eF (cM [0,3] (ql (ah (eF (bq ak (cG (au 0) (aW (eF (eP gU (ah (eF (au 2)) (ah f_ aB)))) bQ)))) aB)) bB (b9 2 (eF (bq ak (cG (au 1) (aW (nq 2) bQ))))))) aB)))
def oN(gf ak:FM):GS:=aP (JV gf ak) (W5 gf ak)
def aaD(gf ak:FM):oN gf ak=aP (JV gf ak) (W5 gf ak):=rfl
def SX:FM:=bf 4 (oN QN cN)
def rw_run:∀us r,SX us=some r->bf 4 (oN QN cN) us=some r:=λ_ _ h=>h
def Xr:GD:=b9 2 (eF (bq cN (cG (au 1) (aW (nq 2) bQ))))
abbrev rS(T:MO)(td:D)(H:AAJ):SS:=[some (.b T),AAA td,AAC 4,AAB (H.map qH)]
def rw_one{T1:MO}{k:D}{H:AAJ}{v:Int}{x:Str×Int}{acc:List D}(e:cN [.b T,.t (.int (H.length:Nat))]=some (.t (.int v),[T1]))(hx:dZ (H.map qH) v=some (qH x)):
  bK [0,3] bB Xr [k] (rS T td H) acc=some (acc++[qH x],rS T1 td H):=by
 simp[bK,dz,oh,bB,Xr,e,hx]
theorem rw_comp{td:D}{H:AAJ}(h0:0<H.length)(h1:H.length<=12):∀(ks:List D)(T:MO)(n:Nat)(acc:List D),Fd n T->n+ks.length<900000->
  ∃(l:AAJ)(T':MO),bK [0,3] bB Xr ks (rS T td H) acc=some (acc++l.map qH,rS T' td H)/\l.length=ks.length/\Fd (n+ks.length) T'
 |[],T,n,acc,hT,_=>⟨[],T,by simp[bK],rfl,hT⟩
 |k::ks,T,n,acc,hT,hn=>by
  have hn:n+(ks.length+1)<900000:=hn;obtain⟨v,T1,e,v0,v1,hT1⟩:=dO (m:=(H.length:Nat)) hT a_ a_ a_;obtain⟨j,rfl⟩:=af1 v0;have hj:j<H.length:=by lia
  have hx:dZ (H.map qH) (j:Int)=some (qH H[j]):=GL (by rw[abI,aaS hj];rfl);obtain⟨l,T',e2,hl,hT'⟩:=rw_comp h0 h1 ks T1 (n+1) (acc++[qH H[j]]) hT1 a_;refine⟨H[j]::l,T',?_,by rw[abD,abD,hl],hT'.mono (by rw[abD];lia)⟩;rw[Sq.lg,rw_one e hx,aaN];show bK [0,3] bB Xr ks (rS T1 td H) _=_;rw[e2];simp
def rw_ok(hT:Fd n T)(hn:n<800000)(ht:Tb td)(htn:Tn td):∃(row:List D)(T':MO),SX [.b T,.t td,.t (.int 4)]=some (.t (.tup row),[T'])/\Rw (.tup row)/\Fd (n+6) T':=by
 obtain⟨H,⟨h12,hds⟩,ea⟩:=aae htn;obtain⟨rows,e,ne,_,_⟩:=ht;have h0:0<H.length:=by
  have:=hds _ e;rw[aar]at this;have:=List.length_pos_iff.mpr ne;lia
 obtain⟨v,T1,e1,v0,v1,hT1⟩:=dO (m:=5) hT a_ b_ b_;obtain⟨j,rfl⟩:=af1 v0;have rl:(pH 0 j).length=j:=by unfold pH;rw[aar,abW]
 obtain⟨l,T',e2,hl,hT'⟩:=rw_comp (td:=td) h0 h12 (pH 0 j) T1 (n+1) [] hT1 (by rw[rl];lia);rw[rl]at hl hT';rw[acy]at e2;refine⟨l.map qH,T',?_,⟨⟨_,rfl,by rw[aar];lia,λh hh=>?_⟩⟩,hT'.mono a_⟩
 .have s0:JV QN cN [some (.b T),AAA td,AAC 4,none]=some (.nx (rS T td H)):=by simp[-bH,bh,JV,ea]
  have er:ql (ah (eF (bq cN (cG (au 0) (aW (eF (eP gU (ah (eF (au 2)) (ah f_ aB)))) bQ)))) aB) (rS T td H)=some (pH 0 j,rS T1 td H):=by
   have ga:ah (eF (bq cN (cG (au 0) (aW (eF (eP gU (ah (eF (au 2)) (ah f_ aB)))) bQ)))) aB (rS T td H)=some ([.int (j:Int)],rS T1 td H):=by simp[e1]
   rw[Hz,ga,aaN];exact if_pos ⟨by lia,by lia⟩
  have h5:(l.map qH).length<=100000:=by rw[aar];lia
  have s1:W5 QN cN (rS T td H)=some (.rt (.t (.tup (l.map qH))) (rS T' td H)):=by
   have ec:cM [0,3] (ql (ah (eF (bq cN (cG (au 0) (aW (eF (eP gU (ah (eF (au 2)) (ah f_ aB)))) bQ)))) aB)) bB Xr (rS T td H)=some (.m (.lst (l.map qH)),rS T' td H):=by
    unfold cM;rw[er,aaN];dsimp only;rw[if_pos (by rw[rl];lia),e2];rfl
   unfold Xr at ec;simp[-uR,W5,ec,h5]
  show(oN QN cN [some (.b T),AAA td,AAC 4,none]).bind _=_;rw[aaD,bu s0,s1];rfl
 .obtain⟨p,_,rfl⟩:=aa2.mp hh;exact⟨p,rfl⟩
def N7(C:Addr)(us:List U):KJ C 0 us=none:=rfl
def wb0(aQ aL ao ak cj aE aM aV aF az:FM):GS:=
 (cD 7 (bq aV (cG (au 1) (aW (eF (au 2)) (aW (eC (.int 4)) bQ)))))
def wb1(aQ aL ao ak cj aE aM aV aF az:FM):GS:=
 (cD 8 (bq aF (aW (eF (au 4)) (aW (eF (au 7)) bQ))))
def wb2(aQ aL ao ak cj aE aM aV aF az:FM):GS:=
 (ju (FY (qB (eF (eP Bt (ah (eF (bq az (aW (b9 5 f_) (aW (eF (au 7)) bQ)))) (ah (eF (au 8)) aB))))) (qB (eF (eP kg (ah (eF (bq az (aW (b9 5 (eC (.int 0))) (aW (eF (au 7)) bQ)))) (ah (eF (au 8)) aB)))))) (bU (eT (eC (.bl false)))) dg)
def Ao(aQ aL ao ak cj aE aM aV aF az:FM):GS:=aP (wb0 aQ aL ao ak cj aE aM aV aF az) (aP (wb1 aQ aL ao ak cj aE aM aV aF az) (wb2 aQ aL ao ak cj aE aM aV aF az))
def aaF(aQ aL ao ak cj aE aM aV aF az:FM):Ao aQ aL ao ak cj aE aM aV aF az=aP (wb0 aQ aL ao ak cj aE aM aV aF az) (aP (wb1 aQ aL ao ak cj aE aM aV aF az) (wb2 aQ aL ao ak cj aE aM aV aF az)):=rfl
def vb0(aQ aL ao ak cj aE aM aV aF az:FM):GS:=
 (cD 4 (bq ao (cG (au 1) (aW (eF (au 2)) (aW (eF (eP fT aB)) (cG (eP eB (ah (eF (eP gU (ah f_ (ah (eF (bq ak (cG (au 1) (aW (eC (.int 9)) bQ)))) aB)))) (ah (eC (.int 3)) aB))) (aW (eC (.int 5)) bQ)))))))
def vb1(aQ aL ao ak cj aE aM aV aF az:FM):GS:=
 (cD 5 (eP eB (ah (eF (bq cj (aW (eF (au 4)) (aW (eC (.bl false)) bQ)))) (ah (eF (bq cj (aW (eF (au 4)) (aW (eC (.bl true)) bQ)))) aB))))
def vb2(aQ aL ao ak cj aE aM aV aF az:FM):GS:=
 (ju (kr (qB (eF (bq aE (aW (b9 5 (eC (.int 0))) (aW (eF (bq aM (aW (eF (au 4)) (aW (eC (.bl false)) bQ)))) bQ)))))) (bU (eT (eC (.bl false)))) dg)
def vb3(aQ aL ao ak cj aE aM aV aF az:FM):GS:=
 (ju (kr (qB (eF (bq aE (aW (b9 5 f_) (aW (eF (bq aM (aW (eF (au 4)) (aW (eC (.bl true)) bQ)))) bQ)))))) (bU (eT (eC (.bl false)))) dg)
def vb4(aQ aL ao ak cj aE aM aV aF az:FM):GS:=
 (kQ (bName 6) (ql (ah (eC (.int 4)) aB)) (Ao aQ aL ao ak cj aE aM aV aF az))
def Aq(aQ aL ao ak cj aE aM aV aF az:FM):GS:=aP (vb0 aQ aL ao ak cj aE aM aV aF az) (aP (vb1 aQ aL ao ak cj aE aM aV aF az) (aP (vb2 aQ aL ao ak cj aE aM aV aF az) (aP (vb3 aQ aL ao ak cj aE aM aV aF az) (vb4 aQ aL ao ak cj aE aM aV aF az))))
def aaG(aQ aL ao ak cj aE aM aV aF az:FM):Aq aQ aL ao ak cj aE aM aV aF az=aP (vb0 aQ aL ao ak cj aE aM aV aF az) (aP (vb1 aQ aL ao ak cj aE aM aV aF az) (aP (vb2 aQ aL ao ak cj aE aM aV aF az) (aP (vb3 aQ aL ao ak cj aE aM aV aF az) (vb4 aQ aL ao ak cj aE aM aV aF az)))):=rfl
def lw0(aQ aL ao ak cj aE aM aV aF az:FM):GS:=
 (cD 1 (bq aQ (cG (au 0) bQ)))
def lw1(aQ aL ao ak cj aE aM aV aF az:FM):GS:=
 (cD 2 (bq aL (cG (au 1) bQ)))
def lw2(aQ aL ao ak cj aE aM aV aF az:FM):GS:=
 (kQ (bName 3) (ql (ah (eC (.int 6)) aB)) (Aq aQ aL ao ak cj aE aM aV aF az))
def lw3(aQ aL ao ak cj aE aM aV aF az:FM):GS:=
 (bU (eT (eC (.bl true))))
def E6(aQ aL ao ak cj aE aM aV aF az:FM):GS:=aP (lw0 aQ aL ao ak cj aE aM aV aF az) (aP (lw1 aQ aL ao ak cj aE aM aV aF az) (aP (lw2 aQ aL ao ak cj aE aM aV aF az) (lw3 aQ aL ao ak cj aE aM aV aF az)))
def lw_eq(aQ aL ao ak cj aE aM aV aF az:FM):E6 aQ aL ao ak cj aE aM aV aF az=aP (lw0 aQ aL ao ak cj aE aM aV aF az) (aP (lw1 aQ aL ao ak cj aE aM aV aF az) (aP (lw2 aQ aL ao ak cj aE aM aV aF az) (lw3 aQ aL ao ak cj aE aM aV aF az))):=rfl
section
variable {f1 f2 f3 f4 f5 f6 f7 f8 f9 NU:FM}{ns:BBD}{T T1 T2:MO}{td d a b row:D}{q:Bool}{x3 x4 x5 x6 x7 x8:Option U}
noncomputable abbrev kS(ns:BBD)(T:MO)(td:D)(x3 x4 x5 x6 x7 x8:Option U):SS:=[some (.s ns),some (.m T),AAA td,x3,x4,x5,x6,x7,x8]
def r0(h7:jE x7=false)(e:f8 [.b T,.t td,.t (.int 4)]=some (.t row,[T1])):wb0 f1 f2 f3 f4 f5 f6 f7 f8 f9 NU (kS ns T td x3 x4 x5 x6 x7 x8)=some (.nx (kS ns T1 td x3 x4 x5 x6 (AAA row) x8)):=by simp[-bH,bh,wb0,h7,e]
def r1(h8:jE x8=false)(e:f9 [.t d,.t row]=some (.t (.bl q),[])):wb1 f1 f2 f3 f4 f5 f6 f7 f8 f9 NU (kS ns T td x3 (AAA d) x5 x6 (AAA row) x8)=some (.nx (kS ns T td x3 (AAA d) x5 x6 (AAA row) (AAA (.bl q)))):=by simp[-bH,bh,wb1,h8,e]
def r2(e1:NU [.t b,.t row]=some (.t (.bl q),[]))(e2:NU [.t a,.t row]=some (.t (.bl (!q)),[])):wb2 f1 f2 f3 f4 f5 f6 f7 f8 f9 NU (kS ns T td x3 x4 (AAB [a,b]) x6 (AAA row) (AAA (.bl q)))=some (.nx (kS ns T td x3 x4 (AAB [a,b]) x6 (AAA row) (AAA (.bl q)))):=by
 have i0:dZ [a,b] 0=some a:=rfl;have i1:dZ [a,b] 1=some b:=rfl;have n1:Bt [.bl q,.bl q]=AAA (.bl false):=by cases q<;>rfl
 have n2:kg [.bl (!q),.bl q]=AAA (.bl false):=by cases q<;>rfl
 simp[-Zj,wb2,i0,i1,e1,e2,n1,n2]
def q0{v:Int}{T3:MO}(h4:jE x4=false)(e1:f4 [.b T,.t (.int 9)]=some (.t (.int v),[T1]))(e:f3 [.b T1,.t td,.t (.tup []),.b (bg (1+v) 3),.t (.int 5)]=some (.t d,[T2,T3])):vb0 f1 f2 f3 f4 f5 f6 f7 f8 f9 NU (kS ns T td x3 x4 x5 x6 x7 x8)=some (.nx (kS ns T2 td x3 (AAA d) x5 x6 x7 x8)):=by simp[-bH,bh,vb0,gU,h4,e1,e]
def q1(h5:jE x5=false)(e1:f5 [.t d,.t (.bl false)]=some (.t a,[]))(e2:f5 [.t d,.t (.bl true)]=some (.t b,[])):vb1 f1 f2 f3 f4 f5 f6 f7 f8 f9 NU (kS ns T td x3 (AAA d) x5 x6 x7 x8)=some (.nx (kS ns T td x3 (AAA d) (AAB [a,b]) x6 x7 x8)):=by simp[-bH,bh,vb1,h5,e1,e2]
def q2{l:List D}(e1:f7 [.t d,.t (.bl false)]=some (.m (.lst l),[]))(e2:f6 [.t a,.t (.lst l)]=some (.t (.bl true),[])):vb2 f1 f2 f3 f4 f5 f6 f7 f8 f9 NU (kS ns T td x3 (AAA d) (AAB [a,b]) x6 x7 x8)=some (.nx (kS ns T td x3 (AAA d) (AAB [a,b]) x6 x7 x8)):=by
 have i0:dZ [a,b] 0=some a:=rfl;simp[vb2,i0,e1,e2]
def q3{l:List D}(e1:f7 [.t d,.t (.bl true)]=some (.m (.lst l),[]))(e2:f6 [.t b,.t (.lst l)]=some (.t (.bl true),[])):vb3 f1 f2 f3 f4 f5 f6 f7 f8 f9 NU (kS ns T td x3 (AAA d) (AAB [a,b]) x6 x7 x8)=some (.nx (kS ns T td x3 (AAA d) (AAB [a,b]) x6 x7 x8)):=by
 have i1:dZ [a,b] 1=some b:=rfl;simp[vb3,i1,e1,e2]
end
abbrev Xs(C:Addr){α:Type}(g:FM->FM->FM->FM->FM->FM->FM->FM->FM->FM->α):α:=g sF Sd.oF (rX 5) cN (SR C) QY (KG 5) SX Di QL
inductive I20(ns:BBD)(td:D)(x3 x4 x5:Option U)(n:Nat)(S:SS):Prop where
 |mk{T:MO}{x6 x7 x8:Option U}:S=kS ns T td x3 x4 x5 x6 x7 x8->jE x6=false->jE x7=false->jE x8=false->Fd n T->I20 ns td x3 x4 x5 n S
def aaH{e:D}(hT:Fd n T)(hn:n<800000)(ht:Tb td)(htn:Tn td)(h:Sy 5 [] e)(hl:∀t,GR 900 (vE e t))(h7:jE x7=false)(h8:jE x8=false):
  ∃T' y7 y8,jE y7=false/\jE y8=false/\Fd (n+6) T'/\Xs C Ao (kS ns T td x3 (AAA e) (AAB [pS (vE e false),pS (vE e true)]) x6 x7 x8)=some (.nx (kS ns T' td x3 (AAA e) (AAB [pS (vE e false),pS (vE e true)]) x6 y7 y8)):=by
 obtain⟨row,T',e1,hr,h1⟩:=rw_ok hT hn ht htn;have e2:=SE (NO h (aaP _)) hr;have e3:=SG hr (hl true);have e4:=SG hr (hl false);rw[fits h hr]at e3 e4;have b1:(fv e (.tup row) == true)=fv e (.tup row):=by simp
 have b2:(fv e (.tup row) == false)=!fv e (.tup row):=by simp
 rw[b1]at e3;rw[b2]at e4;refine⟨T',AAA (.tup row),AAA (.bl (fv e (.tup row))),rfl,rfl,h1,?_⟩;show Ao _ _ _ _ _ _ _ _ _ _ _=_;rw[aaF,bu (r0 h7 e1),bu (r1 h8 e2)];exact r2 e3 e4
def WD{x4 x5:Option U}(hT:Fd n T)(hn:n<300000)(ht:Tb td)(htn:Tn td)
  (h4:jE x4=false)(h5:jE x5=false)(h6:jE x6=false)(h7:jE x7=false)(h8:jE x8=false):
  ∃y4 y5 S',jE y4=false/\jE y5=false/\Xs C Aq (kS ns T td x3 x4 x5 x6 x7 x8)=some (.nx S')/\I20 ns td x3 y4 y5 (n+300) S':=by
 obtain⟨v,T1,e1,v0,v1,h1⟩:=dO (m:=9) hT a_ b_ b_;obtain⟨d,T2,a',bin,g1,g2,g3,g4,g5⟩:=Vt 5 a_ 5 a_ T1 (n+1) td [] (1+v) 3 h1 (by rw[show rm 5=31 by decide];lia) ht (by simp only[afE];lia) (by simp);have hb:=g5 a_;have hb:be 5 d<=5:=by lia
 have h2:Fd (n+249) T2:=g4.mono (by rw[show rm 5=31 by decide];lia);have hs:Sy 5 [] d:=Sy.of g2.dr.fm;obtain⟨ra,la,ta,ga⟩:=told (t:=false) hs hb;obtain⟨rb,lb,tb,gb⟩:=told (t:=true) hs hb;have da:=SV (C:=C) (t:=false) hs hb;have db:=SV (C:=C) (t:=true) hs hb;have gl:∀t,GR 900 (vE d t):=λt=>by cases t;exact ga;exact gb
 obtain⟨S',e,hS⟩:=EJ (bd:=bName 6) (body:=Xs C Ao) (pH 0 4) (λj S=>I20 ns td x3 (AAA d) (AAB [pS (vE d false),pS (vE d true)]) (n+249+6*j) S)
  (kS ns T2 td x3 (AAA d) (AAB [pS (vE d false),pS (vE d true)]) x6 x7 x8) (.mk rfl h6 h7 h8 h2) (by
   rintro j i S hd ⟨rfl,b6,b7,b8,hf⟩;obtain⟨hj,rfl⟩:=HS hd;obtain⟨T3,y7,y8,c7,c8,f3,tn⟩:=aaH (C:=C) (ns:=ns) (x3:=x3) (x6:=AAC (j:Int)) hf a_ ht htn hs gl b7 b8;exact⟨_,_,by simp[-bH,bh,b6],tn,.mk rfl rfl c7 c8 (f3.mono a_)⟩)
 obtain⟨eS,b6,b7,b8,hf⟩:=hS;refine⟨AAA d,AAB [pS (vE d false),pS (vE d true)],S',rfl,rfl,?_,.mk eS b6 b7 b8 (hf.mono (by show _<=_;simp only[pH,aar,abW];lia))⟩;have er:ql (ah (eC (.int 4)) aB) (kS ns T2 td x3 (AAA d) (AAB [pS (vE d false),pS (vE d true)]) x6 x7 x8)=some (pH 0 4,kS ns T2 td x3 (AAA d) (AAB [pS (vE d false),pS (vE d true)]) x6 x7 x8):=Dj (j:=4) rfl a_ a_;show Aq _ _ _ _ _ _ _ _ _ _ _=_;rw[aaG,bu (q0 h4 e1 g1),bu (q1 h5 da db),bu (q2 la ta),bu (q3 lb tb)];unfold vb4;rw[kQ,er,aaN];exact e
def Ks(C:Addr):∀us r,CG 63 us=some r->bf 9 (Xs C E6) us=some r:=by
 intro us r h;unfold CG at h;split at h
 .rename_i ns;obtain⟨hl,rfl⟩:=cV h;obtain⟨T,p1,h1⟩:=Qg ns;obtain⟨td,T1,p2,ht,h2,tn⟩:=Ke h1 a_;obtain⟨S',e,y3,y4,y5,d3,d4,d5,@⟨T',x6,x7,x8,rfl,_⟩⟩:=EJ (bd:=bName 3) (body:=Xs C Aq) (pH 0 6) (λj S=>∃y3 y4 y5,jE y3=false/\jE y4=false/\jE y5=false/\I20 ns td y3 y4 y5 (7+300*j) S)
   (kS ns T1 td none none none none none none) ⟨none,none,none,rfl,rfl,rfl,.mk rfl rfl rfl rfl (h2.mono a_)⟩ (by
    rintro j i S hd ⟨y3,y4,y5,c3,c4,c5,⟨rfl,c6,c7,c8,hf⟩⟩;obtain⟨hj,rfl⟩:=HS hd;obtain⟨z4,z5,S2,i4,i5,tn2,hS⟩:=WD (C:=C) (ns:=ns) (x3:=AAC (j:Int)) hf a_ ht tn c4 c5 c6 c7 c8;obtain⟨w,k6,k7,k8,kf⟩:=hS;exact⟨_,_,by simp[-bH,bh,c3],tn2,AAC (j:Int),z4,z5,rfl,i4,i5,.mk w k6 k7 k8 (kf.mono a_)⟩)
  have s0:lw0 sF Sd.oF (rX 5) cN (SR C) QY (KG 5) SX Di QL [some (.s ns),none,none,none,none,none,none,none,none]=some (.nx [some (.s ns),some (.m T),none,none,none,none,none,none,none]):=by
   generalize sF=f at *;simp[lw0,p1]
  have s1:lw1 sF Sd.oF (rX 5) cN (SR C) QY (KG 5) SX Di QL [some (.s ns),some (.m T),none,none,none,none,none,none,none]=some (.nx (kS ns T1 td none none none none none none)):=by
   generalize Sd.oF=f at *;simp[lw1,p2]
  have er:ql (ah (eC (.int 6)) aB) (kS ns T1 td none none none none none none)=some (pH 0 6,kS ns T1 td none none none none none none):=Dj (j:=6) rfl a_ a_;have s2:lw2 sF Sd.oF (rX 5) cN (SR C) QY (KG 5) SX Di QL (kS ns T1 td none none none none none none)=some (.nx (kS ns T' td y3 y4 y5 x6 x7 x8)):=by
   unfold lw2;rw[kQ,er,aaN];exact e
  show((Xs C E6) [some (.s ns),none,none,none,none,none,none,none,none]).bind _=_;show(E6 _ _ _ _ _ _ _ _ _ _ _).bind _=_;rw[lw_eq,bu s0,bu s1,bu s2];simp[lw3]
 .cases h
end T7
end
namespace K20
open L2 Sw Ss Sd Sp T5 T6 T7
variable {j:Nat}{l:PySem.W.OpenLaw}
def top(i:Nat):Stmt:=PySem.Challenge.pw_surewatch_k20_laid.main.body.getD i (.Pass ⟨0,0,0,0⟩)
noncomputable def aaI(s:Stmt)(j:Nat):Stmt:=match s with
 |.ClassDef _ _ _ b _ _ _ _ _ _ _=>b.getD j (.Pass ⟨0,0,0,0⟩)
 |_=>.Pass ⟨0,0,0,0⟩
def lD(i j:Nat):Stmt:=aaI (top i) j
structure Zc where
 P:Program
 w:World
 K:W.Frag
 mg:Str->BBP
 aC:Addr
structure Nb(P:Program)(w:World)(K:AAD)(mg:AAF)(aC:Addr):Prop where
 r9:mg "len" =none
 oO:mg "sorted" =none
 aeH:mg "set" =none
 tT:mg "tuple" =none
 E7:mg "list" =none
 qJ:mg "range" =none
 aaJ:mg "min" =none
 N8:mg "all" =none
 N9:mg "any" =none
 aaK:mg "dict" =none
 SY:mg "repr" =none
 lZ:mg "isinstance" =none
 aaL:mg "bool" =none
 oR:∃t,mg "NO_THINGS" =some (.int 0 t)
 dB:A8 K aC
 gC:W.findIn K (.ref aC) "basics" =some none
 iu:W.findIn K (.ref aC) "numbers" =some none
 iw:W.findIn K (.ref aC) "trues" =some none
abbrev NZ(z:Zc):Prop:=Nb z.P z.w z.K z.mg z.aC
variable {z:Zc}{b:Heap}
abbrev TL(z:Zc):qA:=Qd (top 7) "marks" ((z.mg "__name__").getD .none)
def LS:P9 (TL z) "basic" "turn":=⟨rfl,rfl,rfl,(by decide:∀y∈(Qd (top 7) "marks" .none).scope.names,y.2≠.cell),rfl,rfl,rfl,(by decide:∀y∈(Qd (top 7) "marks" .none).scope.names,y.2= .free->y.1="marks"),by decide,λ_ _ _ _ _=>rfl⟩
def LG:∀y∈(["%basics","%numbers"]:BBB),(TL z).scope.names.lookup y=none:=(by decide:∀y∈(["%basics","%numbers"]:BBB),(Qd (top 7) "marks" .none).scope.names.lookup y=none)
abbrev iU:Stmt:=lD 3 0
abbrev nN(z:Zc):Prop:=xP z.K z.aC "__init__" "Marks.__init__" iU
abbrev iV(z:Zc)(b:Heap):Prop:=UZ z.P z.w z.K z.mg b 1 z.aC
abbrev iW:Stmt:=lD 3 1
abbrev nO(z:Zc):Prop:=xP z.K z.aC "of_thing" "Marks.of_thing" iW
abbrev iX(z:Zc)(b:Heap):Prop:=pM z.P z.w z.K z.mg b 1 z.aC "of_thing" ["self","basic","truth"] 2 ((ZY z.aC))
abbrev jR:Stmt:=lD 3 4
abbrev pN(z:Zc):Prop:=xP z.K z.aC "is_void" "Marks.is_void" jR
abbrev jS(z:Zc)(b:Heap):Prop:=pM z.P z.w z.K z.mg b 1 z.aC "is_void" ["self","mark"] 2 ((Qo z.aC))
abbrev oU:Stmt:=lD 3 5
abbrev ve(z:Zc):Prop:=xP z.K z.aC "trim" "Marks.trim" oU
abbrev kE(z:Zc)(b:Heap):Prop:=pM z.P z.w z.K z.mg b 2 z.aC "trim" ["self","marks"] 2 ((Nv z.aC))
abbrev fM:Stmt:=lD 3 6
abbrev jJ(z:Zc):Prop:=xP z.K z.aC "basics_among" "Marks.basics_among" fM
abbrev fO(z:Zc)(b:Heap):Prop:=pM z.P z.w z.K z.mg b 1 z.aC "basics_among" ["self","marks"] 2 ((Xm z.aC))
abbrev iz:Stmt:=lD 3 7
abbrev l5(z:Zc):Prop:=xP z.K z.aC "are_apart" "Marks.are_apart" iz
abbrev iA(z:Zc)(b:Heap):Prop:=pM z.P z.w z.K z.mg b 2 z.aC "are_apart" ["self","one","other"] 2 ((Q5 z.aC))
abbrev iY:Stmt:=lD 3 8
abbrev nQ(z:Zc):Prop:=xP z.K z.aC "together" "Marks.together" iY
abbrev iZ(z:Zc)(b:Heap):Prop:=pM z.P z.w z.K z.mg b 3 z.aC "together" ["self","one","other"] 2 ((Wi z.aC))
abbrev lE:Stmt:=lD 3 10
abbrev qK(z:Zc):Prop:=xP z.K z.aC "beside" "Marks.beside" lE
abbrev lF(z:Zc)(b:Heap):Prop:=pM z.P z.w z.K z.mg b 3 z.aC "beside" ["self","one","other"] 2 ((Xo z.aC))
abbrev lG:Stmt:=lD 3 11
abbrev qL(z:Zc):Prop:=xP z.K z.aC "joined" "Marks.joined" lG
abbrev lH(z:Zc)(b:Heap):Prop:=pM z.P z.w z.K z.mg b 4 z.aC "joined" ["self","one","other","are_beside"] 2 ((E3 z.aC))
abbrev i6:Stmt:=lD 3 12
abbrev nR(z:Zc):Prop:=xP z.K z.aC "bunch_of" "Marks.bunch_of" i6
abbrev i7(z:Zc)(b:Heap):Prop:=pM z.P z.w z.K z.mg b 1 z.aC "bunch_of" ["self","mark"] 2 ((V4 z.aC))
abbrev i8:Stmt:=lD 3 13
abbrev nT(z:Zc):Prop:=xP z.K z.aC "stand_of" "Marks.stand_of" i8
abbrev i9(z:Zc)(b:Heap):Prop:=pM z.P z.w z.K z.mg b 2 z.aC "stand_of" ["self","marks"] 2 ((SH z.aC))
abbrev jd:Stmt:=top 4
abbrev nU(z:Zc):Prop:=Df z.K z.mg "has_one_within" jd
abbrev je(z:Zc)(b:Heap):Prop:=xu z.P z.w z.K z.mg b 1 "has_one_within" ["mark","marks"] C4
abbrev oV:Stmt:=top 5
abbrev vf(z:Zc):Prop:=Df z.K z.mg "sure_marks" oV
abbrev oW(z:Zc)(b:Heap):Prop:=xu z.P z.w z.K z.mg b 1 "sure_marks" ["truth"] GV
abbrev tU:Stmt:=top 6
abbrev Ar(z:Zc):Prop:=Df z.K z.mg "marks_by" tU
abbrev oX(z:Zc)(b:Heap)(j:Nat):Prop:=EG z.P z.w z.K z.mg b (j+4) "marks_by" ["marks","saying","truth","of_basic"] 2 (TL z) ((KJ z.aC) j)
abbrev oY:Stmt:=top 7
abbrev vg(z:Zc):Prop:=DfL z.K z.mg "laid_marks" oY 156 152
abbrev oZ(z:Zc)(b:Heap):Prop:=UY z.P z.w z.K z.mg b 10 "laid_marks" ["marks","saying","truth"] 2 ((Rg z.aC))
abbrev GY:Stmt:=top 9
abbrev Oa(z:Zc):Prop:=Df z.K z.mg "laid" GY
abbrev GZ(z:Zc)(b:Heap):Prop:=xu z.P z.w z.K z.mg b 11 "laid" ["saying","truth"] ((SR z.aC))
abbrev qM:Stmt:=top 11
abbrev xB(z:Zc):Prop:=Df z.K z.mg "_law_feed" qM
abbrev qN(z:Zc)(b:Heap):Prop:=xu z.P z.w z.K z.mg b 1 "_law_feed" ["_law_script"] sF
abbrev qO:Stmt:=top 12
abbrev xC(z:Zc):Prop:=Df z.K z.mg "_law_draw" qO
abbrev fP(z:Zc)(b:Heap):Prop:=xu z.P z.w z.K z.mg b 1 "_law_draw" ["_law_feed_here","_law_many"] cN
abbrev o7:Stmt:=top 13
abbrev vh(z:Zc):Prop:=Df z.K z.mg "_law_table" o7
abbrev o8(z:Zc)(b:Heap):Prop:=xu z.P z.w z.K z.mg b 2 "_law_table" ["_law_feed_here"] Sd.oF
abbrev tV:Stmt:=top 14
abbrev As(z:Zc):Prop:=Df z.K z.mg "_law_all" tV
abbrev tW(z:Zc)(b:Heap):Prop:=xu z.P z.w z.K z.mg b 1 "_law_all" ["_law_table_here"] QN
abbrev tX:Stmt:=top 15
abbrev Au(z:Zc):Prop:=Df z.K z.mg "_law_row" tX
abbrev tY(z:Zc)(b:Heap):Prop:=xu z.P z.w z.K z.mg b 2 "_law_row" ["_law_feed_here","_law_table_here","_law_most"] SX
abbrev qP:Stmt:=top 16
abbrev xD(z:Zc):Prop:=Df z.K z.mg "_law_test" qP
abbrev qQ(z:Zc)(b:Heap):Prop:=xu z.P z.w z.K z.mg b 2 "_law_test" ["_law_feed_here","_law_table_here","_law_seen"] Ol
abbrev mH:Stmt:=top 17
abbrev sG(z:Zc):Prop:=Df z.K z.mg "_law_saying" mH
abbrev jz(z:Zc)(b:Heap)(j:Nat):Prop:=xu z.P z.w z.K z.mg b (j+2) "_law_saying" ["_law_feed_here","_law_table_here","_law_seen","_law_bag","_law_deep"] (Sd.rX j)
abbrev mJ:Stmt:=top 18
abbrev sH(z:Zc):Prop:=Df z.K z.mg "_law_passes" mJ
abbrev mK(z:Zc)(b:Heap):Prop:=xu z.P z.w z.K z.mg b 1 "_law_passes" ["_law_test_here","_law_happening","_law_known"] xy
abbrev o9:Stmt:=top 19
abbrev vj(z:Zc):Prop:=Df z.K z.mg "_law_holds" o9
abbrev kF(z:Zc)(b:Heap)(j:Nat):Prop:=xu z.P z.w z.K z.mg b (j+1) "_law_holds" ["_law_saying_here","_law_row_here","_law_at","_law_known"] (AF j)
abbrev mL:Stmt:=top 20
abbrev sJ(z:Zc):Prop:=Df z.K z.mg "_law_is_fit" mL
abbrev jA(z:Zc)(b:Heap):Prop:=xu z.P z.w z.K z.mg b 11 "_law_is_fit" ["_law_saying_here","_law_row_here"] Di
abbrev iB:Stmt:=top 21
abbrev l6(z:Zc):Prop:=Df z.K z.mg "_law_fits_stand" iB
abbrev iC(z:Zc)(b:Heap):Prop:=xu z.P z.w z.K z.mg b 12 "_law_fits_stand" ["_law_stand","_law_row_here"] QL
abbrev qR:Stmt:=top 22
abbrev xE(z:Zc):Prop:=Df z.K z.mg "_law_trim" qR
abbrev l7(z:Zc)(b:Heap):Prop:=xu z.P z.w z.K z.mg b 1 "_law_trim" ["_law_stand"] EV
abbrev tZ:Stmt:=top 23
abbrev Av(z:Zc):Prop:=Df z.K z.mg "_law_key" tZ
abbrev uc(z:Zc)(b:Heap):Prop:=xu z.P z.w z.K z.mg b 2 "_law_key" ["_law_stand"] KH
abbrev ud:Stmt:=top 24
abbrev Aw(z:Zc):Prop:=Df z.K z.mg "_law_put" ud
abbrev ue(z:Zc)(b:Heap):Prop:=xu z.P z.w z.K z.mg b 2 "_law_put" ["_law_together","_law_one","_law_other"] Xg
abbrev qT:Stmt:=top 25
abbrev xF(z:Zc):Prop:=Df z.K z.mg "_law_laid" qT
abbrev l8(z:Zc)(b:Heap)(j:Nat):Prop:=xu z.P z.w z.K z.mg b (j+2) "_law_laid" ["_law_saying_here","_law_truth"] (KG j)
abbrev lI:Stmt:=top 26
abbrev qU(z:Zc):Prop:=Df z.K z.mg "_law_is_told" lI
abbrev lJ(z:Zc)(b:Heap):Prop:=xu z.P z.w z.K z.mg b 3 "_law_is_told" ["_law_told","_law_due"] QY
abbrev IP:Stmt:=top 27
abbrev aaM(z:Zc):Prop:=Df z.K z.mg "law" IP
def vm:bw ["self"] ["self"] (aI iU):=sI
def vn(D:nN z)(N:NZ z):iV z b:=okI D vm λ_ _ _ _ _ _ _=>MD N.dB N.gC N.iu N.iw
def l9:bw ["self","basic","truth","%basics","%numbers","bit"] ["self","basic","truth"] (aI iW):=sI
def vo(D:nO z)(N:NZ z):iX z b:=
 AR D l9 (Vy z.aC) λ_ _ _ _ _ _ _ hr=>(aH (cE (J2 0 4 N.dB N.iu (lQ hr) (jv 1)) (aH (PX 0 4 N.dB N.iu (lQ hr) (jv 1) (HK 0 3 N.dB N.gC rfl N.r9))
  (aH (PR 0 N.dB N.iw (JE.d (bE yr (CN 0 N.dB N.iw) (JE.d (bE CJ aD (JE.d (bE ku aD (HK 0 3 N.dB N.gC rfl N.r9))))))))
  (aU (jw (JD.e (PY 0 3 N.dB (by exact N.gC) ac6 ac7 iJ iM (aq (jv 1) aN))))))) bM)
  (aH (zs l9.nd 5 (bE ku aD (PV 0 4 N.dB N.iu (lQ hr) (jv 1) (λ_ _=>rfl))))
  (aU (aY (bE CJ aD (JE.d (Bp (fJ (jv 2)) (bD 5) (bE dj (jv 5) aD))))))))
def wJ:bw ["self","mark","%basics","%numbers"] ["self","mark"] (aI jR):=sI
def wK(D:pN z)(N:NZ z):jS z b:=
 AR D wJ (VA z.aC) λ_ _ _ _ _ _ _ hr=>(aU (aY (eV (qo hr.units) (JE.d (bE qx (JE.d (bE qx (jv 1) (JE.d (bE HF (jv 1) aD)))) (CN 0 N.dB N.iw))) aD)))
def mO:bw ["self","marks","%basics","%numbers","kept","mark"] ["self","marks"] (aI oU):=sI
def AW(D:ve z)(N:NZ z)(lK:jS z b)(jT:je z b):kE z b:=
 AR D mO (tm_run z.aC) λ_ _ _ _ _ _ _ hr=>(aH (zs mO.nd 4 (bZ aN))
  (aH (gJ ab4 rfl (dw (JE.d (Ep rfl rfl N.oO rfl N.aeH (jv 1)))) (zg mO.nd 5) (aU (cE (JW.t (Cq (kO (fJ (JE.d (Kz 0 [2,3] N.dB lK hr (aG (jv 5) aX))))) (n9 (kO (fJ (jlk 4 jT hr (jv 5))))))) (aU (jw (JD.e (kB (i:=4) ac6 ac7 iJ iM kJ (aq (jv 5) aN))))) bM)))
  (aU (aY (bD 4)))))
def dR:bw ["self","marks","%basics","%numbers","every","mark"] ["self","marks"] (aI fM):=sI
def pT(D:jJ z)(N:NZ z):fO z b:=
 by obtain⟨uf,gK⟩:=N.oR;exact AR D dR (Wg z.aC) λ_ _ _ _ _ _ _ hr=>(aH (zs dR.nd 4 (JD.e (ym rfl gK)))
  (aH (gJ ab4 rfl (dw (jv 1)) (zg dR.nd 5) (aU (zs dR.nd 4 (bE yr (jv 4) (jv 5)))))
  (aU (aY (bE qx (JE.d (bE yr (jv 4) (JE.d (bE HF (jv 4) aD)))) (CN 0 N.dB N.iw))))))
def ug:bw ["self","one","other","%basics","%numbers"] ["self","one","other"] (aI iz):=sI
def uh(D:l5 z)(N:NZ z)(d9:fO z b):iA z b:=
 by obtain⟨uf,gK⟩:=N.oR;exact AR D ug (Wh z.aC) λ_ _ _ _ _ _ _ hr=>(aU (aY (eV (bV hr.units) (JE.d (bE qx (JE.d (Kz 0 [3,4] N.dB d9 hr (aG (jv 1) aX))) (JE.d (Kz 0 [3,4] N.dB d9 hr (aG (jv 2) aX))))) (ym rfl gK))))
def iD:bw ["self","one","other","%basics","%numbers","marks","mark"] ["self","one","other"] (aI iY):=sI
def vp(D:nQ z)(N:NZ z)(jf:iA z b)(gT:kE z b):iZ z b:=
 AR D iD (Wj z.aC) λ_ _ _ _ _ _ _ hr=>(aH (zs iD.nd 5 (bZ aN))
  (aH (gJ ab4 rfl (dw (jv 1)) (zg iD.nd 6) (aU (jw (JD.e (kB (i:=5) afU afV sY vV vW (aq (JE.d (fU (cc 6) rfl (dw (jv 2)) (λ_ _ _ _=>dX) (λ_ _ _ _=>(JE.d (bE yr (jv 1) (jv 0)))))) aN))))))
  (aH (cE (fJ (JE.d (Kz 0 [3,4] N.dB jf hr (aG (jv 1) (aG (jv 2) aX))))) (aU (aY (qz none hr.units rfl N.oO (jv 5)))) bM)
  (aU (aY (Kz 0 [3,4] N.dB gT hr (aG (jv 5) aX)))))))
def xV:bw ["self","one","other","%basics","%numbers"] ["self","one","other"] (aI lE):=sI
def xW(D:qK z)(N:NZ z)(gT:kE z b):lF z b:=
 AR D xV (Wl z.aC) λ_ _ _ _ _ _ _ hr=>(aU (aY (Kz 0 [3,4] N.dB gT hr (aG (JE.d (bE dj (jv 1) (jv 2))) aX))))
def xX:bw ["self","one","other","are_beside","%basics","%numbers"] ["self","one","other","are_beside"] (aI lG):=sI
def xY(D:qL z)(N:NZ z)(mQ:lF z b)(jU:iZ z b):lH z b:=
 AR D xX (Wm z.aC) λ_ _ _ _ _ _ _ hr=>(aH (cE (fJ (jv 3)) (aU (aY (Kz 0 [4,5] N.dB mQ hr (aG (jv 1) (aG (jv 2) aX))))) bM)
  (aU (aY (Kz 0 [4,5] N.dB jU hr (aG (jv 1) (aG (jv 2) aX))))))
def fH:bw ["self","mark","%basics","%numbers","things","bit"] ["self","mark"] (aI i6):=sI
def vq(D:nR z)(N:NZ z):i7 z b:=
 by obtain⟨uf,gK⟩:=N.oR;exact AR D fH (V5 z.aC) λ_ _ _ _ _ _ _ hr=>(aH (zs fH.nd 4 (bZ aN))
  (aH (LN ab4 (bF (qo hr.units) (jv 1) (ym rfl gK)) (aH (zs fH.nd 5 (bE jq (JE.d (P8 (jv 1))) aD))
  (aH (jw (JD.e (kB (i:=4) ac6 ac7 iJ iM kJ (aq (JE.d (cP (aq (U8 0 2 N.dB N.gC (JE.d (bE yi (jv 5) aD)) (λ_ _=>rfl)) (aq (JE.d (eV (bV hr.units) (JE.d (bE jr (jv 5) aD)) aD)) aN)))) aN))))
  (aU (zs fH.nd 1 (bE jq (jv 1) (JE.d (bE CJ aD (jv 5)))))))))
  (aU (aY (fS lU rfl N.tT adg (aq (jv 4) aN))))))
def vt:bw ["self","marks","%basics","%numbers"] ["self","marks"] (aI i8):=sI
def vv(D:nT z)(N:NZ z)(jV:i7 z b):i9 z b:=
 AR D vt (V6 z.aC) λ_ _ _ _ _ _ _ hr=>(aU (aY (fS lU rfl N.tT adg (aq (JE.d (MC ["%basics","%numbers"] [2,3] (cc 0) rfl (dw (jv 1)) (λ_ _ _ _=>(JE.d (Kz 1 [2,3] N.dB jV hr (aG (jv 0) aX)))))) aN))))
def mh:bw ["mark","marks","lesser"] ["mark","marks"] (aI jd):=sI
def vA(D:nU z):je z b:=
 CH D mh Qp λ_ _ _ _ _ _ _ hr=>(aH (gJ ab4 rfl (dw (jv 1)) (zg mh.nd 2) (aU (cE (bF (bV hr.units) (JE.d (bE qx (jv 2) (jv 0))) (jv 2)) (aU (aY (JD.e iG))) bM)))
  (aU (aY (JD.e iG))))
def AX:bw ["truth"] ["truth"] (aI oV):=sI
def AY(D:vf z)(N:NZ z):oW z b:=
 by obtain⟨uf,gK⟩:=N.oR;exact CH D AX Wn λ_ _ _ _ _ _ _ hr=>(aU (aY (Bp (fJ (jv 0)) (bZ (aq (ym rfl gK) aN)) (bZ aN))))
def mj:bw ["marks","saying","truth","of_basic","%basics","%numbers","head","one","other"] ["marks","saying","truth","of_basic"] (aI tU):=sI
def E8(D:Ar z)(N:NZ z)(qV:oW z b)(jg:oX z b j)(mR:lH z b)(jW:iX z b):oX z b (j+1):=
 ad3 D mj ((Wq z.aC) j) λ_ _ _ _ _ _ _ p _ B hr hL hB=>(rM (((zs mj.nd 6 (JD.e (ys hr 1 aD)))).h B)
  (rM ((MV (JW.t (uF (bF (bV hr.units) (jv 6) aT) (iL (bF (bV hr.units) (jv 6) aT)))) (nW (((aY (jc qV hr (aG (JE.d (eV (bV hr.units) (JE.d (eV (bV hr.units) (jv 6) aT)) (jv 2))) aX)))).h B)) (bM.h B)))
  (rM ((MV (bF (bV hr.units) (jv 6) aT) (nW ((MW (Gz 3 [4,5] jg hr hL hB (ys hr 1 aD) (Cr (jv 2)))))) (bM.h B)))
  (rM ((MV (JW.t (uF (bF (bV hr.units) (jv 6) aT) (iL (bF (bV hr.units) (jv 6) aT)))) (rM ((MX mj.nd 7 (Gz 3 [4,5] jg hr hL hB (ys hr 1 aD) (jv 2))))
  (rM ((MX mj.nd 8 (Gz 3 [4,5] jg hr hL hB (ys hr 1 aD) (jv 2))))
  (nW (((aY (Kz 0 [4,5] N.dB mR hr (aG (jv 7) (aG (jv 8) (aG (JE.d (eV (bV hr.units) (JE.d (eV (bV hr.units) (jv 6) aT)) (jv 2))) aX)))))).h B)))) (bM.h B)))
  (nW ((MW (Qc 3 [4,5] (gn:=["%basics","%numbers"]) LS LG hr (λ_ _ _ _ _ hr=>(bZ (aq (JE.d (Kz 2 [3,4] N.dB jW hr (aG (jv 0) (aG (jv 1) aX)))) aN))) (Wo z.aC) hL hB (aG (jv 1) (aG (jv 2) aX))))))))))
def AZ:bw ["marks","saying","truth"] ["marks","saying","truth"] (aI oY):=sI
def A0(D:vg z)(hI:(156,152)∈b.life.ids)(jg:oX z b 5):oZ z b:=ad1 D AZ jg hI (Wt z.aC)
def IQ:bw ["saying","truth","marks","%basics","%numbers"] ["saying","truth"] (aI GY):=sI
def Rq(D:Oa z)(N:NZ z)(jX:iV z b)(jY:i9 z b)(qW:oZ z b)(um:Zp z.K z.mg "Marks" z.aC):GZ z b:=
 CH D IQ (Wu z.aC) λ_ _ _ _ _ _ _ hr=>(MF (i:=2) 3 4 um jX hr IQ.nd rfl (by trivial) (aU (aY (Kz 2 [3,4] N.dB jY hr (aG (JE.d (jcg [3,4] qW hr (bJ (bD 2) (aG (jv 0) (aG (jv 1) aX))))) aX)))))
def Dp:bw ["_law_script"] ["_law_script"] (aI qM):=sI
def Dq(D:xB z)(N:NZ z):qN z b:=
 CH D Dp Nf λ_ _ _ _ _ _ _ hr=>(aU (aY (Hv (hk:=Nat.le_of_ble_eq_true rfl) (nu (JE.d (fS kU rfl N.E7 aeN (aq (JE.d (Jv (i:=0) uL (uM aD))) aN))) (nu aD (nu aD Hu))))))
def e8:bw ["_law_feed_here","_law_many","_law_found","_law_at","_law_cell","_law_number"] ["_law_feed_here","_law_many"] (aI qO):=sI
def Ds(D:xC z)(N:NZ z):fP z b:=
 CH D e8 M7 λ_ _ _ _ _ _ _ hr=>(aH (cE (bF F5 (ys hr 0 aT) aD) (aH (zs e8.nd 2 (bE jr (ys hr 0 aT) (jv 1)))
  (aH (qu (i:=0) (lQ hr) aT (JE.d (bE yi (ys hr 0 aT) (jv 1))))
  (aU (aY (bD 2))))) bM)
  (aH (zs e8.nd 3 (JD.e (ys hr 0 aT)))
  (aH (qu (i:=0) (lQ hr) aT (JE.d (bE dj (jv 3) aD)))
  (aH (zs e8.nd 4 (bE ku (jv 3) (jv 3)))
  (aH (cE (bF (qo hr.units) (ys hr 0 aT) (JE.d (bZ aN))) (aU (zs e8.nd 4 (sf AL (ys hr 0 aT) (JE.d (bE jr (jv 3) (JE.d (g6 Jo rfl N.r9 agq (aq (ys hr 0 aT) aN))))) (λ_ _=>rfl)))) bM)
  (aH (cE (bF Up (jv 4) (JE.d (bE O8 aD aD))) (aH (qu (i:=0) (lQ hr) aT (JE.d (bE yi (jv 4) (jv 1))))
  (aU (aY (bE jr (jv 4) (jv 1))))) bM)
  (aH (zs e8.nd 5 (bE jr (JE.d (bE ku (JE.d (bE dj (JE.d (bE dj (JE.d (bE ku (JE.d (bE jr (jv 4) aD)) aD)) (JE.d (bE ku aD (jv 3))))) aD)) aD)) aD))
  (aH (zs e8.nd 5 (bE jr (JE.d (bE ku (JE.d (bE jr (JE.d (bE dj (JE.d (bE ku (jv 5) (jv 5))) (JE.d (bE ku aD (jv 3))))) aD)) aD)) aD))
  (aU (aY (bE jr (JE.d (bE yi (jv 5) aD)) (jv 1))))))))))))
def gD:bw ["_law_feed_here","_law_some","_law_names","_law_at"] ["_law_feed_here"] (aI o7):=sI
def A1(D:vh z)(N:NZ z)(br:fP z b):o8 z b:=
 CH D gD Sd.Kc λ_ _ _ _ _ _ _ hr=>(aH (zs gD.nd 1 (bZ (aq (JE.d (bZ (aq aT (aq aT (aq aT (aq aT aN)))))) (aq (JE.d (bZ (aq aT (aq aT (aq aT (aq aT aN)))))) (aq (JE.d (bZ (aq aT (aq aT (aq aT (aq aT aN)))))) aN)))))
  (aH (zs gD.nd 2 (JD.e (ys hr 1 (JE.d (jc br hr (bJ (bD 0) (aG aD aX)))))))
  (aH (zs gD.nd 3 (jc br hr (bJ (bD 0) (aG aD aX))))
  (aH (zs gD.nd 2 (uN (JE.d (bE dj (JE.d (uN (jv 2) (uM (jv 3)) uL)) (JE.d (uN (jv 2) uL (uM (jv 3)))))) uL (uM (JE.d (sf AL (JE.d (bZ (aq aD (aq aD (aq aD (aq aD aN)))))) (JE.d (jc br hr (bJ (bD 0) (aG aD aX)))) (λ_ _=>rfl))))))
  (aU (aY (fS lU rfl N.tT adg (aq (JE.d (fU (cc 0) rfl (dw (jv 2)) (λ_ _ _ _=>dX) (λ_ _ _ _=>(JE.d (cP (aq (jv 0) (aq (JE.d (sf AL (JE.d (bZ (aq aD (aq aD (aq aD (aq aD aN)))))) (JE.d (jc br hr (bJ (bD 1) (aG aD aX)))) (λ_ _=>rfl))) aN))))))) aN))))))))
def mq:bw ["_law_table_here","_law_found","_law_name","_law_most"] ["_law_table_here"] (aI tV):=sI
def E9(D:As z)(N:NZ z):tW z b:=
 CH D mq V1 λ_ _ _ _ _ _ _ hr=>(aH (zs mq.nd 1 (bZ aN))
  (aH (gJ ab4 rfl (F7 (jv 0)) (Ur rfl (D5 (zg mq.nd 2) (D5 (zg mq.nd 3) Pa))) (aU (jw (JD.e (kB (i:=1) afU afV sY vV vW (aq (JE.d (fU (cc 2) rfl (rC rfl N.qJ (aq (JE.d (bE dj (jv 3) aD)) aN)) (λ_ _ _ _=>dX) (λ_ _ _ _=>(JE.d (cP (aq (jv 1) (aq (jv 0) aN))))))) aN))))))
  (aU (aY (bD 1)))))
def xG:bw ["_law_feed_here","_law_table_here","_law_most","_law_some"] ["_law_feed_here","_law_table_here","_law_most"] (aI tX):=sI
def Fb(D:Au z)(N:NZ z)(wL:tW z b)(br:fP z b):tY z b:=
 CH D xG rw_run λ_ _ _ _ _ _ _ hr=>(aH (zs xG.nd 3 (jc wL hr (aG (jv 1) aX)))
  (aU (aY (fS lU rfl N.tT adg (aq (JE.d (fU (cs ["_law_feed_here","_law_some"] [0,3]) rfl (rC rfl N.qJ (aq (JE.d (jc br hr (bJ (bD 0) (aG (JE.d (bE dj (jv 2) aD)) aX)))) aN)) (λ_ _ _ _=>dX) (λ_ _ _ _=>(ys hr 2 (JE.d (jc br hr (bJ (bD 1) (aG (jL (i:=2) rfl N.r9) aX)))))))) aN)))))
def iE:bw ["_law_feed_here","_law_table_here","_law_seen","_law_way","_law_names","_law_number"] ["_law_feed_here","_law_table_here","_law_seen"] (aI qP):=sI
def Dt(D:xD z)(N:NZ z)(br:fP z b):qQ z b:=
 CH D iE Vh λ_ _ _ _ _ _ _ hr=>(aH (zs iE.nd 3 (jc br hr (bJ (bD 0) (aG aD aX))))
  (aH (cE (bF (bV hr.units) (jv 3) aD) (aU (aY (cP (aq aT aN)))) bM)
  (aH (cE (bF sQ (jv 3) aD) (aH (zs iE.nd 4 (bE dj (JE.d (fU cp rfl (dw (jv 1)) (λ_ _ _ _=>dX) (λ_ _ _ _=>(ys hr 0 aD)))) (JE.d (bZ (aq aT aN)))))
  (aU (aY (cP (aq aT (aq (ys hr 4 (JE.d (jc br hr (bJ (bD 0) (aG (jL (i:=4) rfl N.r9) aX))))) aN)))))) bM)
  (aH (zs iE.nd 5 (jc br hr (bJ (bD 0) (aG aD aX))))
  (aH (cE (JW.t (Cq (bF (qo hr.units) (jv 2) (JE.d (cP aN))) (n9 (bF F5 (JE.d (jc br hr (bJ (bD 0) (aG aD aX)))) aD)))) (aU (zs iE.nd 5 (JD.e (ys hr 2 (JE.d (jc br hr (bJ (bD 0) (aG (jL (i:=2) rfl N.r9) aX)))))))) bM)
  (aU (aY (cP (aq (JE.d (sf AL (JE.d (bZ (aq aT (aq aT (aq aT aN))))) (JE.d (bE jr (jv 3) aD)) (λ_ _=>rfl))) (aq (jv 5) aN))))))))))
def cX:bw ["_law_feed_here","_law_table_here","_law_seen","_law_bag","_law_deep","_law_heads","_law_head","_law_names","_law_x","_law_inner","_law_first"] ["_law_feed_here","_law_table_here","_law_seen","_law_bag","_law_deep"] (aI mH):=sI
def Ax(D:sG z)(N:NZ z)(br:fP z b)(uo:qQ z b)(dD:jz z b j):jz z b (j+1):=
 CH D cX (Sd.Ql j) λ_ _ _ _ _ _ _ hr=>(aH (qu (i:=3) (lQ hr) aD (JE.d (bE jq (ys hr 3 aD) aD)))
  (aH (zs cX.nd 5 (bZ (aq aT (aq aT (aq aT (aq aT (aq aT (aq aT (aq aT (aq aT (aq aT (aq aT (aq aT (aq aT aN))))))))))))))
  (aH (zs cX.nd 6 (JD.e (ys hr 5 (JE.d (jc br hr (bJ (bD 0) (aG aD aX)))))))
  (aH (cE (JW.t (uF (JW.t (Cq (bF (oq hr.units) (jv 6) (JE.d (cP (aq aT (aq aT aN)))) (by with_unfolding_all rfl)) (n9 (bF (bV hr.units) (ys hr 3 aD) aD)))) (iL (JW.t (Cq (bF (oq hr.units) (jv 6) (JE.d (cP (aq aT (aq aT (aq aT aN))))) (by with_unfolding_all rfl)) (n9 (bF sQ (ys hr 3 aD) aD))))))) (aU (zs cX.nd 6 (sf AL (JE.d (bZ (aq aT (aq aT (aq aT aN))))) (JE.d (jc br hr (bJ (bD 0) (aG aD aX)))) (λ_ _=>rfl)))) bM)
  (aH (cE (JW.t (uF (bF sQ (ys hr 3 aD) aD) (uF (bF sQ (jv 4) aD) (iL (bF (bV hr.units) (jv 6) aT))))) (aU (aY (sf AL (JE.d (bZ (aq (JE.d (cP (aq aT aN))) (aq (JE.d (cP (aq aT aN))) (aq (JE.d (cP (aq aT (aq (JE.d (jc uo hr (bJ (bD 0) (aG (jv 1) (aG (jv 2) aX))))) aN)))) aN))))) (JE.d (g6 (za rfl) rfl N.aaJ PyProof.Rows.Boot.min (aq aD (aq (JE.d (jc br hr (bJ (bD 0) (aG aD aX)))) aN)))) (λ_ _=>rfl)))) bM)
  (aH (cE (bF (oq hr.units) (jv 6) (JE.d (cP (aq aT (aq aT aN)))) (by with_unfolding_all rfl)) (aH (qu (i:=3) (lQ hr) aD (JE.d (bE jq (ys hr 3 aD) aD)))
  (aH (zc cX.nd 7 cp (dw (jv 1)) (λ_ _ _ _=>dX) (λ_ _ _ _=>(ys hr 0 aD)))
  (aH (zs cX.nd 8 (sf AL (JE.d (bE dj (jv 7) (JE.d (bZ (aq aT (aq aT (aq aT aN))))))) (JE.d (jc br hr (bJ (bD 0) (aG (JE.d (bE dj (jL (i:=7) rfl N.r9) aD)) aX)))) (λ_ _=>rfl)))
  (aH (zs cX.nd 9 (jc dD hr (bJ (bD 0) (aG (jv 1) (aG (JE.d (bE dj (jv 2) (JE.d (cP (aq (jv 8) aN))))) (bJ (bD 3) (aG (JE.d (bE jq (jv 4) aD)) aX)))))))
  (aU (aY (cP (aq (jv 6) (aq (ys hr 7 (JE.d (jc br hr (bJ (bD 0) (aG (jL (i:=7) rfl N.r9) aX))))) (aq (jv 8) (aq (jv 9) aN))))))))))) bM)
  (aH (cE (bF (bV hr.units) (jv 6) aT) (aU (aY (cP (aq (jv 6) (aq (JE.d (sf AL (JE.d (bZ (aq aD (aq aD (aq aD (aq aD (aq aD (aq aD aN)))))))) (JE.d (jc br hr (bJ (bD 0) (aG aD aX)))) (λ_ _=>rfl))) (aq (JE.d (jc dD hr (bJ (bD 0) (aG (jv 1) (aG (jv 2) (bJ (bD 3) (aG (JE.d (bE jq (jv 4) aD)) aX))))))) aN)))))) bM)
  (aH (cE (bF (oq hr.units) (jv 6) (JE.d (cP (aq aT (aq aT (aq aT aN))))) (by with_unfolding_all rfl)) (aH (qu (i:=3) (lQ hr) aD (JE.d (bE jq (ys hr 3 aD) aD)))
  (aH (zs cX.nd 10 (jc dD hr (bJ (bD 0) (aG (jv 1) (aG (jv 2) (bJ (bD 3) (aG (JE.d (bE jq (jv 4) aD)) aX)))))))
  (aH (qu (i:=3) (lQ hr) aD (JE.d (bE dj (ys hr 3 aD) aD)))
  (aU (aY (cP (aq (jv 6) (aq (jv 10) (aq (JE.d (jc dD hr (bJ (bD 0) (aG (jv 1) (aG (jv 2) (bJ (bD 3) (aG (JE.d (bE jq (jv 4) aD)) aX))))))) aN))))))))) bM)
  (aU (aY (cP (aq (jv 6) (aq (JE.d (jc dD hr (bJ (bD 0) (aG (jv 1) (aG (jv 2) (bJ (bD 3) (aG (JE.d (bE jq (jv 4) aD)) aX))))))) aN)))))))))))))
def qX:bw ["_law_test_here","_law_happening","_law_known","_law_number"] ["_law_test_here","_law_happening","_law_known"] (aI mJ):=sI
def Ay(D:sH z):mK z b:=
 CH D qX VM λ_ _ _ _ _ _ _ hr=>(aH (cE (bF (bV hr.units) (ys hr 0 aD) aT) (aU (aY (JD.e iG))) bM)
  (aH (cE (bF (bV hr.units) (ys hr 0 aD) aT) (aU (aY (eV (bV hr.units) (ys hr 0 aD) (ys hr 1 aD)))) bM)
  (aH (zs qX.nd 3 (JD.e (Pr (i:=2) (lQ hr) (ys hr 0 aD) (ys hr 0 aD))))
  (aU (aY (JD.e (P0 (lQ hr) (Hv (hk:=Nat.le_of_ble_eq_true rfl) (nu (JE.d (eV sQ (ys hr 1 aD) (jv 3))) (nu (JE.d (eV (bV hr.units) (ys hr 1 aD) (jv 3))) (nu (JE.d (eV F5 (ys hr 1 aD) (jv 3))) Hu)))) (ys hr 0 aD) (λ_ _=>rfl))))))))
def dI:bw ["_law_saying_here","_law_row_here","_law_at","_law_known","_law_head","_law_told","_law_spot","_law_inner"] ["_law_saying_here","_law_row_here","_law_at","_law_known"] (aI o9):=sI
def A2(D:vj z)(N:NZ z)(pq:mK z b)(cO:kF z b j):kF z b (j+1):=
 CH D dI (VN j) λ_ _ _ _ _ _ _ hr=>(aH (zs dI.nd 4 (JD.e (ys hr 0 aD)))
  (aH (cE (bF (oq hr.units) (jv 4) (JE.d (cP (aq aT (aq aT aN)))) (by with_unfolding_all rfl)) (aU (aY (eV (bV hr.units) (jv 4) aT))) bM)
  (aH (cE (bF (bV hr.units) (jv 4) aT) (aU (aY (JD.e (LH (JE.d (eV sQ (jv 2) (jL (i:=1) rfl N.r9))) (LF (JE.d (jc pq hr (aG (ys hr 0 aD) (aG (ys hr 1 (jv 2)) (bJ (bD 3) aX)))))))))) bM)
  (aH (cE (bF (bV hr.units) (jv 4) aT) (aU (aY (JD.e (Cr (JE.d (jc cO hr (aG (ys hr 0 aD) (aG (jv 1) (aG (jv 2) (bJ (bD 3) aX)))))))))) bM)
  (aH (cE (bF (oq hr.units) (jv 4) (JE.d (cP (aq aT (aq aT aN)))) (by with_unfolding_all rfl)) (aH (zc dI.nd 5 (cs ["_law_at","_law_known","_law_row_here"] [2,3,1]) (dw (JE.d (uN (jv 0) (uM aD) uL))) (λ_ _ _ _=>dX) (λ_ _ _ _=>(JE.d (jc cO hr (aG (jv 0) (aG (jv 3) (aG (jv 1) (bJ (bD 2) aX))))))))
  (aU (aY (Bp (bF (bV hr.units) (jv 4) aT) (JD.e (nB (i:=5) (m9 rfl) rfl N.N8 aeU)) (JD.e (nB (i:=5) (nh rfl) rfl N.N9 aeV)))))) bM)
  (aH (cE (bF (bV hr.units) (jv 4) aT) (aU (aY (JD.e (LH (JE.d (eV sQ (jv 2) (jL (i:=1) rfl N.r9))) (LF (JE.d (jc cO hr (aG (ys hr 0 aD) (aG (jv 1) (aG (JE.d (bE dj (jv 2) aD)) (bJ (bD 3) aX))))))))))) bM)
  (aH (cE (bF (bV hr.units) (jv 4) aT) (aH (gJ ab4 rfl (rD rfl N.qJ (aq (jv 2) (aq (jL (i:=1) rfl N.r9) aN))) (zg dI.nd 6) (aH (cE (fJ (JE.d (jc cO hr (aG (ys hr 0 aD) (aG (jv 1) (aG (jv 6) (bJ (bD 3) aX))))))) (aU (aY (JD.e iG))) bM)
  (aU (cE (kO (fJ (JE.d (jc cO hr (aG (ys hr 0 aD) (aG (jv 1) (aG (jv 6) (bJ (bD 3) aX)))))))) (aU (aY (JD.e iG))) bM))))
  (aU (aY (JD.e iG)))) bM)
  (aH (cE (bF (bV hr.units) (jv 4) aT) (aU (aY (g6 (nh rfl) rfl N.N9 aeV (aq (JE.d (fU (cs ["_law_known","_law_row_here","_law_saying_here"] [3,1,0]) rfl (rD rfl N.qJ (aq (jv 2) (aq (JE.d (g6 (za rfl) rfl N.aaJ PyProof.Rows.Boot.min (aq (JE.d (bE dj (jv 2) (ys hr 0 aD))) (aq (jL (i:=1) rfl N.r9) aN)))) aN))) (λ_ _ _ _=>dX) (λ_ _ _ _=>(JE.d (jc cO hr (aG (ys hr 3 aD) (aG (jv 2) (aG (jv 0) (bJ (bD 1) aX))))))))) aN)))) bM)
  (aH (cE (bF (oq hr.units) (jv 4) (JE.d (cP (aq aT (aq aT aN)))) (by with_unfolding_all rfl)) (aH (zc dI.nd 5 (cs ["_law_known","_law_row_here","_law_saying_here"] [3,1,0]) (rD rfl N.qJ (aq (jv 2) (aq (jL (i:=1) rfl N.r9) aN))) (λ_ _ _ _=>dX) (λ_ _ _ _=>(JE.d (jc cO hr (aG (ys hr 3 aD) (aG (jv 2) (aG (jv 0) (bJ (bD 1) aX))))))))
  (aU (aY (Bp (bF (bV hr.units) (jv 4) aT) (JD.e (nB (i:=5) (m9 rfl) rfl N.N8 aeU)) (JD.e (nB (i:=5) (nh rfl) rfl N.N9 aeV)))))) bM)
  (aH (zs dI.nd 5 (bZ aN))
  (aH (gJ ab4 rfl (rD rfl N.qJ (aq (jv 2) (aq (jL (i:=1) rfl N.r9) aN))) (zg dI.nd 6) (aU (cE (bF (bV hr.units) (JE.d (sf AL (ys hr 1 (jv 6)) aD (λ_ _=>rfl))) (ys hr 0 aD)) (aH (zs dI.nd 7 (L8 (i:=3) rfl N.aaK))
  (aH (qu (i:=7) (lQ hr) (ys hr 0 aD) (JE.d (sf AL (ys hr 1 (jv 6)) aD (λ_ _=>rfl))))
  (aU (jw (JD.e (kB (i:=5) ac6 ac7 iJ iM kJ (aq (JE.d (jc cO hr (aG (ys hr 0 aD) (aG (jv 1) (aG (jv 6) (bJ (bD 7) aX)))))) aN))))))) bM)))
  (aU (aY (Bp (bF (bV hr.units) (jv 4) aT) (JD.e (nB (i:=5) (m9 rfl) rfl N.N8 aeU)) (JD.e (nB (i:=5) (nh rfl) rfl N.N9 aeV))))))))))))))))
def Az:bw ["_law_saying_here","_law_row_here"] ["_law_saying_here","_law_row_here"] (aI mL):=sI
def AA(D:sJ z)(cO:kF z b 9):jA z b:=
 CH D Az VZ λ_ _ _ _ _ _ _ hr=>(aU (aY (jc cO hr (aG (jv 0) (aG (jv 1) (aG aD (bJ Pp aX)))))))
def lM:bw ["_law_stand","_law_row_here","_law_bunch"] ["_law_stand","_law_row_here"] (aI iB):=sI
def uq(D:l6 z)(N:NZ z)(gg:jA z b):iC z b:=
 CH D lM V0 λ_ _ _ _ _ _ _ hr=>(aH (gJ ab4 rfl (dw (jv 0)) (zg lM.nd 2) (aU (cE (fJ (JE.d (g6 (m9 rfl) rfl N.N8 aeU (aq (JE.d (Ei ⟨(cc 1),rfl,by decide⟩ rfl (F7 (jv 2)) (λ_ _ _ _=>dX) (λ_ _ _ _=>(JE.d (eV (bV hr.units) (JE.d (jc gg hr (aG (jv 0) (aG (jv 2) aX)))) (jv 1)))))) aN)))) (aU (aY (JD.e iG))) bM)))
  (aU (aY (JD.e iG))))
def ff:bw ["_law_stand","_law_rows","_law_bunch","_law_things","_law_thing","_law_found"] ["_law_stand"] (aI qR):=sI
def Du(D:xE z)(N:NZ z):l7 z b:=
 CH D ff VE λ_ _ _ _ _ _ _ hr=>(aH (zs ff.nd 1 (bZ aN))
  (aH (gJ ab4 rfl (dw (jv 0)) (zg ff.nd 2) (aH (zs ff.nd 3 (bZ aN))
  (aH (gJ ab4 rfl (dw (jv 2)) (zg ff.nd 4) (aU (cE (Jx (i:=3) hr.units (jv 4)) (aU (jw (JD.e (kB (i:=3) ac6 ac7 iJ iM kJ (aq (jv 4) aN))))) bM)))
  (aU (cE (bF (bV hr.units) (JE.d (Ei ⟨(cc 3),rfl,by decide⟩ rfl (F7 (jv 3)) (λ_ _ _ _=>(Cw (UB (i:=2) hr.units (JE.d (cP (aq (jv 0) (aq (Cr (jv 1)) aN))))))) (λ_ _ _ _=>aD))) (JE.d (bZ aN))) (aU (jw (JD.e (kB (i:=1) ac6 ac7 iJ iM kJ (aq (jv 3) aN))))) bM)))))
  (aH (zs ff.nd 5 (bZ aN))
  (aH (gJ ab4 rfl (dw (JE.d (Gp rfl N.oO rfl N.r9 (jv 1)))) (zg ff.nd 3) (aU (cE (kO (fJ (JE.d (g6 (nh rfl) rfl N.N9 aeV (aq (JE.d (MG 5 (cc 3) rfl (λ_ _ _ _=>dX) (λ_ _ _ _=>(JE.d (g6 (m9 rfl) rfl N.N8 aeU (aq (JE.d (fU (cc 1) rfl (dw (jv 0)) (λ_ _ _ _=>dX) (λ_ _ _ _=>(UA (i:=1) hr.units (jv 0))))) aN)))))) aN))))) (aU (jw (JD.e (kB (i:=5) ac6 ac7 iJ iM kJ (aq (jv 3) aN))))) bM)))
  (aU (aY (bD 5)))))))
def Fc:bw ["_law_stand"] ["_law_stand"] (aI tZ):=sI
def Fe(D:Av z)(N:NZ z)(gM:l7 z b):uc z b:=
 CH D Fc We λ_ _ _ _ _ _ _ hr=>(aU (aY (qz false hr.units rfl N.oO (JE.d (fU cp rfl (dw (JE.d (jc gM hr (aG (jv 0) aX)))) (λ_ _ _ _=>dX) (λ_ _ _ _=>(JE.d (qz true hr.units rfl N.oO (JE.d (fU cp rfl (dw (jv 0)) (λ_ _ _ _=>dX) (λ_ _ _ _=>(JE.d (g6 (zp hr.gd hr.units) rfl N.SY PyProof.Rows.Boot.repr (aq (jv 0) aN))))))))))))))
def qY:bw ["_law_together","_law_one","_law_other","_law_found","_law_first"] ["_law_together","_law_one","_law_other"] (aI ud):=sI
def Ff(D:Aw z)(N:NZ z)(gM:l7 z b):ue z b:=
 CH D qY VG λ_ _ _ _ _ _ _ hr=>(aH (cE (kO (fJ (jv 0))) (aU (aY (jc gM hr (aG (JE.d (bE dj (JE.d (fS kU rfl N.E7 aeN (aq (jv 1) aN))) (JE.d (fS kU rfl N.E7 aeN (aq (jv 2) aN))))) aX)))) bM)
  (aH (zs qY.nd 3 (bZ aN))
  (aH (gJ ab4 rfl (dw (jv 1)) (zg qY.nd 4) (aU (jw (JD.e (kB (i:=3) afU afV sY vV vW (aq (JE.d (fU (cc 4) rfl (dw (jv 2)) (λ_ _ _ _=>dX) (λ_ _ _ _=>(JE.d (bE dj (JE.d (fS kU rfl N.E7 aeN (aq (jv 1) aN))) (JE.d (fS kU rfl N.E7 aeN (aq (jv 0) aN)))))))) aN))))))
  (aU (aY (jc gM hr (aG (jv 3) aX)))))))
def vB:bw ["_law_saying_here","_law_truth","_law_head"] ["_law_saying_here","_law_truth"] (aI qT):=sI
def Dv(D:xF z)(fQ:l8 z b j)(wM:ue z b):l8 z b (j+1):=
 CH D vB (VH j) λ_ _ _ _ _ _ _ hr=>(aH (zs vB.nd 2 (JD.e (ys hr 0 aD)))
  (aH (cE (bF (oq hr.units) (jv 2) (JE.d (cP (aq aT (aq aT aN)))) (by with_unfolding_all rfl)) (aU (aY (Bp (bF (bV hr.units) (JE.d (eV (bV hr.units) (jv 2) aT)) (jv 1)) (bZ (aq (JE.d (bZ aN)) aN)) (bZ aN)))) bM)
  (aH (cE (bF (bV hr.units) (jv 2) aT) (aU (aY (jc fQ hr (aG (ys hr 0 aD) (aG (Cr (jv 1)) aX))))) bM)
  (aH (cE (bF (oq hr.units) (jv 2) (JE.d (cP (aq aT (aq aT aN)))) (by with_unfolding_all rfl)) (aU (aY (jc wM hr (aG (JE.d (eV (bV hr.units) (JE.d (eV (bV hr.units) (jv 2) aT)) (jv 1))) (aG (JE.d (jc fQ hr (aG (ys hr 0 aD) (aG (jv 1) aX)))) (aG (JE.d (jc fQ hr (aG (ys hr 0 aD) (aG (jv 1) aX)))) aX)))))) bM)
  (aU (aY (bZ (aq (JE.d (bZ (aq (JE.d (cP (aq (jv 0) (aq (jv 1) aN)))) aN))) aN))))))))
def jZ:bw ["_law_told","_law_due","_law_bunch","_law_rows"] ["_law_told","_law_due"] (aI lI):=sI
def xZ(D:qU z)(N:NZ z)(wN:uc z b):lJ z b:=
 CH D jZ Wf λ_ _ _ _ _ _ _ hr=>(aH (cE (JW.t (uF (kO (fJ (rJ rfl N.lZ rfl N.tT adg (jv 0)))) (iL (bF (qo hr.units) (JE.d (fU cp rfl (dw (jv 0)) (λ_ _ _ _=>(Cw (kO (fJ (rJ rfl N.lZ rfl N.tT adg (jv 0)))))) (λ_ _ _ _=>aD))) (JE.d (bZ aN)))))) (aU (aY (JD.e iG))) bM)
  (aH (gJ ab4 rfl (dw (jv 0)) (zg jZ.nd 2) (aU (cE (bF (qo hr.units) (JE.d (fU cp rfl (dw (jv 2)) (λ_ _ _ _=>(Cw (JW.t (uF (kO (fJ (rJ rfl N.lZ rfl N.tT adg (jv 0)))) (uF (bF (qo hr.units) (jL (i:=0) rfl N.r9) aD) (iL (kO (fJ (rJ rfl N.lZ rfl N.aaL PyProof.Rows.Boot.bool (ys hr 0 aD)))))))))) (λ_ _ _ _=>aD))) (JE.d (bZ aN))) (aU (aY (JD.e iG))) bM)))
  (aH (zc jZ.nd 3 cp (dw (jv 0)) (λ_ _ _ _=>dX) (λ_ _ _ _=>(JE.d (qz true hr.units rfl N.oO (JE.d (fU cp rfl (dw (jv 0)) (λ_ _ _ _=>dX) (λ_ _ _ _=>(JE.d (g6 (zp hr.gd hr.units) rfl N.SY PyProof.Rows.Boot.repr (aq (jv 0) aN))))))))))
  (aU (aY (eV (bV hr.units) (JE.d (qz false hr.units rfl N.oO (jv 3))) (JE.d (jc wN hr (aG (jv 1) aX)))))))))
def pA:bw ["_law_script","_law_feed_here","_law_table_here","_law_k","_law_saying_here","_law_stands","_law_j","_law_row_here","_law_due"] ["_law_script"] (aI IP):=sI
def WE{f:Addr}{fd:FuncData}(F:Oc z.K "law" "law" IP f fd)(N:NZ z)(ur:qN z b)(qZ:o8 z b)(dD:jz z b 5)(br:fP z b)(IS:GZ z b)(jB:lJ z b)(fQ:l8 z b 5)(wO:tY z b)(gg:jA z b)(gj:iC z b):jC z.P z.w z.K z.mg b vK 13 f fd ["_law_script"] (spT z.K 1 (CG 63)):=
 okT (g:=T7.E6 sF Sd.oF (Sd.rX 5) cN ((SR z.aC)) QY (KG 5) SX Di QL) F pA (λ_ _ _ _ _ _ hr=>(aH (zs pA.nd 1 (jc ur hr (bJ (bD 0) aX)))
  (aH (zs pA.nd 2 (jc qZ hr (bJ (bD 1) aX)))
  (aH (gJ ab4 rfl (rC rfl N.qJ (aq aD aN)) (zg pA.nd 3) (aH (zs pA.nd 4 (jc dD hr (bJ (bD 1) (aG (jv 2) (aG (JE.d (cP aN)) (bJ (bZ (aq (JE.d (bE dj aD (JE.d (jc br hr (bJ (bD 1) (aG aD aX)))))) (aq aD aN))) (aG aD aX)))))))
  (aH (zs pA.nd 5 (bZ (aq (JE.d (jc IS hr (aG (jv 4) (aG iG aX)))) (aq (JE.d (jc IS hr (aG (jv 4) (aG iG aX)))) aN))))
  (aH (cE (kO (fJ (JE.d (jc jB hr (aG (ys hr 5 aD) (aG (JE.d (jc fQ hr (aG (jv 4) (aG iG aX)))) aX)))))) (aU (aY (JD.e iG))) bM)
  (aH (cE (kO (fJ (JE.d (jc jB hr (aG (ys hr 5 aD) (aG (JE.d (jc fQ hr (aG (jv 4) (aG iG aX)))) aX)))))) (aU (aY (JD.e iG))) bM)
  (aU (gJ ab4 rfl (rC rfl N.qJ (aq aD aN)) (zg pA.nd 6) (aH (zs pA.nd 7 (jc wO hr (bJ (bD 1) (aG (jv 2) (aG aD aX)))))
  (aH (zs pA.nd 8 (jc gg hr (aG (jv 4) (aG (jv 7) aX))))
  (aU (cE (JW.t (uF (bF (qo hr.units) (JE.d (jc gj hr (aG (ys hr 5 aD) (aG (jv 7) aX)))) (jv 8)) (iL (bF (bV hr.units) (JE.d (jc gj hr (aG (ys hr 5 aD) (aG (jv 7) aX)))) (jv 8))))) (aU (aY (JD.e iG))) bM)))))))))))
  (aU (aY (JD.e iG))))))) (Ks z.aC)
set_option maxHeartbeats 0 in
def Rr{fa:Addr}(um:Zp z.K z.mg "Marks" z.aC)(j0:nN z)(j5:nO z)(lN:pN z)(q8:ve z)(gm:jJ z)(jh:l5 z)(j6:nQ z)(mT:qK z)(mU:qL z)(j7:nR z)(j8:nT z)(j9:nU z)(q9:vf z)(rT:Ar z)(rq:vg z)(Ob:Oa z)(uu:xB z)(uv:xC z)(rA:vh z)(wQ:As z)(wR:Au z)(uw:xD z)(kH:sG z)(pB:sH z)(mw:vj z)(pC:sJ z)(ji:l6 z)(ux:xE z)(wU:Av z)(wV:Aw z)(pD:xF z)(mV:qU z)(WG:aaM z)(N:NZ z)(Ut:z.mg "law" =some (.ref fa)):
  ∃fd:FuncData,(∀(s:Shared)(v:Value),BindsTo s fd ⟨[v],[]⟩ [("_law_script",v)])/\∀b:Heap,z.K.In b->b.Ns mainGlobals z.mg->b.life.ids=[(156,152)]->jC z.P z.w z.K z.mg b vK 13 fa fd ["_law_script"] (spT z.K 1 (CG 63)):=by
 obtain⟨f,fd,F,m⟩:=WG.ex;cases Ut.symm.trans m;refine⟨fd,λs v=>?_,λb _ _ hI0=>?_⟩
 .obtain⟨_,_,_,_,_,_,_,_,_,rfl,_,_⟩:=F.ex;exact .of_eq rfl
 .have hI:(156,152)∈b.life.ids:=by rw[hI0];exact .head _
  have jX:iV z b:=vn j0 N;have jW:iX z b:=vo j5 N;have lK:jS z b:=wK lN N;have d9:fO z b:=pT gm N;have jV:i7 z b:=vq j7 N;have jT:je z b:=vA j9;have qV:oW z b:=AY q9 N;have ur:qN z b:=Dq uu N;have br:fP z b:=Ds uv N;have wL:tW z b:=E9 wQ N;have pq:mK z b:=Ay pB;have gM:l7 z b:=Du ux N;have gT:kE z b:=AW q8 N lK jT;have jf:iA z b:=uh jh N d9;have jY:i9 z b:=vv j8 N jV;have qZ:o8 z b:=A1 rA N br;have wO:tY z b:=Fb wR N wL br;have uo:qQ z b:=Dt uw N br;have wN:uc z b:=Fe wU N gM;have wM:ue z b:=Ff wV N gM;have jU:iZ z b:=vp j6 N jf gT;have mQ:lF z b:=xW mT N gT;have jB:lJ z b:=xZ mV N wN;have mR:lH z b:=xY mU N mQ jU;have Dy:∀j:Nat,jz z b j:=by
   intro j
   induction j with
   |zero=>exact CI kH (Sd.Kr)
   |succ j ih=>exact(Ax kH N br uo ih).mono a_
  have dD:=(Dy 5)
  have G0:∀j:Nat,l8 z b j:=by
   intro j
   induction j with
   |zero=>exact CI pD (NT)
   |succ j ih=>exact(Dv pD ih wM).mono a_
  have fQ:=(G0 5)
  have Ku:∀j:Nat,oX z b j:=by
   intro j
   induction j with
   |zero=>exact MT rT ((N7 z.aC))
   |succ j ih=>exact(E8 rT N qV ih mR jW).mono a_
  have jg:=(Ku 5)
  have qW:oZ z b:=A0 rq hI jg;have Fg:∀j:Nat,kF z b j:=by
   intro j
   induction j with
   |zero=>exact CI mw (NS)
   |succ j ih=>exact(A2 mw N pq ih).mono a_
  have cO:=(Fg 9)
  have IS:GZ z b:=Rq Ob N jX jY qW um;have gg:jA z b:=AA pC cO;have gj:iC z b:=uq ji N gg;exact WE F N ur qZ dD br IS jB fQ wO gg gj
def all_mk{w:World}{K:AAD}{mg:AAF}{fa aC:Addr}(um:Zp K mg "Marks" aC)(j0:xP K aC "__init__" "Marks.__init__" iU)(j5:xP K aC "of_thing" "Marks.of_thing" iW)(lN:xP K aC "is_void" "Marks.is_void" jR)(q8:xP K aC "trim" "Marks.trim" oU)(gm:xP K aC "basics_among" "Marks.basics_among" fM)(jh:xP K aC "are_apart" "Marks.are_apart" iz)(j6:xP K aC "together" "Marks.together" iY)(mT:xP K aC "beside" "Marks.beside" lE)(mU:xP K aC "joined" "Marks.joined" lG)(j7:xP K aC "bunch_of" "Marks.bunch_of" i6)(j8:xP K aC "stand_of" "Marks.stand_of" i8)(j9:Df K mg "has_one_within" jd)(q9:Df K mg "sure_marks" oV)(rT:Df K mg "marks_by" tU)(rq:DfL K mg "laid_marks" oY 156 152)(Ob:Df K mg "laid" GY)(uu:Df K mg "_law_feed" qM)(uv:Df K mg "_law_draw" qO)(rA:Df K mg "_law_table" o7)(wQ:Df K mg "_law_all" tV)(wR:Df K mg "_law_row" tX)(uw:Df K mg "_law_test" qP)(kH:Df K mg "_law_saying" mH)(pB:Df K mg "_law_passes" mJ)(mw:Df K mg "_law_holds" o9)(pC:Df K mg "_law_is_fit" mL)(ji:Df K mg "_law_fits_stand" iB)(ux:Df K mg "_law_trim" qR)(wU:Df K mg "_law_key" tZ)(wV:Df K mg "_law_put" ud)(pD:Df K mg "_law_laid" qT)(mV:Df K mg "_law_is_told" lI)(WG:Df K mg "law" IP)(N:Nb l.prog w K mg aC)(Ut:mg "law" =some (.ref fa)):
  ∃fd:FuncData,(∀(s:Shared)(v:Value),BindsTo s fd ⟨[v],[]⟩ [("_law_script",v)])/\∀base:Heap,K.In base->base.Ns mainGlobals mg->base.life.ids=[(156,152)]->jC l.prog w K mg base vK 13 fa fd ["_law_script"] (spT K 1 (CG 63)):=
 Rr (z:=⟨l.prog,w,K,mg,aC⟩) um j0 j5 lN q8 gm jh j6 mT mU j7 j8 j9 q9 rT rq Ob uu uv rA wQ wR uw kH pB mw pC ji ux wU wV pD mV WG N Ut
def walk{q:Program}{loose:BBB}{XP:(Str->BBP)->Heap->Prop}{YP:World->Heap->Prop}{d:DefRec}{K:Params->W.Frag}(hn:l.most=some 63)(hdf:d.params.defaults=[])
  (hY:∀(w:World)(h:Heap),YP w h->(K w.params).In h/\W.TabsAt [(156,152)] h/\∀p∈([(156,152)]:List (Addr×Addr)),(K w.params).lookup p.2=none)
  (F:∀(w:World)(mg:AAF)(fa:Addr)(h:Heap),(K w.params).In h->h.Ns mainGlobals mg->mg d.name=some (.ref fa)->
   ∃fd:FuncData,(∀(s:Shared)(u:Value),BindsTo s fd ⟨[u],[]⟩ [("_law_script",u)])/\∀base:Heap,(K w.params).In base->base.Ns mainGlobals mg->base.life.ids=[(156,152)]->jC l.prog w (K w.params) mg base vK 13 fa fd ["_law_script"] (spT (K w.params) 1 (CG 63))):
  W.WalkO q loose XP YP l.row.toRowW d [] (λf vs=>PySem.call f vs):=
 L2.O0 (n:=63) (k:=13) (x:="_law_script") (CX:=λ_=>vK) (sp:=λw=>spT (K w.params) 1 (CG 63)) hn b_ hdf ⟨rfl,by decide,by decide,rfl⟩ hY F (λw H a ns hl hO hS=>UU hl hO hS) λ_ _ _ _ _ z=>z
end K20
open PySem.W
noncomputable def PySem.W.Fast.tw317098171268477539:Nat->Stmt:=K20.top
theorem PySem.W.Fast.te317098171268477539:K20.top=PySem.W.Fast.tw317098171268477539:=rfl
def K20.sc:Scope:=PySem.Challenge.pw_surewatch_k20_laid.main.scope
noncomputable def PySem.W.Fast.tw13325373507643639343:Scope:=K20.sc
theorem PySem.W.Fast.te13325373507643639343:K20.sc=PySem.W.Fast.tw13325373507643639343:=rfl
def K20.pw:Program:={main:={body:=[K20.top 0,K20.top 1,K20.top 2,K20.top 3,K20.top 4,K20.top 5,K20.top 6,Function.const _ (K20.top 7) (Stmt.FunctionDef (Function.const _ "" @Expr.Lambda)),K20.top 8,K20.top 9,K20.top 10,K20.top 11,K20.top 12,K20.top 13,K20.top 14,K20.top 15,K20.top 16,K20.top 17,K20.top 18,K20.top 19,K20.top 20,K20.top 21,K20.top 22,K20.top 23,K20.top 24,K20.top 25,K20.top 26,K20.top 27],scope:=K20.sc,futureAnnotations:=false,file:="/claim/cut.py",more:=[]},modules:=[],parses:=[],absent:=[],harvested:=[],given:={argv:=[],stdin:=[],environ:=some [([76,67,95,65,76,76],[67,46,85,84,70,45,56])]}}
def K20.rw:OpenLaw:={prog:=K20.pw,name:=(PySem.Str.ofString "law"),about:=[(PySem.Str.ofString "laid")],foot:=17,most:=some 63,bound:=none,writes:=false}
namespace PySem.W.Fast
def tw6527371036319222125:=0
def tw7867230939869482521:=0
def tw8318684409720301743:=0
def tw7085224816955073196:=0
def tw10128268342082100426:=0
def tw14634807849265646344:=0
def tw9262272554124485799:=0
def tw18420910459715549145:=0
def tw2035630845628107951:=0
def tw18013148927085915531:=0
def tw5354623984469383221:=0
def tw14985021539079716520:=0
def tw5411870730581398666:=0
def tw15682223429124479798:=0
def tw8418482867913663282:=0
def tw12577726466825733985:=0
def tw2349234829496467044:=0
def tw11163326140907312450:=0
def tw8550121870479295947:=0
def tw10464693892111025320:=0
def tw3840677420791998245:=0
def tw9232060146256501851:=0
def tw4656542656044372644:=0
def tw134128216481573170:=0
def tw14397497986688091545:=0
def tw9463481070540323846:=0
def tw5113435892859333455:=0
def tw5508349799255360074:=0
def tw11626745806325072082:=0
def tw11528158455033545978:=0
def tw4140669370967952520:=0
def tw8105399050833229232:=0
def tw14406230223231178045:=0
def tw8028188089697378341:=0
def tw11859609447642733650:=0
def tw12362364918500942774:=0
def tw4641900664648606779:=0
def tw4032540764860385885:=0
def tw10884848343935604762:=0
def tw7722097697328661385:=0
def tw5238091565349335897:=0
def tw14450189949749396015:=0
def tw1987865667928402039:=0
def tw10376986830007079145:=0
def tw1909849049231358316:=0
def tw15713777844945357385:=0
def tw204336364776156167:=0
def tw11641874044674748641:=0
def tw16114007182597674173:=0
def tw1360488330853121662:=0
def tw10135371763595703997:=0
def tw8114952860191179415:=0
def tw15323486298467276452:=0
def tw5225066415817266321:=0
def tw4530090768034000521:=0
def tw8597992687886227743:=0
def tw17806872292424870758:=0
def tw2148274278853718724:=0
def tw659071340396481717:=0
def tw18038630598259634473:=0
def tw15649414581916038522:=0
def tw10449867361200833241:=0
def tw18093123603009177907:=0
def tw8143036496012681772:=0
def tw15000925126836124599:=0
end PySem.W.Fast
set_option maxRecDepth 100000 in
set_option maxHeartbeats 0 in
def K20.holds:K20.rw.Holds:=by
 w_on;o_law;k_head;(case hw=>w_witness2)
 k_fill
 refine K20.walk (l:=K20.rw) rfl rfl (λw h Y=>⟨W.km_in_of Y,λq hq=>(by cases aaO.mp hq;exact⟨W.codeHd_of_K (W.km_in_of Y) (by kernel_rfl),W.km_tabs_of Y _ (aaO.mpr rfl)⟩),λq hq=>(by cases aaO.mp hq;kernel_rfl)⟩) ?F
 case F=>
  intro w mg fa h KX G hmg;refine' K20.all_mk ?um ?_ ?_ ?_ ?_ ?_ ?_ ?_ ?_ ?_ ?_ ?_ ?_ ?_ ?_ ?_ ?_ ?_ ?_ ?_ ?_ ?_ ?_ ?_ ?_ ?_ ?_ ?_ ?_ ?_ ?_ ?_ ?_ ?_ ?_ hmg
  (case um=>refine' L2.UX KX G ?a ?b ?c;(case a=>k_is);(case b=>k_is);(case c=>k_is))
  iterate 11 (refine' L2.UW ?a ?l ?c ?k ?y;(case a=>k_is);(case l=>k_is);(case c=>k_is);(case k=>k_is);(case y=>k_is))
  iterate 3 (refine' L2.R7 KX G ?a ?l ?c ?k;(case a=>k_is);(case l=>k_is);(case c=>k_is);(case k=>k_is))
  (refine' L2.Ve KX G ?a ?l ?c ?k ?y;(case a=>k_is);(case l=>k_is);(case c=>k_is);(case k=>k_is);(case y=>kernel_rfl))
  iterate 18 (refine' L2.R7 KX G ?a ?l ?c ?k;(case a=>k_is);(case l=>k_is);(case c=>k_is);(case k=>k_is))
  refine⟨ab6 KX G ?_,ab6 KX G ?_,ab6 KX G ?_,ab6 KX G ?_,ab6 KX G ?_,ab6 KX G ?_,ab6 KX G ?_,ab6 KX G ?_,ab6 KX G ?_,ab6 KX G ?_,ab6 KX G ?_,ab6 KX G ?_,ab6 KX G ?_,⟨_,agx KX G (by k_is)⟩,⟨?_,?_,?_,?_⟩,?_,?_,?_⟩<;>k_is
theorem PySem.Challenge.cw_surewatch_k20_laid_holds : PySem.Challenge.rw_surewatch_k20_laid.Holds :=
 K20.holds

