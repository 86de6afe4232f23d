import PyProof.Rows.All
import Wide.All
import OpenK.AllK
import Wide.FinOn
import PyProof.EqAt
import PyProof.EqKinds
import PyProof.TupleCall
import Lean
import PySem.Challenge.RW_surewatch_k25_what_shows
set_option Elab.async false
set_option linter.all false
set_option maxRecDepth 100000
set_option bootstrap.genMatcherCode false
abbrev BBB:=List PySem.Str
abbrev BBC:=List PySem.Expr
abbrev BBD:=List Int
abbrev BBE:=List PySem.Addr
abbrev BBF:=List PySem.Env
abbrev BBG:=List PySem.Value
abbrev BBH:=List PySem.Stmt
abbrev BBI:=List PySem.Keyword
abbrev BBJ:=List Nat
abbrev BBL:=Option PySem.Expr
abbrev BBM:=Option Int
abbrev BBN:=Option PySem.Addr
abbrev BBP:=Option PySem.Value
noncomputable section
abbrev BBT(x:PySem.Str):Prop:=(x == ("__debug__":PySem.Str))=false
abbrev BBU(x:PySem.Str):Prop:=(x == ("__classdict__":PySem.Str))=false
abbrev AAD:=PySem.W.Frag
abbrev AAE:=PySem.Value->PySem.Shared->Prop
abbrev AAF:=PySem.Str->Option PySem.Value
abbrev AAG:=List (PySem.Addr×PySem.Obj)
abbrev AAJ:=List (PySem.Str×Int)
abbrev AAK:=Array PySem.Value
abbrev AAL:=List PySem.Value
abbrev aaa:=@PySem.wpAny_bind
abbrev aad:=@Option.bind_some
abbrev aah:=@List.length_map
abbrev aai:=@PySem.Heap.get?_push_of_some
abbrev aaj:=@List.mem_cons_of_mem
abbrev aak:=@List.size_toArray
abbrev aal:=@List.mem_cons_self
abbrev aam:=@Nat.le_refl
abbrev aan:=@List.length_append
abbrev aao:=@List.mem_singleton
abbrev aau:=@PySem.Heap.lt_size
abbrev aav:=@List.mem_cons
abbrev aaz:=@List.getElem?_eq_getElem
abbrev aaD:=@List.getElem?_eq_some_iff
abbrev aaE:=@Nat.lt_of_lt_of_le
abbrev aaF:=@PySem.Heap.get?_push_size
abbrev aaG:=@List.mem_append
abbrev abl:=@Nat.le_trans
abbrev abn:=@List.length_cons
abbrev abt:=@List.mem_map
abbrev abu:=@Nat.ne_of_lt
abbrev abv:=@List.getElem?_set_ne
abbrev abw:=@Bool.and_eq_true
abbrev abx:=@List.getElem?_map
abbrev aby:=@List.getD_eq_getElem?_getD
abbrev abz:=@List.mem_append_right
abbrev abG:=@List.not_mem_nil
abbrev abH:=@Nat.zero_le
abbrev abI:=@List.any_eq_true
abbrev abJ:=@Option.some.inj
abbrev abK:=@List.mem_of_getElem?
abbrev abO:=@Array.getElem?_eq_getElem
abbrev abP:=@Bool.and_eq_true_iff
abbrev abQ:=@PySem.PassesOwn.never
abbrev abR:=@List.length_singleton
abbrev abT:=@PyProof.Rows.slot_tuple_getitem
abbrev abU:=@decide_eq_false
abbrev abW:=@Array.length_toList
abbrev abX:=@List.map_cons
abbrev abY:=@List.find?_cons
abbrev abZ:=@List.nil_append
abbrev ab1:=@List.getElem?_append_left
abbrev ab2:=@List.all_eq_true
abbrev ab3:=@PySem.F.slot_list_append
abbrev ab4:=@PySem.F.type_list_append
abbrev ab5:=@PySem.wpAny_newObj_type
abbrev ab6:=@List.length_range
abbrev ab7:=@PySem.W.mg_none_of
abbrev ab8:=@decide_eq_true
abbrev ab9:=@List.length_take
abbrev acd:=@of_decide_eq_true
abbrev ace:=@List.getElem?_set_self
abbrev acf:=@PySem.wpAny_mono
abbrev acg:=@List.map_append
abbrev ach:=@List.length_drop
abbrev aci:=@decide_eq_true_eq
abbrev acj:=@Ne.symm
abbrev ack:=@List.mem_range
abbrev acm:=@PySem.wpAny_holding
abbrev acn:=@PySem.wpAny_ite_split
abbrev aco:=@Classical.byContradiction
abbrev acp:=@PySem.mem_of_lookup
abbrev acq:=@Array.getElem?_toList
abbrev acr:=@List.map_map
abbrev acv:=@Array.getD_eq_getD_getElem?
abbrev acw:=@PyProof.Rows.Boot.tuple
abbrev acy:=@Nat.pow_le_pow_right
abbrev acz:=@Nat.lt_irrefl
abbrev acA:=@or_false
abbrev acB:=@List.mem_filter
abbrev acM:=@List.drop_eq_getElem_cons
abbrev acN:=@List.getElem?_eq_none
abbrev acO:=@PySem.sizeLine_eq
abbrev acP:=@PySem.wpAny_callSpecial?_slot
abbrev acQ:=@List.nodup_cons
abbrev acR:=@beq_eq_false_iff_ne
abbrev acS:=@PySem.Heap.SameBut.update
abbrev acT:=@PySem.Heap.get?_update_other
abbrev acU:=@List.take_of_length_le
abbrev acV:=@Nat.pow_succ
abbrev acW:=@List.all_cons
abbrev acX:=@List.any_cons
abbrev ac4:=@PySem.wpAny_call_entry
abbrev ac5:=@PySem.wpAny_Call_Name_kw
abbrev ac6:=@List.length_set
abbrev ac7:=@PySem.lookup_relabel_local
abbrev ac8:=@Bool.eq_iff_iff
abbrev ac9:=@PySem.wpAny_truthy_bool
abbrev ada:=@List.length_reverse
abbrev adb:=@List.map_congr_left
abbrev ade:=@List.lookup_cons
abbrev adf:=@PyProof.Rows.Boot.list
abbrev adg:=@Nat.le_of_lt
abbrev adh:=@PyProof.Rows.callWith_type1
abbrev adi:=@Nat.lt_of_le_of_lt
abbrev adk:=@List.idxOf_lt_length_of_mem
abbrev adl:=@Classical.choose_spec
abbrev adm:=@PyProof.Rows.Boot.all
abbrev adn:=@PyProof.Rows.Boot.any
abbrev ado:=@List.getElem?_append_right
abbrev adp:=@Nat.lt_succ_of_lt
abbrev adq:=@List.mem_append_left
abbrev ads:=@PySem.Around.under_plainId
abbrev adt:=@List.mem_of_mem_take
abbrev adu:=@PySem.Heap.size_push
abbrev adv:=@PySem.boot_len
abbrev adw:=@if_false
abbrev adx:=@PySem.F.called_set
abbrev ady:=@List.getElem?_replicate
abbrev adz:=@PySem.wpAny_getItem_str_slice
abbrev adA:=@Bool.false_eq_true
abbrev adB:=@List.append_nil
abbrev adC:=@List.length_nil
abbrev adD:=@PySem.W.kia_one
abbrev adE:=@PySem.codeAny_builtin
abbrev adF:=@Nat.le_succ
abbrev adG:=@PySem.wpAny_setState_of
abbrev adH:=@PySem.codeAny_mono
abbrev adI:=@PySem.Heap.get?_update_self
abbrev adJ:=@List.Perm.refl
abbrev adK:=@Nat.lt_succ_self
abbrev adL:=@Option.getD_some
abbrev adM:=@PySem.wpAny_rule
abbrev adN:=@PySem.wpAny_askSetting
abbrev adO:=@List.map_take
abbrev adP:=@List.filterMap_cons
abbrev adQ:=@Nat.mul_le_mul_left
abbrev adR:=@PySem.wpAny_passesOwn
abbrev adS:=@Array.forIn_toList
abbrev adT:=@PySem.Calls.spliced_cons
abbrev adU:=@PySem.F.args_tuple_add_2
abbrev adW:=@PySem.wpAny_typeOf
abbrev adX:=@PySem.wpAny_setField_rec
abbrev adY:=@Nat.one_le_two_pow
abbrev adZ:=@PySem.F.slot_list_extend
abbrev ad0:=@PySem.F.type_list_extend
abbrev ad1:=@Bool.false_and
abbrev ad2:=@List.nodup_nil
abbrev ad3:=@PySem.isSubtype_type
abbrev ad4:=@PySem.F.entry_tuple_add
abbrev ad5:=@PyProof.Rows.F.plain_set_update_loop
abbrev ad6:=@PySem.wpAny_pyIter_list
abbrev ad7:=@List.any_eq_false
abbrev ad8:=@List.reverse_cons
abbrev ad9:=@List.flatMap_cons
abbrev aea:=@PySem.F.slot_tuple_add
abbrev aeb:=@PySem.wpAny_field
abbrev aec:=@PySem.plainId_quiet
abbrev aed:=@PySem.strLen_append
abbrev aej:=@List.getElem_mem
abbrev aek:=@List.drop_length
abbrev ael:=@Nat.succ_le_succ
abbrev aem:=@PySem.F.slot_dict_get
abbrev aev:=@List.all_map
abbrev aew:=@PySem.SeqAt.EqAt.bool_bool
abbrev aey:=@PySem.SeqAt.EqAt.same
abbrev aez:=@PySem.Heap.get?_none_of_le
abbrev aeA:=@PyProof.Rows.callWith_builtin1
abbrev aeB:=@Nat.lt_trans
abbrev aeC:=@PySem.Txt.slice_le
abbrev aeE:=@PySem.post_val_or_str
abbrev aeF:=@Nat.zero_add
abbrev aeG:=@List.mem_of_mem_drop
abbrev aeH:=@List.foldl_cons
abbrev aeI:=@Nat.testBit_and
abbrev aeJ:=@PySem.SeqAt.EqAt.int_bool
abbrev aeK:=@PySem.SeqAt.EqAt.bool_int
abbrev aeL:=@PySem.SeqAt.EqAt.bool_str
abbrev aeM:=@PySem.SeqAt.EqAt.str_bool
abbrev aeN:=@PySem.W.plainGet_of
abbrev aeO:=@PySem.wpAny_setEntries_of
abbrev aeP:=@PyProof.Rows.slicePart_none
abbrev aeQ:=@Bool.and_false
abbrev aeR:=@PySem.SeqAt.EqAt.int_str
abbrev aeS:=@PySem.SeqAt.EqAt.str_int
abbrev aeT:=@PySem.SeqAt.EqAt.of_refs
abbrev aeU:=@Bool.false_ne_true
abbrev aeV:=@Array.ext_getElem?
abbrev aeW:=@List.find?_eq_none
abbrev aeX:=@Int.emod_lt_of_pos
abbrev aeY:=@PySem.Paired.length
abbrev aeZ:=@PySem.wpAny_standAt
abbrev ae0:=@Int.fdiv_eq_ediv_of_nonneg
abbrev ae1:=@Bool.false_or
abbrev ae2:=@List.map_drop
abbrev ae3:=@List.length_eraseIdx_of_lt
abbrev ae7:=@Array.perm_iff_toList_perm
abbrev ae8:=@PySem.Value.isInt_shape
abbrev ae9:=@PySem.wpAny_assign_Name
abbrev afa:=@PySem.Calls.spliced_nil
abbrev afb:=@Int.toNat_natCast
abbrev afc:=@PySem.wpAny_sequenceKey
abbrev afd:=@PySem.slot_list_getitem
abbrev afe:=@PySem.fits_of_scanBound
abbrev afg:=@List.ext_getElem?
abbrev afh:=@beq_iff_eq
abbrev afi:=@PySem.F.plain_extend_loop
abbrev afj:=@PySem.Around.in1_units
abbrev afk:=@PySem.wpAny_isInstance
abbrev afl:=@Nat.ne_of_gt
abbrev afm:=@List.getElem?_take_of_lt
abbrev afn:=@PySem.noFill_tuple_add
abbrev afo:=@beq_self_eq_true
abbrev afp:=@List.mem_reverse
abbrev afq:=@PyProof.Rows.Boot.sorted
abbrev afr:=@List.map_id'
abbrev afs:=@PySem.F.args_dict_get_3
abbrev aft:=@PySem.F.plainAttrs_list
abbrev afu:=@List.length_eq_zero_iff
abbrev afv:=@PySem.F.plain_list_iadd
abbrev afw:=@List.filter_cons_of_pos
abbrev afx:=@List.filter_cons_of_neg
abbrev afy:=@List.of_mem_zip
abbrev afz:=@Int.emod_nonneg
abbrev afA:=@Bool.or_false
abbrev afB:=@PySem.W.mg_of
abbrev afC:=@Bool.true_and
section
section
namespace L2
open PySem PySem.Spec PyProof.Rows
inductive D where
 |cJ|bl (b:Bool)|int (i:Int)|str (z:Str)|tup (ds:List D)|lst (ds:List D)
mutual
noncomputable def D.same:D->D->Bool
 |.cJ,.cJ=>true
 |.bl a,.bl b=>a == b
 |.int a,.int b=>a == b
 |.str a,.str b=>decide (a=b)
 |.tup a,.tup b=>D.sS a b
 |.lst a,.lst b=>D.sS a b
 |_,_=>false
noncomputable def D.sS:List D->List D->Bool
 |[],[]=>true
 |a::as,b::bs=>D.same a b && D.sS as bs
 |_,_=>false
end
mutual
theorem D.same_refl:∀a:D,D.same a a=true
 |.cJ=>rfl
 |.bl _=>by simp[D.same]
 |.int _=>by simp[D.same]
 |.str _=>by simp[D.same]
 |.tup a=>by unfold D.same;exact D.rJ a
 |.lst a=>by unfold D.same;exact D.rJ a
theorem D.rJ:∀a:List D,D.sS a a=true
 |[]=>rfl
 |a::as=>by unfold D.sS;rw[D.same_refl a,D.rJ as];rfl
end
mutual
theorem D.same_eq:∀{a b:D},D.same a b=true->a=b
 |.cJ,b,h=>by cases b<;>simp[D.same] at h ⊢
 |.bl _,b,h=>by cases b<;>simp[D.same] at h ⊢;exact h
 |.int _,b,h=>by cases b<;>simp[D.same] at h ⊢;exact h
 |.str _,b,h=>by cases b<;>simp[D.same] at h ⊢;exact h
 |.tup a,b,h=>by
  cases b with
  |tup b=>unfold D.same at h;rw[D.wQ h]
  |_=>simp[D.same] at h
 |.lst a,b,h=>by
  cases b with
  |lst b=>unfold D.same at h;rw[D.wQ h]
  |_=>simp[D.same] at h
theorem D.wQ:∀{a b:List D},D.sS a b=true->a=b
 |[],b,h=>by cases b<;>simp[D.sS] at h ⊢
 |a::as,b,h=>by
  cases b with
  |nil=>simp[D.sS] at h
  |cons b bs=>
   unfold D.sS at h;rw[abw] at h;rw[D.same_eq h.1,D.wQ h.2]
end
noncomputable instance:DecidableEq D:=fun a b=>if h:D.same a b=true then isTrue (D.same_eq h) else isFalse fun e=>h (e▸D.same_refl a)
noncomputable def bI (b:Bool):Int:=if b then 1 else 0
mutual
noncomputable def nf:D->D
 |.bl b=>.int (bI b)
 |.tup ds=>.tup (O5 ds)
 |d=>d
noncomputable def O5:List D->List D
 |[]=>[]
 |d::ds=>nf d::O5 ds
end
noncomputable def gZ:Nat->D->Bool
 |_,.bl _=>true
 |_,.int _=>true
 |_,.str _=>true
 |n+1,.tup ds=>ds.all (gZ n)
 |_,_=>false
mutual
theorem EW:∀(d:D) (n:Nat),gZ n d=true->gZ n (nf d)=true
 |.bl _,n,_=>by cases n<;>rfl
 |.int _,n,_=>by cases n<;>rfl
 |.str _,n,_=>by cases n<;>rfl
 |.cJ,n,h=>by cases n<;>exact h
 |.lst _,n,h=>by cases n<;>exact h
 |.tup ds,0,h=>by exact h
 |.tup ds,n+1,h=>Cd ds n h
theorem Cd:∀(ds:List D) (n:Nat),ds.all (gZ n)=true->(O5 ds).all (gZ n)=true
 |[],n,_=>rfl
 |d::ds,n,h=>by
  rw[acW,abw] at h;show((nf d::O5 ds).all (gZ n))=true;rw[acW,EW d n h.1,Cd ds n h.2];rfl
end
mutual
inductive yW (h:Heap):Value->D->Prop
 |bool (b:Bool):yW h (.bool b) (.int (bI b))
 |int (i:Int) (t:Tok):yW h (.int i t) (.int i)
 |str (x:Str) (t:Tok):yW h (.str x t) (.str x)
 |tup {a:Addr}{its:AAL}{ds:List D}(p:h.IsTuple a its.toArray) (r:lI h its ds):yW h (.ref a) (.tup ds)
inductive lI (h:Heap):BBG->List D->Prop
 |nil:lI h [] []
 |cons {u:Value}{d:D}{us:AAL}{ds:List D}(r:yW h u d) (rs:lI h us ds):lI h (u::us) (d::ds)
end
mutual
noncomputable def IZ (w:World):D->Int
 |.int i=>hashInt i
 |.str x=>hashStr w x
 |.tup ds=>reduceHash (Builtin.Tuple.tupleHashOf (rK w ds))
 |_=>0
noncomputable def rK (w:World):List D->BBD
 |[]=>[]
 |d::ds=>IZ w d::rK w ds
end
mutual
noncomputable def AA:D->Nat
 |.tup ds=>wC ds+1
 |_=>1
noncomputable def wC:List D->Nat
 |[]=>0
 |d::ds=>AA d+wC ds
end
theorem lI.length {h:Heap}:∀{us:AAL}{ds:List D},lI h us ds->us.length=ds.length
 |_,_,.nil=>rfl
 |_,_,.cons _ rs=>congrArg Nat.succ (lI.length rs)
mutual
theorem yW.inj {h:Heap}:∀{v:Value}{d e:D},yW h v d->yW h v e->d=e
 |_,_,_,.bool b,r=>by cases r;rfl
 |_,_,_,.int i t,r=>by cases r;rfl
 |_,_,_,.str x t,r=>by cases r;rfl
 |_,_,_,@yW.tup _ a its ds p r,q=>by
  cases q with
  |@tup _ its' ds' p' r'=>
   obtain⟨o,h1,_,n,h2⟩:=p;obtain⟨o',UO,_,n',h2'⟩:=p';rw[h1] at UO;cases UO;rw[h2] at h2';injection h2' with e1 _
   have e:its=its':=by simpa using congrArg Array.toList e1
   subst e;rw[lI.inj r r']
theorem lI.inj {h:Heap}:∀{vs:AAL}{ds es:List D},lI h vs ds->lI h vs es->ds=es
 |_,_,_,.nil,r=>by cases r;rfl
 |_,_,_,.cons r1 s1,r=>by
  cases r with
  |cons r2 s2=>rw[yW.inj r1 r2,lI.inj s1 s2]
end
mutual
theorem yW.keeps {h h':Heap}{d:Addr}{o:Obj}{es:Array DictEntry}{ep:Nat}(ho:h.get? d=some o) (hd:o.data= .dict es ep) (hs:Heap.SameBut d h h'):∀{v:Value}{k:D},yW h v k->yW h' v k
 |_,_,.bool b=>.bool b
 |_,_,.int i t=>.int i t
 |_,_,.str x t=>.str x t
 |_,_,@yW.tup _ a its ds p r=>by
  obtain⟨o',h1,h2,n,h3⟩:=p;have hne:a≠d:=by
   intro z;subst z;rw[ho] at h1;cases h1;rw[hd] at h3;cases h3
  exact .tup ⟨o',(hs.2 a hne).trans h1,h2,n,h3⟩ (lI.keeps ho hd hs r)
theorem lI.keeps {h h':Heap}{d:Addr}{o:Obj}{es:Array DictEntry}{ep:Nat}(ho:h.get? d=some o) (hd:o.data= .dict es ep) (hs:Heap.SameBut d h h'):∀{v:AAL}{k:List D},lI h v k->lI h' v k
 |_,_,.nil=>.nil
 |_,_,.cons r1 s1=>.cons (yW.keeps ho hd hs r1) (lI.keeps ho hd hs s1)
end
section
variable {prog:Program}{w:World}{E:AAE}
def vG {A:Around}{s:Shared}{b:Bool}{Q:Int->Shared->Prop}(h:Q (hashInt (bI b)) {s with toks:=s.toks+1}):wpAny (model prog w) A (pyHash (.bool b)) Q E s:=by
 refine PySem.W.pyHash_slot (T:="bool") rfl F.slot_bool_hash F.entry_int_hash (F.args_int_hash_1 _) (beq_builtin_none _) (.inl rfl) ?_;cases b
 ·exact(show wpAny _ _ (do ret (<-mkInt 0)) _ _ s from aaa (wpAny_mkInt (wpAny_pure ⟨_,_,rfl,h⟩)))
 ·exact(show wpAny _ _ (do ret (<-mkInt 1)) _ _ s from aaa (wpAny_mkInt (wpAny_pure ⟨_,_,rfl,h⟩)))
mutual
theorem Ce:∀(d:D){n:Nat}{v:Value}{A:Around}{s:Shared}{Q:Int->Shared->Prop},yW s.heap v d->gZ n d=true->A.units+n<cLine->Q (IZ w d) {s with toks:=s.toks+AA d}->wpAny (model prog w) A (pyHash v) Q E s
 |.int i,n,v,A,s,Q,x,_,_,h=>by
  cases x with
  |int=>exact wpAny_pyHash_int h
  |bool b=>exact vG h
 |.str y,n,v,A,s,Q,x,_,_,h=>by cases x;exact wpAny_pyHash_str h
 |.cJ,n,v,A,s,Q,x,_,_,h=>by cases x
 |.bl _,n,v,A,s,Q,x,_,_,h=>by cases x
 |.lst _,n,v,A,s,Q,x,_,_,h=>by cases x
 |.tup ds,n,v,A,s,Q,x,hk,hu,h=>by
  cases n with
  |zero=>simp[gZ] at hk
  |succ n=>
   cases x with
   |@tup a its _ p r=>
    obtain⟨o,hg,hc,m,hd⟩:=p;refine PySem.W.pyHash_slot (T:="tuple") ⟨_,hg,hc⟩ F.slot_tuple_hash F.entry_tuple_hash (F.args_tuple_hash_1 _) (beq_builtin_none _) (.inr (by lia)) ?_;show wpAny _ _ (Builtin.Tuple.tupleItemsOf (.ref a) >>= _) _ _ s;refine aaa (wpAny_tupleItemsOf hg hd ?_);refine aaa ?_;rw[<-adS];refine zJ ds (n:=n) (A:=A.in1) (b:=#[]) r hk (by rw[afj];lia) fun b hb=>?_;show wpAny _ _ (retInt (Builtin.Tuple.tupleHashOf b.toList)) _ _ _;rw[hb];refine aaa (wpAny_mkInt (wpAny_pure ⟨_,_,rfl,?_⟩));have e:(#[]:Array Int).toList++rK w ds=rK w ds:=by simp
    rw[e];exact h
theorem zJ:∀(ds:List D){n:Nat}{vs:AAL}{A:Around}{s:Shared}{b:Array Int}{Q:Array Int->Shared->Prop},lI s.heap vs ds->ds.all (gZ n)=true->A.units+n<cLine->
  (∀b',b'.toList=b.toList++rK w ds->Q b' {s with toks:=s.toks+wC ds})->
  wpAny (model prog w) A (forIn vs b fun x r=>do let h <-pyHash x;pure PUnit.unit;pure (ForInStep.yield (r.push h))) Q E s
 |[],n,_,A,s,b,Q,x,_,_,h=>by cases x;exact wpAny_pure (h b (by simp[rK]))
 |d::ds,n,_,A,s,b,Q,x,hk,hu,h=>by
  cases x with
  |cons x1 x2=>
   rw[acW,abw] at hk;rw[List.forIn_cons];refine aaa (aaa (Ce d (n:=n) x1 hk.1 hu ?_));refine aaa (wpAny_pure (wpAny_pure ?_));refine zJ ds (n:=n) x2 hk.2 hu fun b' hb=>?_;have q:=h b' (by simp[hb,rK]);show Q b' {s with toks:=s.toks+AA d+wC ds};rw[Nat.add_assoc];exact q
end
end
def AB (n:Nat) (f:Nat->Bool):(List.range (n+1)).all f=(f 0 && (List.range n).all fun j=>f (j+1)):=by
 rw[List.range_succ_eq_map,acW,aev];rfl
theorem Cf:∀ds es:List D,((List.range (min ds.length es.length)).all (fun j=>decide (ds[j]? =es[j]?)) && ds.length == es.length)=decide (ds=es)
 |[],[]=>by simp
 |[],e::es=>by simp
 |d::ds,[]=>by simp
 |d::ds,e::es=>by
  have ih:=Cf ds es;have e1:min (d::ds).length (e::es).length=min ds.length es.length+1:=by simp only[abn];lia
  rw[e1,AB];have e2:(fun j=>decide ((d::ds)[j+1]? =(e::es)[j+1]?))=fun j=>decide (ds[j]? =es[j]?):=by funext j;simp
  have e3:((d::ds).length == (e::es).length)=(ds.length == es.length):=by simp
  have e4:decide ((d::ds)[0]? =(e::es)[0]?)=decide (d=e):=by simp
  have e5:decide (d::ds=e::es)=(decide (d=e) && decide (ds=es)):=by
   by_cases a:d=e
   ·subst a;by_cases b:ds=es<;>simp[b]
   ·simp[a]
  rw[e2,e3,e4,Bool.and_assoc,ih,e5]
def I0 {α:Type}(l:List α) (j:Nat) (h:j<l.toArray.size):l[j]? =some l.toArray[j]:=by
 have z:j<l.length:=by simpa using h
 simp[z]
mutual
theorem eqK:∀(d:D){e:D}{n:Nat}{A:Around}{s:Shared}{u v:Value},yW s.heap u d->yW s.heap v e->gZ n d=true->A.units+n<cLine->SeqAt.EqAt A s u v (decide (d=e))
  |.int i,e,n,A,s,u,v,r1,r2,_,hu=>by
    have di:∀i j:Int,decide (D.int i=D.int j)=(i == j):=fun i j=>by by_cases z:i=j<;>simp[z]
    cases r1 with
    |int _ t=>
      cases r2 with
      |int j t'=>rw[di];exact SeqAt.EqAt.int_int i t j t'
      |bool b=>rw[di];exact aeJ i t b
      |str x t'=>exact aeR i t x t'
      |tup p r=>exact SeqAt.EqAt.int_tuple i t p (by lia)
    |bool a=>
      cases r2 with
      |int j t'=>rw[di];exact aeK a j t'
      |bool b=>
        have:(bI a == bI b)=(a == b):=by cases a<;>cases b<;>rfl
        rw[di,this];exact aew a b
      |str x t'=>exact aeL a x t'
      |tup p r=>exact SeqAt.EqAt.bool_tuple a p (by lia)
  |.str i,e,n,A,s,u,v,r1,r2,_,hu=>by
    cases r1 with
    |str _ t=>
    cases r2 with
    |int j t'=>exact aeS i t j t'
    |bool b=>exact aeM i t b
    | str x t' => have : decide (D.str i = D.str x) = (i == x) := by by_cases z : i = x <;> simp [z]
                  rw[this];exact SeqAt.EqAt.str_str i t x t'
    |tup p r=>exact SeqAt.EqAt.str_tuple i t p (by lia)
  |.cJ,e,n,A,s,u,v,r1,r2,hk,hu=>by cases r1
  |.bl _,e,n,A,s,u,v,r1,r2,hk,hu=>by cases r1
  |.lst _,e,n,A,s,u,v,r1,r2,hk,hu=>by cases r1
  |.tup ds,e,n,A,s,u,v,r1,r2,hk,hu=>by
    cases n with
    |zero=>simp[gZ] at hk
    |succ n=>
    cases r1 with
    |@tup ca fS _ pa ra=>
    cases r2 with
    |int j t'=>exact SeqAt.EqAt.tuple_int j t' pa (by lia)
    |bool b=>exact SeqAt.EqAt.tuple_bool b pa (by lia)
    |str x t'=>exact SeqAt.EqAt.tuple_str x t' pa (by lia)
    |@tup cb cE es pb rb=>
      have items:∀j (h1:j<fS.toArray.size) (h2:j<cE.toArray.size),SeqAt.EqAt A.in1 s fS.toArray[j] cE.toArray[j] (decide (ds[j]? =es[j]?)):=fun j h1 h2=>
        UP ds (n:=n) (A:=A.in1) ra rb hk (by rw[afj];lia) (I0 fS j h1) (I0 cE j h2)
      by_cases hc:ca=cb
      . subst hc
        have z:=yW.inj (.tup pa ra) (.tup pb rb);rw[z,ab8 rfl];exact aey _
      . have q:=SeqAt.RcAt.tuples (e:=fun j=>decide (ds[j]? =es[j]?)) pa pb (by lia) items
        rw[aak,aak,ra.length,rb.length,Cf] at q;have z:decide (D.tup ds=D.tup es)=decide (ds=es):=by by_cases a:ds=es<;>simp[a]
        rw[z];exact aeT hc q
theorem UP:∀(ds:List D){es:List D}{n:Nat}{A:Around}{s:Shared}{us vs:AAL}{j:Nat}{u v:Value},lI s.heap us ds->lI s.heap vs es->ds.all (gZ n)=true->A.units+n<cLine->us[j]? =some u->vs[j]? =some v->
  SeqAt.EqAt A s u v (decide (ds[j]? =es[j]?))
 |[],es,n,A,s,us,vs,j,u,v,r1,r2,hk,hu,h1,h2=>by cases r1;simp at h1
 |d::ds,es,n,A,s,us,vs,j,u,v,r1,r2,hk,hu,h1,h2=>by
  rw[acW,abw] at hk;cases r1 with
  |cons a as=>
  cases r2 with
  |nil=>simp at h2
  |@cons v' e' vs' es' b bs=>
   cases j with
   |zero=>
    simp only[List.getElem?_cons_zero,Option.some.injEq] at h1 h2;subst h1;subst h2;have z:decide ((d::ds)[0]? =(e'::es')[0]?)=decide (d=e'):=by simp
    rw[z];exact eqK d a b hk.1 hu
   |succ j=>
    have z:decide ((d::ds)[j+1]? =(e'::es')[j+1]?)=decide (ds[j]? =es'[j]?):=by simp
    rw[z];exact UP ds as bs hk.2 hu (by simpa using h1) (by simpa using h2)
end
section
variable {prog:Program}{w:World}{A:Around}{E:AAE}{s:Shared}
mutual
theorem Ja:∀(d:D){n:Nat}{v:Value}{Q:Bool->Shared->Prop},yW s.heap v d->gZ n d=true->Q true s->wpAny (model prog w) A (eqIsQuiet n v) Q E s
 |.int i,n,v,Q,x,_,h=>by cases x<;>(rw[eqIsQuiet_byValue n rfl];exact wpAny_pure h)
 |.str y,n,v,Q,x,_,h=>by cases x;rw[eqIsQuiet_byValue n rfl];exact wpAny_pure h
 |.cJ,n,v,Q,x,_,h=>by cases x
 |.bl _,n,v,Q,x,_,h=>by cases x
 |.lst _,n,v,Q,x,_,h=>by cases x
 |.tup ds,n,v,Q,x,hk,h=>by
  cases n with
  |zero=>simp[gZ] at hk
  |succ n=>
   cases x with
   |@tup a its _ p r=>
    obtain⟨o,hg,hc,m,hd⟩:=p;have hT:s.TypeIs (.ref a) "tuple":=⟨o,hg,hc⟩
    unfold eqIsQuiet;refine aaa (wpAny_specialOf hT F.slot_tuple_eq.lookup ?_);show wpAny _ _ (isInstance (.ref a) (.type "tuple") >>= _) _ _ s;refine aaa (afk hT isSubtype_tuple_tuple ?_);simp only[Bool.not_true,adA,adw];refine aaa (wpAny_seqItems hg hd ?_);refine aaa ?_;show wpAny _ _ (forIn its.toArray _ _) _ _ s;rw[<-adS];exact zK ds r hk (wpAny_pure h)
theorem zK:∀(ds:List D){n:Nat}{vs:AAL}{Q:Option Bool×Unit->Shared->Prop},lI s.heap vs ds->ds.all (gZ n)=true->Q (none,()) s->
  wpAny (model prog w) A (forIn vs ((none,()):Option Bool×Unit) fun y __s=>do
   let __do_lift <-eqIsQuiet n y
   if(!__do_lift)=true then pure (ForInStep.done (some false,())) else pure (ForInStep.yield (none,()))) Q E s
 |[],n,_,Q,x,_,h=>by cases x;exact wpAny_pure h
 |d::ds,n,_,Q,x,hk,h=>by
  cases x with
  |cons x1 x2=>
   rw[acW,abw] at hk;rw[List.forIn_cons];refine aaa (aaa (Ja d x1 hk.1 ?_));simp only[Bool.not_true,adA,adw];refine wpAny_pure ?_;exact zK ds x2 hk.2 h
end
end
def kM (prog:Program) (w:World):HeapKind prog w D where
 is:=fun h k a=>yW h (.ref a) k/\gZ 8 k=true
 hash:=IZ w
 draws:=AA
 room:=fun A=>A.units+8<cLine
 inj:=fun hx hy=>hx.1.inj hy.1
 keeps:=fun x ho hd hs=>⟨x.1.keeps ho hd hs,x.2⟩
 pyHash:=fun hu hk h=>Ce _ hk.1 hk.2 hu h
 eqBool:=fun hu hx hy h=>eqK _ hx.1 hy.1 hx.2 hu _ _ _ _ h
 quiet:=fun hk h=>Ja _ hk.1 hk.2 h
def jE {prog:Program}{w:World}{A:Around}(hu:A.units+20<cLine):(kM prog w).room A.in1:=by
 show A.in1.units+8<cLine;rw[afj];lia
end L2
end
namespace L2
open PySem PySem.Spec PyProof.Rows
variable {H H':Hp}{a C:Addr}{o:Obj}{u:Value}{P prog:Program}{w:World}{g':Array GenState}{t' i k:Nat}{ch fp:BBE}{N ps:BBB}{x qual:Str}{M:Model}{A:Around}{E Q:AAE}{X:Cx}{pos:Pos}{pins:AAG}{σ:St}{op:CmpOp}{K:AAD}{es:BBC}{tg:Expr}{body:BBH}{r:R2}{g:Int->Int->Int}{us:AAL}{y:V}{mA mg:AAF}{pl:Sem Bool}{kw:List (Str×Value)}{base:Heap}{outer:BBF}{vs:List V}{scope:Scope}{kvs:List (D×V)}{xs:List (D×Addr×Value)}{MR:List (TE×TE)}
abbrev Key:=Sum Int Str
def wR:Key->Value->Bool
 |.inl k,.bool b=>decide (k=bI b)
 |.inl k,v=>Value.isInt k v
 |.inr x,v=>Value.isStrOf x v
noncomputable def Zy (w:World):Key->Int
 |.inl k=>hashInt k
 |.inr x=>hashStr w x
theorem dg:∀{k:Key}{v:Value},wR k v=true->(∃i t,k=Sum.inl i/\v=Value.int i t)\/(∃b,k=Sum.inl (bI b)/\v=Value.bool b)\/(∃x t,k=Sum.inr x/\v=Value.str x t)
 |.inl i,v,h=>by
  cases v with
  |bool b=>exact .inr (.inl ⟨b,by rw[acd (show decide (i=bI b)=true from h)],rfl⟩)
  |int j t=>obtain⟨t,e⟩:=ae8 (k:=i) (v:=Value.int j t) h;exact .inl ⟨i,t,rfl,e⟩
  |_=>exact absurd h (by simp[wR,Value.isInt])
 |.inr x,v,h=>by
  obtain⟨t,e⟩:=Value.isStrOf_shape (x:=x) (v:=v) h;exact .inr (.inr ⟨x,t,rfl,e⟩)
def GW (i:Int) (t:Tok):wR (.inl i) (.int i t)=true:=by simp[wR,Value.isInt]
def GX (x:Str) (t:Tok):wR (.inr x) (.str x t)=true:=by simp[wR,Value.isStrOf]
def AD (a b:Int):decide ((Sum.inl a:Key)=Sum.inl b)=(a == b):=by
 by_cases e:a=b
 ·subst e;simp
 ·have h:¬(Sum.inl a:Key)=Sum.inl b:=fun q=>e (Sum.inl.inj q);rw[abU h];exact(acR.mpr e).symm
def Qi (a b:Str):decide ((Sum.inr a:Key)=Sum.inr b)=decide (a=b):=by
 by_cases e:a=b
 ·subst e;simp
 ·have h:¬(Sum.inr a:Key)=Sum.inr b:=fun q=>e (Sum.inr.inj q);rw[abU h,abU e]
def Jb (a:Int) (b:Str):decide ((Sum.inl a:Key)=Sum.inr b)=false:=abU (fun q=>nomatch q)
def Jc (a:Str) (b:Int):decide ((Sum.inr a:Key)=Sum.inl b)=false:=abU (fun q=>nomatch q)
def iG (prog:Program) (w:World):PySem.KeyKind prog w Key where
 is:=wR
 hash:=Zy w
 inj:=fun v a b ha hb=>by
  rcases dg ha with⟨i,t,rfl,rfl⟩|⟨c,rfl,rfl⟩|⟨x,t,rfl,rfl⟩
  ·rcases dg hb with⟨j,u,rfl,e⟩|⟨c',rfl,e⟩|⟨y,u,rfl,e⟩
   ·injection e with e1 _;rw[e1]
   ·exact nomatch e
   ·exact nomatch e
  ·rcases dg hb with⟨j,u,rfl,e⟩|⟨c',rfl,e⟩|⟨y,u,rfl,e⟩
   ·exact nomatch e
   ·injection e with e1;rw[e1]
   ·exact nomatch e
  ·rcases dg hb with⟨j,u,rfl,e⟩|⟨c',rfl,e⟩|⟨y,u,rfl,e⟩
   ·exact nomatch e
   ·exact nomatch e
   ·injection e with e1 _;rw[e1]
 byValue:=fun k v h=>by
  rcases dg h with⟨i,t,rfl,rfl⟩|⟨c,rfl,rfl⟩|⟨x,t,rfl,rfl⟩<;>rfl
 pyHash:=fun hv h=>by
  rcases dg hv with⟨i,t,rfl,rfl⟩|⟨c,rfl,rfl⟩|⟨x,t,rfl,rfl⟩
  ·exact wpAny_pyHash_int h
  ·exact vG h
  ·exact wpAny_pyHash_str h
 eqBool:=fun hu hv h=>by
  rcases dg hu with⟨i,t,rfl,rfl⟩|⟨c,rfl,rfl⟩|⟨x,t,rfl,rfl⟩
  ·rcases dg hv with⟨j,u,rfl,rfl⟩|⟨c',rfl,rfl⟩|⟨y,u,rfl,rfl⟩
   ·rw[AD] at h;exact wpAny_eqBool_int h
   ·rw[AD] at h;exact aeJ i t c' _ _ _ _ h
   ·rw[Jb] at h;exact aeR i t y u _ _ _ _ h
  ·rcases dg hv with⟨j,u,rfl,rfl⟩|⟨c',rfl,rfl⟩|⟨y,u,rfl,rfl⟩
   ·rw[AD] at h;exact aeK c j u _ _ _ _ h
   ·have e:(bI c == bI c')=(c == c'):=by cases c<;>cases c'<;>rfl
    rw[AD,e] at h;exact aew c c' _ _ _ _ h
   ·rw[Jb] at h;exact aeL c y u _ _ _ _ h
  ·rcases dg hv with⟨j,u,rfl,rfl⟩|⟨c',rfl,rfl⟩|⟨y,u,rfl,rfl⟩
   ·rw[Jc] at h;exact aeS x t j u _ _ _ _ h
   ·rw[Jc] at h;exact aeM x t c' _ _ _ _ h
   ·rw[Qi] at h;exact wpAny_eqBool_str h
 «strs»:=fun k x t v h=>by
  rcases dg h with⟨i,u,rfl,e⟩|⟨c,rfl,e⟩|⟨y,u,rfl,e⟩
  ·exact nomatch e
  ·exact nomatch e
  ·injection e with e1 _
   subst e1;cases v<;>rfl
def Cg (prog:Program) (w:World) (i:Int) (t:Tok):(iG prog w).is (.inl i) (.int i t)=true:=GW i t
def Ci (prog:Program) (w:World) (x:Str) (t:Tok):(iG prog w).is (.inr x) (.str x t)=true:=GX x t
inductive V where
 |cJ|bl (b:Bool)|int (i:Int)|str (x:Str)|X5 (b:Array UInt8)|flt (b:UInt64)|ref (a:Addr)|ty (n:String)
 deriving DecidableEq
def RelV:V->Value->Prop
 |.cJ,u=>u=Value.none
 |.bl b,u=>u=Value.bool b
 |.int i,u=>∃t,u=Value.int i t
 |.str x,u=>∃t,u=Value.str x t
 |.X5 b,u=>∃t,u=Value.bytes b t
 |.flt b,u=>∃t,u=Value.float b t
 |.ref a,u=>u=Value.ref a
 |.ty n,u=>u=Value.type n
abbrev Vals:List V->BBG->Prop:=Paired RelV
def Vals.length {xs:List V}{us:AAL}(r:Vals xs us):xs.length=us.length:=aeY r
theorem Vals.get:∀{xs:List V}{us:AAL}{i:Nat}{x:V},Vals xs us->xs[i]? =some x->∃u,us[i]? =some u/\RelV x u
 |_,_,_,_,.nil,e=>by simp at e
 |_,_,0,_,.cons r _,e=>by simp at e;subst e;exact⟨_,rfl,r⟩
 |_,_,i+1,x,.cons _ t,e=>by
  obtain⟨u,h1,h2⟩:=Vals.get (i:=i) (x:=x) t (by simpa using e);exact⟨u,by simpa using h1,h2⟩
theorem Vals.set {x:V}{u:Value}(r:RelV x u):∀{xs:List V}{us:AAL}(i:Nat),Vals xs us->Vals (xs.set i x) (us.set i u)
 |_,_,_,.nil=>.nil
 |_,_,0,.cons _ t=>.cons r t
 |_,_,i+1,.cons q t=>.cons q (Vals.set r i t)
theorem Vals.append:∀{xs ys:List V}{us ws:AAL},Vals xs us->Vals ys ws->Vals (xs++ys) (us++ws)
 |_,_,_,_,.nil,s=>s
 |_,_,_,_,.cons r t,s=>.cons r (Vals.append t s)
theorem Vals.take:∀{xs:List V}{us:AAL}(n:Nat),Vals xs us->Vals (xs.take n) (us.take n)
 |_,_,0,_=>.nil
 |_,_,_+1,.nil=>.nil
 |_,_,n+1,.cons r t=>.cons r (Vals.take n t)
theorem Vals.drop:∀{xs:List V}{us:AAL}(n:Nat),Vals xs us->Vals (xs.drop n) (us.drop n)
 |_,_,0,r=>r
 |_,_,_+1,.nil=>.nil
 |_,_,n+1,.cons _ t=>Vals.drop n t
def nN:Option V->BBP->Prop
 |some v,some u=>RelV v u
 |none,none=>True
 |_,_=>False
def KV {κ:Type}:List (κ×V)->List (κ×Value)->Prop:=Paired fun(p:κ×V) (q:κ×Value)=>p.1=q.1/\RelV p.2 q.2
noncomputable def kV:Key->V
 |.inl i=>.int i
 |.inr x=>.str x
inductive HO where
 |lst (xs:List V)
 |tup (xs:List V)
 |dK (kvs:List (Key×V))|dT (kvs:List (D×V))
 |set (S:Int->Bool) (n:Nat)
 |ins (C dx:Addr) (fs:List (Str×V))
 |own (x:Addr)
 |UQ (C dx:Addr) (fs:List (Str×V))
 |xd (fs:List (Str×V))
 |met (f x:Addr)
 |iX (lo hi:Int)
 |jK (o:Obj) (u:HO)
 |Qj (ps:AAK)
 |ext (φ:Heap->Prop)
abbrev Hp:=Addr->Option HO
mutual
inductive Rep (H:Hp):V->D->Prop
 |cJ:Rep H .cJ .cJ
 |bl (b:Bool):Rep H (.bl b) (.bl b)
 |int (i:Int):Rep H (.int i) (.int i)
 |str (z:Str):Rep H (.str z) (.str z)
 |tup {a:Addr}{vs:List V}{ds:List D}(e:H a=some (.tup vs)) (r:bM H vs ds):Rep H (.ref a) (.tup ds)
 |lst {a:Addr}{vs:List V}{ds:List D}(e:H a=some (.lst vs)\/∃o,H a=some (.jK o (.lst vs))) (r:bM H vs ds):Rep H (.ref a) (.lst ds)
inductive bM (H:Hp):List V->List D->Prop
 |nil:bM H [] []
 |cons {v:V}{d:D}{vs:List V}{ds:List D}(r:Rep H v d) (rs:bM H vs ds):bM H (v::vs) (d::ds)
end
mutual
theorem Rep.tups {H H':Hp}(ht:∀b xs,H b=some (.tup xs)->H' b=some (.tup xs)):∀(d:D){n:Nat}{v:V},Rep H v d->gZ n d=true->Rep H' v d
 |.cJ,n,_,_,k=>by simp[gZ] at k
 |.bl b,n,_,r,k=>by cases r;exact .bl b
 |.lst _,n,_,_,k=>by simp[gZ] at k
 |.int i,n,_,r,k=>by cases r;exact .int i
 |.str i,n,_,r,k=>by cases r;exact .str i
 |.tup ds,n,_,r,k=>by
  cases n with
  |zero=>simp[gZ] at k
  |succ n=>
   cases r with
   |@tup a vs _ e rs=>exact .tup (ht _ _ e) (bM.tups ht ds rs k)
theorem bM.tups {H H':Hp}(ht:∀b xs,H b=some (.tup xs)->H' b=some (.tup xs)):∀(ds:List D){n:Nat}{vs:List V},bM H vs ds->ds.all (gZ n)=true->bM H' vs ds
 |[],n,_,r,k=>by cases r;exact .nil
 |d::ds,n,_,r,k=>by
  rw[acW,abw] at k;cases r with
  |cons r1 r2=>exact .cons (Rep.tups ht d r1 k.1) (bM.tups ht ds r2 k.2)
end
def Kd (H:Hp) (b:Addr) (k:D):Prop:=∃d,Rep H (.ref b) d/\gZ 8 d=true/\nf d=k
def Kd.tups {H H':Hp}{b:Addr}{k:D}(x:Kd H b k) (ht:∀b xs,H b=some (.tup xs)->H' b=some (.tup xs)):Kd H' b k:=by
 obtain⟨d,r,hk,e⟩:=x;exact⟨d,Rep.tups ht d r hk,hk,e⟩
noncomputable def upd (H:Hp) (a:Addr) (o:HO):Hp:=fun b=>if b=a then some o else H b
def aU {o:HO}:upd H a o a=some o:=by unfold upd;rw[if_pos rfl]
def bh {b:Addr}{o:HO}(h:b≠a):upd H a o b=H b:=by unfold upd;rw[if_neg h]
def UR {b:Addr}{o u:HO}(h:H a=some o) (h':H b=some u) (d:o≠u):a≠b:=by
 intro e;subst e;rw[h] at h';exact d (abJ h')
def bZ {b:Addr}{o:HO}(h:H a=some o) (h':H b=none):a≠b:=by
 intro e;subst e;rw[h] at h';cases h'
section
variable (P:Program)(w:World)
def fG (H:Hp) (h:Heap) (a:Addr):HO->Prop
 |.lst xs=>xs.length<=sizeLine/\∃(its:AAL) (n:Nat),Vals xs its/\h.get? a=some {cls:=.type "list",data:=.seq its.toArray n}
 |.tup xs=>xs.length<=sizeLine/\∃its:BBG,Vals xs its/\IsTup h a its.toArray
 |.dK kvs=>kvs.length<=sizeLine/\(a == sysModules)=false/\∃vs,KV kvs vs/\h.DictOf (iG P w) a vs
 |.dT kvs=>kvs.length<=sizeLine/\(a == sysModules)=false/\∃xs:List (D×Addr×Value),
   Paired (fun(p:D×V) (q:D×Addr×Value)=>p.1=q.1/\Kd H q.2.1 p.1/\RelV p.2 q.2.2) kvs xs/\
   ∃o es ep,h.get? a=some o/\o.ExactDict/\o.data= .dict es ep/\es.toList=xs.map (entryOfKey (kM P w))/\(xs.map (·.1)).Nodup
 |.set S n=>h.SetOf (intKind P w) a S n
 |.ins C dx fs=>H dx=some (.own a)/\fs.length<=1000/\dx≠a/\h.get? a=some (PySem.W.instObj C dx)/\
   ∃mA,h.Ns1 dx mA/\(∀f,nN (fs.lookup f) (mA f))/\PySem.Within mA (fs.map (·.1))
 |.UQ C dx fs=>H dx=some (.own a)/\fs.length<=1000/\dx≠a/\(∃oe vs,h.get? a=some oe/\oe.cls= .ref C/\oe.dict=some dx/\oe.data= .fields vs)/\∃mA,h.Ns1 dx mA/\(∀f,nN (fs.lookup f) (mA f))/\PySem.Within mA (fs.map (·.1))
 |.own _=>∃o,h.get? a=some o
 |.xd fs=>∃mA,h.Ns1 a mA/\(∀f,nN (fs.lookup f) (mA f))/\PySem.Within mA (fs.map (·.1))
 |.iX lo hi=>∃t u v,h.get? a=some {cls:=.type "range",data:=.fields #[.int lo t,.int hi u,.int 1 v]}
 |.jK o u=>h.get? a=some o/\fG H h a u
 |.Qj ps=>h.get? a=some {cls:=.none,data:=.fields ps}
 |.met f x=>h.get? a=some (PySem.W.methodObj (.ref f) (.ref x))
 |.ext φ=>φ h/\(∃o,h.get? a=some o)/\∀h1 h2:Heap,φ h1->(∀o,h1.get? a=some o->h2.get? a=some o)->φ h2
def pB (H:Hp) (h:Heap):Prop:=∀a o,H a=some o->fG P w H h a o
end
section
variable {P:Program}{w:World}{H H':Hp}{h h':Heap}{a:Addr}{o:HO}
def fG.lt (x:fG P w H h a o):a<h.objs.size:=by
 cases o with
 |lst xs=>obtain⟨_,_,_,_,e⟩:=x;exact aau e
 |tup xs=>obtain⟨_,_,_,p⟩:=x;exact p.lt
 |dK kvs=>obtain⟨_,_,_,_,o,_,_,e,_⟩:=x;exact aau e
 |dT kvs=>obtain⟨_,_,_,_,o,_,_,e,_⟩:=x;exact aau e
 |set S n=>obtain⟨o,_,_,_,e,_⟩:=x;exact aau e
 |ins C dx fs=>obtain⟨_,_,_,e,_⟩:=x;exact aau e
 |UQ C dx fs=>obtain⟨_,_,_,⟨_,_,e,_⟩,_⟩:=x;exact aau e
 |own y=>obtain⟨_,e⟩:=x;exact aau e
 |xd fs=>obtain⟨_,⟨_,_,_,e,_⟩,_⟩:=x;exact aau e
 |iX lo hi=>obtain⟨_,_,_,e⟩:=x;exact aau e
 |jK ob u=>obtain⟨e,_⟩:=x;exact aau e
 |Qj ps=>exact aau (show h.get? a=some _ from x)
 |met f y=>exact aau (show h.get? a=some _ from x)
 |ext φ=>obtain⟨_,⟨_,e⟩,_⟩:=x;exact aau e
theorem Paired.Cj {α β:Type}{F G:α->β->Prop}:∀{l₁:List α}{l₂:List β},Paired F l₁ l₂->(∀a b,F a b->G a b)->Paired G l₁ l₂
 |_,_,.nil,_=>.nil
 |_,_,.cons r t,f=>.cons (f _ _ r) (Paired.Cj t f)
def fG.stay (x:fG P w H h a o) (k:∀b u,(b=a\/H b=some (.own a))->h.get? b=some u->h'.get? b=some u)
  (ho:∀b,H b=some (.own a)->H' b=some (.own a)) (ht:∀b xs,H b=some (.tup xs)->H' b=some (.tup xs)):fG P w H' h' a o:=by
 induction o with
 |lst xs=>obtain⟨z,its,n,r,e⟩:=x;exact⟨z,its,n,r,k _ _ (.inl rfl) e⟩
 |tup xs=>obtain⟨z,its,r,ob,e,c⟩:=x;exact⟨z,its,r,ob,k _ _ (.inl rfl) e,c⟩
 |dK kvs=>obtain⟨z,y,vs,r,ob,es,ep,e,c⟩:=x;exact⟨z,y,vs,r,ob,es,ep,k _ _ (.inl rfl) e,c⟩
 |dT kvs=>
  obtain⟨z,y,xs,r,ob,es,ep,e,c⟩:=x;exact⟨z,y,xs,Paired.Cj r fun p q z=>⟨z.1,z.2.1.tups ht,z.2.2⟩,ob,es,ep,k _ _ (.inl rfl) e,c⟩
 |set S n=>obtain⟨ob,es,ep,t,e,c⟩:=x;exact⟨ob,es,ep,t,k _ _ (.inl rfl) e,c⟩
 |ins C dx fs=>
  obtain⟨d,z,ne,e,mA,⟨od,es,ep,e2,c⟩,r⟩:=x;exact⟨ho _ d,z,ne,k _ _ (.inl rfl) e,mA,⟨od,es,ep,k _ _ (.inr d) e2,c⟩,r⟩
 |UQ C dx fs=>
  obtain⟨d,z,ne,⟨oe,vs,e,r1⟩,mA,⟨od,es,ep,e2,c⟩,r⟩:=x;exact⟨ho _ d,z,ne,⟨oe,vs,k _ _ (.inl rfl) e,r1⟩,mA,⟨od,es,ep,k _ _ (.inr d) e2,c⟩,r⟩
 |own y=>obtain⟨ob,e⟩:=x;exact⟨ob,k _ _ (.inl rfl) e⟩
 |xd fs=>obtain⟨mA,⟨od,es,ep,e,c⟩,r⟩:=x;exact⟨mA,⟨od,es,ep,k _ _ (.inl rfl) e,c⟩,r⟩
 |iX lo hi=>obtain⟨t,u,v,e⟩:=x;exact⟨t,u,v,k _ _ (.inl rfl) e⟩
 |jK ob u ih=>obtain⟨e,q⟩:=x;exact⟨k _ _ (.inl rfl) e,ih q⟩
 |Qj ps=>
  have e:h.get? a=some {cls:=.none,data:=.fields ps}:=x;show h'.get? a=some {cls:=.none,data:=.fields ps};exact k a _ (.inl rfl) e
 |met f y=>
  have e:h.get? a=some (PySem.W.methodObj (.ref f) (.ref y)):=x;show h'.get? a=some (PySem.W.methodObj (.ref f) (.ref y));exact k a _ (.inl rfl) e
 |ext φ=>obtain⟨p,⟨o,e⟩,st⟩:=x;exact⟨st _ _ p fun o q=>k _ _ (.inl rfl) q,⟨o,k _ _ (.inl rfl) e⟩,st⟩
def pB.lt (x:pB P w H h) (e:H a=some o):a<h.objs.size:=(x a o e).lt
def pB.fresh (x:pB P w H h) (e:h.objs.size<=a):H a=none:=by
 cases q:H a with
 |none=>rfl
 |some u=>exact absurd (aaE (x.lt q) e) (acz _)
def pB.kept (x:pB P w H h) (k:∀b u,h.get? b=some u->h'.get? b=some u):pB P w H h':=fun a o e=>
 (x a o e).stay (fun b u _ q=>k b u q) (fun _ q=>q) fun _ _ q=>q
def pB.laid (x:pB P w H h) (k:∀b u,h.get? b=some u->h'.get? b=some u) (hp:h.objs.size<=a) (new:fG P w (upd H a o) h' a o):pB P w (upd H a o) h':=fun b u e=>by
 have hn:=x.fresh hp;by_cases hb:b=a
 ·subst hb;rw[aU] at e;cases e;exact new
 ·rw[bh hb] at e;exact(x b u e).stay (fun c v _ q=>k c v q) (fun c q=>by rw[bh (bZ q hn)];exact q) fun c xs q=>by rw[bh (bZ q hn)];exact q
end
def Rd (H:Hp) (a:Addr) (u:HO):Prop:=H a=some u\/∃o,H a=some (.jK o u)
def Rd.of {u:HO}(h:H a=some u):Rd H a u:=.inl h
def Rd.ok {h:Heap}{u:HO}(r:Rd H a u) (x:pB P w H h):fG P w H h a u:=by
 rcases r with r|⟨o,r⟩
 ·exact x a u r
 ·obtain⟨_,q⟩:=x a _ r;exact q
def US:Option HO->Prop
 |some (.lst _)=>True
 |some (.dK _)=>True
 |some (.dT _)=>True
 |some (.set _ _)=>True
 |some (.ins _ _ _)=>True
 |some (.UQ _ _ _)=>True
 |some (.xd _)=>True
 |some (.ext _)=>True
 |_=>False
section
variable {P:Program}{w:World}{H:Hp}{h h':Heap}{x e:Addr}{o':HO}
def pB.write (ok:pB P w H h) (mu:US (H x)) (he:e=x\/H e=some (.own x)) (k:∀b u,b≠e->h.get? b=some u->h'.get? b=some u) (Ub:∃u,h'.get? e=some u)
  (new:fG P w (upd H x o') h' x o'):pB P w (upd H x o') h':=fun b u q=>by
 have UT:∀c y,H c=some (.own y)->c≠x:=fun c y r z=>by subst z;rw[r] at mu;exact mu
 have Zz:∀c xs,H c=some (.tup xs)->c≠x:=fun c xs r z=>by subst z;rw[r] at mu;exact mu
 by_cases hb:b=x
 ·subst hb;rw[aU] at q;cases q;exact new
 ·rw[bh hb] at q;by_cases O6:b=e
  ·have q':H b=some (.own x):=by
    rcases he with z|z
    ·exact absurd (O6.trans z) hb
    ·rw[O6];exact z
   rw[q] at q';cases q';obtain⟨v,hv⟩:=Ub;exact⟨v,by rw[O6];exact hv⟩
  ·refine(ok b u q).stay (fun c v hc r=>k c v ?_ r) (fun c r=>by rw[bh (UT c b r)];exact r) fun c xs r=>by rw[bh (Zz c xs r)];exact r
   rcases hc with rfl|hc
   ·exact O6
   ·rintro rfl;rcases he with z|z
    ·exact UT c b hc z
    ·rw[hc] at z;cases z;exact hb rfl
end
structure Un (fs ex:BBE) (H H':Hp) (h h':Heap):Prop where
 keep:∀b o,h.get? b=some o->H b=none->b∉fs->b∉ex->h'.get? b=some o
 slot:∀b o,h.get? b=some o->H b=none->b∈fs->b∉ex->∃sl,h'.get? b=some {o with slots:=sl}
 free:∀b o,h.get? b=some o->H b=none->b∉ex->H' b=none
 there:∀b o,h.get? b=some o->b∉ex->∃o',h'.get? b=some o'
 tups:∀b xs,H b=some (.tup xs)->H' b=some (.tup xs)
 zf:∀b o u,H b=some (.jK o u)->H' b=some (.jK o u)
 AE:∀b ps,H b=some (.Qj ps)->∃more,H' b=some (.Qj (ps++more))
section
variable {fs ex:BBE}{H H1:Hp}{h h1 h':Heap}{a x e:Addr}{o:HO}
def Un.any (u:Un fs ex H H1 h h1){b:Addr}{ob:Obj}(q:h.get? b=some ob) (n:H b=none) (hx:b∉ex):∃sl,h1.get? b=some {ob with slots:=sl}:=by
 by_cases hb:b∈fs
 ·exact u.slot b ob q n hb hx
 ·exact⟨ob.slots,u.keep b ob q n hb hx⟩
def Un.kept (k:∀b u,h.get? b=some u->h'.get? b=some u):Un fs ex H H h h':=
 ⟨fun b ob q _ _ _=>k b ob q,fun b ob q _ _ _=>⟨ob.slots,k b ob q⟩,fun _ _ _ n _=>n,fun b ob q _=>⟨ob,k b ob q⟩,fun _ _ q=>q,fun _ _ _ q=>q,fun _ ps q=>⟨#[],by rw[q];simp⟩⟩
def Un.refl:Un fs ex H H h h:=Un.kept fun _ _ q=>q
def Un.laid (k:∀b u,h.get? b=some u->h'.get? b=some u) (hp:h.objs.size<=a) (hn:H a=none):Un fs ex H (upd H a o) h h' where
 keep:=fun b u q _ _ _=>k b u q
 slot:=fun b u q _ _ _=>⟨u.slots,k b u q⟩
 free:=fun b u q n _=>by rw[bh (abu (aaE (aau q) hp))];exact n
 there:=fun b u q _=>⟨u,k b u q⟩
 tups:=fun b xs q=>by rw[bh (bZ q hn)];exact q
 zf:=fun b u xs q=>by rw[bh (bZ q hn)];exact q
 AE:=fun b ps q=>⟨#[],by rw[bh (bZ q hn),q];simp⟩
def Un.write (mu:US (H x)) (he:e=x\/H e=some (.own x)) (k:∀b u,b≠e->h.get? b=some u->h'.get? b=some u) (Ub:∃u,h'.get? e=some u):Un fs ex H (upd H x o) h h':=by
 have hx:∀b,H b=none->b≠x:=fun b n z=>by subst z;rw[n] at mu;exact mu
 have hb:∀b,H b=none->b≠e:=fun b n z=>by
  subst z;rcases he with r|r
  ·exact hx b n r
  ·rw[n] at r;cases r
 have hm:∀b u,H b=some u->¬US (some u)->b≠x:=fun b u q nm z=>by subst z;rw[q] at mu;exact nm mu
 refine⟨fun b u q n _ _=>k b u (hb b n) q,fun b u q n _ _=>⟨u.slots,k b u (hb b n) q⟩,fun b u q n _=>by rw[bh (hx b n)];exact n,fun b u q _=>?_,
  fun b xs q=>by rw[bh (hm b _ q fun z=>z)];exact q,fun b u xs q=>by rw[bh (hm b _ q fun z=>z)];exact q,fun b ps q=>⟨#[],by rw[bh (hm b _ q fun z=>z),q];simp⟩⟩
 by_cases O6:b=e
 ·subst O6;exact Ub
 ·exact⟨u,k b u O6 q⟩
end
noncomputable def X6 (h:Heap) (H:Hp):BBE:=(List.range h.objs.size).filter fun a=>(H a).isSome
def AF (h:Heap) (H:Hp):Heap:=PySem.W.hideAll h (X6 h H)
def GY (h:Heap) (H:Hp):(AF h H).objs.size=h.objs.size:=PySem.W.hideAll_size _ _
def Jd {h:Heap}{b:Addr}(e:h.get? b=some o) (n:H b=none):(AF h H).get? b=some o:=
 PySem.W.hideAll_get _ e fun hm=>by
  have q:(H b).isSome=true:=(acB.mp hm).2;rw[n] at q;simp at q
def Mz {h:Heap}{b:Addr}(e:(AF h H).get? b=some o):h.get? b=some o/\H b=none:=by
 have e':h.get? b=some o:=PySem.W.of_hideAll (X6 h H) e;refine⟨e',?_⟩;cases q:H b with
 |none=>rfl
 |some x=>
  have hm:b∈X6 h H:=acB.mpr ⟨ack.mpr (aau e'),by simp[q]⟩;have z:(AF h H).get? b=none:=PySem.W.hideAll_none (X6 h H) hm;rw[z] at e;cases e
noncomputable def MA (g h:Heap) (L:Addr):List (Addr×Obj):=(List.range h.objs.size).filterMap fun a=>if a=L\/(g.get? a).isSome=true then none else(h.get? a).map fun o=>(a,o)
def rest (g h:Heap) (L d:Addr):List (Addr×Obj):=(MA g h L).filter fun p=>decide (p.1≠d)
structure Mod (K:AAD) (mg:AAF) (base:Heap):Prop where
 X7:K.In base
 glob:base.Ns mainGlobals mg
 blt:∃mb,base.Ns builtinsNs mb/\∀x:Str,x≠"__name__"->mb x=bootBuiltins x
 nolimit:base.NoLimit
structure Cx where
 prog:Program
 w:World
 K:PySem.W.Frag
 mg:Str->BBP
 base:Heap
 A:Around
 N:BBB
 s₀:Shared
 H₀:Hp
 env:Env
 outer:BBF
 stack:BBF
 ex:BBE
 fn:Str->Bool
 calm:Bool
 pn:List (Addr×Obj)
 xe:Value->Shared->Prop
noncomputable def frs (l:BBF):BBE:=l.filterMap (·.frame)
abbrev Cx.fs (X:Cx):BBE:=frs X.outer
def qV (sc:Scope) (x:Str):Prop:=sc.names.lookup x=some .local\/sc.names.lookup x=some .cell\/sc.names.lookup x=some .free
def Loc (sc:Scope) (x:Str):Prop:=sc.names.lookup x=some .local\/sc.names.lookup x=some .cell
def Look (env:Env) (h:Heap) (m:AAF) (x:Str) (u:Value):Prop:=
 (env.kindOf x=some .local/\m x=some u)\/((env.kindOf x=some .cell\/env.kindOf x=some .free)/\∃c,env.cells.lookup x=some c/\h.IsCell c (some u))
structure Cx.Ok (X:Cx):Prop where
 mod:Mod X.K X.mg X.base
 kind:X.env.scope.kind= .function
 glob:X.env.globals=mainGlobals
 blt:X.env.builtins=builtinsNs
 above:X.s₀.heap.objs.size<=X.env.locals
 inj:∀x y c,X.env.cells.lookup x=some c->X.env.cells.lookup y=some c->x=y
 has:∀x,(X.env.kindOf x=some .cell\/X.env.kindOf x=some .free)->∃c,X.env.cells.lookup x=some c
 Qk:∀x c,X.fn x=true->X.env.cells.lookup x=some c->X.s₀.heap.objs.size<=c
 hd:X.calm=true->X.A.handled=none
 frames:X.A.frames=some X.stack
 stk:X.stack=X.outer\/(X.stack=X.env::X.outer/\X.env.frame=some X.env.locals)
 UU:∀b∈X.ex,b≠X.env.locals/\∀x c,X.env.cells.lookup x=some c->c≠b
 bs:∀b o,X.base.get? b=some o->X.s₀.heap.get? b=some o/\X.H₀ b=none
 GZ:X.base.objs.size<=X.s₀.heap.objs.size
 Ck:∀b o,X.base.get? b=some o->b∉X.ex
 DT:∀b∈X.ex,b∉X.fs
 sU:X.s₀.heap.FunFrames X.base X.outer
 MB:∀b∈X.fs,X.H₀ b=none
structure Inv (X:Cx) (pins:AAG) (σ:List (Option V)) (H:Hp) (s:Shared):Prop where
 ok:X.Ok
 os:s.os=X.s₀.os
 bare:AllBare s.gens
 base:Un X.fs X.ex X.H₀ H X.s₀.heap s.heap
 loc:∃m,s.heap.Ns X.env.locals m/\∀(i:Nat) (x:Str) (v:V),X.N[i]? =some x->σ[i]? =some (some v)->qV X.env.scope x->∃u,RelV v u/\Look X.env s.heap m x u
 cell:∀x c,X.env.cells.lookup x=some c->∃v,s.heap.IsCell c v
 free:H X.env.locals=none
 lM:∀x c,X.env.cells.lookup x=some c->H c=none
 pin:∀p∈X.pn++pins,s.heap.get? p.1=some p.2/\H p.1=none/\p.1≠X.env.locals/\p.1∉X.fs/\∀v,p.2.data≠.cell v
 hok:pB X.prog X.w H s.heap
 len:σ.length=X.N.length
section
variable {X:Cx}{pins:AAG}{σ:List (Option V)}{H H':Hp}{s:Shared}{h':Heap}
def Cx.Ok.kN (ok:X.Ok){b:Addr}(e:X.base.get? b=some o):b∉X.fs:=fun hb=>by
 have:=(ok.sU.mem hb).1;rw[e] at this;cases this
def Inv.bs (I:Inv X pins σ H s):∀b o,X.base.get? b=some o->s.heap.get? b=some o/\H b=none:=fun b o e=>
 ⟨I.base.keep b o (I.ok.bs b o e).1 (I.ok.bs b o e).2 (I.ok.kN e) (I.ok.Ck b o e),I.base.free b o (I.ok.bs b o e).1 (I.ok.bs b o e).2 (I.ok.Ck b o e)⟩
def Inv.bk (I:Inv X pins σ H s):∀b o,X.base.get? b=some o->s.heap.get? b=some o:=fun b o e=>(I.bs b o e).1
def Inv.mod (I:Inv X pins σ H s):Mod X.K X.mg X.base:=I.ok.mod
def Inv.AG (I:Inv X pins σ H s):X.K.In s.heap:=I.ok.mod.X7.keeps I.bk
def Inv.lt (I:Inv X pins σ H s):X.env.locals<s.heap.objs.size:=let⟨_,hn,_⟩:=I.loc;hn.lt
def Inv.sz (I:Inv X pins σ H s):X.s₀.heap.objs.size<=s.heap.objs.size:=abl I.ok.above (adg I.lt)
def Inv.UW (I:Inv X pins σ H s)(h:s.heap.objs.size<=a):a∉X.fs:=fun hb=>by
 obtain⟨_,o,ho,_⟩:=I.ok.sU.mem hb;exact absurd (aaE (aau ho) (abl I.sz h)) (acz _)
def Inv.Ql (I:Inv X pins σ H s):∀x c,X.env.cells.lookup x=some c->c≠X.env.locals:=fun x c e z=>by
 obtain⟨v,o,ho,hd⟩:=I.cell x c e;obtain⟨m,⟨o',es,ep,ho',hd',_⟩,_⟩:=I.loc;rw[z,ho'] at ho;cases ho;rw[hd'] at hd;cases hd
def Inv.sU (I:Inv X pins σ H s):s.heap.FunFrames X.base X.outer:=by
 have all:∀(l:BBF),(∀b∈frs l,b∈X.fs)->X.s₀.heap.FunFrames X.base l->s.heap.FunFrames X.base l:=by
  intro l
  induction l with
  |nil=>intro _ _;trivial
  |cons env r ih=>
   intro hs hl;obtain⟨hk,⟨L,o,hf,hn,ho,hd⟩,hr⟩:=hl;have hL:L∈X.fs:=hs L (by unfold frs;rw[adP,hf];exact aal);obtain⟨sl,e⟩:=I.base.slot L o ho (I.ok.MB L hL) hL fun z=>I.ok.DT L z hL;exact⟨hk,⟨L,_,hf,hn,e,hd⟩,ih (fun b hb=>hs b (by unfold frs;rw[adP,hf];exact aaj _ hb)) hr⟩
 exact all X.outer (fun _ hb=>hb) I.ok.sU
def Inv.stack (I:Inv X pins σ H s):s.heap.FunFrames X.base X.stack:=by
 rcases I.ok.stk with e|⟨e,hf⟩
 ·rw[e];exact I.sU
 ·rw[e];obtain⟨m,hn,_⟩:=I.loc;refine .cons (by rw[I.ok.kind];decide) hf hn ?_ I.sU;exact aez (abl I.ok.GZ I.ok.above)
def Inv.wU (I:Inv X pins σ H s):∀b∈frs X.stack,b∈X.env.locals::X.fs:=fun b hb=>by
 rcases I.ok.stk with e|⟨e,hf⟩
 ·rw[e] at hb;exact aaj _ hb
 ·rw[e] at hb;unfold frs at hb;rw[adP,hf] at hb;exact hb
def Inv.AH (I:Inv X pins σ H s):∀b∈frs X.stack,H b=none:=fun b hb=>by
 rcases aav.mp (I.wU b hb) with e|hb
 ·rw[e];exact I.free
 ·obtain⟨_,o,ho,_⟩:=I.ok.sU.mem hb;exact I.base.free b o ho (I.ok.MB b hb) fun z=>I.ok.DT b z hb
def Inv.step {d':Drawn}(I:Inv X pins σ H s)
  (hch:∀b∈ch,(b∈X.ex\/X.s₀.heap.objs.size<=b)/\b≠X.env.locals/\(∀x c,X.env.cells.lookup x=some c->c≠b)/\∀p∈X.pn++pins,p.1≠b)
  (keep:∀b o,b≠X.env.locals->b∉X.fs->b∉ch->s.heap.get? b=some o->H b=none->h'.get? b=some o)
  (slot:∀b o,b≠X.env.locals->b∈X.fs->b∉ch->s.heap.get? b=some o->H b=none->∃sl,h'.get? b=some {o with slots:=sl}) (free:∀b o,b∉ch->s.heap.get? b=some o->H b=none->H' b=none)
  (there:∀b o,b∉ch->s.heap.get? b=some o->∃o',h'.get? b=some o')
  (tups:∀b xs,H b=some (.tup xs)->H' b=some (.tup xs)) (zf:∀b o u,H b=some (.jK o u)->H' b=some (.jK o u)) (AE:∀b ps,H b=some (.Qj ps)->∃more,H' b=some (.Qj (ps++more)))
  (ns:∀m,s.heap.Ns X.env.locals m->h'.Ns X.env.locals m) (hok:pB X.prog X.w H' h') (hg:AllBare g'):
  Inv X pins σ H' {s with heap:=h',gens:=g',drawn:=d',toks:=t'}:=by
 have neL:∀b o,X.s₀.heap.get? b=some o->b≠X.env.locals:=fun b o e=>abu (aaE (aau e) I.ok.above);have X8:∀b o,X.s₀.heap.get? b=some o->b∉X.ex->b∉ch:=fun b o e hx hb=>by
  rcases(hch b hb).1 with z|z
  ·exact hx z
  ·exact absurd (aaE (aau e) z) (acz _)
 have cellK:∀x c,X.env.cells.lookup x=some c->∀v,s.heap.IsCell c v->h'.IsCell c v:=fun x c e v ⟨o,ho,hd⟩=>by
  have UX:c∉ch:=fun z=>(hch c z).2.2.1 x c e rfl;by_cases hc:c∈X.fs
  ·obtain⟨sl,q⟩:=slot c o (I.Ql x c e) hc UX ho (I.lM x c e);exact⟨_,q,hd⟩
  ·exact⟨o,keep c o (I.Ql x c e) hc UX ho (I.lM x c e),hd⟩
 refine⟨I.ok,I.os,hg,⟨fun b o e n hb hx=>?_,fun b o e n hb hx=>?_,fun b o e n hx=>?_,fun b o e hx=>?_,fun b xs e=>tups b xs (I.base.tups b xs e),fun b o xs e=>zf b o xs (I.base.zf b o xs e),fun b ps e=>?_⟩,?_,fun x c e=>?_,?_,fun x c e=>?_,fun p hp=>?_,hok,I.len⟩
 ·exact keep b o (neL b o e) hb (X8 b o e hx) (I.base.keep b o e n hb hx) (I.base.free b o e n hx)
 ·obtain⟨sl,e1⟩:=I.base.slot b o e n hb hx;obtain⟨sl',e2⟩:=slot b _ (neL b o e) hb (X8 b o e hx) e1 (I.base.free b o e n hx);exact⟨sl',e2⟩
 ·obtain⟨o',e1⟩:=I.base.there b o e hx;exact free b o' (X8 b o e hx) e1 (I.base.free b o e n hx)
 ·obtain⟨o',e1⟩:=I.base.there b o e hx;exact there b o' (X8 b o e hx) e1
 ·obtain⟨m1,e1⟩:=I.base.AE b ps e;obtain⟨m2,e2⟩:=AE b _ e1;exact⟨m1++m2,by rw[e2,Array.append_assoc]⟩
 ·obtain⟨m,hn,hl⟩:=I.loc;refine⟨m,ns m hn,fun i x v e1 e2 e3=>?_⟩;obtain⟨u,r,l⟩:=hl i x v e1 e2 e3;refine⟨u,r,?_⟩;rcases l with l|⟨k,c,e,z⟩
  ·exact .inl l
  ·exact .inr ⟨k,c,e,cellK x c e _ z⟩
 ·obtain⟨v,z⟩:=I.cell x c e;exact⟨v,cellK x c e v z⟩
 ·obtain⟨m,⟨o,_,_,ho,_⟩,_⟩:=I.loc;exact free _ o (fun z=>(hch _ z).2.1 rfl) ho I.free
 ·obtain⟨v,o,ho,hd⟩:=I.cell x c e;exact free c o (fun z=>(hch c z).2.2.1 x c e rfl) ho (I.lM x c e)
 ·obtain⟨e,n,ne,nf,d⟩:=I.pin p hp;have UX:p.1∉ch:=fun z=>(hch p.1 z).2.2.2 p hp rfl;exact⟨keep p.1 p.2 ne nf UX e n,free p.1 p.2 UX e n,ne,nf,d⟩
def Inv.un (I:Inv X pins σ H s) (u:Un X.fs [] H H' s.heap h') (hok:pB X.prog X.w H' h'):Inv X pins σ H' {s with heap:=h',toks:=t'}:=by
 obtain⟨m,⟨o,es,ep,ho,r⟩,_⟩:=id I.loc;obtain⟨sl,hL⟩:=u.any ho I.free (by simp);exact I.step (g':=s.gens) (d':=s.drawn) (ch:=[]) (fun _ z=>nomatch z) (fun b o _ hb _ e n=>u.keep b o e n hb (by simp)) (fun b o _ hb _ e n=>u.slot b o e n hb (by simp)) (fun b o _ e n=>u.free b o e n (by simp)) (fun b o _ e=>u.there b o e (by simp)) u.tups u.zf u.AE (fun m' hm=>by
  obtain⟨o',es',ZA,ho',r'⟩:=hm;rw[ho] at ho';cases ho';exact⟨_,es',ZA,hL,r'⟩) hok I.bare
def Inv.call {d':Drawn}(I:Inv X pins σ H s) (u:Un (frs X.stack) ch H H' s.heap h') (hok:pB X.prog X.w H' h') (hg:AllBare g')
  (hch:∀b∈ch,(b∈X.ex\/X.s₀.heap.objs.size<=b)/\b≠X.env.locals/\(∀x c,X.env.cells.lookup x=some c->c≠b)/\∀p∈X.pn++pins,p.1≠b):
  Inv X pins σ H' {s with heap:=h',gens:=g',drawn:=d',toks:=t'}:=by
 obtain⟨m,⟨o,es,ep,ho,r⟩,_⟩:=id I.loc;obtain⟨sl,hL⟩:=u.any ho I.free fun z=>(hch _ z).2.1 rfl;exact I.step (ch:=ch) hch (fun b o hL hb hc e n=>u.keep b o e n (fun z=>(aav.mp (I.wU b z)).elim hL hb) hc) (fun b o _ _ hc e n=>u.any e n hc) (fun b o hc e n=>u.free b o e n hc) (fun b o hc e=>u.there b o e hc) u.tups u.zf u.AE (fun m' hm=>by
  obtain⟨o',es',ZA,ho',r'⟩:=hm;rw[ho] at ho';cases ho';exact⟨_,es',ZA,hL,r'⟩) hok hg
def Inv.turned {it:Addr}(I:Inv X pins σ H s) (k:∀b o,b≠it->s.heap.get? b=some o->h'.get? b=some o) (hn:H it=none) (hL:it≠X.env.locals)
  (h1:it∈X.ex\/X.s₀.heap.objs.size<=it) (h2:∀x c,X.env.cells.lookup x=some c->c≠it) (h3:∀p∈X.pn++pins,p.1≠it):Inv X pins σ H {s with heap:=h',toks:=t'}:=by
 have nit:∀b u,H b=some u->b≠it:=fun b u e z=>by rw[z,hn] at e;cases e
 refine I.step (g':=s.gens) (d':=s.drawn) (ch:=[it]) (fun b hb=>?_) (fun b o _ _ hc e _=>k b o (fun z=>hc (by simp[z])) e) (fun b o _ _ hc e _=>⟨o.slots,k b o (fun z=>hc (by simp[z])) e⟩) (fun _ _ _ _ n=>n)
  (fun b o hc e=>⟨o,k b o (fun z=>hc (by simp[z])) e⟩) (fun _ _ e=>e) (fun _ _ _ e=>e) (fun b ps e=>⟨#[],by rw[e];simp⟩) (fun m hm=>?_) (fun b u e=>?_) I.bare
 ·have e:b=it:=by simpa using hb
  subst e;exact⟨h1,hL,h2,h3⟩
 ·obtain⟨o,es,ep,ho,r⟩:=hm;exact⟨o,es,ep,k _ o (acj hL) ho,r⟩
 ·refine(I.hok b u e).stay (fun c v hc q=>k c v ?_ q) (fun _ q=>q) fun _ _ q=>q;rcases hc with z|z
  ·rw[z];exact nit b u e
  ·exact nit c _ z
def Inv.tok (I:Inv X pins σ H s) (t:Nat):Inv X pins σ H {s with toks:=t}:=I.un (h':=s.heap) (t':=t) Un.refl I.hok
def Inv.kept {t':Nat}(I:Inv X pins σ H s) (k:∀b u,s.heap.get? b=some u->h'.get? b=some u):Inv X pins σ H {s with heap:=h',toks:=t'}:=I.un (Un.kept k) (I.hok.kept k)
def Inv.laid {a:Addr}{o:HO}{t':Nat}(I:Inv X pins σ H s) (k:∀b u,s.heap.get? b=some u->h'.get? b=some u) (hp:s.heap.objs.size<=a) (new:fG X.prog X.w (upd H a o) h' a o):
  Inv X pins σ (upd H a o) {s with heap:=h',toks:=t'}:=I.un (Un.laid k hp (I.hok.fresh hp)) (I.hok.laid k hp new)
def Inv.write {x e:Addr}{o:HO}{t':Nat}(I:Inv X pins σ H s) (mu:US (H x)) (he:e=x\/H e=some (.own x)) (k:∀b u,b≠e->s.heap.get? b=some u->h'.get? b=some u) (Ub:∃u,h'.get? e=some u)
  (new:fG X.prog X.w (upd H x o) h' x o):Inv X pins σ (upd H x o) {s with heap:=h',toks:=t'}:=I.un (Un.write mu he k Ub) (I.hok.write mu he k Ub new)
def Inv.EX {O7:AAG}(I:Inv X pins σ H s) (h:∀p∈O7,s.heap.get? p.1=some p.2/\H p.1=none/\p.1≠X.env.locals/\p.1∉X.fs/\∀v,p.2.data≠.cell v):Inv X O7 σ H s:=
 ⟨I.ok,I.os,I.bare,I.base,I.loc,I.cell,I.free,I.lM,fun p hp=>(aaG.mp hp).elim (fun z=>I.pin p (adq _ z)) (h p),I.hok,I.len⟩
def Cm (hN:N.Nodup){j:Nat}(a:N[i]? =some x) (b:N[j]? =some x):i=j:=by
 obtain⟨h1,e1⟩:=aaD.mp a;obtain⟨h2,e2⟩:=aaD.mp b;exact(List.getElem_inj hN).mp (e1.trans e2.symm)
def uG {v:V}{Q:Unit->Shared->Prop}(I:Inv X pins σ H s) (hN:X.N.Nodup) (hi:X.N[i]? =some x) (hx:Loc X.env.scope x) (r:RelV v u)
  (h:∀s',Inv X pins (σ.set i (some v)) H s'->(∃a,Heap.SameBut a s.heap s'.heap/\(a=X.env.locals\/X.env.cells.lookup x=some a))->Q () s') (hf:X.fn x=true\/X.env.scope.names.lookup x=some .local:=by first|exact .inl rfl|exact .inr rfl|assumption):wpAny M A (storeName X.env x u) Q E s:=by
 obtain⟨m,hn,hl⟩:=id I.loc;have hcls:(X.env.scope.kind == .class || (X.env.scope.kind == .module && X.env.locals != X.env.globals))=false:=by rw[I.ok.kind];rfl
 have UY:i<σ.length:=by rw[I.len];exact(aaD.mp hi).1
 have Ql:=I.Ql;have tracked:∀{a:Addr}{h':Heap},(∃o,s.heap.get? a=some o/\H a=none)->Heap.SameBut a s.heap h'->pB X.prog X.w H h':=fun {a h'} ha hs b ob e=>by
  obtain⟨_,_,hfree⟩:=ha;refine(I.hok b ob e).stay (fun c w' hc q=>(hs.2 c ?_).trans q) (fun _ q=>q) fun _ _ q=>q;rintro rfl;rcases hc with rfl|hc
  ·rw[hfree] at e;cases e
  ·rw[hfree] at hc;cases hc
 rcases hx with hk|hk
 ·refine wpAny_storeName_local hk hn (fun h' hn' hs=>?_) hcls;obtain⟨oL,_,_,O8,_⟩:=id hn;refine h _ ⟨I.ok,I.os,I.bare,⟨fun b o e n hb hx=>?_,fun b o e n hb hx=>?_,I.base.free,fun b o e hx=>?_,I.base.tups,I.base.zf,I.base.AE⟩,⟨_,hn',fun j y v' e1 e2 e3=>?_⟩,fun y c e=>?_,I.free,I.lM,fun p hp=>?_,tracked ⟨oL,O8,I.free⟩ hs,by simpa using I.len⟩ ⟨_,hs,.inl rfl⟩
  ·exact(hs.2 b (abu (aaE (aau e) I.ok.above))).trans (I.base.keep b o e n hb hx)
  ·obtain⟨sl,e1⟩:=I.base.slot b o e n hb hx;exact⟨sl,(hs.2 b (abu (aaE (aau e) I.ok.above))).trans e1⟩
  ·obtain⟨o',e1⟩:=I.base.there b o e hx;exact⟨o',(hs.2 b (abu (aaE (aau e) I.ok.above))).trans e1⟩
  ·by_cases hj:j=i
   ·subst hj;rw[hi] at e1;cases e1;rw[ace UY] at e2;cases e2;exact⟨u,r,.inl ⟨hk,by simp⟩⟩
   ·rw[abv (acj hj)] at e2;obtain⟨u',r',q⟩:=hl j y v' e1 e2 e3;refine⟨u',r',?_⟩;rcases q with⟨k,e⟩|⟨k,c,e,z⟩
    ·refine .inl ⟨k,?_⟩;have:y≠x:=fun e=>hj (Cm hN e1 (e▸hi));simp[this,e]
    ·exact .inr ⟨k,c,e,z.sameBut hs (Ql y c e)⟩
  ·obtain⟨w',z⟩:=I.cell y c e;exact⟨w',z.sameBut hs (Ql y c e)⟩
  ·obtain⟨e,n,ne,nf,d⟩:=I.pin p hp;exact⟨(hs.2 p.1 ne).trans e,n,ne,nf,d⟩
 ·have hfn:X.fn x=true:=by
   rcases hf with z|z
   ·exact z
   ·rw[z] at hk;cases hk
  obtain⟨c,hc⟩:=I.ok.has x (.inl hk);obtain⟨w',z⟩:=I.cell x c hc;refine wpAny_storeName_cell I.ok.kind hk hc z (fun h' hc' hs=>?_);obtain⟨oc,hoc,ZC⟩:=id z;refine h {s with heap:=h'} ⟨I.ok,I.os,I.bare,⟨fun b o e n hb hx=>?_,fun b o e n hb hx=>?_,I.base.free,fun b o e hx=>?_,I.base.tups,I.base.zf,I.base.AE⟩,⟨m,hn.sameBut hs (acj (Ql x c hc)),fun j y v' e1 e2 e3=>?_⟩,fun y c' e=>?_,I.free,I.lM,fun p hp=>?_,tracked ⟨oc,hoc,I.lM x c hc⟩ hs,by simpa using I.len⟩ ⟨c,hs,.inr hc⟩
  ·exact(hs.2 b (abu (aaE (aau e) (I.ok.Qk x c hfn hc)))).trans (I.base.keep b o e n hb hx)
  ·obtain⟨sl,e1⟩:=I.base.slot b o e n hb hx;exact⟨sl,(hs.2 b (abu (aaE (aau e) (I.ok.Qk x c hfn hc)))).trans e1⟩
  ·obtain⟨o',e1⟩:=I.base.there b o e hx;exact⟨o',(hs.2 b (abu (aaE (aau e) (I.ok.Qk x c hfn hc)))).trans e1⟩
  ·by_cases hj:j=i
   ·subst hj;rw[hi] at e1;cases e1;rw[ace UY] at e2;cases e2;exact⟨u,r,.inr ⟨.inl hk,c,hc,hc'⟩⟩
   ·rw[abv (acj hj)] at e2;obtain⟨u',r',q⟩:=hl j y v' e1 e2 e3;refine⟨u',r',?_⟩;rcases q with q|⟨k,c',e,z'⟩
    ·exact .inl q
    ·refine .inr ⟨k,c',e,z'.sameBut hs ?_⟩;rintro rfl;exact hj (Cm hN e1 (I.ok.inj _ _ _ e hc▸hi))
  ·by_cases hcc:c'=c
   ·subst hcc;exact⟨_,hc'⟩
   ·obtain⟨w2,z2⟩:=I.cell y c' e;exact⟨w2,z2.sameBut hs hcc⟩
  ·obtain⟨e,n,ne,nf,d⟩:=I.pin p hp;refine⟨(hs.2 p.1 ?_).trans e,n,ne,nf,d⟩;intro q;rw[q,hoc] at e;have q':oc=p.2:=abJ e;exact d w' (by rw[<-q'];exact ZC)
def Cn {v:V}{Q:Unit->Shared->Prop}(I:Inv X pins σ H s) (hN:X.N.Nodup) (hi:X.N[i]? =some x) (hx:Loc X.env.scope x) (r:RelV v u)
  (h:∀s',Inv X pins (σ.set i (some v)) H s'->Q () s') (hf:X.fn x=true\/X.env.scope.names.lookup x=some .local:=by first|exact .inl rfl|exact .inr rfl|assumption):wpAny M A (storeName X.env x u) Q E s:=
 uG I hN hi hx r (fun s' I' _=>h s' I') hf
def Inv.UZ {s':Shared}(I:Inv X pins σ H s) (ho:s'.os=s.os) (u:Un (frs X.stack) ch H H' s.heap s'.heap) (hok:pB X.prog X.w H' s'.heap) (hg:AllBare s'.gens)
  (hch:∀b∈ch,(b∈X.ex\/X.s₀.heap.objs.size<=b)/\b≠X.env.locals/\(∀x c,X.env.cells.lookup x=some c->c≠b)/\∀p∈X.pn++pins,p.1≠b):Inv X pins σ H' s':=by
 obtain⟨h',g',d',t',o'⟩:=s';have e:o'=s.os:=ho;subst e;exact I.call (g':=g') (t':=t') (d':=d') u hok hg hch
end
abbrev XK:=Value->BBN->Hp->Prop
abbrev St:=List (Option V)
abbrev VK:=V->Hp->Prop
abbrev TE:=St->Hp->VK->Prop
abbrev TT:=St->Hp->(Bool->Hp->Prop)->Prop
abbrev TA:=St->Hp->(List V->Hp->Prop)->Prop
structure Ends where
 nx:St->Hp->Prop
 rt:VK
 bk:St->Hp->Prop:=fun _ _=>False
 ct:St->Hp->Prop:=fun _ _=>False
abbrev TS:=Ends->St->Hp->Prop
inductive EP (X:Cx) (pins:AAG) (σ:St) (Q:VK) (u:Value) (s':Shared):Prop
 |mk (v:V) (H':Hp) (I:Inv X pins σ H' s') (r:RelV v u) (q:Q v H')
def TP (X:Cx) (pins:AAG) (σ:St) (Q:Bool->Hp->Prop) (b:Bool) (s':Shared):Prop:=∃H',Inv X pins σ H' s'/\Q b H'
inductive AP (X:Cx) (pins:AAG) (σ:St) (Q:List V->Hp->Prop) (us:AAL) (s':Shared):Prop
 |mk (vs:List V) (H':Hp) (I:Inv X pins σ H' s') (r:Vals vs us) (q:Q vs H')
def SP (X:Cx) (pins:AAG) (D:Ends) (f:Flow) (s':Shared):Prop:=
 match f with
 |.next=>∃σ' H',Inv X pins σ' H' s'/\D.nx σ' H'
 |.brk=>∃σ' H',Inv X pins σ' H' s'/\D.bk σ' H'
 |.cont=>∃σ' H',Inv X pins σ' H' s'/\D.ct σ' H'
 |.ret u=>∃v σ' H',Inv X pins σ' H' s'/\RelV v u/\D.rt v H'
def PE (X:Cx) (e:Expr) (t:TE):Prop:=
 ∀(pins:AAG) (s:Shared) (σ:St) (H:Hp) (Q:VK),Inv X pins σ H s->t σ H Q->wpAny (model X.prog X.w) X.A (eval e X.env) (EP X pins σ Q) X.xe s
def PT (X:Cx) (e:Expr) (t:TT):Prop:=
 ∀(pins:AAG) (s:Shared) (σ:St) (H:Hp) (Q:Bool->Hp->Prop),Inv X pins σ H s->t σ H Q->wpAny (model X.prog X.w) X.A (isTrue e X.env (eval e X.env)) (TP X pins σ Q) X.xe s
def PW (X:Cx) (e:Expr) (t:TT):Prop:=
 ∀(whole:Sem Value) (pins:AAG) (s:Shared) (σ:St) (H:Hp) (Q:Bool->Hp->Prop),Inv X pins σ H s->t σ H Q->wpAny (model X.prog X.w) X.A (isTrue e X.env whole) (TP X pins σ Q) X.xe s
def PW.pt {e:Expr}{t:TT}(h:PW X e t):PT X e t:=h _
def PA (X:Cx) (es:BBC) (t:TA):Prop:=
 ∀(pos:Pos) (pins:AAG) (s:Shared) (σ:St) (H:Hp) (Q:List V->Hp->Prop),Inv X pins σ H s->t σ H Q->wpAny (model X.prog X.w) X.A (spliced (backTo pos (starEach es X.env))) (AP X pins σ Q) X.xe s
def PS (X:Cx) (st:Stmt) (t:TS):Prop:=
 ∀(pins:AAG) (s:Shared) (σ:St) (H:Hp) (D:Ends),Inv X pins σ H s->t D σ H->wpAny (model X.prog X.w) X.A (exec st X.env) (SP X pins D) X.xe s
def zh (X:Cx) (st:BBH) (t:TS):Prop:=
 ∀(pins:AAG) (s:Shared) (σ:St) (H:Hp) (D:Ends),Inv X pins σ H s->t D σ H->wpAny (model X.prog X.w) X.A (execs st X.env) (SP X pins D) X.xe s
def fE {α:Type}{t:Sem α}{Q Q':α->Shared->Prop}{s:Shared}(h:wpAny M A t Q E s) (hQ:∀a s,Q a s->Q' a s):wpAny M A t Q' E s:=acf h hQ fun _ _ x=>x
section
variable {X:Cx}
def AI (i:Nat):TE:=fun σ H Q=>∃v,σ[i]? =some (some v)/\Q v H
def tC (v:V):TE:=fun _ H Q=>Q v H
def cI (hN:X.N[i]? =some x) (hv:qV X.env.scope x) (hd:BBT x:=by decide) (hcd:BBU x:=by decide):PE X (.Name x pos) (AI i):=by
 intro pins s σ H Q I h;obtain⟨v,e,h⟩:=h;obtain⟨m,hn,hl⟩:=I.loc;obtain⟨u,r,l⟩:=hl i x v hN e hv;have fin:EP X pins σ Q u s:=⟨v,H,I,r,h⟩
 rcases l with⟨hk,hm⟩|⟨hk,c,hc,hcell⟩
 ·exact wpAny_Name (wpAny_loadName_local I.ok.kind hk hn hm fin) hd
 ·rcases hk with hk|hk
  ·exact wpAny_Name (wpAny_loadName_cell I.ok.kind hk hc hcell fin) hd
  ·exact wpAny_Name (wpAny_loadName_free I.ok.kind hk hc hcell fin hcd) hd
def Je {i j pos}:PE X (.Constant (.int i) j pos) (tC (.int i)):=fun _ _ _ H _ I h=>wpAny_Constant_int ⟨.int i,H,I.tok _,⟨_,rfl⟩,h⟩
def U0 {b j pos}:PE X (.Constant (.bool b) j pos) (tC (.bl b)):=fun _ _ _ H _ I h=>Constant_bool ⟨.bl b,H,I,rfl,h⟩
def Jf {x j pos}:PE X (.Constant (.str x) j pos) (tC (.str x)):=fun _ _ _ H _ I h=>Calls.Constant_str ⟨.str x,H,I.tok _,⟨_,rfl⟩,h⟩
def Gl (X:Cx) (x:Str):Prop:=X.env.kindOf x=some .globalImplicit
def AJ {s:Shared}(I:Inv X pins σ H s) (hg:Gl X x) (hm:X.mg x=some u) (h:Q u s)
  (hd:BBT x:=by decide):wpAny (model X.prog X.w) X.A (eval (.Name x pos) X.env) Q E s:=
 Calls.Name_function_global I.ok.kind hg (Calls.loadGlobal_global (by rw[I.ok.glob];exact I.mod.glob.keeps I.bk) hm h) hd
def nO {s:Shared}(I:Inv X pins σ H s) (hg:Gl X x) (hm:X.mg x=none) (hv:bootBuiltins x=some u) (h:Q u s)
  (hn:x≠"__name__":=by decide) (hd:BBT x:=by decide):wpAny (model X.prog X.w) X.A (eval (.Name x pos) X.env) Q E s:=by
 obtain⟨mb,h1,h2⟩:=I.mod.blt;exact Calls.Name_function_global I.ok.kind hg (Calls.loadGlobal_builtin (by rw[I.ok.glob];exact I.mod.glob.keeps I.bk) hm (by rw[I.ok.blt];exact h1.keeps I.bk) ((h2 x hn).trans hv) h) hd
def MC {v:V}(hg:Gl X x) (hm:X.mg x=some u) (r:RelV v u) (hd:BBT x:=by decide):PE X (.Name x pos) (tC v):=
 fun _ _ _ H _ I h=>AJ I hg hm ⟨v,H,I,r,h⟩ hd
def MD {v:V}(hg:Gl X x) (hm:X.mg x=none) (hv:bootBuiltins x=some u) (r:RelV v u) (hn:x≠"__name__":=by decide) (hd:BBT x:=by decide):PE X (.Name x pos) (tC v):=
 fun _ _ _ H _ I h=>nO I hg hm hv ⟨v,H,I,r,h⟩ hn hd
variable {a b:Expr}{ta tb:TE}{pos:Pos}
def PC (X:Cx) (op:CmpOp) (a b:Expr) (t:TE):Prop:=
 ∀(pins:AAG) (s:Shared) (σ:St) (H:Hp) (Q:VK),Inv X pins σ H s->t σ H Q->
  wpAny (model X.prog X.w) X.A (eval a X.env) (fun v s₁=>wpAny (model X.prog X.w) X.A (eval b X.env) (fun u s₂=>wpAny (model X.prog X.w) X.A (compareOp op v u) (EP X pins σ Q) X.xe s₂) X.xe s₁) X.xe s
def Jg (b:Expr)(h:op≠.In) (h2:op≠.NotIn):behindInMarks op b=false:=by
 have e1:(op == CmpOp.In)=false:=by cases op<;>first|rfl|exact absurd rfl h
 have e2:(op == CmpOp.NotIn)=false:=by cases op<;>first|rfl|exact absurd rfl h2
 cases b<;>simp[behindInMarks,e1,e2]
def tB (t:TE):TT:=fun σ H Q=>t σ H fun x H1=>∃c,x= .bl c/\Q c H1
def Qm {t:TE}(h:PC X op a b t) (h1:behindInMarks op b=false:=by first|exact Jg _ (by decide) (by decide)|rfl):PT X (.Compare a [op] [b] pos) (tB t):=by
 intro pins s σ H Q I hw;refine wpAny_isTrue_Compare1 (fE (h pins s σ H _ I hw) fun v s1 h1=>fE h1 fun u s2 h2=>fE h2 fun c s3 hh=>?_) h1;obtain⟨x,H1,I1,r1,q1⟩:=hh;obtain⟨d,rfl,q⟩:=q1;cases r1;exact ac9 ⟨H1,I1,q⟩
def Qn {e:Expr}{t:TE}(h:PE X e t) (he:∀whole,isTrue e X.env whole=(do let v <-whole;standAt e.pos;holding [v] (truthy v)):=by intro _;rfl):PT X e (tB t):=by
 intro pins s σ H Q I hw;refine isTrue_plain (fE (h pins s σ H _ I hw) fun v s1 hh=>?_) (he _);obtain⟨x,H1,I1,r1,q1⟩:=hh;obtain⟨d,rfl,q⟩:=q1;cases r1;exact ac9 ⟨H1,I1,q⟩
variable {tA Yb:TT}{rest:BBC}
def ZD (t u:TT):TT:=fun σ H Q=>t σ H fun c H1=>if c=true then u σ H1 Q else Q false H1
def tOr (t u:TT):TT:=fun σ H Q=>t σ H fun c H1=>if c=true then Q true H1 else u σ H1 Q
def ZE (t:TT):TT:=fun σ H Q=>t σ H fun c H1=>Q (!c) H1
def pw_and1 (ha:PT X a tA):PW X (.BoolOp .And [a] pos) tA:=by
 intro wh pins s σ H Q I h;refine isTrue_and (fE (ha pins s σ H Q I h) fun c s1 e=>?_);cases c with
 |true=>exact isTrue_and_nil e
 |false=>exact e
def pw_or1 (ha:PT X a tA):PW X (.BoolOp .Or [a] pos) tA:=by
 intro wh pins s σ H Q I h;refine isTrue_or (fE (ha pins s σ H Q I h) fun c s1 e=>?_);cases c with
 |false=>exact isTrue_or_nil e
 |true=>exact e
def pw_and (ha:PT X a tA) (hb:PW X (.BoolOp .And (b::rest) pos) Yb):PW X (.BoolOp .And (a::b::rest) pos) (ZD tA Yb):=by
 intro wh pins s σ H Q I h;refine isTrue_and (fE (ha pins s σ H _ I h) fun c s1 hh=>?_);obtain⟨H1,I1,q1⟩:=hh;cases c with
 |true=>exact hb wh pins s1 σ H1 Q I1 q1
 |false=>exact⟨H1,I1,q1⟩
def pw_or (ha:PT X a tA) (hb:PW X (.BoolOp .Or (b::rest) pos) Yb):PW X (.BoolOp .Or (a::b::rest) pos) (tOr tA Yb):=by
 intro wh pins s σ H Q I h;refine isTrue_or (fE (ha pins s σ H _ I h) fun c s1 hh=>?_);obtain⟨H1,I1,q1⟩:=hh;cases c with
 |true=>exact⟨H1,I1,q1⟩
 |false=>exact hb wh pins s1 σ H1 Q I1 q1
def Qo (ha:PT X a tA):PT X (.UnaryOp .Not a pos) (ZE tA):=by
 intro pins s σ H Q I h;exact isTrue_not (ha pins s σ H (fun c H1=>Q (!c) H1) I h)
def U1 (ta tb:TE):TE:=fun σ H Q=>ta σ H fun x H1=>∃c,x= .bl c/\if c=true then tb σ H1 Q else Q (.bl false) H1
def U3 (ta:TE):TE:=fun σ H Q=>ta σ H fun x H1=>∃c,x= .bl c/\Q (.bl (!c)) H1
def Qp {op}{t:TE}(h:PE X a t):PE X (.BoolOp op [a] pos) t:=fun pins s σ H Q I hw=>BoolOp_one (h pins s σ H Q I hw)
def Qq (ha:PE X a ta) (hb:PE X (.BoolOp .And (b::rest) pos) tb):PE X (.BoolOp .And (a::b::rest) pos) (U1 ta tb):=by
 intro pins s σ H Q I h;refine BoolOp_and (fE (ha pins s σ H _ I h) fun v s1 hh=>?_);obtain⟨x,H1,I1,r1,q1⟩:=hh;obtain⟨c,rfl,q1⟩:=q1;cases r1;refine ac9 ?_;cases c with
 |true=>exact hb pins s1 σ H1 Q I1 q1
 |false=>exact⟨.bl false,H1,I1,rfl,q1⟩
def Qs (ha:PE X a ta):PE X (.UnaryOp .Not a pos) (U3 ta):=by
 intro pins s σ H Q I h;refine UnaryOp_ (fE (ha pins s σ H _ I h) fun v s1 hh=>?_);obtain⟨x,H1,I1,r1,q1⟩:=hh;obtain⟨c,rfl,q1⟩:=q1;cases r1;exact not_of (ac9 ⟨.bl (!c),H1,I1,rfl,q1⟩)
def tIf (t:TT) (ta tb:TE):TE:=fun σ H Q=>t σ H fun c H1=>if c=true then ta σ H1 Q else tb σ H1 Q
def Jh {c:Expr}(hc:PT X c tA) (ha:PE X a ta) (hb:PE X b tb):PE X (.IfExp c a b pos) (tIf tA ta tb):=by
 intro pins s σ H Q I h;refine wpAny_IfExp (fE (hc pins s σ H _ I h) fun d s1 hh=>?_);obtain⟨H1,I1,q1⟩:=hh;cases d with
 |true=>exact ha pins s1 σ H1 Q I1 q1
 |false=>exact hb pins s1 σ H1 Q I1 q1
end
def mQ (K:AAD) (H:Hp) (a:Addr) (xs:List V):Prop:=
 Rd H a (.lst xs)\/
  ∃(o:Obj) (its:AAK) (n:Nat),K.lookup a=some o/\o.cls= .type "list"/\o.dict=none/\o.data= .seq its n/\its.size<=sizeLine/\Vals xs its.toList
def zL (K:AAD) (H:Hp) (a:Addr) (xs:List V):Prop:=
 Rd H a (.tup xs)\/
  ∃(o:Obj) (its:AAK) (n:Nat),K.lookup a=some o/\o.cls= .type "tuple"/\o.data= .seq its n/\its.size<=sizeLine/\Vals xs its.toList
noncomputable def ZF:Value->Option V
 |.none=>some .cJ
 |.bool b=>some (.bl b)
 |.int i _=>some (.int i)
 |.str x _=>some (.str x)
 |.bytes b _=>some (.X5 b)
 |.float b _=>some (.flt b)
 |.ref a=>some (.ref a)
 |.type n=>some (.ty n)
 |_=>none
def RelV.abs {x:V}(r:RelV x u):ZF u=some x:=by
 cases x with
 |cJ=>cases r;rfl
 |bl _=>cases r;rfl
 |int _=>obtain⟨t,rfl⟩:=r;rfl
 |str _=>obtain⟨t,rfl⟩:=r;rfl
 |X5 _=>obtain⟨t,rfl⟩:=r;rfl
 |flt _=>obtain⟨t,rfl⟩:=r;rfl
 |ref _=>cases r;rfl
 |ty _=>cases r;rfl
def RelV.inj {x y:V}{u:Value}(r:RelV x u) (q:RelV y u):x=y:=abJ (r.abs.symm.trans q.abs)
theorem Vals.inj:∀{xs ys:List V}{us:AAL},Vals xs us->Vals ys us->xs=ys
 |_,_,_,.nil,.nil=>rfl
 |_,_,_,.cons r t,.cons r' t'=>by rw[r.inj r',Vals.inj t t']
section
variable {X:Cx}{pins:AAG}{σ:St}{H:Hp}{s:Shared}{a:Addr}{xs ys:List V}
def mQ.of (h:H a=some (.lst xs)):mQ K H a xs:=.inl (.inl h)
def Inv.list (I:Inv X pins σ H s) (h:mQ X.K H a xs):∃its:BBG,Vals xs its/\PlainL s.heap a its.toArray/\xs.length<=sizeLine:=by
 rcases h with h|⟨o,its,n,hk,hc,hd,hs,hz,r⟩
 ·obtain⟨z,its,n,r,e⟩:=h.ok I.hok;exact⟨its,r,⟨_,n,e,rfl,rfl,rfl⟩,z⟩
 ·refine⟨its.toList,r,⟨o,n,I.AG a o hk,hc,hd,by simpa using hs⟩,?_⟩;have e:=r.length;simp only[abW] at e;lia
def Inv.tuple (I:Inv X pins σ H s) (h:zL X.K H a xs):∃its:BBG,Vals xs its/\IsTup s.heap a its.toArray/\xs.length<=sizeLine:=by
 rcases h with h|⟨o,its,n,hk,hc,hs,hz,r⟩
 ·obtain⟨z,its,r,p⟩:=h.ok I.hok;exact⟨its,r,p,z⟩
 ·refine⟨its.toList,r,⟨o,I.AG a o hk,hc,n,by simpa using hs⟩,?_⟩;have e:=r.length;simp only[abW] at e;lia
def Inv.Ji (I:Inv X pins σ H s) (h:mQ X.K H a xs) (h':mQ X.K H a ys):xs=ys:=by
 obtain⟨its,r,⟨o,n,e,_,_,d⟩,_⟩:=I.list h;obtain⟨its',r',⟨o',n',e',_,_,d'⟩,_⟩:=I.list h';rw[e] at e';cases e';rw[d] at d';injection d' with d1 _
 have:its=its':=by simpa using congrArg Array.toList d1
 subst this;exact r.inj r'
def Inv.G0 (I:Inv X pins σ H s) (h:zL X.K H a xs) (h':zL X.K H a ys):xs=ys:=by
 obtain⟨its,r,⟨o,e,_,n,d⟩,_⟩:=I.tuple h;obtain⟨its',r',⟨o',e',_,n',d'⟩,_⟩:=I.tuple h';rw[e] at e';cases e';rw[d] at d';injection d' with d1 _
 have:its=its':=by simpa using congrArg Array.toList d1
 subst this;exact r.inj r'
end
noncomputable abbrev Cx.zl (X:Cx) (E:AAE):Cx:={X with xe:=E}
noncomputable abbrev Cx.ME (X:Cx):Cx:=X.zl fun _ _=>False
def Cx.Ok.zl {X:Cx}(ok:X.Ok) (E:AAE):(X.zl E).Ok:=
 ⟨ok.mod,ok.kind,ok.glob,ok.blt,ok.above,ok.inj,ok.has,ok.Qk,ok.hd,ok.frames,ok.stk,ok.UU,ok.bs,ok.GZ,ok.Ck,ok.DT,ok.sU,ok.MB⟩
def Cx.Ok.pC (ok:(X.zl E).Ok):X.Ok:=
 ⟨ok.mod,ok.kind,ok.glob,ok.blt,ok.above,ok.inj,ok.has,ok.Qk,ok.hd,ok.frames,ok.stk,ok.UU,ok.bs,ok.GZ,ok.Ck,ok.DT,ok.sU,ok.MB⟩
section
variable {X:Cx}{pins:AAG}{σ:St}{H:Hp}{s:Shared}{E:AAE}
def Inv.zl (I:Inv X pins σ H s) (E:AAE):Inv (X.zl E) pins σ H s:=⟨I.ok.zl E,I.os,I.bare,I.base,I.loc,I.cell,I.free,I.lM,I.pin,I.hok,I.len⟩
def Inv.pC (I:Inv (X.zl E) pins σ H s):Inv X pins σ H s:=⟨I.ok.pC,I.os,I.bare,I.base,I.loc,I.cell,I.free,I.lM,I.pin,I.hok,I.len⟩
def SP.pC {D:Ends}{f:Flow}{s':Shared}(h:SP (X.zl E) pins D f s'):SP X pins D f s':=by
 cases f with
 |next=>obtain⟨σ',H',I,q⟩:=h;exact⟨σ',H',I.pC,q⟩
 |brk=>obtain⟨σ',H',I,q⟩:=h;exact⟨σ',H',I.pC,q⟩
 |cont=>obtain⟨σ',H',I,q⟩:=h;exact⟨σ',H',I.pC,q⟩
 |ret u=>obtain⟨v,σ',H',I,r,q⟩:=h;exact⟨v,σ',H',I.pC,r,q⟩
def zh.ME {st:BBH}{t:TS}(h:zh X.ME st t):zh X st t:=fun pins s σ H D I hw=>
 acf (h pins s σ H D (I.zl _) hw) (fun _ _ q=>q.pC) fun _ _ z=>False.elim z
end
section
variable {X:Cx}{st:Stmt}{rest:BBH}{t u:TS}{e:Expr}{te:TE}{pos:Pos}
def U4:TS:=fun D σ H=>D.nx σ H
def ZG (t u:TS):TS:=fun D σ H=>t {D with nx:=u D} σ H
def MF:zh X [] U4:=fun _ _ σ H _ I h=>wpAny_execs_nil ⟨σ,H,I,h⟩
def sV (h1:PS X st t) (h2:zh X rest u):zh X (st::rest) (ZG t u):=by
 intro pins s σ H D I h;refine wpAny_execs_cons (fE (h1 pins s σ H {D with nx:=u D} I h) fun f s1 q=>?_);cases f with
 |next=>
  obtain⟨σ',H',I',q⟩:=q;exact h2 pins s1 σ' H' D I' q
 |ret v=>exact q
 |brk=>exact q
 |cont=>exact q
def EY (h1:PS X st t):zh X [st] t:=by
 intro pins s σ H D I h;refine wpAny_execs_cons (fE (h1 pins s σ H D I h) fun f s1 q=>?_);cases f with
 |next=>exact wpAny_execs_nil q
 |ret v=>exact q
 |brk=>exact q
 |cont=>exact q
def Inv.quiet {s:Shared}(I:Inv X pins σ H s):interactive X.env=false:=by simp[interactive,I.ok.kind]
def U5 (te:TE):TS:=fun D σ H=>te σ H fun _ H1=>D.nx σ H1
def MG (he:PE X e te) (hs:swapsWith e none pos.line X.env=pure false:=by rfl):PS X (.Expr e pos) (U5 te):=by
 intro pins s σ H D I h;exact wpAny_Expr_any (fE (he pins s σ H _ I h) fun v s1 ⟨x,H1,I1,r1,q1⟩=>⟨σ,H1,I1,q1⟩) I.quiet hs
def ZI (te:TE):TS:=fun D σ H=>te σ H D.rt
def Qt (he:PE X e te):PS X (.Return (some e) pos) (ZI te):=by
 intro pins s σ H D I h;exact wpAny_Return_some (fE (he pins s σ H _ I h) fun v s1 ⟨x,H1,I1,r1,q1⟩=>⟨x,σ,H1,I1,r1,q1⟩)
def ZJ (c:TT) (t u:TS):TS:=fun D σ H=>c σ H fun b H1=>if b=true then t D σ H1 else u D σ H1
def U6 {c:Expr}{a b:BBH}{tc:TT}(hc:PT X c tc) (ha:zh X a t) (hb:zh X b u):PS X (.If c a b pos) (ZJ tc t u):=by
 intro pins s σ H D I h;refine wpAny_If (fE (hc pins s σ H _ I h) fun d s1 hh=>?_);obtain⟨H1,I1,q1⟩:=hh;cases d with
 |true=>exact ha pins s1 σ H1 D I1 q1
 |false=>exact hb pins s1 σ H1 D I1 q1
end
abbrev TG:=V->St->Hp->(St->Hp->Prop)->Prop
abbrev O9:=List V->St->Hp->(St->Hp->Prop)->Prop
def PG (X:Cx) (target:Expr) (t:TG):Prop:=
 ∀(pins:AAG) (s:Shared) (σ:St) (H:Hp) (v:V) (u:Value) (Q:St->Hp->Prop),Inv X pins σ H s->RelV v u->t v σ H Q->
  wpAny (model X.prog X.w) X.A (assign target X.env u) (fun _ s'=>∃σ' H',Inv X pins σ' H' s'/\Q σ' H') X.xe s
def Pa (X:Cx) (ts:BBC) (t:O9):Prop:=
 ∀(pins:AAG) (s:Shared) (σ:St) (H:Hp) (vs:List V) (us:AAL) (Q:St->Hp->Prop),Inv X pins σ H s->Vals vs us->t vs σ H Q->
  wpAny (model X.prog X.w) X.A (assignInOrder ((assignEach ts X.env).map (·.2)) us) (fun _ s'=>∃σ' H',Inv X pins σ' H' s'/\Q σ' H') X.xe s
abbrev Qu:=V->V->V->Hp->(Hp->Prop)->Prop
def U7 (X:Cx) (t:Qu):Prop:=
 ∀(pins:AAG) (s:Shared) (σ:St) (H:Hp) (o i v:V) (ov iv u:Value) (Q:Hp->Prop),Inv X pins σ H s->RelV o ov->RelV i iv->RelV v u->t o i v H Q->
  wpAny (model X.prog X.w) X.A (setItem ov iv u) (fun _ s'=>∃H',Inv X pins σ H' s'/\Q H') X.xe s
section
variable {X:Cx}{pos:Pos}
def zM (i:Nat):TG:=fun v σ H Q=>Q (σ.set i (some v)) H
def wF (hN:X.N.Nodup) (hi:X.N[i]? =some x) (hx:Loc X.env.scope x) (hf:X.fn x=true\/X.env.scope.names.lookup x=some .local:=by first|exact .inl rfl|exact .inr rfl|assumption):PG X (.Name x pos) (zM i):=by
 intro pins s σ H v u Q I r h;exact ae9 (Cn I hN hi hx r (fun s' I'=>⟨_,H,I',h⟩) hf)
noncomputable def ZK:O9:=fun vs σ H Q=>vs=[]/\Q σ H
noncomputable def U8 (t:TG) (u:O9):O9:=fun vs σ H Q=>∃v r,vs=v::r/\t v σ H fun σ' H'=>u r σ' H' Q
def EZ:Pa X [] ZK:=by
 intro pins s σ H vs us Q I r h;obtain⟨e,h⟩:=h;subst e;cases r;exact assignInOrder_nil ⟨σ,H,I,h⟩
def wV {e:Expr}{t:TG}{u:O9}(h1:PG X e t) (h2:Pa X es u)
  (hs:(assignEach (e::es) X.env).map (·.2)=assign e X.env::(assignEach es X.env).map (·.2):=by rfl):Pa X (e::es) (U8 t u):=by
 intro pins s σ H vs us Q I r h;obtain⟨v,vr,e1,h⟩:=h;subst e1;cases r with
 |cons r rr=>
  rw[hs];refine assignInOrder_cons (fE (h1 pins s σ H _ _ _ I r h) fun _ s1 hh=>?_);obtain⟨σ1,H1,I1,q1⟩:=hh;exact h2 pins s1 σ1 H1 _ _ Q I1 rr q1
def ZL (K:AAD) (n:Nat) (t:O9):TG:=fun v σ H Q=>∃a xs,v= .ref a/\zL K H a xs/\xs.length=n/\t xs σ H Q
def Jj {t:O9}{n:Nat}(hc:X.calm=true) (h:Pa X es t)
  (hn:(assignEach es X.env).length=n:=by rfl) (hst:(assignEach es X.env).findIdx? (·.1)=none:=by rfl):PG X (.Tuple es k pos) (ZL X.K n t):=by
 intro pins s σ H v u Q I r hw;obtain⟨a,xs,e1,hq,hl,hw⟩:=hw;subst e1;cases r;obtain⟨its,rv,ht,hz⟩:=I.tuple hq;refine assign_Tuple_tuple (I.ok.hd hc) ht (by simp[hn,<-hl,rv.length]) hst fun h' hx=>?_;have I1:Inv X pins σ H {s with heap:=h'}:=I.kept (t':=s.toks) fun b o e=>hx b o (abu (aau e)) e;exact h pins _ σ H xs _ Q I1 (by simpa using rv) hw
def ZM (to ti:TE) (t:Qu):TG:=fun v σ H Q=>to σ H fun o H1=>ti σ H1 fun i H2=>t o i v H2 fun H3=>Q σ H3
def Jk {o i:Expr}{to ti:TE}{t:Qu}(ho:PE X o to) (hi:PE X i ti) (hs:U7 X t)
  (ha:∀v,assign (.Subscript o i pos) X.env v=(do
   let ov <-holding [v] (eval o X.env)
   let iv <-holding [v,ov] (eval i X.env)
   standAt pos
   holding [v,ov,iv] (setItem ov iv v)
   release [v,ov,iv] []):=by intro _;rfl):PG X (.Subscript o i pos) (ZM to ti t):=by
 intro pins s σ H v u Q I r h;rw[ha];refine aaa (acm (fE (ho pins s σ H _ I h) fun ov s1 hh=>?_));obtain⟨x,H1,I1,r1,q1⟩:=hh;refine aaa (acm (fE (hi pins s1 σ H1 _ I1 q1) fun iv s2 hh=>?_));obtain⟨y,H2,I2,r2,q2⟩:=hh;refine aaa (aeZ (aaa (acm (fE (hs pins s2 σ H2 x y v ov iv u _ I2 r1 r2 r q2) fun _ s3 hh=>?_))));obtain⟨H3,I3,q3⟩:=hh;exact wpAny_release ⟨σ,H3,I3,q3⟩
def Jl (te:TE) (g:TG):TS:=fun D σ H=>te σ H fun x H1=>g x σ H1 D.nx
def DU {e:Expr}{te:TE}{g:TG}(he:PE X e te) (hg:PG X tg g) (hs:swapsWithSole [tg] e pos.line X.env=pure false:=by rfl) (hw:swappedStores [tg] e X.env=pure none:=by rfl)
  (h1:(assignEach [tg] X.env).map (·.2)=[assign tg X.env]:=by rfl):PS X (.Assign [tg] e pos) (Jl te g):=by
 intro pins s σ H D I h;refine wpAny_Assign_stores (fE (he pins s σ H _ I h) fun v s1 hh=>?_) hs hw;obtain⟨x,H1,I1,r1,q1⟩:=hh;rw[h1];exact fE (hg pins s1 σ H1 x v _ I1 r1 q1) fun _ s2 q=>q
def Jm {e:Expr}{te:TE}{pos':Pos}(hN:X.N.Nodup) (hi:X.N[i]? =some x) (hx:Loc X.env.scope x) (he:PE X e te) (hs:swapsWith e (some (.Name x pos')) pos.line X.env=pure false:=by rfl) (hf:X.fn x=true\/X.env.scope.names.lookup x=some .local:=by first|exact .inl rfl|exact .inr rfl|assumption):
  PS X (.Assign [.Name x pos'] e pos) (Jl te (zM i)):=by
 intro pins s σ H D I h;refine wpAny_Assign_Name (fE (he pins s σ H _ I h) fun v s1 hh=>?_) hs;obtain⟨y,H1,I1,r1,q1⟩:=hh;exact Cn I1 hN hi hx r1 (fun s2 I2=>⟨_,H1,I2,q1⟩) hf
end
structure It where
 go:Nat->Hp->Prop
 Qv:Nat->Hp->V->Hp->Prop
 stop:Nat->Hp->Prop
def rL (X:Cx) (pins:AAG) (H:Hp) (b:Addr):Prop:=
 H b=none/\b≠X.env.locals/\b∉X.fs/\(b∈X.ex\/X.s₀.heap.objs.size<=b)/\(∀x c,X.env.cells.lookup x=some c->c≠b)/\∀p∈X.pn++pins,p.1≠b
def Inv.Jo {s:Shared}{b:Addr}(I:Inv X pins σ H s) (hb:s.heap.objs.size<=b) (hn:H' b=none):rL X pins H' b:=by
 refine⟨hn,afl (aaE I.lt hb),I.UW hb,.inr (abl I.sz hb),fun x c e z=>?_,fun p hp z=>?_⟩
 ·obtain⟨v,q⟩:=I.cell x c e;exact absurd (aaE q.lt (by rw[z];exact hb)) (acz _)
 ·exact absurd (aaE (aau (I.pin p hp).1) (by rw[z];exact hb)) (acz _)
structure Turn (P:Program) (w:World) (K:AAD) (tg:Expr) (J:It) (fp:BBE) (it:Addr) (tn:Nat->Heap->Prop):Prop where
 mem:it∈fp
 obj:∀i h,tn i h->∀b∈fp,∃o,h.get? b=some o/\∀v,o.data≠.cell v
 keep:∀i h h',tn i h->(∀b∈fp,∀o,h.get? b=some o->h'.get? b=some o)->tn i h'
 item:∀(X:Cx),X.prog=P->X.w=w->X.K=K->X.calm=true->∀(i:Nat) (pins:AAG) (s:Shared) (σ:St) (H:Hp) (E:AAE),Inv X pins σ H s->(∀b∈fp,rL X pins H b)->tn i s.heap->J.go i H->
  wpAny (model P w) X.A (pyNext (.ref it)) (fun r s1=>∃u,r=some u/\
   wpAny (model P w) X.A (letOwnedTupleGo tg (.ref it) u) (fun _ s2=>∃x H',Inv X pins σ H' s2/\RelV x u/\J.Qv i H x H'/\tn (i+1) s2.heap/\∀b∈fp,H' b=none) E s1) E s
 done:∀(X:Cx),X.prog=P->X.w=w->X.K=K->X.calm=true->∀(i:Nat) (pins:AAG) (s:Shared) (σ:St) (H:Hp) (E:AAE),Inv X pins σ H s->(∀b∈fp,rL X pins H b)->tn i s.heap->J.stop i H->
  wpAny (model P w) X.A (pyNext (.ref it)) (fun r s1=>r=none/\Inv X pins σ H s1) E s
 self:∀(A:Around) (i:Nat) (s:Shared) (Q:AAE) (E:AAE),tn i s.heap->Q (.ref it) s->wpAny (model P w) A (pyIter (.ref it)) Q E s
abbrev TI:=St->Hp->(It->Hp->Prop)->Prop
def ZN (X:Cx) (pins:AAG) (σ:St) (tg:Expr) (R:It->Hp->Prop) (itv:Value) (s2:Shared):Prop:=
 ∃(it:Addr) (fp:BBE) (tn:Nat->Heap->Prop) (J:It) (H':Hp),itv= .ref it/\Inv X pins σ H' s2/\Turn X.prog X.w X.K tg J fp it tn/\tn 0 s2.heap/\(∀b∈fp,rL X pins H' b)/\R J H'
def PI (X:Cx) (tg iter:Expr) (wi:TI):Prop:=
 ∀(pins:AAG) (s:Shared) (σ:St) (H:Hp) (R:It->Hp->Prop),Inv X pins σ H s->wi σ H R->
  wpAny (model X.prog X.w) X.A (eval iter X.env) (fun v s1=>wpAny (model X.prog X.w) X.A (pyIter v) (ZN X pins σ tg R) X.xe s1) X.xe s
def Jp {s:Shared}{it:Addr}{n:String}{vs:AAK}{Q:Unit->Shared->Prop}(ho:s.heap.get? it=some o) (hc:o.cls= .type n) (hd:o.data= .fields vs)
    (hn:["enumerate","zip","dict_itemiterator","dict_reverseitemiterator","odict_iterator","itertools.zip_longest","itertools.pairwise"].contains n=false) (hQ:Q () s):wpAny M A (letOwnedTupleGo tg (.ref it) u) Q E s:=by
  unfold letOwnedTupleGo;cases tg<;>first
    |exact wpAny_pure hQ
    | (cases u <;> first
        |exact wpAny_pure hQ
        | (refine aaa (wpAny_load ho ?_)
           rw[hc,hd];show wpAny M A (if(["enumerate","zip","dict_itemiterator","dict_reverseitemiterator","odict_iterator","itertools.zip_longest","itertools.pairwise"].contains n && vs[0]? == some (rawInt _))=true then _ else _) Q E s;rw[if_neg (by intro h;rw[hn,ad1] at h;cases h)];exact wpAny_pure hQ))
noncomputable def ZO (K:AAD) (a:Addr):It:=
 ⟨fun i H=>∃xs x,mQ K H a xs/\xs[i]? =some x,fun i H x H'=>H'=H/\∀xs,mQ K H a xs->xs[i]? =some x,fun i H=>∃xs,mQ K H a xs/\xs.length<=i⟩
noncomputable def ZP (K:AAD) (a:Addr):It:=
 ⟨fun i H=>∃xs x,zL K H a xs/\xs[i]? =some x,fun i H x H'=>H'=H/\∀xs,zL K H a xs->xs[i]? =some x,fun i H=>∃xs,zL K H a xs/\xs.length<=i⟩
noncomputable def U9 (lo:Int) (n:Nat):It:=⟨fun i _=>i<n,fun i H x H'=>H'=H/\x= .int (lo+i),fun i _=>n<=i⟩
def G1 (a it:Addr):Turn P w K tg (ZO K a) [it] it (fun i h=>h.IsListIter it a i) where
 mem:=by simp
 obj:=fun i h st b hb=>by
  have e:b=it:=by simpa using hb
  subst e;obtain⟨o,e,c,d⟩:=st;exact⟨o,e,fun v z=>by rw[d] at z;cases z⟩
 keep:=fun i h h' st k=>st.at fun o e=>k it (by simp) o e
 item:=by
  intro X hP hw hK hc i pins s σ H E I hf st hg;subst hP hw hK;obtain⟨xs,x,hq,hx⟩:=hg;obtain⟨its,rv,p,hz⟩:=I.list hq;obtain⟨u,hu,ru⟩:=rv.get hx;obtain⟨f0,f1,f2,f3,f4,f5⟩:=hf it (by simp);refine wpAny_pyNext_list_item st p.isList (x:=u) (by simpa using hu) fun h' st' sb=>?_;have I1:Inv X pins σ H {s with heap:=h'}:=I.turned (t':=s.toks) (fun b o hb e=>(sb.2 b hb).trans e) f0 f1 f3 f4 f5;obtain⟨o,e,c,d⟩:=id st';exact⟨u,rfl,Jp (s:={s with heap:=h'}) e c d (by decide) ⟨x,H,I1,ru,⟨rfl,fun ys hy=>by rw[I.Ji hy hq];exact hx⟩,st',fun b hb=>(hf b hb).1⟩⟩
 done:=by
  intro X hP hw hK hc i pins s σ H E I hf st hg;subst hP hw hK;obtain⟨xs,hq,hx⟩:=hg;obtain⟨its,rv,p,hz⟩:=I.list hq;obtain⟨f0,f1,f2,f3,f4,f5⟩:=hf it (by simp);have hl:=rv.length;exact wpAny_pyNext_list_end (I.ok.hd hc) st p.isList (by simp;lia) fun h' eb=>⟨rfl,I.turned (t':=s.toks) (fun b o hb e=>eb b o hb e) f0 f1 f3 f4 f5⟩
 self:=fun _ _ _ _ _ st h=>wpAny_pyIter_listiter st h
def DV (a it:Addr):Turn P w K tg (ZP K a) [it] it (fun i h=>h.IsTupleIter it a i) where
 mem:=by simp
 obj:=fun i h st b hb=>by
  have e:b=it:=by simpa using hb
  subst e;obtain⟨o,e,c,d⟩:=st;exact⟨o,e,fun v z=>by rw[d] at z;cases z⟩
 keep:=fun i h h' st k=>st.at fun o e=>k it (by simp) o e
 item:=by
  intro X hP hw hK hc i pins s σ H E I hf st hg;subst hP hw hK;obtain⟨xs,x,hq,hx⟩:=hg;obtain⟨its,rv,p,hz⟩:=I.tuple hq;obtain⟨u,hu,ru⟩:=rv.get hx;obtain⟨f0,f1,f2,f3,f4,f5⟩:=hf it (by simp);refine wpAny_pyNext_tuple_item st (show s.heap.IsTuple a its.toArray from p) (x:=u) (by simpa using hu) fun h' st' sb=>?_;have I1:Inv X pins σ H {s with heap:=h'}:=I.turned (t':=s.toks) (fun b o hb e=>(sb.2 b hb).trans e) f0 f1 f3 f4 f5;obtain⟨o,e,c,d⟩:=id st';exact⟨u,rfl,Jp (s:={s with heap:=h'}) e c d (by decide) ⟨x,H,I1,ru,⟨rfl,fun ys hy=>by rw[I.G0 hy hq];exact hx⟩,st',fun b hb=>(hf b hb).1⟩⟩
 done:=by
  intro X hP hw hK hc i pins s σ H E I hf st hg;subst hP hw hK;obtain⟨xs,hq,hx⟩:=hg;obtain⟨its,rv,p,hz⟩:=I.tuple hq;obtain⟨f0,f1,f2,f3,f4,f5⟩:=hf it (by simp);have hl:=rv.length;exact wpAny_pyNext_tuple_end (I.ok.hd hc) st (show s.heap.IsTuple a its.toArray from p) (by simp;lia) fun h' eb=>⟨rfl,I.turned (t':=s.toks) (fun b o hb e=>eb b o hb e) f0 f1 f3 f4 f5⟩
 self:=fun _ _ _ _ _ st h=>wpAny_pyIter_tupleiter st h
def DW (it:Addr) (lo:Int) (n:Nat):Turn P w K tg (U9 lo n) [it] it (fun i h=>IsRangeIter h it (lo+(i:Nat)*1) ((n:Int)-(i:Nat)) 1) where
 mem:=by simp
 obj:=fun i h st b hb=>by
  have e:b=it:=by simpa using hb
  subst e;exact⟨_,st,fun v z=>by
   have z':Data.fields _=Data.cell v:=z;cases z'⟩
 keep:=fun i h h' st k=>k it (by simp) _ st
 item:=by
  intro X hP hw hK hc i pins s σ H E I hf st hg;subst hP hw hK;obtain⟨f0,f1,f2,f3,f4,f5⟩:=hf it (by simp);have W:=Walks.range (prog:=X.prog) (w:=X.w) (I.ok.hd hc) it lo 1 n;refine W.item i s _ _ hg st fun v h' tk hv st' kk=>?_;obtain⟨t,rfl⟩:=hv;have I1:Inv X pins σ H {s with heap:=h',toks:=tk}:=I.turned (fun b o hb e=>kk b o (by simpa using hb) e) f0 f1 f3 f4 f5;refine⟨_,rfl,Jp (s:={s with heap:=h',toks:=tk}) (n:="range_iterator") st' rfl rfl (by decide) ⟨.int (lo+i),H,I1,⟨t,?_⟩,⟨rfl,rfl⟩,st',fun b hb=>(hf b hb).1⟩⟩;rw[Int.mul_one]
 done:=by
  intro X hP hw hK hc i pins s σ H E I hf st hg;subst hP hw hK;obtain⟨f0,f1,f2,f3,f4,f5⟩:=hf it (by simp);exact wpAny_pyNext_range_end (I.ok.hd hc) st (by have:n<=i:=hg;lia) fun h' eb=>⟨rfl,I.turned (t':=s.toks) (fun b o hb e=>eb b o hb e) f0 f1 f3 f4 f5⟩
 self:=fun _ _ _ _ _ st h=>wpAny_pyIter_rangeiter st h
section
variable {X:Cx}{tg:Expr}
def Jq (K:AAD) (tl:TE):TI:=fun σ H R=>tl σ H fun x H1=>∃a,x= .ref a/\(∃xs,mQ K H1 a xs)/\R (ZO K a) H1
def ZQ (K:AAD) (tl:TE):TI:=fun σ H R=>tl σ H fun x H1=>∃a,x= .ref a/\(∃xs,zL K H1 a xs)/\R (ZP K a) H1
def AK {l:Expr}{tl:TE}(hl:PE X l tl):PI X tg l (Jq X.K tl):=by
 intro pins s σ H R I h;refine fE (hl pins s σ H _ I h) fun v s1 hh=>?_;obtain⟨x,H1,I1,r1,q1⟩:=hh;obtain⟨a,e,⟨xs,hq⟩,q⟩:=q1;subst e;cases r1;obtain⟨its,rv,p,hz⟩:=I1.list hq;refine ad6 p.isList ?_;refine⟨s1.heap.objs.size,[s1.heap.objs.size],_,_,H1,rfl,I1.kept (t':=s1.toks) fun b o e=>aai _ e,G1 a _,⟨_,aaF _ rfl,rfl,rfl⟩,fun b hb=>?_,q⟩;have e:b=s1.heap.objs.size:=by simpa using hb
 subst e;exact I1.Jo (aam _) (I1.hok.fresh (aam _))
def Jr {l:Expr}{tl:TE}(hl:PE X l tl):PI X tg l (ZQ X.K tl):=by
 intro pins s σ H R I h;refine fE (hl pins s σ H _ I h) fun v s1 hh=>?_;obtain⟨x,H1,I1,r1,q1⟩:=hh;obtain⟨a,e,⟨xs,hq⟩,q⟩:=q1;subst e;cases r1;obtain⟨its,rv,p,hz⟩:=I1.tuple hq;refine wpAny_pyIter_tuple (show s1.heap.IsTuple a its.toArray from p) ?_;refine⟨s1.heap.objs.size,[s1.heap.objs.size],_,_,H1,rfl,I1.kept (t':=s1.toks) fun b o e=>aai _ e,DV a _,⟨_,aaF _ rfl,rfl,rfl⟩,fun b hb=>?_,q⟩;have e:b=s1.heap.objs.size:=by simpa using hb
 subst e;exact I1.Jo (aam _) (I1.hok.fresh (aam _))
def Co {s:Shared}{R:It->Hp->Prop}{lo hi:Int}{t u v:Tok}{tk:Nat}(I:Inv X pins σ H s) (h1:-(2 ^ 62)<=lo) (h2:lo<2 ^ 62) (h3:-(2 ^ 62)<=hi) (h4:hi<2 ^ 62)
  (q:R (U9 lo (hi-lo).toNat) H):wpAny (model X.prog X.w) X.A (pyIter (.ref s.heap.objs.size)) (ZN X pins σ tg R) E {s with heap:=s.heap.push {cls:=.type "range",data:=.fields #[.int lo t,.int hi u,.int 1 v]},toks:=tk}:=by
 refine wpAny_pyIter_range (IsRange.new ..) (small_one h1 h2 h3 h4) ?_;have I1:Inv X pins σ H {s with heap:=s.heap.push {cls:=.type "range",data:=.fields #[.int lo t,.int hi u,.int 1 v]},toks:=tk}:=I.kept fun b o e=>aai _ e;refine⟨(s.heap.push {cls:=.type "range",data:=.fields #[.int lo t,.int hi u,.int 1 v]}).objs.size,[(s.heap.push {cls:=.type "range",data:=.fields #[.int lo t,.int hi u,.int 1 v]}).objs.size],_,_,H,rfl,
  I1.kept (t':=tk) fun b o e=>aai _ e,DW _ lo (hi-lo).toNat,?_,fun b hb=>?_,q⟩
 ·have e1:lo+((0:Nat):Int)*1=lo:=by simp
  have e2:(((hi-lo).toNat:Nat):Int)-((0:Nat):Int)=Builtin.Range.rangeSize lo hi 1:=by rw[rangeSize_one];split<;>lia
  show IsRangeIter _ _ (lo+((0:Nat):Int)*1) ((((hi-lo).toNat:Nat):Int)-((0:Nat):Int)) 1;rw[e1,e2];exact aaF _ rfl
 ·have e:b=(s.heap.push {cls:=.type "range",data:=.fields #[.int lo t,.int hi u,.int 1 v]}).objs.size:=by simpa using hb
  subst e;exact I1.Jo (aam _) (I1.hok.fresh (aam _))
def Va (ta:TA):TI:=fun σ H R=>ta σ H fun vs H1=>∃j:Int,vs=[.int j]/\-(2 ^ 62)<=j/\j<2 ^ 62/\R (U9 0 j.toNat) H1
def Vb (ta:TA):TI:=fun σ H R=>ta σ H fun vs H1=>∃i j:Int,vs=[.int i,.int j]/\(-(2 ^ 62)<=i/\i<2 ^ 62/\-(2 ^ 62)<=j/\j<2 ^ 62)/\R (U9 i (j-i).toNat) H1
def G2 {a:Expr}{ta:TA}{p:Pos}(hg:Gl X "range") (hm:X.mg "range" =none) (ha:PA X [a] ta) (hs:starEach [a] X.env=[(false,eval a X.env)]:=by rfl):PI X tg (.Call (.Name "range" p) [a] [] pos) (Va ta):=by
 intro pins s σ H R I h;refine Call_ (nO I hg hm boot_range (adh (fE (ha pos pins s σ H _ I h) fun us s1 hh=>?_) hs rfl));obtain⟨vs,H1,I1,r1,q1⟩:=hh;obtain⟨j,e,q1,q2,q⟩:=q1;subst e;cases r1 with
 |cons r rr=>
  cases rr;obtain⟨t,rfl⟩:=r;exact call_range_1 (Co I1 (by lia) (by lia) q1 q2 (by simpa using q))
def G3 {a b:Expr}{ta:TA}{p:Pos}(hg:Gl X "range") (hm:X.mg "range" =none) (ha:PA X [a,b] ta) (hs:starEach [a,b] X.env=[(false,eval a X.env),(false,eval b X.env)]:=by rfl) (hs2:starEach [b] X.env=[(false,eval b X.env)]:=by rfl):
  PI X tg (.Call (.Name "range" p) [a,b] [] pos) (Vb ta):=by
 intro pins s σ H R I h;refine Call_ (nO I hg hm boot_range (adh (fE (ha pos pins s σ H _ I h) fun us s1 hh=>?_) (by rw[hs,hs2]) (by rw[hs2];rfl)));obtain⟨vs,H1,I1,r1,q1⟩:=hh;obtain⟨i,j,e,⟨q1,q2,q3,q4⟩,q⟩:=q1;subst e;cases r1 with
 |cons r rr=>
  cases rr with
  |cons r' rr=>
   cases rr;obtain⟨t,rfl⟩:=r;obtain⟨t',rfl⟩:=r';exact call_range_2 (Co I1 q1 q2 q3 q4 q)
def ZR (wi:TI) (g:TG) (tb:TS):TS:=fun D σ H=>wi σ H fun J H1=>∃W:Nat->Nat->St->Hp->Prop,(∃m,W 0 m σ H1)/\∀i m σ H,W i m σ H->
 (J.stop i H/\D.nx σ H)\/(J.go i H/\∃N:St->Hp->Prop,(∀σ' H',N σ' H'->∃m',m' < m/\W (i+1) m' σ' H')/\∀x H',J.Qv i H x H'->g x σ H' fun σ2 H2=>tb {D with nx:=N,ct:=N,bk:=D.nx} σ2 H2)
noncomputable def rM (fp:BBE) (h:Heap):List (Addr×Obj):=fp.filterMap fun b=>(h.get? b).map fun o=>(b,o)
def iw {h:Heap}{b:Addr}(hb:b∈fp) (e:h.get? b=some o):(b,o)∈rM fp h:=List.mem_filterMap.mpr ⟨b,hb,by rw[e];rfl⟩
def zN {h:Heap}{p:Addr×Obj}(hp:p∈rM fp h):p.1∈fp/\h.get? p.1=some p.2:=by
 obtain⟨b,hb,e⟩:=List.mem_filterMap.mp hp;cases q:h.get? b with
 |none=>rw[q] at e;cases e
 |some o=>
  rw[q] at e;have e':(b,o)=p:=abJ e;subst e';exact⟨hb,q⟩
def Inv.pinned {s:Shared}(I:Inv X pins σ H s) (hf:∀b∈fp,rL X pins H b) (ho:∀b∈fp,∃o,s.heap.get? b=some o/\∀v,o.data≠.cell v):Inv X (pins++rM fp s.heap) σ H s:=
 I.EX fun p hp=>(aaG.mp hp).elim (fun z=>I.pin p (abz _ z)) fun z=>by
  obtain⟨hb,e⟩:=zN z;obtain⟨f0,f1,f2,_⟩:=hf p.1 hb;obtain⟨o,e',d⟩:=ho p.1 hb;rw[e] at e';cases e';exact⟨e,f0,f1,f2,d⟩
def Inv.pD {pl:AAG}{s:Shared}(I:Inv X (pins++pl) σ H s):Inv X pins σ H s:=I.EX fun p hp=>I.pin p (abz _ (adq _ hp))
def Qw {iter:Expr}{wi:TI}{g:TG}{tb:TS}(hp:PassesOwn (model X.prog X.w) X.A X.env X.xe) (hc:X.calm=true) (hi:PI X tg iter wi) (hg:PG X tg g) (hb:zh X body tb)
  (hs:∀x,foldedSetIterable iter X.env x=pure x:=by intro _;rfl):PS X (.For tg iter body [] pos) (ZR wi g tb):=by
 intro pins s σ H D I h;refine wpAny_For (fE (hi pins s σ H _ I h) fun v s1 h1=>fE h1 fun itv s2 h2=>?_) hs;obtain⟨it,fp,tn,J,H2,e,I2,T,st2,f2,W,⟨m0,w0⟩,turn⟩:=h2;subst e;have Qx:∀{H':Hp},(∀b∈fp,H' b=none)->∀b∈fp,rL X pins H' b:=fun hn b hb=>⟨hn b hb,(f2 b hb).2⟩
 refine codeAny_forLoop_any (fun n s'=>∃i σ' H',Inv X pins σ' H' s'/\tn i s'.heap/\(∀b∈fp,H' b=none)/\W i n σ' H') ?_ m0 ⟨0,σ,H2,I2,st2,fun b hb=>(f2 b hb).1,w0⟩;rintro n s3 ⟨i,σ3,H3,I3,st3,fr3,w3⟩;rcases turn i n σ3 H3 w3 with⟨stop,qn⟩|⟨go,N,hN,step⟩
 ·refine adR hp (fE (T.done X rfl rfl rfl hc i pins s3 σ3 H3 X.xe I3 (Qx fr3) st3 stop) fun r s4 hh=>?_);obtain⟨hr,I4⟩:=hh;subst hr;exact wpAny_execs_nil ⟨σ3,H3,I4,qn⟩
 ·refine adR hp (fE (T.item X rfl rfl rfl hc i pins s3 σ3 H3 X.xe I3 (Qx fr3) st3 go) fun r s4 hh=>?_);obtain⟨u,hr,h4⟩:=hh;subst hr;refine adR hp (fE h4 fun _ s5 hh=>?_);obtain⟨x,H5,I5,r5,y5,ZS,fr5⟩:=hh;have I5':=I5.pinned (Qx fr5) (T.obj _ _ ZS);refine adR hp (fE (hg _ s5 σ3 H5 x u _ I5' r5 (step x H5 y5)) fun _ s6 hh=>?_);obtain⟨σ6,H6,I6,q6⟩:=hh;refine adR hp (fE (hb _ s6 σ6 H6 _ I6 q6) fun f s7 q7=>?_);have again:∀{Js:St}{H7:Hp},Inv X (pins++rM fp s5.heap) Js H7 s7->N Js H7->∃m,m<n/\∃i σ' H',Inv X pins σ' H' s7/\tn i s7.heap/\(∀b∈fp,H' b=none)/\W i m σ' H':=fun {Js H7} I7 n7=>by
   obtain⟨m',hm,w7⟩:=hN Js H7 n7;refine⟨m',hm,i+1,Js,H7,I7.pD,T.keep _ _ _ ZS fun b hb o e=>(I7.pin (b,o) (abz _ (abz _ (iw hb e)))).1,fun b hb=>?_,w7⟩;obtain⟨o,e,d⟩:=T.obj _ _ ZS b hb;exact(I7.pin (b,o) (abz _ (abz _ (iw hb e)))).2.1
  cases f with
  |next=>obtain⟨Js,H7,I7,n7⟩:=q7;exact again I7 n7
  |cont=>obtain⟨Js,H7,I7,n7⟩:=q7;exact again I7 n7
  |brk=>obtain⟨Js,H7,I7,q7⟩:=q7;exact⟨Js,H7,I7.pD,q7⟩
  |ret v=>obtain⟨x7,Js,H7,I7,r7,q7⟩:=q7;exact⟨x7,Js,H7,I7.pD,r7,q7⟩
end
abbrev R2:=V->V->Hp->VK->Prop
def uF (X:Cx) (f:Value->Value->Sem Value) (r:R2):Prop:=
 ∀(pins:AAG) (s:Shared) (σ:St) (H:Hp) (x y:V) (v u:Value) (Q:VK),Inv X pins σ H s->RelV x v->RelV y u->r x y H Q->
  wpAny (model X.prog X.w) X.A (f v u) (EP X pins σ Q) X.xe s
def Vc (X:Cx) (f:Value->Sem Value) (r:V->Hp->VK->Prop):Prop:=
 ∀(pins:AAG) (s:Shared) (σ:St) (H:Hp) (x:V) (v:Value) (Q:VK),Inv X pins σ H s->RelV x v->r x H Q->
  wpAny (model X.prog X.w) X.A (f v) (EP X pins σ Q) X.xe s
def gT (X:Cx) (f:Value) (r:List V->Hp->VK->Prop):Prop:=
 ∀(pins:AAG) (s:Shared) (σ:St) (H:Hp) (xs:List V) (us:AAL) (Q:VK),Inv X pins σ H s->Vals xs us->r xs H Q->
  wpAny (model X.prog X.w) X.A (call f us) (EP X pins σ Q) X.xe s
def Pb (r:R2) (ta tb:TE):TE:=fun σ H Q=>ta σ H fun x H1=>tb σ H1 fun y H2=>r x y H2 Q
def tUn (r:V->Hp->VK->Prop) (ta:TE):TE:=fun σ H Q=>ta σ H fun x H1=>r x H1 Q
def rI (C:Int->Int->Prop) (g:Int->Int->V):R2:=fun x y H Q=>∃i j,x= .int i/\y= .int j/\C i j/\Q (g i j) H
def Ml (g:Int->Int->V):R2:=fun x y H Q=>∃i j,x= .int i/\y= .int j/\Q (g i j) H
def rU (g:Int->V):V->Hp->VK->Prop:=fun x H Q=>∃i,x= .int i/\Q (g i) H
section
variable {X:Cx}{a b:Expr}{ta tb:TE}{pos:Pos}
def Qy (ha:PE X a ta) (hb:PE X b tb){s:Shared}{R:V->V->Hp->Prop}(I:Inv X pins σ H s)
  (h:ta σ H fun x H1=>tb σ H1 fun y H2=>R x y H2){f:Value->Value->Sem Value}
  (hf:∀v u s2 x y H2,Inv X pins σ H2 s2->RelV x v->RelV y u->R x y H2->wpAny (model X.prog X.w) X.A (f v u) Q X.xe s2):
  wpAny (model X.prog X.w) X.A (eval a X.env) (fun v s₁=>wpAny (model X.prog X.w) X.A (eval b X.env) (fun u s₂=>wpAny (model X.prog X.w) X.A (f v u) Q X.xe s₂) X.xe s₁) X.xe s:=by
 refine fE (ha pins s σ H _ I h) fun v s1 hh=>?_;obtain⟨x,H1,I1,r1,q1⟩:=hh;refine fE (hb pins s1 σ H1 _ I1 q1) fun u s2 hh=>?_;obtain⟨y,H2,I2,r2,q2⟩:=hh;exact hf v u s2 x y H2 I2 r1 r2 q2
def Vd {op:Operator}(ho:uF X (binaryOp op) r) (ha:PE X a ta) (hb:PE X b tb):PE X (.BinOp a op b pos) (Pb r ta tb):=by
 intro pins s σ H Q I h;exact wpAny_BinOp (Qy ha hb I h fun v u s2 x y H2 I2 rx ry q=>ho pins s2 σ H2 x y v u Q I2 rx ry q)
def Ve {op:UnaryOp}{r:V->Hp->VK->Prop}(ho:Vc X (unaryOp op) r) (ha:PE X a ta):PE X (.UnaryOp op a pos) (tUn r ta):=by
 intro pins s σ H Q I h;exact UnaryOp_ (fE (ha pins s σ H _ I h) fun v s1 ⟨x,H1,I1,r1,q1⟩=>ho pins s1 σ H1 x v Q I1 r1 q1)
def Uc {f:Value->Value->Sem Value}{C:Int->Int->Prop}
  (rule:∀(i j:Int) (t u:Tok) (s:Shared) (Q:AAE) (E:AAE),C i j->Q (.int (g i j) s.toks) {s with toks:=s.toks+1}->wpAny (model X.prog X.w) X.A (f (.int i t) (.int j u)) Q E s):
  uF X f (rI C fun i j=>.int (g i j)):=by
 intro pins s σ H x y v u Q I rx ry h;obtain⟨i,j,rfl,rfl,hc,q⟩:=h;obtain⟨t,rfl⟩:=rx;obtain⟨t',rfl⟩:=ry;exact rule i j t t' s _ _ hc ⟨.int (g i j),H,I.tok _,⟨_,rfl⟩,q⟩
def MH {f:Value->Value->Sem Value}
  (rule:∀(i j:Int) (t u:Tok) (s:Shared) (Q:AAE) (E:AAE),Q (.int (g i j) s.toks) {s with toks:=s.toks+1}->wpAny (model X.prog X.w) X.A (f (.int i t) (.int j u)) Q E s):
  uF X f (Ml fun i j=>.int (g i j)):=by
 intro pins s σ H x y v u Q I rx ry h;obtain⟨i,j,rfl,rfl,q⟩:=h;obtain⟨t,rfl⟩:=rx;obtain⟨t',rfl⟩:=ry;exact rule i j t t' s _ _ ⟨.int (g i j),H,I.tok _,⟨_,rfl⟩,q⟩
def MI {f:Value->Value->Sem Value}{g:Int->Int->Bool}
  (rule:∀(i j:Int) (t u:Tok) (s:Shared) (Q:AAE) (E:AAE),Q (.bool (g i j)) s->wpAny (model X.prog X.w) X.A (f (.int i t) (.int j u)) Q E s):
  uF X f (Ml fun i j=>.bl (g i j)):=by
 intro pins s σ H x y v u Q I rx ry h;obtain⟨i,j,rfl,rfl,q⟩:=h;obtain⟨t,rfl⟩:=rx;obtain⟨t',rfl⟩:=ry;exact rule i j t t' s _ _ ⟨.bl (g i j),H,I,rfl,q⟩
def Vf (i j:Int):Prop:=0<j/\j<1073741824
def Vg (i j:Int):Prop:=0<=j/\j<=1000000/\i.natAbs<2 ^ 64
def Qz (i j:Int):Prop:=(-(2 ^ 64)<i/\i<2 ^ 64)\/(-(2 ^ 64)<j/\j<2 ^ 64)
def Qz.ok {i j:Int}(h:Qz i j):IntMulOk i j:=by
 rcases h with⟨h1,h2⟩|⟨h1,h2⟩
 ·exact .of_left (intBits_le_64 h1 h2)
 ·exact .of_right (intBits_le_64 h1 h2)
def DX (k:Nat):(0:Int)<=2 ^ k:=by
 rw[two_pow_cast];exact Int.natCast_nonneg _
def QA:uF X (binaryOp .Add) (Ml fun i j=>.int (i+j)):=MH fun _ _ _ _ _ _ _ q=>add_int q
def QB:uF X (binaryOp .Sub) (Ml fun i j=>.int (i-j)):=MH fun _ _ _ _ _ _ _ q=>sub_int q
def QC:uF X (binaryOp .Mult) (rI Qz fun i j=>.int (i*j)):=Uc fun _ _ _ _ _ _ _ hc q=>mul_int q hc.ok
def MJ:uF X (binaryOp .FloorDiv) (rI Vf fun i j=>.int (i / j)):=Uc fun i j _ _ _ _ _ hc q=>by
 have h1:(0:Int)<j:=hc.1;have h2:j<1073741824:=hc.2;exact floordiv_int (by lia) (by rw[ae0 i (by lia)];exact q) (.inl (PyProof.noPylong_small (by lia)))
def QD:uF X (binaryOp .Mod) (rI (fun _ j=>0<j) fun i j=>.int (i % j)):=Uc fun i j _ _ _ _ _ hc q=>by
 have h1:(0:Int)<j:=hc;exact mod_int' (by lia) (by rw[Int.fmod_eq_emod_of_nonneg i (by lia)];exact q)
def QE:uF X (binaryOp .Pow) (rI Vg fun i j=>.int (i ^ j.toNat)):=Uc fun _ _ _ _ _ _ _ hc q=>pow_int_small hc.1 hc.2.1 hc.2.2 q
def QF:uF X (binaryOp .LShift) (rI Vg fun i j=>.int (i*2 ^ j.toNat)):=Uc fun _ _ _ _ _ _ _ hc q=>lshift_int_small hc.1 hc.2.1 hc.2.2 q
def QG:uF X (binaryOp .RShift) (rI (fun _ j=>0<=j) fun i j=>.int (i / 2 ^ j.toNat)):=Uc fun i j _ _ _ _ _ hc q=>
 rshift_int hc (by rw[ae0 i (DX _)];exact q)
def QH:uF X (binaryOp .BitAnd) (Ml fun i j=>.int (Builtin.bitAnd i j)):=MH fun _ _ _ _ _ _ _ q=>and_int q
def Vh:uF X (binaryOp .BitOr) (Ml fun i j=>.int (Builtin.bitOr i j)):=MH fun _ _ _ _ _ _ _ q=>or_int q
def unI {f:Value->Sem Value}{g:Int->Int}
  (rule:∀(i:Int) (t:Tok) (s:Shared) (Q:AAE) (E:AAE),Q (.int (g i) s.toks) {s with toks:=s.toks+1}->wpAny (model X.prog X.w) X.A (f (.int i t)) Q E s):
  Vc X f (rU fun i=>.int (g i)):=by
 intro pins s σ H x v Q I rx h;obtain⟨i,rfl,q⟩:=h;obtain⟨t,rfl⟩:=rx;exact rule i t s _ _ ⟨.int (g i),H,I.tok _,⟨_,rfl⟩,q⟩
def QI:Vc X (unaryOp .USub) (rU fun i=>.int (-i)):=unI fun _ _ _ _ _ q=>neg_int q
end
section
variable {X:Cx}{a b c:Expr}{ta tb:TE}{pos:Pos}
def Jt {s:Shared}{Q:VK}{k k':Bool}(I:Inv X pins σ H s) (q:Q (.bl k) H) (e:k=k'):EP X pins σ Q (.bool k') s:=by
 subst e;exact⟨.bl k,H,I,rfl,q⟩
def Vi:uF X (compareOp .Lt) (Ml fun i j=>.bl (decide (i<j))):=MI fun _ _ _ _ _ _ _ q=>lt_int q
def Vj:uF X (compareOp .LtE) (Ml fun i j=>.bl (decide (i<=j))):=MI fun _ _ _ _ _ _ _ q=>le_int q
def Vk:uF X (compareOp .Gt) (Ml fun i j=>.bl (decide (j<i))):=MI fun _ _ _ _ _ _ _ q=>gt_int q
def Vl:uF X (compareOp .GtE) (Ml fun i j=>.bl (decide (j<=i))):=MI fun _ _ _ _ _ _ _ q=>ge_int q
def G4:uF X (compareOp .In) (fun x y H Q=>∃i j,x= .str i/\y= .str j/\Q (.bl (!(Builtin.Str.occurrences j i 0 j.length 1).isEmpty)) H):=by
 intro pins s σ H x y v u Q I rx ry h;obtain⟨i,j,rfl,rfl,q⟩:=h;obtain⟨t,rfl⟩:=rx;obtain⟨t',rfl⟩:=ry;exact in_str (Jt I q rfl)
def AL:uF X (compareOp .NotIn) (fun x y H Q=>∃i j,x= .str i/\y= .str j/\Q (.bl (!(!(Builtin.Str.occurrences j i 0 j.length 1).isEmpty))) H):=by
 intro pins s σ H x y v u Q I rx ry h;obtain⟨i,j,rfl,rfl,q⟩:=h;obtain⟨t,rfl⟩:=rx;obtain⟨t',rfl⟩:=ry;exact notIn_str (Jt I q rfl)
def DY (b:Expr)(h:op≠.In:=by decide) (h2:op≠.NotIn:=by decide):behindInMarks op b=false:=by
 have e1:(op == CmpOp.In)=false:=by cases op<;>first|rfl|exact absurd rfl h
 have e2:(op == CmpOp.NotIn)=false:=by cases op<;>first|rfl|exact absurd rfl h2
 cases b<;>simp[behindInMarks,e1,e2]
def E1 (ho:uF X (compareOp op) r) (ha:PE X a ta) (hb:PE X b tb) (hm:behindInMarks op b=false):PE X (.Compare a [op] [b] pos) (Pb r ta tb):=by
 intro pins s σ H Q I h;exact wpAny_Compare1 (Qy ha hb I h fun v u s2 x y H2 I2 rx ry q=>ho pins s2 σ H2 x y v u Q I2 rx ry q) hm
def Vm (t:TE):TT:=fun σ H Q=>t σ H fun x H'=>∃k,x= .bl k/\Q k H'
def wG (ho:uF X (compareOp op) r) (ha:PE X a ta) (hb:PE X b tb) (hm:behindInMarks op b=false):PT X (.Compare a [op] [b] pos) (Vm (Pb r ta tb)):=by
 intro pins s σ H Q I h;refine wpAny_isTrue_Compare1 (fE (ha pins s σ H _ I h) fun v s1 ⟨x,H1,I1,r1,q1⟩=>fE (hb pins s1 σ H1 _ I1 q1) fun u s2 ⟨y,H2,I2,r2,q2⟩=>
  fE (ho pins s2 σ H2 x y v u _ I2 r1 r2 q2) fun c s3 ⟨z,H3,I3,r3,k,e,q3⟩=>?_) hm
 subst e;cases r3;exact ac9 ⟨H3,I3,q3⟩
def uH:(sizeLine:Nat)<2 ^ 63:=by rw[acO];decide
def DZ:uF X (binaryOp .Add) (fun x y H Q=>∃i j,x= .str i/\y= .str j/\i.length+j.length<=sizeLine/\Q (.str (i++j)) H):=by
 intro pins s σ H x y v u Q I rx ry h;obtain⟨i,j,rfl,rfl,hz,q⟩:=h;obtain⟨t,rfl⟩:=rx;obtain⟨t',rfl⟩:=ry;exact add_str (fun t' tk=>⟨.str (i++j),H,I.tok _,⟨_,rfl⟩,q⟩) hz
def vals1 {x:V}(r:Vals [x] us):∃u,us=[u]/\RelV x u:=by
 cases r with
 |cons r1 r2=>cases r2;exact⟨_,rfl,r1⟩
def vals2 {x:V}(r:Vals [x,y] us):∃u w',us=[u,w']/\RelV x u/\RelV y w':=by
 cases r with
 |cons r1 r2=>
  cases r2 with
  |cons r3 r4=>cases r4;exact⟨_,_,rfl,r1,r3⟩
def G5 (hc:X.calm=true):gT X (.builtin "min") (fun xs H Q=>∃i j,xs=[.int i,.int j]/\Q (.int (if j<i then j else i)) H):=by
 intro pins s σ H xs us Q I r h;obtain⟨i,j,rfl,q⟩:=h;obtain⟨u,w',rfl,⟨t,rfl⟩,⟨t',rfl⟩⟩:=vals2 r;refine min_two_ints (I.ok.hd hc) fun h' tk k=>⟨_,H,I.kept k,?_,q⟩
 by_cases hj:j<i
 ·rw[if_pos hj,if_pos hj];exact⟨_,rfl⟩
 ·rw[if_neg hj,if_neg hj];exact⟨_,rfl⟩
end
structure D0 (h:Heap) (x dx C:Addr) (mA:AAF):Prop where
 obj:h.get? x=some (PySem.W.instObj C dx)
 ns:h.Ns1 dx mA
 ne:dx≠x
def G6 {h:Heap}{dx:Addr}(n:h.Ns1 dx mA):∃od,h.get? dx=some od/\∀name,PySem.W.lookIn name od=some (mA name):=by
 obtain⟨o,es,ep,ho,hd,hk,_,hm⟩:=n;refine⟨o,ho,fun name=>?_⟩;have e:=hm name;unfold nsFind findBy at e;rw[<-Array.find?_toList] at e;unfold PySem.W.lookIn;rw[hd];dsimp only;split
 ·rename_i y q;rw[q] at e;exact congrArg some e
 ·rename_i q;rw[q] at e;have a:es.toList.any (·.refKey)=false:=by
   rw[ad7];intro y hy;obtain⟨z,t,hkey⟩:=hk y (Array.mem_toList_iff.mp hy);simp[DictEntry.refKey,hkey]
  have a':¬es.toList.any (·.refKey)=true:=by rw[a];exact aeU
  rw[if_neg a'];exact congrArg some e
def D0.look {h:Heap}{x dx:Addr}(I:D0 h x dx C mA):∃od,PySem.W.InstAt h x (PySem.W.instObj C dx) C (some od)/\∀name,PySem.W.lookIn name od=some (mA name):=
 let⟨od,ho,hl⟩:=G6 I.ns
 ⟨od,⟨I.obj,rfl,rfl,ho⟩,hl⟩
section
variable {prog:Program}{w:World}{A:Around}{E:AAE}{s:Shared}{K:AAD}{x dx C f:Addr}{mA:AAF}{name:Str}{v:Value}
def get_map {expr:Bool}(X:K.In s.heap) (I:D0 s.heap x dx C mA) (hg:PySem.W.plainGet K C name=true) (hh:PySem.W.hasDictIn K C=true)
  (ha:PySem.W.findIn K (.ref C) name=some none) (hv:mA name=some v) (hv':PySem.W.handedIn v=true) (h:Q v {s with toks:=s.toks+1}):
  wpAny (model prog w) A (getAttr (.ref x) name expr) Q E s:=by
 obtain⟨od,J,hl⟩:=I.look;exact PySem.W.get_value X J (aeN hg).1 (PySem.W.findObj_own hh ha rfl (by rw[hl,hv])) hv' h
def Ju {Q:Value×BBG->Shared->Prop}(X:K.In s.heap) (I:D0 s.heap x dx C mA) (hg:PySem.W.plainGet K C name=true)
  (hf:PySem.W.findIn K (.ref C) name=some (some (.ref f))) (ht:PySem.W.isFn K (.ref f)=true) (hv:mA name=none) (h:Q (.ref f,[.ref x]) s):
  wpAny (model prog w) A (getMethod (.ref x) name pl) Q E s:=by
 obtain⟨od,J,hl⟩:=I.look;exact PySem.W.method_fn X J (aeN hg).1 (aeN hg).2 hf (afh.mp ht) (by show(PySem.W.lookIn name od).map (·.isSome)=some false;rw[hl,hv];rfl) h
def MK {ns:BBB}{Q:Unit->Shared->Prop}(X:K.In s.heap) (I:D0 s.heap x dx C mA)
  (hs:PySem.W.findIn K (.ref C) "__setattr__" =some (some (.builtin "object.__setattr__"))) (hp:PySem.W.plainOver K C=true) (ht:PySem.W.takerIn K C name=some none) (hh:PySem.W.hasDictIn K C=true)
  (hw:PySem.Within mA ns) (hsz:ns.length<=sizeLine)
  (h:∀h',D0 h' x dx C (fun y=>if y=name then some v else mA y)->Heap.SameBut dx s.heap h'->Q () {s with heap:=h',toks:=s.toks+2}):
  wpAny (model prog w) A (setAttr (.ref x) name v) Q E s:=by
 obtain⟨od,J,hl⟩:=I.look;refine PySem.W.set_plain X J hs (PySem.W.osa_open (s:={s with toks:=s.toks+1}) (r:=none) X J hp ht fun b=>?_);obtain⟨cd,hc,hd'⟩:=PySem.W.any_some hh;have hx:s.heap.get? x=some ⟨.ref C,some dx,.plain,#[]⟩:=I.obj;refine aaa (wpAny_pure (aaa (aaa (wpAny_loadPart hx (aaa (PySem.W.Looks.here (s:={s with toks:=s.toks+1}) (PySem.W.looks_clsIn X hc) ?_))))));rw[hd'];refine wpAny_pure (a:=some dx) (aaa (wpAny_pure (aaa ?_)));refine wpAny_nsSet1 (s:={s with toks:=s.toks+1}) I.ns fun h' hn2 hs2=>?_;obtain⟨oD,esD,epD,hoD,hdD,hcD⟩:=hn2.count (PySem.Within.cons name v hw);refine aaa (wpAny_lookBehind hoD (by rw[hdD];exact pastItsLine_dict (abl hcD (by rw[abn];lia))) ?_);exact wpAny_pure (h _ ⟨(hs2.2 _ (acj I.ne)).trans I.obj,hn2,I.ne⟩ hs2)
def Jv {R:Result->Shared->Prop}{vs:AAL}(X:K.In s.heap) (hm:PySem.W.makesIn K C=true)
  (hi:PySem.W.findIn K (.ref C) "__init__" =some (some (.ref f))) (hf:PySem.W.typeIn K (.ref f)=some (.type "function"))
  (h:codeAny (model prog w) (A.under (.builtin "type.__call__" ⟨.ref C::vs,kw⟩)) (.call (.ref f) ⟨.ref (s.heap.objs.size+1)::vs,kw⟩) (PySem.W.InitBack (s.heap.objs.size+1) R)
   {s with heap:=(s.heap.push PySem.W.emptyDict).push (PySem.W.instObj C s.heap.objs.size)}):
  codeAny (model prog w) A (.call (.ref C) ⟨vs,kw⟩) R s:=by
 obtain⟨hh,g,d,t,os⟩:=s;exact PySem.W.make_core (PySem.W.makes_of X hm) (PySem.W.looks_findIn X hi) (fun self=>PySem.W.bind_fn X self hf) (.inl rfl) h
end
noncomputable def nP (f:Str) (v:V):List (Str×V)->List (Str×V)
 |[]=>[(f,v)]
 |(g,x)::r=>if g=f then(g,v)::r else(g,x)::nP f v r
theorem vH (f g:Str) (v:V):∀fs:List (Str×V),(nP f v fs).lookup g=if g=f then some v else fs.lookup g
 |[]=>by
  show List.lookup g [(f,v)]=_;by_cases h:g=f
  ·have hb:(g == f)=true:=afh.mpr h;simp only[List.lookup,hb,if_pos h]
  ·have hb:(g == f)=false:=acR.mpr h;simp only[List.lookup,hb,if_neg h]
 |(k,x)::r=>by
  have ih:=vH f g v r;rw[show nP f v ((k,x)::r)=(if k=f then(k,v)::r else(k,x)::nP f v r) from rfl];by_cases hk:k=f
  ·rw[if_pos hk];by_cases h:g=k
   ·have hb:(g == k)=true:=afh.mpr h;simp only[List.lookup,hb,if_pos (h.trans hk)]
   ·have hb:(g == k)=false:=acR.mpr h;simp only[List.lookup,hb,if_neg (fun e:g=f=>h (e.trans hk.symm))]
  ·rw[if_neg hk];by_cases h:g=k
   ·have hb:(g == k)=true:=afh.mpr h;simp only[List.lookup,hb,if_neg (fun e:g=f=>hk (h.symm.trans e))]
   ·have hb:(g == k)=false:=acR.mpr h;simp only[List.lookup,hb];exact ih
theorem uI (f:Str) (v:V):∀fs:List (Str×V),f∈(nP f v fs).map (·.1)/\∀g,g∈fs.map (·.1)->g∈(nP f v fs).map (·.1)
 |[]=>⟨by simp[nP],fun g h=>by simp at h⟩
 |(k,x)::r=>by
  obtain⟨i1,i2⟩:=uI f v r;rw[show nP f v ((k,x)::r)=(if k=f then(k,v)::r else(k,x)::nP f v r) from rfl];by_cases hk:k=f
  ·rw[if_pos hk];subst hk;exact⟨by simp,fun g h=>by simpa using h⟩
  ·rw[if_neg hk];refine⟨?_,fun g h=>?_⟩
   ·rw[abX];exact aaj _ i1
   ·rw[abX] at h ⊢;rcases aav.mp h with e|e
    ·exact aav.mpr (.inl e)
    ·exact aaj _ (i2 g e)
theorem vI (f:Str) (v:V):∀fs:List (Str×V),(nP f v fs).length<=fs.length+1
 |[]=>by simp[nP]
 |(k,x)::r=>by
  have ih:=vI f v r;rw[show nP f v ((k,x)::r)=(if k=f then(k,v)::r else(k,x)::nP f v r) from rfl];by_cases hk:k=f
  ·rw[if_pos hk,abn,abn];lia
  ·rw[if_neg hk,abn,abn];lia
def nN.some_of {v:V}{o:BBP}(r:nN (some v) o):∃u,o=some u/\RelV v u:=by
 cases o with
 |none=>exact(show False from r).elim
 |some u=>exact⟨u,rfl,r⟩
def nN.none_of {o:BBP}(r:nN none o):o=none:=by
 cases o with
 |none=>rfl
 |some u=>exact(show False from r).elim
def G7 {v:V}(r:RelV v u):PySem.W.handedIn u=true:=by
 cases v with
 |cJ=>cases(show u=Value.none from r);rfl
 |bl b=>cases(show u=Value.bool b from r);rfl
 |int i=>obtain⟨t,e⟩:=(show ∃t,u=Value.int i t from r);cases e;rfl
 |str x=>obtain⟨t,e⟩:=(show ∃t,u=Value.str x t from r);cases e;rfl
 |X5 b=>obtain⟨t,e⟩:=(show ∃t,u=Value.bytes b t from r);cases e;rfl
 |flt b=>obtain⟨t,e⟩:=(show ∃t,u=Value.float b t from r);cases e;rfl
 |ref a=>cases(show u=Value.ref a from r);rfl
 |ty n=>cases(show u=Value.type n from r);rfl
section
variable {P:Program}{w:World}{H:Hp}{h:Heap}{a C dx:Addr}{fs:List (Str×V)}
def AM (hok:pB P w H h) (e:H a=some (.ins C dx fs)):∃mA,D0 h a dx C mA/\(∀f,nN (fs.lookup f) (mA f))/\PySem.Within mA (fs.map (·.1))/\fs.length<=1000/\H dx=some (.own a):=by
 obtain⟨d,z,ne,ob,mA,n,r,q⟩:=(show fG P w H h a (.ins C dx fs) from hok a _ e)
 exact⟨mA,⟨ob,n,ne⟩,r,q,z,d⟩
end
structure AN (K:AAD) (C:Addr):Prop where
 pg:PySem.W.plainGet K C Str.empty=true
 hd:PySem.W.hasDictIn K C=true
 po:PySem.W.plainOver K C=true
 sa:PySem.W.findIn K (.ref C) "__setattr__" =some (some (.builtin "object.__setattr__"))
def AN.get (c:AN K C) (f:Str):PySem.W.plainGet K C f=true:=c.pg
def gf (K:AAD) (C:Addr) (f:Str):Prop:=PySem.W.findIn K (.ref C) f=some none
def gf.Vn {f:Str}(n:gf K C f):PySem.W.takerIn K C f=some none:=by
 unfold PySem.W.takerIn;rw[show PySem.W.findIn K (.ref C) f=some none from n];rfl
structure Meth (K:AAD) (C:Addr) (m:Str) (f:Addr):Prop where
 at_:PySem.W.findIn K (.ref C) m=some (some (.ref f))
 fn:PySem.W.isFn K (.ref f)=true
 kp:PySem.W.keepIn K (.ref f)=true
section
variable {X:Cx}{pins:AAG}{σ:St}{H:Hp}{s:Shared}{a C dx:Addr}{fs:List (Str×V)}{f:Str}{v:V}{A:Around}{E:AAE}
def D3 {b:Bool}(I:Inv X pins σ H s) (e:H a=some (.ins C dx fs)) (c:AN X.K C) (n:gf X.K C f) (l:fs.lookup f=some v)
  (h:∀u s',Inv X pins σ H s'->RelV v u->Q u s'):wpAny (model X.prog X.w) A (getAttr (.ref a) f b) Q E s:=by
 obtain⟨mA,O,r,_,_,_⟩:=AM I.hok e;obtain⟨u,hu,ru⟩:=nN.some_of (v:=v) (o:=mA f) (by rw[<-l];exact r f);exact get_map I.AG O (c.get f) c.hd n hu (G7 ru) (h u _ (I.tok _) ru)
def D4 {m:Str}{g:Addr}{Q:Value×BBG->Shared->Prop}(I:Inv X pins σ H s) (e:H a=some (.ins C dx fs)) (c:AN X.K C) (k:Meth X.K C m g) (l:fs.lookup m=none)
  (h:Q (.ref g,[.ref a]) s):wpAny (model X.prog X.w) A (getMethod (.ref a) m pl) Q E s:=by
 obtain⟨mA,O,r,_,_,_⟩:=AM I.hok e;have hn:mA m=none:=nN.none_of (by rw[<-l];exact r m);exact Ju I.AG O (c.get m) k.at_ k.fn hn h
def D5 {Q:Unit->Shared->Prop}(I:Inv X pins σ H s) (e:H a=some (.ins C dx fs)) (c:AN X.K C) (n:gf X.K C f) (hl:fs.length<1000) (ry:RelV y u)
  (h:∀s',Inv X pins σ (upd H a (.ins C dx (nP f y fs))) s'->Q () s'):wpAny (model X.prog X.w) A (setAttr (.ref a) f u) Q E s:=by
 obtain⟨mA,O,r,wi,_,ho⟩:=AM I.hok e;have hz:(fs.map (·.1)).length<=sizeLine:=by rw[aah,acO];lia
 refine MK I.AG O c.sa c.po n.Vn c.hd wi hz fun h' O' sb=>h _ ?_;have hd:∃o,h'.get? dx=some o:=let⟨o,_,_,e',_⟩:=O'.ns;⟨o,e'⟩
 refine I.write (x:=a) (e:=dx) (by rw[e];exact True.intro) (.inr ho) (fun b q hb z=>(sb.2 b hb).trans z) hd ?_;refine⟨by rw[bh O.ne];exact ho,?_,O.ne,O'.obj,_,O'.ns,fun g=>?_,fun g hg=>?_⟩
 ·have:=vI f y fs;lia
 ·show nN ((nP f y fs).lookup g) (if g=f then some u else mA g);rw[vH];by_cases q:g=f
  ·rw[if_pos q,if_pos q];exact ry
  ·rw[if_neg q,if_neg q];exact r g
 ·by_cases q:g=f
  ·rw[q];exact(uI f y fs).1
  ·refine(uI f y fs).2 g (wi g fun z=>hg ?_);show(if g=f then some u else mA g)=none;rw[if_neg q];exact z
def Inv.made (I:Inv X pins σ H s):Inv X pins σ (upd (upd H s.heap.objs.size (.own (s.heap.objs.size+1))) (s.heap.objs.size+1) (.ins C s.heap.objs.size []))
  {s with heap:=(s.heap.push PySem.W.emptyDict).push (PySem.W.instObj C s.heap.objs.size)}:=by
 have e1:(s.heap.push PySem.W.emptyDict).get? s.heap.objs.size=some PySem.W.emptyDict:=aaF s.heap rfl;have e2:((s.heap.push PySem.W.emptyDict).push (PySem.W.instObj C s.heap.objs.size)).get? (s.heap.objs.size+1)=some (PySem.W.instObj C s.heap.objs.size):=by
  have:=aaF (s.heap.push PySem.W.emptyDict) (o:=PySem.W.instObj C s.heap.objs.size) rfl
  rwa [adu] at this
 have e3:(s.heap.push PySem.W.emptyDict).Ns s.heap.objs.size (fun _=>none):=⟨PySem.W.emptyDict,#[],_,e1,rfl,(fun e he=>absurd he (by simp)),fun _=>rfl⟩
 have I1:=I.laid (a:=s.heap.objs.size) (o:=.own (s.heap.objs.size+1)) (h':=s.heap.push PySem.W.emptyDict) (t':=s.toks) (fun b u q=>aai _ q) (aam _) ⟨_,e1⟩;refine I1.laid (a:=s.heap.objs.size+1) (o:=.ins C s.heap.objs.size []) (t':=s.toks) (fun b u q=>aai _ q) (Nat.le_of_eq (adu _ _)) ?_;have ne:s.heap.objs.size≠s.heap.objs.size+1:=abu (adK _);refine⟨by rw[bh ne,aU],abH _,ne,e2,fun _=>none,(Heap.Ns1.of_empty e3).at fun o q=>aai _ q,fun _=>True.intro,fun y hy=>absurd rfl hy⟩
def ML {env:Env}{e:Expr}(hb:attributeBase e f env (eval e env)=eval e env)
  (h:wpAny (model prog w) A (eval e env) (fun o s₁=>wpAny (model prog w) A (getAttr o f true) Q E s₁) E s):wpAny (model prog w) A (eval (.Attribute e f pos) env) Q E s:=
 Attribute_any_ h (by rw[arm_eval_Attribute,hb])
end
def Vo (K:AAD) (ta:TE) (f:Str):TE:=fun σ H Q=>ta σ H fun x H1=>∃a C dx fs v,x= .ref a/\H1 a=some (.ins C dx fs)/\AN K C/\gf K C f/\fs.lookup f=some v/\Q v H1
def ZT (K:AAD) (ta tv:TE) (f:Str):TS:=fun D σ H=>tv σ H fun y H1=>ta σ H1 fun x H2=>∃a C dx fs,x= .ref a/\H2 a=some (.ins C dx fs)/\AN K C/\gf K C f/\fs.length<1000/\
 D.nx σ (upd H2 a (.ins C dx (nP f y fs)))
section
variable {X:Cx}{o e value:Expr}{f:Str}{pos pos':Pos}{ta tv:TE}
def uJ (he:PE X e ta) (hb:attributeBase e f X.env (eval e X.env)=eval e X.env):PE X (.Attribute e f pos) (Vo X.K ta f):=by
 intro pins s σ H Q I h;refine ML hb (fE (he pins s σ H _ I h) fun u s1 hh=>?_);obtain⟨x,H1,I1,rx,a,C,dx,fs,v,ex,ea,c,n,l,q⟩:=hh;subst ex;obtain rfl:u=Value.ref a:=rx;exact D3 I1 ea c n l fun u' s2 I2 ru=>⟨v,H1,I2,ru,q⟩
def AO (ha:PE X o ta) (hv:PE X value tv) (hs:swapsWith value (some (.Attribute o f pos')) pos.line X.env=pure false):PS X (.Assign [.Attribute o f pos'] value pos) (ZT X.K ta tv f):=by
 intro pins s σ H D I h;refine plainObj_wpAny_Assign_Attribute (fE (hv pins s σ H _ I h) fun u s1 ⟨y,H1,I1,ry,q⟩=>fE (ha pins s1 σ H1 _ I1 q) fun ov s2 hh=>?_) hs;obtain⟨x,H2,I2,rx,a,C,dx,fs,ex,ea,c,n,l,q2⟩:=hh;subst ex;obtain rfl:ov=Value.ref a:=rx;exact D5 I2 ea c n l ry fun s3 I3=>⟨σ,_,I3,q2⟩
end
structure gD (k:Nat) (A:Around):Prop where
 hd:A.handled=none
 dp:A.depth+3*k+5<recursionLimit
 un:A.units+16*k+200<cLine
 gd:A.guards=some []
def gD.mono {j:Nat}(r:gD k A) (h:j<=k):gD j A:=⟨r.hd,by have:=r.dp;lia,by have:=r.un;lia,r.gd⟩
def gD.deeper {k:Nat}{A:Around}(r:gD (k+1) A) (env:Env):gD k (A.deeper env):=
 ⟨r.hd,by have:=r.dp;show A.depth+1+3*k+5<_;lia,by have:=r.un;show A.units+3+16*k+200<_;lia,r.gd⟩
def D6 :(A.under (.builtin "type.__call__" ⟨.ref C::us,kw⟩)).depth=A.depth+1:=by
 first|rfl|simp[Around.under,Code.weight,Code.isCreation,Code.isGuard,Code.isCaller,Code.frames,Code.isFrame,guardIds]
def D7 :(A.under (.builtin "type.__call__" ⟨.ref C::us,kw⟩)).units=A.units+1:=by
 first|rfl|simp[Around.under,Code.cUnits,Code.frames,Code.isFrame]
def gD.make (r:gD (k+1) A) (C:Addr) (us:AAL) (kw:List (Str×Value)):gD k (A.under (.builtin "type.__call__" ⟨.ref C::us,kw⟩)):=
 ⟨r.hd,by have:=r.dp;rw[D6];lia,by have:=r.un;rw[D7];lia,r.gd⟩
def gD.depth {k:Nat}{A:Around}(r:gD k A):A.depth<recursionLimit:=by have:=r.dp;lia
def gD.units {k:Nat}{A:Around}(r:gD k A):A.units+64<cLine:=by have:=r.un;lia
def QJ:TA:=fun _ H Q=>Q [] H
def Pc (ta:TE) (tr:TA):TA:=fun σ H Q=>ta σ H fun x H1=>tr σ H1 fun xs H2=>Q (x::xs) H2
section
variable {X:Cx}{e:Expr}{es:BBC}{te:TE}{t:TA}{pos:Pos}
def kO:PA X [] QJ:=fun _ _ _ _ H Q I h=>afa ⟨[],H,I,.nil,h⟩
def gF (ha:PE X e te) (hr:PA X es t) (hs:starEach (e::es) X.env=(false,eval e X.env)::starEach es X.env:=by rfl):PA X (e::es) (Pc te t):=by
 intro pos pins s σ H Q I h;rw[hs];show wpAny _ _ (spliced ((false,eval e X.env)::backTo pos (starEach es X.env))) _ _ s;refine adT (fE (ha pins s σ H _ I h) fun u s1 hh=>?_);obtain⟨x,H1,I1,r1,q1⟩:=hh;exact fE (hr pos pins s1 σ H1 _ I1 q1) fun us s2 ⟨xs,H2,I2,r2,q2⟩=>⟨x::xs,H2,I2,.cons r1 r2,q2⟩
def ZU (t:TA):TE:=fun σ H Q=>t σ H fun xs H1=>xs.length<=sizeLine/\∀p,H1 p=none->Q (.ref p) (upd H1 p (.tup xs))
def ZV (t:TA):TE:=fun σ H Q=>t σ H fun xs H1=>xs.length<=sizeLine/\∀p,H1 p=none->Q (.ref p) (upd H1 p (.lst xs))
def QK {x1}(h:PA X es t):PE X (.Tuple es x1 pos) (ZU t):=by
 intro pins s σ H Q I hq;refine wpAny_Tuple_spliced (fE (h pos pins s σ H _ I hq) fun us s1 ⟨xs,H1,I1,r,z,q⟩=>⟨by rw[<-r.length];exact z,?_⟩);have hf:H1 s1.heap.objs.size=none:=I1.hok.fresh (aam _);refine⟨.ref s1.heap.objs.size,upd H1 s1.heap.objs.size (.tup xs),I1.laid (t':=s1.toks) (fun b u e=>aai _ e) (aam _) ?_,rfl,q _ hf⟩;exact⟨z,us,r,⟨_,aaF _ rfl,rfl,_,rfl⟩⟩
def Jw (h:PA X es t):PE X (.List es pos) (ZV t):=by
 intro pins s σ H Q I hq;refine wpAny_List_spliced (fE (h pos pins s σ H _ I hq) fun us s1 ⟨xs,H1,I1,r,z,q⟩=>⟨by rw[<-r.length];exact z,?_⟩);have hf:H1 s1.heap.objs.size=none:=I1.hok.fresh (aam _);refine⟨.ref s1.heap.objs.size,upd H1 s1.heap.objs.size (.lst xs),I1.laid (t':=s1.toks) (fun b u e=>aai _ e) (aam _) ?_,rfl,q _ hf⟩;exact⟨z,us,0,r,aaF _ rfl⟩
end
abbrev Sp:=List V->Hp->VK->XK->Prop
abbrev IM:=BBF->Hp->Shared->XK->Value->Shared->Prop
structure D8 (P:Program) (w:World) (K:AAD) (mg:AAF) (base:Heap) (A:Around) (outer:BBF) (s:Shared) (H:Hp):Prop where
 frames:A.frames=some outer
 mod:Mod K mg base
 bs:∀b o,base.get? b=some o->s.heap.get? b=some o/\H b=none
 GZ:base.objs.size<=s.heap.objs.size
 sU:s.heap.FunFrames base outer
 MB:∀b∈frs outer,H b=none
 hok:pB P w H s.heap
 bare:AllBare s.gens
def CE (outer:BBF) (P:Program) (w:World) (H:Hp) (s:Shared) (Q:VK) (u:Value) (s':Shared):Prop:=
 ∃v H',s'.os=s.os/\AllBare s'.gens/\Un (frs outer) [] H H' s.heap s'.heap/\pB P w H' s'.heap/\RelV v u/\Q v H'
def CR (CX:IM) (outer:BBF) (P:Program) (w:World) (H:Hp) (s:Shared) (Q:VK) (E:XK) (r:Result) (s':Shared):Prop:=
 match r with
 |.ok (.ret u)=>CE outer P w H s Q u s'
 |.ok _=>False
 |.error e=>CX outer H s E e s'
structure kP (P:Program) (w:World) (K:AAD) (mg:AAF) (base:Heap) (CX:IM) (k:Nat) (f:Addr) (fd:FuncData) (ps:BBB) (sp:Sp):Prop where
 len:∀vs H Q E,sp vs H Q E->vs.length=ps.length
 run:∀(A:Around) (outer:BBF) (s:Shared) (H:Hp) (args:Args) (us:AAL) (vs:List V) (Q:VK) (E:XK),gD k A->D8 P w K mg base A outer s H->BindsTo s fd args (ps.zip us)->Vals vs us->sp vs H Q E->
  codeAny (model P w) A (.call (.ref f) args) (CR CX outer P w H s Q E) s
def kP.mono {P:Program}{w:World}{K:AAD}{mg:AAF}{base:Heap}{CX:IM}{j k:Nat}{f:Addr}{fd:FuncData}{ps:BBB}{sp:Sp}(F:kP P w K mg base CX j f fd ps sp) (h:j<=k):
  kP P w K mg base CX k f fd ps sp:=⟨F.len,fun A outer s H args us vs Q E hr=>F.run A outer s H args us vs Q E (hr.mono h)⟩
def D8.make {s:Shared}(e:D8 P w K mg base A outer s H) (C:Addr) (us:AAL) (kw:List (Str×Value)):
  D8 P w K mg base (A.under (.builtin "type.__call__" ⟨.ref C::us,kw⟩)) outer s H:=⟨by first|exact e.frames|(simpa[Around.under,Code.envs,Code.isFrame,pushEnvs] using e.frames),e.mod,e.bs,e.GZ,e.sU,e.MB,e.hok,e.bare⟩
section
variable {X:Cx}{pins:AAG}{σ:St}{H:Hp}{s s':Shared}
def Inv.Vp (I:Inv X pins σ H s):D8 X.prog X.w X.K X.mg X.base X.A X.stack s H:=
 ⟨I.ok.frames,I.ok.mod,I.bs,abl I.ok.GZ I.sz,I.stack,I.AH,I.hok,I.bare⟩
def Inv.after {Q:VK}(I:Inv X pins σ H s) (h:CE X.stack X.prog X.w H s Q u s'):EP X pins σ Q u s':=by
 obtain⟨v,H',os,bare,un,hok,r,q⟩:=h;obtain⟨hh,g,d,t,os'⟩:=s';obtain rfl:os'=s.os:=os;exact⟨v,H',I.call (h':=hh) (g':=g) (d':=d) (t':=t) (ch:=[]) un hok bare (fun b z=>absurd z (by simp)),r,q⟩
end
def Vq (sp:Sp) (AQ:List V) (E:XK) (t:TA):TE:=fun σ H Q=>t σ H fun vs H1=>sp (vs++AQ) H1 Q E
def Vr (C:Addr) (m:Str) (sp:Sp) (AQ:List V) (E:XK) (ta:TE) (t:TA):TE:=fun σ H Q=>ta σ H fun x H1=>∃a dx fs,x= .ref a/\H1 a=some (.ins C dx fs)/\fs.lookup m=none/\
 t σ H1 fun vs H2=>sp (x::(vs++AQ)) H2 Q E
def Vs (C:Addr) (sp:Sp) (AQ:List V) (E:XK) (t:TA):TE:=fun σ H Q=>t σ H fun vs H1=>∀x dx,H1 x=none->H1 dx=none->dx≠x->
 sp (.ref x::(vs++AQ)) (upd (upd H1 dx (.own x)) x (.ins C dx [])) (fun v H2=>v= .cJ/\Q (.ref x) H2) E
def Binds (K:AAD) (fd:FuncData) (ps:BBB) (ds:AAL):Prop:=
 ∀(s:Shared) (us:AAL),K.In s.heap->(us++ds).length=ps.length->BindsTo s fd ⟨us,[]⟩ (ps.zip (us++ds))
def Binds.all {fd:FuncData}(h:∀us:BBG,us.length=ps.length->bindArgs fd ⟨us,[]⟩=pure (ps.zip us)):Binds K fd ps []:=fun s us _ hl=>by
 rw[adB] at hl ⊢;exact .of_eq (h us hl)
def Passes (CX:IM) (X:Cx) (E:XK):Prop:=∀(pins:AAG) (σ:St) (H:Hp) (s:Shared) (e:Value) (s':Shared),Inv X pins σ H s->CX X.stack H s E e s'->X.xe e s'
section
variable {X:Cx}{CX:IM}{k:Nat}{f C:Addr}{fd:FuncData}{ps:BBB}{sp:Sp}{AQ:List V}{ds:AAL}{E:XK}{x m:Str}{p pos apos:Pos}{e o:Expr}{es:BBC}{ta:TE}{t:TA}
def Jx {s:Shared}{Q:VK}(F:kP X.prog X.w X.K X.mg X.base CX k f fd ps sp) (hr:gD k X.A) (hb:Binds X.K fd ps ds) (hd:Vals AQ ds) (hx:Passes CX X E)
  (I:Inv X pins σ H s) (r:Vals vs us) (h:sp (vs++AQ) H Q E):wpAny (model X.prog X.w) X.A (call (.ref f) us) (EP X pins σ Q) X.xe s:=by
 have r2:Vals (vs++AQ) (us++ds):=r.append hd;have hl:(us++ds).length=ps.length:=by rw[<-r2.length];exact F.len _ _ _ _ h
 refine wpAny_call (adH (F.run X.A X.stack s H ⟨us,[]⟩ (us++ds) (vs++AQ) Q E hr I.Vp (hb s us I.AG hl) r2 h) fun r s' hq=>?_);cases r with
 |error e=>exact hx pins σ H s e s' I hq
 |ok fl=>
  cases fl with
  |ret u=>exact I.after hq
  |next=>exact False.elim hq
  |brk=>exact False.elim hq
  |cont=>exact False.elim hq
def E2 (F:kP X.prog X.w X.K X.mg X.base CX k f fd ps sp) (hr:gD k X.A) (hg:Gl X x) (hm:X.mg x=some (.ref f)) (hk:PySem.W.keepIn X.K (.ref f)=true) (hb:Binds X.K fd ps ds) (hd:Vals AQ ds) (hx:Passes CX X E)
  (ha:PA X (e::es) t) (hdb:BBT x:=by decide) (he:starEach (e::es) X.env=(false,eval e X.env)::starEach es X.env:=by rfl) (hpl:(backTo pos (starEach es X.env)).any (·.1)=false:=by rfl):
  PE X (.Call (.Name x p) (e::es) [] pos) (Vq sp AQ E t):=by
 intro pins s σ H Q I h;refine ac5 (AJ I hg hm ?_ hdb);refine PySem.W.callWith_K (h₀:=X.base) I.ok.mod.X7 hk (fE (ha pos pins s σ H _ I h) fun us s1 ⟨vs,H1,I1,r,q⟩=>⟨I1.AG,?_⟩) he hpl;exact Jx F hr hb hd hx I1 r q
def MM (he:PE X o ta) (c:AN X.K C) (hm:Meth X.K C m f) (F:kP X.prog X.w X.K X.mg X.base CX k f fd ps sp) (hr:gD k X.A) (hb:Binds X.K fd ps ds) (hd:Vals AQ ds) (hx:Passes CX X E) (ha:PA X (e::es) t)
  (hst:starEach (e::es) X.env=(false,eval e X.env)::starEach es X.env:=by rfl) (hpl:(backTo pos (starEach es X.env)).any (·.1)=false:=by rfl)
  (ht:eval (.Call (.Attribute o m apos) (e::es) [] pos) X.env=(do
   let ov <-eval o X.env
   standAt apos.atName
   let(f,first) <-holding [ov] (getMethod ov m pl)
   callWith pos f first (backTo pos (starEach (e::es) X.env)) (backToKw pos (keywordEach [] X.env))):=by rfl):
  PE X (.Call (.Attribute o m apos) (e::es) [] pos) (Vr C m sp AQ E ta t):=by
 intro pins s σ H Q I h;refine PySem.W.methodCall_KW (pl:=pl) (fE (he pins s σ H _ I h) fun u s1 hh=>?_) ht;obtain⟨x,H1,I1,rx,a,dx,fs,ex,ea,l,q⟩:=hh;subst ex;obtain rfl:u=Value.ref a:=rx;refine D4 I1 ea c hm l ?_;refine PySem.W.callWith_K (first:=[.ref a]) (h₀:=X.base) I.ok.mod.X7 hm.kp (fE (ha pos pins s1 σ H1 _ I1 q) fun us s2 ⟨vs,H2,I2,r,q2⟩=>⟨I2.AG,?_⟩) hst hpl;exact Jx (us:=.ref a::us) (vs:=.ref a::vs) F hr hb hd hx I2 (.cons rfl r) q2
structure Mk (K:AAD) (C f:Addr):Prop where
 makes:PySem.W.makesIn K C=true
 init:PySem.W.findIn K (.ref C) "__init__" =some (some (.ref f))
 fn:PySem.W.isFn K (.ref f)=true
 kp:PySem.W.keepIn K (.ref C)=true
def Jy {s:Shared}{Q:VK}(M:Mk X.K C f) (F:kP X.prog X.w X.K X.mg X.base CX k f fd ps sp) (hr:gD (k+1) X.A) (hb:Binds X.K fd ps ds) (hd:Vals AQ ds)
  (hx:Passes CX X E) (I:Inv X pins σ H s) (r:Vals vs us)
  (h:∀x dx,H x=none->H dx=none->dx≠x->sp (.ref x::(vs++AQ)) (upd (upd H dx (.own x)) x (.ins C dx [])) (fun v H2=>v= .cJ/\Q (.ref x) H2) E):
  wpAny (model X.prog X.w) X.A (call (.ref C) us) (EP X pins σ Q) X.xe s:=by
 have hq:=h (s.heap.objs.size+1) s.heap.objs.size (I.hok.fresh (adF _)) (I.hok.fresh (aam _)) (abu (adK _));have I2:=Inv.made (C:=C) I;have r2:Vals (V.ref (s.heap.objs.size+1)::(vs++AQ)) (Value.ref (s.heap.objs.size+1)::(us++ds)):=.cons rfl (r.append hd);have hl:(Value.ref (s.heap.objs.size+1)::us++ds).length=ps.length:=by
  have e:=r2.length;rw[F.len _ _ _ _ hq] at e;exact e.symm
 refine wpAny_call (Jv (f:=f) I.AG M.makes M.init (afh.mp M.fn) (adH (F.run _ X.stack _ _ ⟨Value.ref (s.heap.objs.size+1)::us,[]⟩ (Value.ref (s.heap.objs.size+1)::(us++ds)) _ _ E (hr.make C us [])
  (I2.Vp.make C us []) (hb _ (Value.ref (s.heap.objs.size+1)::us) I2.AG hl) r2 hq) fun r s' hq'=>?_))
 cases r with
 |error e=>exact hx pins σ _ _ e s' I2 hq'
 |ok fl=>
  cases fl with
  |ret u=>
   obtain⟨v,H',I3,rv,ev,q3⟩:=I2.after hq';subst ev;exact⟨rv,⟨V.ref (s.heap.objs.size+1),H',I3,rfl,q3⟩⟩
  |next=>exact False.elim hq'
  |brk=>exact False.elim hq'
  |cont=>exact False.elim hq'
def Jz (M:Mk X.K C f) (F:kP X.prog X.w X.K X.mg X.base CX k f fd ps sp) (hr:gD (k+1) X.A) (hg:Gl X x) (hm:X.mg x=some (.ref C)) (hb:Binds X.K fd ps ds) (hd:Vals AQ ds) (hx:Passes CX X E)
  (hdb:BBT x:=by decide):PE X (.Call (.Name x p) [] [] pos) (Vs C sp AQ E QJ):=by
 intro pins s σ H Q I h;refine ac5 (AJ I hg hm ?_ hdb);exact PySem.W.callWith_K0 I.AG M.kp (Jy (us:=[]) M F hr hb hd hx I .nil h)
end
structure bR (N P:BBB) (sc:Scope):Prop where
 kind:sc.kind= .function
 co:sc.isCoroutine=false
 gen:sc.isGenerator=false
 nd:N.Nodup
 pre:N.take P.length=P
 par:∀x∈P,sc.names.lookup x=some .local\/sc.names.lookup x=some .cell
 QL:∀y∈sc.names,y.2≠.free
theorem zO {kindOf:Str->Option NameKind}{x:Str}:∀{binds:List (Str×Value)}{m:AAF},(∀v,(x,v)∉binds)->bindL kindOf binds m x=m x
 |[],_,_=>rfl
 |(n,v)::r,m,h=>by
  unfold bindL;rw[zO fun w hw=>h w (aaj _ hw)];split
  ·have:x≠n:=by rintro rfl;exact h v aal
   simp[this]
  ·rfl
theorem zP {kindOf:Str->Option NameKind}{x:Str}:∀{binds:List (Str×Value)}{m:AAF},(∀v,(x,v)∉binds)->bindC kindOf binds m x=m x
 |[],_,_=>rfl
 |(n,v)::r,m,h=>by
  unfold bindC;rw[zP fun w hw=>h w (aaj _ hw)];split
  ·rfl
  ·have:x≠n:=by rintro rfl;exact h v aal
   simp[this]
theorem zQ {kindOf:Str->Option NameKind}{x:Str}{v:Value}:∀{P:BBB}{vs:AAL}{i:Nat}{m:AAF},P.Nodup->P[i]? =some x->vs[i]? =some v->kindOf x=some .local->
  bindL kindOf (P.zip vs) m x=some v
 |[],_,_,_,_,h,_,_=>by simp at h
 |_::_,[],_,_,_,_,h,_=>by simp at h
 |p::P,w::vs,0,m,nd,h1,h2,hk=>by
  simp at h1 h2;subst h1;subst h2;show bindL kindOf ((p,w)::P.zip vs) m p=_;unfold bindL;rw[zO fun v hv=>(acQ.mp nd).1 (afy hv).1,if_pos hk];simp
 |p::P,w::vs,i+1,m,nd,h1,h2,hk=>by
  show bindL kindOf ((p,w)::P.zip vs) m x=_;unfold bindL;exact zQ (i:=i) (acQ.mp nd).2 (by simpa using h1) (by simpa using h2) hk
theorem zR {kindOf:Str->Option NameKind}{x:Str}{v:Value}:∀{P:BBB}{vs:AAL}{i:Nat}{m:AAF},P.Nodup->P[i]? =some x->vs[i]? =some v->kindOf x≠some .local->
  bindC kindOf (P.zip vs) m x=some v
 |[],_,_,_,_,h,_,_=>by simp at h
 |_::_,[],_,_,_,_,h,_=>by simp at h
 |p::P,w::vs,0,m,nd,h1,h2,hk=>by
  simp at h1 h2;subst h1;subst h2;show bindC kindOf ((p,w)::P.zip vs) m p=_;unfold bindC;rw[zP fun v hv=>(acQ.mp nd).1 (afy hv).1,if_neg hk];simp
 |p::P,w::vs,i+1,m,nd,h1,h2,hk=>by
  show bindC kindOf ((p,w)::P.zip vs) m x=_;unfold bindC;exact zR (i:=i) (acQ.mp nd).2 (by simpa using h1) (by simpa using h2) hk
noncomputable def start (N:BBB) (vs:List V):St:=vs.map some++List.replicate (N.length-vs.length) none
noncomputable def wW (CX:IM) (P:Program) (w:World) (K:AAD) (mg:AAF) (base:Heap) (N:BBB) (qual:Str) (scope:Scope) (f:Addr) (cd:Value) (A:Around) (outer:BBF) (s:Shared) (H:Hp) (E:XK):Cx where
 prog:=P
 w:=w
 K:=K
 mg:=mg
 base:=base
 A:=A.deeper (envOfC qual scope s.heap.objs.size f cd)
 N:=N
 s₀:=s
 H₀:=H
 env:=envOfC qual scope s.heap.objs.size f cd
 outer:=outer
 stack:=envOfC qual scope s.heap.objs.size f cd::outer
 ex:=[]
 calm:=true
 fn:=fun _=>true
 pn:=[]
 xe:=fun e s'=>wpAny (model P w) (A.deeper (envOfC qual scope s.heap.objs.size f cd)) (leaving (envOfC qual scope s.heap.objs.size f cd) e) (fun _ s''=>CX outer H s E e s'') (fun e' s''=>CX outer H s E e' s'') s'
def Cp {sc:Scope}{n:Nat}(h:sc.names.lookup x=some .cell):∃c,(cellsFrom n sc.names []).lookup x=some c:=by
 have q:=PySem.W.cellsFrom_some sc.names n [] (.inl h);exact Option.isSome_iff_exists.mp q
def G8 {CX:IM}{f:Addr}{cd:Value}{s s1:Shared}{E:XK}
  (S:bR N ps scope) (hd:A.handled=none) (e0:D8 P w K mg base A outer s H) (hl:vs.length=ps.length) (r:Vals vs us)
  (x:InCallC s s.heap.objs.size (bindL (envOfC qual scope s.heap.objs.size f cd).kindOf (ps.zip us) fun _=>none) (cellsFrom (s.heap.objs.size+1) scope.names []) (bindC (envOfC qual scope s.heap.objs.size f cd).kindOf (ps.zip us) fun _=>none) s1):
  Inv (wW CX P w K mg base N qual scope f cd A outer s H E) [] (start N vs) H s1:=by
 have hpl:ps.length<=N.length:=by have:=congrArg List.length S.pre;rw[ab9] at this;lia
 obtain⟨h1,tk,rfl,hk⟩:=x.done;have Vt:∀b:Addr,b∉(wW CX P w K mg base N qual scope f cd A outer s H E).ex:=fun b z=>absurd (show b∈([]:BBE) from z) (by simp);refine⟨⟨e0.mod,S.kind,rfl,rfl,aam _,fun y z c h1 h2=>?_,fun y hy=>?_,fun y c _ h=>?_,fun _=>hd,Around.frames_deeper e0.frames,.inr ⟨rfl,rfl⟩,fun b z=>absurd z (Vt b),e0.bs,e0.GZ,fun b _ _=>Vt b,fun b z=>absurd z (Vt b),e0.sU,e0.MB⟩,
  rfl,e0.bare,Un.kept hk,⟨_,x.toInCall.ns,fun i y v h1 h2 h3=>?_⟩,fun y c h=>⟨_,x.cell y c h⟩,e0.hok.fresh (aam _),fun y c h=>?_,fun p hp=>absurd (show p∈([]:AAG) from hp) (by simp),e0.hok.kept hk,?_⟩
 ·exact name_of_addr x.apart (acp h1) (acp h2)
 ·have hy:scope.names.lookup y=some .cell\/scope.names.lookup y=some .free:=hy;rcases hy with hy|hy
  ·exact Cp hy
  ·exact absurd rfl (S.QL _ (acp hy))
 ·exact adg (x.above y c (acp h))
 ·have hi:i<vs.length:=by
   unfold start at h2;by_cases hi:i<vs.length
   ·exact hi
   ·rw[ado (by simpa using hi)] at h2;rw[ady] at h2;split at h2<;>cases h2
  have ha:vs[i]? =some v:=by
   unfold start at h2;rw[ab1 (by simpa using hi),abx] at h2;cases e:vs[i]? with
   |none=>rw[e] at h2;cases h2
   |some a=>rw[e] at h2;cases h2;rfl
  obtain⟨u,hu,rv⟩:=r.get ha;have hp:ps[i]? =some y:=by
   rw[<-S.pre,afm (by lia)];exact h1
  have ndP:ps.Nodup:=by rw[<-S.pre];exact S.nd.sublist (List.take_sublist _ _)
  refine⟨u,rv,?_⟩;rcases S.par y (abK hp) with k|k
  ·exact .inl ⟨k,zQ ndP hp hu k⟩
  ·obtain⟨c,e⟩:=Cp (n:=s.heap.objs.size+1) k;refine .inr ⟨.inl k,c,e,?_⟩;have q:=x.cell y c e;rw[zR ndP hp hu (by show scope.names.lookup y≠_;rw[k];decide)] at q;exact q
 ·exact e0.hok.fresh (adg (x.above y c (acp h)))
 ·unfold start;show _=N.length;rw[aan,aah,List.length_replicate];lia
def Vu {CX:IM}{f:Addr}{name:Str}{params:Arguments}{dV kV doc pm cdv ct oc:Value}{an od:BBN}
  {osl:Array (BBP)}{sp:Sp}(lk:K.lookup f=some ⟨oc,od,.func (PySem.W.fnOf name qual params body scope dV kV doc pm an cdv ct),osl⟩) (hcd:PySem.W.codeIn K cdv qual=true) (S:bR N ps scope)
  (len:∀vs H Q E,sp vs H Q E->vs.length=ps.length)
  (hbody:∀(A:Around) (outer:BBF) (s:Shared) (H:Hp) (vs:List V) (Q:VK) (E:XK),gD k (A.deeper (envOfC qual scope s.heap.objs.size f cdv))->sp vs H Q E->
   ∃t,zh (wW CX P w K mg base N qual scope f cdv A outer s H E) body t/\t {nx:=fun _ H'=>Q .cJ H',rt:=Q} (start N vs) H):
  kP P w K mg base CX (k+1) f (PySem.W.fnOf name qual params body scope dV kV doc pm an cdv ct) ps sp:=by
 refine⟨len,fun A outer s H args us vs Q E hr e0 hb r Pd=>?_⟩;have hl:=len _ _ _ _ Pd;have KX:K.In s.heap:=e0.mod.X7.keeps fun b o e=>(e0.bs b o e).1;have lim:s.heap.NoLimit:=e0.mod.nolimit.keeps fun b o e=>(e0.bs b o e).1;have hkind:∀y∈ps.zip us,scope.names.lookup y.1=some .local\/(scope.names.lookup y.1=some .cell/\((cellsFrom (s.heap.objs.size+1) scope.names []).lookup y.1).isSome=true):=fun⟨n,v⟩ hy=>by
  rcases S.par n (afy hy).1 with q|q
  ·exact .inl q
  ·exact .inr ⟨q,PySem.W.cellsFrom_some _ _ _ (.inl q)⟩
 refine codeAny_call_function hr.depth (KX _ _ lk) rfl S.co S.gen rfl (PySem.W.codeRec_of KX hcd) (hb _ _ _ _ ?_);refine wpAny_newFunctionEnv_cells S.kind hkind fun env he s1 x=>?_;subst he;refine⟨lim.keeps x.toInCall.keep,codeAny_func ?_⟩;obtain⟨t,ht,hq⟩:=hbody A outer s H vs Q E (hr.deeper _) Pd;have I:Inv (wW CX P w K mg base N qual scope f cdv A outer s H E) [] (start N vs) H s1:=G8 S hr.hd e0 hl r x;refine acf (ht [] s1 (start N vs) H _ I hq) (fun fl s' hs=>?_) fun e s' hs=>hs;have fin:∀{σ':St}{H':Hp}{v:V}{u:Value},Inv (wW CX P w K mg base N qual scope f cdv A outer s H E) [] σ' H' s'->RelV v u->Q v H'->CE outer P w H s Q u s':=
  fun {σ' H' v u} J rv q=>⟨v,H',J.os,J.bare,J.base,J.hok,rv,q⟩
 cases fl with
 |ret u=>
  obtain⟨v,σ',H',J,rv,q⟩:=hs;exact fin J rv q
 |next=>
  obtain⟨σ',H',J,q⟩:=hs;exact fin (v:=V.cJ) (u:=Value.none) J rfl q
 |brk=>
  obtain⟨_,_,_,q⟩:=hs;exact False.elim q
 |cont=>
  obtain⟨_,_,_,q⟩:=hs;exact False.elim q
section
variable {X:Cx}{x:Str}{p pos:Pos}{e:Expr}{es:BBC}{t:TA}{id T:String}{r:List V->Hp->VK->Prop}
def tCB (r:List V->Hp->VK->Prop) (t:TA):TE:=fun σ H Q=>t σ H fun vs H1=>r vs H1 Q
def jL (hc:gT X (.builtin id) r) (hg:Gl X x) (hm:X.mg x=none) (hv:bootBuiltins x=some (.builtin id)) (ha:PA X (e::es) t) (hn:x≠"__name__":=by decide) (hdb:BBT x:=by decide)
  (he:starEach (e::es) X.env=(false,eval e X.env)::starEach es X.env:=by rfl) (hpl:(backTo pos (starEach es X.env)).any (·.1)=false:=by rfl):PE X (.Call (.Name x p) (e::es) [] pos) (tCB r t):=by
 intro pins s σ H Q I h;refine ac5 (nO I hg hm hv ?_ hn hdb);exact aeA (fE (ha pos pins s σ H _ I h) fun us s1 ⟨vs,H1,I1,r1,q1⟩=>hc pins s1 σ H1 vs us Q I1 r1 q1) he hpl
def zS (hc:gT X (.type T) r) (hg:Gl X x) (hm:X.mg x=none) (hv:bootBuiltins x=some (.type T)) (ha:PA X (e::es) t) (hn:x≠"__name__":=by decide) (hdb:BBT x:=by decide)
  (he:starEach (e::es) X.env=(false,eval e X.env)::starEach es X.env:=by rfl) (hpl:(backTo pos (starEach es X.env)).any (·.1)=false:=by rfl):PE X (.Call (.Name x p) (e::es) [] pos) (tCB r t):=by
 intro pins s σ H Q I h;refine ac5 (nO I hg hm hv ?_ hn hdb);exact adh (fE (ha pos pins s σ H _ I h) fun us s1 ⟨vs,H1,I1,r1,q1⟩=>hc pins s1 σ H1 vs us Q I1 r1 q1) he hpl
end
section
variable {κ:Type} [DecidableEq κ]
noncomputable def qW (kvs:List (κ×V)) (k:κ):Option V:=(kvs.find? fun kv=>decide (kv.1=k)).map (·.2)
noncomputable def putK (kvs:List (κ×V)) (k:κ) (v:V):List (κ×V):=
 if(kvs.any fun kv=>decide (kv.1=k))=true then kvs.map (fun kv=>if kv.1=k then(kv.1,v) else kv) else kvs++[(k,v)]
def sW {p:κ×V}{r:List (κ×V)}{k:κ}(e:p.1=k):qW (p::r) k=some p.2:=by simp[qW,abY,e]
def pF {p:κ×V}{r:List (κ×V)}{k:κ}(e:¬p.1=k):qW (p::r) k=qW r k:=by simp[qW,abY,e]
theorem Cq (k:κ):∀kvs:List (κ×V),(kvs.any fun kv=>decide (kv.1=k))=(qW kvs k).isSome
 |[]=>rfl
 |p::r=>by
  rw[acX];by_cases e:p.1=k
  ·simp only[sW e,ab8 e,Bool.true_or,Option.isSome_some]
  ·rw[pF e,abU e,ae1];exact Cq k r
def pG (kvs:List (κ×V)) (k:κ) (v:V):(putK kvs k v).length<=kvs.length+1:=by
 unfold putK;split
 ·rw[aah];lia
 ·rw[aan,abn,adC];lia
def nN.uK {o:Option V}{u:BBP}(r:nN o u):o.isSome=u.isSome:=by
 cases o with
 |none=>cases u with
  |none=>rfl
  |some _=>exact(show False from r).elim
 |some _=>cases u with
  |none=>exact(show False from r).elim
  |some _=>rfl
def nN.getD {o:Option V}{u:BBP}{d:V}{d':Value}(r:nN o u) (rd:RelV d d'):RelV (o.getD d) (u.getD d'):=by
 cases o with
 |none=>cases u with
  |none=>exact rd
  |some _=>exact(show False from r).elim
 |some _=>cases u with
  |none=>exact(show False from r).elim
  |some _=>exact r
def KV.val {kvs:List (κ×V)}{vs:List (κ×Value)}(r:KV kvs vs) (k:κ):nN (qW kvs k) (valueAt vs k):=by
 unfold KV at r
 induction r with
 |nil=>exact True.intro
 |@cons p q ps qs h t ih=>
  obtain⟨h1,h2⟩:=h;by_cases e:p.1=k
  ·have e':q.1=k:=h1.symm.trans e;have b:valueAt (q::qs) k=some q.2:=by simp[valueAt,abY,e']
   rw[sW e,b];exact h2
  ·have e':¬q.1=k:=fun z=>e (h1.trans z);have b:valueAt (q::qs) k=valueAt qs k:=by simp[valueAt,abY,e']
   rw[pF e,b];exact ih
def KV.any {kvs:List (κ×V)}{vs:List (κ×Value)}(r:KV kvs vs) (k:κ):(kvs.any fun kv=>decide (kv.1=k))=vs.any fun kv=>decide (kv.1=k):=by
 unfold KV at r
 induction r with
 |nil=>rfl
 |cons h t ih=>rw[acX,acX,ih,h.1]
def KV.repl {kvs:List (κ×V)}{vs:List (κ×Value)}(r:KV kvs vs) (k:κ)(ry:RelV y u):
  KV (kvs.map fun kv=>if kv.1=k then(kv.1,y) else kv) (vs.map fun kv=>if kv.1=k then(kv.1,u) else kv):=by
 unfold KV at r ⊢
 induction r with
 |nil=>exact .nil
 |@cons p q ps qs h t ih=>
  rw[abX,abX];refine .cons ?_ ih;obtain⟨h1,h2⟩:=h;by_cases e:p.1=k
  ·rw[if_pos e,if_pos (h1.symm.trans e)];exact⟨h1,ry⟩
  ·rw[if_neg e,if_neg (fun z=>e (h1.trans z))];exact⟨h1,h2⟩
def KV.put {kvs:List (κ×V)}{vs:List (κ×Value)}(r:KV kvs vs) (k:κ)(ry:RelV y u):KV (putK kvs k y) (stored vs k u):=by
 unfold putK stored;rw[r.any k];by_cases e:(vs.any fun kv=>decide (kv.1=k))=true
 ·rw[if_pos e,if_pos e];exact r.repl k ry
 ·rw[if_neg e,if_neg e];exact Paired.snoc r ⟨rfl,ry⟩
def KV.length {kvs:List (κ×V)}{vs:List (κ×Value)}(r:KV kvs vs):kvs.length=vs.length:=aeY r
end
def Pe {k:Key}(r:RelV (kV k) u):(iG P w).is k u=true:=by
 cases k with
 |inl i=>obtain⟨t,e⟩:=(show ∃t,u=Value.int i t from r);subst e;exact Cg P w i t
 |inr x=>obtain⟨t,e⟩:=(show ∃t,u=Value.str x t from r);subst e;exact Ci P w x t
abbrev KT (H:Hp):List (D×V)->List (D×Addr×Value)->Prop:=Paired fun p q=>p.1=q.1/\Kd H q.2.1 p.1/\RelV p.2 q.2.2
def KT.val (r:KT H kvs xs) (k:D):nN (qW kvs k) ((atKey xs k).map (·.2)):=by
 induction r with
 |nil=>exact True.intro
 |@cons p q ps qs h t ih=>
  obtain⟨h1,_,h2⟩:=h;by_cases e:p.1=k
  ·have e':q.1=k:=h1.symm.trans e;have b:atKey (q::qs) k=some q.2:=by simp[atKey,abY,e']
   rw[sW e,b];exact h2
  ·have e':¬q.1=k:=fun z=>e (h1.trans z);have b:atKey (q::qs) k=atKey qs k:=by simp[atKey,abY,e']
   rw[pF e,b];exact ih
def KT.repl (r:KT H kvs xs) (k:D)(ry:RelV y u):
  KT H (kvs.map fun kv=>if kv.1=k then(kv.1,y) else kv) (xs.map (putAt k u)):=by
 induction r with
 |nil=>exact .nil
 |@cons p q ps qs h t ih=>
  rw[abX,abX];refine .cons ?_ ih;obtain⟨h1,h2,h3⟩:=h;unfold putAt;by_cases e:p.1=k
  ·rw[if_pos e,if_pos (h1.symm.trans e)];exact⟨h1,h2,ry⟩
  ·rw[if_neg e,if_neg (fun z=>e (h1.trans z))];exact⟨h1,h2,h3⟩
def KT.put (r:KT H kvs xs) (k:D){b:Addr}(hb:Kd H b k) (ry:RelV y u):
  KT H (putK kvs k y) (storedH xs k b u):=by
 have e:(kvs.any fun kv=>decide (kv.1=k))=(atKey xs k).isSome:=by
  rw[Cq,(r.val k).uK,Option.isSome_map]
 unfold putK storedH;rw[e];by_cases q:(atKey xs k).isSome=true
 ·rw[if_pos q,if_pos q];exact r.repl k ry
 ·rw[if_neg q,if_neg q];exact Paired.snoc r ⟨rfl,hb,ry⟩
def KT.keeps (r:KT H kvs xs) (ht:∀b ys,H b=some (.tup ys)->H' b=some (.tup ys)):KT H' kvs xs:=
 Paired.Cj r fun _ _ z=>⟨z.1,z.2.1.tups ht,z.2.2⟩
section
variable {P:Program}{w:World}{H:Hp}{h:Heap}{a:Addr}
def Pf {u:HO}(ok:pB P w H h) (e:Rd H a u):fG P w H h a u:=e.ok ok
def wX {kvs:List (Key×V)}(ok:pB P w H h) (e:Rd H a (.dK kvs)):kvs.length<=sizeLine/\(a == sysModules)=false/\∃vs,KV kvs vs/\h.DictOf (iG P w) a vs:=
 show fG P w H h a (.dK kvs) from Pf ok e
def JC {kvs:List (Key×V)}(ok:pB P w H h) (e:H a=some (.dK kvs)):kvs.length<=sizeLine/\(a == sysModules)=false/\∃vs,KV kvs vs/\h.DictOf (iG P w) a vs:=wX ok (.inl e)
mutual
theorem JF (ok:pB P w H h):∀(d:D){n:Nat}{v:V}{u:Value},Rep H v d->RelV v u->gZ n d=true->yW h u (nf d)
 |.cJ,n,_,_,_,_,k=>by simp[gZ] at k
 |.lst _,n,_,_,_,_,k=>by simp[gZ] at k
 |.bl b,n,_,_,r,q,k=>by cases r;cases q;exact .bool b
 |.int i,n,_,_,r,q,k=>by cases r;obtain⟨t,rfl⟩:=q;exact .int i t
 |.str i,n,_,_,r,q,k=>by cases r;obtain⟨t,rfl⟩:=q;exact .str i t
 |.tup ds,n,_,_,r,q,k=>by
  cases n with
  |zero=>simp[gZ] at k
  |succ n=>
   cases r with
   |@tup a vs _ e rs=>
    cases q;obtain⟨_,its,rv,o,h1,h2,m,h3⟩:=(show fG P w H h a (.tup vs) from ok a _ e)
    exact .tup ⟨o,h1,h2,m,h3⟩ (E3 ok ds rs rv k)
theorem E3 (ok:pB P w H h):∀(ds:List D){n:Nat}{vs:List V}{us:AAL},bM H vs ds->Vals vs us->ds.all (gZ n)=true->lI h us (O5 ds)
 |[],n,_,_,r,q,k=>by cases r;cases q;exact .nil
 |d::ds,n,_,_,r,q,k=>by
  rw[acW,abw] at k;cases r with
  |cons r1 r2=>
   cases q with
   |cons q1 q2=>exact .cons (JF ok d r1 q1 k.1) (E3 ok ds r2 q2 k.2)
end
def wY {ks:D}(ok:pB P w H h) (e:Kd H a ks):(kM P w).is h ks a:=by
 obtain⟨d,r,hk,rfl⟩:=e;exact⟨JF ok d r rfl hk,EW d 8 hk⟩
def zT (ok:pB P w H h) (e:Rd H a (.dT kvs)):kvs.length<=sizeLine/\(a == sysModules)=false/\
  ∃xs,KT H kvs xs/\h.DictOfH (kM P w) a xs:=by
 obtain⟨z,y,xs,r,o,es,ep,h1,h2,h3,h4,h5⟩:=(show fG P w H h a (.dT kvs) from Pf ok e)
 refine⟨z,y,xs,r,o,es,ep,h1,h2,h3,h4,fun x hx=>?_,h5⟩;have all:∀{l:List (D×V)}{m:List (D×Addr×Value)},KT H l m->∀x∈m,(kM P w).is h x.1 x.2.1:=by
  intro l m q
  induction q with
  |nil=>intro x hx;exact nomatch hx
  |@cons p q ps qs hq t ih=>
   intro x hx;rcases aav.mp hx with e|hx
   ·subst e;exact wY ok (by rw[<-hq.1];exact hq.2.1)
   ·exact ih x hx
 exact all r x hx
def Pg (ok:pB P w H h) (e:H a=some (.dT kvs)):kvs.length<=sizeLine/\(a == sysModules)=false/\
  ∃xs,KT H kvs xs/\h.DictOfH (kM P w) a xs:=zT ok (.inl e)
end
def QM (y:V) (k:Key):Prop:=y=kV k\/∃b,y= .bl b/\k= .inl (bI b)
def QM.is {P:Program}{w:World}{y:V}{k:Key}{u:Value}(e:QM y k) (r:RelV y u):(iG P w).is k u=true:=by
 rcases e with rfl|⟨b,rfl,rfl⟩
 ·exact Pe r
 ·cases r;exact ab8 rfl
def lJ (H:Hp) (a:Addr) (y:V) (r:Option V):Prop:=
 (∃kvs k,Rd H a (.dK kvs)/\QM y k/\r=qW kvs k)\/∃kvs k b,Rd H a (.dT kvs)/\y= .ref b/\Kd H b k/\r=qW kvs k
def AR (H:Hp) (a:Addr) (y v:V) (H':Hp):Prop:=
 (∃kvs k,H a=some (.dK kvs)/\QM y k/\kvs.length<sizeLine/\H'=upd H a (.dK (putK kvs k v)))\/
 ∃kvs k b,H a=some (.dT kvs)/\y= .ref b/\Kd H b k/\kvs.length<sizeLine/\H'=upd H a (.dT (putK kvs k v))
def lJ.t {b:Addr}{k:D}(e:H a=some (.dT kvs)) (eb:Kd H b k):lJ H a (.ref b) (qW kvs k):=.inr ⟨kvs,k,b,.inl e,rfl,eb,rfl⟩
def AR.t {b:Addr}{k:D}{v:V}(e:H a=some (.dT kvs)) (eb:Kd H b k) (hl:kvs.length<sizeLine):
  AR H a (.ref b) v (upd H a (.dT (putK kvs k v))):=.inr ⟨kvs,k,b,e,rfl,eb,hl,rfl⟩
section
variable {X:Cx}{pins:AAG}{σ:St}{H:Hp}{s:Shared}{a:Addr}{y v:V}{u r:Value}{o:Option V}{A:Around}{E:AAE}
def Inv.big (I:Inv X pins σ H s):sysModules<s.heap.objs.size:=by
 have h:mainGlobals<s.heap.objs.size:=(I.mod.glob.keeps I.bk).lt;exact aeB (by decide) h
def G9 (hu:A.units+20<cLine) (I:Inv X pins σ H s) (g:lJ H a y (some v)) (ry:RelV y u) (h:∀w' s',Inv X pins σ H s'->RelV v w'->Q w' s'):
  wpAny (model X.prog X.w) A (getItem (.ref a) u) Q E s:=by
 rcases g with⟨kvs,k,e,ey,l⟩|⟨kvs,k,b,e,ey,eb,l⟩
 ·obtain⟨z,hd,vs,rel,dd⟩:=wX I.hok e;obtain⟨w',hw,rw'⟩:=nN.some_of (v:=v) (o:=valueAt vs k) (by rw[l];exact rel.val k);exact wpAny_getItem_of (ey.is ry) dd.mapOf hw (h w' _ (I.tok _) rw')
 ·subst ey;cases(show u=Value.ref b from ry);obtain⟨z,hd,xs,rel,dd⟩:=zT I.hok e;obtain⟨w',hw,rw'⟩:=nN.some_of (v:=v) (o:=(atKey xs k).map (·.2)) (by rw[l];exact rel.val k);obtain⟨p,hp,hp2⟩:=Option.map_eq_some_iff.mp hw;refine wpAny_getItem_heap (jE hu) (wY I.hok eb) dd hp ?_;rw[hp2];exact h w' _ (I.tok _) rw'
def MN (hu:A.units+20<cLine) (I:Inv X pins σ H s) (g:lJ H a y o) (ry:RelV y u) (h:∀s',Inv X pins σ H s'->Q (.bool (!o.isSome)) s'):
  wpAny (model X.prog X.w) A (compareOp .NotIn u (.ref a)) Q E s:=by
 rcases g with⟨kvs,k,e,ey,l⟩|⟨kvs,k,b,e,ey,eb,l⟩
 ·obtain⟨z,hd,vs,rel,dd⟩:=wX I.hok e;refine wpAny_notIn_of (ey.is ry) hd dd.mapOf ?_;rw[<-(rel.val k).uK,<-l];exact h _ (I.tok _)
 ·subst ey;cases(show u=Value.ref b from ry);obtain⟨z,hd,xs,rel,dd⟩:=zT I.hok e;refine wpAny_notIn_heap (jE hu) (wY I.hok eb) hd dd ?_;have q:=(rel.val k).uK;rw[Option.isSome_map] at q;rw[<-q,<-l];exact h _ (I.tok _)
def AU {h':Heap}{ob:HO}(I:Inv X pins σ H s) (mu:US (H a)) (hs:Heap.SameBut a s.heap h') (he:∃q,h'.get? a=some q) (new:fG X.prog X.w (upd H a ob) h' a ob):
  Inv X pins σ (upd H a ob) {s with heap:=h',toks:=t'}:=
 I.write (x:=a) (e:=a) mu (.inl rfl) (fun b q hb z=>(hs.2 b hb).trans z) he new
def JH {h':Heap}{kvs:List (Key×V)}{vs:List (Key×Value)}(z:kvs.length<=sizeLine) (hd:(a == sysModules)=false) (rel:KV kvs vs) (dd:h'.DictOf (iG P w) a vs):
  fG P w H' h' a (.dK kvs):=⟨z,hd,vs,rel,dd⟩
def Hf {Q:Unit->Shared->Prop}(hu:A.units+20<cLine) (I:Inv X pins σ H s) (g:AR H a y v H') (ry:RelV y u) (rv:RelV v r) (h:∀s',Inv X pins σ H' s'->Q () s'):
  wpAny (model X.prog X.w) A (setItem (.ref a) u r) Q E s:=by
 rcases g with⟨kvs,k,e,ey,l,eH⟩|⟨kvs,k,b,e,ey,eb,l,eH⟩
 ·subst eH;obtain⟨z,hd,vs,rel,dd⟩:=JC I.hok e;have hz:vs.length<=sizeLine:=by rw[<-rel.length];exact z
  have hl:(putK kvs k v).length<=sizeLine:=by have:=pG kvs k v;lia
  refine wpAny_setItem_pairs (hsz:=hz) (ey.is ry) dd fun h' MP hs=>h _ ?_;have he:∃q,h'.get? a=some q:=let⟨q,_,_,hq,_⟩:=MP;⟨q,hq⟩
  exact AU I (by rw[e];exact True.intro) hs he (JH hl hd (rel.put k rv) MP)
 ·subst ey eH;cases(show u=Value.ref b from ry);obtain⟨z,hd,xs,rel,dd⟩:=Pg I.hok e;have hz:xs.length<=sizeLine:=by rw[<-aeY rel];exact z
  have hl:(putK kvs k v).length<=sizeLine:=by have:=pG kvs k v;lia
  refine wpAny_setItem_heap (hsz:=hz) (jE hu) (wY I.hok eb) dd fun h' MP hs=>h _ ?_;obtain⟨q,es,ep,hq,h2,h3,h4,_,h5⟩:=MP;refine AU I (by rw[e];exact True.intro) hs ⟨q,hq⟩ ⟨hl,hd,_,(rel.put k eb rv).keeps fun c ys ec=>?_,q,es,ep,hq,h2,h3,h4,h5⟩;rw[bh (UR ec e (fun z=>nomatch z))];exact ec
end
section
variable {X:Cx}{pins:AAG}{σ:St}{H:Hp}{s:Shared}{a:Addr}{kvs:List (Key×V)}{A:Around}{E:AAE}
def Vv (I:Inv X pins σ H s) (e:Rd H a (.dK kvs)) (h:∀t s',Inv X pins σ H s'->Q (.int kvs.length t) s'):wpAny (model X.prog X.w) A (call (.builtin "len") [.ref a]) Q E s:=by
 obtain⟨z,hd,vs,rel,dd⟩:=wX I.hok e;refine call_len_dict hd dd (by rw[<-rel.length];rw[acO] at z;lia) ?_;rw[<-rel.length];exact h _ _ (I.tok _)
end
def Vw (i:Expr):Prop:=∀ov iv,subscripted i false ov iv=operate [ov,iv] (getItem ov iv)
def MQ {s:Shared}{env:Env}{value slice:Expr}{T id:String}
  (hl:typeLookup (.type T) "__getitem__" =pure (some (.builtin id))) (hs:Vw slice)
  (h:wpAny (model prog w) A (eval value env) (fun o s₁=>wpAny (model prog w) A (eval slice env) (fun i s₂=>s₂.TypeIs o T/\wpAny (model prog w) A (getItem o i) Q E s₂) E s₁) E s):
  wpAny (model prog w) A (eval (.Subscript value slice pos) env) Q E s:=by
 refine Subscript_ (acf h (fun o s₁ h₁=>acf h₁ (fun i s₂ h₂=>?_) fun _ _ x=>x) fun _ _ x=>x);obtain⟨hT,h₂⟩:=h₂;unfold subscriptTail;refine aaa ?_;rw[getitemInPython_of_ne hT.not_modules];refine aaa (wpAny_specialOf hT hl ?_);have fin:wpAny (model prog w) A (subscripted slice false o i) (fun r s₃=>wpAny (model prog w) A (letTemporaryGo value o r >>= fun _=>pure r) Q E s₃) E s₂:=by
  rw[hs o i];exact wpAny_operating (acf h₂ (fun r s₃ h₃=>aaa (wpAny_letTemporaryGo (wpAny_pure h₃))) fun _ _ x=>x)
 first
  |exact wpAny_pure (aaa fin)
  |exact aaa (wpAny_pure (aaa fin))
  |exact aaa fin
def Cr {s:Shared}{o:Option V}(I:Inv X pins σ H s) (g:lJ H a y o):s.TypeIs (.ref a) "dict":=by
 rcases g with⟨kvs,k,e,_,_⟩|⟨kvs,k,b,e,_,_,_⟩
 ·obtain⟨_,_,vs,_,dd⟩:=wX I.hok e;exact dd.typeIs
 ·obtain⟨_,_,xs,_,dd⟩:=zT I.hok e;exact dd.typeIs
def Vx (td ty:TE):TE:=fun σ H Q=>td σ H fun x H1=>ty σ H1 fun y H2=>∃a v,x= .ref a/\lJ H2 a y (some v)/\Q v H2
def E4 (ty td:TE):TE:=fun σ H Q=>ty σ H fun y H1=>td σ H1 fun x H2=>∃a o,x= .ref a/\lJ H2 a y o/\Q (.bl (!o.isSome)) H2
def Vy (td ty tv:TE):TS:=fun D σ H=>tv σ H fun v H1=>td σ H1 fun x H2=>ty σ H2 fun y H3=>∃a H4,x= .ref a/\AR H3 a y v H4/\D.nx σ H4
section
variable {X:Cx}{o i value:Expr}{pos pos':Pos}{td ty tv:TE}
def wH (hu:X.A.units+20<cLine) (ho:PE X o td) (hi:PE X i ty) (hs:Vw i):PE X (.Subscript o i pos) (Vx td ty):=by
 intro pins s σ H Q I h;refine MQ PySem.F.slot_dict_getitem.lookup hs (fE (ho pins s σ H _ I h) fun u s1 ⟨x,H1,I1,rx,q1⟩=>fE (hi pins s1 σ H1 _ I1 q1) fun iv s2 hh=>?_);obtain⟨y,H2,I2,ry,a,v,ex,g,q2⟩:=hh;subst ex;obtain rfl:u=Value.ref a:=rx;exact⟨Cr I2 g,G9 hu I2 g ry fun w' s3 I3 rw'=>⟨v,H2,I3,rw',q2⟩⟩
def Hg (hu:X.A.units+20<cLine) (hi:PE X i ty) (ho:PE X o td):PC X .NotIn i o (E4 ty td):=by
 intro pins s σ H Q I h;refine fE (hi pins s σ H _ I h) fun iv s1 ⟨y,H1,I1,ry,q1⟩=>fE (ho pins s1 σ H1 _ I1 q1) fun u s2 hh=>?_;obtain⟨x,H2,I2,rx,a,ov,ex,g,q2⟩:=hh;subst ex;obtain rfl:u=Value.ref a:=rx;exact MN hu I2 g ry fun s3 I3=>⟨.bl (!ov.isSome),H2,I3,rfl,q2⟩
def AV (hu:X.A.units+20<cLine) (ho:PE X o td) (hi:PE X i ty) (hv:PE X value tv) (hs:swapsWith value (some (.Subscript o i pos')) pos.line X.env=pure false):
  PS X (.Assign [.Subscript o i pos'] value pos) (Vy td ty tv):=by
 intro pins s σ H D I h;refine wpAny_Assign_Subscript (fE (hv pins s σ H _ I h) fun r s1 ⟨v,H1,I1,rv,q1⟩=>fE (ho pins s1 σ H1 _ I1 q1) fun u s2 ⟨x,H2,I2,rx,q2⟩=>fE (hi pins s2 σ H2 _ I2 q2) fun iv s3 hh=>?_) hs;obtain⟨y,H3,I3,ry,a,H4,ex,g,q3⟩:=hh;subst ex;obtain rfl:u=Value.ref a:=rx;exact Hf hu I3 g ry rv fun s4 I4=>⟨σ,H4,I4,q3⟩
end
def Cs (h:Heap) (hb:sysModules<h.objs.size):fG P w H (h.push {cls:=.type "dict",data:=.dict #[]}) h.objs.size (.dK []):=
 ⟨abH _,acR.mpr (acj (abu hb)),[],.nil,Heap.DictOf.new h⟩
def JJ (h:Heap) (hb:sysModules<h.objs.size):fG P w H (h.push {cls:=.type "dict",data:=.dict #[]}) h.objs.size (.dT []):=
 ⟨abH _,acR.mpr (acj (abu hb)),[],.nil,_,#[],0,aaF _ rfl,⟨rfl,rfl,rfl⟩,rfl,rfl,ad2⟩
def QN:TE:=fun _ H Q=>∀p,H p=none->Q (.ref p) (upd H p (.dK []))
def QO:TE:=fun _ H Q=>∀p,H p=none->Q (.ref p) (upd H p (.dT []))
section
variable {X:Cx}{pos:Pos}
def JK:PE X (.Dict [] [] pos) QN:=fun pins s σ H Q I h=>
 wpAny_Dict_empty ⟨.ref s.heap.objs.size,_,I.laid (a:=s.heap.objs.size) (o:=.dK []) (t':=s.toks) (fun _ _ q=>aai _ q) (aam _) (Cs s.heap I.big),rfl,h _ (I.hok.fresh (aam _))⟩
def JL:PE X (.Dict [] [] pos) QO:=fun pins s σ H Q I h=>
 wpAny_Dict_empty ⟨.ref s.heap.objs.size,_,I.laid (a:=s.heap.objs.size) (o:=.dT []) (t':=s.toks) (fun _ _ q=>aai _ q) (aam _) (JJ s.heap I.big),rfl,h _ (I.hok.fresh (aam _))⟩
end
def wZ:List (TE×TE)->St->Hp->(List (V×V)->Hp->Prop)->Prop
 |[],_,H,Q=>Q [] H
 |(tk,tv)::r,σ,H,Q=>tk σ H fun x H1=>tv σ H1 fun y H2=>wZ r σ H2 fun ps H3=>Q ((x,y)::ps) H3
abbrev VV:List (V×V)->List (Value×Value)->Prop:=Paired fun p q=>RelV p.1 q.1/\RelV p.2 q.2
def Vz (X:Cx) (pos:Pos) (keys:List (BBL)) (values:BBC) (MR:List (TE×TE)):Prop:=
 ∀(pins:AAG) (s:Shared) (σ:St) (H:Hp) (Q:List (V×V)->Hp->Prop),Inv X pins σ H s->wZ MR σ H Q->
  wpAny (model X.prog X.w) X.A (evalPairs (pairTrees keys values X.env pos)) (fun vs s'=>∃ps H',Inv X pins σ H' s'/\VV ps vs/\Q ps H') X.xe s
def MS :Vz X pos [] [] []:=fun pins s σ H Q I h=>pairTrees_nil_walk ⟨[],H,I,.nil,h⟩
def JM {k v:Expr}{ks:List (BBL)}{vs:BBC}{tk tv:TE}(hk:PE X k tk) (hv:PE X v tv) (hr:Vz X pos ks vs MR):
  Vz X pos (some k::ks) (v::vs) ((tk,tv)::MR):=fun pins s σ H Q I h=>
 pairTrees_cons_walk (fE (hk pins s σ H _ I h) fun u s1 ⟨x,H1,I1,rx,q1⟩=>fE (hv pins s1 σ H1 _ I1 q1) fun w2 s2 ⟨y,H2,I2,ry,q2⟩=>
  fE (hr pins s2 σ H2 _ I2 q2) fun ws s3 ⟨ps,H3,I3,rel,q3⟩=>⟨(x,y)::ps,H3,I3,.cons ⟨rx,ry⟩ rel,q3⟩)
def pH (kvs more:List (Key×V)):List (Key×V):=more.foldl (fun acc kv=>putK acc kv.1 kv.2) kvs
def KV.merge:∀{more:List (Key×V)}{rs:List (Key×Value)}{kvs:List (Key×V)}{vs:List (Key×Value)},KV more rs->KV kvs vs->KV (pH kvs more) (merged vs rs):=by
 intro more rs kvs vs r;unfold KV at r
 induction r generalizing kvs vs with
 |nil=>intro q;exact q
 |@cons p q ps qs h t ih=>
  intro r0;have e:KV (putK kvs p.1 p.2) (stored vs q.1 q.2):=by
   have:=r0.put p.1 h.2;rw[<-h.1];exact this
  exact ih e
theorem qY:∀(more kvs:List (Key×V)),(pH kvs more).length<=kvs.length+more.length
 |[],kvs=>by show kvs.length<=kvs.length+0;lia
 |p::r,kvs=>by
  have h1:=qY r (putK kvs p.1 p.2);have h2:=pG kvs p.1 p.2;show(pH (putK kvs p.1 p.2) r).length<=_;rw[abn];lia
theorem w4 {P:Program}{w:World}:∀{kvs:List (Key×V)}{ws:List (Value×Value)},VV (kvs.map fun kv=>(kV kv.1,kv.2)) ws->∃rs,Carries (iG P w) ws rs/\KV kvs rs
 |[],_,r=>by rw[List.map_nil] at r;cases r;exact⟨[],True.intro,.nil⟩
 |p::kvs,_,r=>by
  rw[abX] at r;cases r with
  |@cons a b as bs h t=>
   obtain⟨rs,c,q⟩:=w4 (P:=P) (w:=w) t;obtain⟨b1,b2⟩:=b;exact⟨(p.1,b2)::rs,⟨Pe h.1,rfl,c⟩,.cons ⟨rfl,h.2⟩ q⟩
def VA (MR:List (TE×TE)):TE:=fun σ H Q=>∀p,H p=none->wZ MR σ (upd H p (.dK [])) fun ps H2=>H2 p=some (.dK [])/\∃kvs:List (Key×V),ps=kvs.map (fun kv=>(kV kv.1,kv.2))/\kvs.length<=15/\Q (.ref p) (upd H2 p (.dK (pH [] kvs)))
def MT {keys:List (BBL)}{values:BBC}(h:Vz X pos keys values MR) (hall:keys.all (·.isSome)=true) (hl:keys.length=values.length) (h0:keys≠[])
  (ZW:keys.length<=15):PE X (.Dict keys values pos) (VA MR):=by
 intro pins s σ H Q I q;have hn:=I.hok.fresh (aam s.heap.objs.size);have I1:=I.laid (a:=s.heap.objs.size) (o:=.dK []) (h':=s.heap.push {cls:=.type "dict",data:=.dict #[]}) (t':=s.toks) (fun _ _ q=>aai _ q) (aam _) (Cs s.heap I.big);refine wpAny_Dict_walk (knd:=iG X.prog X.w) hall hl h0 ZW (fE (h pins _ σ _ _ I1 (q _ hn)) fun ws s2 hh=>?_);obtain⟨ps,H2,I2,rel,e,kvs,ep,lk,q2⟩:=hh;subst ep;obtain⟨rs,c,rk⟩:=w4 (P:=X.prog) (w:=X.w) rel;obtain⟨z,hd,Yc,r0,dd⟩:=JC I2.hok e;cases r0;refine⟨rs,c,dd,fun h' MP hs=>⟨.ref s.heap.objs.size,_,?_,rfl,q2⟩⟩;have hz:(pH [] kvs).length<=sizeLine:=by
  have h1:=qY kvs [];rw[adC] at h1;rw[acO];lia
 have he:∃q,h'.get? s.heap.objs.size=some q:=let⟨q,_,_,hq,_⟩:=MP;⟨q,hq⟩
 exact AU I2 (by rw[e];exact True.intro) hs he (JH hz hd (rk.merge .nil) MP)
structure M2 (X:Cx) (o:Expr) (m:Str) (apos:Pos) (e f:Expr) (cpos:Pos):Prop where
 base:attributeBase o m X.env (eval o X.env)=eval o X.env
 few:((backTo cpos (starEach [e,f] X.env)).all (fun x=>!x.1) && (backToKw cpos (keywordEach [] X.env)).all (fun x=>x.1.isSome)
  && decide (([e,f]:BBC).length+([]:BBI).length+(if([]:BBI).isEmpty then 0 else 1)<30))=true
 line:(apos.endLine == cpos.line)=true
 trees:backTo cpos (starEach [e,f] X.env)=[(false,eval e X.env),(false,eval f X.env)]
def ZX (H:Hp) (a:Addr):Prop:=(∃kvs,Rd H a (.dK kvs))\/∃kvs,Rd H a (.dT kvs)
def QS {s:Shared}(I:Inv X pins σ H s) (d:ZX H a):
  s.TypeIs (.ref a) "dict"/\(∀b,Value.ref a= .ref b->∃ob,s.heap.get? b=some ob/\ob.dict=none)/\(a == sysModules)=false:=by
 rcases d with⟨kvs,e⟩|⟨kvs,e⟩
 ·obtain⟨_,hd,vs,_,dd⟩:=wX I.hok e;refine⟨dd.typeIs,fun b q=>?_,hd⟩;cases q;obtain⟨ob,_,_,h1,h2,_⟩:=dd;exact⟨ob,h1,h2.2.1⟩
 ·obtain⟨_,hd,xs,_,dd⟩:=zT I.hok e;refine⟨dd.typeIs,fun b q=>?_,hd⟩;cases q;obtain⟨ob,_,_,h1,h2,_⟩:=dd;exact⟨ob,h1,h2.2.1⟩
section
variable {X:Cx}{pins:AAG}{σ:St}{H:Hp}{s:Shared}{a:Addr}{y d:V}{u r:Value}{o:Option V}{A:Around}{E:AAE}
def QT (hu:A.units+20<cLine) (I:Inv X pins σ H s) (g:lJ H a y o) (ry:RelV y u) (rd:RelV d r) (h:∀w' s',Inv X pins σ H s'->RelV (o.getD d) w'->Q w' s'):
  wpAny (model X.prog X.w) A (call (.builtin "dict.get") [.ref a,u,r]) Q E s:=by
 rcases g with⟨kvs,k,e,ey,l⟩|⟨kvs,k,b,e,ey,eb,l⟩
 ·obtain⟨z,hd,vs,rel,dd⟩:=wX I.hok e;refine call_meetsIn aem dd.typeIs PySem.F.entry_dict_get (afs _ _ _) (meets_dict_get_default (iG X.prog X.w) a (ey.is ry) hd r) ⟨_,dd.mapOf,h _ _ (I.tok _) ?_⟩;rw[l];exact(rel.val k).getD rd
 ·subst ey;cases(show u=Value.ref b from ry);obtain⟨z,hd,xs,rel,dd⟩:=zT I.hok e;refine call_meetsIn aem dd.typeIs PySem.F.entry_dict_get (afs _ _ _) (meetsH_dict_get_default (kM X.prog X.w) a b hd r) ⟨jE hu,k,xs,wY I.hok eb,dd,h _ _ (I.tok _) ?_⟩;rw[l];exact(rel.val k).getD rd
end
def QU (td ty tx:TE):TE:=fun σ H Q=>td σ H fun x H1=>∃a,x= .ref a/\ZX H1 a/\ty σ H1 fun y H2=>tx σ H2 fun z H3=>∃o,lJ H3 a y o/\Q (o.getD z) H3
section
variable {X:Cx}{o e f:Expr}{apos cpos:Pos}{td ty tx:TE}
def JN (hu:X.A.units+20<cLine) (ho:PE X o td) (he:PE X e ty) (hf:PE X f tx) (m:M2 X o "get" apos e f cpos):PE X (.Call (.Attribute o "get" apos) [e,f] [] cpos) (QU td ty tx):=by
 intro pins s σ H Q I h;refine wpAny_Call_method m.base m.few m.line PySem.F.plainAttrs_dict aem PySem.F.type_dict_get (fE (ho pins s σ H _ I h) fun u s1 hh=>?_);obtain⟨x,H1,I1,rx,a,ex,d,q1⟩:=hh;subst ex;obtain rfl:u=Value.ref a:=rx;obtain⟨t1,t2,_⟩:=QS I1 d;refine⟨t1,t2,?_⟩;rw[m.trees];refine Calls.callWith_builtin rfl (Calls.evalArgs_plain (adT (fE (he pins s1 σ H1 _ I1 q1) fun iv s2 ⟨y,H2,I2,ry,q2⟩=>
  adT (fE (hf pins s2 σ H2 _ I2 q2) fun fv s3 ⟨z,H3,I3,rz,ov,g,q3⟩=>afa ?_))))
 exact QT hu I3 g ry rz fun w' s4 I4 rw'=>⟨_,H3,I4,rw',q3⟩
end
end L2
namespace HT
open PySem PyProof.Rows
variable {Q:AAE}{lo hi:BBM}
section
open PySem.SeqAt
open PySem.AutoSeq1 (wpAny_loadPart')
open PySem.MeetsSeq PySem.MeetsSeq2 PySem.MeetsSeq3
end
section
variable {prog:Program}{w:World}{A:Around}{E:AAE}{s:Shared}
def MU {t b:Addr}{vs ws:AAL}(ht:IsTup s.heap t vs.toArray) (hb:IsTup s.heap b ws.toArray) (hv:vs≠[])
  (h1:ws=[]->Q (.ref t) s) (h2:ws≠[]->Q (.ref s.heap.objs.size) {s with heap:=s.heap.push {cls:=.type "tuple",data:=.seq (vs++ws).toArray}})
  (hsz:vs.length+ws.length<=sizeLine):wpAny (model prog w) A (binaryOp .Add (.ref t) (.ref b)) Q E s:=by
 obtain⟨⟨cls,dd,data,sl⟩,ho,hc,n,hd⟩:=id ht;obtain⟨⟨ZY,dd2,data2,sl2⟩,ho2,hc2,n2,hd2⟩:=id hb;simp only at hc hd hc2 hd2;subst hc hd hc2 hd2;have e:vs.toArray++ws.toArray=(vs++ws).toArray:=by simp
 by_cases hw:ws=[]
 ·exact concat_meets ⟨_,ho,rfl⟩ ⟨_,ho2,rfl⟩ afn seq_tuple_add aea ad4 (adU _ _)
   (tuple_addW1 t b vs.toArray ws.toArray n n2 dd dd2 sl sl2 (by simpa using hv) (by simp[hw])) ⟨ho,ho2,h1 hw⟩
 ·refine concat_meets ⟨_,ho,rfl⟩ ⟨_,ho2,rfl⟩ afn seq_tuple_add aea ad4 (adU _ _)
   (tuple_addW2 t b vs.toArray ws.toArray n n2 dd dd2 sl sl2 (by simpa using hv) (by simpa using hw) (by rw[aak,aak];exact hsz)) ⟨ho,ho2,?_⟩
  rw[e];exact h2 hw
noncomputable def fZ (n d:Nat):BBM->Nat
 |none=>d
 |some v=>if v<0 then(v+(n:Int)).toNat else min v.toNat n
def Ct (n d:Nat):fZ n d none=d:=rfl
def E5 (n d k:Nat):fZ n d (some (k:Int))=min k n:=by
 show(if(k:Int)<0 then((k:Int)+(n:Int)).toNat else min (k:Int).toNat n)=min k n;rw[if_neg (by lia),afb]
def QV (n d:Nat) (hd:d<=n) (o:BBM):fZ n d o<=n:=by
 cases o with
 |none=>exact hd
 |some v=>
  show(if v<0 then(v+(n:Int)).toNat else min v.toNat n)<=n;by_cases hv:v<0
  ·rw[if_pos hv];lia
  ·rw[if_neg hv];exact Nat.min_le_right _ _
def E6 (v:Int) (n d:Nat):(if v<0 then max (v+(n:Int)) 0 else min v (n:Int))=((fZ n d (some v):Nat):Int):=by
 show(if v<0 then max (v+(n:Int)) 0 else min v (n:Int))=(((if v<0 then(v+(n:Int)).toNat else min v.toNat n):Nat):Int);by_cases hv:v<0
 ·simp only[if_pos hv];lia
 ·simp only[if_neg hv];lia
def D9 (lo hi:BBM) (n:Nat):Builtin.Slice.sliceAdjust lo hi 1 (n:Int)=(((fZ n 0 lo:Nat):Int),((fZ n n hi:Nat):Int)):=by
 have h1:¬((1:Int)<0):=by lia
 unfold Builtin.Slice.sliceAdjust;simp only[h1,adw];refine Prod.ext ?_ ?_
 ·cases lo with
  |none=>rfl
  |some v=>exact E6 v n 0
 ·cases hi with
  |none=>rfl
  |some v=>exact E6 v n n
def Ea (i j:Nat):Builtin.Slice.slicePlaces (i:Int) (j:Int) 1=j-i:=by
 unfold Builtin.Slice.slicePlaces;have h1:(1:Int) > 0:=by lia
 simp only[h1,if_true,Int.ediv_one];split<;>lia
def rN {v:Value}{o:BBM}{Q:BBM->Shared->Prop}(p:IsPart v o) (h:Q o s):wpAny (model prog w) A (Builtin.Slice.slicePartIndex v) Q E s:=by
 cases p with
 |none=>exact aeP h
 |int i t=>exact slicePart_int h
def mR {sl:Addr}{vl vu:Value}{n:Nat}{Q:Int×Int×Nat->Shared->Prop}(hs:s.heap.IsSliceOf sl vl vu .none) (pl:IsPart vl lo) (pu:IsPart vu hi)
  (h:Q (((fZ n 0 lo:Nat):Int),1,fZ n n hi-fZ n 0 lo) s):wpAny (model prog w) A (Builtin.Slice.sliceApplied (.ref sl) (pure (n:Int))) Q E s:=by
 obtain⟨os,hos,hcs,hds⟩:=id hs;unfold Builtin.Slice.sliceApplied Builtin.Slice.sliceFields;refine aaa (aaa (aeb hos hds (x:=vl) rfl (aaa (aeb hos hds (x:=vu) rfl (aaa (aeb hos hds (x:=.none) rfl (wpAny_pure ?_)))))));refine aaa (aeP ?_);show wpAny _ _ (if((1:Int) == 0)=true then _ else _) _ _ s;rw[if_neg (by decide)];refine aaa (rN pl (aaa (rN pu (aaa (wpAny_pure ?_)))));show wpAny _ _ (match Builtin.Slice.sliceAdjust lo hi 1 (n:Int) with|(lo,hi)=>pure (lo,(1:Int),Builtin.Slice.slicePlaces lo hi 1)) _ _ s;rw[D9 lo hi n];show wpAny _ _ (pure (((fZ n 0 lo:Nat):Int),(1:Int),Builtin.Slice.slicePlaces ((fZ n 0 lo:Nat):Int) ((fZ n n hi:Nat):Int) 1)) _ _ s;rw[Ea];exact wpAny_pure h
def JP (xs:AAK) (i k:Nat):((List.range k).filterMap fun(m:Nat)=>xs[((i:Int)+(m:Int)*1).toNat]?).toArray=((xs.toList.drop i).take k).toArray:=by
 have e:(fun(m:Nat)=>xs[((i:Int)+(m:Int)*1).toNat]?)=fun m=>xs[i+m]?:=by
  funext m;have:((i:Int)+(m:Int)*1).toNat=i+m:=by lia
  rw[this]
 rw[e];have:=pick_run xs i k;rw[List.filterMap_map] at this;have e2:((fun x=>xs[x]?) ∘ fun x=>i+x)=fun m=>xs[i+m]?:=rfl;rw[e2] at this;rw[this]
def sX {t sl:Addr}{items:AAK}{vl vu:Value}(ht:IsTup s.heap t items) (hs:s.heap.IsSliceOf sl vl vu .none) (pl:IsPart vl lo) (pu:IsPart vu hi)
  (hw:¬(fZ items.size 0 lo=0/\fZ items.size items.size hi=items.size))
  (h:Q (.ref s.heap.objs.size) {s with heap:=s.heap.push {cls:=.type "tuple",data:=.seq ((items.toList.drop (fZ items.size 0 lo)).take (fZ items.size items.size hi-fZ items.size 0 lo)).toArray}})
  (hsz:items.size<=sizeLine):wpAny (model prog w) A (getItem (.ref t) (.ref sl)) Q E s:=by
 have sY:sizeOk (.seq ((items.toList.drop (fZ items.size 0 lo)).take (fZ items.size items.size hi-fZ items.size 0 lo)).toArray):=by
  show((items.toList.drop (fZ items.size 0 lo)).take (fZ items.size items.size hi-fZ items.size 0 lo)).toArray.size<=sizeLine;rw[aak,ab9,ach,abW];lia
 have hj:fZ items.size items.size hi<=items.size:=QV _ _ (aam _) hi;obtain⟨os,hos,hcs,hds⟩:=id hs;have VB:s.TypeIs (.ref sl) "slice":=⟨os,hos,hcs⟩
 unfold getItem
 try with_reducible refine acm ?_
 first|refine aaa (wpAny_pure ?_)|skip
 refine aaa (afc ht.typeIs (by decide) ?_);refine aaa (acP (name:=Str.ofString "__getitem__") ht.typeIs abT
  (ac4 abT ht.typeIs entry_tuple_getitem ?_ (args_tuple_getitem _ _)))
 show wpAny _ _ (Builtin.Tuple.tupleItemsOf (.ref t) >>= _) _ _ s;refine aaa (tupleItemsOf_ ht ?_);refine aaa (adW VB ?_);rw[if_pos (by decide)];refine aaa (mR hs pl pu ?_);have hno:¬((((fZ items.size 0 lo:Nat):Int) == 0 && (1:Int) == 1 && (fZ items.size items.size hi-fZ items.size 0 lo) == items.size)=true):=by
  intro q;rw[abw,abw] at q;have q1:((fZ items.size 0 lo:Nat):Int)=0:=eq_of_beq q.1.1;have q2:fZ items.size items.size hi-fZ items.size 0 lo=items.size:=eq_of_beq q.2;exact hw ⟨by lia,by lia⟩
 show wpAny _ _ (if(((fZ items.size 0 lo:Nat):Int) == 0 && (1:Int) == 1 && (fZ items.size items.size hi-fZ items.size 0 lo) == items.size)=true then _ else _) _ _ s;rw[if_neg hno,JP]
 first
  |exact aaa (m:=Builtin.Tuple.tupleExact _) (ab5 (wpAny_pure ⟨_,rfl,wpAny_pure h⟩) sY)
  |exact aaa (m:=Builtin.Tuple.tupleExact _) (ab5 (aaa (wpAny_pure (wpAny_pure ⟨_,rfl,wpAny_pure h⟩))) sY)
  |exact aaa (aaa (m:=Builtin.Tuple.tupleExact _) (ab5 (wpAny_pure (wpAny_pure ⟨_,rfl,wpAny_pure h⟩)) sY))
  |exact aaa (aaa (m:=Builtin.Tuple.tupleExact _) (ab5 (wpAny_pure ⟨_,rfl,wpAny_pure h⟩) sY))
end
end HT
namespace L2
open PySem PySem.Spec PyProof.Rows
variable {xs:List V}{n:Nat}{pins:AAG}{its its':AAL}
abbrev TO:=St->Hp->(BBM->Hp->Prop)->Prop
def PO (X:Cx) (e:BBL) (t:TO):Prop:=
 ∀(pins:AAG) (s:Shared) (σ:St) (H:Hp) (Q:BBM->Hp->Prop),Inv X pins σ H s->t σ H Q->
  wpAny (model X.prog X.w) X.A (evalPart e X.env) (fun u s'=>∃o H',Inv X pins σ H' s'/\IsPart u o/\Q o H') X.xe s
def MV:TO:=fun _ H Q=>Q none H
def Ph (t:TE):TO:=fun σ H Q=>t σ H fun x H1=>∃i,x= .int i/\Q (some i) H1
section
variable {X:Cx}{e:Expr}{te:TE}{lo hi:BBL}{tl th:TO}{pos p2:Pos}
def MW:PO X none MV:=by
 intro pins s σ H Q I h;rw[evalPart_none];exact wpAny_pure ⟨none,H,I,.none,h⟩
def E7 (h:PE X e te):PO X (some e) (Ph te):=by
 intro pins s σ H Q I hw;rw[evalPart_some];refine fE (h pins s σ H _ I hw) fun u s1 hh=>?_;obtain⟨x,H1,I1,r1,q1⟩:=hh;obtain⟨i,rfl,q⟩:=q1;obtain⟨t,rfl⟩:=r1;exact⟨some i,H1,I1,.int i t,q⟩
def VC (X:Cx) (r:V->BBM->BBM->Hp->VK->Prop):Prop:=
 ∀(pins:AAG) (s:Shared) (σ:St) (H:Hp) (x:V) (v vl vu:Value) (lo hi:BBM) (sl:Addr) (Q:VK),Inv X pins σ H s->RelV x v->s.heap.IsSliceOf sl vl vu .none->IsPart vl lo->IsPart vu hi->r x lo hi H Q->
  ∃T id,typeLookup (.type T) "__getitem__" =pure (some (.builtin id))/\s.TypeIs v T/\wpAny (model X.prog X.w) X.A (getItem v (.ref sl)) (EP X pins σ Q) X.xe s
def tSl (r:V->BBM->BBM->Hp->VK->Prop) (te:TE) (tl th:TO):TE:=fun σ H Q=>te σ H fun x H1=>tl σ H1 fun l H2=>th σ H2 fun u H3=>r x l u H3 Q
def Cu {r:V->BBM->BBM->Hp->VK->Prop}(hr:VC X r) (he:PE X e te) (hl:PO X lo tl) (hu:PO X hi th):PE X (.Subscript e (.Slice lo hi none p2) pos) (tSl r te tl th):=by
 intro pins s σ H Q I h;refine Subscript_ (fE (he pins s σ H _ I h) fun v s1 hh=>?_);obtain⟨x,H1,I1,r1,q1⟩:=hh;refine wpAny_Slice (fE (hl pins s1 σ H1 _ I1 q1) fun vl s2 ⟨l,H2,I2,pl,q2⟩=>fE (hu pins s2 σ H2 _ I2 q2) fun vu s3 hh=>?_);obtain⟨u,H3,I3,pu,q3⟩:=hh;rw[evalPart_none];refine wpAny_pure ?_;have I4:Inv X pins σ H3 {s3 with heap:=s3.heap.push {cls:=.type "slice",data:=.fields #[vl,vu,.none]}}:=I3.kept (t':=s3.toks) fun b ob q=>aai _ q;obtain⟨T,id,hT,ht,hg⟩:=hr pins {s3 with heap:=s3.heap.push {cls:=.type "slice",data:=.fields #[vl,vu,.none]}} σ H3 x v vl vu l u s3.heap.objs.size Q I4 r1 (Heap.IsSliceOf.new ..) pl pu q3;show wpAny (model X.prog X.w) X.A (subscriptTail e (.Slice lo hi none p2) v (.ref s3.heap.objs.size)) (EP X pins σ Q) X.xe {s3 with heap:=s3.heap.push {cls:=.type "slice",data:=.fields #[vl,vu,.none]}};exact tail_any (ops:=[.ref s3.heap.objs.size,v]) ht hT hg (by with_unfolding_all rfl)
noncomputable def zo (xs:List V) (lo hi:BBM):List V:=(xs.drop (HT.fZ xs.length 0 lo)).take (HT.fZ xs.length xs.length hi-HT.fZ xs.length 0 lo)
def vJ (xs:List V) (lo hi:BBM):(zo xs lo hi).length<=xs.length:=by
 unfold zo;rw[ab9,ach];lia
def ZZ (K:AAD):V->BBM->BBM->Hp->VK->Prop:=fun x lo hi H Q=>∃a xs,x= .ref a/\zL K H a xs/\
 ¬(HT.fZ xs.length 0 lo=0/\HT.fZ xs.length xs.length hi=xs.length)/\∀p,H p=none->Q (.ref p) (upd H p (.tup (zo xs lo hi)))
def QW:VC X (ZZ X.K):=by
 intro pins s σ H x v vl vu lo hi sl Q I rx hs pl pu h;obtain⟨a,xs,rfl,hx,hw,q⟩:=h;cases rx;obtain⟨its,r,ht,hz⟩:=I.tuple hx;have hlen:its.toArray.size=xs.length:=by rw[aak];exact r.length.symm
 refine⟨"tuple",_,abT.lookup,ht.typeIs,?_⟩;refine HT.sX ht hs pl pu (by rw[hlen];exact hw) ?_ (by rw[hlen];exact hz);rw[hlen];refine⟨.ref s.heap.objs.size,_,I.laid (t':=s.toks) (o:=.tup (zo xs lo hi)) (fun b ob q=>aai _ q) (aam _) ?_,rfl,q _ (I.hok.fresh (aam _))⟩;exact⟨abl (vJ xs lo hi) hz,_,(r.drop (HT.fZ xs.length 0 lo)).take (HT.fZ xs.length xs.length hi-HT.fZ xs.length 0 lo),IsTup.new _ _⟩
def VD (K:AAD):R2:=fun x y H Q=>∃a b xs ys,x= .ref a/\y= .ref b/\zL K H a xs/\zL K H b ys/\xs≠[]/\xs.length+ys.length<=sizeLine/\
 (ys=[]->Q (.ref a) H)/\(ys≠[]->∀p,H p=none->Q (.ref p) (upd H p (.tup (xs++ys))))
def Vals.AW {us:AAL}(r:Vals xs us):us=[]↔xs=[]:=by
 cases r with
 |nil=>simp
 |cons _ _=>simp
def MX:uF X (binaryOp .Add) (VD X.K):=by
 intro pins s σ H x y v u Q I rx ry h;obtain⟨a,b,xs,ys,rfl,rfl,ha,hb,hx,hz,q1,q2⟩:=h;cases rx;cases ry;obtain⟨its,r1,p1,_⟩:=I.tuple ha;obtain⟨its2,r2,p2,_⟩:=I.tuple hb;refine HT.MU p1 p2 (fun z=>hx (r1.AW.mp z)) (fun z=>⟨.ref a,H,I,rfl,q1 (r2.AW.mp z)⟩) (fun z=>?_) (by rw[<-r1.length,<-r2.length];exact hz);refine⟨.ref s.heap.objs.size,_,I.laid (t':=s.toks) (o:=.tup (xs++ys)) (fun b ob q=>aai _ q) (aam _) ?_,rfl,q2 (fun w=>z (r2.AW.mpr w)) _ (I.hok.fresh (aam _))⟩;exact⟨by rw[aan];exact hz,_,r1.append r2,IsTup.new _ _⟩
end
noncomputable def Hh (n:Nat) (i:Int):Option Nat:=if 0<=i then(if i<n then some i.toNat else none) else if -(n:Int)<=i then some (i+n).toNat else none
def d7 {α:Type}(xs:List α) (i:Int):Option α:=(Hh xs.length i).bind fun j=>xs[j]?
def E8 {i:Int}{j:Nat}(h:Hh n i=some j):seqIndex? i n=some j/\j<n/\-(n:Int)<=i/\i<n:=by
 unfold Hh at h;by_cases h0:0<=i
 ·rw[if_pos h0] at h;by_cases h1:i<n
  ·rw[if_pos h1] at h;have e:i.toNat=j:=abJ h;exact⟨by rw[seqIndex_of h0 h1,e],by lia,by lia,h1⟩
  ·rw[if_neg h1] at h;cases h
 ·rw[if_neg h0] at h;by_cases h1:-(n:Int)<=i
  ·rw[if_pos h1] at h;have e:(i+n).toNat=j:=abJ h;exact⟨by rw[seqIndex_neg (by lia) h1,e],by lia,h1,by lia⟩
  ·rw[if_neg h1] at h;cases h
def AX {α:Type}{xs:List α}{i:Int}{v:α}(h:d7 xs i=some v):∃j,seqIndex? i xs.length=some j/\xs[j]? =some v/\j<xs.length/\-(xs.length:Int)<=i/\i<xs.length:=by
 unfold d7 at h;cases e:Hh xs.length i with
 |none=>rw[e] at h;cases h
 |some j=>
  rw[e] at h;obtain⟨h1,h2,h3,h4⟩:=E8 e;exact⟨j,h1,h,h2,h3,h4⟩
def qI (b:Expr):Prop:=∀o i,subscripted b false o i=operate [o,i] (getItem o i)
def JQ (X:Cx) (r:R2):Prop:=
 ∀(value slice:Expr) (pins:AAG) (s:Shared) (σ:St) (H:Hp) (x y:V) (v u:Value) (Q:VK),Inv X pins σ H s->RelV x v->RelV y u->r x y H Q->
  subscripted slice false v u=operate [v,u] (getItem v u)->wpAny (model X.prog X.w) X.A (subscriptTail value slice v u) (EP X pins σ Q) X.xe s
def Yd (X:Cx) (id:String) (r:V->List V->Hp->VK->Prop):Prop:=
 ∀(pins:AAG) (s:Shared) (σ:St) (H:Hp) (x:V) (xs:List V) (v:Value) (us:AAL) (Q:VK),Inv X pins σ H s->RelV x v->Vals xs us->r x xs H Q->
  wpAny (model X.prog X.w) X.A (call (.builtin id) (v::us)) (EP X pins σ Q) X.xe s
section
variable {X:Cx}{a b:Expr}{ta tb:TE}{pos:Pos}
def JQ.or {r r':R2}(h:JQ X r) (h':JQ X r'):JQ X (fun x y H Q=>r x y H Q\/r' x y H Q):=by
 intro value slice pins s σ H x y v u Q I rx ry q hs;rcases q with q|q
 ·exact h value slice pins s σ H x y v u Q I rx ry q hs
 ·exact h' value slice pins s σ H x y v u Q I rx ry q hs
def E9 {r:R2}(hr:JQ X r) (ha:PE X a ta) (hb:PE X b tb) (hs:qI b):PE X (.Subscript a b pos) (Pb r ta tb):=by
 intro pins s σ H Q I h;exact Subscript_ (Qy ha hb I h fun v u s2 x y H2 I2 rx ry q=>hr a b pins s2 σ H2 x y v u Q I2 rx ry q (hs _ _))
def VE (K:AAD):R2:=fun x y H Q=>∃p xs i v,x= .ref p/\y= .int i/\mQ K H p xs/\d7 xs i=some v/\Q v H
def VF (K:AAD):R2:=fun x y H Q=>∃p xs i v,x= .ref p/\y= .int i/\zL K H p xs/\d7 xs i=some v/\Q v H
def VG:R2:=fun x y H Q=>∃z i c,x= .str z/\y= .int i/\z.length<=sizeLine/\d7 z.cps.toList i=some c/\Q (.str ⟨#[c]⟩) H
def Fb:JQ X (VE X.K):=by
 intro value slice pins s σ H x y v u Q I rx ry h hs;obtain⟨p,xs,i,z,rfl,rfl,hq,he,q⟩:=h;cases rx;obtain⟨t,rfl⟩:=ry;obtain⟨its,r,pl,hz⟩:=I.list hq;obtain⟨j,h1,h2,h3,h4,h5⟩:=AX he;obtain⟨w,ew,rw'⟩:=r.get h2;have hl:=r.length;have hn:=uH;have fin:EP X pins σ Q w s:=⟨z,H,I,rw',q⟩
 by_cases h0:0<=i
 ·have hj:i.toNat=j:=by
   rw[seqIndex_of h0 h5] at h1;exact abJ h1
  exact item_listR pl.isList h0 (by lia) (by rw[hj];simpa using ew) fin hs
 ·have hj:(i+(its.toArray.size:Int)).toNat=j:=by
   rw[seqIndex_neg (by lia) h4] at h1;rw[aak,<-hl];exact abJ h1
  exact subscriptTail_builtinR (x:=w) pl.isList.typeIs afd.lookup
   (wpAny_getItem_list_neg (Q:=fun r s'=>r=w/\EP X pins σ Q r s') pl.isList (by lia) (by rw[aak]<;>lia) (by lia) (by rw[hj];simpa using ew) ⟨rfl,fin⟩) hs
def JR:JQ X (VF X.K):=by
 intro value slice pins s σ H x y v u Q I rx ry h hs;obtain⟨p,xs,i,z,rfl,rfl,hq,he,q⟩:=h;cases rx;obtain⟨t,rfl⟩:=ry;obtain⟨its,r,pl,hz⟩:=I.tuple hq;obtain⟨j,h1,h2,h3,h4,h5⟩:=AX he;obtain⟨w,ew,rw'⟩:=r.get h2;have hl:=r.length;have hn:=uH;have fin:EP X pins σ Q w s:=⟨z,H,I,rw',q⟩
 exact subscriptTail_builtinR (x:=w) pl.typeIs slot_tuple_getitem.lookup
  (getItem_tuple (j:=j) (Q:=fun r s'=>r=w/\EP X pins σ Q r s') pl (by lia) (by lia) (by rw[aak,<-hl];exact h1) (by simpa using ew) ⟨rfl,fin⟩) hs
def JV:JQ X VG:=by
 intro value slice pins s σ H x y v u Q I rx ry h hs;obtain⟨z,i,c,rfl,rfl,hz,he,q⟩:=h;obtain⟨t,rfl⟩:=rx;obtain⟨t',rfl⟩:=ry;obtain⟨j,h1,h2,h3,h4,h5⟩:=AX he;have hl:z.cps.toList.length=z.length:=by simp[Str.length]
 rw[hl] at h1 h4 h5;have hn:=uH;exact tail_any (typeIs_str s z t) slot_str_getitem.lookup (getItem_str (c:=c) (by
  have e1:decide (i < -(2 ^ 63:Int))=false:=abU (by lia);have e2:decide (i≥2 ^ 63)=false:=abU (by lia);rw[e1,e2,afA]) (by rw[h1];simpa using h2) ⟨.str ⟨#[c]⟩,H,I.tok _,⟨_,rfl⟩,q⟩) hs
def rIx (K:AAD):R2:=fun x y H Q=>VE K x y H Q\/VF K x y H Q\/VG x y H Q
def Eb:JQ X (rIx X.K):=Fb.or (JR.or JV)
def Ec (its:AAL) (n j:Nat) (u:Value):Obj.mapSeq (·.setIfInBounds j u) {cls:=.type "list",data:=.seq its.toArray n}={cls:=.type "list",data:=.seq (its.set j u).toArray n}:=by
 simp[Obj.mapSeq]
def Inv.lst {pins:AAG}{σ:St}{H:Hp}{s:Shared}{p:Addr}{xs:List V}(I:Inv X pins σ H s) (h:H p=some (.lst xs)):
  ∃(its:AAL) (n:Nat),Vals xs its/\s.heap.get? p=some {cls:=.type "list",data:=.seq its.toArray n}/\xs.length<=sizeLine:=by
 obtain⟨z,its,n,r,e⟩:=I.hok p _ h;exact⟨its,n,r,e,z⟩
def Inv.QX {σ:St}{H:Hp}{s:Shared}{p:Addr}{ys:List V}{n':Nat}{f:Obj->Obj}(I:Inv X pins σ H s) (h:H p=some (.lst xs))
  (ho:s.heap.get? p=some {cls:=.type "list",data:=.seq its.toArray n}) (hf:f {cls:=.type "list",data:=.seq its.toArray n}={cls:=.type "list",data:=.seq its'.toArray n'}) (r:Vals ys its') (hz:ys.length<=sizeLine) (t:Nat):
  Inv X pins σ (upd H p (.lst ys)) {s with heap:=s.heap.update p f,toks:=t}:=by
 have e:(s.heap.update p f).get? p=some {cls:=.type "list",data:=.seq its'.toArray n'}:=by
  rw[adI f ho (by rw[hf]<;>rfl),hf]
 refine I.write (x:=p) (e:=p) (by rw[h];trivial) (.inl rfl) (fun b u hb q=>(acT _ _ (acj hb)).trans q) ⟨_,e⟩ ?_;exact⟨hz,its',n',r,e⟩
def VH:V->V->V->Hp->(Hp->Prop)->Prop:=fun o i v H Q=>∃p xs k j,o= .ref p/\i= .int k/\H p=some (.lst xs)/\Hh xs.length k=some j/\Q (upd H p (.lst (xs.set j v)))
def set_list:U7 X VH:=by
 intro pins s σ H o i v ov iv u Q I ro ri rv h;obtain⟨p,xs,k,j,rfl,rfl,hp,hj,q⟩:=h;cases ro;obtain⟨t,rfl⟩:=ri;obtain⟨its,n,r,ho,hz⟩:=I.lst hp;obtain⟨h1,h2,h3,h4⟩:=E8 hj;have hl:=r.length;have hn:=uH;have I':Inv X pins σ (upd H p (.lst (xs.set j v))) {s with heap:=s.heap.update p (Obj.mapSeq (·.setIfInBounds j u))}:=
  I.QX hp ho (Ec its n j u) (r.set rv j) (by rw[ac6];exact hz) s.toks
 by_cases h0:0<=k
 ·have hk:k.toNat=j:=by
   rw[seqIndex_of h0 h4] at h1;exact abJ h1
  exact PySem.W.ki_setAt ho h0 (by lia) (by rw[aak,<-hl];exact h4) (by rw[hk];exact⟨_,I',q⟩)
 ·have hk:(k+(its.toArray.size:Int)).toNat=j:=by
   rw[seqIndex_neg (by lia) h3] at h1;rw[aak,<-hl];exact abJ h1
  exact PySem.W.ki_setBack ho (by lia) (by rw[aak,<-hl];exact h3) (by lia) (by rw[hk];exact⟨_,I',q⟩)
def AY (lo hi:BBM) (n:Nat):(sliceBounds lo hi none n).1=((HT.fZ n 0 lo:Nat):Int)/\(sliceBounds lo hi none n).2.1=((HT.fZ n n hi:Nat):Int)/\(sliceBounds lo hi none n).2.2=1:=by
 refine⟨?_,?_,rfl⟩
 ·cases lo with
  |none=>simp[sliceBounds,HT.fZ]
  |some i=>
   simp only[sliceBounds,HT.fZ,Option.getD_none,show(1:Int) > 0 by decide,if_true];by_cases h:i<0
   ·simp only[h,if_true]<;>lia
   ·simp only[h,adw]<;>lia
 ·cases hi with
  |none=>simp[sliceBounds,HT.fZ]
  |some i=>
   simp only[sliceBounds,HT.fZ,Option.getD_none,show(1:Int) > 0 by decide,if_true];by_cases h:i<0
   ·simp only[h,if_true]<;>lia
   ·simp only[h,adw]<;>lia
def zp (its:AAL) (lo hi:BBM):slicePick its.toArray lo hi none=((its.drop (HT.fZ its.length 0 lo)).take (HT.fZ its.length its.length hi-HT.fZ its.length 0 lo)).toArray:=by
 obtain⟨h1,h2,h3⟩:=AY lo hi its.toArray.size;unfold slicePick;rw[h1,h2,h3];simp only[sliceRange_one,pick_run,aak]<;>rfl
def Z0 (K:AAD):V->BBM->BBM->Hp->VK->Prop:=fun x lo hi H Q=>∃a xs,x= .ref a/\mQ K H a xs/\∀p,H p=none->Q (.ref p) (upd H p (.lst (zo xs lo hi)))
def Fc:VC X (Z0 X.K):=by
 intro pins s σ H x v vl vu lo hi sl Q I rx hs pl pu h;obtain⟨a,xs,rfl,hx,q⟩:=h;cases rx;obtain⟨its,r,ht,hz⟩:=I.list hx;have hlen:=r.length;refine⟨"list",_,afd.lookup,ht.isList.typeIs,?_⟩;refine wpAny_getItem_list_slice ht.isList hs pl pu .none (by simp) ?_ (by rw[aak]<;>lia);rw[zp,<-hlen];refine⟨.ref s.heap.objs.size,_,I.laid (t':=s.toks) (o:=.lst (zo xs lo hi)) (fun b ob q=>aai _ q) (aam _) ?_,rfl,q _ (I.hok.fresh (aam _))⟩;exact⟨abl (vJ xs lo hi) hz,_,0,(r.drop (HT.fZ xs.length 0 lo)).take (HT.fZ xs.length xs.length hi-HT.fZ xs.length 0 lo),aaF _ rfl⟩
def kh:gT X (.builtin "len") (fun xs H Q=>∃p ys,xs=[.ref p]/\(mQ X.K H p ys\/zL X.K H p ys)/\Q (.int ys.length) H):=by
 intro pins s σ H xs us Q I r h;obtain⟨p,ys,rfl,hq,q⟩:=h;obtain⟨u,rfl,rx⟩:=vals1 r;cases rx;have hn:=uH;rcases hq with hq|hq
 ·obtain⟨its,r',pl,hz⟩:=I.list hq;have hlen:=r'.length;exact Calls.call_len_list pl.isList (by simp only[aak]<;>lia) ⟨.int ys.length,H,I.tok _,⟨s.toks+1,by rw[aak,hlen]⟩,q⟩
 ·obtain⟨its,r',pl,hz⟩:=I.tuple hq;have hlen:=r'.length;exact len_tuple pl (by simp only[aak]<;>lia) ⟨.int ys.length,H,I.tok _,⟨s.toks+1,by rw[aak,hlen]⟩,q⟩
def sZ:gT X (.builtin "len") (fun xs H Q=>∃z,xs=[.str z]/\z.length<=sizeLine/\Q (.int z.length) H):=by
 intro pins s σ H xs us Q I r h;obtain⟨z,rfl,hz,q⟩:=h;obtain⟨u,rfl,t,rfl⟩:=vals1 r;have hn:=uH;exact len_str (by lia) ⟨.int z.length,H,I.tok _,⟨_,rfl⟩,q⟩
def tu:gT X (.type "list") (fun xs H Q=>∃p ys,xs=[.ref p]/\(mQ X.K H p ys\/zL X.K H p ys)/\∀l,H l=none->Q (.ref l) (upd H l (.lst ys))):=by
 intro pins s σ H xs us Q I r h;obtain⟨p,ys,rfl,hq,q⟩:=h;obtain⟨u,rfl,rx⟩:=vals1 r;cases rx;have fin:∀(its:AAL),Vals ys its->ys.length<=sizeLine->∀(h':Heap) (c':Nat),(∀b o',s.heap.get? b=some o'->h'.get? b=some o')->
   h'.get? s.heap.objs.size=some {cls:=.type "list",dict:=none,data:=.seq its.toArray c',slots:=#[]}->EP X pins σ Q (.ref s.heap.objs.size) {s with heap:=h'}:=fun its r' hz h' c' kp e=>
  ⟨.ref s.heap.objs.size,_,I.laid (t':=s.toks) kp (aam _) (show fG X.prog X.w _ h' _ (.lst ys) from⟨hz,its,c',r',e⟩),rfl,q _ (I.hok.fresh (aam _))⟩
 rcases hq with hq|hq
 ·obtain⟨its,r',pl,hz⟩:=I.list hq;have hlen:=r'.length;obtain⟨o,ho,hc,n,hd⟩:=pl.isList;exact call_list_seq p (.inl rfl) ho hc hd (fun h' c' kp e=>fin its r' hz h' c' kp e) (by simp only[aak]<;>lia)
 ·obtain⟨its,r',pl,hz⟩:=I.tuple hq;have hlen:=r'.length;obtain⟨o,ho,hc,n,hd⟩:=pl;exact call_list_seq p (.inr rfl) ho hc hd (fun h' c' kp e=>fin its r' hz h' c' kp e) (by simp only[aak]<;>lia)
def qZ:gT X (.type "tuple") (fun xs H Q=>∃p ys,xs=[.ref p]/\((mQ X.K H p ys/\∀l,H l=none->Q (.ref l) (upd H l (.tup ys)))\/(zL X.K H p ys/\Q (.ref p) H))):=by
 intro pins s σ H xs us Q I r h;obtain⟨p,ys,rfl,h⟩:=h;obtain⟨u,rfl,rx⟩:=vals1 r;cases rx;rcases h with⟨hq,q⟩|⟨hq,q⟩
 ·obtain⟨its,r',pl,hz⟩:=I.list hq;have hlen:=r'.length;refine call_tuple_list pl.isList (fun h' kp=>?_) (by simp only[aak]<;>lia);have I1:Inv X pins σ H {s with heap:=h'}:=I.kept (t':=s.toks) kp;have I2:Inv X pins σ (upd H h'.objs.size (.tup ys)) {s with heap:=h'.push {cls:=.type "tuple",data:=.seq its.toArray}}:=
   I1.laid (t':=s.toks) (fun b o e=>aai _ e) (aam _) (show fG X.prog X.w _ _ _ (.tup ys) from⟨hz,its,r',IsTup.new _ _⟩)
  exact⟨.ref h'.objs.size,_,I2,rfl,q _ (I1.hok.fresh (aam _))⟩
 ·obtain⟨its,r',pl,hz⟩:=I.tuple hq;exact call_tuple_same pl ⟨.ref p,H,I,rfl,q⟩
def tyV (K:AAD) (T:String) (x:V) (H:Hp):Prop:=match x with
 |.str _=>T="str"
 |.int _=>T="int"
 |.ref p=>(T="list"/\∃xs,mQ K H p xs)\/(T="tuple"/\∃o,K.lookup p=some o/\o.cls= .type "tuple"/\o.dict=none)\/
   (T="dict"/\((∃kvs,H p=some (.dK kvs))\/∃kvs,H p=some (.dT kvs)))\/(T="set"/\∃S n,H p=some (.set S n))
 |_=>False
def QY {σ:St}{H:Hp}{s:Shared}{T:String}{x:V}{v:Value}(I:Inv X pins σ H s) (r:RelV x v) (ty:tyV X.K T x H):
  s.TypeIs v T/\∀a,v= .ref a->∃ob,s.heap.get? a=some ob/\ob.dict=none:=by
 cases x with
 |str z=>
  obtain⟨t,rfl⟩:=r;cases(show T="str" from ty);exact⟨typeIs_str s z t,fun _ e=>nomatch e⟩
 |int i=>
  obtain⟨t,rfl⟩:=r;cases(show T="int" from ty);exact⟨typeIs_int s i t,fun _ e=>nomatch e⟩
 |ref p=>
  cases r;rcases ty with⟨rfl,xs,hq⟩|⟨rfl,o,hk,hc,hd⟩|⟨rfl,hk⟩|⟨rfl,S,n,hk⟩
  ·obtain⟨its,_,pl,_⟩:=I.list hq;refine⟨pl.isList.typeIs,fun a e=>?_⟩;cases e;obtain⟨o,n,e,c,hd,_⟩:=pl;exact⟨o,e,hd⟩
  ·refine⟨⟨o,I.AG p o hk,hc⟩,fun a e=>?_⟩;cases e;exact⟨o,I.AG _ o hk,hd⟩
  ·have z:∃o,s.heap.get? p=some o/\o.ExactDict:=by
    rcases hk with⟨kvs,hk⟩|⟨kvs,hk⟩
    ·obtain⟨_,_,_,_,o,_,_,e,ex,_⟩:=I.hok p _ hk;exact⟨o,e,ex⟩
    ·obtain⟨_,_,_,_,o,_,_,e,ex,_⟩:=I.hok p _ hk;exact⟨o,e,ex⟩
   obtain⟨o,e,ex⟩:=z;refine⟨⟨o,e,ex.1⟩,fun a e2=>?_⟩;cases e2;exact⟨o,e,ex.2.1⟩
  ·obtain⟨o,_,_,_,e,ex,_⟩:=I.hok p _ hk;refine⟨⟨o,e,ex.1⟩,fun a e2=>?_⟩;cases e2;exact⟨o,e,ex.2.1⟩
 |_=>exact False.elim ty
def tBM (K:AAD) (T:String) (r:V->List V->Hp->VK->Prop) (to:TE) (t:TA):TE:=fun σ H Q=>to σ H fun x H1=>tyV K T x H1/\t σ H1 fun xs H2=>r x xs H2 Q
variable {o e:Expr}{es:BBC}{to:TE}{t:TA}{name:Str}{apos cpos:Pos}{T id:String}{r:V->List V->Hp->VK->Prop}
def Pj (pa:PlainAttrs T) (slot:Slot T name id) (hty:typeOf (.builtin id)=pure (.type "method_descriptor")) (hm:Yd X id r) (ho:PE X o to) (ha:PA X (e::es) t)
  (hbase:attributeBase o name X.env (eval o X.env)=eval o X.env:=by rfl)
  (hfew:((backTo cpos (starEach (e::es) X.env)).all (fun x=>!x.1) && (backToKw cpos (keywordEach [] X.env)).all (fun x=>x.1.isSome)
   && decide ((e::es).length+([]:BBI).length+(if([]:BBI).isEmpty then 0 else 1)<30))=true:=by rfl)
  (hline:(apos.endLine == cpos.line)=true:=by rfl) (hs:starEach (e::es) X.env=(false,eval e X.env)::starEach es X.env:=by rfl) (hplain:(backTo cpos (starEach es X.env)).any (·.1)=false:=by rfl):
  PE X (.Call (.Attribute o name apos) (e::es) [] cpos) (tBM X.K T r to t):=by
 intro pins s σ H Q I h;refine wpAny_Call_method_late hbase hfew hline rfl (fE (ho pins s σ H _ I h) fun v s1 hh=>?_);obtain⟨x,H1,I1,r1,ty,q1⟩:=hh;obtain⟨h1,h2⟩:=QY I1 r1 ty;refine⟨T,id,pa,slot,hty,h1,h2,?_⟩;have hA:=ha cpos pins s1 σ H1 _ I1 q1;rw[hs] at hA ⊢;refine Calls.callWith_builtin (by show(false || (backTo cpos (starEach es X.env)).any (·.1))=false;rw[hplain]<;>rfl) (Calls.evalArgs_plain ?_);exact fE hA fun us s2 ⟨vs,H2,I2,r2,q2⟩=>hm pins s2 σ H2 x vs v us Q I2 r1 r2 q2
end
def MtM (X:Cx) (id:String) (r:V->List V->Hp->VK->Prop):Prop:=
 ∀(pins:AAG) (s:Shared) (σ:St) (H:Hp) (x:V) (xs:List V) (v:Value) (us:AAL) (Q:VK),Inv X pins σ H s->RelV x v->Vals xs us->r x xs H Q->
  wpAny (model X.prog X.w) X.A (call (.builtin id) (v::us)) (EP X pins σ Q) X.xe s
theorem Vals.one:∀{x:V}{us:AAL},Vals [x] us->∃u,us=[u]/\RelV x u
 |_,_,.cons r .nil=>⟨_,rfl,r⟩
section
variable {X:Cx}{pins:AAG}{σ:St}{H:Hp}{s:Shared}{l:Addr}{xs ys:List V}
def Inv.VI {f:Array Value->Array Value}{t':Nat}(I:Inv X pins σ H s) (hH:H l=some (.lst xs))
  (e:s.heap.get? l=some {cls:=.type "list",data:=.seq its.toArray n}) (hf:f its.toArray=its'.toArray) (hv:Vals ys its') (hz:ys.length<=sizeLine):
  Inv X pins σ (upd H l (.lst ys)) {s with heap:=s.heap.update l (Obj.mapSeq f),toks:=t'}:=by
 have q:=PySem.IsL.update e f;rw[hf] at q;refine I.write (x:=l) (e:=l) (by rw[hH];exact trivial) (.inl rfl) (fun b' u hb hu=>(acT s.heap (Obj.mapSeq f) (acj hb)).trans hu) ⟨_,q⟩ ?_;exact⟨hz,its',_,hv,q⟩
def Inv.Z1 {t':Nat}(I:Inv X pins σ H s) (hv:Vals ys its) (hz:ys.length<=sizeLine):
  Inv X pins σ (upd H s.heap.objs.size (.lst ys)) {s with heap:=s.heap.push {cls:=.type "list",data:=.seq its.toArray},toks:=t'}:=
 I.laid (fun _ _ q=>aai _ q) (aam _) ⟨hz,its,0,hv,aaF _ rfl⟩
def Inv.fresh (I:Inv X pins σ H s):H s.heap.objs.size=none:=I.hok.fresh (aam _)
def Inv.Ed (I:Inv X pins σ H s) (hH:H l=some (.lst xs)):xs.length<=sizeLine/\∃(its:AAL) (n:Nat),Vals xs its/\xs.length=its.length/\s.heap.get? l=some {cls:=.type "list",data:=.seq its.toArray n}:=by
 obtain⟨z,its,n,r,e⟩:=I.hok l _ hH;exact⟨z,its,n,r,r.length,e⟩
def JX (h:n<=sizeLine):Builtin.List.listTooLong n=false:=by
 unfold Builtin.List.listTooLong;exact abU (by lia)
end
section
variable {X:Cx}
def Fe:V->List V->Hp->VK->Prop:=fun x vs H Q=>∃l xs y,x= .ref l/\vs=[y]/\H l=some (.lst xs)/\xs.length<sizeLine/\Q .cJ (upd H l (.lst (xs++[y])))
def fO:MtM X "list.append" Fe:=by
 intro pins s σ H x vs v us Q I rx rv h;obtain⟨l,xs,y,rfl,rfl,hH,hz,q⟩:=h;cases rx;obtain⟨u,rfl,ru⟩:=rv.one;obtain⟨z,its,n,r,hl,e⟩:=I.Ed hH;refine call_meets F.slot_list_append ⟨_,e,rfl⟩ F.entry_list_append (F.args_list_append_2 _ _) (PySem.list_append l its.toArray n u (by rw[aak];lia)) ⟨e,?_⟩;refine⟨.cJ,_,I.VI (its':=its++[u]) hH e (by simp) (r.append (.cons ru .nil)) ?_,rfl,q⟩;rw[aan,abR];lia
end
end L2
namespace Att
open PySem PySem.W PySem.Calls PyProof.Rows
def wg {P:Params}{h:Heap}:∀(ns:BBD) (vs:AAL),WellAll P h vs (ns.map WData.int)->IntsAre vs ns:=by
 intro ns
 induction ns with
 |nil=>
  intro vs w;rw[List.map_nil] at w;cases w;exact .nil
 |cons n ns ih=>
  intro vs w;rw[abX] at w;cases w with
  |cons a b=>
   cases a;exact .cons _ _ (ih _ b)
def Hi {l:OpenLaw}{n:Nat}(hn:l.most=some n){P:Params}{h:Heap}{args:List WData}{vals:AAL}
  (hpre:l.row.toRowW.claim.pre args=true) (hwl:WellAll P h vals args):
  ∃a vs ns,vals=[Value.ref a]/\args=[WData.list (ns.map WData.int)]/\h.get? a=some {cls:=.type "list",data:=.seq vs.toArray}/\IntsAre vs ns/\ns.length<=n:=by
 have hsh:WShape.hasAll [] args [.list .int]=true:=(pre_splitW hpre).1;have hc:l.pre.holds [] {args:=args}=true:=(pre_splitW hpre).2;obtain⟨d,r,rfl,h1,h2⟩:=hasAllW_cons hsh;obtain rfl:=hasAllW_nil h2;obtain⟨xs,rfl,h3⟩:=hasW_list h1;obtain⟨ns,rfl⟩:=items_int h3;have hlen:ns.length<=n:=by
  unfold OpenLaw.pre at hc;have h4:(WTm.not (.lt (.lit (.int (n:Int))) (.len (.arg 0)))).holds [] {args:=[.list (ns.map .int)]}=true:=by
   have h4:=(holds_andW hc).1;rw[hn] at h4;exact h4
  have h5:=condW_of h4 (w_not (w_lt w_lit (w_len_list (w_arg rfl))));rw[aah] at h5;refine Nat.le_of_not_lt fun q=>?_;have q':(n:Int)<((ns.length:Nat):Int):=by lia
  first
   |(rw[ab8 q'] at h5;exact absurd h5 (by decide))
   |(simp at h5;lia)
 cases hwl with
 |cons w1 w2=>
  cases w2;cases w1 with
  |list ho hall=>exact⟨_,_,ns,rfl,rfl,ho,wg ns _ hall,hlen⟩
def Hj (l:OpenLaw) (args:List WData):l.row.toRowW.claim.post args (.bool true) args=true:=
 postW_of (r:=l.row.toRowW) (X:=(true == true))
  (show WShape.has [] (.bool true) .bool=true by first|rfl|decide|simp[WShape.has,WShape.arms,WShape.armsAll])
  (show(WTm.eq .res (.lit (.bool true))).value [] {args:=args,res:=some (.bool true),after:=args}=some (.bool (true == true)) from w_eq_bool (w_res rfl) w_lit) rfl
def Cv {l:OpenLaw}{n:Nat}{q:Program}{loose:BBB}{XP:(Str->BBP)->Heap->Prop}{YP:World->Heap->Prop}{d:DefRec}
  (hn:l.most=some n) (hdf:d.params.defaults=[])
  (call:∀(w:World) (s₀ s₁:Shared) (mg mb:AAF) (fa:Addr) (o:Obj) (pm cd doc:Value) (a:Addr) (vs:AAL) (ns:BBD),
   Ground q loose [] XP w s₀ mg mb s₁.heap->YP w s₁.heap->
   s₁.heap.get? fa=some o->o.data= .func (docDef d.name d.params d.body d.scope pm cd doc)->s₁.heap.CodeRec cd d.name->mg d.name=some (.ref fa)->
   s₁.heap.get? a=some {cls:=.type "list",data:=.seq vs.toArray}->IntsAre vs ns->ns.length<=n->s₁.gens=#[]->
   codeAny (model l.prog w) callerA (.call (.ref fa) ⟨[.ref a],[]⟩) (fun r s'=>r= .ok (.ret (.bool true))/\OldK s₁.heap s'.heap/\s'.os=s₁.os/\AllBare s'.gens) s₁):
  WalkO q loose XP YP l.row.toRowW d [] (fun f vs=>PySem.call f vs):=by
 intro w s₀ s₁ mg mb G Y fa o pm cd doc dV kV ho hd hcd hD hmg hg args vals as hpre hlay hrd hwl hlo;obtain rfl:dV= .none:=Dflts.none hD hdf;obtain rfl:kV= .none:=Dflts.noKw hD;obtain⟨a,vs,ns,rfl,rfl,hobj,hints,hlen⟩:=Hi hn hpre hwl;refine enter_call (adH (call w s₀ s₁ mg mb fa o pm cd doc a vs ns G Y ho (fd_plain hd) hcd hmg hobj hints hlen hg) fun r s' hq=>?_);obtain⟨rfl,h2,h3,h4⟩:=hq;exact⟨.inl ⟨.bool true,.bool true,[],rfl,fun _=>rfl,.bool true,Hj l _,fun _=>⟨List.Pairwise.nil,fun _ hm=>(nomatch hm)⟩⟩,h2,h3,h4⟩
end Att
namespace L2
open PySem PySem.Spec PyProof.Rows
variable {P:Program}{w:World}{K:AAD}{k:Nat}{fd:FuncData}{x qual:Str}{X:Cx}{st:Stmt}{ps bL:BBB}{H:Hp}{tc:TT}{pins:AAG}{σ:St}{cap:BBJ}{scope:Scope}{cl:List (Str×Addr)}{elt iter:Expr}{ifs:BBC}{pos pos2 px:Pos}{wi:TI}{te:TE}{use:Option (Value->Sem Unit)}{Qf:AAE}
theorem zU:∀{vs:AAL}{ns:BBD},IntsAre vs ns->Vals (ns.map V.int) vs
 |_,_,.nil=>.nil
 |_,_,.cons n t h=>.cons ⟨t,rfl⟩ (zU h)
def MY (H:Hp):Prop:=∀b,H b=none\/∃o xs,H b=some (.jK o (.lst xs))
def JY {mg mb:AAF}{CX:IM}{fa a:Addr}{sp:Sp}{s₁:Shared}{vs:AAL}{ns:BBD}
  (KX:K.In s₁.heap) (hns:s₁.heap.Ns mainGlobals mg) (hb:s₁.heap.Ns builtinsNs mb) (hbb:∀x:Str,x≠"__name__"->mb x=bootBuiltins x) (hlim:s₁.heap.NoLimit) (hg:s₁.gens=#[])
  (ha:s₁.heap.get? a=some {cls:=.type "list",data:=.seq vs.toArray}) (hi:IntsAre vs ns) (hl:ns.length<=sizeLine) (hr:gD k callerA)
  (F:∀base:Heap,K.In base->base.Ns mainGlobals mg->kP P w K mg base CX k fa fd [x] sp) (hbind:∀(s:Shared) (u:Value),BindsTo s fd ⟨[u],[]⟩ [(x,u)])
  (Pd:∀H:Hp,MY H->mQ K H a (ns.map V.int)->sp [.ref a] H (fun v _=>v= .bl true) fun _ _ _=>False)
  (Z2:∀H e s',CX [] H s₁ (fun _ _ _=>False) e s'->False):
  codeAny (model P w) callerA (.call (.ref fa) ⟨[.ref a],[]⟩) (fun r s'=>r= .ok (.ret (.bool true))/\OldK s₁.heap s'.heap/\s'.os=s₁.os/\AllBare s'.gens) s₁:=by
 have rv:=zU hi;have lenV:=hi.length;have core:∀H:Hp,MY H->mQ K H a (ns.map V.int)->pB P w H s₁.heap->(∀b,H b≠none->b=a)->(H a≠none->K.lookup a=none)->
   codeAny (model P w) callerA (.call (.ref fa) ⟨[.ref a],[]⟩) (fun r s'=>r= .ok (.ret (.bool true))/\OldK s₁.heap s'.heap/\s'.os=s₁.os/\AllBare s'.gens) s₁:=by
  intro H hO hS hok hA hK;have Ff:∀{b:Addr}{o:Obj},s₁.heap.get? b=some o->H b=none->(AF s₁.heap H).get? b=some o:=fun e n=>Jd e n;have Vt:∀{b:Addr}{o:Obj}{es:Array DictEntry}{ep:Nat},s₁.heap.get? b=some o->o.data= .dict es ep->H b=none:=fun {b o es ep} e d=>by
   cases q:H b with
   |none=>rfl
   |some u=>
    have e':b=a:=hA b (by rw[q];simp);subst e';rw[ha] at e;cases e;have d':Data.seq vs.toArray _=Data.dict es ep:=d;cases d'
  have Ye:∀{b:Addr}{m:AAF},s₁.heap.Ns b m->(AF s₁.heap H).Ns b m:=fun {b m} ⟨o,es,ep,e,d,r⟩=>⟨o,es,ep,Ff e (Vt e d),d,r⟩
  have hKb:K.In (AF s₁.heap H):=fun b o e=>Ff (KX b o e) (by
   cases q:H b with
   |none=>rfl
   |some u=>
    have e':b=a:=hA b (by rw[q];simp);subst e';rw[hK (by rw[q];simp)] at e;cases e)
  have hM:Mod K mg (AF s₁.heap H):=⟨hKb,Ye hns,⟨mb,Ye hb,hbb⟩,let⟨mc,h1,h2⟩:=hlim;⟨mc,Ye h1,h2⟩⟩
  have e0:D8 P w K mg (AF s₁.heap H) callerA [] s₁ H:=⟨rfl,hM,fun b o e=>Mz e,Nat.le_of_eq (GY _ _),trivial,fun b hb=>absurd (show b∈([]:BBE) from hb) (by simp),hok,.of_eq hg⟩
  refine adH ((F _ hKb (Ye hns)).run callerA [] s₁ H ⟨[.ref a],[]⟩ [.ref a] [.ref a] _ _ hr e0 (hbind s₁ (.ref a)) (.cons rfl .nil) (Pd H hO hS)) fun r s' h=>?_;cases r with
  |error e=>exact(Z2 H e s' h).elim
  |ok fl=>
   cases fl with
   |next=>exact False.elim h
   |brk=>exact False.elim h
   |cont=>exact False.elim h
   |ret u=>
    obtain⟨v,H',os,bare,un,Z3,r',q⟩:=h;have q':v= .bl true:=q;subst q';obtain rfl:u=Value.bool true:=r';refine⟨rfl,OldK.of_keep fun b o e=>?_,os,bare⟩;cases q:H b with
    |none=>exact un.keep b o e q (by intro z;exact absurd (show b∈([]:BBE) from z) (by simp)) (by simp)
    |some u=>
     rcases hO b with z|⟨ob,xs,z⟩
     ·rw[q] at z;cases z
     ·have z2:=un.zf b ob _ z;obtain⟨e1,_⟩:=hok b _ z;obtain⟨e2,_⟩:=Z3 b _ z2;rw[e] at e1;cases e1;exact e2
 cases hk:K.lookup a with
 |some o=>
  have e:=KX a o hk;rw[ha] at e;cases e;refine core (fun _=>none) (fun _=>.inl rfl) (.inr ⟨_,vs.toArray,_,hk,rfl,rfl,rfl,by rw[aak,lenV];exact hl,by simpa using rv⟩) (fun b u z=>by have z':(none:Option HO)=some u:=z;cases z') (fun b z=>absurd rfl z) fun z=>absurd rfl z
 |none=>
  refine core (fun b=>if b=a then some (.jK {cls:=.type "list",data:=.seq vs.toArray} (.lst (ns.map V.int))) else none) (fun b=>?_) (.inl (.inr ⟨{cls:=.type "list",data:=.seq vs.toArray},if_pos rfl⟩)) (fun b u z=>?_) (fun b z=>?_) fun _=>hk
  ·by_cases hb:b=a
   ·exact .inr ⟨_,_,if_pos hb⟩
   ·exact .inl (if_neg hb)
  ·by_cases hb:b=a
   ·have z':=(if_pos hb).symm.trans z;cases z';subst hb;exact⟨ha,by rw[aah];exact hl,vs,_,rv,ha⟩
   ·have z':=(if_neg hb).symm.trans z;cases z'
  ·by_cases hb:b=a
   ·exact hb
   ·exact absurd (if_neg hb) z
noncomputable abbrev KOf {K:AAD}{h:Heap}(_:K.In h):PySem.W.Frag:=K
def MZ {l:PySem.W.OpenLaw}{n:Nat}{q:Program}{loose:BBB}{XP:(Str->BBP)->Heap->Prop}{YP:World->Heap->Prop}{d:DefRec}{K:Params->PySem.W.Frag}{CX:World->IM}{sp:World->Sp}
  (hn:l.most=some n) (hn2:n<=sizeLine) (hdf:d.params.defaults=[]) (hr:gD k callerA)
  (hY:∀(w:World) (h:Heap),YP w h->(K w.params).In h)
  (F:∀(w:World) (mg:AAF) (fa:Addr) (h:Heap),(K w.params).In h->h.Ns mainGlobals mg->mg d.name=some (.ref fa)->
   ∃fd:FuncData,(∀(s:Shared) (u:Value),BindsTo s fd ⟨[u],[]⟩ [(x,u)])/\
    ∀base:Heap,(K w.params).In base->base.Ns mainGlobals mg->kP l.prog w (K w.params) mg base (CX w) k fa fd [x] (sp w))
  (Pd:∀(w:World) (H:Hp) (a:Addr) (ns:BBD),ns.length<=n->MY H->mQ (K w.params) H a (ns.map V.int)->sp w [.ref a] H (fun v _=>v= .bl true) fun _ _ _=>False)
  (Z2:∀(w:World) (H:Hp) (s:Shared) (e:Value) (s':Shared),CX w [] H s (fun _ _ _=>False) e s'->False):
  PySem.W.WalkO q loose XP YP l.row.toRowW d [] (fun f vs=>PySem.call f vs):=by
 refine Att.Cv hn hdf fun w s₀ s₁ mg mb fa o pm cd doc a vs ns G Y ho hd hcd hmg hobj hints hlen hg=>?_;have KX:=hY w _ Y;obtain⟨fd,hb,hF⟩:=F w mg fa _ KX G.T.g hmg;exact JY KX G.T.g G.T.b G.T.builtins G.T.nolimit hg hobj hints (abl hlen hn2) hr hF hb (fun H hO hS=>Pd w H a ns hlen hO hS) fun H e s'=>Z2 w H s₁ e s'
noncomputable def lN (s:Stmt):Arguments:=match s with
 |.FunctionDef _ a _ _ _ _ _ _ _ _=>a
 |_=>{posonlyargs:=[],args:=[],vararg:=none,kwonlyargs:=[],kw_defaults:=[],kwarg:=none,defaults:=[]}
noncomputable def fV (s:Stmt):BBH:=match s with
 |.FunctionDef _ _ b _ _ _ _ _ _ _=>b
 |_=>[]
noncomputable def aV (s:Stmt):Scope:=match s with
 |.FunctionDef _ _ _ _ _ _ sc _ _ _=>sc
 |_=>{kind:=.function,names:=[],isGenerator:=false,isCoroutine:=false}
noncomputable abbrev zV:IM:=fun _ _ _ _ _ _=>False
noncomputable abbrev E0:XK:=fun _ _ _=>False
def Fg :Passes zV X E0:=fun _ _ _ _ _ _ _ h=>h.elim
structure Mm (K:AAD) (x qual:Str) (st:Stmt) (f:Addr) (fd:FuncData):Prop where
 ex:∃(oc:Value) (od:BBN) (kV doc pm:Value) (an:BBN) (cdv ct:Value) (osl:Array (BBP)),
  fd=PySem.W.fnOf x qual (lN st) (fV st) (aV st) .none kV doc pm an cdv ct/\K.lookup f=some ⟨oc,od,.func fd,osl⟩/\PySem.W.codeIn K cdv qual=true
 kp:PySem.W.keepIn K (.ref f)=true
section
variable {P:Program}{w:World}{K:AAD}{mg:AAF}{base:Heap}
def Mm.ok {f:Addr}{N:BBB}{sp:Sp}(F:Mm K x qual st f fd) (S:bR N ps (aV st)) (len:∀vs H Q E,sp vs H Q E->vs.length=ps.length)
  (hbody:∀(cdv:Value) (A:Around) (outer:BBF) (s:Shared) (H:Hp) (vs:List V) (Q:VK) (E:XK),gD k (A.deeper (envOfC qual (aV st) s.heap.objs.size f cdv))->sp vs H Q E->
   ∃t,zh (wW zV P w K mg base N qual (aV st) f cdv A outer s H E).ME (fV st) t/\t {nx:=fun _ H'=>Q .cJ H',rt:=Q} (start N vs) H):kP P w K mg base zV (k+1) f fd ps sp:=by
 obtain⟨oc,od,kV,doc,pm,an,cdv,ct,osl,rfl,lk,hcd⟩:=F.ex;refine Vu lk hcd S len fun A outer s H vs Q E hr Pd=>?_;obtain⟨t,h,q⟩:=hbody cdv A outer s H vs Q E hr Pd;exact⟨t,h.ME,q⟩
def Mm.binds {f:Addr}(F:Mm K x qual st f fd)
  (h:∀(kV doc pm:Value) (an:BBN) (cdv ct:Value) (us:AAL),us.length=ps.length->bindArgs (PySem.W.fnOf x qual (lN st) (fV st) (aV st) .none kV doc pm an cdv ct) ⟨us,[]⟩=pure (ps.zip us)):Binds K fd ps []:=by
 obtain⟨oc,od,kV,doc,pm,an,cdv,ct,osl,rfl,lk,hcd⟩:=F.ex;exact .all (h kV doc pm an cdv ct)
def JZ {f:Addr}{oc:Value}{od an:BBN}{osl:Array (BBP)}{kV doc pm cdv ct:Value}(l:K.lookup f=some ⟨oc,od,.func (PySem.W.fnOf x qual (lN st) (fV st) (aV st) .none kV doc pm an cdv ct),osl⟩)
  (c:PySem.W.codeIn K cdv qual=true) (k:PySem.W.keepIn K (.ref f)=true):Mm K x qual st f (PySem.W.fnOf x qual (lN st) (fV st) (aV st) .none kV doc pm an cdv ct):=⟨⟨oc,od,kV,doc,pm,an,cdv,ct,osl,rfl,l,c⟩,k⟩
end
def lO {A:Around}(hr:gD k A):A.units+20<cLine:=adi (Nat.add_le_add_left (by decide:20<=64) _) hr.units
section
variable {X:Cx}
def Hl:gT X (.builtin "len") (fun xs H Q=>∃a kvs,xs=[V.ref a]/\H a=some (.dK kvs)/\Q (.int kvs.length) H):=by
 intro pins s σ H xs us Q I r h;obtain⟨a,kvs,rfl,ha,q⟩:=h;obtain⟨u,rfl,ru⟩:=vals1 r;cases ru;exact Vv I (.inl ha) fun t s' I'=>⟨.int kvs.length,H,I',⟨t,rfl⟩,q⟩
end
def Cw {A B:Prop}(h:B):if false=true then A else B:=by
 rw[if_neg aeU];exact h
def Cy {A B:Prop}(h:A):if true=true then A else B:=by
 rw[if_pos rfl];exact h
def pB.VJ {h:Heap}{a:Addr}{o:HO}(x:pB P w H h) (hn:H a=none) (new:fG P w (upd H a o) h a o):pB P w (upd H a o) h:=fun b u e=>by
 by_cases hb:b=a
 ·subst hb;rw[aU] at e;cases e;exact new
 ·rw[bh hb] at e;exact(x b u e).stay (fun c v _ q=>q) (fun c q=>by rw[bh (bZ q hn)];exact q) fun c xs q=>by rw[bh (bZ q hn)];exact q
noncomputable def cj (X:Cx) (N':BBB) (scope:Scope) (cl:List (Str×Addr)) (C:Addr) (s:Shared) (H:Hp) (fp:BBE):Cx:=
 {X with N:=N',s₀:=s,H₀:=H,env:=compEnvC scope cl C X.env,outer:=X.stack,stack:=X.stack,ex:=fp,fn:=fun _=>false,pn:=[],xe:=fun _ _=>False}
noncomputable def dj (cap:BBJ) (σ:St):St:=cap.map fun i=>(σ[i]?).join
structure eO (X:Cx) (x:Str) (bL:BBB) (cap:BBJ) (scope:Scope) (cl:List (Str×Addr)):Prop where
 clos:closureFor scope X.env=pure cl
 kQ:∀y∈scope.names,y.2≠.cell
 kind:scope.kind= .function
 names:∀y∈scope.names,y.2= .local->scope.names.lookup y.1=some .local
 loc:scope.names.lookup x=some .local
 cells:∀n c,cl.lookup n=some c->X.env.cells.lookup n=some c
 has:∀n,((relabel scope X.env).names.lookup n=some .cell\/(relabel scope X.env).names.lookup n=some .free)->∃c,cl.lookup n=some c
 nd:(x::bL).Nodup
 len:cap.length=bL.length
 slot:∀(j:Nat) n,bL[j]? =some n->∃i:Nat,cap[j]? =some i/\X.N[i]? =some n/\qV X.env.scope n
 vis:∀n,n∈bL->((relabel scope X.env).names.lookup n=some .cell\/(relabel scope X.env).names.lookup n=some .free)/\(∃c,cl.lookup n=some c)/\X.env.scope.names.lookup n≠some .local
def Ud (wi:TI) (cap:BBJ) (tc:TT) (te:TE):TE:=fun σ H Q=>wi σ H fun J H1=>∃W:Nat->Nat->List V->Hp->Prop,(∃m,W 0 m [] H1)/\∀i m ys H,W i m ys H->ys.length<sizeLine/\
  ((J.stop i H/\∀p,H p=none->Q (.ref p) (upd H p (.lst ys)))\/
   (J.go i H/\∀x H',J.Qv i H x H'->tc (some x::dj cap σ) H' fun b H2=>if b=true then te (some x::dj cap σ) H2 fun y H3=>∃m',m' < m/\W (i+1) m' (ys++[y]) H3 else ∃m',m' < m/\W (i+1) m' ys H2))
def QZ:TT:=fun _ H Q=>Q true H
def J0 (X:Cx) (ifs:BBC) (tc:TT):Prop:=
 ∀(pins:AAG) (s:Shared) (σ:St) (H:Hp) (Q:Bool->Hp->Prop),Inv X pins σ H s->tc σ H Q->
  wpAny (model X.prog X.w) X.A (forIn ifs true fun c r=>if r=true then do let ok <-isTrue c X.env (eval c X.env);pure (ForInStep.yield ok) else pure (ForInStep.yield r)) (TP X pins σ Q) X.xe s
def Fi :J0 X [] QZ:=fun pins s σ H Q I h=>wpAny_tests_nil ⟨H,I,h⟩
def M0 {c:Expr}(h:PT X c tc):J0 X [c] tc:=fun pins s σ H Q I q=>wpAny_tests_one (h pins s σ H Q I q)
def Q0 (ys:AAL) (y:Value):({cls:=.type "list",data:=.seq (ys.toArray.push y) (ys.length+1)}:Obj)={cls:=.type "list",data:=.seq (ys++[y]).toArray (ys++[y]).length}:=by
 rw[aan,abR,List.push_toArray]
def J1 {s s4:Shared}{C:Addr}{fp:BBE}{m':AAF}
  (I:Inv X pins σ H s) (T:eO X x bL cap scope cl) (hfp:∀b∈fp,rL X pins H b) (hfo:∀b∈fp,∃o,s.heap.get? b=some o)
  (hC:s.heap.objs.size<=C) (hns:s4.heap.Ns C m') (hos:s4.os=s.os) (hg:s4.gens=s.gens)
  (kept:∀b o,s.heap.get? b=some o->s4.heap.get? b=some o):
  Inv (cj X (x::bL) scope cl C s H fp) [] (none::dj cap σ) H s4:=by
 have fr:∀b,s.heap.objs.size<=b->H b=none:=fun b hb=>I.hok.fresh hb;refine⟨⟨I.ok.mod,T.kind,I.ok.glob,I.ok.blt,hC,fun y z c h1 h2=>I.ok.inj y z c (T.cells _ _ h1) (T.cells _ _ h2),fun y hy=>T.has y hy,fun y c h=>(by cases h),I.ok.hd,I.ok.frames,.inl rfl,fun b hb=>⟨?_,fun y c e z=>?_⟩,I.bs,abl I.ok.GZ I.sz,fun b o e hb=>?_,fun b hb z=>?_,I.stack,I.AH⟩,
  hos,by rw[hg];exact I.bare,Un.kept kept,⟨m',hns,fun i y v h1 h2 h3=>?_⟩,fun y c h=>?_,fr C hC,fun y c h=>I.lM y c (T.cells _ _ h),fun p hp=>?_,I.hok.kept kept,?_⟩
 ·obtain⟨o,e⟩:=hfo b hb;exact abu (aaE (aau e) hC)
 ·exact(hfp b hb).2.2.2.2.1 y c (T.cells _ _ e) z
 ·rcases(hfp b hb).2.2.2.1 with z|z
  ·exact I.ok.Ck b o e z
  ·exact absurd (aaE (aau e) (abl I.ok.GZ z)) (acz _)
 ·rcases aav.mp (I.wU b z) with q|q
  ·exact(hfp b hb).2.1 q
  ·exact(hfp b hb).2.2.1 q
 ·cases i with
  |zero=>cases h2
  |succ j=>
   have h1:bL[j]? =some y:=by simpa[cj] using h1
   have h2:(dj cap σ)[j]? =some (some v):=by simpa using h2
   obtain⟨i,e1,e2,e3⟩:=T.slot j y h1;have e4:σ[i]? =some (some v):=by
    unfold dj at h2;rw[abx,e1] at h2;have h2:some ((σ[i]?).join)=some (some v):=h2;have h2:=abJ h2;cases q:σ[i]? with
    |none=>rw[q] at h2;cases h2
    |some o=>rw[q] at h2;cases h2;rfl
   obtain⟨m,hn,hl⟩:=I.loc;obtain⟨u,r,l⟩:=hl i y v e2 e4 e3;obtain⟨k1,⟨c,hc⟩,k3⟩:=T.vis y (abK h1);refine⟨u,r,.inr ⟨k1,c,hc,?_⟩⟩;rcases l with⟨hk,_⟩|⟨hk,c',hc',z⟩
   ·exact absurd hk k3
   ·rw[T.cells _ _ hc] at hc';cases hc';obtain⟨o,ho,hd⟩:=z;exact⟨o,kept _ _ ho,hd⟩
 ·obtain⟨v,o,ho,hd⟩:=I.cell y c (T.cells _ _ h);exact⟨v,o,kept _ _ ho,hd⟩
 ·exact absurd (show p∈([]:AAG) from hp) (by simp)
 ·show(none::dj cap σ).length=(x::bL).length;simp[dj,T.len]
def uL (P:Program) (w:World) (A:Around) (env:Env) (R:Result->Shared->Prop):Value->Shared->Prop:=notedBy (model P w) A env fun e s'=>R (.error e) s'
theorem AZ {A:Around}{R:Result->Shared->Prop}{s:Shared}{tg:Expr}{it acc:Value}{env:Env}(J:Nat->Shared->Prop)
  (turn:∀n s,J n s->wpAny (model P w) A (pyNext it) (fun r s1=>match r with
   |none=>R (.ok .next) s1
   |some v=>wpAny (model P w) A (letOwnedTupleGo tg it v) (fun _ s1=>wpAny (model P w) A (assign tg env v) (fun _ s2=>
     wpAny (model P w) A (forIn ifs true fun c r=>if r=true then do let ok <-isTrue c env (eval c env);pure (ForInStep.yield ok) else pure (ForInStep.yield r)) (fun ok s3=>
      if ok=true then wpAny (model P w) A (eval elt env) (fun x s4=>wpAny (model P w) A (call (.builtin "list.append") [acc,x]) (fun _ s5=>∃m,m<n/\J m s5) (uL P w A env R) s4) (uL P w A env R) s3
      else ∃m,m<n/\J m s3) (uL P w A env R) s2) (uL P w A env R) s1) (uL P w A env R) s1) (uL P w A env R) s)
  (n:Nat) (h:J n s):codeAny (model P w) A (.compLoop (.ListComp elt [⟨tg,iter,ifs,0⟩] scope pos) 0 it acc env) R s:=by
 refine codeAny_loop rfl J (fun n s hJ=>?_) n h;show wpAny _ A ((compTurn (.ListComp elt [⟨tg,iter,ifs,0⟩] scope pos) 0 it acc env).onRaise (fun x=>do noteFrame x env;theTreesLotGoes x)) _ _ s;refine wpAny_noted ?_;rw[compTurn_list];refine aaa (aeZ (aaa (acf (turn n s hJ) (fun r s1 k1=>?_) fun _ _ z=>z)));cases r with
 |none=>exact wpAny_pure k1
 |some v=>
  refine aaa (acf k1 (fun _ s1 k1=>?_) fun _ _ z=>z);refine aaa (acf k1 (fun _ s2 k2=>aaa (acf k2 (fun ok s3 k3=>?_) fun _ _ z=>z)) fun _ _ z=>z);cases ok with
  |false=>exact wpAny_pure ⟨rfl,k3⟩
  |true=>exact aaa (aaa (acf k3 (fun x s4 k4=>aaa (acf k4 (fun _ s5 k5=>wpAny_pure (wpAny_pure ⟨rfl,k5⟩)) fun _ _ z=>z)) fun _ _ z=>z))
inductive CompI (Y:Cx) (Z:St->Prop) (tn:Nat->Heap->Prop) (fp:BBE) (D:Addr) (W:Nat->Nat->List V->Hp->Prop) (n:Nat) (s':Shared):Prop
 |mk (i:Nat) (ys:List V) (us:AAL) (H':Hp) (z:St) (hz:Z z) (I:Inv Y [] z H' s') (st:tn i s'.heap) (fr:∀b∈fp,H' b=none) (d:H' D=none) (a:s'.heap.get? D=some {cls:=.type "list",data:=.seq us.toArray us.length}) (v:Vals ys us) (w:W i n ys H')
def vK {tg:Expr}{N:BBB}{s:Shared}{z0:St}{Q:VK}{Z:St->Prop}{pt:V->Hp->St->Prop}{R:It->Hp->Prop}
    (T:eO X x bL cap scope cl) (hc:X.calm=true) (hi:PI X tg iter wi)
    (ht:∀C s H fp,J0 (cj X N scope cl C s H fp) ifs tc) (he:∀C s H fp,PE (cj X N scope cl C s H fp) elt te)
    (hs:∀x,foldedSetIterable iter X.env x=pure x) (I:Inv X pins σ H s) (h:wi σ H R)
    (hR:∀J H1,R J H1->∃W:Nat->Nat->List V->Hp->Prop,(∃m,W 0 m [] H1)/\∀i m ys H,W i m ys H->ys.length<sizeLine/\
      ((J.stop i H/\∀p,H p=none->Q (.ref p) (upd H p (.lst ys)))\/
       (J.go i H/\∀x H',J.Qv i H x H'->∃z,pt x H' z/\tc z H' fun b H2=>if b=true then te z H2 fun y H3=>∃m',m' < m/\W (i+1) m' (ys++[y]) H3 else ∃m',m' < m/\W (i+1) m' ys H2)))
    (hZ:Z z0) (hI:∀{s s4:Shared}{H:Hp}{C:Addr}{fp:BBE}{m':AAF},Inv X pins σ H s->(∀b∈fp,rL X pins H b)->(∀b∈fp,∃o,s.heap.get? b=some o)->s.heap.objs.size<=C->s4.heap.Ns C m'->s4.os=s.os->s4.gens=s.gens->(∀b o,s.heap.get? b=some o->s4.heap.get? b=some o)->Inv (cj X N scope cl C s H fp) [] z0 H s4)
    (hG:∀{Y:Cx}{C:Addr}{z z':St}{xv:V}{H:Hp},Y.N=N->Y.env=compEnvC scope cl C X.env->Y.K=X.K->Y.calm=true->Z z->pt xv H z'->Z z'/\∃g,PG Y tg g/\g xv z H fun σ' H'=>σ'=z'/\H'=H)
    (hend:∀(D C:Addr) (s7:Shared) (H6:Hp) (ys:List V),Inv X pins σ (upd H6 D (.lst ys)) s7->(∃m,s7.heap.Ns C m)->rL X pins (upd H6 D (.lst ys)) C->Q (.ref D) (upd H6 D (.lst ys))->compPost (model X.prog X.w) X.A X.xe use Qf (.ref D) C (.ok .next) s7):
    wpAny (model X.prog X.w) X.A (comprehension (.ListComp elt [⟨tg,iter,ifs,0⟩] scope pos) scope X.env pos2 (newList []) false (eval iter X.env) use) Qf X.xe s:=by
  refine wpAny_comprehension_free (use:=use) rfl hs T.clos T.kind T.names (fE (hi pins s σ H _ I h) fun v s1 h1=>fE h1 fun itv s2 h2=>aco fun ng=>?_);obtain⟨it,fp,tn,J,H2,rfl,I2,M1,st2,f2,hJ⟩:=h2;obtain⟨W,⟨m0,w0⟩,turn⟩:=hR J H2 hJ;refine ng (ab5 (wpAny_newFunctionEnv T.kQ (by intro y hy;simp at hy) (fun h4 M3 J3=>?_) T.kind));clear ng;dsimp only at M3 J3 ⊢;generalize Z4:s2.heap.push {cls:=.type "list",dict:=none,data:=.seq ([]:AAL).toArray}=H3 at M3 J3 ⊢;have eC:H3.objs.size=s2.heap.objs.size+1:=by rw[<-Z4,adu]
  generalize eC':H3.objs.size=C at eC M3 J3 ⊢;generalize eD:s2.heap.objs.size=D at eC ⊢;have VL:C=D+1:=eC;have hDC:D≠C:=by rw[VL];exact abu (adK D)
  have hC:s2.heap.objs.size<=C:=by rw[eD,VL];exact adF D
  have hD:s2.heap.objs.size<=D:=by rw[eD];exact aam D
  have kept:∀b o,s2.heap.get? b=some o->h4.get? b=some o:=fun b o e=>J3.extBut b o (abu (aaE (aau e) hC)) (aai _ (Z4▸aai _ e));have hacc:h4.get? D=some {cls:=.type "list",data:=.seq ([]:AAL).toArray ([]:AAL).length}:=J3.extBut _ _ hDC (aai _ (Z4▸eD▸aaF _ rfl));have fo2:∀b∈fp,∃o,s2.heap.get? b=some o:=fun b hb=>let⟨o,e,_⟩:=M1.obj _ _ st2 b hb;⟨o,e⟩
  have hDf:D∉fp:=fun hb=>by
    obtain⟨o,e⟩:=fo2 D hb;exact absurd (aaE (aau e) hD) (acz _)
  have st4:tn 0 h4:=M1.keep _ _ _ st2 fun b _ o e=>kept b o e;have key:∀s5:Shared,s5={s2 with heap:=h4,toks:=s2.toks+([]:List (Str×Value)).length}->
      codeAny (model X.prog X.w) X.A (.compLoop (.ListComp elt [⟨tg,iter,ifs,0⟩] scope pos) 0 (.ref it) (.ref D) (compEnvC scope cl C X.env)) (compPost (model X.prog X.w) X.A X.xe use Qf (.ref D) C) s5:=by
    rintro s5 rfl;have I4:Inv (cj X N scope cl C s2 H2 fp) [] z0 H2 {s2 with heap:=h4,toks:=s2.toks+([]:List (Str×Value)).length}:=
      hI (s4:={s2 with heap:=h4,toks:=s2.toks+([]:List (Str×Value)).length}) I2 f2 fo2 hC M3 rfl rfl kept
    generalize hY:cj X N scope cl C s2 H2 fp=Y at I4;have fD:∀{H':Hp},H' D=none->rL Y [] H' D:=fun {H'} hn=>by
      subst hY;refine⟨hn,hDC,fun z=>(aav.mp (I2.wU D z)).elim (fun q=>absurd (aaE (q▸I2.lt) hD) (acz _)) fun q=>I2.UW hD q,.inr hD,fun y c e z=>?_,fun p hp=>absurd (show p∈([]:AAG) from hp) (by simp)⟩;obtain⟨v,q⟩:=I2.cell y c (T.cells _ _ e);exact absurd (aaE q.lt (by rw[z];exact hD)) (acz _)
    have Z5:fp=Y.ex:=hY▸rfl;have pnY:Y.pn++([]:AAG)=[]:=hY▸rfl;have fF:∀{H':Hp},(∀b∈fp,H' b=none)->∀b∈fp,rL Y [] H' b:=fun {H'} hn b hb=>by
      have q:=I4.ok.UU b (Z5▸hb);exact⟨hn b hb,fun z=>q.1 z,I4.ok.DT b (Z5▸hb),.inl (Z5▸hb),fun y c e z=>q.2 y c e z,fun p hp=>absurd (pnY▸hp) (by simp)⟩
    have eA:Y.A=X.A:=hY▸rfl;have eP:Y.prog=X.prog:=hY▸rfl;have eW:Y.w=X.w:=hY▸rfl;have eK:Y.K=X.K:=hY▸rfl;have eE:Y.env=compEnvC scope cl C X.env:=hY▸rfl;have eX:Y.xe=fun _ _=>False:=hY▸rfl;have eN:Y.N=N:=hY▸rfl;have VM:Y.calm=true:=hY▸hc;have htY:J0 Y ifs tc:=hY▸ht _ _ _ _;have heY:PE Y elt te:=hY▸he _ _ _ _;have Ef:∀(E':AAE) (e:Value) (s':Shared),Y.xe e s'->E' e s':=fun E' e s' z=>by rw[eX] at z;exact z.elim
    refine AZ (CompI Y Z tn fp D W) ?_ m0
      ⟨0,[],[],H2,z0,hZ,I4,st4,fun b hb=>(f2 b hb).1,I2.hok.fresh hD,hacc,.nil,w0⟩
    rintro n s6 ⟨i,ys,us,H6,z6,hz6,I6,st6,fr6,d6,a6,v6,w6⟩;refine aco fun ng=>?_;have hul:us.length=ys.length:=v6.length.symm;obtain⟨hz,VN⟩:=turn i n ys H6 w6;have Z6:∀{H':Hp},(∀b∈fp,H' b=none)->∀b∈fp,rL Y ([]++rM [D] s6.heap) H' b:=fun {H'} hn b hb=>by
      obtain⟨f0,f1,f2',f3,f4,f5⟩:=fF hn b hb;refine⟨f0,f1,f2',f3,f4,fun p hp z=>?_⟩;rcases aaG.mp hp with q'|q'
      . exact f5 p (adq _ q') z
      . rcases aaG.mp q' with q'|q'
        . exact absurd q' (by simp)
        . have:=(zN q').1
          rw[aao.mp this] at z;exact hDf (z▸hb)
    rcases VN with⟨stop,qn⟩|⟨go,step⟩
    . have Z7:=I6.pinned (fp:=[D]) (fun b hb=>by rw[aao.mp hb];exact fD d6) (fun b hb=>by rw[aao.mp hb];exact⟨_,a6,fun v z=>by cases z⟩)
      have q:=M1.done Y eP eW eK VM i _ s6 z6 H6 (notedBy (model X.prog X.w) X.A (compEnvC scope cl C X.env) fun e s'=>compPost (model X.prog X.w) X.A X.xe use Qf (.ref D) C (.error e) s') Z7 (Z6 fr6) st6 stop;rw[eA] at q;refine ng (fE q fun r s7 hh=>?_);obtain⟨hr,I7⟩:=hh;subst hr;have a7:s7.heap.get? D=_:=(I7.pin (D,{cls:=.type "list",data:=.seq us.toArray us.length}) (abz _ (abz _ (iw (aao.mpr rfl) a6)))).1;obtain⟨m7,Mn,_⟩:=I7.loc;rw[eE] at Mn;have VO:H6 D=none:=d6;have hCn:H6 C=none:=by have:=I7.free;rw[eE] at this;exact this
      have Z8:pB X.prog X.w H6 s7.heap:=by have q:=I7.hok;rw[eP,eW] at q;exact q
      have new:fG X.prog X.w (upd H6 D (.lst ys)) s7.heap D (.lst ys):=⟨adg hz,us,us.length,v6,a7⟩
      have u7:Un (frs X.stack) fp H2 H6 s2.heap s7.heap:=by have:=I7.base;rw[<-hY] at this;exact this
      have neD:∀b o,s2.heap.get? b=some o->b≠D:=fun b o e=>abu (aaE (aau e) hD);have u8:Un (frs X.stack) fp H2 (upd H6 D (.lst ys)) s2.heap s7.heap:=
        ⟨u7.keep,u7.slot,fun b o e n hx=>by rw[bh (neD b o e)];exact u7.free b o e n hx,u7.there,
         fun b xs e=>by have z:=u7.tups b xs e;rw[bh (bZ z VO)];exact z,fun b o u e=>by have z:=u7.zf b o u e;rw[bh (bZ z VO)];exact z,
         fun b ps e=>by obtain⟨more,z⟩:=u7.AE b ps e;exact⟨more,by rw[bh (bZ z VO)];exact z⟩⟩
      have os7:s7.os=s2.os:=by have:=I7.os;rw[<-hY] at this;exact this
      have I9:Inv X pins σ (upd H6 D (.lst ys)) s7:=I2.UZ (ch:=fp) os7 u8 (Z8.VJ VO new) I7.bare fun b hb=>⟨(f2 b hb).2.2.2.1,(f2 b hb).2.1,(f2 b hb).2.2.2.2.1,(f2 b hb).2.2.2.2.2⟩
      exact hend D C s7 H6 ys I9 ⟨m7,Mn⟩ (I2.Jo hC (by rw[bh (acj hDC)];exact hCn)) (qn D VO)
    . have Z7:=I6.pinned (fp:=[D]) (fun b hb=>by rw[aao.mp hb];exact fD d6) (fun b hb=>by rw[aao.mp hb];exact⟨_,a6,fun v z=>by cases z⟩)
      have q:=M1.item Y eP eW eK VM i _ s6 z6 H6 (notedBy (model X.prog X.w) X.A (compEnvC scope cl C X.env) fun e s'=>compPost (model X.prog X.w) X.A X.xe use Qf (.ref D) C (.error e) s') Z7 (Z6 fr6) st6 go;rw[eA] at q;refine ng (fE q fun r s6' hh=>aco fun ng=>?_);obtain⟨u,hr,h7⟩:=hh;subst hr;refine ng (fE h7 fun _ s7 hh=>aco fun ng=>?_);obtain⟨xv,H8,I8,r8,y8,Z9,fr8⟩:=hh;have I8':=I8.pinned (Z6 fr8) (M1.obj _ _ Z9);obtain⟨z8,p8,stp⟩:=step xv _ y8;obtain⟨hz8,g,hgY,gx⟩:=hG eN eE eK VM hz6 p8;have qa:=hgY _ s7 z6 H8 xv u (fun σ' H'=>σ'=z8/\H'=H8) I8' r8 gx;rw[eP,eW,eA,eE] at qa;refine ng (acf qa (fun _ s9 h9=>aco fun ng=>?_) (Ef _));obtain⟨VP,H9,I9,e9,e9'⟩:=h9;subst e9 e9';have qt:=htY _ s9 _ _ _ I9 stp;rw[eP,eW,eA,eE] at qt;refine ng (acf qt (fun ok s10 h10=>?_) (Ef _));obtain⟨H10,I10,Yg⟩:=h10;have back:∀{s':Shared}{H':Hp},Inv Y (([]++rM [D] s6.heap)++rM fp s7.heap) VP H' s'->Inv Y [] VP H' s'/\tn (i+1) s'.heap/\(∀b∈fp,H' b=none)/\H' D=none/\s'.heap.get? D=some {cls:=.type "list",data:=.seq us.toArray us.length}:=fun {s' H'} J=>by
        refine⟨J.pD.pD,M1.keep _ _ _ Z9 fun b hb o e=>(J.pin (b,o) (abz _ (abz _ (iw hb e)))).1,fun b hb=>?_,?_,?_⟩
        . obtain⟨o,e,d⟩:=M1.obj _ _ Z9 b hb
          exact(J.pin (b,o) (abz _ (abz _ (iw hb e)))).2.1
        . exact(J.pin (D,_) (abz _ (adq _ (abz _ (iw (aao.mpr rfl) a6))))).2.1
        . exact(J.pin (D,_) (abz _ (adq _ (abz _ (iw (aao.mpr rfl) a6))))).1
      cases ok with
      |false=>
        rw[if_neg (by decide)] at Yg ⊢;obtain⟨m',hm,w10⟩:=Yg;obtain⟨b1,b2,b3,b4,b5⟩:=back I10;exact⟨m',hm,i+1,ys,us,H10,VP,hz8,b1,b2,b3,b4,b5,v6,w10⟩
      |true=>
        rw[if_pos rfl] at Yg ⊢;have qe:=heY _ s10 _ _ _ I10 Yg;rw[eP,eW,eA,eE] at qe;refine acf qe (fun y s11 h11=>?_) (Ef _);obtain⟨yv,H11,I11,r11,m',hm,w11⟩:=h11;obtain⟨b1,b2,b3,b4,b5⟩:=back I11;refine append_at (hsz:=by rw[aak,hul];exact adg hz) b5 fun h12 aab aac=>?_;have k12:∀b o,b≠D->s11.heap.get? b=some o->h12.get? b=some o:=fun b o hb e=>aab.extBut b o hb e;obtain⟨g0,g1,g2,g3,g4,g5⟩:=fD b4;have I12:Inv Y [] VP H11 {s11 with heap:=h12}:=b1.turned (t':=s11.toks) k12 g0 g1 g3 g4 g5;refine⟨m',hm,i+1,ys++[yv],us++[y],H11,VP,hz8,I12,M1.keep _ _ _ b2 fun b hb o e=>k12 b o (fun z=>hDf (z▸hb)) e,b3,b4,aac.trans (congrArg some (Q0 us y)),v6.append (.cons r11 .nil),w11⟩
  exact codeAny_compStart_list (key _ rfl) (M1.self _ 0 _ _ _ st4 (key _ rfl))
def w5 {s:Shared}{Q:VK}
  (T:eO X x bL cap scope cl) (hc:X.calm=true) (hi:PI X (.Name x px) iter wi)
  (ht:∀C s H fp,J0 (cj X (x::bL) scope cl C s H fp) ifs tc) (he:∀C s H fp,PE (cj X (x::bL) scope cl C s H fp) elt te)
  (hs:∀x,foldedSetIterable iter X.env x=pure x) (I:Inv X pins σ H s) (h:Ud wi cap tc te σ H Q)
  (hend:∀(D C:Addr) (s7:Shared) (H6:Hp) (ys:List V),Inv X pins σ (upd H6 D (.lst ys)) s7->(∃m,s7.heap.Ns C m)->rL X pins (upd H6 D (.lst ys)) C->Q (.ref D) (upd H6 D (.lst ys))->compPost (model X.prog X.w) X.A X.xe use Qf (.ref D) C (.ok .next) s7):
  wpAny (model X.prog X.w) X.A (comprehension (.ListComp elt [⟨.Name x px,iter,ifs,0⟩] scope pos) scope X.env pos2 (newList []) false (eval iter X.env) use) Qf X.xe s:=
 vK (N:=x::bL) (z0:=none::dj cap σ) (Z:=fun z=>∃o,z=o::dj cap σ) (pt:=fun v _ z=>z=some v::dj cap σ) T hc hi ht he hs I h
  (fun J H1 ⟨W,w0,t⟩=>⟨W,w0,fun i m ys H w=>⟨(t i m ys H w).1,(t i m ys H w).2.imp id fun⟨g,k⟩=>⟨g,fun v H' y=>⟨_,rfl,k v H' y⟩⟩⟩⟩) ⟨none,rfl⟩ (fun I2=>J1 I2 T)
  (by
   rintro Y C _ _ xv H eN eE _ _ ⟨o,rfl⟩ rfl;exact⟨⟨_,rfl⟩,zM 0,wF (by rw[eN];exact T.nd) (by rw[eN];rfl) (by rw[eE];exact .inl (ac7 T.loc)) (.inr (by rw[eE];exact ac7 T.loc)),rfl,rfl⟩) hend
def xg 
  (T:eO X x bL cap scope cl) (hc:X.calm=true) (hi:PI X (.Name x px) iter wi)
  (ht:∀C s H fp,J0 (cj X (x::bL) scope cl C s H fp) ifs tc) (he:∀C s H fp,PE (cj X (x::bL) scope cl C s H fp) elt te)
  (hs:∀x,foldedSetIterable iter X.env x=pure x:=by intro _;rfl):
  PE X (.ListComp elt [⟨.Name x px,iter,ifs,0⟩] scope pos) (Ud wi cap tc te):=by
 intro pins s σ H Q I h;rw[eval_ListComp];refine w5 T hc hi ht he hs I h ?_;rintro p C s7 H6 ys I9 ⟨m7,Mn⟩ ⟨g0,g1,g2,g3,g4,g5⟩ q;exact⟨m7,Mn,fun h' hs'=>⟨.ref p,_,I9.turned (t':=s7.toks) (fun b o hb e=>hs'.extBut b o hb e) g0 g1 g3 g4 g5,rfl,q⟩⟩
def J4 {i:Nat}{y:Str}{py spos:Pos}
  (T:eO X x bL cap scope cl) (hc:X.calm=true) (hi:PI X (.Name x px) iter wi)
  (ht:∀C s H fp,J0 (cj X (x::bL) scope cl C s H fp) ifs tc) (he:∀C s H fp,PE (cj X (x::bL) scope cl C s H fp) elt te)
  (hs:∀x,foldedSetIterable iter X.env x=pure x) (hN:X.N.Nodup) (hy:X.N[i]? =some y) (hx:Loc X.env.scope y)
  (hsw:swapsWith (.ListComp elt [⟨.Name x px,iter,ifs,0⟩] scope pos) (some (.Name y py)) spos.line X.env=pure true) (hf:X.fn y=true\/X.env.scope.names.lookup y=some .local):
  PS X (.Assign [.Name y py] (.ListComp elt [⟨.Name x px,iter,ifs,0⟩] scope pos) spos) (Jl (Ud wi cap tc te) (zM i)):=by
 intro pins s σ H D I h;rw[exec_Assign_Name_used _ _ _ _ hsw];refine aaa (aeZ (aaa ?_));show wpAny _ X.A (do let _ <-comprehension (.ListComp elt [⟨.Name x px,iter,ifs,0⟩] scope pos) scope X.env _ (newList []) false (eval iter X.env) (some (assign (.Name y py) X.env))) _ _ s;refine aaa (acf (w5 (Qf:=fun _ s'=>SP X pins D .next s') T hc hi ht he hs I h ?_) (fun _ s' hq=>wpAny_pure (wpAny_pure hq)) fun _ _ e=>e);rintro p C s7 H6 ys I9 ⟨m7,Mn⟩ ⟨g0,g1,g2,g3,g4,g5⟩ q;refine ae9 (uG I9 hN hy hx (v:=.ref p) (show RelV (.ref p) (.ref p) from rfl) (fun s8 I8 hh=>?_) hf);obtain⟨a,hsb,ha⟩:=hh;have hne:C≠a:=ha.elim (fun z=>by rw[z];exact g1) fun z=>acj (g4 _ _ z);refine⟨m7,Mn.sameBut hsb hne,fun h' hs'=>?_⟩;exact⟨_,_,I8.turned (t':=s8.toks) (fun b o hb e=>hs'.extBut b o hb e) g0 g1 g3 g4 g5,q⟩
noncomputable def Its (z:Str):It:=⟨fun i _=>i<z.cps.size,fun i H x H'=>H'=H/\∃c,z.cps[i]? =some c/\x= .str ⟨#[c]⟩,fun i _=>z.cps.size<=i⟩
def J5 (z:Str) (it:Addr) (t:Tok) (ty:String) (hW:∀A':Around,A'.handled=none->Walks P w A' it [it] [it] z.cps.size (SignAt z) fun i h=>h.IsStrIter it ty z t i)
  (hself:∀(A:Around) (i:Nat) (s:Shared) (Q:AAE) (E:AAE),s.heap.IsStrIter it ty z t i->Q (.ref it) s->wpAny (model P w) A (pyIter (.ref it)) Q E s):
  Turn P w K (.Name x px) (Its z) [it] it (fun i h=>i<=z.cps.size/\h.IsStrIter it ty z t i) where
 mem:=by simp
 obj:=fun i h st b hb=>by
  obtain rfl:b=it:=by simpa using hb
  obtain⟨o,e,c,d⟩:=st.2;exact⟨o,e,fun v q=>by rw[d] at q;cases q⟩
 keep:=fun i h h' st k=>by
  obtain⟨o,e,r⟩:=st.2;exact⟨st.1,o,k it (by simp) o e,r⟩
 item:=by
  intro X hP hw hK hc i pins s σ H E I hf st hg;subst hP hw hK;obtain⟨f0,f1,f2,f3,f4,f5⟩:=hf it (by simp);refine(hW X.A (I.ok.hd hc)).item i s _ _ hg st.2 fun v h' tk hv st' kk=>?_;obtain⟨c,u,hc',rfl⟩:=hv;exact⟨_,rfl,wpAny_pure ⟨.str ⟨#[c]⟩,H,I.turned (fun b o hb e=>kk b o (by simpa using hb) e) f0 f1 f3 f4 f5,⟨u,rfl⟩,⟨rfl,c,hc',rfl⟩,⟨hg,st'⟩,fun b hb=>(hf b hb).1⟩⟩
 done:=by
  intro X hP hw hK hc i pins s σ H E I hf st hg;subst hP hw hK;obtain⟨f0,f1,f2,f3,f4,f5⟩:=hf it (by simp);obtain⟨s1,s2⟩:=st;have e:i=z.cps.size:=Nat.le_antisymm s1 hg;subst e;exact(hW X.A (I.ok.hd hc)).done s _ _ s2 fun h' tk kk=>⟨rfl,I.turned (fun b o hb e=>kk b o (by simpa using hb) e) f0 f1 f3 f4 f5⟩
 self:=fun A i s Q E st h=>hself A i s Q E st.2 h
def aae (tl:TE):TI:=fun σ H R=>tl σ H fun x H1=>∃z,x= .str z/\R (Its z) H1
def Q2 {l:Expr}{tl:TE}(hl:PE X l tl):PI X (.Name x px) l (aae tl):=by
 intro pins s σ H R I h;refine fE (hl pins s σ H _ I h) fun v s1 hh=>?_;obtain⟨y,H1,I1,r1,q1⟩:=hh;obtain⟨z,rfl,q⟩:=q1;obtain⟨t,rfl⟩:=r1;refine wpAny_pyIter_strU ?_;have hst:∀ty,strIterType z=ty->(s1.heap.push {cls:=.type (strIterType z),data:=.fields #[.str z t,.int 0 0]}).IsStrIter s1.heap.objs.size ty z t 0:=fun ty e=>⟨_,aaF _ rfl,by rw[<-e],rfl⟩
 have go:∀ty,strIterType z=ty->(∀A':Around,A'.handled=none->Walks X.prog X.w A' s1.heap.objs.size [s1.heap.objs.size] [s1.heap.objs.size] z.cps.size (SignAt z) fun i h=>h.IsStrIter s1.heap.objs.size ty z t i)->
   (∀(A:Around) (i:Nat) (s:Shared) (Q:AAE) (E:AAE),s.heap.IsStrIter s1.heap.objs.size ty z t i->Q (.ref s1.heap.objs.size) s->wpAny (model X.prog X.w) A (pyIter (.ref s1.heap.objs.size)) Q E s)->
   ZN X pins σ (.Name x px) R (.ref s1.heap.objs.size) {s1 with heap:=s1.heap.push {cls:=.type (strIterType z),data:=.fields #[.str z t,.int 0 0]}}:=fun ty e hW hself=>by
  refine⟨s1.heap.objs.size,[s1.heap.objs.size],_,_,H1,rfl,I1.kept (t':=s1.toks) fun b o e=>aai _ e,J5 z _ t ty hW hself,⟨abH _,hst ty e⟩,fun b hb=>?_,q⟩;obtain rfl:b=s1.heap.objs.size:=by simpa using hb
  exact I1.Jo (aam _) (I1.hok.fresh (aam _))
 cases ha:z.cps.all (· < 128)
 ·exact go "str_iterator" (by simp[strIterType,ha]) (fun A' hA=>Walks.strWide hA _ z t) fun A i s Q E st h=>wpAny_pyIter_striter_wide st h
 ·exact go "str_ascii_iterator" (by simp[strIterType,ha]) (fun A' hA=>Walks.strAscii hA _ z t) fun A i s Q E st h=>wpAny_pyIter_striter_ascii st h
def Cz {bs:List Bool}:∀{us:AAL},Vals (bs.map V.bl) us->us=bs.map Value.bool:=by
 induction bs with
 |nil=>intro us r;cases r;rfl
 |cons b bs ih=>
  intro us r;cases r with
  |cons r1 r2=>
   cases r1;rw[ih r2];rfl
def Eg (bs:List Bool):((List.range bs.length).all fun i=>(bs[i]?).getD true)=bs.all id:=by
 rw[ac8,ab2,ab2];constructor
 ·intro h b hb;obtain⟨i,hi,rfl⟩:=List.mem_iff_getElem.mp hb;have:=h i (ack.mpr hi)
  simpa[hi] using this
 ·intro h i hi;have hi:=ack.mp hi;simp only[aaz hi,adL];exact h _ (aej hi)
def Eh (bs:List Bool):((List.range bs.length).any fun i=>(bs[i]?).getD false)=bs.any id:=by
 rw[ac8,abI,abI];constructor
 ·rintro⟨i,hi,h⟩;have hi:=ack.mp hi;simp only[aaz hi,adL] at h;exact⟨_,aej hi,h⟩
 ·rintro⟨b,hb,h⟩;obtain⟨i,hi,rfl⟩:=List.mem_iff_getElem.mp hb;exact⟨i,ack.mpr hi,by simpa[hi] using h⟩
def Ho (hc:X.calm=true):gT X (.builtin "all") (fun xs H Q=>∃(p:Addr) (bs:List Bool),xs=[.ref p]/\mQ X.K H p (bs.map V.bl)/\Q (.bl (bs.all id)) H):=by
 intro pins s σ H xs us Q I r h;obtain⟨p,bs,rfl,hp,q⟩:=h;obtain⟨u,rfl,ru⟩:=vals1 r;cases ru;obtain⟨its,rv,pl,hz⟩:=I.list hp;obtain rfl:=Cz rv;have hlt:p<s.heap.objs.size:=by obtain⟨_,e,_⟩:=pl.isList;exact aau e
 refine call_all_walk (ad6 pl.isList ?_);refine⟨s.heap.objs.size,[s.heap.objs.size,p],[s.heap.objs.size],_,_,_,fun i=>(bs[i]?).getD true,rfl,Walks.list (A:=X.A.in1) (I.ok.hd hc) _ p (abu hlt) _,
  ⟨⟨_,aaF _ rfl,rfl,rfl⟩,pl.isList.push _⟩,fun i v s' Q' E' hP hQ=>?_,fun h' tk hk=>?_⟩
 ·have hP:(bs.map Value.bool)[i]? =some v:=by simpa using hP
  rw[abx] at hP;cases e:bs[i]? with
  |none=>rw[e] at hP;cases hP
  |some b=>
   rw[e] at hP;cases hP;simp only[e,adL] at hQ;exact ac9 hQ
 ·have e:((List.range (bs.map Value.bool).toArray.size).all fun i=>(bs[i]?).getD true)=bs.all id:=by
   rw[aak,aah];exact Eg bs
  rw[e];exact⟨.bl (bs.all id),H,I.kept (t':=tk) fun b o e=>hk b o (fun hm=>by rw[aao.mp hm] at e;exact acz _ (aau e)) (aai _ e),rfl,q⟩
def Hq (hc:X.calm=true):gT X (.builtin "any") (fun xs H Q=>∃(p:Addr) (bs:List Bool),xs=[.ref p]/\mQ X.K H p (bs.map V.bl)/\Q (.bl (bs.any id)) H):=by
 intro pins s σ H xs us Q I r h;obtain⟨p,bs,rfl,hp,q⟩:=h;obtain⟨u,rfl,ru⟩:=vals1 r;cases ru;obtain⟨its,rv,pl,hz⟩:=I.list hp;obtain rfl:=Cz rv;have hlt:p<s.heap.objs.size:=by obtain⟨_,e,_⟩:=pl.isList;exact aau e
 refine call_any_walk (ad6 pl.isList ?_);refine⟨s.heap.objs.size,[s.heap.objs.size,p],[s.heap.objs.size],_,_,_,fun i=>(bs[i]?).getD false,rfl,Walks.list (A:=X.A.in1) (I.ok.hd hc) _ p (abu hlt) _,
  ⟨⟨_,aaF _ rfl,rfl,rfl⟩,pl.isList.push _⟩,fun i v s' Q' E' hP hQ=>?_,fun h' tk hk=>?_⟩
 ·have hP:(bs.map Value.bool)[i]? =some v:=by simpa using hP
  rw[abx] at hP;cases e:bs[i]? with
  |none=>rw[e] at hP;cases hP
  |some b=>
   rw[e] at hP;cases hP;simp only[e,adL] at hQ;exact ac9 hQ
 ·have e:((List.range (bs.map Value.bool).toArray.size).any fun i=>(bs[i]?).getD false)=bs.any id:=by
   rw[aak,aah];exact Eh bs
  rw[e];exact⟨.bl (bs.any id),H,I.kept (t':=tk) fun b o e=>hk b o (fun hm=>by rw[aao.mp hm] at e;exact acz _ (aau e)) (aai _ e),rfl,q⟩
def aaf:V->BBM->BBM->Hp->VK->Prop:=fun x lo hi H Q=>∃z,x= .str z/\z.length<=sizeLine/\((Txt.slice z lo hi).length<=z.length->Q (.str (Txt.slice z lo hi)) H)
def Q3 :VC X aaf:=by
 intro pins s σ H x v vl vu lo hi sl Q I rx hs pl pu h;obtain⟨z,rfl,hz,q⟩:=h;obtain⟨t,rfl⟩:=rx;have q:=q (aeC z _ _);refine⟨"str",_,F.slot_str_getitem.lookup,typeIs_str _ _ _,?_⟩;cases pl with
 |none=>
  cases pu with
  |none=>exact adz (l:=none) (u:=none) (st:=none) hs rfl (aeE ⟨abl (aeC z _ _) hz,fun t' k=>⟨V.str (Txt.slice z none none),H,I.tok k,⟨t',rfl⟩,q⟩⟩)
  |int j u=>exact adz (l:=none) (u:=some (j,u)) (st:=none) hs rfl (aeE ⟨abl (aeC z _ _) hz,fun t' k=>⟨V.str (Txt.slice z none (some j)),H,I.tok k,⟨t',rfl⟩,q⟩⟩)
 |int i u'=>
  cases pu with
  |none=>exact adz (l:=some (i,u')) (u:=none) (st:=none) hs rfl (aeE ⟨abl (aeC z _ _) hz,fun t' k=>⟨V.str (Txt.slice z (some i) none),H,I.tok k,⟨t',rfl⟩,q⟩⟩)
  |int j u=>exact adz (l:=some (i,u')) (u:=some (j,u)) (st:=none) hs rfl (aeE ⟨abl (aeC z _ _) hz,fun t' k=>⟨V.str (Txt.slice z (some i) (some j)),H,I.tok k,⟨t',rfl⟩,q⟩⟩)
theorem bM.length {H:Hp}:∀{vs:List V}{ds:List D},bM H vs ds->vs.length=ds.length
 |_,_,.nil=>rfl
 |_,_,.cons _ rs=>congrArg Nat.succ (bM.length rs)
theorem bM.get {H:Hp}:∀{vs:List V}{ds:List D}{i:Nat}{d:D},bM H vs ds->ds[i]? =some d->∃v,vs[i]? =some v/\Rep H v d
 |_,_,_,_,.nil,e=>by simp at e
 |_,_,0,_,.cons r _,e=>by simp at e;subst e;exact⟨_,rfl,r⟩
 |_,_,i+1,_,.cons _ rs,e=>by
  obtain⟨v,h1,h2⟩:=bM.get (i:=i) rs (by simpa using e);exact⟨v,by simpa using h1,h2⟩
theorem bM.append {H:Hp}:∀{vs ws:List V}{ds es:List D},bM H vs ds->bM H ws es->bM H (vs++ws) (ds++es)
 |_,_,_,_,.nil,s=>s
 |_,_,_,_,.cons r rs,s=>.cons r (bM.append rs s)
theorem bM.take {H:Hp}:∀{vs:List V}{ds:List D}(n:Nat),bM H vs ds->bM H (vs.take n) (ds.take n)
 |_,_,0,_=>.nil
 |_,_,_+1,.nil=>.nil
 |_,_,n+1,.cons r rs=>.cons r (bM.take n rs)
theorem bM.drop {H:Hp}:∀{vs:List V}{ds:List D}(n:Nat),bM H vs ds->bM H (vs.drop n) (ds.drop n)
 |_,_,0,rs=>rs
 |_,_,_+1,.nil=>.nil
 |_,_,n+1,.cons _ rs=>bM.drop n rs
noncomputable def Q4:D->String
 |.cJ=>"NoneType" | .bl _=>"bool" | .int _=>"int" | .str _=>"str" | .tup _=>"tuple" | .lst _=>"list"
open PySem.W in
noncomputable def iE (T U:String):Option Bool:=if(Value.type T == Value.type U)=true then some true else if kitMeta U=true then(fastBuiltinMro T).map (·.contains (Value.type U)) else none
noncomputable def J6:D->Bool
 |.tup _=>true
 |_=>false
noncomputable def J7:D->Bool
 |.lst _=>true
 |_=>false
noncomputable def J8:D->Bool
 |.str _=>true
 |_=>false
noncomputable def J9:D->Bool
 |.bl _=>true
 |_=>false
noncomputable def Ka:D->Bool
 |.int _=>true
 |.bl _=>true
 |_=>false
def M4 (d:D):PySem.W.kitOne K (.type (Q4 d)) (.type "tuple")=some (J6 d):=by
 cases d with
 |cJ=>exact(show iE "NoneType" "tuple" =some false by decide +kernel)
 |bl b=>exact(show iE "bool" "tuple" =some false by decide +kernel)
 |int i=>exact(show iE "int" "tuple" =some false by decide +kernel)
 |str z=>exact(show iE "str" "tuple" =some false by decide +kernel)
 |tup ds=>exact(show iE "tuple" "tuple" =some true by decide +kernel)
 |lst ds=>exact(show iE "list" "tuple" =some false by decide +kernel)
def M5 (d:D):PySem.W.kitOne K (.type (Q4 d)) (.type "list")=some (J7 d):=by
 cases d with
 |cJ=>exact(show iE "NoneType" "list" =some false by decide +kernel)
 |bl b=>exact(show iE "bool" "list" =some false by decide +kernel)
 |int i=>exact(show iE "int" "list" =some false by decide +kernel)
 |str z=>exact(show iE "str" "list" =some false by decide +kernel)
 |tup ds=>exact(show iE "tuple" "list" =some false by decide +kernel)
 |lst ds=>exact(show iE "list" "list" =some true by decide +kernel)
def Kc (d:D):PySem.W.kitOne K (.type (Q4 d)) (.type "str")=some (J8 d):=by
 cases d with
 |cJ=>exact(show iE "NoneType" "str" =some false by decide +kernel)
 |bl b=>exact(show iE "bool" "str" =some false by decide +kernel)
 |int i=>exact(show iE "int" "str" =some false by decide +kernel)
 |str z=>exact(show iE "str" "str" =some true by decide +kernel)
 |tup ds=>exact(show iE "tuple" "str" =some false by decide +kernel)
 |lst ds=>exact(show iE "list" "str" =some false by decide +kernel)
def Q5 (d:D):PySem.W.kitOne K (.type (Q4 d)) (.type "bool")=some (J9 d):=by
 cases d with
 |cJ=>exact(show iE "NoneType" "bool" =some false by decide +kernel)
 |bl b=>exact(show iE "bool" "bool" =some true by decide +kernel)
 |int i=>exact(show iE "int" "bool" =some false by decide +kernel)
 |str z=>exact(show iE "str" "bool" =some false by decide +kernel)
 |tup ds=>exact(show iE "tuple" "bool" =some false by decide +kernel)
 |lst ds=>exact(show iE "list" "bool" =some false by decide +kernel)
def M6 (d:D):PySem.W.kitOne K (.type (Q4 d)) (.type "int")=some (Ka d):=by
 cases d with
 |cJ=>exact(show iE "NoneType" "int" =some false by decide +kernel)
 |bl b=>exact(show iE "bool" "int" =some true by decide +kernel)
 |int i=>exact(show iE "int" "int" =some true by decide +kernel)
 |str z=>exact(show iE "str" "int" =some false by decide +kernel)
 |tup ds=>exact(show iE "tuple" "int" =some false by decide +kernel)
 |lst ds=>exact(show iE "list" "int" =some false by decide +kernel)
end L2
end
section
namespace HT
open PySem PySem.Spec PyProof.Rows
section
variable {prog:Program}{w:World}{A:Around}{E:AAE}{s:Shared}
def Hr {t sl:Addr}{items:AAK}{vl vu:Value}{lo hi:BBM}{Q:AAE}(ht:IsTup s.heap t items) (hs:s.heap.IsSliceOf sl vl vu .none) (pl:IsPart vl lo) (pu:IsPart vu hi)
  (hw:fZ items.size 0 lo=0/\fZ items.size items.size hi=items.size) (h:Q (.ref t) s):wpAny (model prog w) A (getItem (.ref t) (.ref sl)) Q E s:=by
 obtain⟨os,hos,hcs,hds⟩:=id hs;have VB:s.TypeIs (.ref sl) "slice":=⟨os,hos,hcs⟩
 unfold getItem
 try with_reducible refine acm ?_
 first|refine aaa (wpAny_pure ?_)|skip
 refine aaa (afc ht.typeIs (by decide) ?_);refine aaa (acP (name:=Str.ofString "__getitem__") ht.typeIs abT
  (ac4 abT ht.typeIs entry_tuple_getitem ?_ (args_tuple_getitem _ _)))
 show wpAny _ _ (Builtin.Tuple.tupleItemsOf (.ref t) >>= _) _ _ s;refine aaa (tupleItemsOf_ ht ?_);refine aaa (adW VB ?_);rw[if_pos (by decide)];refine aaa (mR hs pl pu ?_);have hyes:(((fZ items.size 0 lo:Nat):Int) == 0 && (1:Int) == 1 && (fZ items.size items.size hi-fZ items.size 0 lo) == items.size)=true:=by
  rw[hw.1,hw.2];simp
 show wpAny _ _ (if(((fZ items.size 0 lo:Nat):Int) == 0 && (1:Int) == 1 && (fZ items.size items.size hi-fZ items.size 0 lo) == items.size)=true then _ else _) _ _ s;rw[if_pos hyes];have hex:∀{α:Type}{k:Bool->Sem α}{Q':α->Shared->Prop}{E':AAE}{A':Around},wpAny (model prog w) A' (k true) Q' E' s->wpAny (model prog w) A' (Builtin.Tuple.tupleIsExact (.ref t) >>= k) Q' E' s:=fun {α k Q' E' A'} hk=>by
  refine aaa ?_;unfold Builtin.Tuple.tupleIsExact;exact aaa (adW ht.typeIs (wpAny_pure hk))
 first
  |(refine hex ?_;exact adM (wpAny_pure ⟨_,rfl,wpAny_pure h⟩))
  |(refine hex ?_;refine aaa (adM ?_);exact wpAny_pure ⟨_,rfl,wpAny_pure h⟩)
end
end HT
end
section
namespace L2
open PySem PySem.Spec PyProof.Rows
variable {H F1 H1 F' H' H0 F0:Hp}{ds es:List D}{scope:Scope}{X:Cx}{x:Str}{K:AAD}{a p ca cb:Addr}{ns:BBD}{κ α β:Type}{k:Bool}{i n:Nat}{o:HO}{B:Base}{S S' S0:SS}{σ:St}{u:U}{Q E:AAE}{T:String}{op:CmpOp}{q1 q2 q:GT}{r Kl ifs:BBC}{y:V}{xs vs:List V}{tg iter elt:Expr}{bd:GB}{gd g:GD}{gi:GI}{us ws:List U}{cap:BBJ}{cl:List (Str×Addr)}{bL:BBB}{A:Around}{fS cE:AAL}{kvs:List (Key×V)}{prog:Program}{zB:List (Str×GD)}{its:AAK}
section

def Rep.iV {v:V}(r:Rep H v (.tup ds)):∃a vs,v= .ref a/\H a=some (.tup vs)/\bM H vs ds:=by
 cases r with
 |tup e rs=>exact⟨_,_,rfl,e,rs⟩
noncomputable def cutD (ds:List D) (lo hi:BBM):List D:=(ds.drop (HT.fZ ds.length 0 lo)).take (HT.fZ ds.length ds.length hi-HT.fZ ds.length 0 lo)
def bM.d7 {H:Hp}{vs:List V}{ds:List D}{i:Int}{d:D}(r:bM H vs ds) (h:L2.d7 ds i=some d):∃v,L2.d7 vs i=some v/\Rep H v d:=by
 have hl:=r.length;unfold L2.d7 at h ⊢;rw[hl];cases e:Hh ds.length i with
 |none=>rw[e] at h;cases h
 |some j=>
  rw[e] at h;exact r.get h
end
def CA {env:Env}{n:Str}{k:NameKind}(h:(relabel scope env).names.lookup n=some k):(n,k)∈(relabel scope env).names:=acp h
def Ei (h1:∀y∈scope.names,y.2≠.free) (h2:∀y∈scope.names,y.2≠.cell) (h3:scope.kind= .function) (h4:∀y∈scope.names,y.2= .local->scope.names.lookup y.1=some .local) (h5:scope.names.lookup x=some .local):
  eO X x [] [] scope []:=by
 refine⟨closureFor_none h1,h2,h3,h4,h5,fun n c h=>(by cases h),fun n h=>?_,by simp,rfl,fun j n h=>(by simp at h),fun n h=>(by simp at h)⟩;have no:∀k,(k=NameKind.cell\/k=NameKind.free)->(relabel scope X.env).names.lookup n≠some k:=fun k hk e=>by
  have m:=CA e;unfold relabel at m;obtain⟨⟨n',k'⟩,hm,q⟩:=abt.mp m;have z:(k' == NameKind.free)=false:=by simpa using h1 _ hm
  simp only[z,ad1,adw] at q;have q2:k'=k:=by
   have:=congrArg Prod.snd q
   simpa using this
  rcases hk with rfl|rfl
  ·exact h2 _ hm q2
  ·exact h1 _ hm q2
 rcases h with h|h
 ·exact absurd h (no _ (.inl rfl))
 ·exact absurd h (no _ (.inr rfl))
mutual
def Fj (n:Nat):D->Prop
 |.str z=>z.length<=n
 |.tup ds=>ds.length<=n/\Fits n ds
 |.lst ds=>ds.length<=n/\Fits n ds
 |.cJ=>True
 |.bl _=>True
 |.int _=>True
def Fits (n:Nat):List D->Prop
 |[]=>True
 |d::ds=>Fj n d/\Fits n ds
end
noncomputable def pI (d:D) (l m:Int):Bool:=match d with
 |.int i=>decide (l<=i) && decide (i<=m)
 |_=>false
theorem lookup_some {α:Type}:∀{l:List (Str×α)}{n:Str},n∈l.map (·.1)->∃c,l.lookup n=some c
 |[],_,h=>by simp at h
 |(m,c)::l,n,h=>by
  rw[ade];cases e:n == m with
  |true=>exact⟨c,rfl⟩
  |false=>
   rcases aav.mp h with h|h
   ·have h:n=m:=h;rw[h,afo] at e;cases e
   ·exact lookup_some h
mutual
noncomputable def toPy:D->PyData
 |.cJ=>.none
 |.bl b=>.bool b
 |.int i=>.int i
 |.str z=>.str z
 |.tup ds=>.tuple (g6 ds)
 |.lst ds=>.list (g6 ds)
noncomputable def g6:List D->List PyData
 |[]=>[]
 |d::ds=>toPy d::g6 ds
end
mutual
theorem vL:∀d:D,(toPy d).hasDict=false
 |.cJ=>rfl
 |.bl _=>rfl
 |.int _=>rfl
 |.str _=>rfl
 |.tup ds=>nQ ds
 |.lst ds=>nQ ds
theorem nQ:∀ds:List D,PyData.hasDictAll (g6 ds)=false
 |[]=>rfl
 |d::ds=>by
  show((toPy d).hasDict || PyData.hasDictAll (g6 ds))=false;rw[vL d,nQ ds];rfl
end
inductive MO where
 |lst (ds:List D)
 |dct (kvs:List (Key×D))
 |zW (kvs:List (D×D))
 |ins (C:Addr) (kvs:List (Str×D))
 |gap (es:List (D ⊕ Addr))
 |lat (c:Addr) (ds:List D)
 |lK (c:Addr) (kvs:List (D×D))
 |DO (C:Addr) (kvs:List (Str×(D ⊕ Addr)))
inductive U where
 |t (d:D)|m (o:MO)|b (o:MO)|v (i:Nat)|s (ns:BBD)|f (a:Addr)|x (C:Addr) (kvs:List (Str×D))
abbrev AAA (d:D):Option U:=some (.t d)
abbrev AAB (d:List D):Option U:=some (.m (.lst d))
abbrev AAC (i:Int):Option U:=some (.t (.int i))
abbrev SS:=List (Option U)
def Sub (F H:Hp):Prop:=∀a o,F a=some o->H a=some o
def fK {κ:Type}(F:Hp) (p:κ×V) (q:κ×D):Prop:=p.1=q.1/\Rep F p.2 q.2
def A0 (F:Hp) (v:V) (C:Addr) (kvs:List (Str×D)):Prop:=∃a dx fs,v= .ref a/\F a=some (.UQ C dx fs)/\F dx=some (.own a)/\Paired (fK F) fs kvs
def A1 (F:Hp) (v:V):D ⊕ Addr->Prop
 |.inl d=>Rep F v d
 |.inr c=>v= .ref c
def Hs (F:Hp) (p:Str×V) (q:Str×(D ⊕ Addr)):Prop:=p.1=q.1/\A1 F p.2 q.2
def At (F H:Hp) (a:Addr):MO->Prop
 |.lst ds=>∃vs,H a=some (.lst vs)/\bM F vs ds
 |.dct kvs=>∃ws,H a=some (.dK ws)/\Paired (fK F) ws kvs
 |.zW kvs=>∃ws,H a=some (.dT ws)/\Paired (fK F) ws kvs
 |.ins C kvs=>∃ws,(∃dx,H a=some (.ins C dx ws))/\Paired (fK F) ws kvs
 |.gap es=>∃vs,H a=some (.lst vs)/\Paired (A1 F) vs es
 |.lat c ds=>∃vs,(a=c/\H a=some (.lst vs))/\bM F vs ds
 |.lK c kvs=>∃ws,(a=c/\H a=some (.dT ws))/\Paired (fK F) ws kvs
 |.DO C kvs=>∃ws,(∃dx,H a=some (.ins C dx ws))/\Paired (Hs F) ws kvs
noncomputable def fL:U->Bool
 |.m _=>true
 |.b _=>true
 |_=>false
def cQ (S:SS) (σ:St) (a:Addr):Prop:=∃(i:Nat) (u:U),S[i]? =some (some u)/\fL u=true/\σ[i]? =some (some (.ref a))
def M7 (K:AAD) (H:Hp) (a:Addr) (ns:BBD):Prop:=
 (∃o,H a=some (.jK o (.lst (ns.map V.int))))\/∃(o:Obj) (its:AAK) (n:Nat),K.lookup a=some o/\o.cls= .type "list"/\o.dict=none/\o.data= .seq its n/\its.size<=sizeLine/\Vals (ns.map V.int) its.toList
theorem M7.sq :M7 K H a ns->mQ K H a (ns.map V.int)
 |.inl h=>.inl (.inr h)
 |.inr h=>.inr h
def zq (K:AAD) (F H:Hp) (v:V):U->Prop
 |.t d=>Rep F v d
 |.m o=>∃a,v= .ref a/\F a=none/\At F H a o
 |.b o=>∃a,v= .ref a/\F a=none/\At F H a o
 |.v _=>False
 |.s ns=>∃a,v= .ref a/\M7 K H a ns
 |.f a=>v= .ref a
 |.x C k=>A0 F v C k
structure Ext (M:Addr->Prop) (F H F' H':Hp):Prop where
 le:∀b o,F b=some o->F' b=some o
 keep:∀b o,H b=some o->¬M b->H' b=some o
 kN:∀b o,H b=some o->¬M b->F b=none->F' b=none
 there:∀b o,H b=some o->∃o',H' b=some o'
 jK:∀b o u,H b=some (.jK o u)->H' b=some (.jK o u)
structure Base where
 P:List (BBN)
 F:Hp
 H:Hp
def Base.M (B:Base) (a:Addr):Prop:=some a∈B.P
structure Rel (K:AAD) (B:Base) (S:SS) (σ:St) (F H:Hp):Prop where
 sub:Sub F H
 len:S.length=σ.length
 rep:∀(i:Nat) u,S[i]? =some (some u)->∃v,σ[i]? =some (some v)/\zq K F H v u
 Fl:∀(i j:Nat) u w a,S[i]? =some (some u)->fL u=true->S[j]? =some (some w)->fL w=true->σ[i]? =some (some (.ref a))->σ[j]? =some (some (.ref a))->i=j
 own:∀(i:Nat) o a,S[i]? =some (some (.m o))->σ[i]? =some (some (.ref a))->B.H a=none
 bor:∀(i:Nat) o a,S[i]? =some (some (.b o))->σ[i]? =some (some (.ref a))->B.M a
 par:∀(i:Nat) a,B.P[i]? =some (some a)->σ[i]? =some (some (.ref a))/\∃o,S[i]? =some (some (.b o))
 ext:Ext B.M B.F B.H F H
structure Step (S S':SS) (σ:St) (F H F' H':Hp):Prop where
 ext:Ext (cQ S σ) F H F' H'
 mu:∀a,cQ S' σ a->cQ S σ a
 slots:∀(i:Nat) u,S[i]? =some (some u)->∃u',S'[i]? =some (some u')
def Ext.refl (M:Addr->Prop) (F H:Hp):Ext M F H F H:=⟨fun _ _ h=>h,fun _ _ h _=>h,fun _ _ _ _ h=>h,fun _ o h=>⟨o,h⟩,fun _ _ _ h=>h⟩
def Ext.trans {M M':Addr->Prop}{F F2 H2:Hp}(x:Ext M F H F1 H1) (y:Ext M' F1 H1 F2 H2) (s:∀b,M' b->M b\/H b=none):Ext M F H F2 H2 where
 le:=fun b o h=>y.le b o (x.le b o h)
 keep:=fun b o h n=>y.keep b o (x.keep b o h n) fun q=>(s b q).elim n fun z=>by rw[h] at z;cases z
 kN:=fun b o h n f=>y.kN b o (x.keep b o h n) (fun q=>(s b q).elim n fun z=>by rw[h] at z;cases z) (x.kN b o h n f)
 there:=fun b o h=>let⟨o',h'⟩:=x.there b o h;y.there b o' h'
 jK:=fun b o u h=>y.jK b o u (x.jK b o u h)
def Step.refl (S:SS) (σ:St) (F H:Hp):Step S S σ F H F H:=⟨Ext.refl _ _ _,fun _ h=>h,fun _ u h=>⟨u,h⟩⟩
def Step.trans {S S1 S2:SS}{σ:St}{F H F1 H1 F2 H2:Hp}(x:Step S S1 σ F H F1 H1) (y:Step S1 S2 σ F1 H1 F2 H2):Step S S2 σ F H F2 H2:=
 ⟨x.ext.trans y.ext fun b q=>.inl (x.mu b q),fun a q=>x.mu a (y.mu a q),fun i u h=>let⟨u',h'⟩:=x.slots i u h;y.slots i u' h'⟩
mutual
theorem Rep.le {F F':Hp}(g:∀b o,F b=some o->F' b=some o):∀{v:V}{d:D},Rep F v d->Rep F' v d
 |_,_,.cJ=>.cJ
 |_,_,.bl b=>.bl b
 |_,_,.int i=>.int i
 |_,_,.str z=>.str z
 |_,_,.tup e r=>.tup (g _ _ e) (bM.le g r)
 |_,_,.lst e r=>.lst (e.imp (g _ _) fun⟨o,h⟩=>⟨o,g _ _ h⟩) (bM.le g r)
theorem bM.le {F F':Hp}(g:∀b o,F b=some o->F' b=some o):∀{vs:List V}{ds:List D},bM F vs ds->bM F' vs ds
 |_,_,.nil=>.nil
 |_,_,.cons r rs=>.cons (Rep.le g r) (bM.le g rs)
end
def pJ {κ:Type}{F:Hp}(g:∀b o,F b=some o->F' b=some o){ws:List (κ×V)}{kvs:List (κ×D)}(r:Paired (fK F) ws kvs):Paired (fK F') ws kvs:=
 Paired.Cj r fun _ _ z=>⟨z.1,z.2.le g⟩
theorem A0.le {F:Hp}(g:∀b o,F b=some o->F' b=some o){v:V}{C:Addr}{k:List (Str×D)}:A0 F v C k->A0 F' v C k
 |⟨a,dx,fs,e,h1,h2,h3⟩=>⟨a,dx,fs,e,g _ _ h1,g _ _ h2,pJ g h3⟩
theorem A1.le {F F':Hp}(g:∀b o,F b=some o->F' b=some o){v:V}:∀{e:D ⊕ Addr},A1 F v e->A1 F' v e
 |.inl _,h=>Rep.le g h
 |.inr _,h=>h
theorem At.le {F F' H H':Hp}{a:Addr}(g:∀b o,F b=some o->F' b=some o) (k:∀o,H a=some o->H' a=some o):∀{o:MO},At F H a o->At F' H' a o
 |.lst _,⟨vs,e,r⟩=>⟨vs,k _ e,r.le g⟩
 |.dct _,⟨ws,e,r⟩=>⟨ws,k _ e,pJ g r⟩
 |.zW _,⟨ws,e,r⟩=>⟨ws,k _ e,pJ g r⟩
 |.ins _ _,⟨ws,⟨dx,e⟩,r⟩=>⟨ws,⟨dx,k _ e⟩,pJ g r⟩
 |.gap _,⟨ws,e,r⟩=>⟨ws,k _ e,Paired.Cj r fun _ _ z=>z.le g⟩
 |.lat _ _,⟨vs,⟨q,e⟩,r⟩=>⟨vs,⟨q,k _ e⟩,r.le g⟩
 |.lK _ _,⟨ws,⟨q,e⟩,r⟩=>⟨ws,⟨q,k _ e⟩,pJ g r⟩
 |.DO _ _,⟨ws,⟨dx,e⟩,r⟩=>⟨ws,⟨dx,k _ e⟩,Paired.Cj r fun _ _ z=>⟨z.1,z.2.le g⟩⟩
theorem At.has {F:Hp}:∀{o:MO},At F H a o->∃u,H a=some u
 |.lst _,⟨_,e,_⟩=>⟨_,e⟩
 |.dct _,⟨_,e,_⟩=>⟨_,e⟩
 |.zW _,⟨_,e,_⟩=>⟨_,e⟩
 |.ins _ _,⟨_,⟨_,e⟩,_⟩=>⟨_,e⟩
 |.gap _,⟨_,e,_⟩=>⟨_,e⟩
 |.lat _ _,⟨_,⟨_,e⟩,_⟩=>⟨_,e⟩
 |.lK _ _,⟨_,⟨_,e⟩,_⟩=>⟨_,e⟩
 |.DO _ _,⟨_,⟨_,e⟩,_⟩=>⟨_,e⟩
def iY (K:AAD) (B:Base) (S:SS) (σ:St) (H0 F H:Hp) (v:V):U->Prop
 |.t d=>Rep F v d
 |.m o=>∃a,v= .ref a/\H0 a=none/\F a=none/\At F H a o/\¬cQ S σ a/\B.H a=none
 |.v i=>σ[i]? =some (some v)/\∃u,S[i]? =some (some u)
 |.b _=>False
 |.s ns=>∃a,v= .ref a/\M7 K H a ns
 |.f a=>v= .ref a
 |.x C k=>A0 F v C k
def PE.imp {e:Expr}{t t':TE}(h:PE X e t) (k:∀σ H Q,t' σ H Q->t σ H Q):PE X e t':=fun pins s σ H Q I q=>h pins s σ H Q I (k σ H Q q)
def PT.imp {e:Expr}{t t':TT}(h:PT X e t) (k:∀σ H Q,t' σ H Q->t σ H Q):PT X e t':=fun pins s σ H Q I q=>h pins s σ H Q I (k σ H Q q)
def PW.imp {e:Expr}{t t':TT}(h:PW X e t) (k:∀σ H Q,t' σ H Q->t σ H Q):PW X e t':=fun w pins s σ H Q I q=>h w pins s σ H Q I (k σ H Q q)
def PA.imp {e:BBC}{t t':TA}(h:PA X e t) (k:∀σ H Q,t' σ H Q->t σ H Q):PA X e t':=fun p pins s σ H Q I q=>h p pins s σ H Q I (k σ H Q q)
def PS.imp {e:Stmt}{t t':TS}(h:PS X e t) (k:∀D σ H,t' D σ H->t D σ H):PS X e t':=fun pins s σ H Q I q=>h pins s σ H Q I (k Q σ H q)
def zh.imp {e:BBH}{t t':TS}(h:zh X e t) (k:∀D σ H,t' D σ H->t D σ H):zh X e t':=fun pins s σ H Q I q=>h pins s σ H Q I (k Q σ H q)
def PE.orelse {e:Expr}{t:TE}(h:∀σ H Q,t σ H Q->∃t',PE X e t'/\t' σ H Q):PE X e t:=fun pins s σ H Q I q=>let⟨_,h1,h2⟩:=h σ H Q q;h1 pins s σ H Q I h2
def PS.orelse {e:Stmt}{t:TS}(h:∀D σ H,t D σ H->∃t',PS X e t'/\t' D σ H):PS X e t:=fun pins s σ H Q I q=>let⟨_,h1,h2⟩:=h Q σ H q;h1 pins s σ H Q I h2
abbrev GE:=SS->Option (U×SS)
abbrev GD:=SS->Option (D×SS)
abbrev GT:=SS->Option (Bool×SS)
abbrev GA:=SS->Option (List D×SS)
inductive Out where
 |nx (S:SS)|rt (u:U) (S:SS)|bk (S:SS)|ct (S:SS)
abbrev GS:=SS->Option Out
inductive tE (K:AAD) (B:Base) (g:GE) (σ:St) (H:Hp) (Q:VK):Prop
 |mk (S:SS) (F:Hp) (u:U) (S':SS) (R:Rel K B S σ F H) (hg:g S=some (u,S')) (q:∀v F' H',Rel K B S' σ F' H'->Step S S' σ F H F' H'->iY K B S' σ H F' H' v u->Q v H')
inductive tD (K:AAD) (B:Base) (g:GD) (σ:St) (H:Hp) (Q:VK):Prop
 |mk (S:SS) (F:Hp) (d:D) (S':SS) (R:Rel K B S σ F H) (hg:g S=some (d,S')) (q:∀v F' H',Rel K B S' σ F' H'->Step S S' σ F H F' H'->Rep F' v d->Q v H')
inductive tQ (K:AAD) (B:Base) (g:GT) (σ:St) (H:Hp) (Q:Bool->Hp->Prop):Prop
 |mk (S:SS) (F:Hp) (b:Bool) (S':SS) (R:Rel K B S σ F H) (hg:g S=some (b,S')) (q:∀F' H',Rel K B S' σ F' H'->Step S S' σ F H F' H'->Q b H')
inductive tAs (K:AAD) (B:Base) (g:GA) (σ:St) (H:Hp) (Q:List V->Hp->Prop):Prop
 |mk (S:SS) (F:Hp) (ds:List D) (S':SS) (R:Rel K B S σ F H) (hg:g S=some (ds,S')) (q:∀vs F' H',Rel K B S' σ F' H'->Step S S' σ F H F' H'->bM F' vs ds->Q vs H')
def zX (K:AAD) (B:Base) (F:Hp) (D:Ends):Out->Prop
 |.nx S=>∀σ' F' H',Rel K B S σ' F' H'->(∀b o,F b=some o->F' b=some o)->D.nx σ' H'
 |.bk S=>∀σ' F' H',Rel K B S σ' F' H'->(∀b o,F b=some o->F' b=some o)->D.bk σ' H'
 |.ct S=>∀σ' F' H',Rel K B S σ' F' H'->(∀b o,F b=some o->F' b=some o)->D.ct σ' H'
 |.rt u S=>∀v σ' F' H',Rel K B S σ' F' H'->(∀b o,F b=some o->F' b=some o)->iY K B S σ' B.H F' H' v u->D.rt v H'
inductive tO (K:AAD) (B:Base) (g:GS) (D:Ends) (σ:St) (H:Hp):Prop
 |mk (S:SS) (F:Hp) (o:Out) (R:Rel K B S σ F H) (hg:g S=some o) (q:zX K B F D o)
structure JE (X:Cx) (e:Expr) (g:GE):Prop where
 h:∀B,PE X e (tE X.K B g)
structure JD (X:Cx) (e:Expr) (g:GD):Prop where
 h:∀B,PE X e (tD X.K B g)
structure JT (X:Cx) (e:Expr) (g:GT):Prop where
 h:∀B,PT X e (tQ X.K B g)
structure JW (X:Cx) (e:Expr) (g:GT):Prop where
 h:∀B,PW X e (tQ X.K B g)
structure JA (X:Cx) (es:BBC) (g:GA):Prop where
 h:∀B,PA X es (tAs X.K B g)
structure JS (X:Cx) (st:Stmt) (g:GS):Prop where
 h:∀B,PS X st (tO X.K B g)
structure JB (X:Cx) (st:BBH) (g:GS):Prop where
 h:∀B,zh X st (tO X.K B g)
noncomputable def fz:U->SS->Option (D×SS)
 |.t d,S=>some (d,S)
 |.m (.lst ds),S=>some (.lst ds,S)
 |.v i,S=>match S[i]? with
  |some (some (.t d))=>some (d,S)
  |some (some (.m (.lst ds)))=>some (.lst ds,S.set i (some (.t (.lst ds))))
  |_=>none
 |_,_=>none
def get_set {α:Type}{l:List α}{j:Nat}{x y:α}(h:(l.set i x)[j]? =some y):(i=j/\x=y/\i<l.length)\/(i≠j/\l[j]? =some y):=by
 by_cases e:i=j
 ·subst e;by_cases hl:i<l.length
  ·rw[ace hl] at h;exact .inl ⟨rfl,abJ h,hl⟩
  ·rw[acN (by simpa using hl)] at h;cases h
 ·rw[abv e] at h;exact .inr ⟨e,h⟩
def Sub.jK {F:Hp}(s:Sub F H) (h:H a=some o):Sub (upd F a o) H:=fun b u e=>by
 by_cases hb:b=a
 ·subst hb;rw[aU] at e;cases e;exact h
 ·rw[bh hb] at e;exact s b u e
def Sub.fresh {F:Hp}(s:Sub F H) (h:H p=Option.none):F p=Option.none:=by
 cases e:F p with
 |none=>rfl
 |some o=>have q:=s p o e;rw[h] at q;cases q
def fT {F:Hp}(h:F a=none):∀b u,F b=some u->upd F a o b=some u:=fun b u e=>by rw[bh (bZ e h)];exact e
theorem M7.le (k:∀b o u,H b=some (.jK o u)->H' b=some (.jK o u)):M7 K H a ns->M7 K H' a ns
 |.inl ⟨o,h⟩=>.inl ⟨o,k _ _ _ h⟩
 |.inr h=>.inr h
theorem zq.le {K:AAD}{F F' H H':Hp}{v:V}(g:∀b o,F b=some o->F' b=some o) (kf:∀b o u,H b=some (.jK o u)->H' b=some (.jK o u)):∀{u:U},zq K F H v u->(∀a,fL u=true->v= .ref a->(∀o,H a=some o->H' a=some o)/\F' a=none)->zq K F' H' v u
 |.t _,h,_=>Rep.le g h
 |.m _,⟨a,e,_,h⟩,k=>let⟨k1,k2⟩:=k a rfl e;⟨a,e,k2,h.le g k1⟩
 |.b _,⟨a,e,_,h⟩,k=>let⟨k1,k2⟩:=k a rfl e;⟨a,e,k2,h.le g k1⟩
 |.v _,h,_=>h
 |.s _,⟨a,e,h⟩,_=>⟨a,e,h.le kf⟩
 |.f _,h,_=>h
 |.x _ _,h,_=>A0.le g h
def Ke {F:Hp}{v:V}{d:D}(R:Rel K B S σ F H) (st:Step S0 S σ F0 H0 F H) (r:iY K B S σ H0 F H v u) (e:fz u S=some (d,S')):
  ∃F',Rel K B S' σ F' H/\Step S0 S' σ F0 H0 F' H/\Rep F' v d:=by
 cases u with
 |t d'=>cases e;exact⟨F,R,st,r⟩
 |b o=>cases r
 |s o=>cases e
 |f o=>cases e
 |x cx kx=>cases e
 |m o=>
  cases o with
  |dct kvs=>cases e
  |zW kvs=>cases e
  |ins C kvs=>cases e
  |gap _=>cases e
  |lat _ _=>cases e
  |lK _ _=>cases e
  |DO _ _=>cases e
  |lst ds=>
   cases e;obtain⟨a,rfl,h0,hf,⟨vs,ha,rs⟩,nm,hB⟩:=r;have g:=fT (o:=.lst vs) hf;refine⟨upd F a (.lst vs),⟨R.sub.jK ha,R.len,fun i u h=>?_,R.Fl,R.own,R.bor,R.par,?_⟩,⟨⟨fun b o h=>g b o (st.ext.le b o h),st.ext.keep,fun b o h n f=>?_,st.ext.there,st.ext.jK⟩,st.mu,st.slots⟩,.lst (.inl aU) (rs.le g)⟩
   ·obtain⟨w,h1,h2⟩:=R.rep i u h;refine⟨w,h1,h2.le g (fun _ _ _ z=>z) fun c hm hc=>⟨fun o q=>q,?_⟩⟩;have hca:c≠a:=fun z=>nm ⟨i,u,h,hm,by rw[h1,hc,z]⟩;rw[bh hca];cases u with
    |m o=>obtain⟨c',e',f',_⟩:=h2;rw[hc] at e';cases e';exact f'
    |b o=>obtain⟨c',e',f',_⟩:=h2;rw[hc] at e';cases e';exact f'
    |t d=>cases hm
    |v j=>cases hm
    |s j=>cases hm
    |f j=>cases hm
    |x cx kx=>cases hm
   ·exact⟨fun b o h=>g b o (R.ext.le b o h),R.ext.keep,fun b o h n f=>by rw[bh (fun z=>by rw[z,hB] at h;cases h)];exact R.ext.kN b o h n f,R.ext.there,R.ext.jK⟩
   ·rw[bh (fun z=>by rw[z,h0] at h;cases h)];exact st.ext.kN b o h n f
 |v i=>
  obtain⟨hv,u,hu⟩:=r;unfold fz at e;simp only[hu] at e;cases u with
  |t d'=>
   cases e;obtain⟨w,h1,h2⟩:=R.rep i _ hu;rw[hv] at h1;cases h1;exact⟨F,R,st,h2⟩
  |b o=>cases e
  |v j=>cases e
  |s j=>cases e
  |f j=>cases e
  |x cx kx=>cases e
  |m o=>
   cases o with
   |dct kvs=>cases e
   |zW kvs=>cases e
   |ins C kvs=>cases e
   |gap _=>cases e
   |lat _ _=>cases e
   |lK _ _=>cases e
   |DO _ _=>cases e
   |lst ds=>
    cases e;obtain⟨w,h1,a,rfl,hf,⟨vs,ha,rs⟩⟩:=R.rep i _ hu;have hiv:σ[i]? =some (some (.ref a)):=h1;rw[hv] at h1;cases h1;have hB:=R.own i _ a hu hiv;have g:=fT (o:=.lst vs) hf;have back:∀j w,(S.set i (AAA (.lst ds)))[j]? =some (some w)->fL w=true->i≠j/\S[j]? =some (some w):=fun j w h hm=>by
     rcases get_set h with⟨_,q,_⟩|q
     ·cases q;cases hm
     ·exact q
    have mu:∀c,cQ (S.set i (AAA (.lst ds))) σ c->cQ S σ c:=fun c ⟨j,w,h,hm,z⟩=>⟨j,w,(back j w h hm).2,hm,z⟩
    refine⟨upd F a (.lst vs),⟨R.sub.jK ha,by rw[ac6];exact R.len,fun j u h=>?_,fun j k u w c h1 m1 h2 m2=>R.Fl j k u w c (back j u h1 m1).2 m1 (back k w h2 m2).2 m2,fun j o c h=>R.own j o c (back j _ h rfl).2,fun j o c h=>R.bor j o c (back j _ h rfl).2,fun j c h=>?_,?_⟩,
     ⟨⟨fun b o h=>g b o (st.ext.le b o h),st.ext.keep,fun b o h n f=>?_,st.ext.there,st.ext.jK⟩,fun c q=>st.mu c (mu c q),fun j u h=>?_⟩,.lst (.inl aU) (rs.le g)⟩
    ·rcases get_set h with⟨rfl,q,_⟩|⟨ne,q⟩
     ·cases q;exact⟨.ref a,hiv,.lst (.inl aU) (rs.le g)⟩
     ·obtain⟨w,h1,h2⟩:=R.rep j u q;refine⟨w,h1,h2.le g (fun _ _ _ z=>z) fun c hm hc=>⟨fun o q=>q,?_⟩⟩;have hca:c≠a:=fun z=>ne (R.Fl i j _ u a hu rfl q hm hiv (by rw[h1,hc,z]));rw[bh hca];cases u with
      |m o=>obtain⟨c',e',f',_⟩:=h2;rw[hc] at e';cases e';exact f'
      |b o=>obtain⟨c',e',f',_⟩:=h2;rw[hc] at e';cases e';exact f'
      |t d=>cases hm
      |v j=>cases hm
      |s j=>cases hm
      |f j=>cases hm
      |x cx kx=>cases hm
    ·obtain⟨h1,o,h2⟩:=R.par j c h;refine⟨h1,o,?_⟩;have ne:i≠j:=fun z=>by subst z;rw[hu] at h2;cases h2
     rw[abv ne];exact h2
    ·exact⟨fun b o h=>g b o (R.ext.le b o h),R.ext.keep,fun b o h n f=>by rw[bh (fun z=>by rw[z,hB] at h;cases h)];exact R.ext.kN b o h n f,R.ext.there,R.ext.jK⟩
    ·have hb:b≠a:=fun z=>n (st.mu b ⟨i,_,hu,rfl,by rw[z];exact hiv⟩);rw[bh hb];exact st.ext.kN b o h n f
    ·obtain⟨u',h'⟩:=st.slots j u h;by_cases hj:i=j
     ·subst hj;exact⟨.t (.lst ds),ace (aaD.mp h').1⟩
     ·exact⟨u',by rw[abv hj];exact h'⟩
def eF (g:GE):GD:=fun S=>(g S).bind fun p=>fz p.1 p.2
def JE.d {X:Cx}{e:Expr}{g:GE}(h:JE X e g):JD X e (eF g):=⟨fun B=>(h.h B).imp fun σ H Q hh=>by
 obtain⟨S,F,d,S',R,hg,q⟩:=hh;unfold eF at hg;cases e1:g S with
 |none=>rw[e1] at hg;cases hg
 |some p=>
  obtain⟨u,S1⟩:=p;rw[e1] at hg;refine⟨S,F,u,S1,R,e1,fun v F1 H1 R1 st1 r1=>?_⟩;obtain⟨F2,R2,st2,r2⟩:=Ke R1 st1 r1 hg;exact q v F2 H1 R2 st2 r2⟩
noncomputable def eT (g:GD):GE:=fun S=>(g S).map fun p=>(.t p.1,p.2)
def JD.e {X:Cx}{e:Expr}{g:GD}(h:JD X e g):JE X e (eT g):=⟨fun B=>(h.h B).imp fun σ H Q hh=>by
 obtain⟨S,F,u,S',R,hg,q⟩:=hh;unfold eT at hg;cases e1:g S with
 |none=>rw[e1] at hg;cases hg
 |some p=>
  obtain⟨d,S1⟩:=p;rw[e1] at hg;cases hg;exact⟨S,F,d,S1,R,e1,fun v F1 H1 R1 st1 r1=>q v F1 H1 R1 st1 r1⟩⟩
structure gg (F H F' H':Hp):Prop where
 le:∀b o,F b=some o->F' b=some o
 same:∀b o,H b=some o->H' b=some o
 kN:∀b o,H b=some o->F b=none->F' b=none
def gg.refl (F H:Hp):gg F H F H:=⟨fun _ _ h=>h,fun _ _ h=>h,fun _ _ _ h=>h⟩
def gg.step {F:Hp}(n:gg F H F' H'):Step S S σ F H F' H':=
 ⟨⟨n.le,fun b o h _=>n.same b o h,fun b o h _ f=>n.kN b o h f,fun b o h=>⟨o,n.same b o h⟩,fun b o u h=>n.same b _ h⟩,fun _ h=>h,fun _ u h=>⟨u,h⟩⟩
def gg.obj {F:Hp}(h:H p=none) (o:HO):gg F H F (upd H p o):=
 ⟨fun _ _ q=>q,fun b u q=>by rw[bh (bZ q h)];exact q,fun _ _ _ q=>q⟩
def Sub.same {F:Hp}(s:Sub F H) (k:∀b o,H b=some o->H' b=some o):Sub F H':=fun a o e=>k a o (s a o e)
def Sub.xh {F:Hp}(s:Sub F H) (h:H p=none):Sub (upd F p o) (upd H p o):=fun b u e=>by
 by_cases hb:b=p
 ·subst hb;rw[aU] at e;cases e;exact aU
 ·rw[bh hb] at e;have q:=s b u e;rw[bh (bZ q h)];exact q
def gg.root {F:Hp}(s:Sub F H) (h:H p=none) (o:HO):gg F H (upd F p o) (upd H p o):=
 ⟨fT (s.fresh h),fun b u q=>by rw[bh (bZ q h)];exact q,fun b u q f=>by rw[bh (bZ q h)];exact f⟩
def Rel.has {K:AAD}{B:Base}{S:SS}{σ:St}{F H:Hp}(R:Rel K B S σ F H){a:Addr}(m:cQ S σ a):∃o,H a=some o:=by
 obtain⟨i,u,h,hm,hv⟩:=m;obtain⟨v,h1,h2⟩:=R.rep i u h;rw[hv] at h1;cases h1;cases u with
 |t d=>cases hm
 |v j=>cases hm
 |s j=>cases hm
 |f j=>cases hm
 |x cx kx=>cases hm
 |m o=>obtain⟨b,e,_,h⟩:=h2;cases e;exact h.has
 |b o=>obtain⟨b,e,_,h⟩:=h2;cases e;exact h.has
def Rel.new {F:Hp}(R:Rel K B S σ F H) (n:gg F H F' H') (s:Sub F' H'):Rel K B S σ F' H' where
 sub:=s
 len:=R.len
 rep:=fun i u h=>by
  obtain⟨v,h1,h2⟩:=R.rep i u h;refine⟨v,h1,h2.le n.le (fun b o u z=>n.same b _ z) fun a hm ha=>⟨fun o q=>n.same a o q,?_⟩⟩;obtain⟨o,ho⟩:=R.has ⟨i,u,h,hm,by rw[h1,ha]⟩;refine n.kN a o ho ?_;cases u with
  |t d=>cases hm
  |v j=>cases hm
  |s j=>cases hm
  |f j=>cases hm
  |x cx kx=>cases hm
  |m o=>obtain⟨b,e,f,_⟩:=h2;rw[ha] at e;cases e;exact f
  |b o=>obtain⟨b,e,f,_⟩:=h2;rw[ha] at e;cases e;exact f
 Fl:=R.Fl
 own:=R.own
 bor:=R.bor
 par:=R.par
 ext:=⟨fun b o h=>n.le b o (R.ext.le b o h),fun b o h m=>n.same b o (R.ext.keep b o h m),fun b o h m f=>n.kN b o (R.ext.keep b o h m) (R.ext.kN b o h m f),fun b o h=>let⟨o',h'⟩:=R.ext.there b o h;⟨o',n.same b o' h'⟩,fun b o u h=>n.same b _ (R.ext.jK b o u h)⟩
def zu (H0 F H:Hp) (v:V):U->Prop
 |.t d=>Rep F v d
 |.m o=>∃a,v= .ref a/\H0 a=none/\F a=none/\At F H a o
 |_=>False
def none_of (t:∀b o,H b=some o->∃o',H' b=some o') (h:H' a=none):H a=none:=by
 cases e:H a with
 |none=>rfl
 |some o=>obtain⟨o',h'⟩:=t a o e;rw[h] at h';cases h'
def zu.CB {F:Hp}{v:V}(R:Rel K B S σ F1 H1) (st:Step S0 S σ F0 H0 F1 H1) (r:zu H1 F H v u):iY K B S σ H0 F H v u:=by
 cases u with
 |t d=>exact r
 |b o=>cases r
 |v i=>cases r
 |s i=>cases r
 |f i=>cases r
 |x cx kx=>cases r
 |m o=>
  obtain⟨a,e,h0,f,h⟩:=r;refine⟨a,e,none_of st.ext.there h0,f,h,fun m=>?_,none_of R.ext.there h0⟩;obtain⟨o,ho⟩:=R.has m;rw[h0] at ho;cases ho
inductive rP (f:List D->Option U) (xs:List V) (H:Hp) (Q:VK):Prop
 |mk (F:Hp) (ds:List D) (u:U) (s:Sub F H) (r:bM F xs ds) (hf:f ds=some u) (q:∀v F' H',gg F H F' H'->Sub F' H'->zu H F' H' v u->Q v H')
noncomputable def iW:D->Bool
 |.tup _=>false
 |.lst _=>false
 |_=>true
noncomputable def toV:D->V
 |.bl b=>.bl b
 |.int i=>.int i
 |.str z=>.str z
 |_=>.cJ
theorem CC {F:Hp}:∀{d:D},iW d=true->Rep F (toV d) d
 |.cJ,_=>.cJ
 |.bl b,_=>.bl b
 |.int i,_=>.int i
 |.str z,_=>.str z
 |.tup _,h=>by cases h
 |.lst _,h=>by cases h
noncomputable def au (i:Nat):GE:=fun S=>match S[i]? with
 |some (some (.t d))=>some (.t d,S)
 |some (some (.s d))=>some (.s d,S)|some (some (.f d))=>some (.f d,S)|some (some (.x C k))=>some (.x C k,S)
 |some (some _)=>some (.v i,S)
 |_=>none
noncomputable def eC (d:D):GD:=fun S=>some (d,S)
noncomputable def aA:GA:=fun S=>some ([],S)
noncomputable def aa (g:GD) (ga:GA):GA:=fun S=>(g S).bind fun p=>(ga p.2).map fun q=>(p.1::q.1,q.2)
noncomputable def eP (f:List D->Option U) (ga:GA):GE:=fun S=>(ga S).bind fun p=>(f p.1).map fun u=>(u,p.2)
section
variable {X:Cx}{a b e:Expr}{es:BBC}{pos p:Pos}{x:Str}{g ga gb:GD}{gA:GA}{f:List D->Option U}
def bw (i:Nat) (hN:X.N[i]? =some x:=by rfl) (hv:qV X.env.scope x:=by first|exact Or.inl rfl|exact Or.inr (Or.inl rfl)|exact Or.inr (Or.inr rfl)) (hd:BBT x:=by decide)
  (hcd:BBU x:=by decide):JE X (.Name x pos) (au i):=⟨fun B=>(cI hN hv hd hcd).imp fun σ H Q hh=>by
 obtain⟨S,F,u,S',R,hg,q⟩:=hh;unfold au at hg;cases hs:S[i]? with
 |none=>rw[hs] at hg;cases hg
 |some o=>
  cases o with
  |none=>rw[hs] at hg;cases hg
  |some w=>
   rw[hs] at hg;obtain⟨v,h1,h2⟩:=R.rep i w hs;refine⟨v,h1,?_⟩;cases w with
   |t d=>cases hg;exact q v F H R (Step.refl ..) h2
   |m o=>cases hg;exact q v F H R (Step.refl ..) ⟨h1,_,hs⟩
   |b o=>cases hg;exact q v F H R (Step.refl ..) ⟨h1,_,hs⟩
   |s j=>cases hg;exact q v F H R (Step.refl ..) h2
   |f j=>cases hg;exact q v F H R (Step.refl ..) h2
   |x cx kx=>cases hg;exact q v F H R (Step.refl ..) h2
   |v j=>cases hg;exact q v F H R (Step.refl ..) ⟨h1,_,hs⟩⟩
def M8 {d:D}(hf:iW d=true) (h:PE X e (tC (toV d))):JD X e (eC d):=⟨fun B=>h.imp fun σ H Q hh=>by
 obtain⟨S,F,u,S',R,hg,q⟩:=hh;cases hg;exact q _ F H R (Step.refl ..) (CC hf)⟩
def aC {i j}:JD X (.Constant (.int i) j pos) (eC (.int i)):=M8 rfl Je
def iH {i j}:JD X (.Constant (.bool i) j pos) (eC (.bl i)):=M8 rfl U0
def aQ {i j}:JD X (.Constant (.str i) j pos) (eC (.str i)):=M8 rfl Jf
def aF:JA X [] aA:=⟨fun B=>kO.imp fun σ H Q hh=>by
 obtain⟨S,F,u,S',R,hg,q⟩:=hh;cases hg;exact q [] F H R (Step.refl ..) .nil⟩
def ah {α β:Type}{o:Option α}{f:α->Option β}{y:β}(h:o.bind f=some y):∃z,o=some z/\f z=some y:=by
 cases o with
 |none=>cases h
 |some z=>exact⟨z,rfl,h⟩
def aB {α β:Type}{o:Option α}{f:α->β}{y:β}(h:o.map f=some y):∃z,o=some z/\f z=y:=by
 cases o with
 |none=>cases h
 |some z=>exact⟨z,rfl,abJ h⟩
def aj (h:JD X e g) (hr:JA X es gA) (hs:starEach (e::es) X.env=(false,eval e X.env)::starEach es X.env:=by rfl):JA X (e::es) (aa g gA):=
 ⟨fun B=>(gF (h.h B) (hr.h B) hs).imp fun σ H Q hh=>by
 obtain⟨S,F,u,S',R,hg,q⟩:=hh;obtain⟨⟨d,S1⟩,h1,hg⟩:=ah hg;obtain⟨⟨ds,S2⟩,h2,hg⟩:=aB hg;cases hg;exact⟨S,F,d,S1,R,h1,fun v F1 H1 R1 st1 r1=>⟨S1,F1,ds,S2,R1,h2,fun vs F2 H2 R2 st2 r2=>q _ F2 H2 R2 (st1.trans st2) (.cons (r1.le st2.ext.le) r2)⟩⟩⟩
def nR {Q:VK}{r:List V->Hp->VK->Prop}(hr:∀vs H1 Q1,rP f vs H1 Q1->r vs H1 Q1) (h:tE K B (eP f gA) σ H Q):tAs K B gA σ H fun vs H1=>r vs H1 Q:=by
 obtain⟨S,F,u,S',R,hg,q⟩:=h;obtain⟨⟨ds,S1⟩,h1,hg⟩:=ah hg;obtain⟨u',h2,hg⟩:=aB hg;cases hg;exact⟨S,F,ds,S1,R,h1,fun vs F1 H1 R1 st1 r1=>hr _ _ _ ⟨F1,ds,_,R1.sub,r1,h2,fun v F2 H2 n s2 r2=>q v F2 H2 (R1.new n s2) (st1.trans n.step) (r2.CB R1 st1)⟩⟩
def iI {id:String}(hc:gT X (.builtin id) (rP f)) (hg:Gl X x) (hm:X.mg x=none) (hv:bootBuiltins x=some (.builtin id)) (ha:JA X (e::es) gA) (hn:x≠"__name__":=by decide) (hdb:BBT x:=by decide)
  (he:starEach (e::es) X.env=(false,eval e X.env)::starEach es X.env:=by rfl) (hpl:(backTo pos (starEach es X.env)).any (·.1)=false:=by rfl):JE X (.Call (.Name x p) (e::es) [] pos) (eP f gA):=
 ⟨fun B=>(jL hc hg hm hv (ha.h B) hn hdb he hpl).imp fun σ H Q h=>nR (fun _ _ _ z=>z) h⟩
def eB (hc:gT X (.type T) (rP f)) (hg:Gl X x) (hm:X.mg x=none) (hv:bootBuiltins x=some (.type T)) (ha:JA X (e::es) gA) (hn:x≠"__name__":=by decide) (hdb:BBT x:=by decide)
  (he:starEach (e::es) X.env=(false,eval e X.env)::starEach es X.env:=by rfl) (hpl:(backTo pos (starEach es X.env)).any (·.1)=false:=by rfl):JE X (.Call (.Name x p) (e::es) [] pos) (eP f gA):=
 ⟨fun B=>(zS hc hg hm hv (ha.h B) hn hdb he hpl).imp fun σ H Q h=>nR (fun _ _ _ z=>z) h⟩
abbrev xj (X:Cx) (o:Value->Value->Sem Value) (f:List D->Option U):Prop:=uF X o (fun x y H Q=>rP f [x,y] H Q)
def tF {Q:VK}(h:tE K B (eP f (aa ga (aa gb aA))) σ H Q):Pb (fun x y H Q=>rP f [x,y] H Q) (tD K B ga) (tD K B gb) σ H Q:=by
 obtain⟨S,F,u,S',R,hg,q⟩:=h;obtain⟨⟨ds,S1⟩,h1,hg⟩:=ah hg;obtain⟨u',h2,hg⟩:=aB hg;cases hg;obtain⟨⟨d1,T1⟩,k1,h1⟩:=ah h1;obtain⟨⟨ds2,T2⟩,k2,h1⟩:=aB h1;cases h1;obtain⟨⟨d2,T3⟩,k3,k2⟩:=ah k2;obtain⟨⟨ds3,T4⟩,k4,k2⟩:=aB k2;cases k2;cases k4;exact⟨S,F,d1,T1,R,k1,fun v1 F1 H1 R1 st1 r1=>⟨T1,F1,d2,_,R1,k3,fun v2 F2 H2 R2 st2 r2=>⟨F2,_,_,R2.sub,.cons (r1.le st2.ext.le) (.cons r2 .nil),h2,fun v F3 H3 n s3 r3=>q v F3 H3 (R2.new n s3) ((st1.trans st2).trans n.step) (r3.CB R2 (st1.trans st2))⟩⟩⟩
def bN {op:Operator}(ho:xj X (binaryOp op) f) (ha:JD X a ga) (hb:JD X b gb):JE X (.BinOp a op b pos) (eP f (aa ga (aa gb aA))):=
 ⟨fun B=>(Vd ho (ha.h B) (hb.h B)).imp fun σ H Q h=>tF h⟩
def iy (ho:xj X (compareOp op) f) (ha:JD X a ga) (hb:JD X b gb) (hm:behindInMarks op b=false:=by first|exact DY _|rfl):JE X (.Compare a [op] [b] pos) (eP f (aa ga (aa gb aA))):=
 ⟨fun B=>(E1 ho (ha.h B) (hb.h B) hm).imp fun σ H Q h=>tF h⟩
def Kf {op:UnaryOp}(ho:Vc X (unaryOp op) (fun x H Q=>rP f [x] H Q)) (ha:JD X a ga):JE X (.UnaryOp op a pos) (eP f (aa ga aA)):=
 ⟨fun B=>(Ve ho (ha.h B)).imp fun σ H Q h=>by
 obtain⟨S,F,u,S',R,hg,q⟩:=h;obtain⟨⟨ds,S1⟩,h1,hg⟩:=ah hg;obtain⟨u',h2,hg⟩:=aB hg;cases hg;obtain⟨⟨d1,T1⟩,k1,h1⟩:=ah h1;obtain⟨⟨ds2,T2⟩,k2,h1⟩:=aB h1;cases h1;cases k2;exact⟨S,F,d1,_,R,k1,fun v1 F1 H1 R1 st1 r1=>⟨F1,_,_,R1.sub,.cons r1 .nil,h2,fun v F3 H3 n s3 r3=>q v F3 H3 (R1.new n s3) (st1.trans n.step) (r3.CB R1 st1)⟩⟩⟩
def pK (hr:JQ X (fun x y H Q=>rP f [x,y] H Q)) (ha:JD X a ga) (hb:JD X b gb) (hs:qI b):JE X (.Subscript a b pos) (eP f (aa ga (aa gb aA))):=
 ⟨fun B=>(E9 hr (ha.h B) (hb.h B) hs).imp fun σ H Q h=>tF h⟩
noncomputable def cM:List D->Option U:=fun ds=>if ds.length<=100000 then AAA (.tup ds) else none
noncomputable def dG:List D->Option U:=fun ds=>if ds.length<=100000 then AAB ds else none
def ki (h:n<=100000):n<=sizeLine:=abl h (by decide)
end
section
variable {X:Cx}{a b c e:Expr}{es:BBC}{pos p:Pos}{g ga gb:GD}{gA:GA}{f:List D->Option U}
def bJ {x1}(h:JA X es gA):JE X (.Tuple es x1 pos) (eP cM gA):=
 ⟨fun B=>(QK (h.h B)).imp fun σ H Q z=>nR (r:=fun xs H1 Q=>xs.length<=sizeLine/\∀p,H1 p=none->Q (.ref p) (upd H1 p (.tup xs))) (fun vs H1 Q1 hh=>by
 obtain⟨F,ds,u,sb,rs,hf,q⟩:=hh;unfold cM at hf;split at hf
 ·rename_i hl;cases hf;refine⟨by rw[rs.length];exact ki hl,fun p hp=>?_⟩;exact q _ _ _ (gg.root sb hp _) (sb.xh hp) (.tup aU (rs.le (fT (sb.fresh hp))))
 ·cases hf) z⟩
def bU (h:JA X es gA):JE X (.List es pos) (eP dG gA):=
 ⟨fun B=>(Jw (h.h B)).imp fun σ H Q z=>nR (r:=fun xs H1 Q=>xs.length<=sizeLine/\∀p,H1 p=none->Q (.ref p) (upd H1 p (.lst xs))) (fun vs H1 Q1 hh=>by
 obtain⟨F,ds,u,sb,rs,hf,q⟩:=hh;unfold dG at hf;split at hf
 ·rename_i hl;cases hf;refine⟨by rw[rs.length];exact ki hl,fun p hp=>?_⟩;exact q _ F _ (gg.obj hp _) (sb.same (gg.obj (F:=F) hp _).same) ⟨p,rfl,hp,sb.fresh hp,vs,aU,rs⟩
 ·cases hf) z⟩
noncomputable def qB (g:GD):GT:=fun S=>(g S).bind fun p=>match p.1 with
 |.bl k=>some (k,p.2)
 |_=>none
noncomputable def nT (g:GT):GT:=fun S=>(g S).map fun p=>(!p.1,p.2)
noncomputable def uM (g h:GT):GT:=fun S=>(g S).bind fun p=>if p.1 then h p.2 else some (false,p.2)
noncomputable def Ue (g h:GT):GT:=fun S=>(g S).bind fun p=>if p.1 then some (true,p.2) else h p.2
noncomputable def eQ (g:GT):GD:=fun S=>(g S).map fun p=>(.bl p.1,p.2)
def kj (h:qB g S=some (k,S')):g S=some (.bl k,S'):=by
 obtain⟨⟨d,S1⟩,h1,h⟩:=ah h;cases d<;>cases h
 exact h1
def l8 {F:Hp}{v:V}(r:Rep F v (.bl k)):v= .bl k:=by cases r;rfl
def gG {F:Hp}{v:V}{i:Int}(r:Rep F v (.int i)):v= .int i:=by cases r;rfl
def Fo {F:Hp}{v:V}{i:Str}(r:Rep F v (.str i)):v= .str i:=by cases r;rfl
def iJ (h:JD X e g) (he:∀whole,isTrue e X.env whole=(do let v <-whole;standAt e.pos;holding [v] (truthy v)):=by intro _;rfl):JT X e (qB g):=
 ⟨fun B=>(Qn (h.h B) he).imp fun σ H Q ⟨S,F,k,S',R,hg,q⟩=>⟨S,F,.bl k,S',R,kj hg,fun v F' H' R' st r=>⟨k,l8 r,q F' H' R' st⟩⟩⟩
def VQ {gE:GE}{Q:VK}(h:tD K B (eF gE) σ H Q):tE K B gE σ H Q:=by
 obtain⟨S,F,d,S',R,hg,q⟩:=h;obtain⟨⟨u,S1⟩,h1,hg⟩:=ah hg;refine⟨S,F,u,S1,R,h1,fun v F1 H1 R1 st1 r1=>?_⟩;obtain⟨F2,R2,st2,r2⟩:=Ke R1 st1 r1 hg;exact q v F2 H1 R2 st2 r2
def bK (ho:xj X (compareOp op) f) (ha:JD X a ga) (hb:JD X b gb) (hm:behindInMarks op b=false:=by first|exact DY _|rfl):JT X (.Compare a [op] [b] pos) (qB (eF (eP f (aa ga (aa gb aA))))):=
 ⟨fun B=>(wG ho (ha.h B) (hb.h B) hm).imp fun σ H Q ⟨S,F,k,S',R,hg,q⟩=>tF (VQ ⟨S,F,.bl k,S',R,kj hg,fun v F' H' R' st r=>⟨k,l8 r,q F' H' R' st⟩⟩)⟩
def nU (h:JT X a q1):JT X (.UnaryOp .Not a pos) (nT q1):=
 ⟨fun B=>(Qo (h.h B)).imp fun σ H Q hh=>by
 obtain⟨S,F,k,S',R,hg,q⟩:=hh;obtain⟨⟨d,S1⟩,h1,hg⟩:=aB hg;cases hg;exact⟨S,F,d,_,R,h1,fun F' H' R' st=>q F' H' R' st⟩⟩
def iz (h:JT X a q1):JW X (.BoolOp .And [a] pos) q1:=⟨fun B=>pw_and1 (h.h B)⟩
def uN (h:JT X a q1):JW X (.BoolOp .Or [a] pos) q1:=⟨fun B=>pw_or1 (h.h B)⟩
def rO (h:JT X a q1) (hr:JW X (.BoolOp .And (b::r) pos) q2):JW X (.BoolOp .And (a::b::r) pos) (uM q1 q2):=
 ⟨fun B=>(pw_and (h.h B) (hr.h B)).imp fun σ H Q hh=>by
 obtain⟨S,F,k,S',R,hg,q⟩:=hh;obtain⟨⟨d,S1⟩,h1,hg⟩:=ah hg;refine⟨S,F,d,S1,R,h1,fun F1 H1 R1 st1=>?_⟩;cases d with
 |true=>exact Cy ⟨S1,F1,k,S',R1,hg,fun F2 H2 R2 st2=>q F2 H2 R2 (st1.trans st2)⟩
 |false=>cases hg;exact Cw (q F1 H1 R1 st1)⟩
def Fp (h:JT X a q1) (hr:JW X (.BoolOp .Or (b::r) pos) q2):JW X (.BoolOp .Or (a::b::r) pos) (Ue q1 q2):=
 ⟨fun B=>(pw_or (h.h B) (hr.h B)).imp fun σ H Q hh=>by
 obtain⟨S,F,k,S',R,hg,q⟩:=hh;obtain⟨⟨d,S1⟩,h1,hg⟩:=ah hg;refine⟨S,F,d,S1,R,h1,fun F1 H1 R1 st1=>?_⟩;cases d with
 |false=>exact Cw ⟨S1,F1,k,S',R1,hg,fun F2 H2 R2 st2=>q F2 H2 R2 (st1.trans st2)⟩
 |true=>cases hg;exact Cy (q F1 H1 R1 st1)⟩
def JW.t (h:JW X e q1):JT X e q1:=⟨fun B=>(h.h B).pt⟩
def Ej {op}(h:JD X a g):JD X (.BoolOp op [a] pos) (eQ (qB g)):=⟨fun B=>(Qp (h.h B)).imp fun σ H Q hh=>by
 obtain⟨S,F,k,S',R,hg,q⟩:=hh;obtain⟨⟨d,S1⟩,h1,hg⟩:=aB hg;cases hg;exact⟨S,F,.bl d,_,R,kj h1,q⟩⟩
def Ek (h:JD X a g) (hr:JD X (.BoolOp .And (b::r) pos) (eQ q2)):JD X (.BoolOp .And (a::b::r) pos) (eQ (uM (qB g) q2)):=
 ⟨fun B=>(Qq (h.h B) (hr.h B)).imp fun σ H Q hh=>by
 obtain⟨S,F,k,S',R,hg,q⟩:=hh;obtain⟨⟨d,S1⟩,h1,hg⟩:=aB hg;cases hg;obtain⟨⟨d1,S2⟩,h1,h2⟩:=ah h1;refine⟨S,F,.bl d1,S2,R,kj h1,fun v F1 H1 R1 st1 r1=>⟨d1,l8 r1,?_⟩⟩;cases d1 with
 |true=>
  have h2:q2 S2=some (d,S1):=h2;exact Cy ⟨S2,F1,.bl d,S1,R1,by show(q2 S2).map _=_;rw[h2];rfl,fun v F2 H2 R2 st2 r2=>q v F2 H2 R2 (st1.trans st2) r2⟩
 |false=>cases h2;exact Cw (q _ F1 H1 R1 st1 (.bl false))⟩
def A2 (h:JD X a g):JD X (.UnaryOp .Not a pos) (eQ (nT (qB g))):=⟨fun B=>(Qs (h.h B)).imp fun σ H Q hh=>by
 obtain⟨S,F,k,S',R,hg,q⟩:=hh;obtain⟨⟨d,S1⟩,h1,hg⟩:=aB hg;cases hg;obtain⟨⟨d1,S2⟩,h3,h2⟩:=aB h1;cases h2;exact⟨S,F,.bl d1,_,R,kj h3,fun v F1 H1 R1 st1 r1=>⟨d1,l8 r1,q _ F1 H1 R1 st1 (.bl _)⟩⟩⟩
noncomputable def Kg (q:GT) (g h:GE):GE:=fun S=>(q S).bind fun p=>if p.1 then g p.2 else h p.2
theorem iY.weak {F:Hp}{v:V}(t:∀b o,H0 b=some o->∃o',H1 b=some o'):∀{u:U},iY K B S σ H1 F H v u->iY K B S σ H0 F H v u
 |.t _,h=>h
 |.s _,h=>h
 |.f _,h=>h
 |.x _ _,h=>h
 |.m _,⟨a,e,h0,h⟩=>⟨a,e,none_of t h0,h⟩
 |.v _,h=>h
 |.b _,h=>h
def zY {g1 g2:GE}(hc:JT X c q1) (ha:JE X a g1) (hb:JE X b g2):JE X (.IfExp c a b pos) (Kg q1 g1 g2):=
 ⟨fun B=>(Jh (hc.h B) (ha.h B) (hb.h B)).imp fun σ H Q hh=>by
 obtain⟨S,F,u,S',R,hg,q⟩:=hh;obtain⟨⟨d,S1⟩,h1,hg⟩:=ah hg;refine⟨S,F,d,S1,R,h1,fun F1 H1 R1 st1=>?_⟩;cases d with
 |true=>exact Cy ⟨S1,F1,u,S',R1,hg,fun v F2 H2 R2 st2 r2=>q v F2 H2 R2 (st1.trans st2) (r2.weak st1.ext.there)⟩
 |false=>exact Cw ⟨S1,F1,u,S',R1,hg,fun v F2 H2 R2 st2 r2=>q v F2 H2 R2 (st1.trans st2) (r2.weak st1.ext.there)⟩⟩
end
def cz {α:Type}{c:Prop}{i:Decidable c}{x w:α}(h:(@ite _ c i (some x) none)=some w):c/\x=w:=by
 by_cases hc:c
 ·rw[if_pos hc] at h;exact⟨hc,abJ h⟩
 ·rw[if_neg hc] at h;cases h
def cW {α:Type}{c:Prop}{i:Decidable c}{x:Option α}{w:α}(h:(@ite _ c i x none)=some w):c/\x=some w:=by
 by_cases hc:c
 ·rw[if_pos hc] at h;exact⟨hc,h⟩
 ·rw[if_neg hc] at h;cases h
def Kh {F:Hp}{x:V}(r:bM F [x] ds):∃d,ds=[d]/\Rep F x d:=by
 cases r with
 |cons r rs=>cases rs;exact⟨_,rfl,r⟩
def xm {F:Hp}{x:V}(r:bM F [x,y] ds):∃d e,ds=[d,e]/\Rep F x d/\Rep F y e:=by
 cases r with
 |cons r rs=>obtain⟨e,rfl,r2⟩:=Kh rs;exact⟨_,e,rfl,r,r2⟩
noncomputable def yX (C:Int->Int->Bool) (h:Int->Int->D):List D->Option U
 |[.int i,.int j]=>if C i j then some (.t (h i j)) else none
 |_=>none
section
variable {X:Cx}
def mT {o:Value->Value->Sem Value}{C:Int->Int->Bool}{h:Int->Int->D}{r:R2}(hr:uF X o r) (k:∀i j H Q,C i j=true->Q (toV (h i j)) H->r (.int i) (.int j) H Q) (hf:∀i j,iW (h i j)=true):xj X o (yX C h):=by
 intro pins s σ H x y v u Q I rx ry ⟨F,ds,w,sb,rs,hw,q⟩;obtain⟨d,e,rfl,r1,r2⟩:=xm rs;cases r1<;>cases r2<;>try (simp[yX] at hw;done)
 rename_i i j;obtain⟨hc,rfl⟩:=cz hw;exact hr pins s σ H _ _ v u Q I rx ry (k i j H Q hc (q _ F H (gg.refl ..) sb (CC (hf i j))))
abbrev wj:=yX (fun _ _=>true) fun i j=>.int (i-j)
abbrev El:=yX (fun _ _=>true) fun i j=>.bl (decide (i<j))
abbrev Yh:=yX (fun _ _=>true) fun i j=>.bl (decide (i<=j))
abbrev Pk:=yX (fun _ _=>true) fun i j=>.bl (decide (j<i))
abbrev fGe:=yX (fun _ _=>true) fun i j=>.bl (decide (j<=i))
abbrev M9:=yX (fun _ j=>decide (0<j) && decide (j<1073741824)) fun i j=>.int (i / j)
abbrev zx:=yX (fun _ j=>decide (0<j)) fun i j=>.int (i % j)
abbrev VR:=yX (fun i j=>decide (0<=j) && (decide (j<=1000) && decide (i.natAbs<2 ^ 64))) fun i j=>.int (i ^ j.toNat)
def kq:xj X (binaryOp .Sub) wj:=mT QB (fun i j H Q _ q=>⟨i,j,rfl,rfl,q⟩) fun _ _=>rfl
def rQ:xj X (compareOp .Lt) El:=mT Vi (fun i j H Q _ q=>⟨i,j,rfl,rfl,q⟩) fun _ _=>rfl
def Q6:xj X (compareOp .LtE) Yh:=mT Vj (fun i j H Q _ q=>⟨i,j,rfl,rfl,q⟩) fun _ _=>rfl
def A3:xj X (compareOp .Gt) Pk:=mT Vk (fun i j H Q _ q=>⟨i,j,rfl,rfl,q⟩) fun _ _=>rfl
def Q7:xj X (compareOp .GtE) fGe:=mT Vl (fun i j H Q _ q=>⟨i,j,rfl,rfl,q⟩) fun _ _=>rfl
def A4:xj X (binaryOp .FloorDiv) M9:=mT MJ (fun i j H Q c q=>⟨i,j,rfl,rfl,by simpa[Vf] using c,q⟩) fun _ _=>rfl
def kr:xj X (binaryOp .Mod) zx:=mT QD (fun i j H Q c q=>⟨i,j,rfl,rfl,by simpa using c,q⟩) fun _ _=>rfl
def Na:xj X (binaryOp .Pow) VR:=mT QE (fun i j H Q c q=>⟨i,j,rfl,rfl,by
 simp only[abw,aci] at c;exact⟨c.1,Int.le_trans c.2.1 (by decide),c.2.2⟩,q⟩) fun _ _=>rfl
def Sub.iV {F:Hp}{v:V}(s:Sub F H) (r:Rep F v (.tup ds)):∃a vs,v= .ref a/\F a=some (.tup vs)/\Rd H a (.tup vs)/\bM F vs ds:=by
 cases r with
 |tup e rs=>exact⟨_,_,rfl,e,Rd.of (s _ _ e),rs⟩
def Sub.iC {F:Hp}{v:V}(s:Sub F H) (r:Rep F v (.lst ds)):∃a vs,v= .ref a/\Rd F a (.lst vs)/\Rd H a (.lst vs)/\bM F vs ds:=by
 cases r with
 |lst e rs=>exact⟨_,_,rfl,e,e.imp (s _ _) fun⟨o,h⟩=>⟨o,s _ _ h⟩,rs⟩
def _root_.L2.Rd.Ed {pins:AAG}{s:Shared}(I:Inv X pins σ H s){l:Addr}(h:Rd H l (.lst xs)):
  xs.length<=sizeLine/\∃its n,Vals xs its/\xs.length=its.length/\s.heap.get? l=some {cls:=.type "list",data:=.seq its.toArray n}:=by
 obtain⟨z,its,n,r,e⟩:=(h.ok I.hok:fG X.prog X.w H s.heap l (.lst xs))
 exact⟨z,its,n,r,r.length,e⟩
noncomputable def dO:List D->Option U
 |[.int i,.int j]=>some (.t (.int (i+j)))
 |[.str i,.str j]=>if i.length+j.length<=100000 then some (.t (.str (i++j))) else none
 |[.tup i,.tup j]=>if i.length+j.length<=100000 then some (.t (.tup (i++j))) else none
 |[.lst i,.lst j]=>if i.length+j.length<=100000 then some (.m (.lst (i++j))) else none
 |_=>none
def cK:xj X (binaryOp .Add) dO:=by
 intro pins s σ H x y v u Q I rx ry ⟨F,ds,w,sb,rs,hw,q⟩;obtain⟨d,e,rfl,r1,r2⟩:=xm rs;cases d<;>cases e<;>try (cases hw;done)
 ·rename_i i j;cases hw;cases r1;cases r2;exact QA pins s σ H _ _ v u Q I rx ry ⟨i,j,rfl,rfl,q _ F H (gg.refl ..) sb (.int _)⟩
 ·rename_i i j;obtain⟨hl,rfl⟩:=cz hw;cases r1;cases r2;exact DZ pins s σ H _ _ v u Q I rx ry ⟨i,j,rfl,rfl,ki hl,q _ F H (gg.refl ..) sb (.str _)⟩
 ·rename_i i j;obtain⟨hl,rfl⟩:=cz hw;have rb2:=r2;have rb1:=r1;obtain⟨a,xs,rfl,fa,ha,oX⟩:=sb.iV r1;obtain⟨b,ys,rfl,fb,hb,DP⟩:=sb.iV r2;by_cases hx:xs=[]
  ·subst hx;cases oX;cases rx;cases ry;obtain⟨its,r1',p1,_⟩:=I.tuple (.inl ha);obtain⟨its2,r2',p2,_⟩:=I.tuple (.inl hb);cases r1';obtain⟨⟨cls,dd,data,sl⟩,ho,hc,n,hd⟩:=id p1;obtain⟨⟨ZY,dd2,data2,sl2⟩,ho2,hc2,n2,hd2⟩:=id p2;simp only at hc hd hc2 hd2;subst hc hd hc2 hd2;exact concat_meets ⟨_,ho,rfl⟩ ⟨_,ho2,rfl⟩ afn seq_tuple_add aea ad4 (adU _ _)
    (tuple_addW0 a b _ _ n n2 dd dd2 sl sl2 (by simp)) ⟨ho,ho2,⟨.ref b,H,I,rfl,q _ F H (gg.refl ..) sb rb2⟩⟩
  ·refine MX pins s σ H (.ref a) (.ref b) v u Q I rx ry ⟨a,b,xs,ys,rfl,rfl,.inl ha,.inl hb,hx,?_,fun hy=>?_,fun hy p hp=>?_⟩
   ·rw[oX.length,DP.length];exact ki hl
   ·subst hy;cases DP;exact q _ F H (gg.refl ..) sb (by show Rep F (.ref a) (.tup (i++[]));rw[adB];exact rb1)
   ·exact q _ _ _ (gg.root sb hp _) (sb.xh hp) (.tup aU ((oX.append DP).le (fT (sb.fresh hp))))
 ·rename_i i j;obtain⟨hl,rfl⟩:=cz hw;obtain⟨a,xs,rfl,fa,ha,oX⟩:=sb.iC r1;obtain⟨b,ys,rfl,fb,hb,DP⟩:=sb.iC r2;cases rx;cases ry;obtain⟨z,its,n,r,hl1,e⟩:=Rd.Ed I ha;obtain⟨z2,its2,n2,r2,hl2,e2⟩:=Rd.Ed I hb;have hlen:xs.length+ys.length<=sizeLine:=by rw[oX.length,DP.length];exact ki hl
  refine PySem.P.add_list e e2 ?_ (by rw[aak,aak];lia);have ea:its.toArray++its2.toArray=(its++its2).toArray:=by simp
  rw[ea];have hp:H s.heap.objs.size=none:=I.fresh;refine⟨.ref _,_,I.Z1 (t':=s.toks) (r.append r2) (by rw[aan];lia),rfl,?_⟩;exact q _ F _ (gg.obj hp _) (sb.same (gg.obj (F:=F) hp _).same) ⟨_,rfl,hp,sb.fresh hp,_,aU,oX.append DP⟩
def tG:List D->Option U:=yX (fun i j=>(decide (-(2 ^ 64)<i) && decide (i<2 ^ 64)) || (decide (-(2 ^ 64)<j) && decide (j<2 ^ 64))) fun i j=>.int (i*j)
def jF:xj X (binaryOp .Mult) tG:=mT QC (fun i j H Q c q=>⟨i,j,rfl,rfl,by
 simp only[Bool.or_eq_true,abw,aci] at c;exact c,q⟩) fun _ _=>rfl
noncomputable def Em:List D->Option U
 |[.int i]=>some (.t (.int (-i)))
 |_=>none
def A5:Vc X (unaryOp .USub) (fun x H Q=>rP Em [x] H Q):=by
 intro pins s σ H x v Q I rx ⟨F,ds,w,sb,rs,hw,q⟩;obtain⟨d,rfl,r1⟩:=Kh rs;cases r1<;>try (cases hw;done)
 rename_i i;cases hw;exact QI pins s σ H _ v Q I rx ⟨i,rfl,q _ F H (gg.refl ..) sb (.int _)⟩
def A6:List D->Option U
 |[.tup ds,.int i]=>(d7 ds i).map .t
 |[.lst ds,.int i]=>(d7 ds i).map .t
 |[.str z,.int i]=>if z.length<=100000 then(d7 z.cps.toList i).map fun c=>.t (.str ⟨#[c]⟩) else none
 |_=>none
def xq:JQ X (fun x y H Q=>rP A6 [x,y] H Q):=by
 intro value slice pins s σ H x y v u Q I rx ry ⟨F,ds,w,sb,rs,hw,q⟩ hsb;obtain⟨d,e,rfl,r1,r2⟩:=xm rs;cases d<;>cases e<;>try (cases hw;done)
 ·rename_i z i;obtain⟨hl,hw⟩:=cW hw;obtain⟨c,hc,hw⟩:=aB hw;subst hw;cases r1;cases r2;exact JV value slice pins s σ H _ _ v u Q I rx ry ⟨z,i,c,rfl,rfl,ki hl,hc,q _ F H (gg.refl ..) sb (.str _)⟩ hsb
 ·rename_i ds i;obtain⟨c,hc,hw⟩:=aB (show(d7 ds i).map U.t=some w from hw);subst hw;obtain⟨a,xs,rfl,fa,ha,oX⟩:=sb.iV r1;cases r2;obtain⟨w',h1,h2⟩:=oX.d7 hc;exact JR value slice pins s σ H _ _ v u Q I rx ry ⟨a,xs,i,w',rfl,rfl,.inl ha,h1,q _ F H (gg.refl ..) sb h2⟩ hsb
 ·rename_i ds i;obtain⟨c,hc,hw⟩:=aB (show(d7 ds i).map U.t=some w from hw);subst hw;obtain⟨a,xs,rfl,fa,ha,oX⟩:=sb.iC r1;cases r2;obtain⟨w',h1,h2⟩:=oX.d7 hc;exact Fb value slice pins s σ H _ _ v u Q I rx ry ⟨a,xs,i,w',rfl,rfl,.inl ha,h1,q _ F H (gg.refl ..) sb h2⟩ hsb
noncomputable def Ht:List D->Option U
 |[.tup ds]=>some (.t (.int ds.length))
 |[.lst ds]=>some (.t (.int ds.length))
 |[.str z]=>if z.length<=100000 then some (.t (.int z.length)) else none
 |_=>none
def Hu:gT X (.builtin "len") (rP Ht):=by
 intro pins s σ H xs us Q I r ⟨F,ds,w,sb,rs,hw,q⟩
 match xs,ds,rs with
 |[],[],_=>exact absurd hw (by simp[Ht])
 |[x],_,rs=>
  obtain⟨d,rfl,r1⟩:=Kh rs;cases d<;>try (cases hw;done)
  ·rename_i z;obtain⟨hl,rfl⟩:=cz hw;cases r1;exact sZ pins s σ H _ us Q I r ⟨z,rfl,ki hl,q _ F H (gg.refl ..) sb (.int _)⟩
  ·cases hw;obtain⟨a,xs,rfl,fa,ha,oX⟩:=sb.iV r1;exact kh pins s σ H _ us Q I r ⟨a,xs,rfl,.inr (.inl ha),by rw[oX.length];exact q _ F H (gg.refl ..) sb (.int _)⟩
  ·cases hw;obtain⟨a,xs,rfl,fa,ha,oX⟩:=sb.iC r1;exact kh pins s σ H _ us Q I r ⟨a,xs,rfl,.inl (.inl ha),by rw[oX.length];exact q _ F H (gg.refl ..) sb (.int _)⟩
 |_::_::_,[],rs=>cases rs
 |_::_::_,[_],rs=>cases rs with|cons _ rs=>cases rs
 |_::_::_,_::_::_,_=>exact absurd hw (by simp[Ht])
end
noncomputable def pL (i:Nat) (u:U) (S:SS):Option SS:=match S[i]? with
 |some (some (.b _))=>none
 |some _=>some (S.set i (some u))
 |none=>none
def uO (h:pL i u S=some S'):S'=S.set i (some u)/\i<S.length/\∀o,S[i]?≠some (some (.b o)):=by
 unfold pL at h;cases e:S[i]? with
 |none=>rw[e] at h;cases h
 |some w=>
  have hl:i<S.length:=(aaD.mp e).1;rw[e] at h;cases w with
  |none=>cases h;exact⟨rfl,hl,fun o z=>by cases z⟩
  |some w=>
   cases w with
   |b o=>cases h
   |t d=>cases h;exact⟨rfl,hl,fun o z=>by cases z⟩
   |m d=>cases h;exact⟨rfl,hl,fun o z=>by cases z⟩
   |v d=>cases h;exact⟨rfl,hl,fun o z=>by cases z⟩
   |s d=>cases h;exact⟨rfl,hl,fun o z=>by cases z⟩
   |f d=>cases h;exact⟨rfl,hl,fun o z=>by cases z⟩
   |x cx kx=>cases h;exact⟨rfl,hl,fun o z=>by cases z⟩
def Pn (B:Base) (S:SS) (σ:St) (F H:Hp) (v:V):U->Prop
 |.t d=>Rep F v d
 |.m o=>∃a,v= .ref a/\F a=none/\At F H a o/\¬cQ S σ a/\B.H a=none
 |.x C k=>A0 F v C k
 |_=>False
def Rel.put {F:Hp}{v:V}(R:Rel K B S σ F H) (h:pL i u S=some S') (p:Pn B S σ F H v u):Rel K B S' (σ.set i (some v)) F H:=by
 obtain⟨rfl,hl,nb⟩:=uO h;have hl':i<σ.length:=by rw[<-R.len];exact hl
 have out:∀{j:Nat},i≠j->(σ.set i (some v))[j]? =σ[j]?:=fun ne=>abv ne;have Hv:(σ.set i (some v))[i]? =some (some v):=ace hl';have Po:∀j w a,i≠j->S[j]? =some (some w)->fL w=true->fL u=true->σ[j]? =some (some (.ref a))->v≠.ref a:=fun j w a ne hj hm hu hv z=>by
  cases u with
  |t d=>cases hu
  |v k=>cases hu
  |s k=>cases hu
  |f k=>cases hu
  |x cx kx=>cases hu
  |b o=>exact p
  |m o=>
   obtain⟨c,e,_,_,nm,_⟩:=p;rw[z] at e;cases e;exact nm ⟨j,w,hj,hm,hv⟩
 refine⟨R.sub,by rw[ac6,ac6];exact R.len,fun j w hj=>?_,fun j k w1 w2 a h1 m1 h2 m2 v1 v2=>?_,fun j o a hj hv=>?_,fun j o a hj hv=>?_,fun j a hj=>?_,R.ext⟩
 ·rcases get_set hj with⟨rfl,q,_⟩|⟨ne,q⟩
  ·cases q;refine⟨v,Hv,?_⟩;cases u with
   |t d=>exact p
   |m o=>obtain⟨a,e,f,h,_⟩:=p;exact⟨a,e,f,h⟩
   |b o=>cases p
   |v k=>cases p
   |s k=>cases p
   |f k=>cases p
   |x cx kx=>exact p
  ·rw[out ne];exact R.rep j w q
 ·rcases get_set h1 with⟨rfl,q1,_⟩|⟨ne1,q1⟩
  ·rcases get_set h2 with⟨rfl,q2,_⟩|⟨ne2,q2⟩
   ·rfl
   ·cases q1;rw[Hv] at v1;rw[out ne2] at v2;cases v1;exact absurd rfl (Po k w2 a ne2 q2 m2 m1 v2)
  ·rcases get_set h2 with⟨rfl,q2,_⟩|⟨ne2,q2⟩
   ·cases q2;rw[Hv] at v2;rw[out ne1] at v1;cases v2;exact absurd rfl (Po j w1 a ne1 q1 m1 m2 v1)
   ·rw[out ne1] at v1;rw[out ne2] at v2;exact R.Fl j k w1 w2 a q1 m1 q2 m2 v1 v2
 ·rcases get_set hj with⟨rfl,q,_⟩|⟨ne,q⟩
  ·cases q;rw[Hv] at hv;cases hv;obtain⟨c,e,_,_,_,hB⟩:=p;cases e;exact hB
  ·rw[out ne] at hv;exact R.own j o a q hv
 ·rcases get_set hj with⟨rfl,q,_⟩|⟨ne,q⟩
  ·cases q;cases p
  ·rw[out ne] at hv;exact R.bor j o a q hv
 ·obtain⟨h1,o,h2⟩:=R.par j a hj;have ne:i≠j:=fun z=>by subst z;exact nb o h2
  exact⟨by rw[out ne];exact h1,o,by rw[abv ne];exact h2⟩
noncomputable def cX:GS:=fun S=>some (.nx S)
noncomputable def aP (a b:GS):GS:=fun S=>(a S).bind fun o=>match o with
 |.nx S1=>b S1
 |o=>some o
def cu (i:Nat) (g:GE):GS:=fun S=>(g S).bind fun p=>match p.1 with
 |.m o=>(pL i (.m o) p.2).map .nx
 |u=>(fz u p.2).bind fun q=>(pL i (.t q.1) q.2).map .nx
noncomputable def j8 (g:GE):GS:=fun S=>(g S).map fun p=>.nx p.2
noncomputable def cG (g:GE):GS:=fun S=>(g S).bind fun p=>match p.1 with
 |.v i=>match p.2[i]? with
  |some (some (.t d))=>some (.rt (.t d) p.2)
  |some (some (.m o))=>some (.rt (.m o) (p.2.set i none))
  |_=>none
 |.s _=>none
 |.f _=>none
 |.x _ _=>none
 |u=>some (.rt u p.2)
noncomputable def iZ (q:GT) (a b:GS):GS:=fun S=>(q S).bind fun p=>if p.1 then a p.2 else b p.2
theorem zX.mono {F:Hp}{D:Ends}(g:∀b o,F b=some o->F1 b=some o):∀{o:Out},zX K B F D o->zX K B F1 D o
 |.nx _,h=>fun σ' F' H' R le=>h σ' F' H' R fun b o z=>le b o (g b o z)
 |.bk _,h=>fun σ' F' H' R le=>h σ' F' H' R fun b o z=>le b o (g b o z)
 |.ct _,h=>fun σ' F' H' R le=>h σ' F' H' R fun b o z=>le b o (g b o z)
 |.rt _ _,h=>fun v σ' F' H' R le=>h v σ' F' H' R fun b o z=>le b o (g b o z)
section
variable {X:Cx}{a b c e:Expr}{pos p:Pos}{x:Str}{st:Stmt}{rest b1 b2 body:BBH}{g:GE}{s1 s2:GS}{q1:GT}
def bS:JB X [] cX:=⟨fun B=>MF.imp fun D σ H ⟨S,F,o,R,h,k⟩=>by cases h;exact k σ F H R fun _ _ z=>z⟩
def aD (h1:JS X st s1) (h2:JB X rest s2):JB X (st::rest) (aP s1 s2):=⟨fun B=>(sV (h1.h B) (h2.h B)).imp fun D σ H hh=>by
 obtain⟨S,F,o,R,h,k⟩:=hh;obtain⟨o1,e1,h⟩:=ah h;refine⟨S,F,o1,R,e1,?_⟩;cases o1 with
 |nx S1=>exact fun σ' F' H' R' le=>⟨S1,F',o,R',h,k.mono le⟩
 |rt u S1=>cases h;exact k
 |bk S1=>cases h;exact k
 |ct S1=>cases h;exact k⟩
def aR (h1:JS X st s1):JB X [st] s1:=⟨fun B=>EY (h1.h B)⟩
def iY.put {F:Hp}{v:V}{o:MO}(r:iY K B S σ H0 F H v (.m o)):Pn B S σ F H v (.m o):=by
 obtain⟨a,e,_,f,h,n,hB⟩:=r;exact⟨a,e,f,h,n,hB⟩
def A7 {D:Ends}(h:tO K B (cu i g) D σ H):Jl (tE K B g) (zM i) D σ H:=by
 obtain⟨S,F,o,R,h,k⟩:=h;obtain⟨⟨u,S1⟩,h1,h⟩:=ah h;refine⟨S,F,u,S1,R,h1,fun v F1 H1 R1 st1 r1=>?_⟩;have go:(∀o',u≠.m o')->(fz u S1).bind (fun q=>(pL i (.t q.1) q.2).map Out.nx)=some o->D.nx (σ.set i (some v)) H1:=fun _ h=>by
  obtain⟨⟨d,S2⟩,h2,h⟩:=ah h;obtain⟨S3,h3,h⟩:=aB h;subst h;obtain⟨F2,R2,st2,r2⟩:=Ke R1 st1 r1 h2;exact k _ F2 H1 (R2.put h3 r2) st2.ext.le
 cases u with
 |m o'=>
  obtain⟨S3,h3,h⟩:=aB (show(pL i (.m o') S1).map Out.nx=some o from h);subst h;exact k _ F1 H1 (R1.put h3 r1.put) st1.ext.le
 |t d=>exact go (fun _ z=>by cases z) h
 |b d=>exact go (fun _ z=>by cases z) h
 |s d=>exact go (fun _ z=>by cases z) h
 |f d=>exact go (fun _ z=>by cases z) h
 |x cx kx=>exact go (fun _ z=>by cases z) h
 |v d=>exact go (fun _ z=>by cases z) h
def Q8 {pos':Pos}(hN:X.N.Nodup) (hi:X.N[i]? =some x) (hx:Loc X.env.scope x) (he:JE X e g) (hs:swapsWith e (some (.Name x pos')) pos.line X.env=pure false:=by rfl)
  (hf:X.fn x=true\/X.env.scope.names.lookup x=some .local:=by first|exact .inl rfl|exact .inr rfl|assumption):JS X (.Assign [.Name x pos'] e pos) (cu i g):=
 ⟨fun B=>(Jm hN hi hx (he.h B) hs hf).imp fun D σ H h=>A7 h⟩
def gH (he:JE X e g) (hs:swapsWith e none pos.line X.env=pure false:=by rfl):JS X (.Expr e pos) (j8 g):=⟨fun B=>(MG (he.h B) hs).imp fun D σ H hh=>by
 obtain⟨S,F,o,R,h,k⟩:=hh;obtain⟨⟨u,S1⟩,h1,h⟩:=aB h;subst h;exact⟨S,F,u,S1,R,h1,fun v F1 H1 R1 st1 r1=>k σ F1 H1 R1 st1.ext.le⟩⟩
def Rel.drop {F:Hp}{o:MO}(R:Rel K B S σ F H) (h:S[i]? =some (some (.m o))):Rel K B (S.set i none) σ F H:=by
 have back:∀{j w},(S.set i none)[j]? =some (some w)->i≠j/\S[j]? =some (some w):=fun {j w} z=>by
  rcases get_set z with⟨_,q,_⟩|q
  ·cases q
  ·exact q
 refine⟨R.sub,by rw[ac6];exact R.len,fun j w z=>R.rep j w (back z).2,fun j k w1 w2 a h1 m1 h2 m2=>R.Fl j k w1 w2 a (back h1).2 m1 (back h2).2 m2,fun j o a z=>R.own j o a (back z).2,fun j o a z=>R.bor j o a (back z).2,fun j a z=>?_,R.ext⟩;obtain⟨k1,o',k2⟩:=R.par j a z;have ne:i≠j:=fun z=>by subst z;rw[h] at k2;cases k2
 exact⟨k1,o',by rw[abv ne];exact k2⟩
def bA (he:JE X e g):JS X (.Return (some e) pos) (cG g):=⟨fun B=>(Qt (he.h B)).imp fun D σ H hh=>by
 obtain⟨S,F,o,R,h,k⟩:=hh;obtain⟨⟨u,S1⟩,h1,h⟩:=ah h;refine⟨S,F,u,S1,R,h1,fun v F1 H1 R1 st1 r1=>?_⟩;cases u with
 |t d=>cases h;exact k v σ F1 H1 R1 st1.ext.le r1
 |b d=>cases h;cases r1
 |s d=>cases h
 |f d=>cases h
 |x cx kx=>cases h
 |m o'=>cases h;exact k v σ F1 H1 R1 st1.ext.le (by obtain⟨a,e,h0,f,h,n,hB⟩:=r1;exact⟨a,e,hB,f,h,n,hB⟩)
 |v i=>
  obtain⟨hv,w,hw⟩:=r1;dsimp only at h;rw[hw] at h;obtain⟨v',z1,z2⟩:=R1.rep i w hw;rw[hv] at z1;cases z1;cases w with
  |t d=>cases h;exact k v σ F1 H1 R1 st1.ext.le z2
  |b d=>cases h
  |v d=>cases h
  |s d=>cases h
  |f d=>cases h
  |x cx kx=>cases h
  |m o'=>
   cases h;obtain⟨a,rfl,f,ha⟩:=z2;have hB:=R1.own i o' a hw hv;refine k _ σ F1 H1 (R1.drop hw) st1.ext.le ⟨a,rfl,hB,f,ha,fun hh=>?_,hB⟩;obtain⟨j,w,z,hm,hj⟩:=hh;rcases get_set z with⟨_,q,_⟩|⟨ne,q⟩
   ·cases q
   ·exact ne (R1.Fl i j _ w a hw rfl q hm hv hj)⟩
def cC (hc:JT X c q1) (ha:JB X b1 s1) (hb:JB X b2 s2):JS X (.If c b1 b2 pos) (iZ q1 s1 s2):=⟨fun B=>(U6 (hc.h B) (ha.h B) (hb.h B)).imp fun D σ H hh=>by
 obtain⟨S,F,o,R,h,k⟩:=hh;obtain⟨⟨d,S1⟩,h1,h⟩:=ah h;refine⟨S,F,d,S1,R,h1,fun F1 H1 R1 st1=>?_⟩;cases d with
 |true=>exact Cy ⟨S1,F1,o,R1,h,k.mono st1.ext.le⟩
 |false=>exact Cw ⟨S1,F1,o,R1,h,k.mono st1.ext.le⟩⟩
abbrev GB:=D->SS->Option SS
inductive tBd (K:AAD) (B:Base) (bd:GB) (v:V) (σ:St) (H:Hp) (Q:St->Hp->Prop):Prop
 |mk (S:SS) (F:Hp) (d:D) (S':SS) (R:Rel K B S σ F H) (r:Rep F v d) (hg:bd d S=some S') (q:∀σ',Rel K B S' σ' F H->Q σ' H)
structure JG (X:Cx) (tg:Expr) (bd:GB):Prop where
 h:∀B,PG X tg (tBd X.K B bd)
abbrev Mp:=List D->SS->Option SS
inductive aag (K:AAD) (B:Base) (bd:Mp) (vs:List V) (σ:St) (H:Hp) (Q:St->Hp->Prop):Prop
 |mk (S:SS) (F:Hp) (ds:List D) (S':SS) (R:Rel K B S σ F H) (r:bM F vs ds) (hg:bd ds S=some S') (q:∀σ',Rel K B S' σ' F H->Q σ' H)
structure Yi (X:Cx) (Kl:BBC) (bd:Mp):Prop where
 h:∀B,Pa X Kl (aag X.K B bd)
def PG.imp {t t':TG}(h:PG X tg t) (k:∀v σ H Q,t' v σ H Q->t v σ H Q):PG X tg t':=fun pins s σ H v u Q I r q=>h pins s σ H v u Q I r (k v σ H Q q)
def Pa.imp {tg:BBC}{t t':O9}(h:Pa X tg t) (k:∀v σ H Q,t' v σ H Q->t v σ H Q):Pa X tg t':=fun pins s σ H v u Q I r q=>h pins s σ H v u Q I r (k v σ H Q q)
def bName (i:Nat):GB:=fun d S=>pL i (.t d) S
def Nc (hN:X.N.Nodup) (hi:X.N[i]? =some x) (hx:Loc X.env.scope x) (hf:X.fn x=true\/X.env.scope.names.lookup x=some .local:=by first|exact .inl rfl|exact .inr rfl|assumption):JG X (.Name x pos) (bName i):=
 ⟨fun B=>(wF hN hi hx hf).imp fun v σ H Q ⟨S,F,d,S',R,r,h,k⟩=>k _ (R.put h r)⟩
noncomputable def wk:Mp:=fun ds S=>match ds with
 |[]=>some S
 |_=>none
noncomputable def gU (b:GB) (bs:Mp):Mp:=fun ds S=>match ds with
 |d::r=>(b d S).bind fun S1=>bs r S1
 |[]=>none
def A8:Yi X [] wk:=⟨fun B=>EZ.imp fun vs σ H Q hh=>by
 obtain⟨S,F,ds,S',R,r,h,k⟩:=hh;cases r with
 |nil=>cases h;exact⟨rfl,k σ R⟩
 |cons _ _=>cases h⟩
def mU {VS:Mp}(h1:JG X tg bd) (h2:Yi X Kl VS) (hs:(assignEach (tg::Kl) X.env).map (·.2)=assign tg X.env::(assignEach Kl X.env).map (·.2):=by rfl):Yi X (tg::Kl) (gU bd VS):=
 ⟨fun B=>(wV (h1.h B) (h2.h B) hs).imp fun vs σ H Q hh=>by
 obtain⟨S,F,ds,S',R,r,h,k⟩:=hh;cases r with
 |nil=>cases h
 |cons r rs=>
  obtain⟨S1,e1,h⟩:=ah h;exact⟨_,_,rfl,S,F,_,S1,R,r,e1,fun σ1 R1=>⟨S1,F,_,S',R1,rs,h,k⟩⟩⟩
noncomputable def uP (n:Nat) (bs:Mp):GB:=fun d S=>match d with
 |.tup ds=>if ds.length=n then bs ds S else none
 |_=>none
def En {k0:Nat}{VS:Mp}(hc:X.calm=true) (h:Yi X Kl VS) (hn:(assignEach Kl X.env).length=n:=by rfl) (hst:(assignEach Kl X.env).findIdx? (·.1)=none:=by rfl):JG X (.Tuple Kl k0 pos) (uP n VS):=
 ⟨fun B=>(Jj hc (h.h B) hn hst).imp fun v σ H Q hh=>by
 obtain⟨S,F,d,S',R,r,h,k⟩:=hh;cases d<;>try (cases h)
 rename_i ds;unfold uP at h;dsimp only at h;split at h
 ·rename_i hl;obtain⟨a,vs,rfl,fa,ha,rs⟩:=R.sub.iV r;exact⟨a,vs,rfl,.inl ha,by rw[rs.length];exact hl,S,F,ds,S',R,rs,h,k⟩
 ·cases h⟩
noncomputable def Q9 (bd:GB) (g:GD):GS:=fun S=>(g S).bind fun p=>(bd p.1 p.2).map .nx
def Rf (he:JD X e gd) (hg:JG X tg bd) (hs:swapsWithSole [tg] e pos.line X.env=pure false:=by rfl) (hw:swappedStores [tg] e X.env=pure none:=by rfl)
  (h1:(assignEach [tg] X.env).map (·.2)=[assign tg X.env]:=by rfl):JS X (.Assign [tg] e pos) (Q9 bd gd):=
 ⟨fun B=>(DU (he.h B) (hg.h B) hs hw h1).imp fun D σ H hh=>by
 obtain⟨S,F,o,R,h,k⟩:=hh;obtain⟨⟨d,S1⟩,e1,h⟩:=ah h;obtain⟨S2,e2,h⟩:=aB h;subst h;exact⟨S,F,d,S1,R,e1,fun v F1 H1 R1 st1 r1=>⟨S1,F1,d,S2,R1,r1,e2,fun σ' R2=>k σ' F1 H1 R2 st1.ext.le⟩⟩⟩
def Walk (J:It) (F:Hp) (ds:List D):Prop:=∀F' H',(∀b o,F b=some o->F' b=some o)->Sub F' H'->∀i,(∀d,ds[i]? =some d->J.go i H'/\∀x H2,J.Qv i H' x H2->H2=H'/\Rep F' x d)/\(ds.length<=i->J.stop i H')
abbrev GI:=SS->Option (List D×SS)
inductive tIt (K:AAD) (B:Base) (gi:GI) (σ:St) (H:Hp) (Q:It->Hp->Prop):Prop
 |mk (S:SS) (F:Hp) (ds:List D) (S':SS) (R:Rel K B S σ F H) (hg:gi S=some (ds,S')) (q:∀J F' H',Rel K B S' σ F' H'->Step S S' σ F H F' H'->Walk J F' ds->Q J H')
structure JI (X:Cx) (tg e:Expr) (gi:GI):Prop where
 h:∀B,PI X tg e (tIt X.K B gi)
def PI.orelse {wi:TI}(h:∀σ H R,wi σ H R->∃wi',PI X tg e wi'/\wi' σ H R):PI X tg e wi:=fun pins s σ H R I q=>let⟨_,h1,h2⟩:=h σ H R q;h1 pins s σ H R I h2
noncomputable def CD (g:GD):GI:=fun S=>(g S).bind fun p=>match p.1 with
 |.tup ds=>some (ds,p.2)
 |.lst ds=>some (ds,p.2)
 |_=>none
noncomputable def iA (g:GD):GI:=fun S=>(g S).bind fun p=>match p.1 with
 |.tup ds=>some (ds,p.2)
 |.lst ds=>some (ds,p.2)
 |.str z=>some (z.cps.toList.map fun c=>.str ⟨#[c]⟩,p.2)
 |_=>none
def zZ {F:Hp}{a:Addr}(fa:Rd F a (.lst vs)) (rs:bM F vs ds):Walk (ZO K a) F ds:=fun F' H' le sb i=>by
 have ha:mQ K H' a vs:=.inl (fa.imp (fun z=>sb a _ (le _ _ z)) fun⟨o,z⟩=>⟨o,sb a _ (le _ _ z)⟩);refine⟨fun d hd=>?_,fun hl=>⟨vs,ha,by rw[rs.length];exact hl⟩⟩;obtain⟨v,h1,h2⟩:=rs.get hd;refine⟨⟨vs,v,ha,h1⟩,fun x H2 y=>⟨y.1,?_⟩⟩;have:=y.2 vs ha;rw[h1] at this;cases this;exact h2.le le
def CF {F:Hp}{a:Addr}(fa:F a=some (.tup vs)) (rs:bM F vs ds):Walk (ZP K a) F ds:=fun F' H' le sb i=>by
 have ha:zL K H' a vs:=.inl (Rd.of (sb a _ (le _ _ fa)));refine⟨fun d hd=>?_,fun hl=>⟨vs,ha,by rw[rs.length];exact hl⟩⟩;obtain⟨v,h1,h2⟩:=rs.get hd;refine⟨⟨vs,v,ha,h1⟩,fun x H2 y=>⟨y.1,?_⟩⟩;have:=y.2 vs ha;rw[h1] at this;cases this;exact h2.le le
def Km {F:Hp}{z:Str}:Walk (Its z) F (z.cps.toList.map fun c=>.str ⟨#[c]⟩):=fun F' H' le sb i=>by
 refine⟨fun d hd=>?_,fun hl=>(show z.cps.size<=i by simpa using hl)⟩;rw[abx] at hd;obtain⟨c,hc,rfl⟩:=aB hd;have hc':z.cps[i]? =some c:=by rw[<-acq];exact hc
 refine⟨(Array.getElem?_eq_some_iff.mp hc').1,fun x H2 y=>⟨y.1,?_⟩⟩;obtain⟨c2,k1,rfl⟩:=y.2;rw[hc'] at k1;cases k1;exact .str _
def xr (h:JD X e gd):JI X tg e (CD gd):=⟨fun B=>PI.orelse fun σ H R0 hh=>by
 obtain⟨S,F,ds,S',R,hg,k⟩:=hh;obtain⟨⟨d,S1⟩,h1,hg⟩:=ah hg;cases d<;>try (cases hg)
 ·refine⟨_,Jr (h.h B),S,F,_,_,R,h1,fun v F1 H1 R1 st1 r1=>?_⟩;obtain⟨a,vs,rfl,fa,ha,rs⟩:=R1.sub.iV r1;exact⟨a,rfl,⟨vs,.inl ha⟩,k _ F1 H1 R1 st1 (CF fa rs)⟩
 ·refine⟨_,AK (h.h B),S,F,_,_,R,h1,fun v F1 H1 R1 st1 r1=>?_⟩;obtain⟨a,vs,rfl,fa,ha,rs⟩:=R1.sub.iC r1;exact⟨a,rfl,⟨vs,.inl ha⟩,k _ F1 H1 R1 st1 (zZ fa rs)⟩⟩
def dw (h:JD X e gd):JI X (.Name x pos) e (iA gd):=⟨fun B=>PI.orelse fun σ H R0 hh=>by
 obtain⟨S,F,ds,S',R,hg,k⟩:=hh;obtain⟨⟨d,S1⟩,h1,hg⟩:=ah hg;cases d<;>try (cases hg)
 ·refine⟨_,Q2 (h.h B),S,F,_,_,R,h1,fun v F1 H1 R1 st1 r1=>?_⟩;exact⟨_,Fo r1,k _ F1 H1 R1 st1 Km⟩
 ·refine⟨_,Jr (h.h B),S,F,_,_,R,h1,fun v F1 H1 R1 st1 r1=>?_⟩;obtain⟨a,vs,rfl,fa,ha,rs⟩:=R1.sub.iV r1;exact⟨a,rfl,⟨vs,.inl ha⟩,k _ F1 H1 R1 st1 (CF fa rs)⟩
 ·refine⟨_,AK (h.h B),S,F,_,_,R,h1,fun v F1 H1 R1 st1 r1=>?_⟩;obtain⟨a,vs,rfl,fa,ha,rs⟩:=R1.sub.iC r1;exact⟨a,rfl,⟨vs,.inl ha⟩,k _ F1 H1 R1 st1 (zZ fa rs)⟩⟩
noncomputable def iX (lo:Int) (n:Nat):List D:=(List.range n).map fun(k:Nat)=>D.int (lo+(k:Int))
def mV (gA:GA):GI:=fun S=>(gA S).bind fun p=>match p.1 with
 |[.int j]=>if j<1000000/\-1000000<j then some (iX 0 j.toNat,p.2) else none
 |_=>none
def vN (gA:GA):GI:=fun S=>(gA S).bind fun p=>match p.1 with
 |[.int i,.int j]=>if i<1000000/\-1000000<i/\j<1000000/\-1000000<j then some (iX i (j-i).toNat,p.2) else none
 |_=>none
def CG {F:Hp}{lo:Int}:Walk (U9 lo n) F (iX lo n):=fun F' H' le sb i=>by
 refine⟨fun d hd=>?_,fun hl=>(show n<=i by simpa[iX] using hl)⟩;unfold iX at hd;rw[abx] at hd;obtain⟨c,hc,rfl⟩:=aB hd;obtain⟨hl,e⟩:=aaD.mp hc;rw[List.getElem_range] at e;subst e;refine⟨show i<n by simpa using hl,fun x H2 y=>⟨y.1,?_⟩⟩;rw[y.2];exact .int _
def i8 {gA:GA}(hg:Gl X "range") (hm:X.mg "range" =none) (ha:JA X [a] gA) (hs:starEach [a] X.env=[(false,eval a X.env)]:=by rfl):JI X tg (.Call (.Name "range" p) [a] [] pos) (mV gA):=
 ⟨fun B=>PI.orelse fun σ H R0 hh=>by
 obtain⟨S,F,ds,S',R,hg',k⟩:=hh;obtain⟨⟨d,S1⟩,h1,hg'⟩:=ah hg';refine⟨_,G2 hg hm (ha.h B) hs,S,F,d,S1,R,h1,fun vs F1 H1 R1 st1 r1=>?_⟩;dsimp only at hg';split at hg'
 ·split at hg'
  ·rename_i j hj;cases hg';cases r1 with
   |cons r rs=>
    cases rs;exact⟨j,by rw[gG r],by lia,by lia,k _ F1 H1 R1 st1 CG⟩
  ·cases hg'
 ·cases hg'⟩
def qJ {gA:GA}(hg:Gl X "range") (hm:X.mg "range" =none) (ha:JA X [a,b] gA) (hs:starEach [a,b] X.env=[(false,eval a X.env),(false,eval b X.env)]:=by rfl) (hs2:starEach [b] X.env=[(false,eval b X.env)]:=by rfl):
  JI X tg (.Call (.Name "range" p) [a,b] [] pos) (vN gA):=
 ⟨fun B=>PI.orelse fun σ H R0 hh=>by
 obtain⟨S,F,ds,S',R,hg',k⟩:=hh;obtain⟨⟨d,S1⟩,h1,hg'⟩:=ah hg';refine⟨_,G3 hg hm (ha.h B) hs hs2,S,F,d,S1,R,h1,fun vs F1 H1 R1 st1 r1=>?_⟩;dsimp only at hg';split at hg'
 ·split at hg'
  ·rename_i i j hj;cases hg';cases r1 with
   |cons r rs=>
    cases rs with
    |cons r2 rs=>
     cases rs;exact⟨i,j,by rw[gG r,gG r2],⟨by lia,by lia,by lia,by lia⟩,k _ F1 H1 R1 st1 CG⟩
  ·cases hg'
 ·cases hg'⟩
noncomputable def loop (bd:GB) (body:GS):List D->SS->Option Out
 |[],S=>some (.nx S)
 |d::ds,S=>(bd d S).bind fun S1=>(body S1).bind fun o=>match o with
  |.nx S2=>loop bd body ds S2
  |.ct S2=>loop bd body ds S2
  |.bk S2=>some (.nx S2)
  |.rt u S2=>some (.rt u S2)
def iF (bd:GB) (gi:GI) (body:GS):GS:=fun S=>(gi S).bind fun p=>loop bd body p.1 p.2
def fu (hp:PassesOwn (model X.prog X.w) X.A X.env X.xe) (hc:X.calm=true) (hi:JI X tg iter gi) (hg:JG X tg bd) (hb:JB X body s1) (hs:∀x,foldedSetIterable iter X.env x=pure x:=by intro _;rfl):
  JS X (.For tg iter body [] pos) (iF bd gi s1):=⟨fun B=>(Qw hp hc (hi.h B) (hg.h B) (hb.h B) hs).imp fun D σ H hh=>by
 obtain⟨S,F,o,R,h,k⟩:=hh;obtain⟨⟨ds,S1⟩,h1,h⟩:=ah h;refine⟨S,F,ds,S1,R,h1,fun J F1 H1 R1 st1 w=>?_⟩;refine⟨fun i m σ' H'=>∃S' F',Rel X.K B S' σ' F' H'/\(∀b o,F1 b=some o->F' b=some o)/\i<=ds.length/\m=ds.length-i/\loop bd s1 (ds.drop i) S'=some o,⟨_,S1,F1,R1,fun _ _ z=>z,abH _,rfl,h⟩,?_⟩;rintro i m σ' H' ⟨S',F',R',le,hl,rfl,fj⟩;have w':=w F' H' le R'.sub i;by_cases hlt:i<ds.length
 ·have hd:ds[i]? =some ds[i]:=aaz hlt;obtain⟨go,yl⟩:=w'.1 _ hd;rw[acM hlt] at fj;obtain⟨S2,e2,fj⟩:=ah fj;obtain⟨o2,e3,fj⟩:=ah fj;refine .inr ⟨go,_,fun σ2 H2 n=>⟨ds.length-(i+1),by lia,n⟩,fun x H2 y=>?_⟩;obtain⟨rfl,rx⟩:=yl x H2 y;refine⟨S',F',_,S2,R',rx,e2,fun σ3 R3=>⟨S2,F',o2,R3,e3,?_⟩⟩;cases o2 with
  |nx S3=>exact fun VT F4 H4 R4 Rg=>⟨S3,F4,R4,fun b o z=>Rg b o (le b o z),hlt,rfl,fj⟩
  |ct S3=>exact fun VT F4 H4 R4 Rg=>⟨S3,F4,R4,fun b o z=>Rg b o (le b o z),hlt,rfl,fj⟩
  |bk S3=>cases fj;exact fun VT F4 H4 R4 Rg=>k VT F4 H4 R4 fun b o z=>Rg b o (le b o (st1.ext.le b o z))
  |rt u S3=>cases fj;exact fun v VT F4 H4 R4 Rg=>k v VT F4 H4 R4 fun b o z=>Rg b o (le b o (st1.ext.le b o z))
 ·have e:i=ds.length:=by lia
  subst e;rw[aek] at fj;cases fj;exact .inl ⟨w'.2 (aam _),k σ' F' H' R' fun b o z=>le b o (st1.ext.le b o z)⟩⟩
end
noncomputable def Ug:U->MO->Option U
 |.m _,o=>some (.m o)
 |.b _,o=>some (.b o)
 |_,_=>none
noncomputable def Pp:U->Option MO
 |.m o=>some o
 |.b o=>some o
 |_=>none
noncomputable def pA (S:SS) (i:Nat) (f:MO->Option (D×MO)):Option (D×SS):=match S[i]? with
 |some (some (.m o))=>(f o).map fun r=>(r.1,S.set i (some (.m r.2)))
 |some (some (.b o))=>(f o).map fun r=>(r.1,S.set i (some (.b r.2)))
 |_=>none
def At.VU {F:Hp}{o:MO}{ob:Obj}{u:HO}(h:At F H a o):H a≠some (.jK ob u):=fun z=>by
 cases o with
 |lst ds=>obtain⟨vs,e,_⟩:=h;rw[z] at e;cases e
 |dct ds=>obtain⟨vs,e,_⟩:=h;rw[z] at e;cases e
 |zW ds=>obtain⟨vs,e,_⟩:=h;rw[z] at e;cases e
 |ins C ds=>obtain⟨vs,⟨dx,e⟩,_⟩:=h;rw[z] at e;cases e
 |gap ds=>obtain⟨vs,e,_⟩:=h;rw[z] at e;cases e
 |lat c ds=>obtain⟨vs,⟨_,e⟩,_⟩:=h;rw[z] at e;cases e
 |lK c ds=>obtain⟨vs,⟨_,e⟩,_⟩:=h;rw[z] at e;cases e
 |DO C ds=>obtain⟨vs,⟨dx,e⟩,_⟩:=h;rw[z] at e;cases e
def zq.cQ {F:Hp}{v:V}(r:zq K F H v u) (hm:fL u=true):∃a o,v= .ref a/\F a=none/\Pp u=some o/\At F H a o:=by
 cases u with
 |t d=>cases hm
 |v d=>cases hm
 |s d=>cases hm
 |f d=>cases hm
 |x cx kx=>cases hm
 |m o=>obtain⟨a,e,f,h⟩:=r;exact⟨a,o,e,f,rfl,h⟩
 |b o=>obtain⟨a,e,f,h⟩:=r;exact⟨a,o,e,f,rfl,h⟩
def Rel.write {F:Hp}{u':U}{ho:HO}{o:MO}(R:Rel K B S σ F H) (hS:S[i]? =some (some u)) (hu:Ug u o=some u') (hv:σ[i]? =some (some (.ref a))) (ha:At F (upd H a ho) a o):
  Rel K B (S.set i (some u')) σ F (upd H a ho)/\Step S (S.set i (some u')) σ F H F (upd H a ho):=by
 have hm:fL u=true/\fL u'=true:=by cases u<;>cases hu<;>exact⟨rfl,rfl⟩
 have VW:F a=none/\∀b ob w,H b=some (.jK ob w)->b≠a:=by
  obtain⟨v,h1,h2⟩:=R.rep i u hS;rw[hv] at h1;cases h1;obtain⟨b,_,e,f,_,k⟩:=h2.cQ hm.1;cases e;exact⟨f,fun b ob w z e=>k.VU (by rw[e] at z;exact z)⟩
 have Rh:=VW.1;have Uh:∀b ob w,H b=some (.jK ob w)->upd H a ho b=some (.jK ob w):=fun b ob w z=>by rw[bh (VW.2 b ob w z)];exact z
 have mAt:L2.cQ S σ a:=⟨i,u,hS,hm.1,hv⟩
 have hl:i<S.length:=(aaD.mp hS).1;have kb:∀{j w},(S.set i (some u'))[j]? =some (some w)->(i=j/\u'=w)\/(i≠j/\S[j]? =some (some w)):=fun {j w} z=>by
  rcases get_set z with⟨e,q,_⟩|q
  ·exact .inl ⟨e,abJ q⟩
  ·exact .inr q
 have orig:∀{j w},(S.set i (some u'))[j]? =some (some w)->fL w=true->∃w0,S[j]? =some (some w0)/\fL w0=true:=fun {j w} z hw=>by
  rcases kb z with⟨rfl,rfl⟩|⟨_,q⟩
  ·exact⟨u,hS,hm.1⟩
  ·exact⟨w,q,hw⟩
 have keepR:∀b o,b≠a->Rd H b o->Rd (upd H a ho) b o:=fun b o ne r=>by
  rcases r with r|⟨ob,r⟩
  ·exact .inl (by rw[bh ne];exact r)
  ·exact .inr ⟨ob,by rw[bh ne];exact r⟩
 refine⟨⟨fun b o z=>by rw[bh (fun e=>by rw[e,Rh] at z;cases z)];exact R.sub b o z,by rw[ac6];exact R.len,fun j w z=>?_,fun j k w1 w2 c z1 m1 z2 m2=>?_,fun j o' c z hc=>?_,fun j o' c z hc=>?_,fun j c z=>?_,?_⟩,⟨?_,fun c ⟨j,w,z,hw,hc⟩=>?_,fun j w z=>?_⟩⟩
 ·rcases kb z with⟨rfl,rfl⟩|⟨ne,q⟩
  ·refine⟨.ref a,hv,?_⟩;cases u<;>cases hu
   ·exact⟨a,rfl,Rh,ha⟩
   ·exact⟨a,rfl,Rh,ha⟩
  ·obtain⟨v,h1,h2⟩:=R.rep j w q;refine⟨v,h1,?_⟩;by_cases hw:fL w=true
   ·obtain⟨c,o',rfl,f,e,h⟩:=h2.cQ hw;have hca:c≠a:=fun z=>ne (R.Fl i j u w a hS hm.1 q hw hv (by rw[h1,z]));have h':At F (upd H a ho) c o':=h.le (fun _ _ z=>z) fun o z=>by rw[bh hca];exact z
    cases w<;>cases hw<;>cases e
    ·exact⟨c,rfl,f,h'⟩
    ·exact⟨c,rfl,f,h'⟩
   ·cases w with
    |t d=>exact h2
    |v d=>exact h2
    |s d=>obtain⟨c,e,h⟩:=h2;exact⟨c,e,h.le Uh⟩
    |f d=>exact h2
    |x cx kx=>exact h2
    |m o=>exact absurd rfl hw
    |b o=>exact absurd rfl hw
 ·obtain⟨VX,q1,n1⟩:=orig z1 m1;obtain⟨VY,q2,n2⟩:=orig z2 m2;exact R.Fl j k VX VY c q1 n1 q2 n2
 ·rcases kb z with⟨rfl,rfl⟩|⟨_,q⟩
  ·cases u<;>cases hu
   exact R.own _ _ c hS hc
  ·exact R.own j o' c q hc
 ·rcases kb z with⟨rfl,rfl⟩|⟨_,q⟩
  ·cases u<;>cases hu
   exact R.bor _ _ c hS hc
  ·exact R.bor j o' c q hc
 ·obtain⟨k1,o',k2⟩:=R.par j c z;refine⟨k1,?_⟩;by_cases e:i=j
  ·subst e;rw[hS] at k2;cases k2;cases hu;exact⟨o,ace hl⟩
  ·exact⟨o',by rw[abv e];exact k2⟩
 ·refine⟨R.ext.le,fun b o z n=>?_,R.ext.kN,fun b o z=>?_,fun b o w z=>Uh b o w (R.ext.jK b o w z)⟩
  ·have hb:b≠a:=fun e=>by
    subst e;cases u with
    |m o'=>rw[R.own i o' b hS hv] at z;cases z
    |b o'=>exact n (R.bor i o' b hS hv)
    |t d=>cases hu
    |v d=>cases hu
    |s d=>cases hu
    |f d=>cases hu
    |x cx kx=>cases hu
   rw[bh hb];exact R.ext.keep b o z n
  ·by_cases hb:b=a
   ·exact⟨ho,by rw[hb,aU]⟩
   ·rw[bh hb];exact R.ext.there b o z
 ·refine⟨fun _ _ z=>z,fun b o z n=>?_,fun _ _ _ _ z=>z,fun b o z=>?_,Uh⟩
  ·rw[bh (fun e=>n (by rw[e];exact mAt))];exact z
  ·by_cases hb:b=a
   ·exact⟨ho,by rw[hb,aU]⟩
   ·exact⟨o,by rw[bh hb];exact z⟩
 ·obtain⟨w0,q,n⟩:=orig z hw;exact⟨j,w0,q,n,hc⟩
 ·by_cases e:i=j
  ·subst e;exact⟨u',ace hl⟩
  ·exact⟨w,by rw[abv e];exact z⟩
def mW {f:MO->Option (D×MO)}{d:D}(h:pA S i f=some (d,S')):∃u u' o o',S[i]? =some (some u)/\fL u=true/\Pp u=some o/\f o=some (d,o')/\Ug u o'=some u'/\S'=S.set i (some u'):=by
 unfold pA at h;split at h
 ·rename_i o e;obtain⟨⟨d',o'⟩,h1,h⟩:=aB h;cases h;exact⟨_,_,o,o',e,rfl,rfl,h1,rfl,rfl⟩
 ·rename_i o e;obtain⟨⟨d',o'⟩,h1,h⟩:=aB h;cases h;exact⟨_,_,o,o',e,rfl,rfl,h1,rfl,rfl⟩
 ·cases h
def Yj (r:V->List V->Hp->VK->Prop) (h:List D->MO->Option (D×MO)):Prop:=
 ∀F H a vs xs ds args res o',Sub F H->H a=some (.lst vs)->F a=none->bM F vs ds->bM F xs args->h args (.lst ds)=some (res,o')->
  ∀Q:VK,(∀rv ho,Rep F rv res->At F (upd H a ho) a o'->Q rv (upd H a ho))->r (.ref a) xs H Q
noncomputable def eU:MO->Bool
 |.lst _=>true
 |_=>false
noncomputable def VZ (S:SS) (i:Nat):Bool:=match S[i]? with
 |some (some (.m (.lst _)))=>true
 |some (some (.b (.lst _)))=>true
 |_=>false
def Ri {F:Hp}(R:Rel K B S σ F H) (h:VZ S i=true):∃u a vs ds,S[i]? =some (some u)/\fL u=true/\Pp u=some (.lst ds)/\σ[i]? =some (some (.ref a))/\F a=none/\H a=some (.lst vs)/\bM F vs ds:=by
 unfold VZ at h;split at h
 ·rename_i ds e;obtain⟨v,k1,a,rfl,f,vs,k2,k3⟩:=R.rep i _ e;exact⟨_,a,vs,ds,e,rfl,rfl,k1,f,k2,k3⟩
 ·rename_i ds e;obtain⟨v,k1,a,rfl,f,vs,k2,k3⟩:=R.rep i _ e;exact⟨_,a,vs,ds,e,rfl,rfl,k1,f,k2,k3⟩
 ·cases h
def eM (i:Nat) (h:List D->MO->Option (D×MO)) (gA:GA):GD:=fun S=>if VZ S i then(gA S).bind fun p=>pA p.2 i (h p.1) else none
def Ko {F:Hp}(R:Rel K B S σ F H) (hS:S[i]? =some (some u)) (hm:fL u=true) (hi:Pp u=some (.lst ds)) (hv:σ[i]? =some (some (.ref a))):F a=none/\∃vs,H a=some (.lst vs)/\bM F vs ds:=by
 obtain⟨v,k1,k2⟩:=R.rep i u hS;rw[hv] at k1;cases k1;obtain⟨b,o2,e1,f,e2,k⟩:=k2.cQ hm;cases e1;rw[hi] at e2;cases e2;exact⟨f,k⟩
section
variable {X:Cx}{a e:Expr}{es:BBC}{apos cpos px:Pos}{x name:Str}{gA:GA}{id:String}
def ie {r:V->List V->Hp->VK->Prop}{h:List D->MO->Option (D×MO)}(slot:Slot "list" name id) (hty:typeOf (.builtin id)=pure (.type "method_descriptor")) (hm:Yd X id r) (hh:Yj r h) (hl:∀args o,eU o=false->h args o=none) (ha:JA X (e::es) gA)
  (hN:X.N[i]? =some x:=by rfl) (hv:qV X.env.scope x:=by first|exact Or.inl rfl|exact Or.inr (Or.inl rfl)|exact Or.inr (Or.inr rfl))
  (hbase:attributeBase (.Name x px) name X.env (eval (.Name x px) X.env)=eval (.Name x px) X.env:=by rfl)
  (hfew:((backTo cpos (starEach (e::es) X.env)).all (fun x=>!x.1) && (backToKw cpos (keywordEach [] X.env)).all (fun x=>x.1.isSome)
   && decide ((e::es).length+([]:BBI).length+(if([]:BBI).isEmpty then 0 else 1)<30))=true:=by rfl)
  (hline:(apos.endLine == cpos.line)=true:=by rfl) (hs:starEach (e::es) X.env=(false,eval e X.env)::starEach es X.env:=by rfl) (hplain:(backTo cpos (starEach es X.env)).any (·.1)=false:=by rfl)
  (hd:BBT x:=by decide) (hcd:BBU x:=by decide):
  JD X (.Call (.Attribute (.Name x px) name apos) (e::es) [] cpos) (eM i h gA):=
 ⟨fun B=>(Pj aft slot hty hm (cI hN hv hd hcd) (ha.h B) hbase hfew hline hs hplain).imp fun σ H Q hh=>by
 obtain⟨S,F,d,S',R,hg,q⟩:=hh;unfold eM at hg;split at hg
 ·rename_i hL;obtain⟨⟨args,S1⟩,h1,hg⟩:=ah hg;obtain⟨u,u',o,o',hS,Hw,hio,hf,IP,rfl⟩:=mW hg;obtain⟨u0,a,Yc,ds0,_,_,_,hv0,_,hH,_⟩:=Ri R hL;cases o with
  |dct kvs=>rw[hl _ _ rfl] at hf;cases hf
  |zW kvs=>rw[hl _ _ rfl] at hf;cases hf
  |ins C kvs=>rw[hl _ _ rfl] at hf;cases hf
  |gap _=>rw[hl _ _ rfl] at hf;cases hf
  |lat _ _=>rw[hl _ _ rfl] at hf;cases hf
  |lK _ _=>rw[hl _ _ rfl] at hf;cases hf
  |DO _ _=>rw[hl _ _ rfl] at hf;cases hf
  |lst ds=>
   refine⟨.ref a,hv0,.inl ⟨rfl,Yc,mQ.of hH⟩,S,F,args,S1,R,h1,fun xs F1 H1 R1 st1 r1=>?_⟩;obtain⟨hf1,vs,hH1,rs⟩:=Ko R1 hS Hw hio hv0;refine hh F1 H1 a vs xs ds args d o' R1.sub hH1 hf1 rs r1 hf Q fun rv ho rr ha=>?_;obtain⟨R2,st2⟩:=R1.write hS IP hv0 ha;exact q rv F1 _ R2 (st1.trans st2) rr
 ·cases hg⟩
noncomputable def hAppend:List D->MO->Option (D×MO)
 |[d],.lst ds=>if ds.length<100000 then some (.cJ,.lst (ds++[d])) else none
 |_,_=>none
def fP:Yj Fe hAppend:=by
 intro F H a vs xs ds args res o' sb hH fa rs rx hw Q q;unfold hAppend at hw;split at hw
 ·rename_i d ds' e2;cases e2;split at hw
  ·rename_i hl;cases hw;cases rx with
   |cons r rr=>
    cases rr;exact⟨a,vs,_,rfl,rfl,hH,by rw[rs.length];exact aaE hl (by decide),q .cJ _ .cJ ⟨_,aU,rs.append (.cons r .nil)⟩⟩
  ·cases hw
 ·cases hw
end
def iY.step {F:Hp}{v:V}(r:iY K B S σ H0 F H v u) (st:Step S S' σ F H F' H'):iY K B S' σ H0 F' H' v u:=by
 cases u with
 |t d=>exact r.le st.ext.le
 |b o=>exact r
 |v i=>obtain⟨h1,u,h2⟩:=r;exact⟨h1,st.slots i u h2⟩
 |s i=>obtain⟨a,e,h⟩:=r;exact⟨a,e,h.le st.ext.jK⟩
 |f i=>exact r
 |x cx kx=>exact A0.le st.ext.le r
 |m o=>
  obtain⟨a,e,h0,f,h,n,hB⟩:=r;obtain⟨ho,hh⟩:=h.has;exact⟨a,e,h0,st.ext.kN a ho hh n f,h.le st.ext.le fun o z=>st.ext.keep a o z n,fun m=>n (st.mu a m),hB⟩
abbrev GU:=SS->Option (List U×SS)
inductive tAU (K:AAD) (B:Base) (gu:GU) (σ:St) (H:Hp) (Q:List V->Hp->Prop):Prop
 |mk (S:SS) (F:Hp) (us:List U) (S':SS) (R:Rel K B S σ F H) (hg:gu S=some (us,S')) (q:∀vs F' H',Rel K B S' σ F' H'->Step S S' σ F H F' H'->Paired (fun v u=>iY K B S' σ H F' H' v u) vs us->Q vs H')
structure JU (X:Cx) (es:BBC) (gu:GU):Prop where
 h:∀B,PA X es (tAU X.K B gu)
 len:∀S us S',gu S=some (us,S')->us.length=es.length
noncomputable def bO:GU:=fun S=>some ([],S)
noncomputable def aZ (g:GD) (gu:GU):GU:=fun S=>(g S).bind fun p=>(gu p.2).map fun q=>(.t p.1::q.1,q.2)
noncomputable def cD (g:GE) (gu:GU):GU:=fun S=>(g S).bind fun p=>(gu p.2).map fun q=>(p.1::q.1,q.2)
section
variable {X:Cx}{e:Expr}{es:BBC}{g:GD}{ge:GE}{gu:GU}
def aW:JU X [] bO:=⟨fun B=>kO.imp fun σ H Q hh=>by
 obtain⟨S,F,us,S',R,hg,q⟩:=hh;cases hg;exact q [] F H R (Step.refl ..) .nil,fun S us S' h=>by cases h;rfl⟩
def aG (h:JD X e g) (hr:JU X es gu) (hs:starEach (e::es) X.env=(false,eval e X.env)::starEach es X.env:=by rfl):JU X (e::es) (aZ g gu):=
 ⟨fun B=>(gF (h.h B) (hr.h B) hs).imp fun σ H Q hh=>by
 obtain⟨S,F,us,S',R,hg,q⟩:=hh;obtain⟨⟨d,S1⟩,h1,hg⟩:=ah hg;obtain⟨⟨Rj,S2⟩,h2,hg⟩:=aB hg;cases hg;exact⟨S,F,d,S1,R,h1,fun v F1 H1 R1 st1 r1=>⟨S1,F1,Rj,S2,R1,h2,fun vs F2 H2 R2 st2 r2=>q _ F2 H2 R2 (st1.trans st2) (.cons (r1.le st2.ext.le) (Paired.Cj r2 fun _ _ z=>z.weak st1.ext.there))⟩⟩,
 fun S us S' hg=>by
  obtain⟨⟨d,S1⟩,h1,hg⟩:=ah hg;obtain⟨⟨Rj,S2⟩,h2,hg⟩:=aB hg;cases hg;show Rj.length+1=es.length+1;rw[hr.len _ _ _ h2]⟩
def bC (h:JE X e ge) (hr:JU X es gu) (hs:starEach (e::es) X.env=(false,eval e X.env)::starEach es X.env:=by rfl):JU X (e::es) (cD ge gu):=
 ⟨fun B=>(gF (h.h B) (hr.h B) hs).imp fun σ H Q hh=>by
 obtain⟨S,F,us,S',R,hg,q⟩:=hh;obtain⟨⟨d,S1⟩,h1,hg⟩:=ah hg;obtain⟨⟨Rj,S2⟩,h2,hg⟩:=aB hg;cases hg;exact⟨S,F,d,S1,R,h1,fun v F1 H1 R1 st1 r1=>⟨S1,F1,Rj,S2,R1,h2,fun vs F2 H2 R2 st2 r2=>q _ F2 H2 R2 (st1.trans st2) (.cons (r1.step st2) (Paired.Cj r2 fun _ _ z=>z.weak st1.ext.there))⟩⟩,
 fun S us S' hg=>by
  obtain⟨⟨d,S1⟩,h1,hg⟩:=ah hg;obtain⟨⟨Rj,S2⟩,h2,hg⟩:=aB hg;cases hg;show Rj.length+1=es.length+1;rw[hr.len _ _ _ h2]⟩
end
noncomputable def resolve (S:SS):U->Option U
 |.t d=>some (.t d)
 |.v i=>match S[i]? with
  |some (some (.m o))=>some (.b o)
  |some (some (.b o))=>some (.b o)
  |_=>none
 |.m o=>some (.b o)
 |.b _=>none
 |.s ns=>some (.s ns)
 |.f a=>some (.f a)
 |.x C k=>some (.x C k)
def cH (S:SS):List U->Option (List U)
 |[]=>some []
 |u::us=>(resolve S u).bind fun w=>(cH S us).map fun ws=>w::ws
noncomputable def slotsOf:List U->BBJ
 |[]=>[]
 |.v i::us=>i::slotsOf us
 |_::us=>slotsOf us
noncomputable def cS:List U->Nat
 |[]=>0
 |.m _::us=>cS us+1
 |_::us=>cS us
noncomputable def wb:List U->List MO->SS->Option SS
 |[],[],S=>some S
 |.v i::us,o::outs,S=>match S[i]? with
  |some (some (.m _))=>wb us outs (S.set i (some (.m o)))
  |some (some (.b _))=>wb us outs (S.set i (some (.b o)))
  |_=>none
 |.m _::us,_::outs,S=>wb us outs S
 |.t _::us,outs,S=>wb us outs S
 |.s _::us,outs,S=>wb us outs S
 |.f _::us,outs,S=>wb us outs S
 |.x _ _::us,outs,S=>wb us outs S
 |_,_,_=>none
abbrev FM:=List U->Option (U×List MO)
def bu (f:FM) (gu:GU):GE:=fun S=>(gu S).bind fun p=>
 if(slotsOf p.1).Nodup/\cS p.1<=1 then(cH p.2 p.1).bind fun us=>(f us).bind fun r=>(wb p.1 r.2 p.2).map fun S2=>(r.1,S2) else none
def Hx (K:AAD) (F H:Hp) (v:V):U->Prop
 |.s ns=>∃a,v= .ref a/\M7 K H a ns
 |.f a=>v= .ref a
 |.x C k=>A0 F v C k
 |.t d=>Rep F v d
 |.b o=>∃a,v= .ref a/\F a=none/\At F H a o
 |_=>False
noncomputable def addrs:List V->List U->BBE
 |.ref a::vs,.b _::us=>a::addrs vs us
 |_::vs,_::us=>addrs vs us
 |_,_=>[]
structure Post (F H F' H':Hp) (as:BBE) (outs:List MO):Prop where
 sub:Sub F' H'
 ext:Ext (fun a=>a∈as) F H F' H'
 out:Paired (fun a o=>F' a=none/\At F' H' a o) as outs
def spT (K:AAD) (n:Nat) (f:FM):Sp:=fun vs H Q _=>vs.length=n/\∃F us r outs,Sub F H/\Paired (Hx K F H) vs us/\(addrs vs us).Nodup/\f us=some (r,outs)/\∀v F' H',Post F H F' H' (addrs vs us) outs->zu H F' H' v r->Q v H'
section
variable {K:AAD}{B:Base}{S S1 S2:SS}{σ:St}{H0 F H:Hp}
def mX {w:U}(h:resolve S (.v i)=some w):∃u o,S[i]? =some (some u)/\fL u=true/\Pp u=some o/\w= .b o:=by
 unfold resolve at h;dsimp only at h;split at h
 ·rename_i o e;cases h;exact⟨_,o,e,rfl,rfl,rfl⟩
 ·rename_i o e;cases h;exact⟨_,o,e,rfl,rfl,rfl⟩
 ·cases h
theorem qK (R:Rel K B S σ F H):∀{vs:List V}{us ws:List U},Paired (fun v u=>iY K B S σ H0 F H v u) vs us->cH S us=some ws->Paired (Hx K F H) vs ws
 |_,_,_,.nil,h=>by cases h;exact .nil
 |_,_,_,@Paired.cons _ _ _ v u vs us r rs,h=>by
  obtain⟨w,h1,h⟩:=ah h;obtain⟨ws,h2,h⟩:=aB h;subst h;refine .cons ?_ (qK R rs h2);cases u with
  |t d=>cases h1;exact r
  |s d=>cases h1;exact r
  |f d=>cases h1;exact r
  |x cx kx=>cases h1;exact r
  |b o=>cases h1
  |m o=>cases h1;obtain⟨a,e,_,f,k,_⟩:=r;exact⟨a,e,f,k⟩
  |v i=>
   obtain⟨u,o,hu,hm,hi,rfl⟩:=mX h1;obtain⟨hv,_⟩:=r;obtain⟨v',k1,k2⟩:=R.rep i u hu;rw[hv] at k1;cases k1;obtain⟨a,o2,e,f,e2,k⟩:=k2.cQ hm;rw[hi] at e2;cases e2;exact⟨a,e,f,k⟩
def Rk {v:V}{d:D}:addrs (v::vs) (.t d::us)=addrs vs us:=by cases v<;>rfl
def skS {v:V}{d:BBD}:addrs (v::vs) (.s d::us)=addrs vs us:=by cases v<;>rfl
def skX {v:V}{C:Addr}{k:List (Str×D)}:addrs (v::vs) (.x C k::us)=addrs vs us:=by cases v<;>rfl
def skF {v:V}{d:Addr}:addrs (v::vs) (.f d::us)=addrs vs us:=by cases v<;>rfl
theorem tH (R:Rel K B S σ F H):∀{vs:List V}{us ws:List U},Paired (fun v u=>iY K B S σ H0 F H v u) vs us->cH S us=some ws->∀a∈addrs vs ws,
  (∃i u,i∈slotsOf us/\S[i]? =some (some u)/\fL u=true/\σ[i]? =some (some (.ref a)))\/(0<cS us/\H0 a=none/\B.H a=none/\¬cQ S σ a)
 |_,_,_,.nil,h,a,ha=>by cases h;cases ha
 |_,_,_,@Paired.cons _ _ _ v u vs us r rs,h,a,ha=>by
  obtain⟨w,h1,h⟩:=ah h;obtain⟨ws,h2,h⟩:=aB h;subst h;have ih:=tH R rs h2;cases u with
  |t d=>
   cases h1;exact ih a (Rk▸ha)
  |s d=>
   cases h1;exact ih a (skS▸ha)
  |f d=>
   cases h1;exact ih a (skF▸ha)
  |x cx kx=>
   cases h1;exact ih a (skX▸ha)
  |b o=>cases h1
  |m o=>
   cases h1;obtain⟨c,rfl,k0,f,k,n,hB⟩:=r;rcases aav.mp (show a∈c::addrs vs ws from ha) with rfl|ha
   ·exact .inr ⟨Nat.succ_pos _,k0,hB,n⟩
   ·rcases ih a ha with z|⟨_,z⟩
    ·exact .inl z
    ·exact .inr ⟨Nat.succ_pos _,z⟩
  |v i=>
   obtain⟨u,o,hu,hm,hi,rfl⟩:=mX h1;obtain⟨hv,_⟩:=r;obtain⟨v',k1,k2⟩:=R.rep i u hu;rw[hv] at k1;cases k1;obtain⟨c,o2,rfl,f,e2,k⟩:=k2.cQ hm;rcases aav.mp (show a∈c::addrs vs ws from ha) with rfl|ha
   ·exact .inl ⟨i,u,aal,hu,hm,hv⟩
   ·rcases ih a ha with⟨j,w,z,z2⟩|z
    ·exact .inl ⟨j,w,aaj _ z,z2⟩
    ·exact .inr z
theorem dz (R:Rel K B S σ F H):∀{vs:List V}{us ws:List U},Paired (fun v u=>iY K B S σ H0 F H v u) vs us->cH S us=some ws->(slotsOf us).Nodup->cS us<=1->(addrs vs ws).Nodup
 |_,_,_,.nil,h,_,_=>by cases h;exact ad2
 |_,_,_,@Paired.cons _ _ _ v u vs us r rs,h,nd,fr=>by
  obtain⟨w,h1,h⟩:=ah h;obtain⟨ws,h2,h⟩:=aB h;subst h;cases u with
  |t d=>
   cases h1;rw[Rk];exact dz R rs h2 nd fr
  |s d=>
   cases h1;rw[skS];exact dz R rs h2 nd fr
  |f d=>
   cases h1;rw[skF];exact dz R rs h2 nd fr
  |x cx kx=>
   cases h1;rw[skX];exact dz R rs h2 nd fr
  |b o=>cases h1
  |m o=>
   cases h1;have fr0:cS us=0:=by have:cS us+1<=1:=fr;lia
   obtain⟨c,rfl,k0,f,k,n,hB⟩:=r;refine acQ.mpr ⟨fun hc=>?_,dz R rs h2 nd (by lia)⟩;rcases tH R rs h2 c hc with⟨j,w,_,z1,z2,z3⟩|⟨z,_⟩
   ·exact n ⟨j,w,z1,z2,z3⟩
   ·lia
  |v i=>
   obtain⟨u,o,hu,hm,hi,rfl⟩:=mX h1;obtain⟨hv,_⟩:=r;obtain⟨v',k1,k2⟩:=R.rep i u hu;rw[hv] at k1;cases k1;obtain⟨c,o2,rfl,f,e2,k⟩:=k2.cQ hm;obtain⟨nd1,Ui⟩:=acQ.mp (show(i::slotsOf us).Nodup from nd);refine acQ.mpr ⟨fun hc=>?_,dz R rs h2 Ui fr⟩;rcases tH R rs h2 c hc with⟨j,w,z0,z1,z2,z3⟩|⟨_,_,_,z⟩
   ·have:=R.Fl i j u w c hu hm z1 z2 hv z3;subst this;exact nd1 z0
   ·exact z ⟨i,u,hu,hm,hv⟩
theorem nW (R:Rel K B S σ F H) (P:Addr->MO->Prop):∀{vs:List V}{us ws:List U}{outs:List MO}{S1 S2:SS},Paired (fun v u=>iY K B S σ H0 F H v u) vs us->cH S us=some ws->wb us outs S1=some S2->(slotsOf us).Nodup->Paired P (addrs vs ws) outs->
  S2.length=S1.length/\(∀j,j∉slotsOf us->S2[j]? =S1[j]?)/\∀j∈slotsOf us,∃u u' o a,S1[j]? =some (some u)/\Ug u o=some u'/\S2[j]? =some (some u')/\σ[j]? =some (some (.ref a))/\P a o
 |_,_,_,_,_,_,.nil,h,hw,_,hp=>by
  cases h;cases hp;cases hw;exact⟨rfl,fun _ _=>rfl,fun j hj=>by cases hj⟩
 |_,_,_,outs,S1,S2,@Paired.cons _ _ _ v u vs us r rs,h,hw,nd,hp=>by
  obtain⟨w,h1,h⟩:=ah h;obtain⟨ws,h2,h⟩:=aB h;subst h;cases u with
  |t d=>
   cases h1;rw[Rk] at hp;have ih:=nW R P rs h2 (show wb us outs S1=some S2 by cases outs<;>exact hw) nd hp;exact ih
  |s d=>
   cases h1;rw[skS] at hp;have ih:=nW R P rs h2 (show wb us outs S1=some S2 by cases outs<;>exact hw) nd hp;exact ih
  |f d=>
   cases h1;rw[skF] at hp;have ih:=nW R P rs h2 (show wb us outs S1=some S2 by cases outs<;>exact hw) nd hp;exact ih
  |x cx kx=>
   cases h1;rw[skX] at hp;have ih:=nW R P rs h2 (show wb us outs S1=some S2 by cases outs<;>exact hw) nd hp;exact ih
  |b o=>cases h1
  |m o=>
   cases h1;obtain⟨c,rfl,k0,f,k,n,hB⟩:=r;cases hp with
   |cons p1 p2=>
    have ih:=nW R P rs h2 (show wb us _ S1=some S2 from hw) nd p2;exact ih
  |v i=>
   obtain⟨u0,o0,hu,hm,hi,rfl⟩:=mX h1;obtain⟨hv,_⟩:=r;obtain⟨v',k1,k2⟩:=R.rep i u0 hu;rw[hv] at k1;cases k1;obtain⟨c,o2,rfl,f,e2,k⟩:=k2.cQ hm;obtain⟨nd1,Ui⟩:=acQ.mp (show(i::slotsOf us).Nodup from nd);cases hp with
   |@cons _ o _ outs p1 p2=>
    have go:∀u u',S1[i]? =some (some u)->Ug u o=some u'->wb us outs (S1.set i (some u'))=some S2->S2.length=S1.length/\(∀j,j∉i::slotsOf us->S2[j]? =S1[j]?)/\∀j∈i::slotsOf us,∃u u' o a,S1[j]? =some (some u)/\Ug u o=some u'/\S2[j]? =some (some u')/\σ[j]? =some (some (.ref a))/\P a o:=fun u u' e1 e2 hw=>by
     obtain⟨l,out,Hv⟩:=nW R P rs h2 hw Ui p2;refine⟨by rw[l,ac6],fun j hj=>?_,fun j hj=>?_⟩
     ·rw[out j fun z=>hj (aaj _ z),abv fun z=>hj (by rw[z];exact aal)]
     ·by_cases e:i=j
      ·subst e;exact⟨u,u',o,c,e1,e2,by rw[out i nd1];exact ace (aaD.mp e1).1,hv,p1⟩
      ·rcases aav.mp hj with z|z
       ·exact absurd z.symm e
       ·obtain⟨w,w',o',a',q1,q2,q3,q4,q5⟩:=Hv j z;rw[abv e] at q1;exact⟨w,w',o',a',q1,q2,q3,q4,q5⟩
    unfold wb at hw;split at hw
    ·rename_i o' e;exact go _ _ e rfl hw
    ·rename_i o' e;exact go _ _ e rfl hw
    ·cases hw
end
def kR {S2:SS}{F:Hp}{outs:List MO}(R:Rel K B S σ F H) (st:Step S0 S σ F0 H0 F H) (rr:Paired (fun v u=>iY K B S σ H0 F H v u) vs us) (hr:cH S us=some ws) (hw:wb us outs S=some S2) (nd:(slotsOf us).Nodup) (p:Post F H F' H' (addrs vs ws) outs):
  Rel K B S2 σ F' H'/\Step S0 S2 σ F0 H0 F' H'/\∀a,cQ S2 σ a->cQ S σ a:=by
 obtain⟨hl,out,Hv⟩:=nW R (fun a o=>F' a=none/\At F' H' a o) rr hr hw nd p.out;have reM:∀{u:U}{o:MO}{u':U},Ug u o=some u'->fL u=true/\fL u'=true/\Pp u'=some o:=fun {u o u'} h=>by cases u<;>cases h<;>exact⟨rfl,rfl,rfl⟩
 have orig:∀{j w},S2[j]? =some (some w)->fL w=true->∃w0,S[j]? =some (some w0)/\fL w0=true:=fun {j w} z hm=>by
  by_cases hj:j∈slotsOf us
  ·obtain⟨u,u',o,a,q1,q2,q3,q4,q5⟩:=Hv j hj;exact⟨u,q1,(reM q2).1⟩
  ·rw[out j hj] at z;exact⟨w,z,hm⟩
 have mu:∀a,cQ S2 σ a->cQ S σ a:=fun a ⟨j,w,z,hm,hv⟩=>let⟨w0,q,n⟩:=orig z hm;⟨j,w0,q,n,hv⟩
 have DQ:=tH R rr hr;refine⟨⟨p.sub,by rw[hl];exact R.len,fun j w z=>?_,fun j k w1 w2 c z1 m1 z2 m2=>?_,fun j o a z hv=>?_,fun j o a z hv=>?_,fun j a z=>?_,?_⟩,⟨⟨?_,?_,?_,?_,fun b o u z=>p.ext.jK b o u (st.ext.jK b o u z)⟩,fun a m=>st.mu a (mu a m),fun j u z=>?_⟩,mu⟩
 ·by_cases hj:j∈slotsOf us
  ·obtain⟨u,u',o,a,q1,q2,q3,q4,q5,q6⟩:=Hv j hj;rw[q3] at z;cases z;refine⟨.ref a,q4,?_⟩;cases u<;>cases q2
   ·exact⟨a,rfl,q5,q6⟩
   ·exact⟨a,rfl,q5,q6⟩
  ·rw[out j hj] at z;obtain⟨v,h1,h2⟩:=R.rep j w z;refine⟨v,h1,h2.le p.ext.le p.ext.jK fun a hm ha=>?_⟩;have hna:a∉addrs vs ws:=fun hc=>by
    rcases DQ a hc with⟨i,u,q0,q1,q2,q3⟩|⟨_,_,_,q⟩
    ·have:=R.Fl i j u w a q1 q2 z hm q3 (by rw[h1,ha]);subst this;exact hj q0
    ·exact q ⟨j,w,z,hm,by rw[h1,ha]⟩
   obtain⟨c,o,e,f,_,k⟩:=h2.cQ hm;rw[ha] at e;cases e;obtain⟨ho,hh⟩:=k.has;exact⟨fun o q=>p.ext.keep a o q hna,p.ext.kN a ho hh hna f⟩
 ·obtain⟨VX,q1,n1⟩:=orig z1 m1;obtain⟨VY,q2,n2⟩:=orig z2 m2;exact R.Fl j k VX VY c q1 n1 q2 n2
 ·by_cases hj:j∈slotsOf us
  ·obtain⟨u,u',o',a',q1,q2,q3,q4,q5⟩:=Hv j hj;rw[q3] at z;cases z;cases u<;>cases q2
   exact R.own j _ a q1 hv
  ·rw[out j hj] at z;exact R.own j o a z hv
 ·by_cases hj:j∈slotsOf us
  ·obtain⟨u,u',o',a',q1,q2,q3,q4,q5⟩:=Hv j hj;rw[q3] at z;cases z;cases u<;>cases q2
   exact R.bor j _ a q1 hv
  ·rw[out j hj] at z;exact R.bor j o a z hv
 ·obtain⟨k1,o,k2⟩:=R.par j a z;refine⟨k1,?_⟩;by_cases hj:j∈slotsOf us
  ·obtain⟨u,u',o',a',q1,q2,q3,q4,q5⟩:=Hv j hj;rw[k2] at q1;cases q1;cases q2;exact⟨_,q3⟩
  ·exact⟨o,by rw[out j hj];exact k2⟩
 ·refine R.ext.trans p.ext fun b hb=>?_;rcases DQ b hb with⟨i,u,q0,q1,q2,q3⟩|⟨_,_,q,_⟩
  ·cases u with
   |t d=>cases q2
   |v d=>cases q2
   |s d=>cases q2
   |f d=>cases q2
   |x cx kx=>cases q2
   |m o=>exact .inr (R.own i o b q1 q3)
   |b o=>exact .inl (R.bor i o b q1 q3)
  ·exact .inr q
 ·exact fun b o h=>p.ext.le b o (st.ext.le b o h)
 ·intro b o h n;refine p.ext.keep b o (st.ext.keep b o h n) fun hb=>?_;rcases DQ b hb with⟨i,u,q0,q1,q2,q3⟩|⟨_,q,_⟩
  ·exact n (st.mu b ⟨i,u,q1,q2,q3⟩)
  ·rw[h] at q;cases q
 ·intro b o h n f;refine p.ext.kN b o (st.ext.keep b o h n) (fun hb=>?_) (st.ext.kN b o h n f);rcases DQ b hb with⟨i,u,q0,q1,q2,q3⟩|⟨_,q,_⟩
  ·exact n (st.mu b ⟨i,u,q1,q2,q3⟩)
  ·rw[h] at q;cases q
 ·intro b o h;obtain⟨o',h'⟩:=st.ext.there b o h;exact p.ext.there b o' h'
 ·obtain⟨u',h'⟩:=st.slots j u z;by_cases hj:j∈slotsOf us
  ·obtain⟨_,u2,_,_,_,_,q3,_⟩:=Hv j hj;exact⟨u2,q3⟩
  ·exact⟨u',by rw[out j hj];exact h'⟩
section
variable {X:Cx}{e:Expr}{es:BBC}{gu:GU}{x:Str}{p pos:Pos}{f:FM}{fa:Addr}{fd:FuncData}{ps:BBB}{k n:Nat}
def Nd (F:kP X.prog X.w X.K X.mg X.base zV k fa fd ps (spT X.K n f)) (hr:gD k X.A) (hg:Gl X x) (hm:X.mg x=some (.ref fa)) (hk:PySem.W.keepIn X.K (.ref fa)=true) (hb:Binds X.K fd ps []) (ha:JU X (e::es) gu) (hn:(e::es).length=n:=by rfl)
  (hdb:BBT x:=by decide) (he:starEach (e::es) X.env=(false,eval e X.env)::starEach es X.env:=by rfl) (hpl:(backTo pos (starEach es X.env)).any (·.1)=false:=by rfl):
  JE X (.Call (.Name x p) (e::es) [] pos) (bu f gu):=⟨fun B=>(E2 F hr hg hm hk hb .nil Fg (ha.h B) hdb he hpl).imp fun σ H Q hh=>by
 obtain⟨S,F0,u,S',R,hg,q⟩:=hh;obtain⟨⟨us,S1⟩,h1,hg⟩:=ah hg;dsimp only at hg;split at hg
 ·rename_i hc;obtain⟨ws,h2,hg⟩:=ah hg;obtain⟨⟨r,outs⟩,h3,hg⟩:=ah hg;obtain⟨S2,h4,hg⟩:=aB hg;cases hg;refine⟨S,F0,us,S1,R,h1,fun vs F1 H1 R1 st1 rr=>?_⟩;show spT X.K n f (vs++[]) H1 Q E0;rw[adB];have hlen:vs.length=n:=by rw[rr.length,ha.len _ _ _ h1];exact hn
  refine⟨hlen,F1,ws,r,outs,R1.sub,qK R1 rr h2,dz R1 rr h2 hc.1 hc.2,h3,fun v F2 H2 po rn=>?_⟩;obtain⟨R2,st2,mu⟩:=kR R1 st1 rr h2 h4 hc.1 po;refine q v F2 H2 R2 st2 ?_;cases r with
  |t d=>exact rn
  |b o=>cases rn
  |v i=>cases rn
  |s i=>cases rn
  |f i=>cases rn
  |x cx kx=>cases rn
  |m o=>
   obtain⟨a,e,h0,f,h⟩:=rn;refine⟨a,e,none_of st1.ext.there h0,f,h,fun m=>?_,none_of R1.ext.there h0⟩;obtain⟨o',ho⟩:=R1.has (mu a m);rw[h0] at ho;cases ho
 ·cases hg⟩
end
noncomputable def aT:List U->SS->Option (List MO)
 |[],_=>some []
 |.b _::us,some (.b o)::S=>(aT us S).map fun os=>o::os
 |.b _::_,_=>none
 |_::us,_::S=>aT us S
 |_::_,[]=>none
def bH (n:Nat) (g:GS):FM:=fun us=>(g (us.map some++List.replicate (n-us.length) none)).bind fun o=>match o with
 |.rt (.t d) S=>(aT us S).map fun os=>(.t d,os)
 |.rt (.m o) S=>(aT us S).map fun os=>(.m o,os)
 |.nx S=>(aT us S).map fun os=>(.t .cJ,os)
 |_=>none
noncomputable def lent:List V->List U->List (BBN)
 |.ref a::vs,.b _::us=>some a::lent vs us
 |_::vs,_::us=>none::lent vs us
 |_,_=>[]
theorem pM:∀(vs:List V) (us:List U) (a:Addr),some a∈lent vs us↔a∈addrs vs us
 |[],us,a=>by cases us<;>simp[lent,addrs]
 |v::vs,[],a=>by cases v<;>simp[lent,addrs]
 |v::vs,u::us,a=>by
  have ih:=pM vs us a;cases v<;>cases u<;>simp[lent,addrs,ih]
theorem CH:∀{vs:List V}{us:List U}{i:Nat}{a:Addr},(lent vs us)[i]? =some (some a)->vs[i]? =some (.ref a)/\∃o,us[i]? =some (.b o)
 |[],us,i,a,h=>by cases us<;>simp[lent] at h
 |v::vs,[],i,a,h=>by cases v<;>simp[lent] at h
 |v::vs,u::us,0,a,h=>by
  cases v<;>cases u<;>simp[lent] at h
  subst h;exact⟨rfl,_,rfl⟩
 |v::vs,u::us,i+1,a,h=>by
  have h':(lent vs us)[i]? =some (some a):=by cases v<;>cases u<;>simpa[lent] using h
  simpa using CH h'
theorem A9 {K:AAD}:∀{F H:Hp}{vs:List V}{us:List U}{i:Nat}{o:MO},Paired (Hx K F H) vs us->us[i]? =some (.b o)->∃a,vs[i]? =some (.ref a)/\(lent vs us)[i]? =some (some a)/\F a=none/\At F H a o
 |_,_,_,_,_,_,.nil,h=>by simp at h
 |_,_,_,_,0,o,@Paired.cons _ _ _ v u vs us r rs,h=>by
  simp at h;subst h;obtain⟨a,rfl,f,k⟩:=r;exact⟨a,rfl,rfl,f,k⟩
 |_,_,_,_,i+1,o,@Paired.cons _ _ _ v u vs us r rs,h=>by
  obtain⟨a,h1,h2,h3⟩:=A9 (i:=i) rs (by simpa using h);refine⟨a,by simpa using h1,?_,h3⟩;cases v<;>cases u<;>simpa[lent] using h2
theorem z5:∀{vs:List V}{us:List U}{i j:Nat}{a:Addr},(addrs vs us).Nodup->(lent vs us)[i]? =some (some a)->(lent vs us)[j]? =some (some a)->i=j
 |[],us,i,j,a,_,h,_=>by cases us<;>simp[lent] at h
 |v::vs,[],i,j,a,_,h,_=>by cases v<;>simp[lent] at h
 |v::vs,u::us,i,j,a,nd,h1,h2=>by
  have ih:∀{i j},(addrs vs us).Nodup->(lent vs us)[i]? =some (some a)->(lent vs us)[j]? =some (some a)->i=j:=fun {i j}=>z5 (i:=i) (j:=j);by_cases hvu:∃c o,v= .ref c/\u= .b o
  ·obtain⟨c,o,rfl,rfl⟩:=hvu;obtain⟨n1,n2⟩:=acQ.mp (show(c::addrs vs us).Nodup from nd);cases i with
   |zero=>
    cases j with
    |zero=>rfl
    |succ j=>
     have e1:c=a:=by simpa[lent] using h1
     have e2:(lent vs us)[j]? =some (some a):=by simpa[lent] using h2
     subst e1;exact absurd ((pM vs us c).mp (abK e2)) n1
   |succ i=>
    have e1:(lent vs us)[i]? =some (some a):=by simpa[lent] using h1
    cases j with
    |zero=>
     have e2:c=a:=by simpa[lent] using h2
     subst e2;exact absurd ((pM vs us c).mp (abK e1)) n1
    |succ j=>exact congrArg Nat.succ (ih n2 e1 (by simpa[lent] using h2))
  ·have e1:lent (v::vs) (u::us)=none::lent vs us:=by cases v<;>cases u<;>first|rfl|exact absurd ⟨_,_,rfl,rfl⟩ hvu
   have e2:addrs (v::vs) (u::us)=addrs vs us:=by cases v<;>cases u<;>first|rfl|exact absurd ⟨_,_,rfl,rfl⟩ hvu
   rw[e1] at h1 h2;rw[e2] at nd;cases i with
   |zero=>simp at h1
   |succ i=>
    cases j with
    |zero=>simp at h2
    |succ j=>exact congrArg Nat.succ (ih nd (by simpa using h1) (by simpa using h2))
theorem kT {α β:Type}{P:α->β->Prop}:∀{l:List α}{r:List β}{i:Nat}{y:β},Paired P l r->r[i]? =some y->∃x,l[i]? =some x/\P x y
 |_,_,_,_,.nil,h=>by simp at h
 |_,_,0,_,.cons p _,h=>by simp at h;subst h;exact⟨_,rfl,p⟩
 |_,_,i+1,_,.cons _ ps,h=>by
  obtain⟨x,h1,h2⟩:=kT (i:=i) ps (by simpa using h);exact⟨x,by simpa using h1,h2⟩
def mY {F:Hp}(sb:Sub F H) (ar:Paired (Hx K F H) vs us) (nd:(addrs vs us).Nodup) (N:BBB) (hN:N.length=n):
  Rel K ⟨lent vs us,F,H⟩ (us.map some++List.replicate (n-us.length) none) (start N vs) F H:=by
 have hl:vs.length=us.length:=ar.length;have gS:∀{i:Nat}{u:U},(us.map some++List.replicate (n-us.length) none)[i]? =some (some u)->us[i]? =some u:=fun {i u} h=>by
  rw[List.getElem?_append] at h;split at h
  ·rw[abx] at h;obtain⟨w,h1,h2⟩:=aB h;cases h2;exact h1
  ·rw[ady] at h;split at h<;>cases h
 have gσ:∀{i:Nat}{v:V},vs[i]? =some v->(start N vs)[i]? =some (some v):=fun {i v} h=>by
  unfold start;have hi:=(aaD.mp h).1;rw[ab1 (by simpa using hi),abx,h];rfl
 have vb:∀{i:Nat}{v w:V},vs[i]? =some v->(start N vs)[i]? =some (some w)->v=w:=fun {i v w} h k=>by
  rw[gσ h] at k;cases k;rfl
 have Nf:∀{i:Nat}{u:U},us[i]? =some u->fL u=true->∃o a,u= .b o/\vs[i]? =some (.ref a)/\(lent vs us)[i]? =some (some a)/\F a=none/\At F H a o:=fun {i u} h hm=>by
  obtain⟨v,h1,h2⟩:=kT ar h;cases u with
  |t d=>cases hm
  |v d=>cases hm
  |s d=>cases hm
  |f d=>cases hm
  |x cx kx=>cases hm
  |m o=>cases h2
  |b o=>obtain⟨a,k1,k2,k3,k4⟩:=A9 ar h;exact⟨o,a,rfl,k1,k2,k3,k4⟩
 refine⟨sb,?_,fun i u h=>?_,fun i j u w a h1 m1 h2 m2 v1 v2=>?_,fun i o a h hv=>?_,fun i o a h hv=>?_,fun i a h=>?_,Ext.refl ..⟩
 ·unfold start;simp[hl,hN]
 ·obtain⟨v,h1,h2⟩:=kT ar (gS h);refine⟨v,gσ h1,?_⟩;cases u with
  |t d=>exact h2
  |s d=>exact h2
  |f d=>exact h2
  |x cx kx=>exact h2
  |v d=>cases h2
  |m o=>cases h2
  |b o=>exact h2
 ·obtain⟨_,a1,_,k1,k2,_⟩:=Nf (gS h1) m1;obtain⟨_,a2,_,l1,l2,_⟩:=Nf (gS h2) m2;have e1:=vb k1 v1;have e2:=vb l1 v2;cases e1;cases e2;exact z5 nd k2 l2
 ·obtain⟨_,_,e,_⟩:=Nf (gS h) rfl;cases e
 ·obtain⟨_,a1,_,k1,k2,_⟩:=Nf (gS h) rfl;have e1:=vb k1 hv;cases e1;exact abK k2
 ·obtain⟨k1,o,k2⟩:=CH h;refine⟨gσ k1,o,?_⟩;have hi:=(aaD.mp k2).1;rw[ab1 (by simpa using hi),abx,k2];rfl
def V0 {v:V}(hu:¬∃o,u= .b o):addrs (v::vs) (u::us)=addrs vs us/\lent (v::vs) (u::us)=none::lent vs us/\(∀s S os,aT (u::us) (s::S)=some os->aT us S=some os)/\∀os,¬aT (u::us) []=some os:=by
 cases v<;>cases u<;>first|exact⟨rfl,rfl,fun _ _ _ h=>h,fun _ h=>by cases h⟩|exact absurd ⟨_,rfl⟩ hu
theorem Ba {F' H':Hp}:∀{vs:List V}{us:List U}{S:SS}{os:List MO},aT us S=some os->vs.length=us.length->(∀(i:Nat) (o:MO) (a:Addr),(lent vs us)[i]? =some (some a)->S[i]? =some (some (.b o))->F' a=none/\At F' H' a o)->(∀(i:Nat) (o:MO),us[i]? =some (.b o)->∃a,vs[i]? =some (.ref a))->
  Paired (fun a o=>F' a=none/\At F' H' a o) (addrs vs us) os
 |[],[],S,os,h,_,_,_=>by cases S<;>(simp[aT] at h;subst h;exact .nil)
 |[],_::_,_,_,_,l,_,_=>by cases l
 |_::_,[],_,_,_,l,_,_=>by cases l
 |v::vs,u::us,S,os,h,l,k,kb=>by
  have l':vs.length=us.length:=by simpa using l
  have kb':∀(i:Nat) (o:MO),us[i]? =some (.b o)->∃a,vs[i]? =some (.ref a):=fun i o z=>kb (i+1) o z;by_cases hu:∃o,u= .b o
  ·obtain⟨o,rfl⟩:=hu;obtain⟨a,ha⟩:=kb 0 o rfl;have ha:v= .ref a:=by simpa using ha
   subst ha;cases S with
   |nil=>cases h
   |cons s S=>
    cases s with
    |none=>cases h
    |some s=>
     cases s with
     |b o'=>
      obtain⟨os',h1,h2⟩:=aB (show(aT us S).map (fun os=>o'::os)=some os from h);subst h2;exact .cons (k 0 o' a rfl rfl) (Ba h1 l' (fun i o a z1 z2=>k (i+1) o a z1 z2) kb')
     |t d=>cases h
     |m d=>cases h
     |v d=>cases h
     |s d=>cases h
     |f d=>cases h
     |x cx kx=>cases h
  ·obtain⟨e2,e1,e3⟩:=V0 (v:=v) (vs:=vs) (us:=us) hu;rw[e2];cases S with
   |nil=>exact absurd h (e3.2 os)
   |cons s S=>exact Ba (e3.1 s S os h) l' (fun i o a z1 z2=>k (i+1) o a (by rw[e1];exact z1) z2) kb'
def post_of (ar:Paired (Hx K F0 H) vs us) (S':SS) (σ':St) (F' H':Hp) (os:List MO) (R':Rel K ⟨lent vs us,F0,H⟩ S' σ' F' H') (ho':aT us S'=some os):Post F0 H F' H' (addrs vs us) os:=by
 refine⟨R'.sub,⟨R'.ext.le,fun b o z n=>R'.ext.keep b o z fun m=>n ((pM vs us b).mp m),fun b o z n=>R'.ext.kN b o z fun m=>n ((pM vs us b).mp m),R'.ext.there,R'.ext.jK⟩,Ba ho' ar.length (fun i o a z1 z2=>?_) fun i o z=>?_⟩
 ·obtain⟨k1,o2,k2⟩:=R'.par i a z1;obtain⟨v,j1,j2⟩:=R'.rep i _ z2;rw[k1] at j1;cases j1;obtain⟨c,e,f,k⟩:=j2;cases e;exact⟨f,k⟩
 ·obtain⟨a,h1,_⟩:=A9 ar z;exact⟨a,h1⟩
section
variable {P:Program}{w:World}{K:AAD}{mg:AAF}{base:Heap}
def okT {qual:Str}{st:Stmt}{f:Addr}{fd:FuncData}{N ps:BBB}{k:Nat}{fm:FM}{g:GS}(F:Mm K x qual st f fd) (Sc:bR N ps (aV st))
  (hb:∀(cdv:Value) (A:Around) (outer:BBF) (s:Shared) (H:Hp) (E:XK),gD k (A.deeper (envOfC qual (aV st) s.heap.objs.size f cdv))->JB (wW zV P w K mg base N qual (aV st) f cdv A outer s H E).ME (fV st) g)
  (hf:∀us r,fm us=some r->bH N.length g us=some r):kP P w K mg base zV (k+1) f fd ps (spT K ps.length fm):=by
 refine F.ok Sc (fun vs H Q E h=>h.1) fun cdv A outer s H vs Q E hr h=>?_;obtain⟨hlen,F0,us,r,outs,sb,ar,nd,hfm,q⟩:=h;have hrun:=hf us (r,outs) hfm;have J:=hb cdv A outer s H E hr;refine⟨_,J.h ⟨lent vs us,F0,H⟩,?_⟩;have R0:=mY sb ar nd N rfl;obtain⟨o,ho,hrun⟩:=ah hrun;refine⟨_,F0,o,R0,ho,?_⟩;have post:=post_of ar;cases o with
 |bk S'=>cases hrun
 |ct S'=>cases hrun
 |nx S'=>
  obtain⟨os,h1,h2⟩:=aB (show(aT us S').map _=some (r,outs) from hrun);cases h2;exact fun σ' F' H' R' le=>q .cJ F' H' (post S' σ' F' H' outs R' h1) .cJ
 |rt u S'=>
  cases u with
  |b o=>cases hrun
  |v i=>cases hrun
  |s i=>cases hrun
  |f i=>cases hrun
  |x cx kx=>cases hrun
  |t d=>
   obtain⟨os,h1,h2⟩:=aB (show(aT us S').map _=some (r,outs) from hrun);cases h2;exact fun v σ' F' H' R' le rr=>q v F' H' (post S' σ' F' H' outs R' h1) rr
  |m o=>
   obtain⟨os,h1,h2⟩:=aB (show(aT us S').map _=some (r,outs) from hrun);cases h2;exact fun v σ' F' H' R' le rr=>q v F' H' (post S' σ' F' H' outs R' h1) (by obtain⟨a,e,h0,f,h,n,hB⟩:=rr;exact⟨a,e,hB,f,h⟩)
end
noncomputable def l9 (S:SS) (i:Nat):Option U:=match S[i]? with
 |some (some (.t d))=>some (.t d)
 |some (some (.s d))=>some (.s d)
 |some (some (.f d))=>some (.f d)
 |some (some (.m _))=>some (.v i)
 |some (some (.b _))=>some (.v i)
 |_=>none
def dH (S:SS):BBJ->Option (List U)
 |[]=>some []
 |i::cap=>(l9 S i).bind fun u=>(dH S cap).map fun us=>u::us
noncomputable def bQ:GT:=fun S=>some (true,S)
def cg (cap:BBJ) (q:GT) (g:GD):List D->SS->List D->Option (List D×SS)
 |[],S,acc=>some (acc,S)
 |d::ds,S,acc=>(dH S cap).bind fun us=>
  if(slotsOf us).Nodup/\cS us<=1 then(cH S us).bind fun ws=>(q (AAA d::ws.map some)).bind fun p=>
   if p.1 then(g p.2).bind fun r=>(aT (.t d::ws) r.2).bind fun outs=>(wb us outs S).bind fun S'=>cg cap q g ds S' (acc++[r.1])
   else(aT (.t d::ws) p.2).bind fun outs=>(wb us outs S).bind fun S'=>cg cap q g ds S' acc
  else none
def cT (cap:BBJ) (gi:GI) (q:GT) (g:GD):GE:=fun S=>(gi S).bind fun p=>if p.1.length<=100000 then(cg cap q g p.1 p.2 []).map fun r=>(.m (.lst r.1),r.2) else none
structure Ng (X:Cx) (es:BBC) (q:GT):Prop where
 h:∀B,J0 X es (tQ X.K B q)
def fq :Ng X [] bQ:=⟨fun B pins s σ H Q I ⟨S,F,b,S',R,hg,q⟩=>by cases hg;exact Fi pins s σ H Q I (q F H R (Step.refl ..))⟩
def qL {c:Expr}(h:JT X c q):Ng X [c] q:=⟨fun B=>M0 (h.h B)⟩
theorem Bb {K:AAD}{B:Base}{S:SS}{σ:St}{F H:Hp}(R:Rel K B S σ F H):∀{cap:BBJ}{us:List U},dH S cap=some us->∃vs:List V,dj cap σ=vs.map some/\Paired (fun v u=>iY K B S σ H F H v u) vs us
 |[],us,h=>by cases h;exact⟨[],rfl,.nil⟩
 |i::cap,us,h=>by
  obtain⟨u,h1,h⟩:=ah h;obtain⟨us',h2,h⟩:=aB h;subst h;obtain⟨vs,k1,k2⟩:=Bb R h2;have one:∀w,S[i]? =some (some w)->∃v,σ[i]? =some (some v)/\zq K F H v w:=R.rep i;unfold l9 at h1;have fin:∀v,σ[i]? =some (some v)->iY K B S σ H F H v u->∃vs:List V,dj (i::cap) σ=vs.map some/\Paired (fun v u=>iY K B S σ H F H v u) vs (u::us'):=fun v e r=>
   ⟨v::vs,by show(σ[i]?).join::dj cap σ=_;rw[e,k1];rfl,.cons r k2⟩
  split at h1
  ·rename_i d e;cases h1;obtain⟨v,e1,r⟩:=one _ e;exact fin v e1 r
  ·rename_i d e;cases h1;obtain⟨v,e1,r⟩:=one _ e;exact fin v e1 r
  ·rename_i d e;cases h1;obtain⟨v,e1,r⟩:=one _ e;exact fin v e1 r
  ·rename_i o e;cases h1;obtain⟨v,e1,r⟩:=one _ e;exact fin v e1 ⟨e1,_,e⟩
  ·rename_i o e;cases h1;obtain⟨v,e1,r⟩:=one _ e;exact fin v e1 ⟨e1,_,e⟩
  ·cases h1
def tK {F:Hp}(R:Rel K B S σ F H) (d:D)(h:cH S us=some ws):cH S (.t d::us)=some (.t d::ws):=by
 show(some (U.t d)).bind _=_;show(cH S us).map _=_;rw[h];rfl
inductive Pq (K:AAD) (B:Base) (S:SS) (σ:St) (F H F1:Hp) (lp:List D->SS->List D->Option (List D×SS)) (ds:List D) (r:List D×SS) (i m:Nat) (ys:List V) (H':Hp):Prop
 |mk (S2:SS) (F2:Hp) (acc:List D) (R:Rel K B S2 σ F2 H') (st:Step S S2 σ F H F2 H') (le:∀b o,F1 b=some o->F2 b=some o) (ry:bM F2 ys acc) (ha:acc.length<=i) (hl:i<=ds.length) (hm:m=ds.length-i) (e:lp (ds.drop i) S2 acc=some r)
def xu {Q:VK}(h:tE K B (cT cap gi q g) σ H Q):Ud (tIt K B gi) cap (fun σ H Q=>∃B,tQ K B q σ H Q) (fun σ H Q=>∃B,tD K B g σ H Q) σ H Q:=by
 obtain⟨x,_⟩:∃x:Str,True:=⟨"",trivial⟩
 obtain⟨S,F,u,S',R,hg,k⟩:=h;obtain⟨⟨ds,S1⟩,h1,hg⟩:=ah hg;dsimp only at hg;split at hg
 ·rename_i hlen;obtain⟨⟨res,Sf⟩,h2,hg⟩:=aB hg;cases hg;refine⟨S,F,ds,S1,R,h1,fun J F1 H1 R1 st1 w=>?_⟩;refine⟨Pq K B S σ F H F1 (cg cap q g) ds (res,Sf),
   ⟨_,S1,F1,[],R1,st1,fun _ _ z=>z,.nil,aam _,abH _,rfl,h2⟩,?_⟩
  rintro i m ys H' ⟨S2,F2,acc,R2,st2,le,ry,ha,hl,rfl,fj⟩;refine⟨by rw[ry.length];exact adi (abl ha (abl hl hlen)) (by decide),?_⟩;have w':=w F2 H' le R2.sub i;by_cases hlt:i<ds.length
  ·have hd:ds[i]? =some ds[i]:=aaz hlt;obtain⟨go,yl⟩:=w'.1 _ hd;rw[acM hlt] at fj;refine .inr ⟨go,fun xv H3 y=>?_⟩;obtain⟨rfl,rx⟩:=yl xv H3 y;obtain⟨us,e1,fj⟩:=ah fj
   skip
   split at fj
   ·rename_i hnd;obtain⟨ws,e2,fj⟩:=ah fj;obtain⟨⟨bk,T1⟩,e3,fj⟩:=ah fj;obtain⟨vs,k1,k2⟩:=Bb R2 e1;have rr:Paired (fun v u=>iY K B S2 σ H3 F2 H3 v u) (xv::vs) (.t ds[i]::us):=.cons rx k2;have er:=tK R2 ds[i] e2;have ar:=qK R2 rr er;have nd:=dz R2 rr er hnd.1 hnd.2;have R3:=mY (n:=ws.length+1) R2.sub ar nd (List.replicate (ws.length+1) x) (by simp);have hvl:vs.length=ws.length:=by have:=ar.length;simpa using this
    have es:start (List.replicate (ws.length+1) x) (xv::vs)=some xv::dj cap σ:=by
     unfold start;rw[k1];simp[hvl]
    have eS:(U.t ds[i]::ws).map some++List.replicate (ws.length+1-(U.t ds[i]::ws).length) none=some (U.t ds[i])::ws.map some:=by simp
    rw[es,eS] at R3;have back:∀(T2:SS) (F3 H4:Hp) (outs:List MO) (S3:SS),Rel K ⟨lent (xv::vs) (U.t ds[i]::ws),F2,H3⟩ T2 (some xv::dj cap σ) F3 H4->aT (U.t ds[i]::ws) T2=some outs->wb us outs S2=some S3->Rel K B S3 σ F3 H4/\Step S S3 σ F H F3 H4/\(∀b o,F2 b=some o->F3 b=some o):=fun T2 F3 H4 outs S3 RT ho hw=>by
     have po:=post_of ar T2 _ F3 H4 outs RT ho;obtain⟨Ra,zy,_⟩:=kR (S0:=S2) (F0:=F2) (H0:=H3) R2 (Step.refl ..) rr er (show wb (U.t ds[i]::us) outs S2=some S3 by cases outs<;>exact hw) hnd.1 po;exact⟨Ra,st2.trans zy,zy.ext.le⟩
    refine⟨_,_,F2,bk,T1,R3,e3,fun F3 H4 Pr V1=>?_⟩;cases bk with
    |true=>
     obtain⟨⟨yd,T2⟩,e4,fj⟩:=ah (show(g T1).bind _=_ from fj);obtain⟨outs,e5,fj⟩:=ah fj;obtain⟨S3,e6,fj⟩:=ah fj;refine Cy ⟨_,T1,F3,yd,T2,Pr,e4,fun yv F4 H5 V2 V3 V4=>?_⟩;obtain⟨Ra,zy,Eo⟩:=back T2 F4 H5 outs S3 V2 e5 e6;refine⟨ds.length-(i+1),by lia,S3,F4,acc++[yd],Ra,zy,fun b o z=>Eo b o (le b o z),(ry.le Eo).append (.cons V4 .nil),by simp;lia,hlt,rfl,fj⟩
    |false=>
     obtain⟨outs,e5,fj⟩:=ah (show(aT (U.t ds[i]::ws) T1).bind _=_ from fj);obtain⟨S3,e6,fj⟩:=ah fj;obtain⟨Ra,zy,Eo⟩:=back T1 F3 H4 outs S3 Pr e5 e6;exact Cw ⟨ds.length-(i+1),by lia,S3,F3,acc,Ra,zy,fun b o z=>Eo b o (le b o z),ry.le Eo,by lia,hlt,rfl,fj⟩
   ·cases fj
  ·have e:i=ds.length:=by lia
   subst e;rw[aek] at fj;cases fj;refine .inl ⟨w'.2 (aam _),fun p hp=>?_⟩;have n:=gg.obj (F:=F2) hp (.lst ys);refine k (.ref p) F2 _ (R2.new n (R2.sub.same n.same)) (st2.trans n.step) ⟨p,rfl,none_of st2.ext.there hp,R2.sub.fresh hp,⟨ys,aU,ry⟩,fun m=>?_,none_of R2.ext.there hp⟩;obtain⟨o,ho⟩:=R2.has m;rw[hp] at ho;cases ho
 ·cases hg
def ig {px pos:Pos}(T:eO X x bL cap scope cl) (hc:X.calm=true) (hi:JI X (.Name x px) iter gi)
  (ht:∀C s H fp,Ng (cj X (x::bL) scope cl C s H fp) ifs q) (he:∀C s H fp,JD (cj X (x::bL) scope cl C s H fp) elt g)
  (hs:∀x,foldedSetIterable iter X.env x=pure x:=by intro _;rfl):JE X (.ListComp elt [⟨.Name x px,iter,ifs,0⟩] scope pos) (cT cap gi q g):=⟨fun B=>by
 exact(xg (tc:=fun σ H Q=>∃B,tQ X.K B q σ H Q) (te:=fun σ H Q=>∃B,tD X.K B g σ H Q) T hc (hi.h B) (fun C s H fp pins s' σ H' Q I ⟨B',z⟩=>(ht C s H fp).h B' pins s' σ H' Q I z) (fun C s H fp pins s' σ H' Q I ⟨B',z⟩=>(he C s H fp).h B' pins s' σ H' Q I z) hs).imp fun σ H Q h=>xu h⟩
def Kq {y:Str}{px pos py spos:Pos}(hN:X.N.Nodup) (hy:X.N[i]? =some y) (hx:Loc X.env.scope y) (T:eO X x bL cap scope cl) (hc:X.calm=true) (hi:JI X (.Name x px) iter gi)
  (ht:∀C s H fp,Ng (cj X (x::bL) scope cl C s H fp) ifs q) (he:∀C s H fp,JD (cj X (x::bL) scope cl C s H fp) elt g)
  (hsw:swapsWith (.ListComp elt [⟨.Name x px,iter,ifs,0⟩] scope pos) (some (.Name y py)) spos.line X.env=pure true:=by rfl) (hf:X.fn y=true\/X.env.scope.names.lookup y=some .local:=by first|exact .inl rfl|exact .inr rfl|assumption)
  (hs:∀x,foldedSetIterable iter X.env x=pure x:=by intro _;rfl):JS X (.Assign [.Name y py] (.ListComp elt [⟨.Name x px,iter,ifs,0⟩] scope pos) spos) (cu i (cT cap gi q g)):=⟨fun B=>
 (J4 (tc:=fun σ H Q=>∃B,tQ X.K B q σ H Q) (te:=fun σ H Q=>∃B,tD X.K B g σ H Q) T hc (hi.h B) (fun C s H fp pins s' σ H' Q I ⟨B',z⟩=>(ht C s H fp).h B' pins s' σ H' Q I z) (fun C s H fp pins s' σ H' Q I ⟨B',z⟩=>(he C s H fp).h B' pins s' σ H' Q I z) hs hN hy hx hsw hf).imp fun D σ H h=>xu (A7 h)⟩
mutual
noncomputable def iS:D->D->Bool
 |.cJ,.cJ=>true
 |.bl a,.bl b=>a == b
 |.int a,.int b=>a == b
 |.bl a,.int b=>(if a then 1 else 0) == b
 |.int a,.bl b=>a == (if b then 1 else 0)
 |.str a,.str b=>a == b
 |.tup a,.tup b=>pN a b
 |.lst a,.lst b=>pN a b
 |_,_=>false
noncomputable def pN:List D->List D->Bool
 |[],[]=>true
 |a::as,b::bs=>iS a b && pN as bs
 |_,_=>false
end
mutual
noncomputable def bV:D->Nat
 |.tup ds=>bF ds+1
 |.lst ds=>bF ds+1
 |_=>0
noncomputable def bF:List D->Nat
 |[]=>0
 |d::ds=>max (bV d) (bF ds)
end
mutual
theorem mZ:∀d:D,iS d d=true
 |.cJ=>rfl
 |.bl a=>by simp[iS]
 |.int a=>by simp[iS]
 |.str a=>by simp[iS]
 |.tup a=>by unfold iS;exact m5 a
 |.lst a=>by unfold iS;exact m5 a
theorem m5:∀ds:List D,pN ds ds=true
 |[]=>rfl
 |d::ds=>by unfold pN;rw[mZ d,m5 ds];rfl
end
def q8 (as bs:List D) (j:Nat):Bool:=match as[j]?,bs[j]? with
 |some a,some b=>iS a b
 |_,_=>true
def xw (n:Nat) (e:Nat->Bool):(List.range (n+1)).all e=(e 0 && (List.range n).all fun j=>e (j+1)):=by
 rw[List.range_succ_eq_map,acW,aev];rfl
theorem pO:∀{as bs:List D},as.length≠bs.length->pN as bs=false
 |[],[],h=>absurd rfl h
 |[],_::_,_=>rfl
 |_::_,[],_=>rfl
 |a::as,b::bs,h=>by
  unfold pN;rw[pO (as:=as) (bs:=bs) (fun z=>h (by simp[z])),aeQ]
theorem kU:∀{as bs:List D},as.length=bs.length->(List.range as.length).all (q8 as bs)=pN as bs
 |[],[],_=>rfl
 |[],_::_,h=>by cases h
 |_::_,[],h=>by cases h
 |a::as,b::bs,h=>by
  have h':as.length=bs.length:=by simpa using h
  show(List.range (as.length+1)).all _=_;rw[xw];unfold pN;have ih:=kU h';have e:(fun j=>q8 (a::as) (b::bs) (j+1))=q8 as bs:=by funext j;kernel_rfl
  rw[e,ih];rfl
def Nh {F:Hp}{ws:List V}(h:Rd F a (.lst vs)) (h':Rd F a (.lst ws)):vs=ws:=by
 rcases h with e1|⟨o,e1⟩<;>rcases h' with e2|⟨o',e2⟩<;>(rw[e1] at e2;cases e2)<;>rfl
mutual
theorem Rep.uniq {F:Hp}:∀{v:V}{d e:D},Rep F v d->Rep F v e->d=e
 |_,_,_,.cJ,r=>by cases r;rfl
 |_,_,_,.bl b,r=>by cases r;rfl
 |_,_,_,.int b,r=>by cases r;rfl
 |_,_,_,.str b,r=>by cases r;rfl
 |_,_,_,.tup e1 r1,r=>by
  cases r with
  |tup e2 r2=>rw[e1] at e2;cases e2;rw[bM.uniq r1 r2]
  |lst e2 r2=>rcases e2 with e2|⟨o,e2⟩<;>(rw[e1] at e2;cases e2)
 |_,_,_,.lst e1 r1,r=>by
  cases r with
  |tup e2 r2=>rcases e1 with e1|⟨o,e1⟩<;>(rw[e1] at e2;cases e2)
  |lst e2 r2=>rcases e1 with e1|⟨o,e1⟩<;>rcases e2 with e2|⟨o',e2⟩<;>(rw[e1] at e2;cases e2)<;>rw[bM.uniq r1 r2]
theorem bM.uniq {F:Hp}:∀{vs:List V}{ds es:List D},bM F vs ds->bM F vs es->ds=es
 |_,_,_,.nil,r=>by cases r;rfl
 |_,_,_,.cons r1 s1,r=>by
  cases r with
  |cons r2 s2=>rw[Rep.uniq r1 r2,bM.uniq s1 s2]
end
section
variable {X:Cx}{pins:AAG}{σ:St}{F H:Hp}{s:Shared}
def Sub.isTup (I:Inv X pins σ H s) (sb:Sub F H)(h:F a=some (.tup vs)):∃its:BBG,Vals vs its/\s.heap.IsTuple a its.toArray:=by
 obtain⟨its,rv,p,_⟩:=I.tuple (.inl (Rd.of (sb a _ h)));exact⟨its,rv,p⟩
def Sub.eU (I:Inv X pins σ H s) (sb:Sub F H)(h:Rd F a (.lst vs)):∃its:BBG,Vals vs its/\s.heap.IsList a its.toArray:=by
 obtain⟨its,rv,p,_⟩:=I.list (.inl (h.imp (sb a _) fun⟨o,z⟩=>⟨o,sb a _ z⟩));exact⟨its,rv,p.isList⟩
def jG (A:Around) (s:Shared) (its cE:AAL) (ds es:List D):Prop:=∀j (h1:j<its.toArray.size) (h2:j<cE.toArray.size),SeqAt.EqAt A.in1 s its.toArray[j] cE.toArray[j] (q8 ds es j)
def Fq {m:Nat}(h:n=m) (e:Nat->Bool):((List.range (min n m)).all e && n == m)=(List.range n).all e:=by
 subst h;simp
def tL (hu:A.units<cLine) (pa:s.heap.IsTuple ca fS.toArray) (pb:s.heap.IsTuple cb cE.toArray) (la:fS.length=ds.length) (lb:cE.length=es.length) (h:jG A s fS cE ds es):
  SeqAt.RcAt A s (.ref ca) (.ref cb) (pN ds es):=by
 have q:=SeqAt.RcAt.tuples (e:=q8 ds es) pa pb hu h;rw[aak,aak,la,lb] at q;by_cases hl:ds.length=es.length
 ·rw[Fq hl,kU hl] at q;exact q
 ·rw[pO hl];have:(ds.length == es.length)=false:=by simpa using hl
  rw[this,aeQ] at q;exact q
def xx (hu:A.units<cLine) (pa:s.heap.IsTuple ca fS.toArray) (pb:s.heap.IsTuple cb cE.toArray) (la:fS.length=ds.length) (lb:cE.length=es.length) (h:jG A s fS cE ds es):
  SeqAt.RcNeAt A s (.ref ca) (.ref cb) (!pN ds es):=by
 have q:=SeqAt.RcNeAt.tuples (e:=q8 ds es) pa pb hu h;rw[aak,aak,la,lb] at q;by_cases hl:ds.length=es.length
 ·rw[Fq hl,kU hl] at q;exact q
 ·rw[pO hl];have:(ds.length == es.length)=false:=by simpa using hl
  rw[this,aeQ] at q;exact q
def vO (hu:A.units<cLine) (pa:s.heap.IsList ca fS.toArray) (pb:s.heap.IsList cb cE.toArray) (la:fS.length=ds.length) (lb:cE.length=es.length) (h:jG A s fS cE ds es):
  SeqAt.RcAt A s (.ref ca) (.ref cb) (pN ds es):=by
 by_cases hl:ds.length=es.length
 ·have q:=SeqAt.RcAt.lists (e:=q8 ds es) pa pb (by rw[aak,aak,la,lb];exact hl) hu h;rw[aak,la,kU hl] at q;exact q
 ·rw[pO hl];exact SeqAt.RcAt.lists_lengths pa pb (by rw[aak,aak,la,lb];simpa using hl) hu
def zz (hu:A.units<cLine) (pa:s.heap.IsList ca fS.toArray) (pb:s.heap.IsList cb cE.toArray) (la:fS.length=ds.length) (lb:cE.length=es.length) (h:jG A s fS cE ds es):
  SeqAt.RcNeAt A s (.ref ca) (.ref cb) (!pN ds es):=by
 by_cases hl:ds.length=es.length
 ·have q:=SeqAt.RcNeAt.lists (e:=q8 ds es) pa pb (by rw[aak,aak,la,lb];exact hl) hu h;rw[aak,la,kU hl] at q;exact q
 ·rw[pO hl];exact SeqAt.RcNeAt.lists_lengths pa pb (by rw[aak,aak,la,lb];simpa using hl) hu
def eG (l:List α) (j:Nat) (h:j<l.toArray.size):l[j]? =some l.toArray[j]:=by
 have z:j<l.length:=by simpa using h
 simp[z]
mutual
theorem Pu (I:Inv X pins σ H s) (sb:Sub F H):∀(d:D){e:D}{A:Around}{x y:V}{u w':Value},Rep F x d->Rep F y e->RelV x u->RelV y w'->A.units+bV d<cLine->SeqAt.EqAt A s u w' (iS d e):=fun d {e A x y u w'} r1 r2 rx ry hu=>by
 cases r1 with
 |cJ=>
  cases rx;cases r2 with
  |cJ=>cases ry;exact aey _
  |bl b=>cases ry;exact SeqAt.EqAt.none_bool b
  |int b=>obtain⟨tb,rfl⟩:=ry;exact SeqAt.EqAt.none_int b tb
  |str b=>obtain⟨tb,rfl⟩:=ry;exact SeqAt.EqAt.none_str b tb
  |@tup cb pP m6 eb rb=>cases ry;obtain⟨cE,kW,pb⟩:=sb.isTup I eb;exact SeqAt.EqAt.none_tuple pb (by lia)
  |@lst cb pP m6 eb rb=>cases ry;obtain⟨cE,kW,pb⟩:=sb.eU I eb;exact SeqAt.EqAt.none_list pb (by lia)
 |bl a=>
  cases rx;cases r2 with
  |cJ=>cases ry;exact SeqAt.EqAt.bool_none a
  |bl b=>cases ry;exact aew a b
  |int b=>obtain⟨tb,rfl⟩:=ry;exact aeK a b tb
  |str b=>obtain⟨tb,rfl⟩:=ry;exact aeL a b tb
  |@tup cb pP m6 eb rb=>cases ry;obtain⟨cE,kW,pb⟩:=sb.isTup I eb;exact SeqAt.EqAt.bool_tuple a pb (by lia)
  |@lst cb pP m6 eb rb=>cases ry;obtain⟨cE,kW,pb⟩:=sb.eU I eb;exact SeqAt.EqAt.bool_list a pb (by lia)
 |int a=>
  obtain⟨ta,rfl⟩:=rx;cases r2 with
  |cJ=>cases ry;exact SeqAt.EqAt.int_none a ta
  |bl b=>cases ry;exact aeJ a ta b
  |int b=>obtain⟨tb,rfl⟩:=ry;exact SeqAt.EqAt.int_int a ta b tb
  |str b=>obtain⟨tb,rfl⟩:=ry;exact aeR a ta b tb
  |@tup cb pP m6 eb rb=>cases ry;obtain⟨cE,kW,pb⟩:=sb.isTup I eb;exact SeqAt.EqAt.int_tuple a ta pb (by lia)
  |@lst cb pP m6 eb rb=>cases ry;obtain⟨cE,kW,pb⟩:=sb.eU I eb;exact SeqAt.EqAt.int_list a ta pb (by lia)
 |str a=>
  obtain⟨ta,rfl⟩:=rx;cases r2 with
  |cJ=>cases ry;exact SeqAt.EqAt.str_none a ta
  |bl b=>cases ry;exact aeM a ta b
  |int b=>obtain⟨tb,rfl⟩:=ry;exact aeS a ta b tb
  |str b=>obtain⟨tb,rfl⟩:=ry;exact SeqAt.EqAt.str_str a ta b tb
  |@tup cb pP m6 eb rb=>cases ry;obtain⟨cE,kW,pb⟩:=sb.isTup I eb;exact SeqAt.EqAt.str_tuple a ta pb (by lia)
  |@lst cb pP m6 eb rb=>cases ry;obtain⟨cE,kW,pb⟩:=sb.eU I eb;exact SeqAt.EqAt.str_list a ta pb (by lia)
 |@tup ca V5 qX ea ra=>
  cases rx;obtain⟨fS,CI,pa⟩:=sb.isTup I ea;cases r2 with
  |cJ=>cases ry;exact SeqAt.EqAt.tuple_none pa (by lia)
  |bl b=>cases ry;exact SeqAt.EqAt.tuple_bool b pa (by lia)
  |int b=>obtain⟨tb,rfl⟩:=ry;exact SeqAt.EqAt.tuple_int b tb pa (by lia)
  |str b=>obtain⟨tb,rfl⟩:=ry;exact SeqAt.EqAt.tuple_str b tb pa (by lia)
  |@tup cb pP m6 eb rb=>cases ry;obtain⟨cE,kW,pb⟩:=sb.isTup I eb;exact(by
   have hd:A.units+(bF qX+1)<cLine:=hu;have items:jG A s fS cE qX m6:=fun j h1 h2=>kX I sb qX (A:=A.in1) ra rb CI kW (by show A.units+1+bF qX<cLine;lia) (eG fS j h1) (eG cE j h2);by_cases hc:ca=cb
   ·subst hc;rw[ea] at eb;cases eb;obtain rfl:=bM.uniq ra rb;show SeqAt.EqAt A s _ _ (pN qX qX);rw[m5];exact aey _
   ·exact aeT hc (tL (by lia) pa pb (CI.length.symm.trans ra.length) (kW.length.symm.trans rb.length) items))
  |@lst cb pP m6 eb rb=>cases ry;obtain⟨cE,kW,pb⟩:=sb.eU I eb;exact SeqAt.EqAt.tuple_list pa pb (by lia)
 |@lst ca V5 qX ea ra=>
  cases rx;obtain⟨fS,CI,pa⟩:=sb.eU I ea;cases r2 with
  |cJ=>cases ry;exact SeqAt.EqAt.list_none pa (by lia)
  |bl b=>cases ry;exact SeqAt.EqAt.list_bool b pa (by lia)
  |int b=>obtain⟨tb,rfl⟩:=ry;exact SeqAt.EqAt.list_int b tb pa (by lia)
  |str b=>obtain⟨tb,rfl⟩:=ry;exact SeqAt.EqAt.list_str b tb pa (by lia)
  |@tup cb pP m6 eb rb=>cases ry;obtain⟨cE,kW,pb⟩:=sb.isTup I eb;exact SeqAt.EqAt.list_tuple pa pb (by lia)
  |@lst cb pP m6 eb rb=>cases ry;obtain⟨cE,kW,pb⟩:=sb.eU I eb;exact(by
   have hd:A.units+(bF qX+1)<cLine:=hu;have items:jG A s fS cE qX m6:=fun j h1 h2=>kX I sb qX (A:=A.in1) ra rb CI kW (by show A.units+1+bF qX<cLine;lia) (eG fS j h1) (eG cE j h2);by_cases hc:ca=cb
   ·subst hc;obtain rfl:=Nh ea eb;obtain rfl:=bM.uniq ra rb;show SeqAt.EqAt A s _ _ (pN qX qX);rw[m5];exact aey _
   ·exact aeT hc (vO (by lia) pa pb (CI.length.symm.trans ra.length) (kW.length.symm.trans rb.length) items))
theorem kX (I:Inv X pins σ H s) (sb:Sub F H):∀(ds:List D){es:List D}{A:Around}{vs ws:List V}{us us':AAL}{j:Nat}{u w':Value},bM F vs ds->bM F ws es->Vals vs us->Vals ws us'->A.units+bF ds<cLine->us[j]? =some u->us'[j]? =some w'->SeqAt.EqAt A s u w' (q8 ds es j):=fun ds {es A vs ws us us' j u w'} r1 r2 v1 v2 hu h1 h2=>by
 cases r1 with
 |nil=>cases v1;simp at h1
 |@cons v d vs ds r rs=>
  cases v1 with
  |cons q qs=>
   cases r2 with
   |nil=>cases v2;simp at h2
   |@cons w e ws es r' rs'=>
    cases v2 with
    |cons q' qs'=>
     have hd:A.units+max (bV d) (bF ds)<cLine:=hu;cases j with
     |zero=>
      simp at h1 h2;subst h1 h2;exact Pu I sb d r r' q q' (by lia)
     |succ j=>
      simp at h1 h2;have:=kX I sb ds (A:=A) rs rs' qs qs' (j:=j) (by lia) h1 h2
      simpa[q8] using this
end
def V6 (I:Inv X pins σ H s) (sb:Sub F H){d e:D}{x:V}{u w':Value}(r1:Rep F x d) (r2:Rep F y e) (rx:RelV x u) (ry:RelV y w') (hu:A.units+bV d<cLine):SeqAt.RcAt A s u w' (iS d e):=by
 cases r1 with
 |cJ=>
  cases rx;cases r2 with
  |cJ=>cases ry;exact SeqAt.RcAt.none_none
  |bl b=>cases ry;exact SeqAt.RcAt.none_bool b
  |int b=>obtain⟨tb,rfl⟩:=ry;exact SeqAt.RcAt.none_int b tb
  |str b=>obtain⟨tb,rfl⟩:=ry;exact SeqAt.RcAt.none_str b tb
  |@tup cb pP m6 eb rb=>cases ry;obtain⟨cE,kW,pb⟩:=sb.isTup I eb;exact SeqAt.RcAt.none_tuple pb (by lia)
  |@lst cb pP m6 eb rb=>cases ry;obtain⟨cE,kW,pb⟩:=sb.eU I eb;exact SeqAt.RcAt.none_list pb (by lia)
 |bl a=>
  cases rx;cases r2 with
  |cJ=>cases ry;exact SeqAt.RcAt.bool_none a
  |bl b=>cases ry;exact SeqAt.RcAt.bool_bool a b
  |int b=>obtain⟨tb,rfl⟩:=ry;exact SeqAt.RcAt.bool_int a b tb
  |str b=>obtain⟨tb,rfl⟩:=ry;exact SeqAt.RcAt.bool_str a b tb
  |@tup cb pP m6 eb rb=>cases ry;obtain⟨cE,kW,pb⟩:=sb.isTup I eb;exact SeqAt.RcAt.bool_tuple a pb (by lia)
  |@lst cb pP m6 eb rb=>cases ry;obtain⟨cE,kW,pb⟩:=sb.eU I eb;exact SeqAt.RcAt.bool_list a pb (by lia)
 |int a=>
  obtain⟨ta,rfl⟩:=rx;cases r2 with
  |cJ=>cases ry;exact SeqAt.RcAt.int_none a ta
  |bl b=>cases ry;exact SeqAt.RcAt.int_bool a ta b
  |int b=>obtain⟨tb,rfl⟩:=ry;exact SeqAt.RcAt.int_int a ta b tb
  |str b=>obtain⟨tb,rfl⟩:=ry;exact SeqAt.RcAt.int_str a ta b tb
  |@tup cb pP m6 eb rb=>cases ry;obtain⟨cE,kW,pb⟩:=sb.isTup I eb;exact SeqAt.RcAt.int_tuple a ta pb (by lia)
  |@lst cb pP m6 eb rb=>cases ry;obtain⟨cE,kW,pb⟩:=sb.eU I eb;exact SeqAt.RcAt.int_list a ta pb (by lia)
 |str a=>
  obtain⟨ta,rfl⟩:=rx;cases r2 with
  |cJ=>cases ry;exact SeqAt.RcAt.str_none a ta
  |bl b=>cases ry;exact SeqAt.RcAt.str_bool a ta b
  |int b=>obtain⟨tb,rfl⟩:=ry;exact SeqAt.RcAt.str_int a ta b tb
  |str b=>obtain⟨tb,rfl⟩:=ry;exact SeqAt.RcAt.str_str a ta b tb
  |@tup cb pP m6 eb rb=>cases ry;obtain⟨cE,kW,pb⟩:=sb.isTup I eb;exact SeqAt.RcAt.str_tuple a ta pb (by lia)
  |@lst cb pP m6 eb rb=>cases ry;obtain⟨cE,kW,pb⟩:=sb.eU I eb;exact SeqAt.RcAt.str_list a ta pb (by lia)
 |@tup ca V5 qX ea ra=>
  cases rx;obtain⟨fS,CI,pa⟩:=sb.isTup I ea;cases r2 with
  |cJ=>cases ry;exact SeqAt.RcAt.tuple_none pa (by lia)
  |bl b=>cases ry;exact SeqAt.RcAt.tuple_bool b pa (by lia)
  |int b=>obtain⟨tb,rfl⟩:=ry;exact SeqAt.RcAt.tuple_int b tb pa (by lia)
  |str b=>obtain⟨tb,rfl⟩:=ry;exact SeqAt.RcAt.tuple_str b tb pa (by lia)
  |@tup cb pP m6 eb rb=>cases ry;obtain⟨cE,kW,pb⟩:=sb.isTup I eb;exact(by
   have hd:A.units+(bF qX+1)<cLine:=hu;have items:jG A s fS cE qX m6:=fun j h1 h2=>kX I sb qX (A:=A.in1) ra rb CI kW (by show A.units+1+bF qX<cLine;lia) (eG fS j h1) (eG cE j h2);exact tL (by lia) pa pb (CI.length.symm.trans ra.length) (kW.length.symm.trans rb.length) items)
  |@lst cb pP m6 eb rb=>cases ry;obtain⟨cE,kW,pb⟩:=sb.eU I eb;exact SeqAt.RcAt.tuple_list pa pb (by lia)
 |@lst ca V5 qX ea ra=>
  cases rx;obtain⟨fS,CI,pa⟩:=sb.eU I ea;cases r2 with
  |cJ=>cases ry;exact SeqAt.RcAt.list_none pa (by lia)
  |bl b=>cases ry;exact SeqAt.RcAt.list_bool b pa (by lia)
  |int b=>obtain⟨tb,rfl⟩:=ry;exact SeqAt.RcAt.list_int b tb pa (by lia)
  |str b=>obtain⟨tb,rfl⟩:=ry;exact SeqAt.RcAt.list_str b tb pa (by lia)
  |@tup cb pP m6 eb rb=>cases ry;obtain⟨cE,kW,pb⟩:=sb.isTup I eb;exact SeqAt.RcAt.list_tuple pa pb (by lia)
  |@lst cb pP m6 eb rb=>cases ry;obtain⟨cE,kW,pb⟩:=sb.eU I eb;exact(by
   have hd:A.units+(bF qX+1)<cLine:=hu;have items:jG A s fS cE qX m6:=fun j h1 h2=>kX I sb qX (A:=A.in1) ra rb CI kW (by show A.units+1+bF qX<cLine;lia) (eG fS j h1) (eG cE j h2);exact vO (by lia) pa pb (CI.length.symm.trans ra.length) (kW.length.symm.trans rb.length) items)
def Ni (I:Inv X pins σ H s) (sb:Sub F H){d e:D}{x:V}{u w':Value}(r1:Rep F x d) (r2:Rep F y e) (rx:RelV x u) (ry:RelV y w') (hu:A.units+bV d<cLine):SeqAt.RcNeAt A s u w' (!iS d e):=by
 cases r1 with
 |cJ=>
  cases rx;cases r2 with
  |cJ=>cases ry;exact SeqAt.RcNeAt.none_none
  |bl b=>cases ry;exact SeqAt.RcNeAt.none_bool b
  |int b=>obtain⟨tb,rfl⟩:=ry;exact SeqAt.RcNeAt.none_int b tb
  |str b=>obtain⟨tb,rfl⟩:=ry;exact SeqAt.RcNeAt.none_str b tb
  |@tup cb pP m6 eb rb=>cases ry;obtain⟨cE,kW,pb⟩:=sb.isTup I eb;exact SeqAt.RcNeAt.none_tuple pb (by lia)
  |@lst cb pP m6 eb rb=>cases ry;obtain⟨cE,kW,pb⟩:=sb.eU I eb;exact SeqAt.RcNeAt.none_list pb (by lia)
 |bl a=>
  cases rx;cases r2 with
  |cJ=>cases ry;exact SeqAt.RcNeAt.bool_none a
  |bl b=>cases ry;exact SeqAt.RcNeAt.bool_bool a b
  |int b=>obtain⟨tb,rfl⟩:=ry;exact SeqAt.RcNeAt.bool_int a b tb
  |str b=>obtain⟨tb,rfl⟩:=ry;exact SeqAt.RcNeAt.bool_str a b tb
  |@tup cb pP m6 eb rb=>cases ry;obtain⟨cE,kW,pb⟩:=sb.isTup I eb;exact SeqAt.RcNeAt.bool_tuple a pb (by lia)
  |@lst cb pP m6 eb rb=>cases ry;obtain⟨cE,kW,pb⟩:=sb.eU I eb;exact SeqAt.RcNeAt.bool_list a pb (by lia)
 |int a=>
  obtain⟨ta,rfl⟩:=rx;cases r2 with
  |cJ=>cases ry;exact SeqAt.RcNeAt.int_none a ta
  |bl b=>cases ry;exact SeqAt.RcNeAt.int_bool a ta b
  |int b=>obtain⟨tb,rfl⟩:=ry;exact SeqAt.RcNeAt.int_int a ta b tb
  |str b=>obtain⟨tb,rfl⟩:=ry;exact SeqAt.RcNeAt.int_str a ta b tb
  |@tup cb pP m6 eb rb=>cases ry;obtain⟨cE,kW,pb⟩:=sb.isTup I eb;exact SeqAt.RcNeAt.int_tuple a ta pb (by lia)
  |@lst cb pP m6 eb rb=>cases ry;obtain⟨cE,kW,pb⟩:=sb.eU I eb;exact SeqAt.RcNeAt.int_list a ta pb (by lia)
 |str a=>
  obtain⟨ta,rfl⟩:=rx;cases r2 with
  |cJ=>cases ry;exact SeqAt.RcNeAt.str_none a ta
  |bl b=>cases ry;exact SeqAt.RcNeAt.str_bool a ta b
  |int b=>obtain⟨tb,rfl⟩:=ry;exact SeqAt.RcNeAt.str_int a ta b tb
  |str b=>obtain⟨tb,rfl⟩:=ry;exact SeqAt.RcNeAt.str_str a ta b tb
  |@tup cb pP m6 eb rb=>cases ry;obtain⟨cE,kW,pb⟩:=sb.isTup I eb;exact SeqAt.RcNeAt.str_tuple a ta pb (by lia)
  |@lst cb pP m6 eb rb=>cases ry;obtain⟨cE,kW,pb⟩:=sb.eU I eb;exact SeqAt.RcNeAt.str_list a ta pb (by lia)
 |@tup ca V5 qX ea ra=>
  cases rx;obtain⟨fS,CI,pa⟩:=sb.isTup I ea;cases r2 with
  |cJ=>cases ry;exact SeqAt.RcNeAt.tuple_none pa (by lia)
  |bl b=>cases ry;exact SeqAt.RcNeAt.tuple_bool b pa (by lia)
  |int b=>obtain⟨tb,rfl⟩:=ry;exact SeqAt.RcNeAt.tuple_int b tb pa (by lia)
  |str b=>obtain⟨tb,rfl⟩:=ry;exact SeqAt.RcNeAt.tuple_str b tb pa (by lia)
  |@tup cb pP m6 eb rb=>cases ry;obtain⟨cE,kW,pb⟩:=sb.isTup I eb;exact(by
   have hd:A.units+(bF qX+1)<cLine:=hu;have items:jG A s fS cE qX m6:=fun j h1 h2=>kX I sb qX (A:=A.in1) ra rb CI kW (by show A.units+1+bF qX<cLine;lia) (eG fS j h1) (eG cE j h2);exact xx (by lia) pa pb (CI.length.symm.trans ra.length) (kW.length.symm.trans rb.length) items)
  |@lst cb pP m6 eb rb=>cases ry;obtain⟨cE,kW,pb⟩:=sb.eU I eb;exact SeqAt.RcNeAt.tuple_list pa pb (by lia)
 |@lst ca V5 qX ea ra=>
  cases rx;obtain⟨fS,CI,pa⟩:=sb.eU I ea;cases r2 with
  |cJ=>cases ry;exact SeqAt.RcNeAt.list_none pa (by lia)
  |bl b=>cases ry;exact SeqAt.RcNeAt.list_bool b pa (by lia)
  |int b=>obtain⟨tb,rfl⟩:=ry;exact SeqAt.RcNeAt.list_int b tb pa (by lia)
  |str b=>obtain⟨tb,rfl⟩:=ry;exact SeqAt.RcNeAt.list_str b tb pa (by lia)
  |@tup cb pP m6 eb rb=>cases ry;obtain⟨cE,kW,pb⟩:=sb.isTup I eb;exact SeqAt.RcNeAt.list_tuple pa pb (by lia)
  |@lst cb pP m6 eb rb=>cases ry;obtain⟨cE,kW,pb⟩:=sb.eU I eb;exact(by
   have hd:A.units+(bF qX+1)<cLine:=hu;have items:jG A s fS cE qX m6:=fun j h1 h2=>kX I sb qX (A:=A.in1) ra rb CI kW (by show A.units+1+bF qX<cLine;lia) (eG fS j h1) (eG cE j h2);exact zz (by lia) pa pb (CI.length.symm.trans ra.length) (kW.length.symm.trans rb.length) items)
def ku:List D->Option U
 |[a,b]=>if bV a<=40 then some (.t (.bl (iS a b))) else none
 |_=>none
def Mq:List D->Option U
 |[a,b]=>if bV a<=40 then some (.t (.bl (!iS a b))) else none
 |_=>none
def cy (hu:X.A.units+64<cLine):xj X (compareOp .Eq) ku:=by
 intro pins s σ H x y v u Q I rx ry ⟨F,ds,w,sb,rs,hw,q⟩;obtain⟨d,e,rfl,r1,r2⟩:=xm rs;obtain⟨hd,rfl⟩:=cz (show(if bV d<=40 then some (U.t (.bl (iS d e))) else none)=some w from hw);exact V6 I sb r1 r2 rx ry (by lia) _ _ _ _ ⟨.bl _,H,I,rfl,q _ F H (gg.refl ..) sb (.bl _)⟩
def uQ (hu:X.A.units+64<cLine):xj X (compareOp .NotEq) Mq:=by
 intro pins s σ H x y v u Q I rx ry ⟨F,ds,w,sb,rs,hw,q⟩;obtain⟨d,e,rfl,r1,r2⟩:=xm rs;obtain⟨hd,rfl⟩:=cz (show(if bV d<=40 then some (U.t (.bl (!iS d e))) else none)=some w from hw);exact Ni I sb r1 r2 rx ry (by lia) _ _ _ _ ⟨.bl _,H,I,rfl,q _ F H (gg.refl ..) sb (.bl _)⟩
def inD (x:D) (ds:List D):Bool:=ds.any fun y=>iS y x
def xy:List D->Option U
 |[x,.tup ds]=>if bF ds<=40 then some (.t (.bl (inD x ds))) else none
 |[x,.lst ds]=>if bF ds<=40 then some (.t (.bl (inD x ds))) else none
 |[.str i,.str j]=>some (.t (.bl (!(Builtin.Str.occurrences j i 0 j.length 1).isEmpty)))
 |_=>none
def uR:List D->Option U
 |[x,.tup ds]=>if bF ds<=40 then some (.t (.bl (!inD x ds))) else none
 |[x,.lst ds]=>if bF ds<=40 then some (.t (.bl (!inD x ds))) else none
 |[.str i,.str j]=>some (.t (.bl (!(!(Builtin.Str.occurrences j i 0 j.length 1).isEmpty))))
 |_=>none
def RelV.uniq {v w':V}{u:Value}(a:RelV v u) (b:RelV w' u):v=w':=by
 cases v<;>cases w'<;>simp only[RelV] at a b<;>first
  |rfl
  |(subst a;cases b;done)
  |(subst a;cases b;rfl)
  |(obtain⟨t,rfl⟩:=a;obtain⟨t',e⟩:=b;cases e;done)
  |(obtain⟨t,rfl⟩:=a;obtain⟨t',e⟩:=b;cases e;rfl)
  |(obtain⟨t,rfl⟩:=a;cases b;done)
  |(obtain⟨t,rfl⟩:=b;cases a;done)
open Classical in
def yY (F:Hp) (d:D) (y:Value):Bool:=if h:∃(v:V) (dd:D),RelV v y/\Rep F v dd then iS (Classical.choose (adl h)) d else false
def Kr {v:V}{dd d:D}{y:Value}(a:RelV v y) (r:Rep F v dd):yY F d y=iS dd d:=by
 unfold yY;have h:∃(v:V) (dd:D),RelV v y/\Rep F v dd:=⟨v,dd,a,r⟩
 rw[dif_pos h];have k:=adl (adl h);have e1:=RelV.uniq k.1 a;have r':Rep F (Classical.choose h) dd:=by rw[e1];exact r
 rw[Rep.uniq k.2 r']
theorem kY (I:Inv X pins σ H s) (sb:Sub F H){A:Around}{x:V}{u:Value}{d:D}(r:Rep F x d) (rx:RelV x u):∀{vs:List V}{ds:List D}{its:AAL},bM F vs ds->Vals vs its->A.units+bF ds<cLine->
  (∀y∈its,SeqAt.EqAt A s y u (yY F d y))/\its.any (yY F d)=inD d ds
 |_,_,_,.nil,.nil,_=>⟨(fun y hy=>absurd hy (by simp)),rfl⟩
 |_,_,_,@bM.cons _ v dd vs ds r1 rs,.cons q qs,hu=>by
  have hd:A.units+max (bV dd) (bF ds)<cLine:=hu;obtain⟨h1,h2⟩:=kY I sb (A:=A) r rx rs qs (by lia);refine⟨fun y hy=>?_,?_⟩
  ·rcases aav.mp hy with rfl|hy
   ·rw[Kr q r1];exact Pu I sb dd r1 r q rx (by lia)
   ·exact h1 y hy
  ·rw[acX,h2,Kr q r1];rfl
def kZ (hu:X.A.units+64<cLine):xj X (compareOp .In) xy:=by
 intro pins s σ H x y v u Q I rx ry ⟨F,ds,w,sb,rs,hw,q⟩;obtain⟨d,e,rfl,r1,r2⟩:=xm rs;cases e with
 |tup ds=>
  obtain⟨hd,rfl⟩:=cz (show(if bF ds<=40 then some (U.t (.bl (inD d ds))) else none)=some w by cases d<;>exact hw);obtain⟨a,vs,rfl,fa,ha,rs⟩:=sb.iV r2;cases ry;obtain⟨its,rv,p⟩:=sb.isTup I fa;obtain⟨h1,h2⟩:=kY I sb (A:=X.A.in1) r1 rx rs rv (by show X.A.units+1+bF ds<cLine;lia);refine SeqAt.in_tupleAt (yY F d) p (fun y hy=>h1 y (by simpa using hy)) ⟨.bl _,H,I,rfl,?_⟩;rw[show its.toArray.any (yY F d)=its.any (yY F d) by simp,h2];exact q _ F H (gg.refl ..) sb (.bl _)
 |lst ds=>
  obtain⟨hd,rfl⟩:=cz (show(if bF ds<=40 then some (U.t (.bl (inD d ds))) else none)=some w by cases d<;>exact hw);obtain⟨a,vs,rfl,fa,ha,rs⟩:=sb.iC r2;cases ry;obtain⟨its,rv,p⟩:=sb.eU I fa;obtain⟨h1,h2⟩:=kY I sb (A:=X.A.in1) r1 rx rs rv (by show X.A.units+1+bF ds<cLine;lia);refine SeqAt.in_listAt (yY F d) p (fun y hy=>h1 y (by simpa using hy)) ⟨.bl _,H,I,rfl,?_⟩;rw[show its.toArray.any (yY F d)=its.any (yY F d) by simp,h2];exact q _ F H (gg.refl ..) sb (.bl _)
 |str j=>
  cases d<;>try (cases hw;done)
  rename_i i;cases hw;cases r1;cases r2;exact G4 pins s σ H _ _ v u Q I rx ry ⟨i,j,rfl,rfl,q _ F H (gg.refl ..) sb (.bl _)⟩
 |cJ=>cases d<;>(cases hw;done)
 |bl b=>cases d<;>(cases hw;done)
 |int b=>cases d<;>(cases hw;done)
def Hy (hu:X.A.units+64<cLine):xj X (compareOp .NotIn) uR:=by
 intro pins s σ H x y v u Q I rx ry ⟨F,ds,w,sb,rs,hw,q⟩;obtain⟨d,e,rfl,r1,r2⟩:=xm rs;cases e with
 |tup ds=>
  obtain⟨hd,rfl⟩:=cz (show(if bF ds<=40 then some (U.t (.bl (!inD d ds))) else none)=some w by cases d<;>exact hw);obtain⟨a,vs,rfl,fa,ha,rs⟩:=sb.iV r2;cases ry;obtain⟨its,rv,p⟩:=sb.isTup I fa;obtain⟨h1,h2⟩:=kY I sb (A:=X.A.in1) r1 rx rs rv (by show X.A.units+1+bF ds<cLine;lia);refine SeqAt.notIn_tupleAt (yY F d) p (fun y hy=>h1 y (by simpa using hy)) ⟨.bl _,H,I,rfl,?_⟩;rw[show its.toArray.any (yY F d)=its.any (yY F d) by simp,h2];exact q _ F H (gg.refl ..) sb (.bl _)
 |lst ds=>
  obtain⟨hd,rfl⟩:=cz (show(if bF ds<=40 then some (U.t (.bl (!inD d ds))) else none)=some w by cases d<;>exact hw);obtain⟨a,vs,rfl,fa,ha,rs⟩:=sb.iC r2;cases ry;obtain⟨its,rv,p⟩:=sb.eU I fa;obtain⟨h1,h2⟩:=kY I sb (A:=X.A.in1) r1 rx rs rv (by show X.A.units+1+bF ds<cLine;lia);refine SeqAt.notIn_listAt (yY F d) p (fun y hy=>h1 y (by simpa using hy)) ⟨.bl _,H,I,rfl,?_⟩;rw[show its.toArray.any (yY F d)=its.any (yY F d) by simp,h2];exact q _ F H (gg.refl ..) sb (.bl _)
 |str j=>
  cases d<;>try (cases hw;done)
  rename_i i;cases hw;cases r1;cases r2;exact AL pins s σ H _ _ v u Q I rx ry ⟨i,j,rfl,rfl,q _ F H (gg.refl ..) sb (.bl _)⟩
 |cJ=>cases d<;>(cases hw;done)
 |bl b=>cases d<;>(cases hw;done)
 |int b=>cases d<;>(cases hw;done)
end
def Ep (T:String) (d:D):Option Bool:=match T with
 | "tuple"=>some (J6 d)
 | "list"=>some (J7 d)
 | "str"=>some (J8 d)
 | "bool"=>some (J9 d)
 | "int"=>some (Ka d)
 |_=>none
def Ks {d:D}{b:Bool}(h:Ep T d=some b):PySem.W.kitOne K (.type (Q4 d)) (.type T)=some b:=by
 unfold Ep at h;split at h
 ·cases h;exact M4 d
 ·cases h;exact M5 d
 ·cases h;exact Kc d
 ·cases h;exact Q5 d
 ·cases h;exact M6 d
 ·cases h
def z7:List String->D->Option Bool
 |[],_=>some false
 |T::Ts,d=>match Ep T d with
  |some true=>some true
  |some false=>z7 Ts d
  |none=>none
section
variable {X:Cx}{pins:AAG}{σ:St}{F H:Hp}{s:Shared}
def Nj (I:Inv X pins σ H s) (sb:Sub F H){x:V}{u:Value}{d:D}{c:Value}{b:Bool}(r:Rep F x d) (rx:RelV x u) (e:PySem.W.kitOne X.K (.type (Q4 d)) c=some b) (h:∀tk,Q (.bool b) {s with toks:=tk}):
  wpAny (model X.prog X.w) A (call (.builtin "isinstance") [u,c]) Q E s:=by
 cases r with
 |cJ=>cases rx;exact adD PySem.W.kitx_none I.AG True.intro e (fun z=>nomatch z) h
 |bl y=>cases rx;exact adD PySem.W.kitx_bool I.AG True.intro e (fun z=>nomatch z) h
 |int i=>obtain⟨t,rfl⟩:=rx;exact adD PySem.W.kitx_int I.AG True.intro e (fun z=>nomatch z) h
 |str y=>obtain⟨t,rfl⟩:=rx;exact adD PySem.W.kitx_str I.AG True.intro e (fun z=>nomatch z) h
 |tup ea _=>
  cases rx;obtain⟨its,_,o,h1,h2,_⟩:=sb.isTup I ea;exact adD PySem.W.kitx_tuple I.AG ⟨o,h1,h2⟩ e (fun z=>nomatch z) h
 |lst ea _=>
  cases rx;obtain⟨its,_,o,h1,h2,_⟩:=sb.eU I ea;exact adD PySem.W.kitx_list I.AG ⟨o,h1,h2⟩ e (fun z=>nomatch z) h
end
def Yk (Ts:List String) (g:GD):GD:=fun S=>(g S).bind fun p=>(z7 Ts p.1).map fun b=>(.bl b,p.2)
section
variable {X:Cx}{a b e:Expr}{pos p px:Pos}{x y:Str}{ga:GD}
def Hz {d:D}{b:Bool}(h:z7 [T] d=some b):Ep T d=some b:=by
 unfold z7 at h;cases e:Ep T d with
 |none=>rw[e] at h;cases h
 |some k=>rw[e] at h;cases k<;>exact h
def HA (hg:Gl X "isinstance") (hm:X.mg "isinstance" =none) (V7:Gl X y) (hm2:X.mg y=none) (hv2:bootBuiltins y=some (.type T)) (ha:JD X a ga) (hn2:y≠"__name__":=by decide) (hd2:BBT y:=by decide)
  (hs:starEach [a,.Name y px] X.env=(false,eval a X.env)::starEach [.Name y px] X.env:=by rfl) (hs2:starEach [.Name y px] X.env=(false,eval (.Name y px) X.env)::starEach [] X.env:=by rfl) (hpl:(backTo pos (starEach [.Name y px] X.env)).any (·.1)=false:=by rfl):
  JD X (.Call (.Name "isinstance" p) [a,.Name y px] [] pos) (Yk [T] ga):=⟨fun B=>
 (jL (r:=fun xs H Q=>∃x F d b,xs=[x,.ty T]/\Sub F H/\Rep F x d/\Ep T d=some b/\Q (.bl b) H) (fun pins s σ H xs us Q I r hh=>by
   obtain⟨x,F,d,b,e1,sb,rd,hk,q⟩:=hh;subst e1;obtain⟨u,w',rfl,ru,rw'⟩:=vals2 r;cases rw';exact Nj I sb rd ru (Ks hk) fun tk=>⟨.bl b,H,I.tok tk,rfl,q⟩) hg hm PyProof.Rows.Boot.isinstance (gF (ha.h B) (gF (MD (v:=.ty T) V7 hm2 hv2 rfl hn2 hd2) kO hs2) hs) (by decide) (by decide) hs hpl).imp fun σ H Q hh=>by
 obtain⟨S,F,d,S',R,hg,q⟩:=hh;obtain⟨⟨d1,S1⟩,h1,hg⟩:=ah hg;obtain⟨k,h2,hg⟩:=aB hg;cases hg;exact⟨S,F,d1,_,R,h1,fun v F1 H1 R1 st1 r1=>⟨v,F1,d1,k,rfl,R1.sub,r1,Hz h2,q _ F1 H1 R1 st1 (.bl k)⟩⟩⟩
noncomputable def i9:List D->Option (List Bool)
 |[]=>some []
 |.bl b::ds=>(i9 ds).map fun bs=>b::bs
 |_=>none
theorem pQ {F:Hp}:∀{vs:List V}{ds:List D}{bs:List Bool},bM F vs ds->i9 ds=some bs->vs=bs.map V.bl
 |_,_,_,.nil,h=>by cases h;rfl
 |_,_,_,@bM.cons _ v d vs ds r rs,h=>by
  cases d<;>try (cases h;done)
  obtain⟨bs,h1,h2⟩:=aB (show(i9 ds).map _=_ from h);subst h2;rw[l8 r,pQ rs h1];rfl
def xA:List D->Option U
 |[.lst ds]=>(i9 ds).map fun bs=>.t (.bl (bs.all id))
 |_=>none
def wm:List D->Option U
 |[.lst ds]=>(i9 ds).map fun bs=>.t (.bl (bs.any id))
 |_=>none
def tM {P:D->Prop}{F:Hp}{f:List D->Option U}{w':U}(rs:bM F xs ds) (h:f ds=some w') (hn:f []=none) (h2:∀a b r,f (a::b::r)=none):∃x d,xs=[x]/\ds=[d]/\Rep F x d:=by
 cases rs with
 |nil=>rw[hn] at h;cases h
 |cons r rs=>
  cases rs with
  |nil=>exact⟨_,_,rfl,rfl,r⟩
  |cons _ _=>rw[h2] at h;cases h
def m8 (hc:X.calm=true):gT X (.builtin "all") (rP xA):=by
 intro pins s σ H xs us Q I r ⟨F,ds,w,sb,rs,hw,q⟩;obtain⟨x,d,rfl,rfl,r1⟩:=tM (P:=fun _=>True) rs hw rfl (fun d _ _=>by cases d<;>rfl);cases d<;>try (cases hw;done)
 rename_i ds;obtain⟨bs,h1,rfl⟩:=aB (show(i9 ds).map _=some w from hw);obtain⟨a,vs,rfl,fa,ha,oX⟩:=sb.iC r1;obtain rfl:=pQ oX h1;exact Ho hc pins s σ H _ us Q I r ⟨a,bs,rfl,.inl ha,q _ F H (gg.refl ..) sb (.bl _)⟩
def m9 (hc:X.calm=true):gT X (.builtin "any") (rP wm):=by
 intro pins s σ H xs us Q I r ⟨F,ds,w,sb,rs,hw,q⟩;obtain⟨x,d,rfl,rfl,r1⟩:=tM (P:=fun _=>True) rs hw rfl (fun d _ _=>by cases d<;>rfl);cases d<;>try (cases hw;done)
 rename_i ds;obtain⟨bs,h1,rfl⟩:=aB (show(i9 ds).map _=some w from hw);obtain⟨a,vs,rfl,fa,ha,oX⟩:=sb.iC r1;obtain rfl:=pQ oX h1;exact Hq hc pins s σ H _ us Q I r ⟨a,bs,rfl,.inl ha,q _ F H (gg.refl ..) sb (.bl _)⟩
noncomputable def V8:List D->Option U
 |[.int i,.int j,.int k]=>some (.t (.int (if j<i then(if k<j then k else j) else if k<i then k else i)))
 |_=>none
noncomputable def z9:List D->Option U
 |[.int i,.int j]=>some (.t (.int (if j<i then j else i)))
 |_=>none
def xB (hc:X.calm=true):gT X (.builtin "min") (rP z9):=by
 intro pins s σ H xs us Q I r ⟨F,ds,w,sb,rs,hw,q⟩;unfold z9 at hw;split at hw
 ·rename_i i j;cases hw;cases rs with
  |cons r1 rs=>cases rs with
   |cons r2 rs=>
    cases rs;rw[gG r1,gG r2] at r;exact G5 hc pins s σ H _ us Q I r ⟨i,j,rfl,q _ F H (gg.refl ..) sb (.int _)⟩
 ·cases hw
noncomputable def nh:List D->Option U
 |[.tup ds]=>some (.m (.lst ds))
 |[.lst ds]=>some (.m (.lst ds))
 |_=>none
noncomputable def fU:List D->Option U
 |[.tup ds]=>some (.t (.tup ds))
 |[.lst ds]=>some (.t (.tup ds))
 |_=>none
def k9:gT X (.type "list") (rP nh):=by
 intro pins s σ H xs us Q I r ⟨F,ds,w,sb,rs,hw,q⟩;obtain⟨x,d,rfl,rfl,r1⟩:=tM (P:=fun _=>True) rs hw rfl (fun d _ _=>by cases d<;>rfl);cases d<;>try (cases hw;done)
 ·cases hw;obtain⟨a,vs,rfl,fa,ha,oX⟩:=sb.iV r1;exact tu pins s σ H _ us Q I r ⟨a,vs,rfl,.inr (.inl ha),fun p hp=>q _ F _ (gg.obj hp _) (sb.same (gg.obj (F:=F) hp _).same) ⟨p,rfl,hp,sb.fresh hp,vs,aU,oX⟩⟩
 ·cases hw;obtain⟨a,vs,rfl,fa,ha,oX⟩:=sb.iC r1;exact tu pins s σ H _ us Q I r ⟨a,vs,rfl,.inl (.inl ha),fun p hp=>q _ F _ (gg.obj hp _) (sb.same (gg.obj (F:=F) hp _).same) ⟨p,rfl,hp,sb.fresh hp,vs,aU,oX⟩⟩
def gj:gT X (.type "tuple") (rP fU):=by
 intro pins s σ H xs us Q I r ⟨F,ds,w,sb,rs,hw,q⟩;obtain⟨x,d,rfl,rfl,r1⟩:=tM (P:=fun _=>True) rs hw rfl (fun d _ _=>by cases d<;>rfl);cases d<;>try (cases hw;done)
 ·cases hw;have r0:=r1;obtain⟨a,vs,rfl,fa,ha,oX⟩:=sb.iV r1;exact qZ pins s σ H _ us Q I r ⟨a,vs,rfl,.inr ⟨.inl ha,q _ F H (gg.refl ..) sb r0⟩⟩
 ·cases hw;obtain⟨a,vs,rfl,fa,ha,oX⟩:=sb.iC r1;exact qZ pins s σ H _ us Q I r ⟨a,vs,rfl,.inl ⟨.inl ha,fun p hp=>q _ _ _ (gg.root sb hp _) (sb.xh hp) (.tup aU (oX.le (fT (sb.fresh hp))))⟩⟩
end
def lJ.ky {k:Key}(e:H a=some (.dK kvs)) (h:QM y k):lJ H a y (qW kvs k):=.inl ⟨kvs,k,.inl e,h,rfl⟩
def AR.ky {k:Key}{v:V}(e:H a=some (.dK kvs)) (h:QM y k) (hl:kvs.length<sizeLine):AR H a y v (upd H a (.dK (putK kvs k v))):=.inl ⟨kvs,k,e,h,hl,rfl⟩
def keyOf:D->Option Key
 |.bl b=>some (.inl (bI b))
 |.int i=>some (.inl i)
 |.str z=>some (.inr z)
 |_=>none
def ni {F:Hp}{v:V}{d:D}{k:Key}(r:Rep F v d) (h:keyOf d=some k):QM v k:=by
 cases r<;>cases h<;>first|exact .inl rfl|exact .inr ⟨_,rfl,rfl⟩
noncomputable def bT {κ:Type} [DecidableEq κ] (kvs:List (κ×D)) (k:κ):Option D:=(kvs.find? fun kv=>decide (kv.1=k)).map (·.2)
noncomputable def putD {κ:Type} [DecidableEq κ] (kvs:List (κ×D)) (k:κ) (d:D):List (κ×D):=
 if(kvs.any fun kv=>decide (kv.1=k))=true then kvs.map (fun kv=>if kv.1=k then(kv.1,d) else kv) else kvs++[(k,d)]
theorem jd {κ:Type} [DecidableEq κ] {F:Hp}{k:κ}{d:D}:∀{ws:List (κ×V)}{kvs:List (κ×D)},Paired (fK F) ws kvs->bT kvs k=some d->∃v,qW ws k=some v/\Rep F v d
 |_,_,.nil,h=>by cases h
 |_,_,@Paired.cons _ _ _ p q ws kvs r rs,h=>by
  by_cases e:q.1=k
  ·have e':p.1=k:=r.1.trans e;refine⟨p.2,sW e',?_⟩;have:bT (q::kvs) k=some q.2:=by simp[bT,abY,e]
   rw[this] at h;cases h;exact r.2
  ·have e':¬p.1=k:=fun z=>e (r.1.symm.trans z);have:bT (q::kvs) k=bT kvs k:=by simp[bT,abY,e]
   rw[this] at h;obtain⟨v,h1,h2⟩:=jd rs h;exact⟨v,by rw[pF e'];exact h1,h2⟩
theorem uS {κ:Type} [DecidableEq κ] {F:Hp}{k:κ}:∀{ws:List (κ×V)}{kvs:List (κ×D)},Paired (fK F) ws kvs->bT kvs k=none->qW ws k=none
 |_,_,.nil,h=>rfl
 |_,_,@Paired.cons _ _ _ p q ws kvs r rs,h=>by
  by_cases e:q.1=k
  ·have:bT (q::kvs) k=some q.2:=by simp[bT,abY,e]
   rw[this] at h;cases h
  ·have e':¬p.1=k:=fun z=>e (r.1.symm.trans z);have:bT (q::kvs) k=bT kvs k:=by simp[bT,abY,e]
   rw[this] at h;rw[pF e'];exact uS rs h
theorem CJ {κ:Type} [DecidableEq κ] {F:Hp}{k:κ}:∀{ws:List (κ×V)}{kvs:List (κ×D)},Paired (fK F) ws kvs->(ws.any fun kv=>decide (kv.1=k))=(kvs.any fun kv=>decide (kv.1=k))
 |_,_,.nil=>rfl
 |_,_,.cons r rs=>by rw[acX,acX,CJ rs,r.1]
theorem CK {κ:Type} [DecidableEq κ] {F:Hp}{k:κ}{v:V}{d:D}(r:Rep F v d):∀{ws:List (κ×V)}{kvs:List (κ×D)},Paired (fK F) ws kvs->Paired (fK F) (ws.map fun kv=>if kv.1=k then(kv.1,v) else kv) (kvs.map fun kv=>if kv.1=k then(kv.1,d) else kv)
 |_,_,.nil=>.nil
 |_,_,@Paired.cons _ _ _ p q ws kvs h hs=>by
  refine .cons ?_ (CK r hs);show fK F (if p.1=k then(p.1,v) else p) (if q.1=k then(q.1,d) else q);rw[h.1];by_cases e:q.1=k
  ·rw[if_pos e,if_pos e];exact⟨rfl,r⟩
  ·rw[if_neg e,if_neg e];exact h
theorem vP {α β:Type}{P:α->β->Prop}{x:α}{y:β}(p:P x y):∀{l:List α}{r:List β},Paired P l r->Paired P (l++[x]) (r++[y])
 |_,_,.nil=>.cons p .nil
 |_,_,.cons q qs=>.cons q (vP p qs)
def tN {κ:Type} [DecidableEq κ] {F:Hp}{k:κ}{v:V}{d:D}{ws:List (κ×V)}{kvs:List (κ×D)}(h:Paired (fK F) ws kvs) (r:Rep F v d):Paired (fK F) (putK ws k v) (putD kvs k d):=by
 unfold putK putD;rw[CJ h];by_cases e:(kvs.any fun kv=>decide (kv.1=k))=true
 ·rw[if_pos e,if_pos e];exact CK r h
 ·rw[if_neg e,if_neg e];exact vP ⟨rfl,r⟩ h
def xC:D->Option D
 |.tup ds=>if gZ 8 (.tup ds)=true then some (nf (.tup ds)) else none
 |_=>none
def lg {F:Hp}{v:V}{d:D}{ks:D}(sb:Sub F H) (r:Rep F v d) (h:xC d=some ks):∃b,v= .ref b/\Kd H b ks:=by
 cases r with
 |@tup a vs ds e rs=>
  obtain⟨h1,h2⟩:=cz (show(if gZ 8 (.tup ds)=true then some (nf (.tup ds)) else none)=some ks from h);subst h2;exact⟨a,rfl,_,Rep.le sb (.tup e rs),h1,rfl⟩
 |cJ=>cases h
 |bl _=>cases h
 |int _=>cases h
 |str _=>cases h
 |lst _ _=>cases h
noncomputable def Rm:D ⊕ Addr->Option D
 |.inl d=>some d
 |.inr _=>none
def Er {α β:Type}{P:α->β->Prop}{l:List α}{r:List β}{i:Int}{y:β}(p:Paired P l r) (h:d7 r i=some y):∃x,d7 l i=some x/\P x y:=by
 obtain⟨j,h1,h2⟩:=ah h;obtain⟨x,k1,k2⟩:=kT p h2;refine⟨x,?_,k2⟩;unfold d7;rw[p.length,h1];exact k1
def tR:U->D->Option D
 |.t (.tup ds),.int i=>d7 ds i
 |.t (.lst ds),.int i=>d7 ds i
 |.m (.lst ds),.int i=>d7 ds i
 |.b (.lst ds),.int i=>d7 ds i
 |.s ns,.int i=>(d7 ns i).map D.int
 |.m (.dct kvs),k=>(keyOf k).bind (bT kvs)
 |.b (.dct kvs),k=>(keyOf k).bind (bT kvs)
 |.m (.zW kvs),k=>(xC k).bind (bT kvs)
 |.b (.zW kvs),k=>(xC k).bind (bT kvs)
 |.m (.gap es),.int i=>(d7 es i).bind Rm
 |.b (.gap es),.int i=>(d7 es i).bind Rm
 |_,_=>none
def cF (i:Nat) (gb:GD):GD:=fun S=>match S[i]? with
 |some (some _)=>(gb S).bind fun p=>match p.2[i]? with
  |some (some u)=>(tR u p.1).map fun d=>(d,p.2)
  |_=>none
 |_=>none
def Nk (f:α->β){l:List α}{i:Int}{x:α}(h:d7 l i=some x):d7 (l.map f) i=some (f x):=by
 unfold d7 at h ⊢;rw[aah];obtain⟨j,h1,h2⟩:=ah h;rw[h1];show(l.map f)[j]? =_;rw[abx,h2];rfl
section
variable {X:Cx}{a b c:Expr}{es:BBC}{pos p px:Pos}{x y:Str}{gb:GD}
def Rn (hu:X.A.units+20<cLine) (hb:JD X b gb) (hs:qI b:=by first|(intro _ _;rfl)) (hN:X.N[i]? =some x:=by rfl) (hv:qV X.env.scope x:=by first|exact Or.inl rfl|exact Or.inr (Or.inl rfl)|exact Or.inr (Or.inr rfl))
  (hd:BBT x:=by decide) (hcd:BBU x:=by decide):JD X (.Subscript (.Name x px) b pos) (cF i gb):=⟨fun B=>PE.orelse fun σ H Q hh=>by
 obtain⟨S,F,d,S',R,hg,q⟩:=hh;unfold cF at hg;split at hg
 ·rename_i u0 Es;obtain⟨v0,hv0,_⟩:=R.rep i u0 Es;obtain⟨⟨k,S1⟩,h1,hg⟩:=ah hg;dsimp only at hg;split at hg
  ·rename_i u hS;obtain⟨d',hr,hg⟩:=aB hg;cases hg;have DQ:∀F1 H1,Rel X.K B S' σ F1 H1->zq X.K F1 H1 v0 u:=fun F1 H1 R1=>by
    obtain⟨v,k1,k2⟩:=R1.rep i u hS;rw[hv0] at k1;cases k1;exact k2
   have seq:∀(Y:V->V->Hp->VK->Prop),PE X (.Subscript (.Name x px) b pos) (Pb Y (AI i) (tD X.K B gb))->(∀v F1 H1,Rel X.K B S' σ F1 H1->Step S S' σ F H F1 H1->Rep F1 v k->Y v0 v H1 Q)->∃t',PE X (.Subscript (.Name x px) b pos) t'/\t' σ H Q:=fun Y hY h=>
    ⟨_,hY,v0,hv0,S,F,k,S',R,h1,fun v F1 H1 R1 st1 r1=>h v F1 H1 R1 st1 r1⟩
   have dict:∀kvs,(∀F1 H1,Rel X.K B S' σ F1 H1->∃a ws,v0= .ref a/\H1 a=some (.dK ws)/\Paired (fK F1) ws kvs)->(keyOf k).bind (bT kvs)=some d->∃t',PE X (.Subscript (.Name x px) b pos) t'/\t' σ H Q:=fun kvs hat hr=>by
    obtain⟨kk,e1,e2⟩:=ah hr;refine⟨_,wH hu (cI hN hv hd hcd) (hb.h B) hs,v0,hv0,S,F,k,S',R,h1,fun v F1 H1 R1 st1 r1=>?_⟩;obtain⟨a,ws,rfl,ha,pr⟩:=hat F1 H1 R1;obtain⟨w',z1,z2⟩:=jd pr e2;exact⟨a,w',rfl,by rw[<-z1];exact lJ.ky ha (ni r1 e1),q w' F1 H1 R1 st1 z2⟩
   have CL:∀kvs,(∀F1 H1,Rel X.K B S' σ F1 H1->∃a ws,v0= .ref a/\H1 a=some (.dT ws)/\Paired (fK F1) ws kvs)->(xC k).bind (bT kvs)=some d->∃t',PE X (.Subscript (.Name x px) b pos) t'/\t' σ H Q:=fun kvs hat hr=>by
    obtain⟨kk,e1,e2⟩:=ah hr;refine⟨_,wH hu (cI hN hv hd hcd) (hb.h B) hs,v0,hv0,S,F,k,S',R,h1,fun v F1 H1 R1 st1 r1=>?_⟩;obtain⟨a,ws,rfl,ha,pr⟩:=hat F1 H1 R1;obtain⟨w',z1,z2⟩:=jd pr e2;obtain⟨b',rfl,hb'⟩:=lg R1.sub r1 e1;exact⟨a,w',rfl,by rw[<-z1];exact lJ.t ha hb',q w' F1 H1 R1 st1 z2⟩
   have list:∀ds ii,k= .int ii->d7 ds ii=some d->(∀F1 H1,Rel X.K B S' σ F1 H1->∃a vs,v0= .ref a/\(mQ X.K H1 a vs\/zL X.K H1 a vs)/\bM F1 vs ds)->∃t',PE X (.Subscript (.Name x px) b pos) t'/\t' σ H Q:=fun ds ii ek hrr hat=>by
    subst ek;refine seq _ (E9 Eb (cI hN hv hd hcd) (hb.h B) hs) fun v F1 H1 R1 st1 r1=>?_;obtain⟨a,vs,rfl,ha,rs⟩:=hat F1 H1 R1;obtain⟨w',z1,z2⟩:=rs.d7 hrr;rw[gG r1];rcases ha with ha|ha
    ·exact .inl ⟨a,vs,ii,w',rfl,rfl,ha,z1,q w' F1 H1 R1 st1 z2⟩
    ·exact .inr (.inl ⟨a,vs,ii,w',rfl,rfl,ha,z1,q w' F1 H1 R1 st1 z2⟩)
   have gap:∀es ii,k= .int ii->(d7 es ii).bind Rm=some d->(∀F1 H1,Rel X.K B S' σ F1 H1->∃a vs,v0= .ref a/\H1 a=some (.lst vs)/\Paired (A1 F1) vs es)->∃t',PE X (.Subscript (.Name x px) b pos) t'/\t' σ H Q:=fun es ii ek hrr hat=>by
    subst ek;obtain⟨y,e1,e2⟩:=ah hrr;cases y with
    |inr c=>cases e2
    |inl d'=>
     cases e2;refine seq _ (E9 Eb (cI hN hv hd hcd) (hb.h B) hs) fun v F1 H1 R1 st1 r1=>?_;obtain⟨a,vs,rfl,ha,rs⟩:=hat F1 H1 R1;obtain⟨w',z1,z2⟩:=Er rs e1;rw[gG r1];exact .inl ⟨a,vs,ii,w',rfl,rfl,mQ.of ha,z1,q w' F1 H1 R1 st1 z2⟩
   unfold tR at hr;split at hr
   ·rename_i ds ii;exact list ds ii rfl hr fun F1 H1 R1=>let⟨a,vs,e1,fa,ha,rs⟩:=R1.sub.iV (DQ F1 H1 R1);⟨a,vs,e1,.inr (.inl ha),rs⟩
   ·rename_i ds ii;exact list ds ii rfl hr fun F1 H1 R1=>let⟨a,vs,e1,fa,ha,rs⟩:=R1.sub.iC (DQ F1 H1 R1);⟨a,vs,e1,.inl (.inl ha),rs⟩
   ·rename_i ds ii;exact list ds ii rfl hr fun F1 H1 R1=>let⟨a,e1,fa,vs,ha,rs⟩:=DQ F1 H1 R1;⟨a,vs,e1,.inl (mQ.of ha),rs⟩
   ·rename_i ds ii;exact list ds ii rfl hr fun F1 H1 R1=>let⟨a,e1,fa,vs,ha,rs⟩:=DQ F1 H1 R1;⟨a,vs,e1,.inl (mQ.of ha),rs⟩
   ·rename_i ns ii;obtain⟨n,z1,z2⟩:=aB hr;subst z2;refine seq _ (E9 Eb (cI hN hv hd hcd) (hb.h B) hs) fun v F1 H1 R1 st1 r1=>?_;obtain⟨a,e1,ha⟩:=DQ F1 H1 R1;rw[gG r1];exact .inl ⟨a,ns.map V.int,ii,.int n,e1,rfl,ha.sq,Nk V.int z1,q _ F1 H1 R1 st1 (.int n)⟩
   ·rename_i kvs;exact dict kvs (fun F1 H1 R1=>let⟨a,e1,fa,ws,ha,pr⟩:=DQ F1 H1 R1;⟨a,ws,e1,ha,pr⟩) hr
   ·rename_i kvs;exact dict kvs (fun F1 H1 R1=>let⟨a,e1,fa,ws,ha,pr⟩:=DQ F1 H1 R1;⟨a,ws,e1,ha,pr⟩) hr
   ·rename_i kvs;exact CL kvs (fun F1 H1 R1=>let⟨a,e1,fa,ws,ha,pr⟩:=DQ F1 H1 R1;⟨a,ws,e1,ha,pr⟩) hr
   ·rename_i kvs;exact CL kvs (fun F1 H1 R1=>let⟨a,e1,fa,ws,ha,pr⟩:=DQ F1 H1 R1;⟨a,ws,e1,ha,pr⟩) hr
   ·rename_i es ii;exact gap es ii rfl hr fun F1 H1 R1=>let⟨a,e1,fa,vs,ha,pr⟩:=DQ F1 H1 R1;⟨a,vs,e1,ha,pr⟩
   ·rename_i es ii;exact gap es ii rfl hr fun F1 H1 R1=>let⟨a,e1,fa,vs,ha,pr⟩:=DQ F1 H1 R1;⟨a,vs,e1,ha,pr⟩
   ·cases hr
  ·cases hg
 ·cases hg⟩
noncomputable def CM:U->Option Nat
 |.t (.tup ds)=>some ds.length
 |.t (.lst ds)=>some ds.length
 |.t (.str z)=>if z.length<=100000 then some z.length else none
 |.m (.lst ds)=>some ds.length
 |.b (.lst ds)=>some ds.length
 |.m (.dct ds)=>some ds.length
 |.b (.dct ds)=>some ds.length
 |.m (.zW ds)=>some ds.length
 |.b (.zW ds)=>some ds.length
 |.s ns=>some ns.length
 |_=>none
def jQ (i:Nat):GD:=fun S=>match S[i]? with
 |some (some u)=>(CM u).map fun n=>(.int (n:Nat),S)
 |_=>none
theorem cO {α β:Type}{P:α->β->Prop}:∀{l:List α}{r:List β},Paired P l r->l.length=r.length
 |_,_,.nil=>rfl
 |_,_,.cons _ ps=>congrArg Nat.succ (cO ps)
def Et {w:World}{K:Type} [DecidableEq K] (knd:HeapKind prog w K) (d:Addr) (hd:(d == sysModules)=false):
  MeetsIn prog w (Builtin.«dict.__len__» ⟨[.ref d],[]⟩) (fun _ R s=>∃xs,s.heap.DictOfH knd d xs/\R (.ok (.ret (.int xs.length s.toks))) {s with toks:=s.toks+1}):=
 .of_wp fun A R s hh=>by
  obtain⟨xs,hm,h⟩:=hh;obtain⟨o,es,ep,ho,hc,hdat,he,his,hn⟩:=hm;show wpAny _ _ (dictSize d >>= _) _ _ s;unfold dictSize;refine aaa (aaa (wpAny_dictEntries ho hdat (wpAny_pure ?_)));show wpAny _ _ (Builtin.Dict.pendingCount d >>= _) _ _ s;refine aaa (wpAny_pendingCount_other hd ?_);refine wpAny_ret_mkInt ?_;rw[Nat.add_zero,size_of_entries he];exact h
def HB {w:World}{K:Type} [DecidableEq K] {knd:HeapKind prog w K}{s:Shared}{d:Addr}{xs:List (K×Addr×Value)}(hd:(d == sysModules)=false) (hm:s.heap.DictOfH knd d xs) (hfit:(xs.length:Int)<2 ^ 63)
  (h:Q (.int xs.length (s.toks+1)) {s with toks:=s.toks+1+1}):wpAny (model prog w) A (Builtin.«len» ⟨[.ref d],[]⟩) (fun fin s'=>∃r,fin= .done (.ret r)/\Q r s') E s:=by
 unfold Builtin.«len»
 refine aaa (m:=oneArg "len" _) (wpAny_pure ?_);refine aaa (m:=callSpecial? (.ref d) (Str.ofString "__len__")) (acP (name:=Str.ofString "__len__") hm.typeIs F.slot_dict_len
  (call_meetsIn F.slot_dict_len hm.typeIs F.entry_dict_len (F.args_dict_len_1 _) (Et knd d hd) ⟨xs,hm,?_⟩))
 show wpAny _ _ _ _ _ {s with toks:=s.toks+1};refine aaa (acm (wpAny_pure ?_));refine aaa (wpAny_letGo ?_);show wpAny _ _ (if((xs.length:Nat):Int)<0 then _ else _) _ _ _;rw[if_neg (by lia)];show wpAny _ _ (if((xs.length:Nat):Int)≥2 ^ 63 then _ else _) _ _ _;rw[if_neg (by lia)];exact aaa (wpAny_mkInt (wpAny_pure ⟨_,rfl,h⟩))
def Eu:gT X (.builtin "len") (fun xs H Q=>∃a kvs,xs=[V.ref a]/\H a=some (.dT kvs)/\Q (.int kvs.length) H):=by
 intro pins s σ H xs us Q I r h;obtain⟨a,kvs,rfl,ha,q⟩:=h;obtain⟨u,rfl,ru⟩:=vals1 r;cases ru;obtain⟨z,hd,ys,rel,dd⟩:=Pg I.hok ha;have hl:kvs.length=ys.length:=aeY rel;refine Calls.call_function_entry kind_len plain_len entry_len (args_len1 _) (HB hd dd (by rw[<-hl];rw[acO] at z;lia) ?_);rw[<-hl];exact⟨.int kvs.length,H,I.tok _,⟨_,rfl⟩,q⟩
def gW (hg:Gl X "len") (hm:X.mg "len" =none) (hN:X.N[i]? =some x:=by rfl) (hv:qV X.env.scope x:=by first|exact Or.inl rfl|exact Or.inr (Or.inl rfl)|exact Or.inr (Or.inr rfl))
  (hd:BBT x:=by decide) (hcd:BBU x:=by decide) (he:starEach [.Name x px] X.env=(false,eval (.Name x px) X.env)::starEach [] X.env:=by rfl) (hpl:(backTo pos (starEach [] X.env)).any (·.1)=false:=by rfl):
  JD X (.Call (.Name "len" p) [.Name x px] [] pos) (jQ i):=⟨fun B=>PE.orelse fun σ H Q hh=>by
 obtain⟨S,F,d,S',R,hg',q⟩:=hh;unfold jQ at hg';split at hg'
 ·rename_i u hS;obtain⟨n,hn,hg'⟩:=aB hg';cases hg';obtain⟨v0,hv0,r0⟩:=R.rep i u hS;have fin:=q (.int n) F H R (Step.refl ..) (.int _);have arg:PA X [.Name x px] (Pc (AI i) QJ):=gF (cI hN hv hd hcd) kO he;have list:∀a vs,v0= .ref a->(mQ X.K H a vs\/zL X.K H a vs)->vs.length=n->∃t',PE X (.Call (.Name "len" p) [.Name x px] [] pos) t'/\t' σ H Q:=fun a vs e1 ha hl=>
   ⟨_,jL kh hg hm adv arg (by decide) (by decide) he hpl,v0,hv0,a,vs,by rw[e1],ha,by rw[hl];exact fin⟩
  have dict:∀a ws,v0= .ref a->H a=some (.dK ws)->ws.length=n->∃t',PE X (.Call (.Name "len" p) [.Name x px] [] pos) t'/\t' σ H Q:=fun a vs e1 ha hl=>
   ⟨_,jL Hl hg hm adv arg (by decide) (by decide) he hpl,v0,hv0,a,vs,by rw[e1],ha,by rw[hl];exact fin⟩
  have CL:∀a ws,v0= .ref a->H a=some (.dT ws)->ws.length=n->∃t',PE X (.Call (.Name "len" p) [.Name x px] [] pos) t'/\t' σ H Q:=fun a vs e1 ha hl=>
   ⟨_,jL Eu hg hm adv arg (by decide) (by decide) he hpl,v0,hv0,a,vs,by rw[e1],ha,by rw[hl];exact fin⟩
  unfold CM at hn;split at hn
  ·cases hn;obtain⟨a,vs,e1,fa,ha,rs⟩:=R.sub.iV r0;exact list a vs e1 (.inr (.inl ha)) rs.length
  ·cases hn;obtain⟨a,vs,e1,fa,ha,rs⟩:=R.sub.iC r0;exact list a vs e1 (.inl (.inl ha)) rs.length
  ·rename_i z;obtain⟨hl,rfl⟩:=cz hn;exact⟨_,jL sZ hg hm adv arg (by decide) (by decide) he hpl,v0,hv0,z,by rw[Fo r0],ki hl,fin⟩
  ·cases hn;obtain⟨a,e1,fa,vs,ha,rs⟩:=r0;exact list a vs e1 (.inl (mQ.of ha)) rs.length
  ·cases hn;obtain⟨a,e1,fa,vs,ha,rs⟩:=r0;exact list a vs e1 (.inl (mQ.of ha)) rs.length
  ·cases hn;obtain⟨a,e1,fa,ws,ha,pr⟩:=r0;exact dict a ws e1 ha (cO pr)
  ·cases hn;obtain⟨a,e1,fa,ws,ha,pr⟩:=r0;exact dict a ws e1 ha (cO pr)
  ·cases hn;obtain⟨a,e1,fa,ws,ha,pr⟩:=r0;exact CL a ws e1 ha (cO pr)
  ·cases hn;obtain⟨a,e1,fa,ws,ha,pr⟩:=r0;exact CL a ws e1 ha (cO pr)
  ·cases hn;obtain⟨a,e1,ha⟩:=r0;exact list a _ e1 (.inl ha.sq) (by simp)
  ·cases hn
 ·cases hg'⟩
end
def rR (o:MO) (k d:D):Option MO:=match o with
 |.dct kvs=>(keyOf k).bind fun kk=>if kvs.length<100000 then some (.dct (putD kvs kk d)) else none
 |.zW kvs=>(xC k).bind fun kk=>if kvs.length<10000000 then some (.zW (putD kvs kk d)) else none
 |.lst ds=>match k with
  |.int i=>(Hh ds.length i).map fun j=>.lst (ds.set j d)
  |_=>none
 |.gap es=>match k with
  |.int i=>(Hh es.length i).map fun j=>.gap (es.set j (.inl d))
  |_=>none
 |_=>none
theorem xD {α β:Type}{P:α->β->Prop}{x:α}{y:β}(h:P x y):∀{l:List α}{r:List β}(_:Paired P l r) (j:Nat),Paired P (l.set j x) (r.set j y)
 |_,_,.nil,_=>.nil
 |_,_,.cons p ps,0=>.cons h ps
 |_,_,.cons p ps,j+1=>.cons p (xD h ps j)
def zA (i:Nat) (gk gv:GD):GS:=fun S=>(gv S).bind fun p=>match p.2[i]? with
 |some (some _)=>(gk p.2).bind fun r=>(pA r.2 i fun o=>(rR o r.1 p.1).map fun o'=>(.cJ,o')).map fun z=>.nx z.2
 |_=>none
theorem bM.set {F:Hp}{v:V}{d:D}(r:Rep F v d):∀{vs:List V}{ds:List D}(j:Nat),bM F vs ds->bM F (vs.set j v) (ds.set j d)
 |_,_,_,.nil=>.nil
 |_,_,0,.cons _ rs=>.cons r rs
 |_,_,j+1,.cons q rs=>.cons q (bM.set r j rs)
section
variable {X:Cx}{a b c e value k:Expr}{pos p px pos':Pos}{x y:Str}{g gk gv:GD}
def pR (hu:X.A.units+20<cLine) (hk:JD X k gk) (hval:JD X value gv) (hN:X.N[i]? =some x:=by rfl) (hv:qV X.env.scope x:=by first|exact Or.inl rfl|exact Or.inr (Or.inl rfl)|exact Or.inr (Or.inr rfl))
  (hd:BBT x:=by decide) (hcd:BBU x:=by decide)
  (hs:swapsWith value (some (.Subscript (.Name x px) k pos')) pos.line X.env=pure false:=by rfl)
  (hs1:swapsWithSole [.Subscript (.Name x px) k pos'] value pos.line X.env=pure false:=by rfl) (hs2:swappedStores [.Subscript (.Name x px) k pos'] value X.env=pure none:=by rfl)
  (Nl:(assignEach [.Subscript (.Name x px) k pos'] X.env).map (·.2)=[assign (.Subscript (.Name x px) k pos') X.env]:=by rfl)
  (Mr:∀v,assign (.Subscript (.Name x px) k pos') X.env v=(do
   let ov <-holding [v] (eval (.Name x px) X.env)
   let iv <-holding [v,ov] (eval k X.env)
   standAt pos'
   holding [v,ov,iv] (setItem ov iv v)
   release [v,ov,iv] []):=by intro _;rfl):
  JS X (.Assign [.Subscript (.Name x px) k pos'] value pos) (zA i gk gv):=⟨fun B=>PS.orelse fun D σ H hh=>by
 obtain⟨S,F,o,R,hg,q⟩:=hh;obtain⟨⟨d,S1⟩,h1,hg⟩:=ah hg;dsimp only at hg;split at hg
 ·rename_i u0 Es;obtain⟨⟨kd,S2⟩,h2,hg⟩:=ah hg;obtain⟨⟨nd,S3⟩,h3,hg⟩:=aB hg;subst hg;obtain⟨u,u',mo,mo',hS,Hw,hio,hf,IP,rfl⟩:=mW h3;obtain⟨Uj,hw,hf2⟩:=aB hf;cases hf2;have hv0:∀F1 H1,Rel X.K B S1 σ F1 H1->∃v,σ[i]? =some (some v):=fun F1 H1 R1=>let⟨v,k1,_⟩:=R1.rep i u0 Es;⟨v,k1⟩
  cases mo with
  |dct kvs=>
   obtain⟨kk,e1,hw⟩:=ah hw;obtain⟨hl,rfl⟩:=cz hw;refine⟨_,AV hu (cI hN hv hd hcd) (hk.h B) (hval.h B) hs,S,F,d,S1,R,h1,fun v F1 H1 R1 st1 r1=>?_⟩;obtain⟨v0,hv0⟩:=hv0 F1 H1 R1;refine⟨v0,hv0,S1,F1,kd,S2,R1,h2,fun y F2 H2 R2 st2 r2=>?_⟩;obtain⟨v',k1,k2⟩:=R2.rep i u hS;rw[hv0] at k1;cases k1;obtain⟨a,o2,rfl,fa,eo,k3⟩:=k2.cQ Hw;rw[hio] at eo;cases eo;obtain⟨ws,ha,pr⟩:=k3;refine⟨a,_,rfl,AR.ky ha (ni r2 e1) (by rw[cO pr];exact aaE hl (by decide)),?_⟩;obtain⟨R3,st3⟩:=R2.write (ho:=.dK (putK ws kk v)) hS IP hv0 ⟨_,aU,tN pr (r1.le st2.ext.le)⟩;exact q σ F2 _ R3 fun b o z=>st2.ext.le b o (st1.ext.le b o z)
  |ins C kvs=>cases hw
  |lat _ _=>cases hw
  |lK _ _=>cases hw
  |DO _ _=>cases hw
  |zW kvs=>
   obtain⟨kk,e1,hw⟩:=ah hw;obtain⟨hl,rfl⟩:=cz hw;refine⟨_,AV hu (cI hN hv hd hcd) (hk.h B) (hval.h B) hs,S,F,d,S1,R,h1,fun v F1 H1 R1 st1 r1=>?_⟩;obtain⟨v0,hv0⟩:=hv0 F1 H1 R1;refine⟨v0,hv0,S1,F1,kd,S2,R1,h2,fun y F2 H2 R2 st2 r2=>?_⟩;obtain⟨v',k1,k2⟩:=R2.rep i u hS;rw[hv0] at k1;cases k1;obtain⟨a,o2,rfl,fa,eo,k3⟩:=k2.cQ Hw;rw[hio] at eo;cases eo;obtain⟨ws,ha,pr⟩:=k3;obtain⟨b',rfl,hb'⟩:=lg R2.sub r2 e1;refine⟨a,_,rfl,AR.t ha hb' (by rw[cO pr];exact aaE hl (by decide)),?_⟩;obtain⟨R3,st3⟩:=R2.write (ho:=.dT (putK ws kk v)) hS IP hv0 ⟨_,aU,tN pr (r1.le st2.ext.le)⟩;exact q σ F2 _ R3 fun b o z=>st2.ext.le b o (st1.ext.le b o z)
  |lst ds=>
   unfold rR at hw;dsimp only at hw;split at hw
   ·rename_i ii;obtain⟨j,e1,rfl⟩:=aB hw;refine⟨_,DU (hval.h B) (Jk (cI hN hv hd hcd) (hk.h B) set_list Mr) hs1 hs2 Nl,S,F,d,S1,R,h1,fun v F1 H1 R1 st1 r1=>?_⟩;obtain⟨v0,hv0⟩:=hv0 F1 H1 R1;refine⟨v0,hv0,S1,F1,_,S2,R1,h2,fun y F2 H2 R2 st2 r2=>?_⟩;obtain⟨v',k1,k2⟩:=R2.rep i u hS;rw[hv0] at k1;cases k1;obtain⟨a,o2,rfl,fa,eo,k3⟩:=k2.cQ Hw;rw[hio] at eo;cases eo;obtain⟨vs,ha,rs⟩:=k3;rw[gG r2];refine⟨a,vs,_,j,rfl,rfl,ha,by rw[rs.length];exact e1,?_⟩;obtain⟨R3,st3⟩:=R2.write (ho:=.lst (vs.set j v)) hS IP hv0 ⟨_,aU,rs.set (r1.le st2.ext.le) j⟩;exact q σ F2 _ R3 fun b o z=>st2.ext.le b o (st1.ext.le b o z)
   ·cases hw
  |gap ds=>
   unfold rR at hw;dsimp only at hw;split at hw
   ·rename_i ii;obtain⟨j,e1,rfl⟩:=aB hw;refine⟨_,DU (hval.h B) (Jk (cI hN hv hd hcd) (hk.h B) set_list Mr) hs1 hs2 Nl,S,F,d,S1,R,h1,fun v F1 H1 R1 st1 r1=>?_⟩;obtain⟨v0,hv0⟩:=hv0 F1 H1 R1;refine⟨v0,hv0,S1,F1,_,S2,R1,h2,fun y F2 H2 R2 st2 r2=>?_⟩;obtain⟨v',k1,k2⟩:=R2.rep i u hS;rw[hv0] at k1;cases k1;obtain⟨a,o2,rfl,fa,eo,k3⟩:=k2.cQ Hw;rw[hio] at eo;cases eo;obtain⟨vs,ha,rs⟩:=k3;rw[gG r2];refine⟨a,vs,_,j,rfl,rfl,ha,by rw[cO rs];exact e1,?_⟩;obtain⟨R3,st3⟩:=R2.write (ho:=.lst (vs.set j v)) hS IP hv0 ⟨_,aU,xD (show A1 _ v (.inl d) from r1.le st2.ext.le) rs j⟩;exact q σ F2 _ R3 fun b o z=>st2.ext.le b o (st1.ext.le b o z)
   ·cases hw
 ·cases hg⟩
def Rel.aap {F:Hp}{a:Addr}{o':HO}(R:Rel K B S σ F H) (hn:¬cQ S σ a) (hf:F a=none) (hB:B.H a=none) (hh:H a=some o) (hz:∀ob u,o≠.jK ob u):Rel K B S σ F (upd H a o'):=by
 have Uh:∀b ob w,H b=some (.jK ob w)->upd H a o' b=some (.jK ob w):=fun b ob w z=>by
  rw[bh (fun e=>by rw[e,hh] at z;cases z;exact hz _ _ rfl)];exact z
 refine⟨fun b u z=>?_,R.len,fun j w z=>?_,R.Fl,R.own,R.bor,R.par,⟨R.ext.le,fun b u z n=>?_,R.ext.kN,fun b u z=>?_,fun b ob w z=>Uh b ob w (R.ext.jK b ob w z)⟩⟩
 ·have hb:b≠a:=fun e=>by rw[e,hf] at z;cases z
  rw[bh hb];exact R.sub b u z
 ·obtain⟨v,h1,h2⟩:=R.rep j w z;refine⟨v,h1,h2.le (fun _ _ z=>z) Uh fun c hm hc=>?_⟩;have hca:c≠a:=fun e=>hn ⟨j,w,z,hm,by rw[h1,hc,e]⟩;obtain⟨c',_,e,f,_⟩:=h2.cQ hm;rw[hc] at e;cases e;exact⟨fun o z=>by rw[bh hca];exact z,f⟩
 ·rw[bh (fun e=>by rw[e,hB] at z;cases z)];exact R.ext.keep b u z n
 ·by_cases hb:b=a
  ·exact⟨o',by rw[hb,aU]⟩
  ·rw[bh hb];exact R.ext.there b u z
noncomputable def lq:List (Str×GD)->SS->Option (List (Key×D)×SS)
 |[],S=>some ([],S)
 |(z,g)::r,S=>(g S).bind fun p=>(lq r p.2).map fun q=>((.inr z,p.1)::q.1,q.2)
def mh (kvs more:List (Key×D)):List (Key×D):=more.foldl (fun acc kv=>putD acc kv.1 kv.2) kvs
theorem xE {F:Hp}:∀{more:List (Key×V)}{Pw:List (Key×D)}{ws:List (Key×V)}{kvs:List (Key×D)},Paired (fK F) more Pw->Paired (fK F) ws kvs->Paired (fK F) (pH ws more) (mh kvs Pw)
 |_,_,_,_,.nil,h=>h
 |_,_,ws,kvs,@Paired.cons _ _ _ p q _ _ r rs,h=>by
  have e:=tN (k:=q.1) h r.2;show Paired (fK F) (pH (putK ws p.1 p.2) _) (mh (putD kvs q.1 q.2) _);rw[r.1];exact xE rs e
def xF (zB:List (Str×GD)):GE:=fun S=>(lq zB S).map fun p=>(.m (.dct (mh [] p.1)),p.2)
structure Yl (X:Cx) (pos:Pos) (keys:List (BBL)) (values:BBC) (zB:List (Str×GD)):Prop where
 h:∀B,Vz X pos keys values (zB.map fun p=>(tC (.str p.1),tD X.K B p.2))
def Ft:Yl X pos [] [] []:=⟨fun B=>MS⟩
def nq {z:Str}{j:Nat}{pk:Pos}{v:Expr}{ks:List (BBL)}{vs:BBC}(hv:JD X v g) (hr:Yl X pos ks vs zB):Yl X pos (some (.Constant (.str z) j pk)::ks) (v::vs) ((z,g)::zB):=⟨fun B=>JM Jf (hv.h B) (hr.h B)⟩
theorem CN {B:Base}{σ:St}:∀{zB:List (Str×GD)}{S0 S:SS}{F0 H0 F H:Hp}{kvs:List (Key×D)}{S':SS}{Q:List (V×V)->Hp->Prop},Rel X.K B S σ F H->Step S0 S σ F0 H0 F H->lq zB S=some (kvs,S')->
  (∀(ws:List (Key×V)) (F' H':Hp),Rel X.K B S' σ F' H'->Step S0 S' σ F0 H0 F' H'->Paired (fK F') ws kvs->Q (ws.map fun kv=>(kV kv.1,kv.2)) H')->wZ (zB.map fun p=>(tC (.str p.1),tD X.K B p.2)) σ H Q
 |[],S0,S,F0,H0,F,H,kvs,S',Q,R,st,h,q=>by cases h;exact q [] F H R st .nil
 |(z,g)::r,S0,S,F0,H0,F,H,kvs,S',Q,R,st,h,q=>by
  obtain⟨⟨d,S1⟩,h1,h⟩:=ah h;obtain⟨⟨adV,S2⟩,h2,h⟩:=aB h;cases h;show tC (.str z) σ H fun x H1=>tD X.K B g σ H1 fun y H2=>wZ _ σ H2 fun ps H3=>Q ((x,y)::ps) H3;refine⟨S,F,d,S1,R,h1,fun v F1 H1 R1 st1 r1=>?_⟩;refine CN (S0:=S1) (F0:=F1) (H0:=H1) R1 (Step.refl ..) h2 fun ws F2 H2 R2 st2 pr=>?_;exact q ((.inr z,v)::ws) F2 H2 R2 ((st.trans st1).trans st2) (.cons ⟨rfl,r1.le st2.ext.le⟩ pr)
def Fv {keys:List (BBL)}{values:BBC}(h:Yl X pos keys values zB) (hall:keys.all (·.isSome)=true:=by rfl) (hl:keys.length=values.length:=by rfl) (h0:keys≠[]:=by decide) (ZW:keys.length<=15:=by decide) (hk:zB.length<=15:=by decide):
  JE X (.Dict keys values pos) (xF zB):=⟨fun B=>(MT (h.h B) hall hl h0 ZW).imp fun σ H Q hh=>by
 obtain⟨S,F,u,S',R,hg,q⟩:=hh;obtain⟨⟨kvs,S1⟩,h1,hg⟩:=aB hg;cases hg;intro p hp;have n:=gg.obj (F:=F) hp (.dK []);have hn:¬cQ S σ p:=fun m=>by obtain⟨o,ho⟩:=R.has m;rw[hp] at ho;cases ho
 refine CN (S0:=S) (F0:=F) (H0:=upd H p (.dK [])) (R.new n (R.sub.same n.same)) (Step.refl ..) h1 fun ws F1 H1 R1 st1 pr=>?_;have hp1:H1 p=some (.dK []):=st1.ext.keep p _ aU hn;have hf1:F1 p=none:=st1.ext.kN p _ aU hn (R.sub.fresh hp);have hn1:¬cQ S1 σ p:=fun m=>hn (st1.mu p m);have hB:B.H p=none:=none_of R.ext.there hp;have len:ws.length<=15:=by
  rw[cO pr];have:∀{zB:List (Str×GD)}{S:SS}{kvs:List (Key×D)}{S':SS},lq zB S=some (kvs,S')->kvs.length=zB.length:=fun {zB}=>by
   induction zB with
   |nil=>intro S kvs S' h;cases h;rfl
   |cons p r ih=>
    intro S kvs S' h;obtain⟨⟨d,T1⟩,k1,h⟩:=ah (show(p.2 S).bind _=_ from h);obtain⟨⟨kv2,T2⟩,k2,h⟩:=aB h;cases h;show kv2.length+1=r.length+1;rw[ih k2]
  rw[this h1];exact hk
 refine⟨hp1,ws,rfl,len,?_⟩;have R2:=R1.aap (o':=.dK (pH [] ws)) hn1 hf1 hB hp1 (fun _ _ z=>by cases z);refine q (.ref p) F1 _ R2 ⟨⟨st1.ext.le,fun b o z m=>?_,fun b o z m f=>?_,fun b o z=>?_,fun b ob w z=>?_⟩,st1.mu,st1.slots⟩ ⟨p,rfl,hp,hf1,⟨_,aU,xE pr .nil⟩,hn1,hB⟩
 ·have hb:b≠p:=bZ z hp;rw[bh hb];exact st1.ext.keep b o (by rw[bh hb];exact z) m
 ·have hb:b≠p:=bZ z hp;exact st1.ext.kN b o (by rw[bh hb];exact z) m f
 ·have hb:b≠p:=bZ z hp;rw[bh hb];exact st1.ext.there b o (by rw[bh hb];exact z)
 ·have hb:b≠p:=bZ z hp;rw[bh hb];exact st1.ext.jK b ob w (by rw[bh hb];exact z)⟩
end
noncomputable def nu (g:Option GD) (S:SS):Option (BBM×SS):=match g with
 |none=>some (none,S)
 |some g=>(g S).bind fun p=>match p.1 with
  |.int i=>some (some i,p.2)
  |_=>none
inductive tPO (K:AAD) (B:Base) (g:Option GD) (σ:St) (H:Hp) (Q:BBM->Hp->Prop):Prop
 |mk (S:SS) (F:Hp) (o:BBM) (S':SS) (R:Rel K B S σ F H) (hg:nu g S=some (o,S')) (q:∀F' H',Rel K B S' σ F' H'->Step S S' σ F H F' H'->Q o H')
structure JO (X:Cx) (e:BBL) (g:Option GD):Prop where
 h:∀B,PO X e (tPO X.K B g)
def PO.imp {e:BBL}{t t':TO}(h:PO X e t) (k:∀σ H Q,t' σ H Q->t σ H Q):PO X e t':=fun pins s σ H Q I q=>h pins s σ H Q I (k σ H Q q)
def kB :JO X none none:=⟨fun B=>MW.imp fun σ H Q ⟨S,F,o,S',R,h,q⟩=>by cases h;exact q F H R (Step.refl ..)⟩
def kC {e:Expr}(h:JD X e g):JO X (some e) (some g):=⟨fun B=>(E7 (h.h B)).imp fun σ H Q hh=>by
 obtain⟨S,F,o,S',R,h,q⟩:=hh;obtain⟨⟨d,S1⟩,h1,h⟩:=ah (show(g S).bind _=_ from h);cases d<;>try (cases h)
 exact⟨S,F,_,_,R,h1,fun v F1 H1 R1 st1 r1=>⟨_,gG r1,q F1 H1 R1 st1⟩⟩⟩
def Nn (d:D) (lo hi:BBM):Option U:=match d with
 |.tup ds=>some (.t (.tup (cutD ds lo hi)))
 |.lst ds=>some (.m (.lst (cutD ds lo hi)))
 |.str z=>if z.length<=100000 then some (.t (.str (Txt.slice z lo hi))) else none
 |_=>none
def bM.cut {F:Hp}(rs:bM F vs ds) (lo hi:BBM):bM F (zo vs lo hi) (cutD ds lo hi):=by
 unfold zo cutD;rw[rs.length];exact(rs.drop _).take _
def aaq:V->BBM->BBM->Hp->VK->Prop:=fun x lo hi H Q=>∃F d u,Sub F H/\Rep F x d/\Nn d lo hi=some u/\∀v F' H',gg F H F' H'->Sub F' H'->zu H F' H' v u->Q v H'
def aar :VC X aaq:=by
 intro pins s σ H x v vl vu lo hi sl Q I rx hs pl pu ⟨F,d,u,sb,r,hf,q⟩;cases d with
 |tup ds=>
  cases hf;have r0:=r;obtain⟨a,xs,rfl,fa,ha,rs⟩:=sb.iV r;have hl:=rs.length;by_cases hw:HT.fZ xs.length 0 lo=0/\HT.fZ xs.length xs.length hi=xs.length
  ·cases rx;obtain⟨its,rv,ht,hz⟩:=I.tuple (.inl ha);have hlen:its.toArray.size=xs.length:=by rw[aak];exact rv.length.symm
   refine⟨"tuple",_,abT.lookup,ht.typeIs,?_⟩;refine HT.Hr ht hs pl pu (by rw[hlen];exact hw) ⟨.ref a,H,I,rfl,q _ F H (gg.refl ..) sb ?_⟩;have e:cutD ds lo hi=ds:=by
    unfold cutD;rw[<-hl,hw.1,hw.2,List.drop_zero,Nat.sub_zero,acU (by rw[hl];exact aam _)]
   show Rep F _ (.tup (cutD ds lo hi));rw[e];exact r0
  ·exact QW pins s σ H (.ref a) v vl vu lo hi sl Q I rx hs pl pu ⟨a,xs,rfl,.inl ha,hw,fun p hp=>q _ _ _ (gg.root sb hp _) (sb.xh hp) (.tup aU ((rs.cut lo hi).le (fT (sb.fresh hp))))⟩
 |lst ds=>
  cases hf;obtain⟨a,xs,rfl,fa,ha,rs⟩:=sb.iC r;exact Fc pins s σ H (.ref a) v vl vu lo hi sl Q I rx hs pl pu ⟨a,xs,rfl,.inl ha,fun p hp=>q _ F _ (gg.obj hp _) (sb.same (gg.obj (F:=F) hp _).same) ⟨p,rfl,hp,sb.fresh hp,_,aU,rs.cut lo hi⟩⟩
 |str z=>
  obtain⟨hl,rfl⟩:=cz hf;cases r;exact Q3 pins s σ H _ v vl vu lo hi sl Q I rx hs pl pu ⟨z,rfl,ki hl,fun _=>q _ F H (gg.refl ..) sb (.str _)⟩
 |cJ=>cases hf
 |bl b=>cases hf
 |int b=>cases hf
def IQ (g:GD) (lo hi:Option GD):GE:=fun S=>(g S).bind fun p=>(nu lo p.2).bind fun l=>(nu hi l.2).bind fun h=>(Nn p.1 l.1 h.1).map fun u=>(u,h.2)
section
variable {X:Cx}{a b c e:Expr}{lo hi:BBL}{pos p p2 px:Pos}{x y:Str}{g ga:GD}{gA:GA}{gl gh:Option GD}
def jM (he:JD X e g) (hl:JO X lo gl) (hh:JO X hi gh):JE X (.Subscript e (.Slice lo hi none p2) pos) (IQ g gl gh):=⟨fun B=>(Cu aar (he.h B) (hl.h B) (hh.h B)).imp fun σ H Q hh=>by
 obtain⟨S,F,u,S',R,hg,q⟩:=hh;obtain⟨⟨d,S1⟩,h1,hg⟩:=ah hg;obtain⟨⟨l,S2⟩,h2,hg⟩:=ah hg;obtain⟨⟨h,S3⟩,h3,hg⟩:=ah hg;obtain⟨u',h4,hg⟩:=aB hg;cases hg;exact⟨S,F,d,S1,R,h1,fun v F1 H1 R1 st1 r1=>⟨S1,F1,l,S2,R1,h2,fun F2 H2 R2 st2=>⟨S2,F2,h,_,R2,h3,fun F3 H3 R3 st3=>⟨F3,d,_,R3.sub,r1.le (fun b o z=>st3.ext.le b o (st2.ext.le b o z)),h4,fun v F4 H4 n s4 r4=>q v F4 H4 (R3.new n s4) (((st1.trans st2).trans st3).trans n.step) (r4.CB R3 ((st1.trans st2).trans st3))⟩⟩⟩⟩⟩
noncomputable def zC (ns:BBD) (lo hi:BBM):BBD:=(ns.drop (HT.fZ ns.length 0 lo)).take (HT.fZ ns.length ns.length hi-HT.fZ ns.length 0 lo)
def Np (i:Nat) (lo hi:Option GD):GE:=fun S=>match S[i]? with
 |some (some (.s ns))=>(nu lo S).bind fun l=>(nu hi l.2).map fun h=>(.m (.lst ((zC ns l.1 h.1).map D.int)),h.2)
 |_=>none
theorem Aa {F:Hp}:∀ns:BBD,bM F (ns.map V.int) (ns.map D.int)
 |[]=>.nil
 |n::ns=>.cons (.int n) (Aa ns)
def HC (ns:BBD) (lo hi:BBM):zo (ns.map V.int) lo hi=(zC ns lo hi).map V.int:=by
 unfold zo zC;rw[aah,adO,ae2]
def HD (hl:JO X lo gl) (hh:JO X hi gh) (hN:X.N[i]? =some x:=by rfl) (hv:qV X.env.scope x:=by first|exact Or.inl rfl|exact Or.inr (Or.inl rfl)|exact Or.inr (Or.inr rfl))
  (hd:BBT x:=by decide) (hcd:BBU x:=by decide):JE X (.Subscript (.Name x px) (.Slice lo hi none p2) pos) (Np i gl gh):=⟨fun B=>(Cu Fc (cI hN hv hd hcd) (hl.h B) (hh.h B)).imp fun σ H Q hh=>by
 obtain⟨S,F,u,S',R,hg,q⟩:=hh;unfold Np at hg;split at hg
 ·rename_i ns hS;obtain⟨⟨l,S1⟩,h1,hg⟩:=ah hg;obtain⟨⟨h,S2⟩,h2,hg⟩:=aB hg;cases hg;obtain⟨v0,hv0,a,rfl,sc⟩:=R.rep i _ hS;refine⟨_,hv0,S,F,l,S1,R,h1,fun F1 H1 R1 st1=>⟨S1,F1,h,_,R1,h2,fun F2 H2 R2 st2=>?_⟩⟩;have sc2:=(sc.le st1.ext.jK).le st2.ext.jK;refine⟨a,_,rfl,sc2.sq,fun p hp=>?_⟩;rw[HC];have n:=gg.obj (F:=F2) hp (.lst ((zC ns l h).map V.int));have st:=st1.trans st2;exact q _ F2 _ (R2.new n (R2.sub.same n.same)) (st.trans n.step) (zu.CB (u:=.m (.lst ((zC ns l h).map D.int))) R2 st ⟨p,rfl,hp,R2.sub.fresh hp,_,aU,Aa _⟩)
 ·cases hg⟩
def Nq (d:D):Prop:=(toPy d).showable=true/\(toPy d).depth<=20/\(toPy d).shown.length<=sizeLine
noncomputable instance (d:D):Decidable (Nq d):=by unfold Nq;infer_instance
def xG:List D->Option U
 |[d]=>if Nq d then some (.t (.str (toPy d).shown)) else none
 |_=>none
mutual
theorem Rep.uT {pins:AAG}{σ:St}{F H:Hp}{s:Shared}(I:Inv X pins σ H s) (sb:Sub F H):∀{v:V}{d:D}{u:Value},Rep F v d->RelV v u->∃as,Reads s.heap u (toPy d) as
 |_,_,_,.cJ,r=>by cases r;exact⟨[],.none⟩
 |_,_,_,.bl b,r=>by cases r;exact⟨[],.bool b⟩
 |_,_,_,.int i,r=>by obtain⟨t,rfl⟩:=r;exact⟨[],.int i t⟩
 |_,_,_,.str z,r=>by obtain⟨t,rfl⟩:=r;exact⟨[],.str z t⟩
 |_,_,_,.tup e rs,r=>by
  cases r;obtain⟨its,rv,p⟩:=sb.isTup I e;obtain⟨as,h⟩:=bM.uT I sb rs rv;obtain⟨o,ho,hc,n,hd⟩:=p;exact⟨as,.tuple ho hc hd (by simpa using h)⟩
 |_,_,_,.lst e rs,r=>by
  cases r;obtain⟨its,rv,p⟩:=sb.eU I e;obtain⟨as,h⟩:=bM.uT I sb rs rv;obtain⟨o,ho,hc,n,hd⟩:=p;exact⟨_::as,.list ho hc hd (by simpa using h)⟩
theorem bM.uT {pins:AAG}{σ:St}{F H:Hp}{s:Shared}(I:Inv X pins σ H s) (sb:Sub F H):∀{vs:List V}{ds:List D}{us:AAL},bM F vs ds->Vals vs us->∃as,ReadsAll s.heap us (g6 ds) as
 |_,_,_,.nil,r=>by cases r;exact⟨[],.nil⟩
 |_,_,_,.cons q qs,r=>by
  cases r with
  |cons r rs=>
   obtain⟨as,h⟩:=Rep.uT I sb q r;obtain⟨bs,k⟩:=bM.uT I sb qs rs;exact⟨as++bs,.cons h k⟩
end
def xH (hg:X.A.guards=some []) (hu:X.A.units+64<cLine):gT X (.builtin "repr") (rP xG):=by
 intro pins s σ H xs us Q I r ⟨F,ds,w,sb,rs,hw,q⟩;obtain⟨x,d,rfl,rfl,r1⟩:=tM (P:=fun _=>True) rs hw rfl (fun d _ _=>rfl);obtain⟨hok,rfl⟩:=cz (show(if Nq d then some (U.t (.str (toPy d).shown)) else none)=some w from hw);have fin:=q (.str (toPy d).shown) F H (gg.refl ..) sb (.str _);obtain⟨u,rfl,ru⟩:=vals1 r;obtain⟨h1,h2,h3⟩:=hok;have seq:∀a,x= .ref a->wpAny (model X.prog X.w) X.A (call (.builtin "repr") [u]) (EP X pins σ Q) X.xe s:=fun a e1=>by
  subst e1;cases ru;obtain⟨as,hr⟩:=Rep.uT I sb r1 (u:=.ref a) rfl;exact repr_of_reads' hr h1 (fun z=>by rw[vL] at z;cases z) hg (by lia) (fun _ _ e=>e) (fun h' u tk hk=>⟨.str _,H,I.kept (t':=tk) hk,⟨u,rfl⟩,fin⟩) h3
 cases r1 with
 |cJ=>cases ru;exact PySem.P.repr_of_none ⟨.str _,H,I.tok _,⟨_,rfl⟩,fin⟩
 |bl b=>cases ru;exact PySem.P.repr_of_bool ⟨.str _,H,I.tok _,⟨_,rfl⟩,fin⟩
 |int i=>obtain⟨t,rfl⟩:=ru;exact PySem.P.repr_of_int (by simpa[toPy,PyData.showable] using h1) ⟨.str _,H,I.tok _,⟨_,rfl⟩,fin⟩
 |str z=>obtain⟨t,rfl⟩:=ru;exact PySem.P.repr_of_str ⟨.str _,H,I.tok _,⟨_,rfl⟩,fin⟩ h3
 |tup e rs=>exact seq _ rfl
 |lst e rs=>exact seq _ rfl
def Nr {i:Int}{t:Tok}(hg:Gl X x) (hm:X.mg x=some (.int i t)) (hd:BBT x:=by decide):JD X (.Name x pos) (eC (.int i)):=M8 rfl (MC (v:=.int i) hg hm ⟨t,rfl⟩ hd)
end
def Ku {y:Str}{c:Addr}(clos:closureFor scope X.env=pure [(y,c)]) (kQ:∀z∈scope.names,z.2≠.cell) (kind:scope.kind= .function) (names:∀z∈scope.names,z.2= .local->scope.names.lookup z.1=some .local)
  (loc:scope.names.lookup x=some .local) (hc:X.env.cells.lookup y=some c) (only:∀z∈scope.names,z.2= .free->z.1=y) (ne:x≠y) (hN:X.N[i]? =some y) (vis:X.env.scope.names.lookup y=some .cell) (rel:(relabel scope X.env).names.lookup y=some .cell):
  eO X x [y] [i] scope [(y,c)]:=by
 have look:∀n c',([(y,c)]:List (Str×Addr)).lookup n=some c'->n=y/\c'=c:=fun n c' h=>by
  rw[ade] at h;cases e:n == y with
  |true=>rw[e] at h;cases h;exact⟨eq_of_beq e,rfl⟩
  |false=>rw[e] at h;cases h
 have self:([(y,c)]:List (Str×Addr)).lookup y=some c:=by rw[ade,afo]
 refine⟨clos,kQ,kind,names,loc,fun n c' h=>?_,fun n h=>?_,?_,rfl,fun j n h=>?_,fun n h=>?_⟩
 ·obtain⟨rfl,rfl⟩:=look n c' h;exact hc
 ·have key:n=y:=by
   have go:∀k,(k=NameKind.cell\/k=NameKind.free)->(relabel scope X.env).names.lookup n=some k->n=y:=fun k hk e=>by
    have m:=acp e;unfold relabel at m;obtain⟨⟨n',k'⟩,hm,q⟩:=abt.mp m;by_cases hf:k'= .free
    ·have h0:n'=y:=only _ hm hf;have e1:n'=n:=by
      have h1:=congrArg Prod.fst q;dsimp only at h1;split at h1<;>exact h1
     exact e1.symm.trans h0
    ·have z:(k' == NameKind.free)=false:=by simpa using hf
     simp only[z,ad1] at q;have q2:k'=k:=by
      have:=congrArg Prod.snd q
      simpa using this
     rcases hk with rfl|rfl
     ·exact absurd q2 (kQ _ hm)
     ·exact absurd q2 hf
   rcases h with h|h
   ·exact go _ (.inl rfl) h
   ·exact go _ (.inr rfl) h
  subst key;exact⟨c,self⟩
 ·simp[ne]
 ·cases j with
  |zero=>cases h;exact⟨i,rfl,hN,.inr (.inl vis)⟩
  |succ j=>simp at h
 ·have e:n=y:=by simpa using h
  subst e;exact⟨.inl rel,⟨c,self⟩,by rw[vis];decide⟩
section
variable {a e:Expr}{k:Nat}
def gI (a:List D) (o:MO) (h:eU o=false):hAppend a o=none:=by
 cases o with
 |lst ds=>cases h
 |dct k=>unfold hAppend;split<;>first|rfl|(rename_i e;cases e)
 |zW k=>unfold hAppend;split<;>first|rfl|(rename_i e;cases e)
 |ins C k=>unfold hAppend;split<;>first|rfl|(rename_i e;cases e)
 |gap _=>unfold hAppend;split<;>first|rfl|(rename_i e;cases e)
 |lat _ _=>unfold hAppend;split<;>first|rfl|(rename_i e;cases e)
 |lK _ _=>unfold hAppend;split<;>first|rfl|(rename_i e;cases e)
 |DO _ _=>unfold hAppend;split<;>first|rfl|(rename_i e;cases e)
end
noncomputable def q9:List D->Option (BBD)
 |[]=>some []
 |.int b::ds=>(q9 ds).map fun bs=>b::bs
 |_=>none
theorem rS {F:Hp}:∀{vs:List V}{ds:List D}{bs:BBD},bM F vs ds->q9 ds=some bs->vs=bs.map V.int
 |_,_,_,.nil,h=>by cases h;rfl
 |_,_,_,@bM.cons _ v d vs ds r rs,h=>by
  cases d<;>try (cases h;done)
  obtain⟨bs,h1,h2⟩:=aB (show(q9 ds).map _=_ from h);subst h2;rw[gG r,rS rs h1];rfl
section

noncomputable def fM (led:Bool):Obj:={cls:=.type "set",dict:=none,data:=.set #[] 0 (.fresh 0 0 led)}
end
noncomputable def rq:U->Option (List D)
 |.t (.lst ds)=>some ds
 |.m (.lst ds)=>some ds
 |.b (.lst ds)=>some ds
 |_=>none
def rT (n:Bool) (i:Nat) (g:GD):GD:=fun S=>(g S).bind fun p=>match p.2[i]? with
 |some (some u)=>(rq u).bind fun ds=>if bF ds<=40 then some (.bl (n != inD p.1 ds),p.2) else none
 |_=>none
section
variable {X:Cx}{a:Expr}{x:Str}{px pos:Pos}{ga:GD}
abbrev Nt (X:Cx) (n:Bool):V->V->Hp->VK->Prop:=fun x y H Q=>∃F d ds p vs,y= .ref p/\Sub F H/\Rep F x d/\mQ X.K H p vs/\bM F vs ds/\bF ds<=40/\Q (.bl (n != inD d ds)) H
def Kv (hu:X.A.units+64<cLine):uF X (compareOp .In) (Nt X false):=by
 rintro pins s σ H x y v u Q I rx ry ⟨F,d,ds,p,vs,rfl,sb,r1,hp,rs,hd,q⟩;cases ry;obtain⟨its,rv,pl,hz⟩:=I.list hp;obtain⟨h1,h2⟩:=kY I sb (A:=X.A.in1) r1 rx rs rv (by show X.A.units+1+bF ds<cLine;lia);refine SeqAt.in_listAt (yY F d) pl.isList (fun y hy=>h1 y (by simpa using hy)) ⟨.bl _,H,I,rfl,?_⟩;rw[show its.toArray.any (yY F d)=its.any (yY F d) by simp,h2]
 simpa using q
def HE (hu:X.A.units+64<cLine):uF X (compareOp .NotIn) (Nt X true):=by
 rintro pins s σ H x y v u Q I rx ry ⟨F,d,ds,p,vs,rfl,sb,r1,hp,rs,hd,q⟩;cases ry;obtain⟨its,rv,pl,hz⟩:=I.list hp;obtain⟨h1,h2⟩:=kY I sb (A:=X.A.in1) r1 rx rs rv (by show X.A.units+1+bF ds<cLine;lia);refine SeqAt.notIn_listAt (yY F d) pl.isList (fun y hy=>h1 y (by simpa using hy)) ⟨.bl _,H,I,rfl,?_⟩;rw[show its.toArray.any (yY F d)=its.any (yY F d) by simp,h2]
 simpa using q
def Be {n:Bool}{Q:VK}(h:tD X.K B (rT n i ga) σ H Q):Pb (Nt X n) (tD X.K B ga) (AI i) σ H Q:=by
 obtain⟨S,F,d,S',R,hg,q⟩:=h;obtain⟨⟨d1,S1⟩,h1,hg⟩:=ah hg;dsimp only at hg;split at hg
 ·rename_i u hS;obtain⟨ds,h2,hg⟩:=ah hg;obtain⟨hd,hg⟩:=cz hg;cases hg;refine⟨S,F,d1,_,R,h1,fun v F1 H1 R1 st1 r1=>?_⟩;obtain⟨v0,hv0,r0⟩:=R1.rep i u hS;have fin:=q (.bl _) F1 H1 R1 st1 (.bl _);have go:∀a vs,v0= .ref a->mQ X.K H1 a vs->bM F1 vs ds->AI i σ H1 fun y H2=>Nt X n v y H2 Q:=fun a vs e ha rs=>⟨v0,hv0,F1,d1,ds,a,vs,e,R1.sub,r1,ha,rs,hd,fin⟩
  unfold rq at h2;split at h2
  ·cases h2;obtain⟨a,vs,e1,fa,ha,rs⟩:=R1.sub.iC r0;exact go a vs e1 (.inl ha) rs
  ·cases h2;obtain⟨a,e1,fa,vs,ha,rs⟩:=r0;exact go a vs e1 (mQ.of ha) rs
  ·cases h2;obtain⟨a,e1,fa,vs,ha,rs⟩:=r0;exact go a vs e1 (mQ.of ha) rs
  ·cases h2
 ·cases hg
def Ro (hu:X.A.units+64<cLine) (ha:JD X a ga) (hN:X.N[i]? =some x:=by rfl) (hv:qV X.env.scope x:=by first|exact Or.inl rfl|exact Or.inr (Or.inl rfl)|exact Or.inr (Or.inr rfl)) (hd:BBT x:=by decide) (hcd:BBU x:=by decide)
  (hm:behindInMarks .In (.Name x px)=false:=by with_unfolding_all rfl):JD X (.Compare a [.In] [.Name x px] pos) (rT false i ga):=⟨fun B=>(E1 (Kv hu) (ha.h B) (cI hN hv hd hcd) hm).imp fun σ H Q h=>Be h⟩
def Rp (hu:X.A.units+64<cLine) (ha:JD X a ga) (hN:X.N[i]? =some x:=by rfl) (hv:qV X.env.scope x:=by first|exact Or.inl rfl|exact Or.inr (Or.inl rfl)|exact Or.inr (Or.inr rfl)) (hd:BBT x:=by decide) (hcd:BBU x:=by decide)
  (hm:behindInMarks .In (.Name x px)=false:=by with_unfolding_all rfl):JT X (.Compare a [.In] [.Name x px] pos) (qB (rT false i ga)):=⟨fun B=>(wG (Kv hu) (ha.h B) (cI hN hv hd hcd) hm).imp fun σ H Q ⟨S,F,k,S',R,hg,q⟩=>Be ⟨S,F,.bl k,S',R,kj hg,fun v F' H' R' st r=>⟨k,l8 r,q F' H' R' st⟩⟩⟩
def HF (hu:X.A.units+64<cLine) (ha:JD X a ga) (hN:X.N[i]? =some x:=by rfl) (hv:qV X.env.scope x:=by first|exact Or.inl rfl|exact Or.inr (Or.inl rfl)|exact Or.inr (Or.inr rfl)) (hd:BBT x:=by decide) (hcd:BBU x:=by decide)
  (hm:behindInMarks .NotIn (.Name x px)=false:=by with_unfolding_all rfl):JT X (.Compare a [.NotIn] [.Name x px] pos) (qB (rT true i ga)):=⟨fun B=>(wG (HE hu) (ha.h B) (cI hN hv hd hcd) hm).imp fun σ H Q ⟨S,F,k,S',R,hg,q⟩=>Be ⟨S,F,.bl k,S',R,kj hg,fun v F' H' R' st r=>⟨k,l8 r,q F' H' R' st⟩⟩⟩
end
noncomputable def look:U->Option D
 |.t d=>some d
 |.m (.lst ds)=>some (.lst ds)
 |.b (.lst ds)=>some (.lst ds)
 |_=>none
def Nu {F:Hp}{d:D}(R:Rel K B S σ F H) (h:S[i]? =some (some u)) (hl:look u=some d):∃v F1,σ[i]? =some (some v)/\Sub F1 H/\Rep F1 v d:=by
 obtain⟨v,hv,r⟩:=R.rep i u h;unfold look at hl;split at hl
 ·cases hl;exact⟨v,F,hv,R.sub,r⟩
 ·cases hl;obtain⟨a,rfl,fa,vs,ha,rs⟩:=r;exact⟨_,upd F a (.lst vs),hv,R.sub.jK ha,.lst (.inl aU) (rs.le (fT fa))⟩
 ·cases hl;obtain⟨a,rfl,fa,vs,ha,rs⟩:=r;exact⟨_,upd F a (.lst vs),hv,R.sub.jK ha,.lst (.inl aU) (rs.le (fT fa))⟩
 ·cases hl
def nv (f:List D->Option U) (i:Nat):GD:=fun S=>match S[i]? with
 |some (some u)=>(look u).bind fun d=>match f [d] with
  |some (.t e)=>if iW e=true then some (e,S) else none
  |_=>none
 |_=>none
def xJ {F:Hp}{v:V}{e:D}(h:iW e=true) (r:Rep F v e):Rep F' v e:=by
 cases r with
 |cJ=>exact .cJ
 |bl b=>exact .bl b
 |int b=>exact .int b
 |str b=>exact .str b
 |tup _ _=>cases h
 |lst _ _=>cases h
section
variable {X:Cx}{x y:Str}{p px pos:Pos}{f:List D->Option U}
def nA {id:String}(hc:gT X (.builtin id) (rP f)) (hg:Gl X y) (hm:X.mg y=none) (hb:bootBuiltins y=some (.builtin id)) (hn:y≠"__name__":=by decide) (hdb:BBT y:=by decide)
  (hN:X.N[i]? =some x:=by rfl) (hv:qV X.env.scope x:=by first|exact Or.inl rfl|exact Or.inr (Or.inl rfl)|exact Or.inr (Or.inr rfl))
  (hd:BBT x:=by decide) (hcd:BBU x:=by decide) (he:starEach [.Name x px] X.env=(false,eval (.Name x px) X.env)::starEach [] X.env:=by rfl) (hpl:(backTo pos (starEach [] X.env)).any (·.1)=false:=by rfl):
  JD X (.Call (.Name y p) [.Name x px] [] pos) (nv f i):=⟨fun B=>(jL hc hg hm hb (gF (cI hN hv hd hcd) kO he) hn hdb he hpl).imp fun σ H Q hh=>by
 obtain⟨S,F,e,S',R,hg',q⟩:=hh;unfold nv at hg';split at hg'
 ·rename_i u hS;obtain⟨d,h1,hg'⟩:=ah hg';split at hg'
  ·rename_i e' he';obtain⟨hfl,hg'⟩:=cz hg';cases hg';obtain⟨v,F1,k1,k2,k3⟩:=Nu R hS h1;refine⟨v,k1,F1,[d],_,k2,.cons k3 .nil,he',fun v' F' H' n s' r'=>?_⟩;have n':gg F H F H':=⟨fun _ _ z=>z,n.same,fun _ _ _ z=>z⟩
   exact q v' F H' (R.new n' (R.sub.same n.same)) n'.step (xJ hfl r')
  ·cases hg'
 ·cases hg'⟩
end
section
variable (S:SS)(i:Nat)(g:GD)
@[simp] theorem Ym (f:List D->Option U):nv f i S=match S[i]? with
 |some (some u)=>(look u).bind fun d=>match f [d] with
  |some (.t e)=>if iW e=true then some (e,S) else none
  |_=>none
 |_=>none:=rfl
@[simp] theorem aas (n:Bool):rT n i g S=(g S).bind fun p=>match p.2[i]? with|some (some u)=>(rq u).bind fun ds=>if bF ds<=40 then some (.bl (n != inD p.1 ds),p.2) else none|_=>none:=rfl
@[simp] theorem V9 (d:D):look (.t d)=some d:=rfl
@[simp] theorem Wa (ds:List D):look (.m (.lst ds))=some (.lst ds):=rfl
@[simp] theorem Wb (ds:List D):look (.b (.lst ds))=some (.lst ds):=rfl
@[simp] theorem Uk (ds:List D):rq (.t (.lst ds))=some ds:=rfl
@[simp] theorem Ul (ds:List D):rq (.m (.lst ds))=some ds:=rfl
@[simp] theorem Um (ds:List D):rq (.b (.lst ds))=some ds:=rfl
end
section
variable {X:Cx}{a b c e:Expr}{es:BBC}{p:Pos}{x:Str}
noncomputable def aat:List D->Option U
 |[.lst ds,.int k]=>if 0<=k/\k.toNat<=100000/\ds.length*k.toNat<=100000 then some (.m (.lst (List.replicate k.toNat ds).flatten)) else none
 |_=>none
def CO:V->List V->Hp->VK->Prop:=fun x vs H Q=>∃l b xs zs,x= .ref l/\vs=[.ref b]/\H l=some (.lst xs)/\Rd H b (.lst zs)/\xs.length+zs.length<=sizeLine/\Q .cJ (upd H l (.lst (xs++zs)))
def rW:Yd X "list.extend" CO:=by
 intro pins s σ H x vs v us Q I rx rv h;obtain⟨l,b,xs,zs,rfl,rfl,hH,hB,hz,q⟩:=h;cases rx;obtain⟨u,rfl,ru⟩:=rv.one;cases ru;obtain⟨z,its,n,r,hl,e⟩:=I.Ed hH;obtain⟨z2,its2,n2,r2,hl2,e2⟩:=hB.Ed I;have hsz:its.toArray.size+its2.toArray.size<=sizeLine:=by rw[aak,aak];lia
 have Wc:¬(!its.toArray.isEmpty && Builtin.List.listTooLong (its.toArray.size+its2.toArray.size))=true:=by
  rw[JX hsz,aeQ];exact aeU
 refine call_meets F.slot_list_extend ⟨_,e,rfl⟩ F.entry_list_extend (F.args_list_extend_2 _ _)
  (AutoSeq1.list_extend_list_list_0 l its.toArray n b its2.toArray n2 Wc (by rw[aak];lia) (by lia)) ⟨e,e2,?_⟩
 refine⟨.cJ,_,I.VI (its':=its++its2) hH e (by simp) (r.append r2) ?_,rfl,q⟩;rw[aan];lia
noncomputable def dR:List D->MO->Option (D×MO)
 |[.lst es],.lst ds=>if ds.length+es.length<=100000 then some (.cJ,.lst (ds++es)) else none
 |_,_=>none
def uU:Yj CO dR:=by
 intro F H a vs xs ds args res o' sb hH fa rs rx hw Q q;unfold dR at hw;split at hw
 ·rename_i es ds' e2;cases e2;obtain⟨hl,hw⟩:=cz hw;cases hw;cases rx with
  |cons r rr=>
   cases rr;obtain⟨b,zs,rfl,fb,hb,DP⟩:=sb.iC r;exact⟨a,b,vs,zs,rfl,rfl,hH,hb,by rw[rs.length,DP.length];exact abl hl (by decide),q .cJ _ .cJ ⟨_,aU,rs.append DP⟩⟩
 ·cases hw
def uV (a:List D) (o:MO) (h:eU o=false):dR a o=none:=by
 cases o with
 |lst ds=>cases h
 |dct k=>unfold dR;split<;>first|rfl|(rename_i e;cases e)
 |zW k=>unfold dR;split<;>first|rfl|(rename_i e;cases e)
 |ins C k=>unfold dR;split<;>first|rfl|(rename_i e;cases e)
 |gap _=>unfold dR;split<;>first|rfl|(rename_i e;cases e)
 |lat _ _=>unfold dR;split<;>first|rfl|(rename_i e;cases e)
 |lK _ _=>unfold dR;split<;>first|rfl|(rename_i e;cases e)
 |DO _ _=>unfold dR;split<;>first|rfl|(rename_i e;cases e)
def Ew (clos:closureFor scope X.env=pure cl) (kQ:∀z∈scope.names,z.2≠.cell) (kind:scope.kind= .function) (names:∀z∈scope.names,z.2= .local->scope.names.lookup z.1=some .local)
  (loc:scope.names.lookup x=some .local) (hc:cl.map (fun p=>X.env.cells.lookup p.1)=cl.map (fun p=>some p.2)) (only:∀z∈scope.names,z.2= .free->z.1∈bL) (hcl:cl.map (·.1)=bL.reverse\/cl.map (·.1)=bL) (nd:(x::bL).Nodup)
  (slot:cap.map (fun i=>X.N[i]?)=bL.map some) (vis:bL.map (fun n=>X.env.scope.names.lookup n)=bL.map fun _=>some .cell) (rel:bL.map (fun n=>(relabel scope X.env).names.lookup n)=bL.map fun _=>some .cell):
  eO X x bL cap scope cl:=by
 have all:∀{α β:Type}{f g:α->β}{l:List α},l.map f=l.map g->∀a∈l,f a=g a:=fun {α β f g l} h=>by
  induction l with
  |nil=>intro a m;cases m
  |cons b r ih=>
   intro a m;rw[abX,abX] at h;injection h with h1 h2
   rcases aav.mp m with z|z
   ·rw[z];exact h1
   ·exact ih h2 a z
 have We:∀n,n∈bL->∃c,cl.lookup n=some c:=fun n hn=>lookup_some (hcl.elim (fun z=>by rw[z];exact afp.mpr hn) fun z=>by rw[z];exact hn);have len:cap.length=bL.length:=by have:=congrArg List.length slot;simpa using this
 refine⟨clos,kQ,kind,names,loc,fun n c h=>all hc (n,c) (acp h),fun n h=>?_,nd,len,fun j n h=>?_,fun n h=>⟨.inl (all rel n h),We n h,by rw[all vis n h];decide⟩⟩
 ·refine We n ?_;have go:∀k,(k=NameKind.cell\/k=NameKind.free)->(relabel scope X.env).names.lookup n=some k->n∈bL:=fun k hk e=>by
   have m:=acp e;unfold relabel at m;obtain⟨⟨n',k'⟩,hm,q⟩:=abt.mp m;by_cases hf:k'= .free
   ·have h0:n'∈bL:=only _ hm hf;have e1:n'=n:=by
     have h1:=congrArg Prod.fst q;dsimp only at h1;split at h1<;>exact h1
    rw[<-e1];exact h0
   ·have z:(k' == NameKind.free)=false:=by simpa using hf
    simp only[z,ad1] at q;have q2:k'=k:=by
     have:=congrArg Prod.snd q
     simpa using this
    rcases hk with rfl|rfl
    ·exact absurd q2 (kQ _ hm)
    ·exact absurd q2 hf
  rcases h with h|h
  ·exact go _ (.inl rfl) h
  ·exact go _ (.inr rfl) h
 ·have e:=congrArg (fun l=>l[j]?) slot;simp only[abx,h,Option.map_some] at e;cases q:cap[j]? with
  |none=>rw[q] at e;cases e
  |some i=>
   rw[q] at e;exact⟨i,rfl,abJ e,.inr (.inl (all vis n (abK h)))⟩
end
open AutoSeq1 (wpAny_loadPart')
def Nv (k:Bool) (h:Heap) (a:Addr) (its:AAK):Prop:=match k with
 |true=>h.IsList a its
 |false=>h.IsTuple a its
def Yn (k:Bool) (h:Heap) (it a:Addr) (i:Nat):Prop:=match k with
 |true=>h.IsListIter it a i
 |false=>h.IsTupleIter it a i
noncomputable def itN:Bool->String
 |true=>"list_iterator"
 |false=>"tuple_iterator"
def itO (k:Bool) (a:Addr):Obj:={cls:=.type (itN k),data:=.fields #[.ref a,.int 0 0]}
def Nv.at {h h':Heap}(x:Nv k h a its) (g:∀o,h.get? a=some o->h'.get? a=some o):Nv k h' a its:=by
 cases k<;>exact let⟨o,ho,r⟩:=x;⟨o,g o ho,r⟩
def Yn.new (k:Bool) (h:Heap) (a:Addr):Yn k (h.push (itO k a)) h.objs.size a 0:=by
 cases k<;>exact⟨_,aaF _ rfl,rfl,rfl⟩
section
variable {prog:Program}{w:World}{A:Around}{E:AAE}{s:Shared}
def Wf (h:Nv k s.heap a its) (q:Q (.ref s.heap.objs.size) {s with heap:=s.heap.push (itO k a)}):wpAny (model prog w) A (pyIter (.ref a)) Q E s:=by
 cases k with
 |true=>exact ad6 h q
 |false=>exact wpAny_pyIter_tuple h q
end
abbrev TupAt (h:Heap) (T:Addr) (vals:AAK):Prop:=h.get? T=some {cls:=.type "tuple",data:=.seq vals}
section
variable {X:Cx}{b e:Expr}
def WalkN (J:It) (F:Hp) (ds:List D):Prop:=∀F' H',(∀b o,F b=some o->F' b=some o)->Sub F' H'->∀i,(∀d,ds[i]? =some d->J.go i H'/\∀x H2,J.Qv i H' x H2->∃F2,gg F' H' F2 H2/\Sub F2 H2/\Rep F2 x d)/\(ds.length<=i->J.stop i H')
inductive Wg (K:AAD) (B:Base) (gi:GI) (σ:St) (H:Hp) (Q:It->Hp->Prop):Prop
 |mk (S:SS) (F:Hp) (ds:List D) (S':SS) (R:Rel K B S σ F H) (hg:gi S=some (ds,S')) (q:∀J F' H',Rel K B S' σ F' H'->Step S S' σ F H F' H'->WalkN J F' ds->Q J H')
structure JIN (X:Cx) (tg e:Expr) (gi:GI):Prop where
 h:∀B,PI X tg e (Wg X.K B gi)
end
def Ny {F:Hp}{d:D}(R:Rel K B S σ F H) (h:S[i]? =some (some u)) (hl:look u=some d):∃v F1,σ[i]? =some (some v)/\Sub F1 H/\Rep F1 v d/\∀b o,F b=some o->F1 b=some o:=by
 obtain⟨v,hv,r⟩:=R.rep i u h;unfold look at hl;split at hl
 ·cases hl;exact⟨v,F,hv,R.sub,r,fun _ _ z=>z⟩
 ·cases hl;obtain⟨a,rfl,fa,vs,ha,rs⟩:=r;exact⟨_,upd F a (.lst vs),hv,R.sub.jK ha,.lst (.inl aU) (rs.le (fT fa)),fT fa⟩
 ·cases hl;obtain⟨a,rfl,fa,vs,ha,rs⟩:=r;exact⟨_,upd F a (.lst vs),hv,R.sub.jK ha,.lst (.inl aU) (rs.le (fT fa)),fT fa⟩
 ·cases hl
def xK (f:List D->Option U) (i:Nat) (g:GD):GD:=fun S=>match S[i]? with
 |some (some _)=>(g S).bind fun p=>match p.2[i]? with
  |some (some u)=>(look u).bind fun d=>match f [d,p.1] with
   |some (.t e)=>if iW e=true then some (e,p.2) else none
   |_=>none
  |_=>none
 |_=>none
section
variable {X:Cx}{b:Expr}{x y:Str}{px pos:Pos}{f:List D->Option U}{gb:GD}
def Kw {Q:VK}(h:tD X.K B (xK f i gb) σ H Q):Pb (fun x y H Q=>rP f [x,y] H Q) (AI i) (tD X.K B gb) σ H Q:=by
 obtain⟨S,F,d,S',R,hg,q⟩:=h;unfold xK at hg;split at hg
 ·rename_i u0 Es;obtain⟨⟨d1,S1⟩,h1,hg⟩:=ah hg;dsimp only at hg;split at hg
  ·rename_i u hS;obtain⟨dx,h2,hg⟩:=ah hg;split at hg
   ·rename_i e' he';obtain⟨hfl,hg⟩:=cz hg;cases hg;obtain⟨v0,hv0,_⟩:=R.rep i u0 Es;refine⟨v0,hv0,S,F,d1,_,R,h1,fun v F1 H1 R1 st1 r1=>?_⟩;obtain⟨v1,F2,k1,k2,k3,k4⟩:=Ny R1 hS h2;rw[hv0] at k1;cases k1;refine⟨F2,[dx,d1],_,k2,.cons k3 (.cons (r1.le k4) .nil),he',fun v' F' H' n s' r'=>?_⟩;have n':gg F1 H1 F1 H':=⟨fun _ _ z=>z,n.same,fun _ _ _ z=>z⟩
    exact q v' F1 H' (R1.new n' (R1.sub.same n.same)) (st1.trans n'.step) (xJ hfl r')
   ·cases hg
  ·cases hg
 ·cases hg
def Nz (ho:xj X (compareOp op) f) (hb:JD X b gb) (hN:X.N[i]? =some x:=by rfl) (hv:qV X.env.scope x:=by first|exact Or.inl rfl|exact Or.inr (Or.inl rfl)|exact Or.inr (Or.inr rfl)) (hd:BBT x:=by decide) (hcd:BBU x:=by decide)
  (hm:behindInMarks op b=false:=by first|exact DY _|rfl):JT X (.Compare (.Name x px) [op] [b] pos) (qB (xK f i gb)):=⟨fun B=>(wG ho (cI hN hv hd hcd) (hb.h B) hm).imp fun σ H Q ⟨S,F,k,S',R,hg,q⟩=>Kw ⟨S,F,.bl k,S',R,kj hg,fun v F' H' R' st r=>⟨k,l8 r,q F' H' R' st⟩⟩⟩
end
noncomputable def Fw:GE:=fun S=>some (.m (.dct []),S)
section
variable {X:Cx}{e k:Expr}{p pos:Pos}
def NB:JE X (.Dict [] [] pos) Fw:=⟨fun B=>JK.imp fun σ H Q hh=>by
 obtain⟨S,F,u,S',R,hg,q⟩:=hh;cases hg;intro p hp;have n:=gg.obj (F:=F) hp (.dK []);have hn:¬cQ S σ p:=fun m=>by obtain⟨o,ho⟩:=R.has m;rw[hp] at ho;cases ho
 exact q (.ref p) F _ (R.new n (R.sub.same n.same)) n.step ⟨p,rfl,hp,R.sub.fresh hp,⟨[],aU,.nil⟩,hn,none_of R.ext.there hp⟩⟩
def Ky  [DecidableEq κ] {F:Hp}{ws:List (κ×V)}{kvs:List (κ×D)}(pr:Paired (fK F) ws kvs) (k:κ):(qW ws k).isSome=(bT kvs k).isSome:=by
 cases e:bT kvs k with
 |none=>rw[uS pr e];rfl
 |some d=>obtain⟨v,h,_⟩:=jd pr e;rw[h];rfl
end
noncomputable def CP (kvs:AAJ) (z:Str):BBM:=(kvs.find? fun p=>decide (p.1=z)).map (·.2)
theorem HG {F:Hp}:∀zs:BBB,bM F (zs.map V.str) (zs.map D.str)
 |[]=>.nil
 |z::zs=>.cons (.str z) (HG zs)
theorem xM:∀zs:BBB,bF (zs.map D.str)=0
 |[]=>rfl
 |z::zs=>by show max (bV (.str z)) (bF (zs.map D.str))=0;rw[xM zs];rfl
def HH:U->D->Option (Option D)
 |.m (.dct kvs),k=>(keyOf k).map (bT kvs)
 |.b (.dct kvs),k=>(keyOf k).map (bT kvs)
 |.m (.zW kvs),k=>(xC k).map (bT kvs)
 |.b (.zW kvs),k=>(xC k).map (bT kvs)
 |_,_=>none
noncomputable def rA:U->Bool
 |.m (.dct _)=>true
 |.b (.dct _)=>true
 |.m (.zW _)=>true
 |.b (.zW _)=>true
 |_=>false
def xN (i:Nat) (gk gd:GD):GD:=fun S=>match S[i]? with
 |some (some u)=>if rA u then(gk S).bind fun p=>(gd p.2).bind fun q=>match q.2[i]? with
  |some (some u2)=>(HH u2 p.1).map fun o=>(o.getD q.1,q.2)
  |_=>none
  else none
 |_=>none
def Wh (F:Hp):Option V->Option D->Prop
 |some v,some d=>Rep F v d
 |none,none=>True
 |_,_=>False
def tT  [DecidableEq κ] {F:Hp}{ws:List (κ×V)}{kvs:List (κ×D)}(pr:Paired (fK F) ws kvs) (k:κ):Wh F (qW ws k) (bT kvs k):=by
 cases e:bT kvs k with
 |none=>rw[uS pr e];exact True.intro
 |some d=>obtain⟨v,h,r⟩:=jd pr e;rw[h];exact r
def NC {F:Hp}{v w:V}{d:D}{h:Option D}(sb:Sub F H) (r:zq K F H v u) (rk:Rep F w d) (e:HH u d=some h):∃a o,v= .ref a/\lJ H a w o/\Wh F o h:=by
 unfold HH at e;split at e
 ·obtain⟨kk,e1,rfl⟩:=aB e;obtain⟨a,rfl,fa,ws,ha,pr⟩:=r;exact⟨a,_,rfl,lJ.ky ha (ni rk e1),tT pr kk⟩
 ·obtain⟨kk,e1,rfl⟩:=aB e;obtain⟨a,rfl,fa,ws,ha,pr⟩:=r;exact⟨a,_,rfl,lJ.ky ha (ni rk e1),tT pr kk⟩
 ·obtain⟨kk,e1,rfl⟩:=aB e;obtain⟨a,rfl,fa,ws,ha,pr⟩:=r;obtain⟨b,rfl,hb⟩:=lg sb rk e1;exact⟨a,_,rfl,lJ.t ha hb,tT pr kk⟩
 ·obtain⟨kk,e1,rfl⟩:=aB e;obtain⟨a,rfl,fa,ws,ha,pr⟩:=r;obtain⟨b,rfl,hb⟩:=lg sb rk e1;exact⟨a,_,rfl,lJ.t ha hb,tT pr kk⟩
 ·cases e
def Kz {F:Hp}{v:V}(r:zq K F H v u) (h:rA u=true):∃a,v= .ref a/\ZX H a:=by
 unfold rA at h;split at h
 ·obtain⟨a,rfl,fa,ws,ha,pr⟩:=r;exact⟨a,rfl,.inl ⟨ws,.inl ha⟩⟩
 ·obtain⟨a,rfl,fa,ws,ha,pr⟩:=r;exact⟨a,rfl,.inl ⟨ws,.inl ha⟩⟩
 ·obtain⟨a,rfl,fa,ws,ha,pr⟩:=r;exact⟨a,rfl,.inr ⟨ws,.inl ha⟩⟩
 ·obtain⟨a,rfl,fa,ws,ha,pr⟩:=r;exact⟨a,rfl,.inr ⟨ws,.inl ha⟩⟩
 ·cases h
section
variable {X:Cx}{e f:Expr}{x:Str}{px apos cpos:Pos}{gk gd:GD}{ge:GE}
def ND (hu:X.A.units+20 < cLine) (he:JD X e gk) (hf:JD X f gd) (hN:X.N[i]? =some x:=by rfl) (hv:qV X.env.scope x:=by first | exact Or.inl rfl | exact Or.inr (Or.inl rfl) | exact Or.inr (Or.inr rfl))
    (hb:attributeBase (.Name x px) "get" X.env (eval (.Name x px) X.env)=eval (.Name x px) X.env:=by rfl)
    (hfew:((backTo cpos (starEach [e,f] X.env)).all (fun x=>!x.1) && (backToKw cpos (keywordEach [] X.env)).all (fun x=>x.1.isSome) && decide (([e,f]:BBC).length+([]:BBI).length+(if([]:BBI).isEmpty then 0 else 1)<30))=true:=by rfl)
    (hline:(apos.endLine == cpos.line)=true:=by rfl) (htr:backTo cpos (starEach [e,f] X.env)=[(false,eval e X.env),(false,eval f X.env)]:=by rfl) (hd:BBT x:=by decide) (hcd:BBU x:=by decide):
    JD X (.Call (.Attribute (.Name x px) "get" apos) [e,f] [] cpos) (xN i gk gd):=
  ⟨fun B => (JN hu (cI hN hv hd hcd) (he.h B) (hf.h B) ⟨hb, hfew, hline, htr⟩).imp fun σ H Q hh => by
    obtain⟨S,F,d,S',R,hg,q⟩:=hh;unfold xN at hg;split at hg
    . rename_i u hS
      split at hg
      . rename_i hD
        obtain⟨⟨d1,S1⟩,h1,hg⟩:=ah hg;obtain⟨⟨d2,S2⟩,h2,hg⟩:=ah hg;dsimp only at hg;split at hg
        . rename_i u2 hS2
          obtain⟨o,h3,hg⟩:=aB hg;cases hg;obtain⟨v0,hv0,r0⟩:=R.rep i u hS;obtain⟨a,rfl,ha⟩:=Kz r0 hD;refine⟨.ref a,hv0,a,rfl,ha,S,F,d1,S1,R,h1,fun v1 F1 H1 R1 st1 r1=>⟨S1,F1,d2,_,R1,h2,fun v2 F2 H2 R2 st2 r2=>?_⟩⟩;obtain⟨v3,hv3,r3⟩:=R2.rep i u2 hS2;rw[hv0] at hv3;cases hv3;obtain⟨a',ov,e1,g1,rl⟩:=NC R2.sub r3 (r1.le st2.ext.le) h3;cases e1;refine⟨ov,g1,q _ F2 H2 R2 (st1.trans st2) ?_⟩;cases o with
          |none=>cases ov with
            |none=>exact r2
            |some _=>exact(show False from rl).elim
          |some d=>cases ov with
            |none=>exact(show False from rl).elim
            |some v=>exact rl
        . cases hg
      . cases hg
    . cases hg⟩
def Wi (i:Nat) (ge:GE):GD:=fun S=>match S[i]? with
 |some (some u)=>if rA u then(ge S).bind fun p=>match p.1 with
  |.m (.dct more)=>pA p.2 i fun o=>match o with
   |.dct kvs=>if kvs.length+more.length<=100000 then some (.cJ,.dct (mh kvs more)) else none
   |_=>none
  |_=>none
  else none
 |_=>none
end
end L2
end
section
namespace HT
open PySem PySem.Spec PyProof.Rows
section
variable {prog:Program}{w:World}{A:Around}{E:AAE}{s:Shared}
def uW {sl:Addr}{vs:Value}{n:Nat}{Q:Int×Int×Nat->Shared->Prop}(hs:s.heap.IsSliceOf sl .none .none vs) (ps:IsPart vs (some (-1)))
  (h:Q ((n:Int)-1,-1,n) s):wpAny (model prog w) A (Builtin.Slice.sliceApplied (.ref sl) (pure (n:Int))) Q E s:=by
 obtain⟨os,hos,hcs,hds⟩:=id hs;unfold Builtin.Slice.sliceApplied Builtin.Slice.sliceFields;refine aaa (aaa (aeb hos hds (x:=.none) rfl (aaa (aeb hos hds (x:=.none) rfl (aaa (aeb hos hds (x:=vs) rfl (wpAny_pure ?_)))))));refine aaa (rN ps ?_);show wpAny _ _ (if((-1:Int) == 0)=true then _ else _) _ _ s;rw[if_neg (by decide)];refine aaa (aeP (aaa (aeP (aaa (wpAny_pure ?_)))));show wpAny _ _ (match Builtin.Slice.sliceAdjust none none (-1) (n:Int) with|(lo,hi)=>pure (lo,(-1:Int),Builtin.Slice.slicePlaces lo hi (-1))) _ _ s;have e:Builtin.Slice.sliceAdjust none none (-1) (n:Int)=((n:Int)-1,-1):=rfl;rw[e];show wpAny _ _ (pure ((n:Int)-1,(-1:Int),Builtin.Slice.slicePlaces ((n:Int)-1) (-1) (-1))) _ _ s;have e2:Builtin.Slice.slicePlaces ((n:Int)-1) (-1) (-1)=n:=by
  unfold Builtin.Slice.slicePlaces;rw[if_neg (by decide)];split
  ·rw[show(- -1:Int)=1 from rfl,Int.ediv_one];lia
  ·lia
 rw[e2];exact wpAny_pure h
def KA (xs:AAK):((List.range xs.size).filterMap fun(m:Nat)=>xs[((xs.size:Int)-1+(m:Int) * -1).toNat]?).toArray=xs.toList.reverse.toArray:=by
 have h1:(List.range xs.size).filterMap (fun(m:Nat)=>xs[((xs.size:Int)-1+(m:Int) * -1).toNat]?)=((List.range xs.size).map fun k=>xs.size-1-k).filterMap (xs[·]?):=by
  rw[List.filterMap_map]
  congr 1
  funext m;show xs[((xs.size:Int)-1+(m:Int) * -1).toNat]? =xs[xs.size-1-m]?
  have:((xs.size:Int)-1+(m:Int) * -1).toNat=xs.size-1-m:=by lia
  rw[this]
 rw[h1,PySem.W.krv_range,List.filterMap_reverse,PySem.W.krv_all]
def tU {t sl:Addr}{items:AAK}{vs:Value}{Q:AAE}(ht:IsTup s.heap t items) (hs:s.heap.IsSliceOf sl .none .none vs) (ps:IsPart vs (some (-1)))
  (h:Q (.ref s.heap.objs.size) {s with heap:=s.heap.push {cls:=.type "tuple",data:=.seq items.toList.reverse.toArray}})
  (hsz:items.size<=sizeLine):wpAny (model prog w) A (getItem (.ref t) (.ref sl)) Q E s:=by
 have sY:sizeOk (.seq items.toList.reverse.toArray):=by
  show items.toList.reverse.toArray.size<=sizeLine;rw[aak,ada,abW];exact hsz
 obtain⟨os,hos,hcs,hds⟩:=id hs;have VB:s.TypeIs (.ref sl) "slice":=⟨os,hos,hcs⟩
 unfold getItem
 try with_reducible refine acm ?_
 first|refine aaa (wpAny_pure ?_)|skip
 refine aaa (afc ht.typeIs (by decide) ?_);refine aaa (acP (name:=Str.ofString "__getitem__") ht.typeIs abT
  (ac4 abT ht.typeIs entry_tuple_getitem ?_ (args_tuple_getitem _ _)))
 show wpAny _ _ (Builtin.Tuple.tupleItemsOf (.ref t) >>= _) _ _ s;refine aaa (tupleItemsOf_ ht ?_);refine aaa (adW VB ?_);rw[if_pos (by decide)];refine aaa (uW hs ps ?_);have hno:¬((((items.size:Int)-1) == 0 && (-1:Int) == 1 && items.size == items.size)=true):=by
  intro q;rw[abw,abw] at q;exact absurd q.1.2 (by decide)
 show wpAny _ _ (if(((items.size:Int)-1) == 0 && (-1:Int) == 1 && items.size == items.size)=true then _ else _) _ _ s;rw[if_neg hno,KA]
 first
  |exact aaa (m:=Builtin.Tuple.tupleExact _) (ab5 (wpAny_pure ⟨_,rfl,wpAny_pure h⟩) sY)
  |exact aaa (m:=Builtin.Tuple.tupleExact _) (ab5 (aaa (wpAny_pure (wpAny_pure ⟨_,rfl,wpAny_pure h⟩))) sY)
  |exact aaa (aaa (m:=Builtin.Tuple.tupleExact _) (ab5 (wpAny_pure (wpAny_pure ⟨_,rfl,wpAny_pure h⟩)) sY))
  |exact aaa (aaa (m:=Builtin.Tuple.tupleExact _) (ab5 (wpAny_pure ⟨_,rfl,wpAny_pure h⟩) sY))
end
end HT
namespace L2
open PySem PySem.Spec PyProof.Rows
section
variable {X:Cx}{e st:Expr}{te ts:TE}{pos p2:Pos}
def SlV (X:Cx) (r:V->Hp->VK->Prop):Prop:=
 ∀(pins:AAG) (s:Shared) (σ:St) (H:Hp) (x:V) (v vs:Value) (sl:Addr) (Q:VK),Inv X pins σ H s->RelV x v->s.heap.IsSliceOf sl .none .none vs->IsPart vs (some (-1))->r x H Q->
  ∃T id,typeLookup (.type T) "__getitem__" =pure (some (.builtin id))/\s.TypeIs v T/\wpAny (model X.prog X.w) X.A (getItem v (.ref sl)) (EP X pins σ Q) X.xe s
def aaw (r:V->Hp->VK->Prop) (te:TE) (ts:TO):TE:=fun σ H Q=>te σ H fun x H1=>ts σ H1 fun u H3=>u=some (-1)/\r x H3 Q
def HJ {r:V->Hp->VK->Prop}(hr:SlV X r) (he:PE X e te) (hs:PE X st ts):PE X (.Subscript e (.Slice none none (some st) p2) pos) (aaw r te (Ph ts)):=by
 intro pins s σ H Q I h;refine Subscript_ (fE (he pins s σ H _ I h) fun v s1 hh=>?_);obtain⟨x,H1,I1,r1,q1⟩:=hh;refine wpAny_Slice ?_;rw[evalPart_none];refine wpAny_pure ?_;refine wpAny_pure ?_;refine fE (E7 hs pins s1 σ H1 _ I1 q1) fun vu s3 hh=>?_;obtain⟨u,H3,I3,pu,q3⟩:=hh;obtain⟨rfl,q3⟩:=q3;have I4:Inv X pins σ H3 {s3 with heap:=s3.heap.push {cls:=.type "slice",data:=.fields #[.none,.none,vu]}}:=I3.kept (t':=s3.toks) fun b ob q=>aai _ q;obtain⟨T,id,hT,ht,hg⟩:=hr pins {s3 with heap:=s3.heap.push {cls:=.type "slice",data:=.fields #[.none,.none,vu]}} σ H3 x v vu s3.heap.objs.size Q I4 r1 (Heap.IsSliceOf.new ..) pu q3;show wpAny (model X.prog X.w) X.A (subscriptTail e (.Slice none none (some st) p2) v (.ref s3.heap.objs.size)) (EP X pins σ Q) X.xe {s3 with heap:=s3.heap.push {cls:=.type "slice",data:=.fields #[.none,.none,vu]}};exact tail_any (ops:=[v,.ref s3.heap.objs.size]) ht hT hg (by with_unfolding_all rfl)
noncomputable def xO (d:D):Option U:=match d with
 |.tup ds=>some (.t (.tup ds.reverse))
 |.lst ds=>some (.m (.lst ds.reverse))
 |_=>none
theorem bM.rev {F:Hp}:∀{vs:List V}{ds:List D},bM F vs ds->bM F vs.reverse ds.reverse
 |_,_,.nil=>.nil
 |_,_,.cons r rs=>by rw[ad8,ad8];exact(bM.rev rs).append (.cons r .nil)
def Vals.rev {xs:List V}{us:AAL}(r:Vals xs us):Vals xs.reverse us.reverse:=by
 induction r with
 |nil=>exact .nil
 |cons r _ ih=>rw[ad8,ad8];exact ih.append (.cons r .nil)
def Wj:V->Hp->VK->Prop:=fun x H Q=>∃F d u,Sub F H/\Rep F x d/\xO d=some u/\∀v F' H',gg F H F' H'->Sub F' H'->zu H F' H' v u->Q v H'
def Wk:SlV X Wj:=by
 intro pins s σ H x v vs sl Q I rx hs ps ⟨F,d,u,sb,r,hf,q⟩;cases d with
 |tup ds=>
  cases hf;obtain⟨a,xs,rfl,fa,ha,rs⟩:=sb.iV r;cases rx;obtain⟨its,rv,ht,hz⟩:=I.tuple (.inl ha);have hlen:its.toArray.size=xs.length:=by rw[aak];exact rv.length.symm
  refine⟨"tuple",_,abT.lookup,ht.typeIs,?_⟩;refine HT.tU ht hs ps ?_ (by rw[hlen];exact hz);refine⟨.ref s.heap.objs.size,_,I.laid (t':=s.toks) (o:=.tup xs.reverse) (fun b ob q=>aai _ q) (aam _) ?_,rfl,?_⟩
  ·exact⟨by rw[ada];exact hz,_,rv.rev,IsTup.new _ _⟩
  ·have hp:=I.hok.fresh (aam _);exact q _ _ _ (gg.root sb hp _) (sb.xh hp) (.tup aU (rs.rev.le (fT (sb.fresh hp))))
 |lst ds=>
  cases hf;obtain⟨a,xs,rfl,fa,ha,rs⟩:=sb.iC r;cases rx;obtain⟨its,rv,ht,hz⟩:=I.list (.inl ha);have hlen:=rv.length;refine⟨"list",_,afd.lookup,ht.isList.typeIs,?_⟩;refine wpAny_getItem_list_slice ht.isList hs .none .none ps (by simp) ?_ (by rw[aak]<;>lia);rw[PySem.W.krv_pick];have hp:=I.hok.fresh (aam _);refine⟨.ref s.heap.objs.size,_,I.laid (t':=s.toks) (o:=.lst xs.reverse) (fun b ob q=>aai _ q) (aam _) ?_,rfl,?_⟩
  ·exact⟨by rw[ada];exact hz,_,0,rv.rev,aaF _ rfl⟩
  ·exact q _ F _ (gg.obj hp _) (sb.same (gg.obj (F:=F) hp _).same) ⟨_,rfl,hp,sb.fresh hp,_,aU,rs.rev⟩
 |str z=>cases hf
 |cJ=>cases hf
 |bl b=>cases hf
 |int b=>cases hf
def KC (g gs:GD):GE:=fun S=>(g S).bind fun p=>(gs p.2).bind fun l=>match l.1 with
 |.int i=>if i=-1 then(xO p.1).map fun u=>(u,l.2) else none
 |_=>none
def KD {g gs:GD}(he:JD X e g) (hs:JD X st gs):JE X (.Subscript e (.Slice none none (some st) p2) pos) (KC g gs):=⟨fun B=>(HJ Wk (he.h B) (hs.h B)).imp fun σ H Q hh=>by
 obtain⟨S,F,u,S',R,hg,q⟩:=hh;obtain⟨⟨d,S1⟩,h1,hg⟩:=ah hg;obtain⟨⟨l,S2⟩,h2,hg⟩:=ah hg;cases l<;>try (cases hg)
 rename_i i;dsimp only at hg;by_cases hi:i=-1
 ·rw[if_pos hi] at hg;subst hi;obtain⟨u',h4,hg⟩:=aB hg;cases hg;exact⟨S,F,d,S1,R,h1,fun v F1 H1 R1 st1 r1=>⟨S1,F1,_,_,R1,h2,fun v2 F2 H2 R2 st2 r2=>⟨_,gG r2,rfl,F2,d,_,R2.sub,r1.le st2.ext.le,h4,fun v F4 H4 n s4 r4=>q v F4 H4 (R2.new n s4) ((st1.trans st2).trans n.step) (r4.CB R2 (st1.trans st2))⟩⟩⟩
 ·rw[if_neg hi] at hg;cases hg⟩
@[simp] theorem aax (g gs:GD) (S:SS):KC g gs S=(g S).bind fun p=>(gs p.2).bind fun l=>match l.1 with
 |.int i=>if i=-1 then(xO p.1).map fun u=>(u,l.2) else none
 |_=>none:=rfl
end
end L2
namespace HT
open PySem PySem.Spec PyProof.Rows
end HT
namespace L2
open PySem PySem.Spec PyProof.Rows
end L2
end
section
namespace L2
open PySem PySem.Spec PyProof.Rows PySem.Calls
def dM:Slot "set_iterator" "__next__" "set_iterator.__next__":=
 .of (owner:="set_iterator") (n:="__next__") (by rw[typeLookup_type,builtinLookup_eq_fast];kernel_rfl) (by decide +kernel) (by decide +kernel) (by decide +kernel)
  (by first|exact .inl (by decide +kernel)|exact .inr (by decide +kernel)) (by rw[ad3];kernel_rfl)
def nB:entryFor table "set_iterator.__next__" =some Builtin.«set_iterator.__next__»:=entryFor_of_tree (by kernel_rfl)
def Bf:entryFor table "set.__iter__" =some Builtin.«frozenset.__iter__»:=entryFor_alias (id':="frozenset.__iter__") (by kernel_rfl) rfl (by decide +kernel) (by kernel_rfl)
def vQ:Manifest.owners.lookup (String.ofList ['r','o','t','a','r','e','t','i','_','t','e','s'].reverse)=some Manifest.sig_set_iterator:=by kernel_rfl
def oY (a:Value):argsOk "set_iterator.__next__" ⟨[a],[]⟩:=by
 unfold argsOk;rw[signature?_of (id:="set_iterator.__next__") (n:=['_','_','t','x','e','n','_','_']) (o:=['r','o','t','a','r','e','t','i','_','t','e','s']) (by kernel_rfl) vQ];kernel_rfl
section
variable {a:Addr}
def oZ:Slot "set_iterator" "__iter__" "set_iterator.__iter__":=
 .of (owner:="set_iterator") (n:="__iter__") (by rw[typeLookup_type,builtinLookup_eq_fast];kernel_rfl) (by decide +kernel) (by decide +kernel) (by decide +kernel)
  (by first|exact .inl (by decide +kernel)|exact .inr (by decide +kernel)) (by rw[ad3];kernel_rfl)
def uX:entryFor table "set_iterator.__iter__" =some Builtin.«dict_keyiterator.__iter__»:=entryFor_alias (id':="dict_keyiterator.__iter__") (by kernel_rfl) rfl (by decide +kernel) (by kernel_rfl)
def wu (a:Value):argsOk "set_iterator.__iter__" ⟨[a],[]⟩:=by
 unfold argsOk;rw[signature?_of (id:="set_iterator.__iter__") (n:=['_','_','r','e','t','i','_','_']) (o:=['r','o','t','a','r','e','t','i','_','t','e','s']) (by kernel_rfl) vQ];kernel_rfl
end
end L2
end
section
namespace L2
open PySem PySem.Spec PyProof.Rows
variable {X:Cx}{pins:AAG}{σ:St}{H:Hp}{x y0:Str}{bL:BBB}{cap:BBJ}{scope:Scope}{cl:List (Str×Addr)}{elt iter:Expr}{ifs:BBC}{px py pt pos:Pos}{k0:Nat}{Q:VK}{K:AAD}{gi:GI}{q:GT}{g:GD}
structure lu (X:Cx) (x y0:Str) (bL:BBB) (cap:BBJ) (scope:Scope) (cl:List (Str×Addr)):Prop where
 one:eO X x bL cap scope cl
 Wl:scope.names.lookup y0=some .local
 Ui:(x::y0::bL).Nodup
def KG (K:AAD) (wi:TI) (cap:BBJ) (tc:TT) (te:TE):TE:=fun σ H Q=>wi σ H fun J H1=>∃W:Nat->Nat->List V->Hp->Prop,(∃m,W 0 m [] H1)/\∀i m ys H,W i m ys H->ys.length<sizeLine/\
  ((J.stop i H/\∀p,H p=none->Q (.ref p) (upd H p (.lst ys)))\/
   (J.go i H/\∀x H',J.Qv i H x H'->∃a x1 x2,x= .ref a/\zL K H' a [x1,x2]/\tc (some x1::some x2::dj cap σ) H' fun b H2=>if b=true then te (some x1::some x2::dj cap σ) H2 fun y H3=>∃m',m' < m/\W (i+1) m' (ys++[y]) H3 else ∃m',m' < m/\W (i+1) m' ys H2))
def HK {s s4:Shared}{C:Addr}{fp:BBE}{m':AAF}
  (I:Inv X pins σ H s) (T2:lu X x y0 bL cap scope cl) (hfp:∀b∈fp,rL X pins H b) (hfo:∀b∈fp,∃o,s.heap.get? b=some o)
  (hC:s.heap.objs.size<=C) (hns:s4.heap.Ns C m') (hos:s4.os=s.os) (hg:s4.gens=s.gens)
  (kept:∀b o,s.heap.get? b=some o->s4.heap.get? b=some o):
  Inv (cj X (x::y0::bL) scope cl C s H fp) [] (none::none::dj cap σ) H s4:=by
 have T:=T2.one;have fr:∀b,s.heap.objs.size<=b->H b=none:=fun b hb=>I.hok.fresh hb;refine⟨⟨I.ok.mod,T.kind,I.ok.glob,I.ok.blt,hC,fun y z c h1 h2=>I.ok.inj y z c (T.cells _ _ h1) (T.cells _ _ h2),fun y hy=>T.has y hy,fun y c h=>(by cases h),I.ok.hd,I.ok.frames,.inl rfl,fun b hb=>⟨?_,fun y c e z=>?_⟩,I.bs,abl I.ok.GZ I.sz,fun b o e hb=>?_,fun b hb z=>?_,I.stack,I.AH⟩,
  hos,by rw[hg];exact I.bare,Un.kept kept,⟨m',hns,fun i y v h1 h2 h3=>?_⟩,fun y c h=>?_,fr C hC,fun y c h=>I.lM y c (T.cells _ _ h),fun p hp=>?_,I.hok.kept kept,?_⟩
 ·obtain⟨o,e⟩:=hfo b hb;exact abu (aaE (aau e) hC)
 ·exact(hfp b hb).2.2.2.2.1 y c (T.cells _ _ e) z
 ·rcases(hfp b hb).2.2.2.1 with z|z
  ·exact I.ok.Ck b o e z
  ·exact absurd (aaE (aau e) (abl I.ok.GZ z)) (acz _)
 ·rcases aav.mp (I.wU b z) with q|q
  ·exact(hfp b hb).2.1 q
  ·exact(hfp b hb).2.2.1 q
 ·match i,h1,h2 with
  |0,h1,h2=>cases h2
  |1,h1,h2=>cases h2
  |j+2,h1,h2=>
   have h1:bL[j]? =some y:=by simpa[cj] using h1
   have h2:(dj cap σ)[j]? =some (some v):=by simpa using h2
   obtain⟨i,e1,e2,e3⟩:=T.slot j y h1;have e4:σ[i]? =some (some v):=by
    unfold dj at h2;rw[abx,e1] at h2;have h2:some ((σ[i]?).join)=some (some v):=h2;have h2:=abJ h2;cases q:σ[i]? with
    |none=>rw[q] at h2;cases h2
    |some o=>rw[q] at h2;cases h2;rfl
   obtain⟨m,hn,hl⟩:=I.loc;obtain⟨u,r,l⟩:=hl i y v e2 e4 e3;obtain⟨k1,⟨c,hc⟩,k3⟩:=T.vis y (abK h1);refine⟨u,r,.inr ⟨k1,c,hc,?_⟩⟩;rcases l with⟨hk,_⟩|⟨hk,c',hc',z⟩
   ·exact absurd hk k3
   ·rw[T.cells _ _ hc] at hc';cases hc';obtain⟨o,ho,hd⟩:=z;exact⟨o,kept _ _ ho,hd⟩
 ·obtain⟨v,o,ho,hd⟩:=I.cell y c (T.cells _ _ h);exact⟨v,o,kept _ _ ho,hd⟩
 ·exact absurd (show p∈([]:AAG) from hp) (by simp)
 ·show(none::none::dj cap σ).length=(x::y0::bL).length;simp[dj,T.len]
def vR {wi:TI}{tc:TT}{te:TE}{s:Shared}{use:Option (Value->Sem Unit)}{Qf:AAE}{pos2:Pos}
  (T2:lu X x y0 bL cap scope cl) (hc:X.calm=true) (hi:PI X (.Tuple [.Name x px,.Name y0 py] k0 pt) iter wi)
  (ht:∀C s H fp,J0 (cj X (x::y0::bL) scope cl C s H fp) ifs tc) (he:∀C s H fp,PE (cj X (x::y0::bL) scope cl C s H fp) elt te)
  (hs:∀x,foldedSetIterable iter X.env x=pure x) (I:Inv X pins σ H s) (h:KG X.K wi cap tc te σ H Q)
  (hend:∀(D C:Addr) (s7:Shared) (H6:Hp) (ys:List V),Inv X pins σ (upd H6 D (.lst ys)) s7->(∃m,s7.heap.Ns C m)->rL X pins (upd H6 D (.lst ys)) C->Q (.ref D) (upd H6 D (.lst ys))->compPost (model X.prog X.w) X.A X.xe use Qf (.ref D) C (.ok .next) s7):
  wpAny (model X.prog X.w) X.A (comprehension (.ListComp elt [⟨.Tuple [.Name x px,.Name y0 py] k0 pt,iter,ifs,0⟩] scope pos) scope X.env pos2 (newList []) false (eval iter X.env) use) Qf X.xe s:=
 vK (N:=x::y0::bL) (z0:=none::none::dj cap σ) (Z:=fun z=>∃o o',z=o::o'::dj cap σ) (pt:=fun v H z=>∃a x1 x2,v= .ref a/\zL X.K H a [x1,x2]/\z=some x1::some x2::dj cap σ) T2.one hc hi ht he hs I h
  (fun J H1 ⟨W,w0,t⟩=>⟨W,w0,fun i m ys H w=>⟨(t i m ys H w).1,(t i m ys H w).2.imp id fun⟨g,k⟩=>⟨g,fun v H' y=>let⟨a,x1,x2,e,q,r⟩:=k v H' y;⟨_,⟨a,x1,x2,e,q,rfl⟩,r⟩⟩⟩⟩) ⟨none,none,rfl⟩ (fun I2=>HK I2 T2)
  (by
   rintro Y C _ _ xv H eN eE eK VM ⟨o,o',rfl⟩ ⟨a,x1,x2,e,q,rfl⟩;exact⟨⟨_,_,rfl⟩,_,Jj VM (wV (wF (i:=0) (by rw[eN];exact T2.Ui) (by rw[eN];rfl) (by rw[eE];exact .inl (ac7 T2.one.loc)) (.inr (by rw[eE];exact ac7 T2.one.loc))) (wV (wF (i:=1) (by rw[eN];exact T2.Ui) (by rw[eN];rfl) (by rw[eE];exact .inl (ac7 T2.Wl)) (.inr (by rw[eE];exact ac7 T2.Wl))) EZ)),a,[x1,x2],e,by rw[eK];exact q,rfl,x1,[x2],rfl,x2,[],rfl,rfl,rfl,rfl⟩) hend
def Ab {wi:TI}{tc:TT}{te:TE}
  (T2:lu X x y0 bL cap scope cl) (hc:X.calm=true) (hi:PI X (.Tuple [.Name x px,.Name y0 py] k0 pt) iter wi)
  (ht:∀C s H fp,J0 (cj X (x::y0::bL) scope cl C s H fp) ifs tc) (he:∀C s H fp,PE (cj X (x::y0::bL) scope cl C s H fp) elt te)
  (hs:∀x,foldedSetIterable iter X.env x=pure x:=by intro _;rfl):
  PE X (.ListComp elt [⟨.Tuple [.Name x px,.Name y0 py] k0 pt,iter,ifs,0⟩] scope pos) (KG X.K wi cap tc te):=by
 intro pins s σ H Q I h;rw[eval_ListComp];refine vR T2 hc hi ht he hs I h ?_;rintro p C s7 H6 ys I9 ⟨m7,Mn⟩ ⟨g0,g1,g2,g3,g4,g5⟩ q;exact⟨m7,Mn,fun h' hs'=>⟨.ref p,_,I9.turned (t':=s7.toks) (fun b o hb e=>hs'.extBut b o hb e) g0 g1 g3 g4 g5,rfl,q⟩⟩
def iK (cap:BBJ) (q:GT) (g:GD):List D->SS->List D->Option (List D×SS)
 |[],S,acc=>some (acc,S)
 |.tup [a,b]::ds,S,acc=>(dH S cap).bind fun us=>
  if(slotsOf us).Nodup/\cS us<=1 then(cH S us).bind fun ws=>(q (AAA a::AAA b::ws.map some)).bind fun p=>
   if p.1 then(g p.2).bind fun r=>(aT (.t a :: .t b::ws) r.2).bind fun outs=>(wb us outs S).bind fun S'=>iK cap q g ds S' (acc++[r.1])
   else(aT (.t a :: .t b::ws) p.2).bind fun outs=>(wb us outs S).bind fun S'=>iK cap q g ds S' acc
  else none
 |_::_,_,_=>none
def je (cap:BBJ) (gi:GI) (q:GT) (g:GD):GE:=fun S=>(gi S).bind fun p=>if p.1.length<=100000 then(iK cap q g p.1 p.2 []).map fun r=>(.m (.lst r.1),r.2) else none
def KH {F:Hp}{xs:List V}{a b:D}(r:bM F xs [a,b]):∃x1 x2,xs=[x1,x2]/\Rep F x1 a/\Rep F x2 b:=by
 cases r with
 |cons r1 rr=>cases rr with
  |cons r2 rr2=>cases rr2;exact⟨_,_,rfl,r1,r2⟩
def xP {B:Base}(h:tE K B (je cap gi q g) σ H Q):KG K (Wg K B gi) cap (fun σ H Q=>∃B,tQ K B q σ H Q) (fun σ H Q=>∃B,tD K B g σ H Q) σ H Q:=by
 obtain⟨x,_⟩:∃x:Str,True:=⟨"",trivial⟩
 obtain⟨S,F,u,S',R,hg,k⟩:=h;obtain⟨⟨ds,S1⟩,h1,hg⟩:=ah hg;dsimp only at hg;split at hg
 ·rename_i hlen;obtain⟨⟨res,Sf⟩,h2,hg⟩:=aB hg;cases hg;refine⟨S,F,ds,S1,R,h1,fun J F1 H1 R1 st1 w=>?_⟩;refine⟨Pq K B S σ F H F1 (iK cap q g) ds (res,Sf),
   ⟨_,S1,F1,[],R1,st1,fun _ _ z=>z,.nil,aam _,abH _,rfl,h2⟩,?_⟩
  rintro i m ys H' ⟨S2,F2,acc,R2,st2,le,ry,ha,hl,rfl,fj⟩;refine⟨by rw[ry.length];exact adi (abl ha (abl hl hlen)) (by decide),?_⟩;have w':=w F2 H' le R2.sub i;by_cases hlt:i<ds.length
  ·have hd:ds[i]? =some ds[i]:=aaz hlt;obtain⟨go,yl⟩:=w'.1 _ hd;rw[acM hlt] at fj;refine .inr ⟨go,fun xv H3 y=>?_⟩;obtain⟨FN,n3,sb3,rx⟩:=yl xv H3 y;obtain⟨da,db,eab⟩:∃da db,ds[i]= .tup [da,db]:=by
    generalize ds[i]=dd at fj;unfold iK at fj;split at fj
    ·rename_i z;cases z
    ·rename_i z;injection z with z1 z2;exact⟨_,_,z1⟩
    ·cases fj
   have R2:Rel K B S2 σ FN H3:=R2.new n3 sb3;have st2:Step S S2 σ F H FN H3:=st2.trans n3.step;have le:∀b o,F1 b=some o->FN b=some o:=fun b o z=>n3.le b o (le b o z);have ry:=ry.le n3.le;rw[eab] at fj rx;obtain⟨pa,xs2,epa,fpa,hpa,DP⟩:=R2.sub.iV rx;obtain⟨x1,x2,exs,rx1,rx2⟩:=KH DP;subst exs epa;obtain⟨us,e1,fj⟩:=ah (show(dH S2 cap).bind _=_ from fj);split at fj
   ·rename_i hnd;obtain⟨ws,e2,fj⟩:=ah fj;obtain⟨⟨bk,T1⟩,e3,fj⟩:=ah fj;obtain⟨vs,k1,k2⟩:=Bb R2 e1;have rr:Paired (fun v u=>iY K B S2 σ H3 FN H3 v u) (x1::x2::vs) (.t da :: .t db::us):=.cons rx1 (.cons rx2 k2);have er:=tK R2 da (tK R2 db e2);have ar:=qK R2 rr er;have nd:=dz R2 rr er hnd.1 hnd.2;have R3:=mY (n:=ws.length+2) R2.sub ar nd (List.replicate (ws.length+2) x) (by simp);have hvl:vs.length=ws.length:=by have:=ar.length;simpa using this
    have es:start (List.replicate (ws.length+2) x) (x1::x2::vs)=some x1::some x2::dj cap σ:=by
     unfold start;rw[k1];simp[hvl]
    have eS:(U.t da::U.t db::ws).map some++List.replicate (ws.length+2-(U.t da::U.t db::ws).length) none=some (U.t da)::some (U.t db)::ws.map some:=by simp
    rw[es,eS] at R3;have back:∀(T2:SS) (F3 H4:Hp) (outs:List MO) (S3:SS),Rel K ⟨lent (x1::x2::vs) (U.t da::U.t db::ws),FN,H3⟩ T2 (some x1::some x2::dj cap σ) F3 H4->aT (U.t da::U.t db::ws) T2=some outs->wb us outs S2=some S3->Rel K B S3 σ F3 H4/\Step S S3 σ F H F3 H4/\(∀b o,FN b=some o->F3 b=some o):=fun T2 F3 H4 outs S3 RT ho hw=>by
     have po:=post_of ar T2 _ F3 H4 outs RT ho;obtain⟨Ra,zy,_⟩:=kR (S0:=S2) (F0:=FN) (H0:=H3) R2 (Step.refl ..) rr er (show wb (U.t da::U.t db::us) outs S2=some S3 by cases outs<;>exact hw) hnd.1 po;exact⟨Ra,st2.trans zy,zy.ext.le⟩
    refine⟨pa,x1,x2,rfl,.inl hpa,_,_,FN,bk,T1,R3,e3,fun F3 H4 Pr V1=>?_⟩;cases bk with
    |true=>
     obtain⟨⟨yd,T2⟩,e4,fj⟩:=ah (show(g T1).bind _=_ from fj);obtain⟨outs,e5,fj⟩:=ah fj;obtain⟨S3,e6,fj⟩:=ah fj;refine Cy ⟨_,T1,F3,yd,T2,Pr,e4,fun yv F4 H5 V2 V3 V4=>?_⟩;obtain⟨Ra,zy,Eo⟩:=back T2 F4 H5 outs S3 V2 e5 e6;refine⟨ds.length-(i+1),by lia,S3,F4,acc++[yd],Ra,zy,fun b o z=>Eo b o (le b o z),(ry.le Eo).append (.cons V4 .nil),by simp;lia,hlt,rfl,fj⟩
    |false=>
     obtain⟨outs,e5,fj⟩:=ah (show(aT (U.t da::U.t db::ws) T1).bind _=_ from fj);obtain⟨S3,e6,fj⟩:=ah fj;obtain⟨Ra,zy,Eo⟩:=back T1 F3 H4 outs S3 Pr e5 e6;exact Cw ⟨ds.length-(i+1),by lia,S3,F3,acc,Ra,zy,fun b o z=>Eo b o (le b o z),ry.le Eo,by lia,hlt,rfl,fj⟩
   ·cases fj
  ·have e:i=ds.length:=by lia
   subst e;rw[aek] at fj;cases fj;refine .inl ⟨w'.2 (aam _),fun p hp=>?_⟩;have n:=gg.obj (F:=F2) hp (.lst ys);refine k (.ref p) F2 _ (R2.new n (R2.sub.same n.same)) (st2.trans n.step) ⟨p,rfl,none_of st2.ext.there hp,R2.sub.fresh hp,⟨ys,aU,ry⟩,fun m=>?_,none_of R2.ext.there hp⟩;obtain⟨o,ho⟩:=R2.has m;rw[hp] at ho;cases ho
 ·cases hg
def Walk.n {J:It}{F:Hp}{ds:List D}(w:Walk J F ds):WalkN J F ds:=fun F' H' le sb i=>⟨fun d hd=>⟨((w F' H' le sb i).1 d hd).1,fun x H2 y=>by
 obtain⟨rfl,r⟩:=((w F' H' le sb i).1 d hd).2 x H2 y;exact⟨F',gg.refl ..,sb,r⟩⟩,(w F' H' le sb i).2⟩
def Ac {B:Base}(h:tE K B (je cap gi q g) σ H Q):KG K (tIt K B gi) cap (fun σ H Q=>∃B,tQ K B q σ H Q) (fun σ H Q=>∃B,tD K B g σ H Q) σ H Q:=
 let⟨S,F,ds,S1,R,hg,k⟩:=xP h;⟨S,F,ds,S1,R,hg,fun J F1 H1 R1 st w=>k J F1 H1 R1 st w.n⟩
def CQ (T:lu X x y0 bL cap scope cl) (hc:X.calm=true) (hi:JI X (.Tuple [.Name x px,.Name y0 py] k0 pt) iter gi)
  (ht:∀C s H fp,Ng (cj X (x::y0::bL) scope cl C s H fp) ifs q) (he:∀C s H fp,JD (cj X (x::y0::bL) scope cl C s H fp) elt g)
  (hs:∀x,foldedSetIterable iter X.env x=pure x:=by intro _;rfl):JE X (.ListComp elt [⟨.Tuple [.Name x px,.Name y0 py] k0 pt,iter,ifs,0⟩] scope pos) (je cap gi q g):=⟨fun B=>
 (Ab (tc:=fun σ H Q=>∃B,tQ X.K B q σ H Q) (te:=fun σ H Q=>∃B,tD X.K B g σ H Q) T hc (hi.h B) (fun C s H fp pins s' σ H' Q I ⟨B',z⟩=>(ht C s H fp).h B' pins s' σ H' Q I z) (fun C s H fp pins s' σ H' Q I ⟨B',z⟩=>(he C s H fp).h B' pins s' σ H' Q I z) hs).imp fun σ H Q h=>Ac h⟩
end L2
end
section
namespace L2
open PySem PySem.Spec PyProof.Rows PySem.Calls
end L2
end
section
namespace L2
open PySem PySem.Spec PyProof.Rows
noncomputable def Ad (i:Nat) (gu:GU):GU:=fun S=>(gu S).map fun p=>(.v i::p.1,p.2)
end L2
end
section
namespace L2
open PySem PySem.Spec PyProof.Rows PySem.Calls
variable {X:Cx}{elt iter:Expr}{ifs:BBC}{x y0:Str}{px py pt pos spos:Pos}{k0 i:Nat}{scope:Scope}{cl:List (Str×Addr)}{bL:BBB}{cap:BBJ}
def Uo {gi:GI}{q:GT}{g:GD}(T:lu X x y0 bL cap scope cl) (hc:X.calm=true) (hi:JIN X (.Tuple [.Name x px,.Name y0 py] k0 pt) iter gi)
  (ht:∀C s H fp,Ng (cj X (x::y0::bL) scope cl C s H fp) ifs q) (he:∀C s H fp,JD (cj X (x::y0::bL) scope cl C s H fp) elt g)
  (hs:∀x,foldedSetIterable iter X.env x=pure x:=by intro _;rfl):JE X (.ListComp elt [⟨.Tuple [.Name x px,.Name y0 py] k0 pt,iter,ifs,0⟩] scope pos) (je cap gi q g):=⟨fun B=>
 (Ab (tc:=fun σ H Q=>∃B,tQ X.K B q σ H Q) (te:=fun σ H Q=>∃B,tD X.K B g σ H Q) T hc (hi.h B) (fun C s H fp pins s' σ H' Q I ⟨B',z⟩=>(ht C s H fp).h B' pins s' σ H' Q I z) (fun C s H fp pins s' σ H' Q I ⟨B',z⟩=>(he C s H fp).h B' pins s' σ H' Q I z) hs).imp fun σ H Q h=>xP h⟩
section
variable {X:Cx}{tg a b:Expr}{p pos:Pos}{ta:TA}{gA:GA}
variable {p2 pos2:Pos}
def Ex:gT X (.type "dict") (fun xs H Q=>∃c kvs,xs=[.ref c]/\H c=some (.dK kvs)/\∀l,H l=none->Q (.ref l) (upd H l (.dK kvs))):=by
 intro pins s σ H xs us Q I r ⟨c,kvs,e,hc,q⟩;subst e;cases r with
 |cons r1 rr=>
  cases rr;cases r1;obtain⟨z,hd,vs,rel,dd⟩:=JC I.hok hc;refine kt_call_dict hd dd (by rw[<-rel.length];exact z) fun h' MP hs=>?_;have hp:=I.hok.fresh (aam s.heap.objs.size);have kp:∀b u,s.heap.get? b=some u->h'.get? b=some u:=fun b u e=>(hs.2 b (abu (aau e))).trans (aai _ e);exact⟨.ref _,_,I.laid (a:=s.heap.objs.size) (o:=.dK kvs) (t':=s.toks) (h':=h') kp (aam _) ⟨z,acR.mpr (acj (abu I.big)),vs,rel,MP⟩,rfl,q _ hp⟩
noncomputable def xQ (i:Nat):GE:=fun S=>match S[i]? with
 |some (some (.m (.dct kvs)))=>some (.m (.dct kvs),S)
 |some (some (.b (.dct kvs)))=>some (.m (.dct kvs),S)
 |_=>none
def HM {S S':SS}{u:U}(h:xQ i S=some (u,S')):∃w kvs,S[i]? =some (some w)/\fL w=true/\Pp w=some (.dct kvs)/\u= .m (.dct kvs)/\S'=S:=by
 unfold xQ at h;split at h
 ·rename_i kvs e;cases h;exact⟨_,kvs,e,rfl,rfl,rfl,rfl⟩
 ·rename_i kvs e;cases h;exact⟨_,kvs,e,rfl,rfl,rfl,rfl⟩
 ·cases h
def KI (hg:Gl X "dict") (hm:X.mg "dict" =none) (hN:X.N[i]? =some x:=by rfl) (hv:qV X.env.scope x:=by first|exact Or.inl rfl|exact Or.inr (Or.inl rfl)|exact Or.inr (Or.inr rfl))
  (hd:BBT x:=by decide) (hcd:BBU x:=by decide) (he:starEach [.Name x px] X.env=(false,eval (.Name x px) X.env)::starEach [] X.env:=by rfl) (hpl:(backTo pos (starEach [] X.env)).any (·.1)=false:=by rfl):
  JE X (.Call (.Name "dict" p) [.Name x px] [] pos) (xQ i):=⟨fun B=>
 (zS Ex hg hm PyProof.Rows.Boot.dict (gF (cI hN hv hd hcd) kO he) (by decide) (by decide) he hpl).imp fun σ H Q hh=>by
  obtain⟨S,F,u,S',R,hg',q⟩:=hh;obtain⟨w,kvs,hS,Hw,hin,rfl,rfl⟩:=HM hg';obtain⟨v0,hv0,r0⟩:=R.rep i w hS;obtain⟨c,o,rfl,fc,eo,at0⟩:=r0.cQ Hw;rw[hin] at eo;cases eo;obtain⟨ws,hc,pr⟩:=at0;refine⟨_,hv0,c,ws,rfl,hc,fun l hl=>?_⟩;have n:=gg.obj (F:=F) hl (.dK ws);have hn:¬cQ S' σ l:=fun m=>by obtain⟨o,ho⟩:=R.has m;rw[hl] at ho;cases ho
  exact q (.ref l) F _ (R.new n (R.sub.same n.same)) n.step ⟨l,rfl,hl,R.sub.fresh hl,⟨ws,aU,pr⟩,hn,none_of R.ext.there hl⟩⟩
end
def HN {NF:Pos}{wi:TI}{tc:TT}{te:TE}{y:Str}
  (T:lu X x y0 bL cap scope cl) (hc:X.calm=true) (hi:PI X (.Tuple [.Name x px,.Name y0 NF] k0 pt) iter wi)
  (ht:∀C s H fp,J0 (cj X (x::y0::bL) scope cl C s H fp) ifs tc) (he:∀C s H fp,PE (cj X (x::y0::bL) scope cl C s H fp) elt te)
  (hs:∀x,foldedSetIterable iter X.env x=pure x) (hN:X.N.Nodup) (hy:X.N[i]? =some y) (hx:Loc X.env.scope y)
  (hsw:swapsWith (.ListComp elt [⟨.Tuple [.Name x px,.Name y0 NF] k0 pt,iter,ifs,0⟩] scope pos) (some (.Name y py)) spos.line X.env=pure true) (hf:X.fn y=true\/X.env.scope.names.lookup y=some .local):
  PS X (.Assign [.Name y py] (.ListComp elt [⟨.Tuple [.Name x px,.Name y0 NF] k0 pt,iter,ifs,0⟩] scope pos) spos) (Jl (KG X.K wi cap tc te) (zM i)):=by
 intro pins s σ H D I h;rw[exec_Assign_Name_used _ _ _ _ hsw];refine aaa (aeZ (aaa ?_));show wpAny _ X.A (do let _ <-comprehension (.ListComp elt [⟨.Tuple [.Name x px,.Name y0 NF] k0 pt,iter,ifs,0⟩] scope pos) scope X.env _ (newList []) false (eval iter X.env) (some (assign (.Name y py) X.env))) _ _ s;refine aaa (acf (vR (Qf:=fun _ s'=>SP X pins D .next s') T hc hi ht he hs I h ?_) (fun _ s' hq=>wpAny_pure (wpAny_pure hq)) fun _ _ e=>e);rintro p C s7 H6 ys I9 ⟨m7,Mn⟩ ⟨g0,g1,g2,g3,g4,g5⟩ q;refine ae9 (uG I9 hN hy hx (v:=.ref p) (show RelV (.ref p) (.ref p) from rfl) (fun s8 I8 hh=>?_) hf);obtain⟨a,hsb,ha⟩:=hh;have hne:C≠a:=ha.elim (fun z=>by rw[z];exact g1) fun z=>acj (g4 _ _ z);refine⟨m7,Mn.sameBut hsb hne,fun h' hs'=>?_⟩;exact⟨_,_,I8.turned (t':=s8.toks) (fun b o hb e=>hs'.extBut b o hb e) g0 g1 g3 g4 g5,q⟩
def HP {y:Str}{NF:Pos}{gi:GI}{q:GT}{g:GD}(hN:X.N.Nodup) (hy:X.N[i]? =some y) (hx:Loc X.env.scope y) (T:lu X x y0 bL cap scope cl) (hc:X.calm=true) (hi:JI X (.Tuple [.Name x px,.Name y0 NF] k0 pt) iter gi)
  (ht:∀C s H fp,Ng (cj X (x::y0::bL) scope cl C s H fp) ifs q) (he:∀C s H fp,JD (cj X (x::y0::bL) scope cl C s H fp) elt g)
  (hsw:swapsWith (.ListComp elt [⟨.Tuple [.Name x px,.Name y0 NF] k0 pt,iter,ifs,0⟩] scope pos) (some (.Name y py)) spos.line X.env=pure true:=by rfl) (hf:X.fn y=true\/X.env.scope.names.lookup y=some .local:=by first|exact .inl rfl|exact .inr rfl|assumption)
  (hs:∀x,foldedSetIterable iter X.env x=pure x:=by intro _;rfl):JS X (.Assign [.Name y py] (.ListComp elt [⟨.Tuple [.Name x px,.Name y0 NF] k0 pt,iter,ifs,0⟩] scope pos) spos) (cu i (je cap gi q g)):=⟨fun B=>
 (HN (tc:=fun σ H Q=>∃B,tQ X.K B q σ H Q) (te:=fun σ H Q=>∃B,tD X.K B g σ H Q) T hc (hi.h B) (fun C s H fp pins s' σ H' Q I ⟨B',z⟩=>(ht C s H fp).h B' pins s' σ H' Q I z) (fun C s H fp pins s' σ H' Q I ⟨B',z⟩=>(he C s H fp).h B' pins s' σ H' Q I z) hs hN hy hx hsw hf).imp fun D σ H h=>Ac (A7 h)⟩
end L2
end
section
namespace L2
open PySem PySem.Spec PyProof.Rows
variable {xs:Array Nat}{j:Nat}{es:Array (Int×Value)}{t':SetTable}{prog:Program}{ns ns':BBD}{a:Addr}
abbrev GN:=Addr->SS->List (List D)->Option (SS×List (List D))
def lz (xs:Array Nat):Prop:=xs.toList.Pairwise (· < ·)
def wI (h:lz xs){i:Nat}(hij:i<j) (hj:j<xs.size):xs.getD i 0<xs.getD j 0:=by
 have:=(List.pairwise_iff_getElem.mp h) i j (by simpa using aeB hij hj) (by simpa using hj) hij;rw[Array.getElem_toList,Array.getElem_toList] at this;rw[acv,acv,abO hj,abO (aeB hij hj)];exact this
def Bl (xs:Array Nat) (j p:Nat):Prop:=p<=xs.size/\(∀i,i<p->xs.getD i 0<j)/\∀i,p<=i->i<xs.size->j<=xs.getD i 0
theorem xR (xs:Array Nat) (j:Nat) (h:lz xs):∀(fuel lo hi:Nat),hi-lo<=fuel->lo<=hi->hi<=xs.size->(∀i,i<lo->xs.getD i 0<j)->(∀i,hi<=i->i<xs.size->j<=xs.getD i 0)->Bl xs j (SetTable.below.go xs j fuel lo hi)
 |0,lo,hi,hf,hl,hs,a,b=>by
  have:lo=hi:=by lia
  subst this;exact⟨hs,a,b⟩
 |fuel+1,lo,hi,hf,hl,hs,a,b=>by
  have eg:SetTable.below.go xs j (fuel+1) lo hi=if lo<hi then(if xs.getD ((lo+hi) / 2) j<j then SetTable.below.go xs j fuel ((lo+hi) / 2+1) hi else SetTable.below.go xs j fuel lo ((lo+hi) / 2)) else lo:=rfl
  rw[eg];by_cases c:lo<hi
  ·rw[if_pos c];have hm:(lo+hi) / 2<hi:=by lia
   have hm2:lo<=(lo+hi) / 2:=by lia
   have e:xs.getD ((lo+hi) / 2) j=xs.getD ((lo+hi) / 2) 0:=by
    rw[acv,acv,abO (by lia)];rfl
   rw[e];by_cases d:xs.getD ((lo+hi) / 2) 0<j
   ·rw[if_pos d];refine xR xs j h fuel _ hi (by lia) (by lia) hs (fun i hi'=>?_) b;by_cases q:i=(lo+hi) / 2
    ·rw[q];exact d
    ·have:=wI h (i:=i) (j:=(lo+hi) / 2) (by lia) (by lia);lia
   ·rw[if_neg d];refine xR xs j h fuel lo _ (by lia) (by lia) (by lia) a (fun i hi' hs'=>?_);by_cases q:i=(lo+hi) / 2
    ·rw[q];lia
    ·have:=wI h (i:=(lo+hi) / 2) (j:=i) (by lia) hs';lia
  ·rw[if_neg c];have:lo=hi:=by lia
   subst this;exact⟨hs,a,b⟩
def xS (h:lz xs) (j:Nat):Bl xs j (SetTable.below xs j):=
 xR xs j h xs.size 0 xs.size (by lia) (by lia) (aam _) (fun i h=>by lia) (fun i h1 h2=>by lia)
def getD_list (xs:Array Nat) (i:Nat):xs.getD i 0=xs.toList.getD i 0:=by
 rw[acv,aby,acq]
def CS (h:lz xs)(hn:xs[SetTable.below xs j]?≠some j):lz (SetTable.insertAt xs (SetTable.below xs j) j):=by
 obtain⟨p1,p2,p3⟩:=xS h j;generalize SetTable.below xs j=p at *;have e:(SetTable.insertAt xs p j).toList=xs.toList.take p++j::xs.toList.drop p:=by
  unfold SetTable.insertAt;simp[acU]
 unfold lz;rw[e,List.pairwise_append];have ht:∀a∈xs.toList.take p,a<j:=fun a ha=>by
  obtain⟨i,hi⟩:=List.getElem?_of_mem ha;have hl:=(aaD.mp hi).1;rw[ab9] at hl;rw[afm (by lia)] at hi;have:=p2 i (by lia);rw[getD_list,aby,hi] at this;exact this
 have hd:∀a∈xs.toList.drop p,j<a:=fun a ha=>by
  obtain⟨i,hi⟩:=List.getElem?_of_mem ha;rw[List.getElem?_drop] at hi;have hl:p+i<xs.size:=by simpa using(aaD.mp hi).1
  have ge:=p3 (p+i) (by lia) hl;rw[getD_list,aby,hi] at ge;have ge:j<=a:=ge;have ne:a≠j:=fun q=>by
   subst q;by_cases z:i=0
   ·subst z;rw[Nat.add_zero,acq] at hi;exact hn hi
   ·have:=wI h (i:=p) (j:=p+i) (by lia) hl;rw[getD_list,getD_list,aby,aby,hi] at this;have q:=p3 p (aam _) (by lia);rw[getD_list,aby] at q;simp only[adL] at this;lia
  lia
 refine⟨h.sublist (List.take_sublist _ _),List.pairwise_cons.mpr ⟨hd,h.sublist (List.drop_sublist _ _)⟩,fun a ha b hb=>?_⟩;rcases aav.mp hb with rfl|hb
 ·exact ht a ha
 ·exact aeB (ht a ha) (hd b hb)
def Ey (n:Nat):lz (Array.range n):=by
 unfold lz;rw[Array.toList_range];exact List.pairwise_lt_range
def NG {t:SetTable}(h:∀i,t.slot j≠.live i):t.place[SetTable.below t.place j]?≠some j:=fun e=>by
 refine h (SetTable.below t.place j) ?_;unfold SetTable.slot;simp only[e,afo,if_true]
theorem xT (t:SetTable) (hashAt:Nat->Int) (hh:Int):∀(fuel:Nat) (p:SetTable.Probe) (j:Nat) (dm:Option Nat),(∀d,p.dummy=some d->t.slot d= .dummy)->SetTable.probe.go t hashAt hh fuel p=some (.empty j dm)->t.slot j= .empty/\∀d,dm=some d->t.slot d= .dummy
 |0,p,j,dm,hp,e=>by cases e
 |fuel+1,p,j,dm,hp,e=>by
  unfold SetTable.probe.go at e;cases q:t.slot p.j with
  |empty=>
   rw[q] at e;injection e with e
   injection e with e1 e2
   subst e1 e2;exact⟨q,hp⟩
  |dummy=>
   rw[q] at e;refine xT t hashAt hh fuel _ j dm (fun d hd=>?_) e;have:(t.advance {p with dummy:=some p.j}).dummy=some p.j:=by
    unfold SetTable.advance;split
    ·rfl
    ·rfl
   rw[this] at hd;cases hd;exact q
  |live i=>
   rw[q] at e;dsimp only at e;split at e
   ·cases e
   ·refine xT t hashAt hh fuel _ j dm (fun d hd=>hp d ?_) e;have:(t.advance p).dummy=p.dummy:=by
     unfold SetTable.advance;split
     ·rfl
     ·rfl
    rw[<-this];exact hd
def NH {t:SetTable}{hh:Int}{b:Bool}(e:t.freeSlot hh=some (j,b)):t.place[SetTable.below t.place j]?≠some j:=by
 unfold SetTable.freeSlot at e;split at e
 ·rename_i j' dm q;obtain⟨s1,s2⟩:=xT t _ hh _ _ j' dm (fun d hd=>by cases hd) q;injection e with e
  injection e with e1 e2
  subst e1;refine NG fun i=>?_;cases dm with
  |none=>rw[show(Option.getD none j':Nat)=j' from rfl,s1];intro z;cases z
  |some d=>rw[show(Option.getD (some d) j':Nat)=d from rfl,s2 d rfl];intro z;cases z
 ·cases e
def nX (t:SetTable) (n:Nat):lz (t.standIn n).place:=Ey n
def NI {t:SetTable}{n:Nat}(h:lz t.place):lz (t.orStandIn n).place:=by
 unfold SetTable.orStandIn;split
 ·exact h
 ·exact nX t n
def Rq {t:SetTable}{n:Nat}:(t.orStandIn n).led=t.led:=by
 unfold SetTable.orStandIn;split<;>rfl
def KJ {t:SetTable}{hh:Int}{x:Value}(h:lz t.place):lz (layNew t es hh x).2.1.place/\(layNew t es hh x).2.1.led=t.led:=by
 unfold layNew;split
 ·rename_i j b e;refine⟨NI ?_,Rq⟩;exact CS h (NH e)
 ·exact⟨nX _ _,rfl⟩
def HQ {mask finger moves:Nat}{led plain:Bool}{hs:Array Int}{o:Array Nat}(e:SetTable.laid mask finger moves led plain hs=some (t',o)):lz t'.place/\t'.led=led:=by
 unfold SetTable.laid at e;obtain⟨owner,_,e⟩:=ah e;injection e with e
 injection e with e1 e2
 subst e1;refine⟨?_,rfl⟩;unfold lz;show List.Pairwise _ (List.map _ (List.filterMap _ (List.range (mask+1))));rw[List.pairwise_map,List.pairwise_filterMap];refine List.pairwise_lt_range.imp fun {a b} hab c hc d hd=>?_;obtain⟨q1,_,rfl⟩:=aB hc;obtain⟨q2,_,rfl⟩:=aB hd;exact hab
def Ez {t:SetTable}{wanted:Nat}:lz (relayAll t es wanted).2.1.place/\(relayAll t es wanted).2.1.led=t.led:=by
 unfold relayAll;split
 ·rename_i t' o e;dsimp only;split
  ·exact HQ e
  ·exact⟨nX _ _,rfl⟩
 ·exact⟨nX _ _,rfl⟩
def EA (h:lz xs){i:Nat}(hi:i<xs.size):SetTable.below xs (xs.getD i 0+1)=i+1:=by
 obtain⟨p1,p2,p3⟩:=xS h (xs.getD i 0+1);generalize SetTable.below xs (xs.getD i 0+1)=p at *;have a:¬p<=i:=fun q=>by
  have:=p3 i q hi;lia
 have b:¬i+1<p:=fun q=>by
  have:=p2 (i+1) q;have:=wI h (i:=i) (j:=i+1) (by lia) (by lia);lia
 lia
def CT (h:lz xs):SetTable.below xs 0=0:=by
 obtain⟨p1,p2,p3⟩:=xS h 0;generalize SetTable.below xs 0=p at *;apply aco;intro q;have:=p2 0 (by lia);lia
noncomputable def sR (w:World):Bool:=w.params.followText "set-order"
noncomputable def intOf:Value->Int
 |.int i _=>i
 |_=>0
structure Px (prog:Program) (w:World) (es:Array (Int×Value)) (t:SetTable) (ns:BBD):Prop where
 el:ElemsOf (intKind prog w) es.toList
 perm:(es.toList.map fun e=>intOf e.2).Perm ns
 few:es.size<scanBound
 fits:t.fits es.size=true
 rise:lz t.place
 led:t.led=!sR w
def nC (prog:Program) (w:World) (h:Heap) (a:Addr) (ns:BBD):Prop:=∃o es ep t,h.get? a=some o/\o.ExactSet/\o.data= .set es ep t/\Px prog w es t ns
def intKind_is {w:World}{k:Int}{v:Value}(h:(intKind prog w).is k v=true):intOf v=k:=by
 obtain⟨t,rfl⟩:=ae8 h;rfl
def Px.mem {w:World}{t:SetTable}(h:Px prog w es t ns) (k:Int):k∈ns↔∃e∈es.toList,(intKind prog w).is k e.2=true:=by
 rw[<-h.perm.mem_iff,abt];constructor
 ·rintro⟨e,he,rfl⟩;obtain⟨⟨k,hk,_⟩,_⟩:=h.el e he;rw[intKind_is hk];exact⟨e,he,hk⟩
 ·rintro⟨e,he,hk⟩;exact⟨e,he,intKind_is hk⟩
section
variable {prog:Program}{w:World}{A:Around}{E:AAE}{s:Shared}
def xU {h:Heap}{o:Obj}{ep:Nat}{t:SetTable}(ho:h.get? a=some o) (hex:o.ExactSet) (hd:o.data= .set es ep t)
  {es':Array (Int×Value)}(I:Px prog w es' t' ns'):
  (h.update a (Obj.putSet es' t')).get? a=some {o with data:=.set es' (ep+1) t'}/\nC prog w (h.update a (Obj.putSet es' t')) a ns':=by
 have hg:(h.update a (Obj.putSet es' t')).get? a=some {o with data:=.set es' (ep+1) t'}:=by
  have:=adI (Obj.putSet es' t') ho (by rw[putSet_of es' t' hd];rfl);rw[putSet_of es' t' hd] at this;exact this
 exact⟨hg,_,es',ep+1,t',hg,hex,rfl,I⟩
def CU {g:Bool->Sem Unit}(hg:∀(b:Bool) (s₁:Shared) (Q':Unit->Shared->Prop),Q' () s₁->wpAny (model prog w) A (g b) Q' E s₁)
  {o:Obj}{ep:Nat}{t:SetTable}(ho:s.heap.get? a=some o) (hex:o.ExactSet) (hd:o.data= .set es ep t)
  {es1:Array (Int×Value)}{t2:SetTable}(I:Px prog w es1 t2 ns'){wasDummy:Bool}{R:Option Bool->Shared->Prop}
  (h:∀h',Heap.SameBut a s.heap h'->nC prog w h' a ns'->R (some true) {s with heap:=h'}):
  wpAny (model prog w) A (do
    storeSet a es1 t2
    if(!wasDummy && t2.tooFull)=true then do
      g (relayAll t2 es1 (SetTable.grown es1.size)).2.2
      storeSet a (relayAll t2 es1 (SetTable.grown es1.size)).1 (relayAll t2 es1 (SetTable.grown es1.size)).2.1
      pure (some true)
     else pure (some true)) R E s:=by
 have hb1:=I.few;refine aaa (wpAny_storeSet_of ho hd ?_ (afe hb1));obtain⟨Py,hS1⟩:=xU ho hex hd I;have Wm:=acS s.heap a (Obj.putSet es1 t2);split
 ·have hp:=relayAll_perm t2 es1 (SetTable.grown es1.size);have hfr:=relayAll_fits t2 es1 (SetTable.grown es1.size);obtain⟨Rr,Rt⟩:=Ez (t:=t2) (es:=es1) (wanted:=SetTable.grown es1.size);generalize hRl:relayAll t2 es1 (SetTable.grown es1.size)=Rl at hp hfr Rr Rt ⊢;obtain⟨es2,t3,acs⟩:=Rl;dsimp only at hp hfr Rr Rt ⊢;have hsz:es2.size=es1.size:=by rw[<-abW,hp.length_eq,abW]
  have I2:Px prog w es2 t3 ns':=⟨I.el.perm hp,(hp.map _).trans I.perm,by rw[hsz];exact hb1,hfr,Rr,by rw[Rt];exact I.led⟩
  refine aaa (hg _ _ _ ?_);refine aaa (wpAny_storeSet_of Py rfl ?_ (afe I2.few));obtain⟨_,hS2⟩:=xU Py hex rfl I2;exact wpAny_pure (h _ (Wm.trans (acS _ a _)) hS2)
 ·exact wpAny_pure (h _ Wm hS1)
def NJ {k:Int}{x:Value}{Q:Bool->Shared->Prop}(hkey:(intKind prog w).is k x=true) (hsc:x.scannable=true) (hS:nC prog w s.heap a ns) (hroom:ns.length+1<scanBound)
  (h:∀h',Heap.SameBut a s.heap h'->nC prog w h' a (if k∈ns then ns else ns++[k])->Q (!decide (k∈ns)) {s with heap:=h'}):
  wpAny (model prog w) A (setAddHashed a x ((intKind prog w).hash k)) Q E s:=by
 obtain⟨o,es,ep,t,ho,hex,hd,I⟩:=hS;have hn:es.size=ns.length:=by rw[<-abW,<-I.perm.length_eq,aah]
 have hb1:es.size+1<scanBound:=by rw[hn];exact hroom
 unfold setAddHashed setAddHashedIn;refine acm (aaa (adG ho hd I.fits ?_));dsimp only;rw[byScan_of hsc I.few I.el];simp only[↓reduceIte];unfold setAddByScan;refine aaa ?_;refine aaa (adM ?_);refine aaa (wpAny_setScan_of hkey ho hd I.fits I.el ?_);cases hr:List.findIdx? (fun e=>(intKind prog w).is k e.2) es.toList with
 |some j=>
  dsimp only;obtain⟨hj,hpj,_⟩:=List.findIdx?_eq_some_iff_getElem.mp hr;have Wn:k∈ns:=(I.mem k).mpr ⟨es.toList[j],aej hj,hpj⟩;refine wpAny_pure (wpAny_pure ?_);have e:s={s with heap:=s.heap}:=by cases s;rfl
  have:=h s.heap (Heap.SameBut.refl a s.heap) (by rw[if_pos Wn];exact⟨o,es,ep,t,ho,hex,hd,I⟩);rw[ab8 Wn] at this;rw[e];exact this
 |none=>
  dsimp only;have Wn:k∉ns:=fun hk=>by
   obtain⟨e,he,hp⟩:=(I.mem k).mp hk;have:=List.findIdx?_eq_none_iff.mp hr e he;rw[hp] at this;exact Bool.noConfusion this
  have hgw:∀(b:Bool){s₁:Shared}{Q':Unit->Shared->Prop},Q' () s₁->wpAny (model prog w) A (match b with|true=>rule "set.scan.the-table-gave-way" | false=>pure ()) Q' E s₁:=
   fun b s₁ Q' hq=>by cases b<;>first|exact wpAny_pure hq|exact adM hq
  have Ae:=layNew_perm t es ((intKind prog w).hash k) x;have KL:=layNew_fits t es ((intKind prog w).hash k) x;obtain⟨Rr,Rt⟩:=KJ (es:=es) (hh:=(intKind prog w).hash k) (x:=x) I.rise;generalize hL:layNew t es ((intKind prog w).hash k) x=L at Ae KL Rr Rt ⊢;obtain⟨es1,t1,wasDummy,gave⟩:=L;dsimp only at Ae KL Rr Rt ⊢;rw[Array.toList_push] at Ae;have I1:Px prog w es1 t1 (ns++[k]):=by
   refine⟨(I.el.push hkey hsc).perm Ae,?_,?_,KL,Rr,by rw[Rt];exact I.led⟩
   ·refine(Ae.map _).trans ?_;rw[acg,List.map_singleton,intKind_is hkey];exact I.perm.append (adJ _)
   ·rw[<-abW,Ae.length_eq,aan,abW];simpa using hb1
  refine aaa (hgw _ ?_);have hend:∀h',Heap.SameBut a s.heap h'->nC prog w h' a (ns++[k])->Q true {s with heap:=h'}:=by
   intro h' hsb hS';have:=h h' hsb (by rw[if_neg Wn];exact hS');rw[abU Wn] at this;exact this
  have off:Px prog w es1 {t1 with plain:=false} (ns++[k]):=⟨I1.el,I1.perm,I1.few,SetTable.fits_plain_off I1.fits,I1.rise,I1.led⟩
  split
  ·refine aaa ?_;rw[hashByValue_scannable 8 hsc];refine wpAny_pure ?_;refine CU (ns':=ns++[k]) ?_ ho hex hd ?_ ?_
   ·intro b s₁ Q' hq;cases b<;>first|exact wpAny_pure hq|exact adM hq
   ·split
    ·exact I1
    ·exact off
   ·intro h' hsb hS';dsimp only;exact wpAny_pure (hend h' hsb hS')
  ·refine aaa (wpAny_pure ?_);simp only[↓reduceIte];refine CU (ns':=ns++[k]) ?_ ho hex hd I1 ?_
   ·intro b s₁ Q' hq;cases b<;>first|exact wpAny_pure hq|exact adM hq
   ·intro h' hsb hS';dsimp only;exact wpAny_pure (hend h' hsb hS')
end
noncomputable def vU (val:Nat->Int):Nat->BBD
 |0=>[]
 |i+1=>if val i∈vU val i then vU val i else vU val i++[val i]
theorem Bg (val:Nat->Int):∀i,(vU val i).length<=i
 |0=>aam _
 |i+1=>by
  have:=Bg val i;show(if val i∈vU val i then vU val i else vU val i++[val i]).length<=i+1;split
  ·lia
  ·rw[aan,abR];lia
theorem Fx (val:Nat->Int) (k:Int):∀i,k∈vU val i↔∃j,j<i/\val j=k
 |0=>by simp[vU]
 |i+1=>by
  have ih:=Fx val k i;show k∈(if val i∈vU val i then vU val i else vU val i++[val i])↔_;by_cases m:val i∈vU val i
  ·rw[if_pos m,ih];constructor
   ·rintro⟨j,h,e⟩;exact⟨j,by lia,e⟩
   ·rintro⟨j,h,e⟩;by_cases q:j=i
    ·subst q;rw[e] at m;exact ih.mp m
    ·exact⟨j,by lia,e⟩
  ·rw[if_neg m,aaG,ih,aao];constructor
   ·rintro(⟨j,h,e⟩|e)
    ·exact⟨j,by lia,e⟩
    ·exact⟨i,by lia,e.symm⟩
   ·rintro⟨j,h,e⟩;by_cases q:j=i
    ·subst q;exact .inr e.symm
    ·exact .inl ⟨j,by lia,e⟩
section
variable {prog:Program}{w:World}{A:Around}{R:Result->Shared->Prop}{I:Addr}{fp wr:BBE}{G:Array GenState->Array GenState->Prop}{n:Nat}{P:Nat->Value->Prop}{St:Nat->Shared->Prop}
def HR (W:WalksS prog w A.in1 I fp wr G n P St) (S:Addr) (hSf:S∉fp) (val:Nat->Int) (hval:∀i v,P i v->∃t,v= .int (val i) t) (hb:n+1<scanBound):
  ∀(k i:Nat) (s:Shared),n-i=k->i<=n->St i s->nC prog w s.heap S (vU val i)->
   (∀s',Moved (S::wr) G s s'->nC prog w s'.heap S (vU val n)->R (.ok (.ret .none)) s')->
   codeAny (model prog w) A (.builtin "set.update.loop" ⟨[.ref S,.ref I],[]⟩) R s:=by
 have hSw:S∉wr:=fun h=>hSf (W.sub _ h);have hsub:∀b∈wr,b∈S::wr:=fun b hb=>aaj _ hb;have keep:∀{i:Nat}{s s':Shared},Moved wr G s s'->nC prog w s.heap S (vU val i)->nC prog w s'.heap S (vU val i):=
  fun hm ⟨o,es,ep,t,ho,rest⟩=>⟨o,es,ep,t,hm.heap S _ hSw ho,rest⟩
 intro k
 induction k with
 |zero=>
  intro i s hk hi hst hS hR;obtain rfl:i=n:=by lia
  refine adE F.entry_set_update_loop ?_;rw[ads ad5 _];show wpAny _ A.in1 (pyNext (.ref I) >>= _) _ _ s;refine aaa (W.done s _ _ hst fun s' hm=>?_);show wpAny _ A.in1 (ret Value.none) _ _ s';exact wpAny_pure (hR s' (hm.mono hsub) (keep hm hS))
 |succ k ih=>
  intro i s hk hi hst hS hR;have hlt:i<n:=by lia
  refine adE F.entry_set_update_loop ?_;rw[ads ad5 _];show wpAny _ A.in1 (pyNext (.ref I) >>= _) _ _ s;refine aaa (W.item i s _ _ hlt hst fun v s' hP aay hm=>?_);obtain⟨t,rfl⟩:=hval i v hP;have hS':=keep hm hS;show wpAny _ A.in1 (holding [Value.int (val i) t] (setAdd S (.int (val i) t)) >>= _) _ _ s';refine aaa (acm ?_);unfold setAdd;refine acm ?_;have his:(intKind prog w).is (val i) (.int (val i) t)=true:=by show Value.isInt (val i) (.int (val i) t)=true;simp[Value.isInt]
  refine aaa ((intKind prog w).pyHash (k:=val i) his ?_);have hroom:(vU val i).length+1<scanBound:=by have:=Bg val i;lia
  refine NJ his rfl hS' hroom fun h' hsb hSi=>?_;have hSi:nC prog w h' S (vU val (i+1)):=hSi;refine wpAny_pure ⟨aec ad5 _,ih (i+1) _ (by lia) hlt (W.frame _ s' _ _ aay (adF _) fun b hb o e=>?_) hSi fun s'' aaA aaB=>?_⟩
  ·rw[hsb.2 b (fun h:b=S=>hSf (by rw[<-h];exact hb))];exact e
  ·refine hR s'' (Moved.trans W.gtrans ((hm.mono hsub).then_heap (adF _) fun b o hb e=>?_) aaA) aaB;rw[hsb.2 b (fun h:b=S=>hb (by rw[h];exact aal))];exact e
end
section
variable {prog:Program}{w:World}{A:Around}{E:AAE}{s:Shared}
def KN (a:Value){Q₁:AAE}(h:Q₁ (.ref s.heap.objs.size) {s with heap:=s.heap.push (fM (!sR w))}):
  codeAny (model prog w) A (.call (.builtin "set.__new__") ⟨[.type "set",a],[]⟩) (wants Q₁ E) s:=by
 refine codeAny_of_tree ?_;show wpAny _ A.in1 (do checkBuiltinCall "set.__new__" ⟨[.type "set",a],[]⟩;again (.builtin "set.__new__" ⟨[.type "set",a],[]⟩)) _ _ s;refine aaa (wpAny_of_eq (F.newCall_set_1 a) (wpAny_pure ⟨aec F.plain_set_new _,adE F.entry_set_new ?_⟩));rw[ads F.plain_set_new _];unfold Builtin.«set.__new__» Builtin.Frozenset.newClass
 have hsub:=sub_set_self;obtain⟨hp,g,d,tk,os⟩:=s;dsimp only
 wp_walk
 refine adN (wpAny_pure ?_);dsimp only;simp only[newObj];refine aaa (wpAny_alloc (wpAny_pure ?_));exact wpAny_pure h
def CV:isSubtype (.type "tuple") (.type "set")=pure false:=by rw[ad3];kernel_rfl
def CW:isSubtype (.type "tuple") (.type "frozenset")=pure false:=by rw[ad3];kernel_rfl
noncomputable def Wo:Bool->String
 |true=>"list"
 |false=>"tuple"
def Nv.seq {k:Bool}{h:Heap}{a:Addr}{its:AAK}(x:Nv k h a its):∃o,h.get? a=some o/\o.cls= .type (Wo k)/\∃n,o.data= .seq its n:=by cases k<;>exact x
def Ru {k:Bool}(hh:A.handled=none) (I l:Addr) (hne:l≠I) (its:AAK):Walks prog w A I [I,l] [I] its.size (fun i v=>its[i]? =some v) (fun i h=>Yn k h I l i/\Nv k h l its):=by
 cases k
 ·exact Walks.tuple hh I l hne its
 ·exact Walks.list hh I l hne its
set_option maxHeartbeats 3200000 in
def Af {k:Bool}{l:Addr}{its:AAL}{Q:AAE}(hh:A.handled=none) (hl:Nv k s.heap l its.toArray) (hi:∀(i:Nat) (v:Value),its[i]? =some v->∃t,v=Value.int (ns.getD i 0) t) (hb:its.length+1<scanBound)
  (h:∀(h':Heap) (tk:Nat),nC prog w h' s.heap.objs.size (vU (fun i=>ns.getD i 0) its.length)->
   (∀b o,b<s.heap.objs.size->s.heap.get? b=some o->h'.get? b=some o)->Q (.ref s.heap.objs.size) {s with heap:=h',toks:=tk}):
  wpAny (model prog w) A (call (.type "set") [.ref l]) Q E s:=by
 obtain⟨c,tl,aee⟩:=adx.mro;have hmade:=adx.made;have hsub:=adx.sub;refine wpAny_call (codeAny_of_tree ?_);show wpAny _ _ (callAny (.type "set") _) _ _ _;refine wpAny_pure ⟨Code.quiet_builtin _ (by decide +kernel),adE F.entry_type_call ?_⟩;rw[Around.under_plain (weight_type_call_type "set" [.ref l] []) rfl];have h1:=adx.notType;have h2:=adx.canCreate;have hct:=F.typeCall_set_1 (.ref l)
 repeat (any_goals (first|assumption|wp_step))
 refine adH (KN (.ref l) (E:=E) (Q₁:=fun obj s₁=>obj= .ref s.heap.objs.size/\s₁={s with heap:=s.heap.push (fM (!sR w))}) ⟨rfl,rfl⟩) fun r s₁ hr=>?_;cases r with
 |error e=>exact hr
 |ok fl=>
  cases fl with
  |ret obj=>
   obtain⟨rfl,rfl⟩:=hr;have hS:(s.heap.push (fM (!sR w))).get? s.heap.objs.size=some (fM (!sR w)):=aaF _ rfl;have hT:Shared.TypeIs {s with heap:=s.heap.push (fM (!sR w))} (.ref s.heap.objs.size) "set":=⟨_,hS,rfl⟩
   have hli:=adx.init.lookup;have hbi:=adx.init.bind (.ref s.heap.objs.size)
   repeat (any_goals (first|assumption|wp_step))
   refine adH (codeAny_call_builtin (R:=wants (fun r s₂=>r= .none/\∃h' tk,s₂={s with heap:=h',toks:=tk}/\
     nC prog w h' s.heap.objs.size (vU (fun i=>ns.getD i 0) its.length)/\
     (∀b o,b<s.heap.objs.size->s.heap.get? b=some o->h'.get? b=some o)) E) adx.init.plain F.entry_set_init (check_set_init_1 hT ?_)) fun r₂ s₂ KO=>?_
   ·obtain⟨ol,Wq,hcl,nl,hdl⟩:=hl.seq;obtain⟨aef,Wr,acu,Rv⟩:=ol;simp only at hcl hdl;subst hcl;subst hdl;have aeg:(s.heap.push (fM (!sR w))).get? l=some {cls:=.type (Wo k),dict:=Wr,data:=.seq its.toArray nl,slots:=Rv}:=aai _ Wq;have aeh:isSubtype (.type (Wo k)) (.type "set")=pure false:=by cases k;exact CV;exact F.sub_list_set
    have aei:isSubtype (.type (Wo k)) (.type "frozenset")=pure false:=by cases k;exact CW;exact F.sub_list_frozenset
    have hne:(Value.type (Wo k) == Value.type "dict")=false:=by cases k<;>decide
    have hl1:Nv k (s.heap.push (fM (!sR w))) l its.toArray:=hl.at fun o e=>aai _ e;unfold Builtin.«set.__init__» noKeywords Builtin.Frozenset.updateFrom
    generalize hPI:pyIter=PI
    wp_walk
    subst hPI;refine Wf hl1 ?_;refine aaa (wpAny_runValue ?_);have hlS:l<s.heap.objs.size:=aau Wq;have hh3:A.in1.in1.in1.handled=none:=by simp[hh]
    have aaC:l≠(s.heap.push (fM (!sR w))).objs.size:=by
     rw[adu];exact abu (adp hlS)
    have hSf:s.heap.objs.size∉[(s.heap.push (fM (!sR w))).objs.size,l]:=by
     rw[adu];simp only[aav,aao,abG,acA,not_or];exact⟨abu (adK _),afl hlS⟩
    have hb':its.toArray.size+1<scanBound:=by rw[aak];exact hb
    have hval:∀(i:Nat) (v:Value),its.toArray[i]? =some v->∃t,v= .int ((fun i=>ns.getD i 0) i) t:=fun i v hv=>hi i v (by simpa using hv);refine HR ((Ru hh3 _ l aaC its.toArray).toS) s.heap.objs.size
     hSf (fun i=>ns.getD i 0) hval hb' (its.toArray.size-0) 0 _ (by lia) (abH _)
     ⟨Yn.new k _ l,hl1.at fun o e=>aai _ e⟩ ?Es ?hR
    case Es=>
     have hget:((s.heap.push (fM (!sR w))).push (itO k l)).get? s.heap.objs.size=some (fM (!sR w)):=aai _ hS;exact⟨_,_,_,_,hget,⟨rfl,rfl,rfl⟩,rfl,⟨fun e he=>by simp at he,adJ _,by show 0<scanBound;unfold scanBound;decide,rfl,List.Pairwise.nil,rfl⟩⟩
    case hR=>
     intro s' hm hS';rw[aak] at hS';obtain⟨h',g',d',tk',os'⟩:=s';have eg:g'=s.gens:=hm.gens;have ed:d'=s.drawn:=hm.drawn;have eo:os'=s.os:=hm.os;subst eg;subst ed;subst eo;show wpAny _ _ _ _ _ _;refine wpAny_pure ?_;show wpAny _ _ (ret Value.none) _ _ _;refine wpAny_pure ⟨rfl,h',tk',rfl,hS',fun b o hb e=>?_⟩;have hb1:b≠s.heap.objs.size:=abu hb;have hb2:b≠(s.heap.push (fM (!sR w))).objs.size:=by
      rw[adu];exact abu (adp hb)
     exact hm.heap b o (by simp only[aav,aao,abG,acA,not_or];exact⟨hb1,hb2⟩) (aai _ (aai _ e))
   ·cases r₂ with
    |error e=>exact KO
    |ok Ws=>
     cases Ws with
     |ret r=>
      obtain⟨rfl,h',tk,rfl,hS',hk'⟩:=KO
      repeat (any_goals (first|assumption|wp_step))
      exact h _ _ hS' hk'
     |_=>exact KO.elim
  |_=>exact hr.elim
end
end L2
end
section
namespace L2
open PySem PySem.Spec PyProof.Rows PySem.Calls
variable {i n slot:Nat}{f0:Value}{Q:BBP->Shared->Prop}{pl:BBJ}
noncomputable def slotAt (place:Array Nat) (i:Nat):Nat:=if i=0 then 0 else place.getD (i-1) 0+1
def EB {place:Array Nat}(h:lz place)(hi:i<=place.size):SetTable.below place (slotAt place i)=i:=by
 unfold slotAt;split
 ·rename_i e;subst e;exact CT h
 ·rename_i e;rw[EA h (by lia)];lia
def Fy {α:Type}{l:List α}(h:i<l.length):(l[i]::l.eraseIdx i).Perm l:=by
 rw[List.eraseIdx_eq_take_drop_succ];have e:l=l.take i++l[i]::l.drop (i+1):=by rw[List.getElem_cons_drop,List.take_append_drop]
 conv=>rhs;rw[e]
 exact List.perm_middle.symm
theorem Fz {α:Type}(f:Nat->Nat):∀(fuel k:Nat) (left:List α) (out:Array α),left.length=fuel->(pickOrder.go f fuel k left out).toList.Perm (out.toList++left)
 |0,k,left,out,h=>by
  have:left=[]:=afu.mp h;subst this;show out.toList.Perm (out.toList++[]);rw[adB]
 |fuel+1,k,left,out,h=>by
  have hl:f k % left.length<left.length:=Nat.mod_lt _ (by lia);show(match left[f k % left.length]? with|some x=>pickOrder.go f fuel (k+1) (left.eraseIdx (f k % left.length)) (out.push x)|none=>out).toList.Perm _;rw[aaz hl];refine(Fz f fuel (k+1) _ _ (by rw[ae3 hl];lia)).trans ?_;rw[Array.toList_push,List.append_assoc];refine List.Perm.append (adJ _) ?_;show(left[f k % left.length]::left.eraseIdx (f k % left.length)).Perm left;exact Fy hl
def HS {α:Type}(f:Nat->Nat) (xs:Array α):(pickOrder f xs).toList.Perm xs.toList:=by
 have:=Fz f xs.size 0 xs.toList #[] (by simp);rw[show(#[]:Array α).toList++xs.toList=xs.toList from rfl] at this;exact this
def KP (h:Heap) (a:Addr) (es:Array (Int×Value)) (ep:Nat) (t:SetTable):Prop:=∃o,h.get? a=some o/\o.ExactSet/\o.data= .set es ep t
def Up (h:Heap) (I a:Addr) (f0:Value) (i n ep:Nat):Prop:=h.get? I=some {cls:=.type "set_iterator",dict:=none,data:=.fields #[f0,.int i 0,.ref a,.int n 0,.int ep 0],slots:=#[]}
def uY (w:World) (a:Addr) (es:Array (Int×Value)) (ep:Nat):List (Int×Value):=if sR w then(pickOrder (w.params.setOrder a ep) es).toList else es.toList
def Ag (w:World) (a:Addr) (es:Array (Int×Value)) (ep:Nat):(uY w a es ep).Perm es.toList:=by
 unfold uY;split
 ·exact HS _ _
 ·exact adJ _
section
variable {prog:Program}{w:World}{A:Around}{E:AAE}{s:Shared}{a I:Addr}{es:Array (Int×Value)}{ep:Nat}{t:SetTable}
def Up.typeIs (h:Up s.heap I a f0 i n ep):s.TypeIs (.ref I) "set_iterator":=⟨_,h,rfl⟩
def Nx (w:World) (t:SetTable) (i:Nat):Option (Value×Nat)->Option (Int×Value)->Prop
 |some (x,j),some e=>x=e.2/\(sR w=true\/j=slotAt t.place (i+1))
 |none,none=>True
 |_,_=>False
theorem Rx (hb:sR w=true):∀z:Option (Int×Value),Nx w t i (z.map fun e=>(e.2,slot)) z
 |none=>trivial
 |some _=>⟨rfl,.inl hb⟩
def KQ {Q:Option (Value×Nat)->Shared->Prop}(hS:KP s.heap a es ep t) (hf:t.fits es.size=true) (hr:lz t.place) (HU:t.led=!sR w) (hpl:sR w=true\/(!t.plain && decide (es.size > 1))=false) (hi:i<=es.size) (hsl:sR w=true\/slot=slotAt t.place i)
  (q:∀r,Nx w t i r ((uY w a es ep)[i]?)->Q r s):wpAny (model prog w) A (setNext a slot i ep) Q E s:=by
 obtain⟨o,ho,hex,hd⟩:=hS;have hps:t.place.size=es.size:=by
  unfold SetTable.fits at hf;rw[abw] at hf
  simpa using hf.1
 unfold setNext;refine aaa (adG ho hd hf ?_);unfold setsByText;refine aaa (aaa (adN (wpAny_pure ?_)));refine acn (fun hb=>?_) fun hb=>?_
 ·have hb':sR w=true:=hb;refine acn (fun h=>absurd h (by simp)) fun _=>?_;refine aaa ?_;unfold setWalk;refine aaa (adG ho hd hf ?_);unfold setsByText;refine aaa (aaa (adN (wpAny_pure ?_)));refine acn (fun _=>?_) fun h=>absurd hb h;refine aaa (adN (wpAny_pure ?_));refine wpAny_pure (q _ ?_);unfold uY;rw[if_pos hb',acq];exact Rx hb' _
 ·have hb':sR w=false:=by
   cases e:sR w with
   |false=>rfl
   |true=>exact absurd e hb
  refine acn (fun h=>?_) fun _=>?_
  ·rcases hpl with z|z
   ·rw[hb'] at z;cases z
   ·exact absurd (show(!t.plain && decide (es.size > 1))=true from h) (by rw[z];decide)
  refine aaa ?_;refine acf (Q:=fun _ s'=>s'=s) (E:=fun _ _=>False) ?_ (fun _ s' e=>?_) fun _ _ h=>h.elim
  ·show wpAny _ _ (if(!t.led && !es.isEmpty)=true then _ else _) _ _ _;refine acn (fun h=>?_) fun _=>wpAny_pure rfl;rw[HU,hb'] at h;simp at h
  ·subst e;have es1:slot=slotAt t.place i:=by
    rcases hsl with z|z
    ·rw[hb'] at z;cases z
    ·exact z
   have bl:SetTable.below t.place slot=i:=by rw[es1];exact EB hr (by lia)
   refine wpAny_pure (q _ ?_);rw[bl];unfold uY;rw[hb',if_neg (by decide),acq];by_cases c:i<es.size
   ·rw[abO c,abO (by lia:i<t.place.size)];refine⟨rfl,.inr ?_⟩;unfold slotAt;rw[if_neg (by lia),Nat.add_sub_cancel,acv,abO (by lia:i<t.place.size)];rfl
   ·rw[Array.getElem?_eq_none (by lia)];trivial
def StS (w:World) (a I:Addr) (es:Array (Int×Value)) (ep:Nat) (t:SetTable) (i:Nat) (h:Heap):Prop:=∃slot:Nat,Up h I a (.int slot 0) i es.size ep/\KP h a es ep t/\(sR w=true\/slot=slotAt t.place i)
def Pz (hh:A.handled=none) (hoi:Up s.heap I a f0 i n ep) (hQ:∀h',Heap.ExtBut I s.heap h'->Q none {s with heap:=h'}):
  wpAny (model prog w) A.in1 (do
     setField (Value.ref I,([]:AAL)).fst 2 Value.none
     let e <-newExc (Value.type "StopIteration") []
     (raiseNew e:Sem Fin)) (fun fin s'=>∃v,fin=Fin.done (Flow.ret v)/\wpAny (model prog w) A (pure (some v)) Q E s') (fun e s'=>wpAny (model prog w) A (do
         let b <-isInstance e (Value.type "StopIteration")
         if b=true then pure none else throw e) Q E s') s:=by
 refine aaa (wpAny_setField hoi rfl (by simp) ?_);refine aaa ?_;simp only[newExc,newTuple];refine aaa (ab5 ?_ (by size_fits));refine aaa (m:=firstArgMember _ _) (wpAny_of_eq (a:=Value.none) (by first|rfl|(simp only[firstArgMember];rfl)) ?_);refine ab5 ?_ (by size_fits);simp only[raiseNew];refine aaa (wpAny_handled ?_);rw[show A.in1.handled=none from hh];refine aaa (wpAny_pure (wpAny_throw ?_));refine aaa (afk (T:="StopIteration") (b:=true) ⟨_,aaF _ rfl,rfl⟩ isSubtype_stop ?_);exact wpAny_pure (hQ _ (((acS ..).extBut.push _).push _))
def PB (hh:A.handled=none) (st:StS w a I es ep t i s.heap) (haI:a≠I) (hf:t.fits es.size=true) (hr:lz t.place) (HU:t.led=!sR w) (hpl:sR w=true\/(!t.plain && decide (es.size > 1))=false) (hi:i<=es.size)
  (q1:∀e h',(uY w a es ep)[i]? =some e->StS w a I es ep t (i+1) h'->Heap.SameBut I s.heap h'->Q (some e.2) {s with heap:=h'})
  (q2:∀h',(uY w a es ep)[i]? =none->Heap.ExtBut I s.heap h'->Q none {s with heap:=h'}):wpAny (model prog w) A (pyNext (.ref I)) Q E s:=by
 obtain⟨slot,hit,hS,hsl⟩:=st;obtain⟨o,ho,hex,hd⟩:=id hS;unfold pyNext;refine aaa (wpAny_attempt (acP (name:=Str.ofString "__next__") hit.typeIs dM
  (ac4 dM hit.typeIs nB ?_ (oY _))))
 unfold Builtin.«set_iterator.__next__»
 refine aaa (wpAny_pure ?_);refine aaa (wpAny_fieldsOf hit rfl ?_);refine aaa (aeO ho hd hf ?_);refine acn (fun h=>absurd h (by simp)) fun _=>?_;show wpAny _ _ (setNext a slot i ep >>= _) _ _ _;refine aaa (KQ hS hf hr HU hpl hi hsl fun r hr=>?_);cases r with
 |none=>
  refine Pz hh hit fun h' he=>q2 h' ?_ he;cases e:(uY w a es ep)[i]? with
  |none=>rfl
  |some e'=>rw[e] at hr;exact hr.elim
 |some p=>
  obtain⟨x,j⟩:=p;cases e:(uY w a es ep)[i]? with
  |none=>rw[e] at hr;exact hr.elim
  |some e'=>
   rw[e] at hr;obtain⟨rfl,hj⟩:=hr;refine aaa (adX hit (by simp) fun h1 z1 e1=>?_);refine aaa (adX z1 (by simp) fun h2 z2 e2=>?_);have e1:Heap.SameBut I s.heap h1:=e1;have e2:Heap.SameBut I h1 h2:=e2;refine wpAny_pure ⟨_,rfl,wpAny_pure ?_⟩;refine q1 e' h2 e ⟨j,z2,⟨o,(e2.2 a haI).trans ((e1.2 a haI).trans ho),hex,hd⟩,hj⟩ (e1.trans e2)
end
section
variable {prog:Program}{w:World}{A:Around}{E:AAE}{s:Shared}{a I T:Addr}{es:Array (Int×Value)}{ep:Nat}{t:SetTable}
def Bh {src:Source}{Q:Nat->Shared->Prop}(hn:n≠0) (h:∀i d',i<n->Q i {s with drawn:=d'}):wpAny (model prog w) A (choose src n) Q E s:=fun Γ p hΓ=>by
 show Sem.wp _ _ (Sem.choose src n Sem.pure) _ _ _ _;rw[Sem.wp_choose];exact⟨hn,wpAny_pure (h _ _ (Nat.mod_lt _ (Nat.pos_of_ne_zero hn))) Γ p hΓ⟩
theorem xV {α:Type}:∀(n:Nat) (xs:List α) (s:Shared) (Q:List α->Shared->Prop),xs.length=n->(∀out d',out.Perm xs->Q out {s with drawn:=d'})->wpAny (model prog w) A (drawOrder n xs) Q E s
 |0,xs,s,Q,hl,h=>by
  have:xs=[]:=afu.mp hl;subst this;unfold drawOrder;exact wpAny_pure (h [] s.drawn (adJ _))
 |n+1,[],s,Q,hl,h=>by cases hl
 |n+1,x::xs,s,Q,hl,h=>by
  unfold drawOrder;refine aaa (Bh (by simp) fun i d' hi=>?_);rw[aaz hi];refine aaa (xV n ((x::xs).eraseIdx i) {s with drawn:=d'} _ (by rw[ae3 hi];lia) fun out d2 hp=>?_);exact wpAny_pure (h _ d2 ((List.Perm.cons _ hp).trans (Fy hi)))
noncomputable def lP (pl:BBJ):Array Value:=(pl.map fun(i:Nat)=>rawInt i).toArray
def StD (a I T:Addr) (es:Array (Int×Value)) (ep:Nat) (t:SetTable) (pl:BBJ) (i:Nat) (h:Heap):Prop:=Up h I a (.ref T) i es.size ep/\TupAt h T (lP pl)/\KP h a es ep t
noncomputable def xW (es:Array (Int×Value)) (pl:BBJ):List (Int×Value):=pl.filterMap fun i=>es[i]?
theorem xX {es:Array (Int×Value)}:∀{pl:BBJ},(∀p∈pl,p<es.size)->∀i:Nat,(xW es pl)[i]? =(pl[i]?).bind fun(p:Nat)=>es[p]?
 |[],_,i=>by kernel_rfl
 |p::pl,h,i=>by
  have hp:=h p aal;have e:xW es (p::pl)=es[p]::xW es pl:=by
   show List.filterMap _ (p::pl)=_;rw[adP,abO hp];rfl
  rw[e];cases i with
  |zero=>simp[hp]
  |succ i=>simpa using xX (es:=es) (pl:=pl) (fun q hq=>h q (aaj _ hq)) i
def HV (h:pl.Perm (List.range es.size)):(xW es pl).Perm es.toList:=by
 have e:xW es (List.range es.size)=es.toList:=by
  apply afg;intro k;rw[xX (fun p hp=>ack.mp hp) k];by_cases c:k<es.size
  ·rw[List.getElem?_range c,acq];rfl
  ·rw[acN (by rw[ab6];lia),acN (by simpa using c)];rfl
 rw[<-e];exact h.filterMap _
def PD (hh:A.handled=none) (st:StD a I T es ep t pl i s.heap) (haI:a≠I) (hTI:T≠I) (hf:t.fits es.size=true) (hp:pl.Perm (List.range es.size))
  (q1:∀e h',(xW es pl)[i]? =some e->StD a I T es ep t pl (i+1) h'->Heap.SameBut I s.heap h'->Q (some e.2) {s with heap:=h'})
  (q2:∀h',(xW es pl)[i]? =none->Heap.ExtBut I s.heap h'->Q none {s with heap:=h'}):wpAny (model prog w) A (pyNext (.ref I)) Q E s:=by
 obtain⟨hit,hT,hS⟩:=st;obtain⟨o,ho,hex,hd⟩:=id hS;have lt:∀p∈pl,p<es.size:=fun p h=>ack.mp (hp.mem_iff.mp h);have og:=xX lt i;unfold pyNext;refine aaa (wpAny_attempt (acP (name:=Str.ofString "__next__") hit.typeIs dM
  (ac4 dM hit.typeIs nB ?_ (oY _))))
 unfold Builtin.«set_iterator.__next__»
 refine aaa (wpAny_pure ?_);refine aaa (wpAny_fieldsOf hit rfl ?_);refine aaa (aeO ho hd hf ?_);refine acn (fun h=>absurd h (by simp)) fun _=>?_;refine aaa (wpAny_seqItems hT rfl ?_);have pg:(lP pl)[i]? =(pl[i]?).map fun(p:Nat)=>rawInt p:=by
  unfold lP;rw[List.getElem?_toArray,abx]
 show wpAny _ _ (match(lP pl)[i]? with
  |some (.int place _)=>_
  |some _=>_
  |none=>_) _ _ _
 rw[pg];cases hpi:pl[i]? with
 |none=>
  rw[hpi] at og;refine aaa (adX hit (by simp) fun h1 z1 e1=>?_);have e1:Heap.SameBut I s.heap h1:=e1;exact Pz (f0:=rawInt 0) (i:=i) (n:=es.size) hh z1 fun h' he=>q2 h' og fun b o hb e=>he b o hb (e1.extBut b o hb e)
 |some p=>
  rw[hpi] at og;have hlt:=lt p (abK hpi);have og:(xW es pl)[i]? =some es[p]:=by rw[og];exact abO hlt
  show wpAny _ _ (setNextDrawn a p ep >>= _) _ _ _;refine aaa ?_;unfold setNextDrawn;refine aaa (adG ho hd hf ?_);refine acn (fun h=>absurd h (by simp)) fun _=>?_;rw[abO hlt];refine wpAny_pure ?_;refine aaa (adX hit (by simp) fun h1 z1 e1=>?_);have e1:Heap.SameBut I s.heap h1:=e1;refine wpAny_pure ⟨_,rfl,wpAny_pure ?_⟩;exact q1 es[p] h1 og ⟨z1,(e1.2 T hTI).trans hT,⟨o,(e1.2 a haI).trans ho,hex,hd⟩⟩ e1
def xY {Q:AAE}(st:Up s.heap I a f0 i n ep) (hQ:Q (.ref I) s):wpAny (model prog w) A (pyIter (.ref I)) Q E s:=by
 refine wpAny_pyIter_slot st.typeIs oZ (ac4 oZ st.typeIs uX ?_ (wu _));show wpAny _ _ (ret (.ref _)) _ _ s;exact wpAny_pure ⟨_,rfl,"set_iterator",_,st.typeIs,dM.lookup,hQ⟩
def Wt (hh:A.handled=none) (haI:a≠I) (hf:t.fits es.size=true) (hr:lz t.place) (HU:t.led=!sR w) (hpl:sR w=true\/(!t.plain && decide (es.size > 1))=false):
  Walks prog w A I [I,a] [I] (uY w a es ep).length (fun i v=>∃e,(uY w a es ep)[i]? =some e/\v=e.2) (fun i h=>StS w a I es ep t i h/\i<=es.size) where
 sub:=fun b hb=>by simp at hb;simp[hb]
 frame:=fun i h h' st k=>by
  obtain⟨⟨slot,h1,⟨o,h2,h3⟩,h4⟩,hi⟩:=st;exact⟨⟨slot,k I (by simp) _ h1,⟨o,k a (by simp) _ h2,h3⟩,h4⟩,hi⟩
 item:=fun i s Q E hi st hQ=>by
  have hl:(uY w a es ep).length=es.size:=by rw[(Ag w a es ep).length_eq,abW]
  refine PB hh st.1 haI hf hr HU hpl st.2 (fun e h' he st' sb=>?_) (fun h' he _=>?_)
  ·exact hQ e.2 h' s.toks ⟨e,he,rfl⟩ ⟨st',by lia⟩ fun b o hb q=>(sb.2 b (by simpa using hb)).trans q
  ·rw[aaz hi] at he;cases he
 done:=fun s Q E st hQ=>by
  refine PB hh st.1 haI hf hr HU hpl st.2 (fun e h' he st' sb=>?_) (fun h' he xb=>?_)
  ·have:=(aaD.mp he).1;lia
  ·exact hQ h' s.toks fun b o hb q=>xb b o (by simpa using hb) q
 self:=fun i s Q E st hQ=>by
  obtain⟨⟨slot,h1,_⟩,_⟩:=st;exact xY h1 hQ
def Wu (hh:A.handled=none) (haI:a≠I) (hTI:T≠I) (hf:t.fits es.size=true) (hp:pl.Perm (List.range es.size)):
  Walks prog w A I [I,a,T] [I] (xW es pl).length (fun i v=>∃e,(xW es pl)[i]? =some e/\v=e.2) (fun i h=>StD a I T es ep t pl i h) where
 sub:=fun b hb=>by simp at hb;simp[hb]
 frame:=fun i h h' st k=>by
  obtain⟨h1,h2,o,h3,h4⟩:=st;exact⟨k I (by simp) _ h1,k T (by simp) _ h2,o,k a (by simp) _ h3,h4⟩
 item:=fun i s Q E hi st hQ=>by
  refine PD hh st haI hTI hf hp (fun e h' he st' sb=>?_) (fun h' he _=>?_)
  ·exact hQ e.2 h' s.toks ⟨e,he,rfl⟩ st' fun b o hb q=>(sb.2 b (by simpa using hb)).trans q
  ·rw[aaz hi] at he;cases he
 done:=fun s Q E st hQ=>by
  refine PD hh st haI hTI hf hp (fun e h' he st' sb=>?_) (fun h' he xb=>?_)
  ·have:=(aaD.mp he).1;lia
  ·exact hQ h' s.toks fun b o hb q=>xb b o (by simpa using hb) q
 self:=fun i s Q E st hQ=>xY st.1 hQ
def Wv {ns:BBD}{Q:AAE}(hh:A.handled=none) (hS:nC prog w s.heap a ns)
  (h:∀(I:Addr) (h':Heap) (d':Drawn) (ord:List (Int×Value)) (fp:BBE) (St:Nat->Heap->Prop),(ord.map fun e=>intOf e.2).Perm ns->(∀e∈ord,∃tk,e.2= .int (intOf e.2) tk)->s.heap.objs.size<=I->(∀b∈fp,b=a\/s.heap.objs.size<=b)->
   Walks prog w A I fp [I] ord.length (fun i v=>∃e,ord[i]? =some e/\v=e.2) St->St 0 h'->(∀b o,s.heap.get? b=some o->h'.get? b=some o)->Q (.ref I) {s with heap:=h',drawn:=d'}):
  wpAny (model prog w) A (pyIter (.ref a)) Q E s:=by
 obtain⟨o,es,ep,t,ho,hex,hd,X⟩:=hS;have hT:s.TypeIs (.ref a) "set":=⟨o,ho,hex.1⟩
 have alt:a<s.heap.objs.size:=aau ho;have vals:∀ord:List (Int×Value),ord.Perm es.toList->(ord.map fun e=>intOf e.2).Perm ns/\∀e∈ord,∃tk,e.2= .int (intOf e.2) tk:=fun ord hp=>⟨(hp.map _).trans X.perm,fun e he=>by
  obtain⟨⟨k,hk,_⟩,_⟩:=X.el e (hp.mem_iff.mp he);obtain⟨tk,e'⟩:=ae8 hk;exact⟨tk,by rw[e'];rfl⟩⟩
 refine wpAny_pyIter_slot hT PySem.F.slot_set_iter (ac4 PySem.F.slot_set_iter hT Bf ?_ (PySem.F.args_set_iter_1 _));unfold Builtin.«frozenset.__iter__»
 refine aaa (wpAny_pure ?_);refine aaa ?_;unfold Builtin.Frozenset.sizeOf;refine aaa (aeO ho hd X.fits (wpAny_pure ?_));refine aaa ?_;unfold setDrawn;refine aaa (adG ho hd X.fits ?_);unfold setsByText;refine aaa (aaa (adN (wpAny_pure (wpAny_pure ?_))));refine acn (fun hc=>?_) fun hc=>?_
 ·refine aaa (xV es.size (List.range es.size) s _ (by rw[ab6]) fun pl d' hp=>?_);refine aaa (wpAny_newTuple ?_ (hsz:=by rw[aah,hp.length_eq,ab6];exact afe X.few));have Py:(s.heap.push {cls:=.type "tuple",data:=.seq (lP pl)}).get? a=some o:=aai _ ho;refine aaa (wpAny_setEpoch_of (s:={s with heap:=s.heap.push {cls:=.type "tuple",data:=.seq (lP pl)},drawn:=d'}) Py hd X.fits ?_);have hz:(s.heap.push {cls:=.type "tuple",data:=.seq (lP pl)}).objs.size=s.heap.objs.size+1:=adu ..;refine aaa (ab5 (wpAny_pure ⟨_,rfl,"set_iterator",_,⟨_,aaF _ rfl,rfl⟩,dM.lookup,?_⟩));obtain⟨v1,v2⟩:=vals _ (HV hp);refine h _ _ d' (xW es pl) [(s.heap.push {cls:=.type "tuple",data:=.seq (lP pl)}).objs.size,a,s.heap.objs.size] _ v1 v2 (by rw[hz];exact adF _) (fun b hb=>?_) (Wu (ep:=ep) (t:=t) hh (by rw[hz];exact abu (adp alt)) (by rw[hz];exact abu (adK _)) X.fits hp) ⟨aaF _ rfl,aai _ (aaF _ rfl),o,aai _ Py,hex,hd⟩ fun b o e=>aai _ (aai _ e);simp only[aav,abG,acA] at hb;rcases hb with rfl|rfl|rfl
  ·exact .inr (by rw[hz];exact adF _)
  ·exact .inl rfl
  ·exact .inr (aam _)
 ·have hpl:sR w=true\/(!t.plain && decide (es.size > 1))=false:=by
   cases e:sR w with
   |true=>exact .inl rfl
   |false=>
    refine .inr ?_;cases q:(!t.plain && decide (es.size > 1)) with
    |false=>rfl
    |true=>
     refine absurd ?_ hc;show(!sR w && (!t.plain && decide (es.size > 1)))=true;rw[e,q];rfl
  refine aaa (wpAny_pure ?_);refine aaa (wpAny_setEpoch_of ho hd X.fits ?_);refine aaa (ab5 (wpAny_pure ⟨_,rfl,"set_iterator",_,⟨_,aaF _ rfl,rfl⟩,dM.lookup,?_⟩));obtain⟨v1,v2⟩:=vals _ (Ag w a es ep);refine h _ _ s.drawn (uY w a es ep) [s.heap.objs.size,a] _ v1 v2 (aam _) (fun b hb=>?_) (Wt (ep:=ep) hh (abu alt) X.fits X.rise X.led hpl) ⟨⟨0,aaF _ rfl,⟨o,aai _ ho,hex,hd⟩,.inr rfl⟩,abH _⟩ fun b o e=>aai _ e;simp only[aav,abG,acA] at hb;rcases hb with rfl|rfl
  ·exact .inr (aam _)
  ·exact .inl rfl
end
end L2
end
section
namespace L2
open PySem PySem.Spec PyProof.Rows PySem.Calls PyProof.V
variable {ns:BBD}
section
variable {prog:Program}{w:World}{A:Around}{E:AAE}{s:Shared}{a:Addr}
def Ww {Q:Bool->Shared->Prop}(hT:s.TypeIs (.ref a) "set") (h:Q false s):wpAny (model prog w) A (Builtin.List.listLengthHint (.ref a)) Q E s:=by
 unfold Builtin.List.listLengthHint;refine aaa (wpAny_specialOf hT PySem.F.slot_set_len.lookup ?_);generalize hid:("set.__len__":String)=id0
 wp_delta
 rw[show splitId id0=some ("set","__len__") from by subst hid;decide +kernel];subst hid;refine aaa (afk (T:="set") (b:=true) hT (by rw[ad3];kernel_rfl) ?_);refine acn (fun hab=>absurd hab (by decide)) (fun _=>?_);refine acn (fun _=>?_) (fun hab=>absurd (by decide +kernel) hab);refine aaa (adW hT ?_);exact wpAny_pure h
theorem CY:∀{ord:List (Int×Value)},(∀e∈ord,∃tk,e.2= .int (intOf e.2) tk)->IntsAre (ord.map (·.2)) (ord.map fun e=>intOf e.2)
 |[],_=>.nil
 |e::ord,h=>by
  obtain⟨tk,q⟩:=h e aal;have ih:=CY fun x hx=>h x (aaj _ hx);show IntsAre (e.2::ord.map (·.2)) (intOf e.2::ord.map fun e=>intOf e.2);generalize intOf e.2=k at *;rw[q];exact .cons k tk ih
def HW {ord:List (Int×Value)}{acc:AAK}(h:ItemsOf (fun i v=>∃e,ord[i]? =some e/\v=e.2) acc ord.length):acc.toList=ord.map (·.2):=by
 obtain⟨h1,h2⟩:=h;apply afg;intro i;rw[abx];by_cases c:i<ord.length
 ·have hv:acc[i]? =some acc[i]:=abO (by lia);obtain⟨e,e1,e2⟩:=h2 i _ hv;rw[acq,hv,e1,e2];rfl
 ·rw[acN (by rw[abW];lia),acN (by lia)];rfl
def nC.keep {h h':Heap}(x:nC prog w h a ns) (k:∀o,h.get? a=some o->h'.get? a=some o):nC prog w h' a ns:=by
 obtain⟨o,es,ep,t,h1,r⟩:=x;exact⟨o,es,ep,t,k o h1,r⟩
def NK {R:Result->Shared->Prop}(hh:A.handled=none) (Es:nC prog w s.heap a ns) (S:Addr) (hSa:S≠a) (res:Value) (c₀:Nat) (hS:s.heap.get? S=some {cls:=.type "list",data:=.seq #[] c₀})
  (hR:∀h' d' tk acc' c',(∀b o,b≠S->s.heap.get? b=some o->h'.get? b=some o)->h'.get? S=some {cls:=.type "list",dict:=none,data:=.seq acc' c',slots:=#[]}->(∃ms,IntsAre acc'.toList ms/\ms.Perm ns)->R (.ok (.ret res)) {s with heap:=h',toks:=tk,drawn:=d'}) (hn:ns.length<=sizeLine):
  wpAny (model prog w) A.in1 (Builtin.List.listExtendWith (.ref S) (.ref a) res)
   (fun fin s'=>match fin with|.done f=>R (.ok f) s'|.again c'=>c'.quiet=true/\codeAny (model prog w) A c' R s') (fun e s'=>R (.error e) s') s:=by
 have Slt:S<s.heap.objs.size:=aau hS;have hT:s.TypeIs (.ref a) "set":=by
  obtain⟨o,es,ep,t,h1,hex,_⟩:=Es;exact⟨o,h1,hex.1⟩
 unfold Builtin.List.listExtendWith;refine aaa (adW (T:="set") hT ?_);have h1:Builtin.List.listSameRef (.ref S) (.ref a)=false:=by simp[Builtin.List.listSameRef,hSa]
 have n1:(Value.type "set" == Value.type "list")=false:=by decide
 have n2:(Value.type "set" == Value.type "tuple")=false:=by decide
 simp only[h1,n1,n2,afA,adA,adw];refine aaa (Wv (A:=A.in1) hh Es fun I h1 d' ord fp St p1 p2 hI hfp W st hk=>?_);have hSf:S∉fp:=fun m=>by
  rcases hfp S m with z|z
  ·exact hSa z
  ·exact absurd Slt (Nat.not_lt.mpr z)
 have SI:S≠I:=abu (aaE Slt hI);have Wq:ord.length<=sizeLine:=by have:=p1.length_eq;rw[aah] at this;lia
 have key:∀(h:Heap) (c₁ tk:Nat),St 0 h->(∀b o,b≠S->s.heap.get? b=some o->h.get? b=some o)->
   h.get? S=some {cls:=.type "list",data:=.seq #[] c₁}->codeAny (model prog w) A (.builtin "list.extend.loop" ⟨[.ref S,.ref I,res],[]⟩) R {s with heap:=h,toks:=tk,drawn:=d'}:=by
  intro h c₁ tk hst hk xZ;refine codeAny_extend_loopS W.toS Wq S hSf res ord.length 0 _ #[] c₁ rfl (abH _) hst xZ (ItemsOf.nil _) fun s' acc' c' hm hS' hacc=>?_;rw[Moved.eq_with hm];refine hR s'.heap d' s'.toks acc' c' (fun b o hb e=>hm.heap b o (fun hmem=>?_) (hk b o hb e)) hS' ⟨_,by rw[HW hacc];exact CY p2,p1⟩;rcases aav.mp hmem with e'|hmem
  ·exact hb e'
  ·have bl:=aau e;rw[aao.mp hmem] at bl;exact absurd bl (Nat.not_lt.mpr hI)
 have xZ:=hk S _ hS;have hT1:Shared.TypeIs {s with heap:=h1,drawn:=d'} (.ref a) "set":=by
  obtain⟨o,q1,q2⟩:=hT;exact⟨o,hk a o q1,q2⟩
 refine aaa (acm (Ww hT1 ?_));refine acn (fun _=>?_) (fun _=>wpAny_pure ⟨aec afi _,key _ c₀ _ st (fun b o _ e=>hk b o e) xZ⟩);refine aaa (adM ?_);refine aaa ?_;show wpAny _ _ (updateSeq S (·.push .none) >>= fun _=>updateSeq S (·.pop)) _ _ _;refine aaa (wpAny_updateSeq xZ rfl ?_);have PF:=adI (Obj.mapSeq (·.push Value.none)) xZ rfl;refine wpAny_updateSeq (hz:=by seq_fits) PF rfl ?_;have Wx:=adI (Obj.mapSeq (·.pop)) PF rfl;refine wpAny_pure ⟨aec afi _,key _ _ _ ?_ (fun b o hb e=>?_) Wx⟩
 ·refine W.frame 0 _ _ st fun b hb o e=>?_;have hbS:b≠S:=fun h=>hSf (h▸hb);exact(acT _ _ (acj hbS)).trans ((acT _ _ (acj hbS)).trans e)
 ·exact(acT _ _ (acj hb)).trans ((acT _ _ (acj hb)).trans (hk b o e))
def KR {R:BBG->Shared->Prop}(hh:A.handled=none) (Es:nC prog w s.heap a ns) (hn:ns.length<=sizeLine)
  (h:∀(h':Heap) (d':Drawn) (tk:Nat) (acc:AAK),(∀b o,s.heap.get? b=some o->h'.get? b=some o)->(∃ms,IntsAre acc.toList ms/\ms.Perm ns)->R acc.toList {s with heap:=h',toks:=tk,drawn:=d'}):
  wpAny (model prog w) A (collect (.ref a)) R E s:=by
 have alt:a<s.heap.objs.size:=by obtain⟨o,es,ep,t,h1,_⟩:=Es;exact aau h1
 unfold collect;refine aaa (wpAny_runValue (adE entry_proto_collect' ?_));rw[ads PySem.F.plain_proto_collect _];show wpAny _ A.in1 (newList [] >>= fun l=>again (.builtin "list.__iadd__" ⟨[l,.ref a],[]⟩)) _ _ s;refine aaa (ab5 ?_);refine wpAny_pure ⟨aec afv _,adE entry_list_iadd' ?_⟩;rw[ads afv _];have xZ:(s.heap.push {cls:=.type "list",data:=.seq ([]:AAL).toArray}).get? s.heap.objs.size=some {cls:=.type "list",data:=.seq #[]}:=aaF _ rfl;show wpAny _ A.in1 (Builtin.List.listExtendWith (.ref s.heap.objs.size) (.ref a) (.ref s.heap.objs.size)) _ _ _;have key:=NK (A:=A) (s:={s with heap:=s.heap.push {cls:=.type "list",data:=.seq ([]:AAL).toArray}})
  (R:=fun(q:Result) (s':Shared)=>∃(h':Heap) (d':Drawn) (tk:Nat) (acc':AAK) (c':Nat),q= .ok (.ret (.ref s.heap.objs.size))/\s'={s with heap:=h',toks:=tk,drawn:=d'}/\
   (∀b o,s.heap.get? b=some o->h'.get? b=some o)/\h'.get? s.heap.objs.size=some {cls:=.type "list",dict:=none,data:=.seq acc' c',slots:=#[]}/\∃ms,IntsAre acc'.toList ms/\ms.Perm ns)
  hh (Es.keep fun o e=>aai _ e) s.heap.objs.size (afl alt) (.ref s.heap.objs.size) 0 xZ
  (fun h' d' tk acc' c' hk hS' hacc=>⟨h',d',tk,acc',c',rfl,rfl,fun b o e=>hk b o (abu (aau e)) (aai _ e),hS',hacc⟩) hn
 refine acf key (fun fin s' x=>?_) fun e s' x=>?_
 ·cases fin with
  |done f=>
   obtain⟨h',d',tk,acc',c',e,rfl,hk,hS',hacc⟩:=x;cases e;show wpAny _ A (load s.heap.objs.size >>= _) _ _ _;refine aaa (wpAny_load hS' ?_);exact wpAny_pure (h h' d' tk acc' hk hacc)
  |again c₁=>
   refine⟨x.1,adH x.2 fun q s₂ y=>?_⟩;obtain⟨h',d',tk,acc',c',rfl,rfl,hk,hS',hacc⟩:=y;show wpAny _ A (load s.heap.objs.size >>= _) _ _ _;refine aaa (wpAny_load hS' ?_);exact wpAny_pure (h h' d' tk acc' hk hacc)
 ·obtain⟨_,_,_,_,_,e',_⟩:=x;cases e'
def NL {Q:AAE}(hh:A.handled=none) (Es:nC prog w s.heap a ns) (hn:ns.length<64)
  (h:∀(h1 h':Heap) (d':Drawn) (tk n:Nat) (out:AAK) (ns':BBD),(∀b o,s.heap.get? b=some o->h1.get? b=some o)->(∀b o,h1.get? b=some o->h'.get? b=some o)->IntsAre out.toList ns'->ns'.Perm ns->ns'.Pairwise (·<=·)->
   h'.get? h1.objs.size=some (seqObj "list" out n)->Q (.ref h1.objs.size) {s with heap:=h',toks:=tk,drawn:=d'}):
  wpAny (model prog w) A (call (.builtin "sorted") [.ref a]) Q E s:=by
 refine call_function_entry kind_sorted plain_sorted entry_sorted (args_sorted1 _) ?_;unfold Builtin.«sorted»
 refine aaa (m:=checkCount "sorted" 1 1 _) (wpAny_pure ?_);refine aaa (KR (A:=A.in1) hh Es (abl (adg hn) (by decide)) fun h' d' tk acc hk hh=>?_);obtain⟨ms,hm,hp⟩:=hh;have hl:acc.toList.length<64:=by rw[hm.length,hp.length_eq];exact hn
 refine aaa (wpAny_newList ?_ (abl (adg hl) (by decide)));have O8:(h'.push (seqObj "list" acc.toList.toArray 0)).get? h'.objs.size=some (seqObj "list" acc.toList.toArray 0):=aaF _ rfl;show wpAny _ _ _ _ _ {s with heap:=h'.push (seqObj "list" acc.toList.toArray 0),toks:=tk,drawn:=d'};refine aaa (acm (ac4 slot_list_sort ⟨_,O8,rfl⟩ entry_list_sort (list_sort_tree (ns:=ms) O8 hm hl fun out ns' a1 a2 a3=>⟨_,rfl,?_⟩) (args_list_sort _)));refine wpAny_pure ⟨_,rfl,?_⟩;obtain⟨e,he⟩:=sortedHeap_at (out:=out) O8;exact h _ _ d' tk e out ns' hk (fun b o hb=>by
  have:=aau hb;rw[sortedHeap_old (abu this) (by rw[size_push'];exact adp this)];exact aai _ hb) a1 (a2.trans hp) a3 he
end
def sortI (ns:BBD):BBD:=(vU (fun i=>ns.getD i 0) ns.length).mergeSort (fun a b=>decide (a<=b))
def sortI_perm (ns:BBD):(sortI ns).Perm (vU (fun i=>ns.getD i 0) ns.length):=List.mergeSort_perm _ _
def uZ {k:Int}:k∈sortI ns↔k∈ns:=by
 rw[(sortI_perm ns).mem_iff,Fx];constructor
 ·rintro⟨j,hj,rfl⟩;rw[aby,aaz hj];exact aej hj
 ·intro h;obtain⟨j,hj,e⟩:=List.getElem_of_mem h;exact⟨j,hj,by rw[aby,aaz hj];exact e⟩
def HX (ns:BBD):(sortI ns).Pairwise (·<=·):=by
 have:=List.pairwise_mergeSort (le:=fun a b:Int=>decide (a<=b)) (fun a b c h1 h2=>by simp at *;lia) (fun a b=>by simp;lia) (vU (fun i=>ns.getD i 0) ns.length);exact this.imp fun h=>by simpa using h
def Bj:List D->Option U
 |[.tup ds]=>(q9 ds).bind fun ns=>if ns.length<64 then some (.m (.lst ((sortI ns).map D.int))) else none
 |[.lst ds]=>(q9 ds).bind fun ns=>if ns.length<64 then some (.m (.lst ((sortI ns).map D.int))) else none
 |_=>none
def SqD (d:D) (ns:BBD):Prop:=∃ds,(d= .tup ds\/d= .lst ds)/\q9 ds=some ns/\ns.length<64
def EC {d:D}{u:U}(h:Bj [d]=some u):∃ns,SqD d ns/\u= .m (.lst ((sortI ns).map D.int)):=by
 have key:∀ds,(q9 ds).bind (fun ns=>if ns.length<64 then some (U.m (.lst ((sortI ns).map D.int))) else none)=some u->∃ns,q9 ds=some ns/\ns.length<64/\u= .m (.lst ((sortI ns).map D.int)):=by
  intro ds h;obtain⟨zs,h5,h6⟩:=ah h;split at h6
  ·rename_i hl;cases h6;exact⟨zs,h5,hl,rfl⟩
  ·cases h6
 cases d with
 |lst ds=>obtain⟨ns,h1,h2,h3⟩:=key ds h;exact⟨ns,⟨ds,.inr rfl,h1,h2⟩,h3⟩
 |tup ds=>obtain⟨ns,h1,h2,h3⟩:=key ds h;exact⟨ns,⟨ds,.inl rfl,h1,h2⟩,h3⟩
 |_=>cases h
theorem ints_getD:∀{ns:BBD}{its:AAL},Vals (ns.map V.int) its->∀(i:Nat) (v:Value),its[i]? =some v->∃t,v=Value.int (ns.getD i 0) t
 |[],_,r,i,v,h=>by cases r;cases h
 |n::ns,_,r,i,v,h=>by
  cases r with
  |cons q t=>
   obtain⟨t',rfl⟩:=q;cases i with
   |zero=>cases h;exact⟨t',rfl⟩
   |succ i=>exact ints_getD t i v h
def HY {l:AAL}(h:IntsAre l ns):Vals (ns.map V.int) l:=by
 induction h with
 |nil=>exact .nil
 |cons k tk _ ih=>exact .cons ⟨_,rfl⟩ ih
section
variable {X:Cx}{pins:AAG}{σ:St}{F H:Hp}{s:Shared}{v:V}{u:Value}{d:D}{ns:BBD}{Q:AAE}{E:AAE}
def HZ (hc:X.calm=true) (I:Inv X pins σ H s) (sb:Sub F H) (rd:Rep F v d) (ru:RelV v u) (h:SqD d ns)
  (k:∀h' tk,nC X.prog X.w h' s.heap.objs.size (vU (fun i=>ns.getD i 0) ns.length)->(∀b o,s.heap.get? b=some o->h'.get? b=some o)->Q (.ref s.heap.objs.size) {s with heap:=h',toks:=tk}):
  wpAny (model X.prog X.w) X.A (call (.type "set") [u]) Q E s:=by
 obtain⟨ds,hd,h5,hl⟩:=h;rcases hd with rfl|rfl
 ·obtain⟨a',vs',rfl,fa,oX⟩:=rd.iV;obtain rfl:=rS oX h5;cases ru;obtain⟨its,rv,pl,hz⟩:=I.tuple (.inl (.inl (sb _ _ fa)));have hil:its.length=ns.length:=by have:=rv.length;simpa using this.symm
  refine Af (k:=false) (ns:=ns) (I.ok.hd hc) pl (ints_getD rv) (by rw[hil];unfold scanBound;lia) fun h' tk hS hk=>?_;rw[hil] at hS;exact k h' tk hS fun b o e=>hk b o (aau e) e
 ·obtain⟨a',vs',rfl,fa,hla,oX⟩:=sb.iC rd;obtain rfl:=rS oX h5;cases ru;obtain⟨its,rv,pl,hz⟩:=I.list (.inl hla);have hil:its.length=ns.length:=by have:=rv.length;simpa using this.symm
  refine Af (k:=true) (ns:=ns) (I.ok.hd hc) pl.isList (ints_getD rv) (by rw[hil];unfold scanBound;lia) fun h' tk hS hk=>?_;rw[hil] at hS;exact k h' tk hS fun b o e=>hk b o (aau e) e
def Inv.drawn {h':Heap}{t':Nat}{d':Drawn}(I:Inv X pins σ H s) (k:∀b o,s.heap.get? b=some o->h'.get? b=some o):Inv X pins σ H {s with heap:=h',toks:=t',drawn:=d'}:=
 I.call (g':=s.gens) (ch:=[]) (Un.kept k) (I.hok.kept k) I.bare (fun _ z=>nomatch z)
end
section
variable {X:Cx}{a:Expr}{pos p p1 p2:Pos}{ga:GD}
def CZ (hc:X.calm=true) (hg1:Gl X "sorted") (hm1:X.mg "sorted" =none) (V7:Gl X "set") (hm2:X.mg "set" =none) (ha:JD X a ga)
  (hs1:starEach [.Call (.Name "set" p1) [a] [] p2] X.env=(false,eval (.Call (.Name "set" p1) [a] [] p2) X.env)::starEach [] X.env:=by rfl)
  (hs2:starEach [a] X.env=(false,eval a X.env)::starEach [] X.env:=by rfl):
  JE X (.Call (.Name "sorted" p) [.Call (.Name "set" p1) [a] [] p2] [] pos) (eP Bj (aa ga aA)):=⟨fun B=>by
 rintro pins s σ H Q I ⟨S,F,u,S',R,hg,q⟩;obtain⟨⟨dl,S1⟩,h1,hg⟩:=ah hg;obtain⟨w',h2,hg⟩:=aB hg;cases hg;obtain⟨⟨d,S2⟩,h3,h1⟩:=ah h1;obtain⟨⟨dr,S3⟩,h4,h1⟩:=aB h1;cases h4;cases h1;obtain⟨ns,hsq,rfl⟩:=EC h2;refine ac5 (nO I hg1 hm1 afq ?_ (by decide) (by decide));refine aeA ?_ hs1 rfl;rw[hs1];show wpAny _ _ (spliced ((false,eval (.Call (.Name "set" p1) [a] [] p2) X.env)::backTo pos (starEach [] X.env))) _ _ s;refine adT ?_;refine ac5 (nO I V7 hm2 PyProof.Rows.Boot.set ?_ (by decide) (by decide));refine adh (fE (gF (ha.h B) kO hs2 p2 pins s σ H (fun vs H1=>∃v F1,vs=[v]/\Rel X.K B S2 σ F1 H1/\Step S S2 σ F H F1 H1/\Rep F1 v d) I ⟨S,F,_,S2,R,h3,fun v F1 H1 R1 st1 r1=>⟨v,F1,rfl,R1,st1,r1⟩⟩) ?_) hs2 rfl;rintro us s1 ⟨vs,H1,I1,r1,v,F1,rfl,R1,st1,rd⟩;obtain⟨u',rfl,ru⟩:=vals1 r1;refine HZ hc I1 R1.sub rd ru hsq fun h' tk hS hk=>?_;refine afa ?_;have hlen:(vU (fun i=>ns.getD i 0) ns.length).length<64:=adi (Bg _ _) hsq.choose_spec.2.2;refine NL (I1.ok.hd hc) hS hlen fun g1 g2 d' tk2 n out ns' k1 k2 hi hp ho k3=>?_;have he:ns'=sortI ns:=PySem.W.ksm_same (hp.trans (sortI_perm ns).symm) ho (HX ns);subst he;have J:=I1.drawn (h':=g1) (t':=tk2) (d':=d') fun b o e=>k1 b o (hk b o e);have hp:=J.hok.fresh (aam _);have hv:Vals ((sortI ns).map V.int) out.toList:=HY hi;have n1:=gg.obj (F:=F1) hp (.lst ((sortI ns).map V.int));have s4:=R1.sub.same n1.same;have hr:∀l:BBD,bM F1 (l.map V.int) (l.map D.int):=fun l=>by
  induction l with
  |nil=>exact .nil
  |cons x l ih=>exact .cons (.int x) ih
 have hln:((sortI ns).map V.int).length<=sizeLine:=by
  rw[aah,(sortI_perm ns).length_eq];exact abl (adg hlen) (by decide)
 exact⟨.ref g1.objs.size,_,J.laid (a:=g1.objs.size) (o:=.lst ((sortI ns).map V.int)) (h':=g2) (t':=tk2) k2 (aam _) ⟨hln,out.toList,n,hv,by simpa using k3⟩,rfl,
  q _ F1 _ (R1.new n1 s4) (st1.trans n1.step) (zu.CB (u:=.m (.lst ((sortI ns).map D.int))) R1 st1 ⟨_,rfl,hp,R1.sub.fresh hp,(sortI ns).map V.int,aU,hr _⟩)⟩⟩
end
end L2
end
section
namespace L2
open PySem PySem.Spec PyProof.Rows
section
variable (S:SS)(d e:D)(o:MO)(i j:Nat)(g ga gb gc:GD)(ge:GE)(q q1 q2:GT)(gA:GA)(gu:GU)(a b:GS)(f f':List D->Option U)(fm:FM)(bd:GB)(gi:GI)
@[simp] theorem aaH:au i S=match S[i]? with|some (some (.t d))=>some (.t d,S)|some (some (.s d))=>some (.s d,S)|some (some (.f d))=>some (.f d,S)|some (some (.x C k))=>some (.x C k,S)|some (some _)=>some (.v i,S)|_=>none:=rfl
@[simp] theorem aen:eC d S=some (d,S):=rfl
@[simp] theorem aaI:aA S=some ([],S):=rfl
@[simp] theorem Yo:aa g gA S=(g S).bind fun p=>(gA p.2).map fun q=>(p.1::q.1,q.2):=rfl
@[simp] theorem aeo:eP f gA S=(gA S).bind fun p=>(f p.1).map fun u=>(u,p.2):=rfl
@[simp] theorem aep:eF ge S=(ge S).bind fun p=>fz p.1 p.2:=rfl
@[simp] theorem aer:eT g S=(g S).map fun p=>(.t p.1,p.2):=rfl
@[simp] theorem aaJ:fz (.t d) S=some (d,S):=rfl
@[simp] theorem aaK (ds:List D):fz (.m (.lst ds)) S=some (.lst ds,S):=rfl
@[simp] theorem aaL:fz (.v i) S=match S[i]? with|some (some (.t d))=>some (d,S)|some (some (.m (.lst ds)))=>some (.lst ds,S.set i (some (.t (.lst ds))))|_=>none:=rfl
@[simp] theorem aes:qB g S=(g S).bind fun p=>match p.1 with|.bl k=>some (k,p.2)|_=>none:=rfl
@[simp] theorem aaM:nT q S=(q S).map fun p=>(!p.1,p.2):=rfl
@[simp] theorem aaN:uM q1 q2 S=(q1 S).bind fun p=>if p.1 then q2 p.2 else some (false,p.2):=rfl
@[simp] theorem acC:Ue q1 q2 S=(q1 S).bind fun p=>if p.1 then some (true,p.2) else q2 p.2:=rfl
@[simp] theorem aet:eQ q S=(q S).map fun p=>(.bl p.1,p.2):=rfl
@[simp] theorem Yp:bQ S=some (true,S):=rfl
@[simp] theorem acD (g1 g2:GE):Kg q g1 g2 S=(q S).bind fun p=>if p.1 then g1 p.2 else g2 p.2:=rfl
@[simp] theorem aaO:cX S=some (.nx S):=rfl
@[simp] theorem d8:aP a b S=(a S).bind fun o=>match o with|.nx S1=>b S1|o=>some o:=rfl
@[simp] theorem aaP:cu i ge S=(ge S).bind fun p=>match p.1 with|.m o=>(pL i (.m o) p.2).map .nx|u=>(fz u p.2).bind fun q=>(pL i (.t q.1) q.2).map .nx:=rfl
@[simp] theorem bD (u:U):pL i u S=match S[i]? with|some (some (.b _))=>none|some _=>some (S.set i (some u))|none=>none:=rfl
@[simp] theorem Yq:j8 ge S=(ge S).map fun p=>.nx p.2:=rfl
@[simp] theorem aaQ:cG ge S=(ge S).bind fun p=>match p.1 with
 |.v i=>match p.2[i]? with
  |some (some (.t d))=>some (.rt (.t d) p.2)
  |some (some (.m o))=>some (.rt (.m o) (p.2.set i none))
  |_=>none
 |.s _=>none
 |.f _=>none
 |.x _ _=>none
 |u=>some (.rt u p.2):=rfl
@[simp] theorem acE:iZ q a b S=(q S).bind fun p=>if p.1 then a p.2 else b p.2:=rfl
@[simp] theorem aaR:Q9 bd g S=(g S).bind fun p=>(bd p.1 p.2).map .nx:=rfl
@[simp] theorem Yr:bName i d S=pL i (.t d) S:=rfl
@[simp] theorem aaS:iF bd gi a S=(gi S).bind fun p=>loop bd a p.1 p.2:=rfl
@[simp] theorem aaT:CD g S=(g S).bind fun p=>match p.1 with|.tup ds=>some (ds,p.2)|.lst ds=>some (ds,p.2)|_=>none:=rfl
@[simp] theorem NN:mV gA S=(gA S).bind fun p=>match p.1 with|[.int j]=>if j<1000000/\-1000000<j then some (iX 0 j.toNat,p.2) else none|_=>none:=rfl
@[simp] theorem FA:vN gA S=(gA S).bind fun p=>match p.1 with|[.int i,.int j]=>if i<1000000/\-1000000<i/\j<1000000/\-1000000<j then some (iX i (j-i).toNat,p.2) else none|_=>none:=rfl
@[simp] theorem Ry:loop bd a [] S=some (.nx S):=rfl
@[simp] theorem aaU:bO S=some ([],S):=rfl
@[simp] theorem aaV:aZ g gu S=(g S).bind fun p=>(gu p.2).map fun q=>(.t p.1::q.1,q.2):=rfl
@[simp] theorem aaW:cD ge gu S=(ge S).bind fun p=>(gu p.2).map fun q=>(p.1::q.1,q.2):=rfl
@[simp] theorem Ys:bu fm gu S=(gu S).bind fun p=>if(slotsOf p.1).Nodup/\cS p.1<=1 then(cH p.2 p.1).bind fun us=>(fm us).bind fun r=>(wb p.1 r.2 p.2).map fun S2=>(r.1,S2) else none:=rfl
@[simp] theorem Uq:cH S []=some []:=rfl
@[simp] theorem Rz (u:U) (us:List U):cH S (u::us)=(resolve S u).bind fun w=>(cH S us).map fun ws=>w::ws:=rfl
@[simp] theorem Yt:resolve S (.t d)=AAA d:=rfl
@[simp] theorem Yu:resolve S (.m o)=some (.b o):=rfl
@[simp] theorem Yv (ns:BBD):resolve S (.s ns)=some (.s ns):=rfl
@[simp] theorem Yw:resolve S (.v i)=match S[i]? with|some (some (.m o))=>some (.b o)|some (some (.b o))=>some (.b o)|_=>none:=rfl
@[simp] theorem Wy:slotsOf []=[]:=rfl
@[simp] theorem aaX (us:List U):slotsOf (.t d::us)=slotsOf us:=rfl
@[simp] theorem aaY (us:List U):slotsOf (.m o::us)=slotsOf us:=rfl
@[simp] theorem aaZ (ns:BBD) (us:List U):slotsOf (.s ns::us)=slotsOf us:=rfl
@[simp] theorem aa0 (us:List U):slotsOf (.v i::us)=i::slotsOf us:=rfl
@[simp] theorem Wz:cS []=0:=rfl
@[simp] theorem aa1 (us:List U):cS (.t d::us)=cS us:=rfl
@[simp] theorem aa2 (us:List U):cS (.m o::us)=cS us+1:=rfl
@[simp] theorem aa3 (ns:BBD) (us:List U):cS (.s ns::us)=cS us:=rfl
@[simp] theorem aa4 (us:List U):cS (.v i::us)=cS us:=rfl
@[simp] theorem WA:wb [] [] S=some S:=rfl
@[simp] theorem aa5 (us:List U) (os:List MO):wb (.t d::us) os S=wb us os S:=by cases os<;>rfl
@[simp] theorem aa6 (ns:BBD) (us:List U) (os:List MO):wb (.s ns::us) os S=wb us os S:=by cases os<;>rfl
@[simp] theorem aa7 (us:List U) (os:List MO):wb (.m o::us) (o'::os) S=wb us os S:=rfl
@[simp] theorem aa8 (us:List U) (os:List MO):wb (.v i::us) (o::os) S=match S[i]? with|some (some (.m _))=>wb us os (S.set i (some (.m o)))|some (some (.b _))=>wb us os (S.set i (some (.b o)))|_=>none:=rfl
@[simp] theorem aa9:cF i gb S=match S[i]? with|some (some _)=>(gb S).bind fun p=>(match p.2[i]? with|some (some u)=>(tR u p.1).map fun d=>(d,p.2)|_=>none)|_=>none:=rfl
@[simp] theorem aba:jQ i S=match S[i]? with|some (some u)=>(CM u).map fun n=>(.int (n:Nat),S)|_=>none:=rfl
@[simp] theorem aeu (h:List D->MO->Option (D×MO)):eM i h gA S=if VZ S i then(gA S).bind fun p=>pA p.2 i (h p.1) else none:=rfl
@[simp] theorem abb (gk gv:GD):zA i gk gv S=(gv S).bind fun p=>match p.2[i]? with|some (some _)=>(gk p.2).bind fun r=>(pA r.2 i fun o=>(rR o r.1 p.1).map fun o'=>(.cJ,o')).map fun z=>.nx z.2|_=>none:=rfl
@[simp] theorem acF (Ts:List String):Yk Ts g S=(g S).bind fun p=>(z7 Ts p.1).map fun b=>(.bl b,p.2):=rfl
@[simp] theorem RA (ds:List D) (k:Int):tR (.t (.tup ds)) (.int k)=d7 ds k:=rfl
@[simp] theorem RB (ds:List D) (k:Int):tR (.t (.lst ds)) (.int k)=d7 ds k:=rfl
@[simp] theorem RC (ds:List D) (k:Int):tR (.m (.lst ds)) (.int k)=d7 ds k:=rfl
@[simp] theorem RD (ds:List D) (k:Int):tR (.b (.lst ds)) (.int k)=d7 ds k:=rfl
@[simp] theorem RE (kvs:List (Key×D)) (k:D):tR (.b (.dct kvs)) k=(keyOf k).bind (bT kvs):=by cases k<;>rfl
@[simp] theorem Ur (ns:BBD) (k:Int):tR (.s ns) (.int k)=(d7 ns k).map D.int:=rfl
@[simp] theorem Yx (k:Int):keyOf (.int k)=some (.inl k):=rfl
@[simp] theorem Yy (k:Str):keyOf (.str k)=some (.inr k):=rfl
@[simp] theorem Us (ds:List D):CM (.t (.tup ds))=some ds.length:=rfl
@[simp] theorem Ut (ds:List D):CM (.t (.lst ds))=some ds.length:=rfl
@[simp] theorem Uu (ds:List D):CM (.m (.lst ds))=some ds.length:=rfl
@[simp] theorem Uv (ds:List D):CM (.b (.lst ds))=some ds.length:=rfl
@[simp] theorem WB (ns:BBD):CM (.s ns)=some ns.length:=rfl
@[simp] theorem acG (C:Int->Int->Bool) (h:Int->Int->D) (x y:Int):yX C h [.int x,.int y]=if C x y then AAA (h x y) else none:=rfl
@[simp] theorem WC (x y:Int):dO [.int x,.int y]=AAC (x+y):=rfl
@[simp] theorem WD (x y:Str):dO [.str x,.str y]=if x.length+y.length<=100000 then AAA (.str (x++y)) else none:=rfl
@[simp] theorem WE (x y:List D):dO [.tup x,.tup y]=if x.length+y.length<=100000 then AAA (.tup (x++y)) else none:=rfl
@[simp] theorem WG (x y:List D):dO [.lst x,.lst y]=if x.length+y.length<=100000 then AAB (x++y) else none:=rfl
@[simp] theorem RG (x y:Int):tG [.int x,.int y]=if((decide (-(2 ^ 64)<x) && decide (x<2 ^ 64)) || (decide (-(2 ^ 64)<y) && decide (y<2 ^ 64))) then AAC (x*y) else none:=rfl
@[simp] theorem abd (x:Int):Em [.int x]=AAC (-x):=rfl
@[simp] theorem abe (ds:List D):cM ds=if ds.length<=100000 then AAA (.tup ds) else none:=rfl
@[simp] theorem abf (ds:List D):dG ds=if ds.length<=100000 then AAB ds else none:=rfl
@[simp] theorem Yz (ds:List D) (k:Int):A6 [.tup ds,.int k]=(d7 ds k).map .t:=rfl
@[simp] theorem YA (ds:List D) (k:Int):A6 [.lst ds,.int k]=(d7 ds k).map .t:=rfl
@[simp] theorem PJ:ku [d,e]=if bV d<=40 then AAA (.bl (iS d e)) else none:=rfl
@[simp] theorem acH:Mq [d,e]=if bV d<=40 then AAA (.bl (!iS d e)) else none:=rfl
@[simp] theorem YB (x y z:Int):V8 [.int x,.int y,.int z]=AAC (if y<x then(if z<y then z else y) else if z<x then z else x):=rfl
@[simp] theorem WH (ds:List D):Ht [.tup ds]=AAC ds.length:=rfl
@[simp] theorem WI (ds:List D):Ht [.lst ds]=AAC ds.length:=rfl
@[simp] theorem Uw (ds:List D):nh [.tup ds]=AAB ds:=rfl
@[simp] theorem Ux (ds:List D):nh [.lst ds]=AAB ds:=rfl
@[simp] theorem RH (ds:List D):fU [.tup ds]=AAA (.tup ds):=rfl
@[simp] theorem RI (ds:List D):fU [.lst ds]=AAA (.tup ds):=rfl
@[simp] theorem abg (ds:List D):xA [.lst ds]=(i9 ds).map fun bs=>.t (.bl (bs.all id)):=rfl
@[simp] theorem abh (ds:List D):wm [.lst ds]=(i9 ds).map fun bs=>.t (.bl (bs.any id)):=rfl
@[simp] theorem FD:xG [d]=if Nq d then AAA (.str (toPy d).shown) else none:=rfl
@[simp] theorem YC (x y:Str):iS (.str x) (.str y)=(x == y):=by kernel_rfl
@[simp] theorem YD (x y:Int):iS (.int x) (.int y)=(x == y):=by kernel_rfl
@[simp] theorem YE (x y:Bool):iS (.bl x) (.bl y)=(x == y):=by kernel_rfl
@[simp] theorem YF (x:Str):bV (.str x)=0:=by kernel_rfl
@[simp] theorem YG (x:Int):bV (.int x)=0:=by kernel_rfl
@[simp] theorem YH (x:Bool):bV (.bl x)=0:=by kernel_rfl
@[simp] theorem abi (h:MO->Option (D×MO)):pA S i h=match S[i]? with|some (some (.m o))=>(h o).map fun r=>(r.1,S.set i (some (.m r.2)))|some (some (.b o))=>(h o).map fun r=>(r.1,S.set i (some (.b r.2)))|_=>none:=rfl
@[simp] theorem acI:VZ S i=match S[i]? with|some (some (.m (.lst _)))=>true|some (some (.b (.lst _)))=>true|_=>false:=rfl
@[simp] theorem Uy (kvs:List (Key×D)) (k:D):rR (.dct kvs) k d=(keyOf k).bind fun kk=>if kvs.length<100000 then some (.dct (putD kvs kk d)) else none:=rfl
@[simp] theorem Uz (ds:List D) (k:Int):rR (.lst ds) (.int k) d=(Hh ds.length k).map fun j=>.lst (ds.set j d):=rfl
@[simp] theorem WJ (ds:List D):hAppend [d] (.lst ds)=if ds.length<100000 then some (.cJ,.lst (ds++[d])) else none:=rfl
@[simp] theorem YI (us:List U) (o2:MO):aT (.b o2::us) (some (.b o)::S)=(aT us S).map fun os=>o::os:=rfl
@[simp] theorem FE (us:List U) (x:Option U):aT (.t d::us) (x::S)=aT us S:=by cases x<;>rfl
end
noncomputable def dP:Option U->Bool
 |some (.b _)=>true
 |_=>false
@[simp] theorem acJ:dP none=false:=rfl
@[simp] theorem acK (d:D):dP (AAA d)=false:=rfl
@[simp] theorem acL (o:MO):dP (some (.m o))=false:=rfl
def br (i:Nat) (u:U) (S:SS):pL i u S=(S[i]?).bind fun x=>if dP x then none else some (S.set i (some u)):=by
 unfold pL;cases S[i]? with
 |none=>rfl
 |some x=>cases x with
  |none=>rfl
  |some u=>cases u<;>rfl
end L2
end
section
namespace Sw
open PySem PySem.Spec PyProof.Rows L2
variable {n:Nat}{K:AAD}
@[simp] theorem WK (g:GD) (lo hi:Option GD) (S:SS):IQ g lo hi S=(g S).bind fun p=>(nu lo p.2).bind fun l=>(nu hi l.2).bind fun h=>(Nn p.1 l.1 h.1).map fun u=>(u,h.2):=rfl
@[simp] theorem abj (S:SS):nu none S=some (none,S):=rfl
@[simp] theorem abk (g:GD) (S:SS):nu (some g) S=(g S).bind fun p=>match p.1 with|.int i=>some (some i,p.2)|_=>none:=rfl
@[simp] theorem NO (ds:List D) (lo hi:BBM):Nn (.tup ds) lo hi=AAA (.tup (cutD ds lo hi)):=rfl
@[simp] theorem NP (ds:List D) (lo hi:BBM):Nn (.lst ds) lo hi=AAB (cutD ds lo hi):=rfl
@[simp] theorem YJ (z:Str) (lo hi:BBM):Nn (.str z) lo hi=if z.length<=100000 then AAA (.str (Txt.slice z lo hi)) else none:=rfl
theorem KS:∀(ts:List D) (S:SS),S.length=ts.length->aT (ts.map U.t) S=some []
 |[],S,_=>by cases S<;>rfl
 |d::ts,[],h=>by cases h
 |d::ts,x::S,h=>by
  show aT (U.t d::ts.map U.t) (x::S)=_;rw[FE];exact KS ts S (by simpa using h)
theorem PK (S:SS):∀ts:List D,cH S (ts.map U.t)=some (ts.map U.t)
 |[]=>rfl
 |d::ts=>by
  show(some (U.t d)).bind _=_;rw[PK S ts];rfl
theorem WL:∀ts:List D,slotsOf (ts.map U.t)=[]
 |[]=>rfl
 |d::ts=>WL ts
theorem WM:∀ts:List D,cS (ts.map U.t)=0
 |[]=>rfl
 |d::ts=>WM ts
theorem RJ (S:SS):∀ts:List D,wb (ts.map U.t) [] S=some S
 |[]=>rfl
 |d::ts=>RJ S ts
theorem nY {cap:BBJ}{q:GT}{g:GD}{S:SS}{ts:List D}(hc:dH S cap=some (ts.map U.t)) (p:D->Bool) (f:D->D):∀(ds acc:List D),
  (∀d∈ds,q (AAA d::ts.map fun x=>AAA x)=some (p d,AAA d::ts.map fun x=>AAA x))->(∀d∈ds,p d=true->g (AAA d::ts.map fun x=>AAA x)=some (f d,AAA d::ts.map fun x=>AAA x))->
  cg cap q g ds S acc=some (acc++(ds.filter p).map f,S)
 |[],acc,_,_=>by simp[cg]
 |d::ds,acc,hq,hg=>by
  have em:(ts.map U.t).map some=ts.map fun x=>some (U.t x):=by simp
  have eo:aT (.t d::ts.map U.t) (AAA d::ts.map fun x=>AAA x)=some []:=by rw[FE];exact KS ts _ (by simp)
  have q0:=hq d (aal);unfold cg;rw[hc];simp only[aad];rw[if_pos ⟨by rw[WL];exact ad2,by rw[WM];exact abH _⟩,PK];simp only[aad];rw[em,q0];simp only[aad];by_cases hp:p d=true
  ·rw[if_pos hp,hg d aal hp];simp only[aad];rw[eo];simp only[aad];rw[RJ];simp only[aad];rw[nY hc p f ds (acc++[f d]) (fun e he=>hq e (aaj _ he)) (fun e he=>hg e (aaj _ he)),afw hp];simp
  ·rw[if_neg hp,eo];simp only[aad];rw[RJ];simp only[aad];rw[nY hc p f ds acc (fun e he=>hq e (aaj _ he)) (fun e he=>hg e (aaj _ he)),afx hp]
def iD {cap:BBJ}{g:GD}{S:SS}{ts:List D}(hc:dH S cap=some (ts.map U.t)) (f:D->D) (ds acc:List D) (hg:∀d∈ds,g (AAA d::ts.map fun x=>AAA x)=some (f d,AAA d::ts.map fun x=>AAA x)):
  cg cap bQ g ds S acc=some (acc++ds.map f,S):=by
 rw[nY hc (fun _=>true) f ds acc (fun _ _=>rfl) (fun d hd _=>hg d hd),List.filter_eq_self.mpr (fun _ _=>rfl)]
@[simp] theorem tV (cap:BBJ) (gi:GI) (q:GT) (g:GD) (S:SS):cT cap gi q g S=(gi S).bind fun p=>if p.1.length<=100000 then(cg cap q g p.1 p.2 []).map fun r=>(.m (.lst r.1),r.2) else none:=rfl
def cU (g:GD) (S:SS):iA g S=(g S).bind fun p=>match p.1 with|.tup ds=>some (ds,p.2)|.lst ds=>some (ds,p.2)|.str z=>some (z.cps.toList.map fun c=>.str ⟨#[c]⟩,p.2)|_=>none:=rfl
theorem u5 {α:Type}(f:α->Bool):∀ds:List α,i9 (ds.map fun d=>.bl (f d))=some (ds.map f)
 |[]=>rfl
 |d::ds=>by simp[i9,u5 f ds]
def u6 {x:D}{z:Str}(h:iS (.str z) x=true):x= .str z:=by
 cases x<;>simp[iS] at h
 rw[h]
mutual
def Sane:D->Prop
 |.int i=>i.natAbs<10 ^ 30
 |.str z=>∀c∈z.cps.toList,c<16 ^ 8
 |.tup ds=>pT ds
 |.lst ds=>pT ds
 |.cJ=>True
 |.bl _=>True
def pT:List D->Prop
 |[]=>True
 |d::ds=>Sane d/\pT ds
end
mutual
noncomputable def wD:D->Nat
 |.cJ=>6
 |.bl _=>6
 |.int _=>40
 |.str z=>10*z.length+2
 |.tup ds=>IS ds+4
 |.lst ds=>IS ds+4
noncomputable def IS:List D->Nat
 |[]=>0
 |d::ds=>wD d+2+IS ds
end
def Ia (s:String):(Str.ofString s).length=s.length:=PySem.ofString_length s
theorem FF:∀(ts:BBB) (k:Nat) (acc:Str),(textFrom k acc ts).length<=acc.length+piled ts
 |[],k,acc=>aam _
 |t::ts,k,acc=>by
  have ih:=FF ts (k+1) (acc++(if k > 0 then ", " else "":String)++t);have e:(acc++(if k > 0 then ", " else "":String)++t).length<=acc.length+2+t.length:=by
   rw[aed,aed];split
   ·show acc.length+2+t.length<=_;lia
   ·show acc.length+0+t.length<=_;lia
  rw[piled_cons];show(textFrom (k+1) _ ts).length<=_;lia
mutual
theorem shown_le:∀d:D,Sane d->(toPy d).shown.length<=wD d
 |.cJ,_=>by show(Str.ofString "None").length<=6;decide
 |.bl b,_=>by cases b<;>(show(Str.ofString _).length<=6;decide)
 |.int i,h=>by
  show(Str.ofString (toString i)).length<=40;rw[Ia];exact abl (int_text_length_le10 (k:=30) (by decide) h) (by decide)
 |.str z,h=>PySem.StrLaws.reprText_len z h
 |.tup ds,h=>by
  have k:=u9 ds h;show(tupleText (PyData.shownAll (g6 ds))).length<=IS ds+4;unfold tupleText;rw[aed,aed];have e1:("(":Str).length=1:=rfl;have e2:((if(PyData.shownAll (g6 ds)).length == 1 then ",)" else ")":String):Str).length<=2:=by split<;>decide
  by_cases hn:PyData.shownAll (g6 ds)=[]
  ·rw[hn] at e2 ⊢;have e3:(Str.join ", " []).length=0:=rfl;lia
  ·have:=join_length_add _ hn;lia
 |.lst ds,h=>by
  have k:=u9 ds h;show(listText (PyData.shownAll (g6 ds))).length<=IS ds+4;unfold listText;rw[aed];have e1:=FF (PyData.shownAll (g6 ds)) 0 "[";have e2:("[":Str).length=1:=rfl;have e3:("]":Str).length=1:=rfl;lia
theorem u9:∀ds:List D,pT ds->piled (PyData.shownAll (g6 ds))<=IS ds
 |[],_=>aam _
 |d::ds,h=>by
  show piled ((toPy d).shown::PyData.shownAll (g6 ds))<=wD d+2+IS ds;rw[piled_cons];have:=shown_le d h.1;have:=u9 ds h.2;lia
end
mutual
theorem vV:∀d:D,Sane d->(toPy d).showable=true
 |.cJ,_=>rfl
 |.bl b,_=>rfl
 |.int i,h=>by
  show decide (i.natAbs.log2<1920)=true;rw[aci];by_cases hz:i.natAbs=0
  ·rw[hz];decide
  ·exact(Nat.log2_lt hz).mpr (aeB h (aaE (show(10:Nat) ^ 30<2 ^ 100 by decide) (acy (by decide) (by decide))))
 |.str z,_=>rfl
 |.tup ds,h=>by show PyData.showableAll (g6 ds)=true;exact nZ ds h
 |.lst ds,h=>by show PyData.showableAll (g6 ds)=true;exact nZ ds h
theorem nZ:∀ds:List D,pT ds->PyData.showableAll (g6 ds)=true
 |[],_=>rfl
 |d::ds,h=>by
  show((toPy d).showable && PyData.showableAll (g6 ds))=true;rw[vV d h.1,nZ ds h.2];rfl
end
mutual
theorem depth_eq:∀d:D,(toPy d).depth=bV d
 |.cJ=>rfl
 |.bl _=>rfl
 |.int _=>rfl
 |.str _=>rfl
 |.tup ds=>by show PyData.depthAll (g6 ds)+1=bF ds+1;rw[vc ds]
 |.lst ds=>by show PyData.depthAll (g6 ds)+1=bF ds+1;rw[vc ds]
theorem vc:∀ds:List D,PyData.depthAll (g6 ds)=bF ds
 |[]=>rfl
 |d::ds=>by show max (toPy d).depth (PyData.depthAll (g6 ds))=max (bV d) (bF ds);rw[depth_eq d,vc ds]
end
theorem pT.of:∀{ds:List D},(∀d∈ds,Sane d)->pT ds
 |[],_=>True.intro
 |d::ds,h=>⟨h d aal,pT.of fun e he=>h e (aaj _ he)⟩
def C0 {ds:List D}(h:∀d∈ds,bV d<=n):bF ds<=n:=by
 induction ds with
 |nil=>exact abH _
 |cons d ds ih=>
  show max (bV d) (bF ds)<=n;have:=h d aal;have:=ih fun e he=>h e (aaj _ he);lia
structure Good (n k:Nat) (d:D):Prop where
 iT:Sane d
 w:wD d<=n
 dep:bV d<=k
def Good.mono {k n' k':Nat}{d:D}(h:Good n k d) (a:n<=n') (b:k<=k'):Good n' k' d:=⟨h.iT,abl h.w a,abl h.dep b⟩
noncomputable def Bk (n:Nat):FM
 |[.s ns]=>if ns.length<=n then some (.t (.bl true),[]) else none
 |_=>none
def RK {P:Program}{w:World}{mg:AAF}{base:Heap}{f:Addr}{fd:FuncData}{k:Nat}{ps:BBB}{fm:FM}(h:∀us,fm us=none):kP P w K mg base zV n f fd ps (spT K k fm):=by
 have no:∀vs H Q E,¬spT K k fm vs H Q E:=fun vs H Q E ⟨_,F,us,r,outs,_,_,_,e,_⟩=>by rw[h us] at e;cases e
 exact⟨fun vs H Q E h=>absurd h (no vs H Q E),fun A outer s H args us vs Q E _ _ _ _ h=>absurd h (no vs H Q E)⟩
def RL {H:Hp}{a:Addr}{ns:BBD}{E:XK}(hl:ns.length<=n) (hO:MY H) (hS:mQ K H a (ns.map V.int)):spT K 1 (Bk n) [.ref a] H (fun v _=>v= .bl true) E:=by
 have sc:M7 K H a ns:=by
  rcases hS with(h|h)|h
  ·rcases hO a with z|⟨o,xs,z⟩
   ·rw[h] at z;cases z
   ·rw[h] at z;cases z
  ·exact .inl h
  ·exact .inr h
 exact⟨rfl,fun _=>none,[.s ns],.t (.bl true),[],(fun b o z=>by cases z),.cons ⟨a,rfl,sc⟩ .nil,ad2,by simp[Bk,hl],fun v F' H' _ r=>l8 r⟩
end Sw
end
section
namespace L2
open PySem PySem.Spec PyProof.Rows
variable {x:Str}{st:Stmt}{od an:BBN}{osl:Array (BBP)}{doc cdv:Value}{N ps:BBB}
section
variable {X:Cx}{e elt iter:Expr}{ifs:BBC}{b:Expr}{g:GE}{gd gb:GD}{gi:GI}{q:GT}{x y:Str}{p pos pos' px py spos:Pos}{k:Nat}{scope:Scope}{cl:List (Str×Addr)}{bL:BBB}{cap:BBJ}
def zs (hN:X.N.Nodup) (i:Nat) (he:JE X e g) (hi:X.N[i]? =some x:=by rfl) (hx:Loc X.env.scope x:=by first|exact Or.inl rfl|exact Or.inr rfl) (hs:swapsWith e (some (.Name x pos')) pos.line X.env=pure false:=by rfl)
  (hf:X.fn x=true\/X.env.scope.names.lookup x=some .local:=by first|exact .inl rfl|exact .inr rfl):JS X (.Assign [.Name x pos'] e pos) (cu i g):=Q8 hN hi hx he hs hf
def zg (hN:X.N.Nodup) (i:Nat) (hi:X.N[i]? =some x:=by rfl) (hx:Loc X.env.scope x:=by first|exact Or.inl rfl|exact Or.inr rfl) (hf:X.fn x=true\/X.env.scope.names.lookup x=some .local:=by first|exact .inl rfl|exact .inr rfl):JG X (.Name x pos) (bName i):=Nc hN hi hx hf
def zc (hN:X.N.Nodup) (i:Nat) (T:eO X x bL cap scope cl) (hi:JI X (.Name x px) iter gi) (ht:∀C s H fp,Ng (cj X (x::bL) scope cl C s H fp) ifs q) (he:∀C s H fp,JD (cj X (x::bL) scope cl C s H fp) elt gd)
  (hy:X.N[i]? =some y:=by rfl) (hx:Loc X.env.scope y:=by first|exact Or.inl rfl|exact Or.inr rfl) (hc:X.calm=true:=by rfl)
  (hsw:swapsWith (.ListComp elt [⟨.Name x px,iter,ifs,0⟩] scope pos) (some (.Name y py)) spos.line X.env=pure true:=by rfl) (hf:X.fn y=true\/X.env.scope.names.lookup y=some .local:=by first|exact .inl rfl|exact .inr rfl)
  (hs:∀x,foldedSetIterable iter X.env x=pure x:=by intro _;rfl):JS X (.Assign [.Name y py] (.ListComp elt [⟨.Name x px,iter,ifs,0⟩] scope pos) spos) (cu i (cT cap gi q gd)):=Kq hN hy hx T hc hi ht he hsw hf hs
def ys (hr:gD k X.A) (i:Nat) (hb:JD X b gb) (hs:qI b:=by first|(intro _ _;rfl)) (hN:X.N[i]? =some x:=by rfl) (hv:qV X.env.scope x:=by first|exact Or.inl rfl|exact Or.inr (Or.inl rfl)|exact Or.inr (Or.inr rfl))
  (hd:BBT x:=by decide) (hcd:BBU x:=by decide):JD X (.Subscript (.Name x px) b pos) (cF i gb):=Rn (lO hr) hb hs hN hv hd hcd
def jv (i:Nat) (hN:X.N[i]? =some x:=by rfl) (hv:qV X.env.scope x:=by first|exact Or.inl rfl|exact Or.inr (Or.inl rfl)|exact Or.inr (Or.inr rfl)) (hd:BBT x:=by decide)
  (hcd:BBU x:=by decide):JD X (.Name x pos) (eF (au i)):=(bw i hN hv hd hcd).d
def cp (h1:∀y∈scope.names,y.2≠.free:=by decide) (h2:∀y∈scope.names,y.2≠.cell:=by decide) (h3:scope.kind= .function:=by rfl) (h4:∀y∈scope.names,y.2= .local->scope.names.lookup y.1=some .local:=by decide) (h5:scope.names.lookup x=some .local:=by rfl):
  eO X x [] [] scope []:=Ei h1 h2 h3 h4 h5
def cc {c:Addr}(i:Nat) (clos:closureFor scope X.env=pure [(y,c)]:=by rfl) (kQ:∀z∈scope.names,z.2≠.cell:=by decide) (kind:scope.kind= .function:=by rfl) (names:∀z∈scope.names,z.2= .local->scope.names.lookup z.1=some .local:=by decide)
  (loc:scope.names.lookup x=some .local:=by rfl) (hc:X.env.cells.lookup y=some c:=by rfl) (only:∀z∈scope.names,z.2= .free->z.1=y:=by decide) (ne:x≠y:=by decide) (hN:X.N[i]? =some y:=by rfl) (vis:X.env.scope.names.lookup y=some .cell:=by rfl) (rel:(relabel scope X.env).names.lookup y=some .cell:=by rfl):
  eO X x [y] [i] scope [(y,c)]:=Ku clos kQ kind names loc hc only ne hN vis rel
def cs (bL:BBB) (cap:BBJ) (clos:closureFor scope X.env=pure cl:=by rfl) (kQ:∀z∈scope.names,z.2≠.cell:=by decide) (kind:scope.kind= .function:=by rfl) (names:∀z∈scope.names,z.2= .local->scope.names.lookup z.1=some .local:=by decide)
  (loc:scope.names.lookup x=some .local:=by rfl) (hc:cl.map (fun p=>X.env.cells.lookup p.1)=cl.map (fun p=>some p.2):=by rfl) (only:∀z∈scope.names,z.2= .free->z.1∈bL:=by decide) (hcl:cl.map (·.1)=bL.reverse\/cl.map (·.1)=bL:=by first|exact Or.inl rfl|exact Or.inr rfl) (nd:(x::bL).Nodup:=by decide)
  (slot:cap.map (fun i=>X.N[i]?)=bL.map some:=by rfl) (vis:bL.map (fun n=>X.env.scope.names.lookup n)=bL.map fun _=>some .cell:=by rfl) (rel:bL.map (fun n=>(relabel scope X.env).names.lookup n)=bL.map fun _=>some .cell:=by rfl):
  eO X x bL cap scope cl:=Ew clos kQ kind names loc hc only hcl nd slot vis rel
end
section
variable {P:Program}{w:World}{K:AAD}{mg:AAF}{base:Heap}{h:Heap}
structure Df (K:AAD) (mg:AAF) (x:Str) (st:Stmt):Prop where
 ex:∃f fd,Mm K x x st f fd/\mg x=some (.ref f)
def WN {f:Addr}{oc:Value}{kV pm ct:Value}(X:K.In h) (G:h.Ns mainGlobals mg) (a:PySem.W.nsIn K mainGlobals x=some (some (.ref f)))
  (l:K.lookup f=some ⟨oc,od,.func (PySem.W.fnOf x x (lN st) (fV st) (aV st) .none kV doc pm an cdv ct),osl⟩) (c:PySem.W.codeIn K cdv x=true) (k:PySem.W.keepIn K (.ref f)=true):Df K mg x st:=
 ⟨_,_,JZ l c k,afB X G a⟩
structure tW (P:Program) (w:World) (K:AAD) (mg:AAF) (base:Heap) (n:Nat) (x:Str) (ps:BBB) (fm:FM):Prop where
 ex:∃a d,kP P w K mg base zV n a d ps (spT K ps.length fm)/\Binds K d ps []/\PySem.W.keepIn K (.ref a)=true/\mg x=some (.ref a)
def tW.mono {j k:Nat}{x:Str}{ps:BBB}{fm:FM}(c:tW P w K mg base j x ps fm) (h:j<=k):tW P w K mg base k x ps fm:=
 let⟨a,d,G,r⟩:=c.ex;⟨a,d,G.mono h,r⟩
def Bd (x:Str) (st:Stmt) (ps:BBB):Prop:=∀(kV doc pm:Value) (an:BBN) (cdv ct:Value) (us:AAL),us.length=ps.length->bindArgs (PySem.W.fnOf x x (lN st) (fV st) (aV st) .none kV doc pm an cdv ct) ⟨us,[]⟩=pure (ps.zip us)
def sI {sc:Scope}(a:sc.kind= .function:=by rfl) (b:sc.isCoroutine=false:=by rfl) (c:sc.isGenerator=false:=by rfl) (d:N.Nodup:=by decide +kernel) (e:N.take ps.length=ps:=by rfl)
  (f:∀x∈ps,sc.names.lookup x=some .local\/sc.names.lookup x=some .cell:=by decide +kernel) (g:∀y∈sc.names,y.2≠.free:=by decide +kernel):bR N ps sc:=⟨a,b,c,d,e,f,g⟩
def yZ {k:Nat}{fm:FM}{g:GS}(D:Df K mg x st) (Sc:bR N ps (aV st))
  (hf:∀us r,fm us=some r->bH N.length g us=some r)
  (hb:∀(f:Addr) (cdv:Value) (A:Around) (outer:BBF) (s:Shared) (H:Hp) (E:XK),gD k (A.deeper (envOfC x (aV st) s.heap.objs.size f cdv))->JB (wW zV P w K mg base N x (aV st) f cdv A outer s H E).ME (fV st) g)
  (bd:Bd x st ps:=by intro _ _ _ _ _ _ us hl;rcases us with _|⟨_,_|⟨_,_|⟨_,_|⟨_,_|⟨_,_|⟨_,_|⟨_,_⟩⟩⟩⟩⟩⟩⟩<;>first|rfl|cases hl):tW P w K mg base (k+1) x ps fm:=by
 obtain⟨f,fd,F,m⟩:=D.ex;exact⟨f,fd,okT F Sc (hb f) hf,F.binds bd,F.kp,m⟩
end
section
variable {X:Cx}{e:Expr}{es:BBC}{gu:GU}{x:Str}{p pos:Pos}{k j:Nat}{ps:BBB}{fm:FM}
def jc (c:tW X.prog X.w X.K X.mg X.base j x ps fm) (hr:gD k X.A) (ha:JU X (e::es) gu) (hj:j<=k:=by lia) (hg:Gl X x:=by rfl) (hn:(e::es).length=ps.length:=by rfl)
  (hdb:BBT x:=by decide) (he:starEach (e::es) X.env=(false,eval e X.env)::starEach es X.env:=by rfl) (hpl:(backTo pos (starEach es X.env)).any (·.1)=false:=by rfl):
  JE X (.Call (.Name x p) (e::es) [] pos) (bu fm gu):=by
 obtain⟨a,d,G,b,kp,m⟩:=c.ex;exact Nd (G.mono hj) hr hg m kp b ha hn hdb he hpl
end
section
variable {P:Program}{w:World}{K:AAD}{mg:AAF}{base:Heap}{h:Heap}{C:Addr}{m q x:Str}{st:Stmt}{ps:BBB}{fm:FM}
def Bm {n:Nat}(D:Df K mg x st) (z:∀us,fm us=none) (bd:Bd x st ps:=by intro _ _ _ _ _ _ us hl;rcases us with _|⟨_,_|⟨_,_|⟨_,_|⟨_,_|⟨_,_|⟨_,_|⟨_,_⟩⟩⟩⟩⟩⟩⟩<;>first|rfl|cases hl):tW P w K mg base n x ps fm:=by
 obtain⟨f,fd,F,m⟩:=D.ex;exact⟨f,fd,Sw.RK z,F.binds bd,F.kp,m⟩
structure ED (K:AAD) (C:Addr) (m q:Str) (st:Stmt):Prop where
 ex:∃f fd,Mm K m q st f fd/\Meth K C m f
def RM {f:Addr}{oc:Value}{kV pm ct:Value}(a:PySem.W.findIn K (.ref C) m=some (some (.ref f)))
  (l:K.lookup f=some ⟨oc,od,.func (PySem.W.fnOf m q (lN st) (fV st) (aV st) .none kV doc pm an cdv ct),osl⟩) (c:PySem.W.codeIn K cdv q=true) (k:PySem.W.keepIn K (.ref f)=true) (y:PySem.W.isFn K (.ref f)=true):ED K C m q st:=
 ⟨_,_,JZ l c k,a,y,k⟩
def BdM (x q:Str) (st:Stmt) (ps:BBB):Prop:=∀(kV doc pm:Value) (an:BBN) (cdv ct:Value) (us:AAL),us.length=ps.length->bindArgs (PySem.W.fnOf x q (lN st) (fV st) (aV st) .none kV doc pm an cdv ct) ⟨us,[]⟩=pure (ps.zip us)
structure WO (K:AAD) (mg:AAF) (x:Str) (C:Addr):Prop where
 nm:mg x=some (.ref C)
 mks:PySem.W.makesIn K C=true
 kp:PySem.W.keepIn K (.ref C)=true
def RN (X:K.In h) (G:h.Ns mainGlobals mg) (a:PySem.W.nsIn K mainGlobals x=some (some (.ref C))) (b:PySem.W.makesIn K C=true) (c:PySem.W.keepIn K (.ref C)=true):WO K mg x C:=⟨afB X G a,b,c⟩
end
def Inv.gh {X:Cx}{pins:AAG}{σ σ':St}{H:Hp}{s:Shared}(I:Inv X pins σ H s) (hl:σ'.length=σ.length) (h:∀(i:Nat) x,X.N[i]? =some x->qV X.env.scope x->σ'[i]? =σ[i]?):Inv X pins σ' H s:=
 ⟨I.ok,I.os,I.bare,I.base,let⟨m,a,b⟩:=I.loc;⟨m,a,fun i x v h1 h2 h3=>b i x v h1 (by rw[<-h i x h1 h3];exact h2) h3⟩,I.cell,I.free,I.lM,I.pin,I.hok,by rw[hl];exact I.len⟩
inductive tGh (X:Cx) (t:TS) (D:Ends) (σ:St) (H:Hp):Prop
 |mk (σ':St) (hl:σ'.length=σ.length) (he:∀(i:Nat) x,X.N[i]? =some x->qV X.env.scope x->σ'[i]? =σ[i]?) (q:t D σ' H)
def zh.gh {X:Cx}{st:BBH}{t:TS}(h:zh X st t):zh X st (tGh X t):=fun pins s σ H D I q=>by
 obtain⟨σ',hl,he,q⟩:=q;exact h pins s σ' H D (I.gh hl he) q
def spG (K:AAD) (n ng:Nat) (f:FM):Sp:=fun vs H Q _=>vs.length=n/\∃gv F us r outs,gv.length=ng/\Sub F H/\Paired (Hx K F H) (vs++gv) us/\(addrs (vs++gv) us).Nodup/\f us=some (r,outs)/\∀v F' H',Post F H F' H' (addrs (vs++gv) us) outs->zu H F' H' v r->Q v H'
def KU {sc:Scope}{vs gv:List V}(hl:vs.length=ps.length) (hn:ps.length+gv.length<=N.length) (hg:∀x∈(N.drop ps.length).take gv.length,sc.names.lookup x=none):(start N (vs++gv)).length=(start N vs).length/\∀(i:Nat) x,N[i]? =some x->qV sc x->(start N (vs++gv))[i]? =(start N vs)[i]?:=by
 refine⟨by simp only[start,aan,aah,List.length_replicate];lia,fun i x hN hv=>?_⟩;have hi:=(aaD.mp hN).1;unfold start;by_cases h1:i<vs.length
 ·rw[ab1 (by simp;lia),ab1 (by simpa using h1),abx,abx,ab1 h1]
 ·by_cases h2:i<vs.length+gv.length
  ·have:x∈(N.drop ps.length).take gv.length:=by
    refine abK (i:=i-ps.length) ?_;rw[List.getElem?_take,if_pos (by lia),List.getElem?_drop,<-hl,Nat.add_sub_cancel' (by lia)];exact hN
   have:=hg x this;rcases hv with z|z|z<;>(rw[this] at z;cases z)
  ·rw[ado (by simp;lia),ado (by simp;lia),ady,ady,if_pos (by simp;lia),if_pos (by simp;lia)]
section
variable {P:Program}{w:World}{K:AAD}{mg:AAF}{base:Heap}
def abm {qual:Str}{f:Addr}{fd:FuncData}{k ng:Nat}{fm:FM}{g:GS}(F:Mm K x qual st f fd) (Sc:bR N ps (aV st)) (hn:ps.length+ng<=N.length) (hgs:∀x∈(N.drop ps.length).take ng,(aV st).names.lookup x=none)
  (hb:∀(cdv:Value) (A:Around) (outer:BBF) (s:Shared) (H:Hp) (E:XK),gD k (A.deeper (envOfC qual (aV st) s.heap.objs.size f cdv))->JB (wW zV P w K mg base N qual (aV st) f cdv A outer s H E).ME (fV st) g)
  (hf:∀us r,fm us=some r->bH N.length g us=some r):kP P w K mg base zV (k+1) f fd ps (spG K ps.length ng fm):=by
 refine F.ok Sc (fun vs H Q E h=>h.1) fun cdv A outer s H vs Q E hr h=>?_;obtain⟨hlen,gv,F0,us,r,outs,gl,sb,ar,nd,hfm,q⟩:=h;have hrun:=hf us (r,outs) hfm;have J:=hb cdv A outer s H E hr;subst gl;obtain⟨s1,s2⟩:=KU (sc:=aV st) hlen hn hgs;refine⟨_,(J.h ⟨lent (vs++gv) us,F0,H⟩).gh,start N (vs++gv),s1,s2,?_⟩;have R0:=mY sb ar nd N rfl;obtain⟨o,ho,hrun⟩:=ah hrun;refine⟨_,F0,o,R0,ho,?_⟩;have post:=post_of ar;cases o with
 |bk S'=>cases hrun
 |ct S'=>cases hrun
 |nx S'=>
  obtain⟨os,h1,h2⟩:=aB (show(aT us S').map _=some (r,outs) from hrun);cases h2;exact fun σ' F' H' R' le=>q .cJ F' H' (post S' σ' F' H' outs R' h1) .cJ
 |rt u S'=>
  cases u with
  |b o=>cases hrun
  |v i=>cases hrun
  |s i=>cases hrun
  |f i=>cases hrun
  |x cx kx=>cases hrun
  |t d=>
   obtain⟨os,h1,h2⟩:=aB (show(aT us S').map _=some (r,outs) from hrun);cases h2;exact fun v σ' F' H' R' le rr=>q v F' H' (post S' σ' F' H' outs R' h1) rr
  |m o=>
   obtain⟨os,h1,h2⟩:=aB (show(aT us S').map _=some (r,outs) from hrun);cases h2;exact fun v σ' F' H' R' le rr=>q v F' H' (post S' σ' F' H' outs R' h1) (by obtain⟨a,e,h0,f,h,n,hB⟩:=rr;exact⟨a,e,hB,f,h⟩)
end
noncomputable def UA (gu:GU) (gh:BBJ):GU:=fun S=>(gu S).map fun p=>(p.1++gh.map U.v,p.2)
theorem tX {S:SS}:∀{a b ws:List U},cH S (a++b)=some ws->∃w2,cH S b=some w2
 |[],_,ws,h=>⟨ws,h⟩
 |u::a,b,ws,h=>by
  obtain⟨w,h1,h⟩:=ah h;obtain⟨ws',h2,h⟩:=aB h;exact tX (a:=a) h2
theorem FG {K:AAD}{B:Base}{S:SS}{σ:St}{H0 F H:Hp}(R:Rel K B S σ F H):∀(gh:BBJ){ws:List U},cH S (gh.map U.v)=some ws->∃gv,gv.length=gh.length/\Paired (fun v u=>iY K B S σ H0 F H v u) gv (gh.map U.v)
 |[],_,_=>⟨[],rfl,.nil⟩
 |i::gh,ws,h=>by
  obtain⟨w,h1,h⟩:=ah h;obtain⟨ws',h2,h⟩:=aB h;obtain⟨gv,l,p⟩:=FG R gh h2;obtain⟨u,o,hS,_⟩:=mX h1;obtain⟨v,k1,_⟩:=R.rep i u hS;exact⟨v::gv,congrArg Nat.succ l,.cons ⟨k1,u,hS⟩ p⟩
theorem ya {α β:Type}{P:α->β->Prop}:∀{a c:List α}{b d:List β},Paired P a b->Paired P c d->Paired P (a++c) (b++d)
 |_,_,_,_,.nil,q=>q
 |_,_,_,_,.cons p ps,q=>.cons p (ya ps q)
def aex (S:SS) (i:Nat) (k:Int):BBN:=match S[i]? with
 |some (some (.m (.gap es)))=>(d7 es k).bind Sum.getRight?
 |some (some (.b (.gap es)))=>(d7 es k).bind Sum.getRight?
 |_=>none
noncomputable def WQ (c:Addr) (h:List D->MO->Option (D×MO)) (args:List D):MO->Option (D×MO)
 |.lat c' ds=>if c'=c then match h args (.lst ds) with
  |some (d,.lst ds')=>some (d,.lat c ds')
  |_=>none else none
 |_=>none
noncomputable def FH (S:SS) (j:Nat) (c:Addr):Bool:=match S[j]? with
 |some (some (.m (.lat c' _)))=>c' == c
 |some (some (.b (.lat c' _)))=>c' == c
 |_=>false
def KW {K:AAD}{B:Base}{S:SS}{σ:St}{F H:Hp}{j:Nat}{c:Addr}(R:Rel K B S σ F H) (h:FH S j c=true):σ[j]? =some (some (.ref c))/\∃vs,H c=some (.lst vs):=by
 unfold FH at h;split at h
 ·rename_i c' ds e;obtain⟨v,k1,a,rfl,f,vs,⟨rfl,k2⟩,k3⟩:=R.rep j _ e;cases eq_of_beq h;exact⟨k1,vs,k2⟩
 ·rename_i c' ds e;obtain⟨v,k1,a,rfl,f,vs,⟨rfl,k2⟩,k3⟩:=R.rep j _ e;cases eq_of_beq h;exact⟨k1,vs,k2⟩
 ·cases h
end L2
end
section
namespace L2
open PySem PySem.Spec PyProof.Rows PySem.Calls PyProof.V
def leX (a b:Str):Prop:=¬b.cps.toList<a.cps.toList
noncomputable instance YK (a b:Str):Decidable (leX a b):=inferInstanceAs (Decidable (¬b.cps.toList<a.cps.toList))
end L2
end
section
namespace L2
open PySem PySem.Spec PyProof.Rows
section
variable {S:SS}{σ:St}
def vd {j:Nat}{u:U}{c a:Addr}(h:cQ (S.set j (some u)) (σ.set j (some (.ref c))) a):a=c\/cQ S σ a:=by
 obtain⟨i,w,h1,hm,h2⟩:=h;rcases get_set h1 with⟨rfl,_,_⟩|⟨ne,q⟩
 ·rcases get_set h2 with⟨_,z,_⟩|⟨ne,_⟩
  ·cases z;exact .inl rfl
  ·exact absurd rfl ne
 ·rw[abv ne] at h2;exact .inr ⟨i,w,q,hm,h2⟩
end
open Classical in
noncomputable def yc (f:Addr->Addr->Option Out):Option Out:=if h:∃r,∀c d,f c d=some r then some (Classical.choose h) else none
def C1 {f:Addr->Addr->Option Out}{r:Out}(h:yc f=some r) (c d:Addr):f c d=some r:=by
 unfold yc at h;split at h
 ·rename_i hx;cases h;exact adl hx c d
 ·cases h
def Ib {f:Addr->Addr->Option Out}{r:Out}(h:∀c d,f c d=some r):yc f=some r:=by
 unfold yc;rw[dif_pos ⟨r,h⟩];have:=adl (⟨r,h⟩:∃r,∀c d,f c d=some r) 0 0;rw[h 0 0] at this;exact congrArg some (abJ this).symm
section
variable {σ:St}{i j k:Nat}{x:List D}
def KY {N:BBB}{sc:Scope}{c d p:Addr}{zj zk:Str}(hj:N[j]? =some zj) (hk:N[k]? =some zk) (lj:sc.names.lookup zj=none) (lk:sc.names.lookup zk=none):
  (((σ.set j (some (.ref c))).set k (some (.ref d))).set i (some (.ref p))).length=(σ.set i (some (V.ref p))).length/\∀(m:Nat) x,N[m]? =some x->qV sc x->(((σ.set j (some (.ref c))).set k (some (.ref d))).set i (some (.ref p)))[m]? =(σ.set i (some (V.ref p)))[m]?:=by
 refine⟨by simp only[ac6],fun m x hm hv=>?_⟩;have nj:j≠m:=fun e=>by
  subst e;rw[hj] at hm;cases hm;rcases hv with z|z|z<;>(rw[lj] at z;cases z)
 have nk:k≠m:=fun e=>by
  subst e;rw[hk] at hm;cases hm;rcases hv with z|z|z<;>(rw[lk] at z;cases z)
 by_cases e:i=m
 ·subst e;by_cases hl:i<σ.length
  ·rw[ace (by simpa using hl),ace hl]
  ·rw[acN (by simpa using hl),acN (by simpa using hl)]
 ·rw[abv e,abv e,abv nk,abv nj]
end
section
variable {X:Cx}
def Ic {x y:Int}(hx:0<=x) (hy:0<=y):Builtin.bitOr x y=((x.toNat ||| y.toNat:Nat):Int):=by
 rw[bitOr_and,bitAnd_pp hx hy];have:=nat_or_add_and x.toNat y.toNat;lia
def KZ:List D->Option U:=yX (fun i j=>decide (0<=i) && decide (0<=j)) fun i j=>.int ((i.toNat ||| j.toNat:Nat):Int)
def FI:xj X (binaryOp .BitOr) KZ:=mT Vh (fun i j H Q c q=>⟨i,j,rfl,rfl,by
 simp only[abw,aci] at c;show Q (.int (Builtin.bitOr i j)) H;rw[Ic c.1 c.2];exact q⟩) fun _ _=>rfl
def yf:List D->Option U:=yX (fun i j=>decide (0<=i) && decide (0<=j)) fun i j=>.int ((i.toNat &&& j.toNat:Nat):Int)
def yg:xj X (binaryOp .BitAnd) yf:=mT QH (fun i j H Q c q=>⟨i,j,rfl,rfl,by
 simp only[abw,aci] at c;show Q (.int (Builtin.bitAnd i j)) H;rw[bitAnd_pp c.1 c.2];exact q⟩) fun _ _=>rfl
def K0:List D->Option U:=yX (fun i j=>decide (i=1) && (decide (0<=j) && decide (j<=100000))) fun i j=>.int ((2 ^ j.toNat:Nat):Int)
def FJ:xj X (binaryOp .LShift) K0:=mT QF (fun i j H Q c q=>by
 simp only[abw,aci] at c;obtain⟨rfl,c1,c2⟩:=c;refine⟨1,j,rfl,rfl,⟨c1,by lia,by decide⟩,?_⟩;show Q (.int (1*2 ^ j.toNat)) H;rw[Int.one_mul,two_pow_cast];exact q) fun _ _=>rfl
def RO:List D->Option U:=yX (fun i j=>decide (0<=i) && (decide (0<=j))) fun i j=>.int ((i.toNat / 2 ^ j.toNat:Nat):Int)
def NQ:xj X (binaryOp .RShift) RO:=mT QG (fun i j H Q c q=>by
 simp only[abw,aci] at c;refine⟨i,j,rfl,rfl,c.2,?_⟩;have e:i / 2 ^ j.toNat=((i.toNat / 2 ^ j.toNat:Nat):Int):=by
  obtain⟨n,rfl⟩:=Int.eq_ofNat_of_zero_le c.1;rw[two_pow_cast];rfl
 show Q (.int (i / 2 ^ j.toNat)) H;rw[e];exact q) fun _ _=>rfl
end
end L2
end
section
namespace L2
open PySem PySem.Spec PyProof.Rows PySem.Calls PyProof.V
open PySem.W (KasT kas_asc kas_desc kas_tail3 kas_descPart kas_count kas_place kas_bin kas_sort kas_rev kas_item kas_st kas_cmp kas_runs kasC)
variable {p:Array Nat}{r:Nat}
section
variable {α β:Type}{n:Nat}
noncomputable def NR (NS:Nat->Nat->Bool):KasT α->α
 |.ret a=>a
 |.ask i j k=>NR NS (k (NS i j))
def Bo (n:Nat) (R:α->Prop):KasT α->Prop
 |.ret a=>R a
 |.ask i j k=>i<n/\j<n/\∀b,Bo n R (k b)
theorem Bo.go {R:α->Prop}{NS:Nat->Nat->Bool}:∀{t:KasT α},Bo n R t->R (NR NS t)
 |.ret _,h=>h
 |.ask i j k,h=>Bo.go (t:=k (NS i j)) (h.2.2 _)
theorem Bo.bind {R:α->Prop}{R':β->Prop}{f:α->KasT β}(hf:∀a,R a->Bo n R' (f a)):∀{t:KasT α},Bo n R t->Bo n R' (t.bind f)
 |.ret a,h=>hf a h
 |.ask i j k,h=>⟨h.1,h.2.1,fun b=>Bo.bind hf (t:=k b) (h.2.2 b)⟩
theorem K1 {cmp:Nat->Nat->(Bool->Shared->Prop)->Shared->Prop}{NS:Nat->Nat->Bool}{R:α->Prop}{G:α->Shared->Prop}(hc:∀i j C s,i<n->j<n->C (NS i j) s->cmp i j C s):∀{t:KasT α}{s:Shared},Bo n R t->G (NR NS t) s->t.kasWp cmp G s
 |.ret _,_,_,g=>g
 |.ask i j k,s,h,g=>hc i j _ s h.1 h.2.1 (K1 hc (t:=k (NS i j)) (h.2.2 _) g)
def fW (n:Nat) (p:Array Nat):Prop:=p.toList.Perm (List.range n)
def fW.lt (h:fW n p) (hn:0<n) (i:Nat):p.getD i 0<n:=by
 by_cases hi:i<p.size
 ·have e:p.getD i 0=p[i]:=by simp[Array.getD,hi]
  rw[e];have:p[i]∈p.toList:=by simp
  exact ack.mp (h.mem_iff.mp this)
 ·have e:p.getD i 0=0:=by simp[Array.getD,hi]
  rw[e];exact hn
def fW.rev (h:fW n p) (i j:Nat):fW n (kas_rev p i j):=(ae7.mp (mirror_perm p i j _)).trans h
def fW.bub (h:fW n p) (i j:Nat):fW n (bubble p i j):=(ae7.mp (bubble_perm p i j)).trans h
theorem K2 {p:Array Nat}(h:fW n p) (hn:0<n):∀(f m:Nat),Bo n (fun _=>True) (kas_asc p f m)
 |0,_=>trivial
 |f+1,m=>⟨h.lt hn _,h.lt hn _,fun b=>by
   cases b
   ·exact K2 h hn f (m+1)
   ·trivial⟩
theorem Bp (hn:0<n):∀(f:Nat) (p:Array Nat) (m q:Nat),fW n p->Bo n (fun r:Array Nat×Nat×Nat=>fW n r.1) (kas_desc f p m q)
 |0,p,m,q,h=>h
 |f+1,p,m,q,h=>⟨h.lt hn _,h.lt hn _,fun b=>by
   cases b
   ·refine⟨h.lt hn _,h.lt hn _,fun d=>?_⟩;cases d
    ·exact Bp hn f p _ _ h
    ·exact h
   ·show Bo n _ (if q > 0 then _ else _);split
    ·exact Bp hn f _ _ _ (h.rev _ _)
    ·exact Bp hn f p _ _ h⟩
def FL (hn:0<n){m:Nat}(h:fW n p):Bo n (fun r:Nat×Array Nat=>fW n r.2) (kas_tail3 m r p):=(K2 (h.rev 0 m) hn (r-m) m).bind (R':=fun r:Nat×Array Nat=>fW n r.2) (f:=fun q=>.ret (q,kas_rev p 0 m)) fun _ _=>h.rev 0 m
def yh (hn:0<n){m:Nat}(h:fW n p):Bo n (fun r:Nat×Array Nat=>fW n r.2) (kas_descPart m r p):=(Bp hn _ p _ _ h).bind fun a ha=>by
 split
 ·exact FL hn (ha.rev _ _)
 ·exact FL hn ha
def NT (hn:0<n)(h:fW n p):Bo n (fun r:Nat×Array Nat=>fW n r.2) (kas_count r p):=(K2 h hn _ _).bind fun m _=>by
 split
 ·exact h
 ·split
  ·refine⟨h.lt hn _,h.lt hn _,fun b=>?_⟩;cases b
   ·exact yh hn (h.rev _ _)
   ·exact h
  ·exact yh hn h
theorem Bq (hn:0<n){p:Array Nat}(h:fW n p) (k:Nat):∀(f l r:Nat),Bo n (fun _=>True) (kas_place p k f l r)
 |0,_,_=>trivial
 |f+1,l,r=>by
  unfold kas_place;split
  ·trivial
  ·refine⟨h.lt hn _,h.lt hn _,fun b=>?_⟩;cases b
   ·exact Bq hn h k f _ _
   ·exact Bq hn h k f _ _
theorem PL (hn:0<n):∀(f:Nat) (p:Array Nat) (k:Nat),fW n p->Bo n (fW n) (kas_bin f p k)
 |0,p,k,h=>h
 |f+1,p,k,h=>(Bq hn h k _ _ _).bind fun l _=>PL hn f _ _ (h.bub _ _)
def EE (hn:0<n):Bo n (fW n) (kas_sort n):=(NT hn (p:=(List.range n).toArray) (by show((List.range n).toArray).toList.Perm _;simp)).bind fun a ha=>by
 split
 ·exact PL hn _ _ _ ha
 ·exact ha
end
def mj (ks:BBJ):BBJ:=if ks.length<2 then List.range ks.length else(NR (fun i j=>decide (ks.getD i 0<ks.getD j 0)) (kas_sort ks.length)).toList
def qM (ks:BBJ):(mj ks).Perm (List.range ks.length):=by
 unfold mj;split
 ·exact adJ _
 ·exact(EE (by lia)).go
section
variable {prog:Program}{w:World}{A:Around}{E:AAE}{s:Shared}{a kS:Addr}{vs:AAL}{ks:BBJ}{keys:AAK}{e e1:Nat}{P:PySem.Fin->Shared->Prop}{g0:Heap}
def Ah {st:SortSt}{out:AAL}(hk0:∀b o,g0.get? b=some o->s.heap.get? b=some o) (ga:g0.get? a=none) (gk:g0.get? kS=none) (nk:s.heap.get? kS=some (seqObj "list" keys e)) (na:s.heap.get? a=some (seqObj "list" #[] e1)) (hka:kS≠a) (hks:keys.size<64) (Wq:out.length<64)
  (hst:(arrOf st).map (·.2)=out.toArray) (hfl:failedOf st=none)
  (h:∀h' c,(∀b o,g0.get? b=some o->h'.get? b=some o)->h'.get? a=some (seqObj "list" out.toArray c)->P (.done (.ret .none)) {s with heap:=h'}):wpAny (model prog w) A (ksk_tail a false e1 (.ref kS) st) P E s:=by
 have s1:=acS s.heap kS (Obj.mapSeq fun _=>(#[]:AAK));have na1:(s.heap.update kS (Obj.mapSeq fun _=>(#[]:AAK))).get? a=some (seqObj "list" #[] e1):=(s1.2 a hka.symm).trans na;have s2:=acS (s.heap.update kS (Obj.mapSeq fun _=>(#[]:AAK))) a (Obj.mapSeq fun _=>(arrOf st).map (·.2));unfold ksk_tail
 try dsimp only
 refine aaa (listUpdate_at nk rfl ?_ (by rw[acO];lia) (abH _));refine aaa (wpAny_letGo ?_);refine aaa (seqEpoch_at na1 rfl ?_);refine aaa (listUpdate_at na1 rfl ?_ (abH _) (by show((arrOf st).map (·.2)).size<=_;rw[hst,aak,acO];lia));rw[hfl];simp only[bne_self_eq_false,adA,adw];refine wpAny_pure (h _ _ (fun b o z=>?_) (by rw[<-hst];exact get?_update_seq na1 fun _=>(arrOf st).map (·.2)));have nb1:b≠kS:=fun q=>by rw[q,gk] at z;cases z
 have nb2:b≠a:=fun q=>by rw[q,ga] at z;cases z
 exact(s2.2 b nb2).trans ((s1.2 b nb1).trans (hk0 b o z))
theorem C2:∀{xs:AAL}{ns:BBD},IntsAre xs ns->∀{i:Nat}{n:Int},ns[i]? =some n->∃t,xs[i]? =some (Value.int n t)
 |_,_,.nil,_,_,h=>by cases h
 |_,_,.cons n t r,0,_,h=>by cases h;exact⟨t,rfl⟩
 |_,_,.cons n t r,i+1,_,h=>C2 r (i:=i) h
def Ie (keys:AAK) (vs:AAL) (h:keys.size=vs.length):((List.range vs.length).toArray.map (kas_item (keys.zip vs.toArray)))=keys.zip vs.toArray:=by
 apply aeV;intro i;have hz:(keys.zip vs.toArray).size=vs.length:=by rw[Array.size_zip,h,aak,Nat.min_self]
 by_cases hi:i<vs.length
 ·have hi2:i<(keys.zip vs.toArray).size:=by rw[hz];exact hi
  rw[abO hi2];simp[hi,kas_item,Array.getD];lia
 ·rw[Array.getElem?_eq_none (xs:=keys.zip vs.toArray) (by rw[hz];lia)];simp;lia
def K3 (hk0:∀b o,g0.get? b=some o->s.heap.get? b=some o) (ga:g0.get? a=none) (gk:g0.get? kS=none) (nk:s.heap.get? kS=some (seqObj "list" keys e)) (na:s.heap.get? a=some (seqObj "list" #[] e1)) (hka:kS≠a)
  (hk:IntsAre keys.toList (ks.map fun(k:Nat)=>(k:Int))) (hlen:ks.length=vs.length) (h64:vs.length<64)
  (h:∀h' c,(∀b o,g0.get? b=some o->h'.get? b=some o)->h'.get? a=some (seqObj "list" ((mj ks).map fun i=>vs.getD i Value.none).toArray c)->P (.done (.ret .none)) {s with heap:=h'}):
  wpAny (model prog w) A (ksk_end a false vs.toArray e1 (.ref kS) keys) P E s:=by
 have hsz:keys.size=vs.length:=by
  have h1:=hk.length;rw[abW,aah] at h1;lia
 have ol:(mj ks).length=vs.length:=by rw[(qM ks).length_eq,ab6,hlen]
 unfold ksk_end
 try dsimp only
 simp only[adA,adw];by_cases h2:vs.toArray.size<2
 ·rw[if_pos h2,if_pos h2];refine aaa (wpAny_pure ?_);rw[StateT.run_pure];refine aaa (wpAny_pure ?_)
  try dsimp only
  refine Ah (out:=(mj ks).map fun i=>vs.getD i Value.none) hk0 ga gk nk na hka (by lia) (by rw[aah,ol];exact h64) ?_ rfl h;have e0:mj ks=List.range vs.length:=by unfold mj;rw[if_pos (by rw[hlen];simpa using h2),hlen]
  rw[e0];show(keys.zip vs.toArray).map (·.2)=_;apply aeV;intro i;by_cases hi:i<vs.length
  ·simp[hi,hsz]
  ·simp[hi,hsz]
 ·rw[if_neg h2,if_neg h2];rw[aak] at h2;rw[ksk_kind hk (by rw[hsz];lia)];refine aaa (wpAny_pure ?_);have hrun:=kas_runs (prog:=prog) (w:=w) (A:=A) (E:=E) (κ:=oneType') (it:=keys.zip vs.toArray) (n:=vs.length) (s:=s) (Q:=fun _ st' s'=>s'=s/\arrOf st'=(NR (fun i j=>decide (ks.getD i 0<ks.getD j 0)) (kas_sort vs.length)).map (kas_item (keys.zip vs.toArray))/\failedOf st'=none)
   (G:=fun p' s'=>s'=s/\p'=NR (fun i j=>decide (ks.getD i 0<ks.getD j 0)) (kas_sort vs.length)) (by lia) h64 (fun p' st' s' _ a1 a2 a3=>⟨a3.1,by rw[<-a3.2];exact a1,a2⟩)
   (K1 (n:=vs.length) (R:=fW vs.length) (fun i j C s' hi hj hC=>by
    have item:∀i,i<vs.length->∃t v,kas_item (keys.zip vs.toArray) i=(Value.int (ks.getD i 0) t,v):=fun i hi=>by
     have hik:i<keys.toList.length:=by rw[abW,hsz];exact hi
     obtain⟨t,ht⟩:∃t,keys.toList[i]? =some (Value.int (ks.getD i 0) t):=by
      exact C2 hk (by rw[abx,aby,aaz (by rw[hlen];exact hi)];rfl)
     have hi2:i<(keys.zip vs.toArray).size:=by rw[Array.size_zip,hsz,aak,Nat.min_self];exact hi
     have hk2:i<keys.size:=by rw[hsz];exact hi
     refine⟨t,vs[i],?_⟩;unfold kas_item;have e1:keys[i]=Value.int (ks.getD i 0) t:=by
      rw[acq,abO hk2] at ht;exact abJ ht
     have e2:(keys.zip vs.toArray).getD i (Value.none,Value.none)=(keys.zip vs.toArray)[i]:=by unfold Array.getD;rw[dif_pos hi2];rfl
     rw[e2];simp[e1]
    obtain⟨t1,v1,q1⟩:=item i hi;obtain⟨t2,v2,q2⟩:=item j hj;unfold kas_cmp;rw[q1,q2,keyLt'_oneType];refine oneLt_int ?_;have:decide (((ks.getD i 0:Nat):Int)<((ks.getD j 0:Nat):Int))=decide (ks.getD i 0<ks.getD j 0):=by simp
    rw[this];exact hC) (EE (by lia)) ⟨rfl,rfl⟩)
  have e0:kas_st oneType' (keys.zip vs.toArray) (List.range vs.length).toArray=SortSt.mk' oneType' (keys.zip vs.toArray) #[] 7 none:=by
   unfold kas_st;rw[Ie keys vs hsz]
  rw[e0] at hrun;refine aaa (acf hrun ?_ fun _ _ e=>e);rintro⟨⟨⟩,st'⟩ s' ⟨rfl,ha,hf⟩
  try dsimp only
  refine Ah (out:=(mj ks).map fun i=>vs.getD i Value.none) hk0 ga gk nk na hka (by lia) (by rw[aah,ol];exact h64) ?_ hf h;have e1:mj ks=(NR (fun i j=>decide (ks.getD i 0<ks.getD j 0)) (kas_sort vs.length)).toList:=by unfold mj;rw[if_neg (by lia),hlen]
  rw[ha,e1];have good:fW vs.length (NR (fun i j=>decide (ks.getD i 0<ks.getD j 0)) (kas_sort vs.length)):=(EE (by lia)).go;generalize NR (fun i j=>decide (ks.getD i 0<ks.getD j 0)) (kas_sort vs.length)=p at *;apply aeV;intro i;by_cases hi:i<p.size
  ·have hpi:p[i]<vs.length:=ack.mp (good.mem_iff.mp (by simp));simp[hi,kas_item,Array.getD,hpi,hsz]
  ·simp[hi]
end
section
variable {prog:Program}{w:World}{A:Around}{E:AAE}{s:Shared}{a kS l:Addr}{vs:AAL}{ks:BBJ}{e1:Nat}{P:PySem.Fin->Shared->Prop}{g0:Heap}
def Br (g:Heap) (vs:AAL) (ks:BBJ):Prop:=∀(i:Nat) v k,vs[i]? =some v->ks[i]? =some k->∃c its,v= .ref c/\g.IsList c its/\its.size=k/\(k:Int)<2 ^ 63
def Ig (hk0:∀b o,g0.get? b=some o->s.heap.get? b=some o) (ga:g0.get? a=none) (gk:g0.get? kS=none) (nk:s.heap.get? kS=some (seqObj "list" #[] 0)) (na:s.heap.get? a=some (seqObj "list" #[] e1)) (hka:kS≠a) (hlen:ks.length=vs.length) (h64:vs.length<64) (hv:Br g0 vs ks)
  (h:∀h' tk c,(∀b o,g0.get? b=some o->h'.get? b=some o)->h'.get? a=some (seqObj "list" ((mj ks).map fun i=>vs.getD i Value.none).toArray c)->P (.done (.ret .none)) {s with heap:=h',toks:=tk}):
  wpAny (model prog w) A (ksk_rest a (.builtin "len") false vs.toArray e1 (.ref kS)) P E s:=by
 unfold ksk_rest;refine aaa (adM ?_)
 first
  |rw[List.forIn_toArray]
  |(rw[<-adS];simp only[List.toList_toArray])
  |rw[<-adS]
 refine aaa (ksk_fold (fun i s'=>∃h' tk kA e,s'={s with heap:=h',toks:=tk}/\(∀b o,g0.get? b=some o->h'.get? b=some o)/\h'.get? kS=some (seqObj "list" kA e)/\h'.get? a=some (seqObj "list" #[] e1)/\IntsAre kA.toList ((ks.take i).map fun(k:Nat)=>(k:Int))) vs 0 s
  ⟨s.heap,s.toks,#[],0,rfl,hk0,nk,na,by simpa using IntsAre.nil⟩ ?step ?done)
 case step=>
  rintro j x s' hx ⟨h',tk,kA,e,rfl,k1,k2,k3,hk⟩;simp only[aeF] at hk ⊢;have hj:j<vs.length:=(aaD.mp hx).1;obtain⟨k,hkj⟩:∃k,ks[j]? =some k:=⟨_,aaz (by lia)⟩
  obtain⟨c,its,rfl,hl,hz,hf⟩:=hv j x k hx hkj;have hz2:kA.size<=vs.length:=by
   have h1:=hk.length;rw[abW,aah,ab9] at h1;lia
  obtain⟨o,ho,hc⟩:=hl;refine aaa (wpAny_attempt (call_len_list (s:={s with heap:=h',toks:=tk}) (items:=its) ⟨o,k1 c o ho,hc⟩ (by rw[hz];exact hf) ?_))
  try dsimp only
  have s1:=acS h' kS (Obj.mapSeq (·.push (.int (its.size:Int) (tk+1))));obtain⟨c2,hc2⟩:∃c2,(h'.update kS (Obj.mapSeq (·.push (.int (its.size:Int) (tk+1))))).get? kS=some (seqObj "list" (kA.push (.int (its.size:Int) (tk+1))) c2):=⟨_,get?_update_seq k2 (·.push (.int (its.size:Int) (tk+1)))⟩
  have ek:(ks.take (j+1)).map (fun(k:Nat)=>(k:Int))=(ks.take j).map (fun(k:Nat)=>(k:Int))++[(its.size:Int)]:=by rw[List.take_add_one,hkj,hz];simp
  have ea:(kA.push (Value.int (its.size:Int) (tk+1))).toList=kA.toList++[Value.int (its.size:Int) (tk+1)]:=by simp
  refine aaa (listUpdate_at k2 rfl ?_ (by rw[acO];lia) (abl (Nat.le_of_eq (Array.size_push ..)) (by rw[acO];lia)));refine wpAny_pure ⟨rfl,_,_,kA.push (.int (its.size:Int) (tk+1)),c2,rfl,fun b o z=>?_,hc2,(s1.2 a hka.symm).trans k3,by rw[ea,ek];exact ksk_snoc hk⟩;exact(s1.2 b (fun q=>by rw[q,gk] at z;cases z)).trans (k1 b o z)
 case done=>
  rintro s' ⟨h',tk,kA,e,rfl,k1,k2,k3,hk⟩;have hk':IntsAre kA.toList (ks.map fun(k:Nat)=>(k:Int)):=by
   have e3:ks.take (0+vs.length)=ks:=acU (by lia);rw[e3] at hk;exact hk
  try dsimp only
  refine aaa (listItems_at k2 rfl ?_);exact K3 k1 ga gk k2 k3 hka hk' hlen h64 fun h3 c a1 a2=>h h3 tk c a1 a2
def Ih {n:Nat}(ho:s.heap.get? a=some (seqObj "list" vs.toArray n)) (hk0:∀b o,g0.get? b=some o->s.heap.get? b=some o) (ga:g0.get? a=none) (hg:g0.objs.size<=s.heap.objs.size) (hlen:ks.length=vs.length) (h64:vs.length<64) (hv:Br g0 vs ks)
  (h:∀h' tk c,(∀b o,g0.get? b=some o->h'.get? b=some o)->h'.get? a=some (seqObj "list" ((mj ks).map fun i=>vs.getD i Value.none).toArray c)->P (.done (.ret .none)) {s with heap:=h',toks:=tk}):
  wpAny (model prog w) A (ksk_tree a (.builtin "len") false) P E s:=by
 have ha:a<s.heap.objs.size:=aau ho;have s1:=acS s.heap a (Obj.mapSeq fun _=>(#[]:AAK));obtain⟨e1,Py⟩:∃e1,(s.heap.update a (Obj.mapSeq fun _=>(#[]:AAK))).get? a=some (seqObj "list" #[] e1):=⟨_,get?_update_seq ho fun _=>#[]⟩
 have hkS:((s.heap.update a (Obj.mapSeq fun _=>(#[]:AAK))).push (seqObj "tuple" vs.toArray 0)).objs.size=s.heap.objs.size+1:=by rw[size_push',Heap.size_update]
 unfold ksk_tree;refine aaa (listItems_at ho rfl ?_);refine aaa (listUpdate_at ho rfl ?_ (by rw[aak,acO];lia) (abH _));refine aaa (seqEpoch_at Py rfl ?_);refine aaa (wpAny_newTuple ?_ (by show vs.length<=_;rw[acO];lia));refine aaa (wpAny_newList ?_ (abH _));refine acm ?_;refine Ig (s:={s with heap:=((s.heap.update a (Obj.mapSeq fun _=>(#[]:AAK))).push (seqObj "tuple" vs.toArray 0)).push (seqObj "list" #[] 0)}) (kS:=((s.heap.update a (Obj.mapSeq fun _=>(#[]:AAK))).push (seqObj "tuple" vs.toArray 0)).objs.size)
  (fun b o z=>?_) ga (aez (by rw[hkS];lia)) (aaF _ rfl) (aai _ (aai _ Py)) (by rw[hkS];exact afl (adp ha)) hlen h64 hv h
 exact aai _ (aai _ ((s1.2 b (fun q=>by rw[q,ga] at z;cases z)).trans (hk0 b o z)))
def NU {Q:AAE}(hl:s.heap.IsList l vs.toArray) (hlen:ks.length=vs.length) (h64:vs.length<64) (hv:Br s.heap vs ks)
  (h:∀D h' tk c,s.heap.objs.size<=D->(∀b o,s.heap.get? b=some o->h'.get? b=some o)->h'.get? D=some (seqObj "list" ((mj ks).map fun i=>vs.getD i Value.none).toArray c)->Q (.ref D) {s with heap:=h',toks:=tk}):
  wpAny (model prog w) A (call (.builtin "sorted") [.ref l] [(Str.ofString "key",.builtin "len")]) Q E s:=by
 refine call_function_entry_kw kind_sorted plain_sorted entry_sorted (ksk_s1 _ _) ?_;unfold Builtin.«sorted»
 refine aaa (m:=checkCount "sorted" 1 1 _) (wpAny_pure ?_);refine aaa (collect_list hl ?_ (by rw[acO];lia));refine aaa (wpAny_newList ?_ (by rw[acO];lia));have hsz:((s.heap.push (seqObj "list" #[] 0)).update s.heap.objs.size (Obj.mapSeq (· ++vs.toArray))).objs.size=s.heap.objs.size+1:=by
  rw[Heap.size_update,size_push']
 have O8:(((s.heap.push (seqObj "list" #[] 0)).update s.heap.objs.size (Obj.mapSeq (· ++vs.toArray))).push (seqObj "list" vs.toArray 0)).get? (s.heap.objs.size+1)=some (seqObj "list" vs.toArray 0):=by
  rw[<-hsz];exact aaF _ rfl
 have keep:∀b o,s.heap.get? b=some o->(((s.heap.push (seqObj "list" #[] 0)).update s.heap.objs.size (Obj.mapSeq (· ++vs.toArray))).push (seqObj "list" vs.toArray 0)).get? b=some o:=fun b o q=>by
  have hlt:b<s.heap.objs.size:=aau q;rw[Heap.get?_push_ne _ _ _ (by rw[hsz];exact abu (adp hlt)),Heap.get?_update_ne _ _ _ _ (abu hlt),Heap.get?_push_ne _ _ _ (abu hlt)];exact q
 have fr:s.heap.get? (s.heap.objs.size+1)=none:=aez (adF _);show wpAny _ _ _ _ _ {s with heap:=((s.heap.push (seqObj "list" #[] 0)).update s.heap.objs.size (Obj.mapSeq (· ++vs.toArray))).push (seqObj "list" vs.toArray 0)};rw[hsz];refine aaa (acm (wpAny_call_entry_kw slot_list_sort ⟨_,O8,rfl⟩ entry_list_sort ?body (ksk_l1 _ _)))
 case body=>
  show wpAny (model prog w) A.in1.in1 (Builtin.«list.sort» ⟨[.ref (s.heap.objs.size+1)],[(Str.ofString "key",.builtin "len")]⟩) _ _ _;rw[ksk_t4];refine Ih (g0:=s.heap) (s:={s with heap:=((s.heap.push (seqObj "list" #[] 0)).update s.heap.objs.size (Obj.mapSeq (· ++vs.toArray))).push (seqObj "list" vs.toArray 0)}) O8 keep fr (by rw[size_push',hsz];lia) hlen h64 hv fun h' tk c a1 a2=>⟨_,rfl,?_⟩
  exact wpAny_pure ⟨_,rfl,h _ h' tk c (adF _) a1 a2⟩
end
noncomputable def rB:List D->Option (BBJ)
 |[]=>some []
 |.lst xs::ds=>(rB ds).map fun ks=>xs.length::ks
 |_=>none
def tY (ks:BBJ) (ds:List D):List D:=(mj ks).map fun i=>ds.getD i .cJ
def Bt:List D->Option U
 |[.lst ds]=>(rB ds).bind fun ks=>if ds.length<64 then some (.m (.lst (tY ks ds))) else none
 |_=>none
def EF {d:D}{u:U}(h:Bt [d]=some u):∃ds ks,d= .lst ds/\rB ds=some ks/\ds.length<64/\u= .m (.lst (tY ks ds)):=by
 cases d with
 |lst ds=>
  obtain⟨ks,h1,h2⟩:=ah (show(rB ds).bind _=some u from h);obtain⟨h3,h4⟩:=cz h2;exact⟨ds,ks,rfl,h1,h3,h4.symm⟩
 |_=>cases h
theorem Ai:∀{ds:List D}{ks:BBJ},rB ds=some ks->ks.length=ds.length
 |[],ks,h=>by cases h;rfl
 |d::ds,ks,h=>by
  cases d with
  |lst xs=>
   obtain⟨r,h1,h2⟩:=aB (show(rB ds).map _=some ks from h);subst h2;rw[abn,abn,Ai h1]
  |_=>cases h
theorem FO {F:Hp}:∀{xs:List V}{ds:List D}{ks:BBJ},bM F xs ds->rB ds=some ks->∀(i:Nat) x k,xs[i]? =some x->ks[i]? =some k->∃a ys,x= .ref a/\Rd F a (.lst ys)/\ys.length=k
 |_,_,_,.nil,h,i,x,k,h1,_=>by cases h1
 |_,_,ks,@bM.cons _ v d vs ds r rs,h,i,x,k,h1,h2=>by
  cases d with
  |lst es=>
   obtain⟨q,g1,g2⟩:=aB (show(rB ds).map _=some ks from h);subst g2;cases i with
   |zero=>
    cases h1;cases h2;cases r with
    |lst e rr=>exact⟨_,_,rfl,e,rr.length⟩
   |succ i=>exact FO rs g1 i x k h1 h2
  |_=>cases h
section
variable {X:Cx}{a:Expr}{pos p p2 kp:Pos}{ga:GD}
theorem Aj {F:Hp}{xs:List V}{ds:List D}(r:bM F xs ds):∀is:BBJ,(∀i∈is,i<ds.length)->bM F (is.map fun i=>xs.getD i .cJ) (is.map fun i=>ds.getD i .cJ)
 |[],_=>.nil
 |i::is,h=>by
  have hi:=h i aal;obtain⟨v,h1,h2⟩:=r.get (aaz hi);refine .cons ?_ (Aj r is fun j hj=>h j (aaj _ hj));dsimp only;rw[aby,aby,h1,aaz hi];exact h2
theorem Ak {xs:List V}{us:AAL}(r:Vals xs us):∀is:BBJ,(∀i∈is,i<xs.length)->Vals (is.map fun i=>xs.getD i .cJ) (is.map fun i=>us.getD i Value.none)
 |[],_=>.nil
 |i::is,h=>by
  have hi:=h i aal;obtain⟨v,h1,h2⟩:=r.get (aaz hi);refine .cons ?_ (Ak r is fun j hj=>h j (aaj _ hj));dsimp only;rw[aby,aby,h1,aaz hi];exact h2
def EG (hg1:Gl X "sorted") (hm1:X.mg "sorted" =none) (V7:Gl X "len") (hm2:X.mg "len" =none) (ha:JD X a ga) (hs2:starEach [a] X.env=(false,eval a X.env)::starEach [] X.env:=by rfl):
  JE X (.Call (.Name "sorted" p) [a] [⟨some (Str.ofString "key"),.Name "len" p2,kp⟩] pos) (eP Bt (aa ga aA)):=⟨fun B=>by
 rintro pins s σ H Q I ⟨S,F,u,S',R,hg,q⟩;obtain⟨⟨dl,S1⟩,h1,hg⟩:=ah hg;obtain⟨w',h2,hg⟩:=aB hg;cases hg;obtain⟨⟨d,S2⟩,h3,h1⟩:=ah h1;obtain⟨⟨dr,S3⟩,h4,h1⟩:=aB h1;cases h4;cases h1;obtain⟨ds,ks,rfl,hks,h64,rfl⟩:=EF h2;have kl:=Ai hks;refine ac5 (nO I hg1 hm1 afq ?_ (by decide) (by decide));refine callWith_kw (fE (gF (ha.h B) kO hs2 pos pins s σ H (fun vs H1=>∃v F1,vs=[v]/\Rel X.K B S2 σ F1 H1/\Step S S2 σ F H F1 H1/\Rep F1 v (.lst ds)) I ⟨S,F,_,S2,R,h3,fun v F1 H1 R1 st1 r1=>⟨v,F1,rfl,R1,st1,r1⟩⟩) ?_) (by rw[hs2];rfl) (by rw[hs2];rfl);rintro us s1 ⟨vs,H1,I1,r1,v,F1,rfl,R1,st1,rd⟩;obtain⟨u',rfl,ru⟩:=vals1 r1;refine kws_cons (nO I1 V7 hm2 adv ?_ (by decide) (by decide));refine kws_nil ?_;obtain⟨a',vs',rfl,fa,hla,oX⟩:=R1.sub.iC rd;cases ru;obtain⟨its,rv,pl,hz⟩:=I1.list (.inl hla);have xl:=oX.length;have il:its.length=vs'.length:=rv.length.symm;refine NU (ks:=ks) (vs:=its) pl.isList (by lia) (by lia) (fun i v k hi hk=>?_) fun D h' tk c hD hk hat=>?_
 ·obtain⟨x,g1,g2⟩:=kT rv hi;obtain⟨a2,ys,rfl,e1,e2⟩:=FO oX hks i x k g1 hk;obtain⟨z2,its2,n2,rv2,hl2,ho2⟩:=Rd.Ed I1 (e1.imp (R1.sub _ _) fun⟨o,h⟩=>⟨o,R1.sub _ _ h⟩);cases g2;refine⟨a2,its2.toArray,rfl,⟨_,ho2,rfl,n2,rfl⟩,by rw[aak,<-hl2,e2],?_⟩;have:ys.length<=2 ^ 40:=abl z2 (by decide);lia
 ·have ol:∀i∈mj ks,i<ds.length:=fun i hi=>by rw[<-kl];exact ack.mp ((qM ks).mem_iff.mp hi)
  have hp:H1 D=none:=I1.hok.fresh hD;have n1:=gg.obj (F:=F1) hp (.lst ((mj ks).map fun i=>vs'.getD i .cJ));have s4:=R1.sub.same n1.same;have hln:((mj ks).map fun i=>vs'.getD i V.cJ).length<=sizeLine:=by
   rw[aah,(qM ks).length_eq,ab6,kl];exact abl (adg h64) (by decide)
  have hvv:=Ak rv (mj ks) fun i hi=>by rw[xl];exact ol i hi
  exact⟨.ref D,_,I1.laid (a:=D) (o:=.lst ((mj ks).map fun i=>vs'.getD i V.cJ)) (h':=h') (t':=tk) hk hD ⟨hln,_,c,hvv,hat⟩,rfl,
   q _ F1 _ (R1.new n1 s4) (st1.trans n1.step) (zu.CB (u:=.m (.lst (tY ks ds))) R1 st1 ⟨_,rfl,hp,R1.sub.fresh hp,_,aU,Aj oX (mj ks) ol⟩)⟩⟩
end
end L2
end
section
namespace L2
open PySem PySem.Spec PyProof.Rows
variable {S:SS}{i k:Nat}{kvs:List (Str×(D ⊕ Addr))}{K:AAD}{B:Base}{σ:St}{H:Hp}{ds:List D}{Q:VK}{N bL:BBB}{scope:Scope}{elt:Expr}{cl:List (Str×Addr)}{cap:BBJ}{g:GD}{q:GT}
noncomputable def j9 (C:Addr) (S:SS) (i:Nat):Option (List (Str×(D ⊕ Addr))):=match S[i]? with
 |some (some (.m (.DO C' kvs)))=>if C'=C then some kvs else none
 |some (some (.b (.DO C' kvs)))=>if C'=C then some kvs else none
 |_=>none
def yi {C:Addr}(h:j9 C S i=some kvs):∃u,S[i]? =some (some u)/\fL u=true/\Pp u=some (.DO C kvs):=by
 unfold j9 at h;split at h
 ·rename_i C' kvs' e;obtain⟨hc,hk⟩:=cW h;subst hc;cases hk;exact⟨_,e,rfl,rfl⟩
 ·rename_i C' kvs' e;obtain⟨hc,hk⟩:=cW h;subst hc;cases hk;exact⟨_,e,rfl,rfl⟩
 ·cases h
theorem ve {F:Hp}{f:Str}{y:D ⊕ Addr}:∀{ws:List (Str×V)}{kvs:List (Str×(D ⊕ Addr))},Paired (Hs F) ws kvs->kvs.lookup f=some y->∃v,ws.lookup f=some v/\A1 F v y
 |_,_,.nil,h=>by cases h
 |_,_,@Paired.cons _ _ _ (k,v) (k',d') ws kvs r rs,h=>by
  obtain⟨e,r⟩:=r;have e:k=k':=e;subst e;rw[ade] at h ⊢;split at h
  ·cases h;exact⟨v,rfl,r⟩
  ·exact ve rs h
theorem Al {F:Hp}{f:Str}:∀{ws:List (Str×V)}{kvs:List (Str×(D ⊕ Addr))},Paired (Hs F) ws kvs->kvs.lookup f=none->ws.lookup f=none
 |_,_,.nil,h=>rfl
 |_,_,@Paired.cons _ _ _ (k,v) (k',d') ws kvs r rs,h=>by
  obtain⟨e,r⟩:=r;have e:k=k':=e;subst e;rw[ade] at h ⊢;split at h
  ·cases h
  ·exact Al rs h
noncomputable def C3 (f:Str) (y:D ⊕ Addr):List (Str×(D ⊕ Addr))->List (Str×(D ⊕ Addr))
 |[]=>[(f,y)]
 |(g,x)::r=>if g=f then(g,y)::r else(g,x)::C3 f y r
theorem Am {F:Hp}{f:Str}{v:V}{y:D ⊕ Addr}(r:A1 F v y):∀{ws:List (Str×V)}{kvs:List (Str×(D ⊕ Addr))},Paired (Hs F) ws kvs->Paired (Hs F) (nP f v ws) (C3 f y kvs)
 |_,_,.nil=>.cons ⟨rfl,r⟩ .nil
 |_,_,@Paired.cons _ _ _ (k,v') (k',d') ws kvs q qs=>by
  obtain⟨e,q⟩:=q;have e:k=k':=e;subst e;unfold nP C3;split
  ·exact .cons ⟨rfl,r⟩ qs
  ·exact .cons ⟨rfl,q⟩ (Am r qs)
def wJ {F:Hp}{C:Addr}(R:Rel K B S σ F H) (h:j9 C S i=some kvs):∃a ws dx,σ[i]? =some (some (.ref a))/\H a=some (.ins C dx ws)/\Paired (Hs F) ws kvs:=by
 obtain⟨u,hS,hm,hi⟩:=yi h;obtain⟨v,e,r⟩:=R.rep i u hS;obtain⟨a,o,rfl,_,e2,h⟩:=r.cQ hm;rw[hi] at e2;cases e2;obtain⟨ws,⟨dx,h1⟩,h2⟩:=h;exact⟨a,ws,dx,e,h1,h2⟩
noncomputable def FP (S:SS) (j:Nat) (c:Addr):Option (List D):=match S[j]? with
 |some (some (.m (.lat c' ds)))=>if c'=c then some ds else none
 |some (some (.b (.lat c' ds)))=>if c'=c then some ds else none
 |_=>none
noncomputable def vW (S:SS) (j:Nat) (c:Addr):Option (List (D×D)):=match S[j]? with
 |some (some (.m (.lK c' ds)))=>if c'=c then some ds else none
 |some (some (.b (.lK c' ds)))=>if c'=c then some ds else none
 |_=>none
section
variable {K:AAD}{B:Base}{S:SS}{σ:St}{F H:Hp}{j:Nat}{c:Addr}
def K4 (R:Rel K B S σ F H) (h:FP S j c=some ds):σ[j]? =some (some (.ref c))/\∃vs,H c=some (.lst vs)/\bM F vs ds:=by
 unfold FP at h;split at h
 ·rename_i c' ds' e;obtain⟨hc,hk⟩:=cW h;subst hc;cases hk;obtain⟨v,k1,a,rfl,f,vs,⟨rfl,k2⟩,k3⟩:=R.rep j _ e;exact⟨k1,vs,k2,k3⟩
 ·rename_i c' ds' e;obtain⟨hc,hk⟩:=cW h;subst hc;cases hk;obtain⟨v,k1,a,rfl,f,vs,⟨rfl,k2⟩,k3⟩:=R.rep j _ e;exact⟨k1,vs,k2,k3⟩
 ·cases h
def yj {kvs:List (D×D)}(R:Rel K B S σ F H) (h:vW S j c=some kvs):σ[j]? =some (some (.ref c))/\∃ws,H c=some (.dT ws)/\Paired (fK F) ws kvs:=by
 unfold vW at h;split at h
 ·rename_i c' ds' e;obtain⟨hc,hk⟩:=cW h;subst hc;cases hk;obtain⟨v,k1,a,rfl,f,vs,⟨rfl,k2⟩,k3⟩:=R.rep j _ e;exact⟨k1,vs,k2,k3⟩
 ·rename_i c' ds' e;obtain⟨hc,hk⟩:=cW h;subst hc;cases hk;obtain⟨v,k1,a,rfl,f,vs,⟨rfl,k2⟩,k3⟩:=R.rep j _ e;exact⟨k1,vs,k2,k3⟩
 ·cases h
end
def Bv (C:Addr) (S:SS) (i:Nat) (f:Str):BBN:=(j9 C S i).bind fun kvs=>(kvs.lookup f).bind Sum.getRight?
def C4 (C:Addr) (i:Nat) (f:Str):GD:=fun S=>(j9 C S i).bind fun kvs=>(kvs.lookup f).bind fun y=>y.getLeft?.map fun d=>(d,S)
def K5 (C:Addr) (i:Nat) (f:Str) (g:GD):GS:=fun S=>(g S).bind fun p=>(j9 C p.2 i).bind fun kvs=>if kvs.length<900 then(pA p.2 i fun _=>some (.cJ,.DO C (C3 f (.inl p.1) kvs))).map fun z=>.nx z.2 else none
def FQ (C:Addr) (i:Nat) (f:Str) (j:Nat):GD:=fun S=>(Bv C S i f).bind fun c=>(FP S j c).map fun ds=>(.int ds.length,S)
def Ii (n:Bool) (C:Addr) (i:Nat) (f:Str) (j:Nat) (gk:GD):GD:=fun S=>(gk S).bind fun p=>(Bv C p.2 i f).bind fun c=>(vW p.2 j c).bind fun kvs=>(xC p.1).map fun kk=>(.bl (n != (bT kvs kk).isSome),p.2)
def K6 (C:Addr) (i:Nat) (f:Str) (j:Nat) (gk:GD):GD:=fun S=>(Bv C S i f).bind fun c=>(gk S).bind fun p=>(vW p.2 j c).bind fun kvs=>(xC p.1).bind fun kk=>(bT kvs kk).map fun d=>(d,p.2)
def WR (c:Addr) (k d:D):MO->Option (D×MO)
 |.lK c' kvs=>if c'=c/\kvs.length<100000 then(xC k).map fun kk=>(.cJ,.lK c (putD kvs kk d)) else none
 |_=>none
def K7 (C:Addr) (i:Nat) (f:Str) (j:Nat) (gk gv:GD):GS:=fun S=>(gv S).bind fun p=>(Bv C p.2 i f).bind fun c=>(gk p.2).bind fun r=>(vW r.2 j c).bind fun _=>(pA r.2 j (WR c r.1 p.1)).map fun z=>.nx z.2
def K8 (C:Addr) (i:Nat) (f:Str) (j:Nat) (h:List D->MO->Option (D×MO)) (gA:GA):GD:=fun S=>(Bv C S i f).bind fun c=>if FH S j c then(gA S).bind fun p=>pA p.2 j (WQ c h p.1) else none
section
variable {X:Cx}{C:Addr}{e value k:Expr}{es:BBC}{x name:Str}{id:String}{px p pos pos' apos spos cpos:Pos}{f:Str}{i:Nat}{g gk gv:GD}{gA:GA}
def tZ {F:Hp}{c:Addr}(R:Rel X.K B S σ F H) (h:Bv C S i f=some c):∃a ws dx,σ[i]? =some (some (.ref a))/\H a=some (.ins C dx ws)/\ws.lookup f=some (.ref c):=by
 obtain⟨kvs,h1,h⟩:=ah h;obtain⟨y,h2,h⟩:=ah h;obtain⟨a,ws,dx,e1,e2,e3⟩:=wJ R h1;obtain⟨v,l1,r1⟩:=ve e3 h2;cases y with
 |inl d=>cases h
 |inr c'=>cases h;exact⟨a,ws,dx,e1,e2,by rw[l1];exact congrArg some r1⟩
def FT (i:Nat) (c:AN X.K C) (na:gf X.K C f) (hN:X.N[i]? =some x:=by rfl) (hv:qV X.env.scope x:=by first|exact Or.inl rfl|exact Or.inr (Or.inl rfl)|exact Or.inr (Or.inr rfl))
  (hd:BBT x:=by decide) (hcd:BBU x:=by decide) (hb:attributeBase (.Name x px) f X.env (eval (.Name x px) X.env)=eval (.Name x px) X.env:=by rfl):JD X (.Attribute (.Name x px) f pos) (C4 C i f):=
 ⟨fun B=>(uJ (cI hN hv hd hcd) hb).imp fun σ H Q hh=>by
 obtain⟨S,F,d,S',R,hg,q⟩:=hh;obtain⟨kvs,h1,hg⟩:=ah hg;obtain⟨y,h2,hg⟩:=ah hg;obtain⟨d',h3,hg⟩:=aB hg;cases hg;obtain⟨a,ws,dx,e1,e2,e3⟩:=wJ R h1;obtain⟨v,l1,r1⟩:=ve e3 h2;cases y with
 |inr c=>cases h3
 |inl d0=>cases h3;exact⟨.ref a,e1,a,C,dx,ws,v,rfl,e2,c,na,l1,q v F H R (Step.refl ..) r1⟩⟩
def NV (i:Nat) (c:AN X.K C) (na:gf X.K C f) (hval:JD X value g) (hN:X.N[i]? =some x:=by rfl) (hv:qV X.env.scope x:=by first|exact Or.inl rfl|exact Or.inr (Or.inl rfl)|exact Or.inr (Or.inr rfl))
  (hd:BBT x:=by decide) (hcd:BBU x:=by decide) (hs:swapsWith value (some (.Attribute (.Name x px) f pos')) pos.line X.env=pure false:=by rfl):
  JS X (.Assign [.Attribute (.Name x px) f pos'] value pos) (K5 C i f g):=⟨fun B=>(AO (cI hN hv hd hcd) (hval.h B) hs).imp fun D σ H hh=>by
 obtain⟨S,F,o,R,hg,q⟩:=hh;obtain⟨⟨d,S1⟩,h1,hg⟩:=ah hg;obtain⟨kvs,h2,hg⟩:=ah hg;obtain⟨hl,hg⟩:=cW hg;obtain⟨⟨dd,S2⟩,h3,hg⟩:=aB hg;subst hg;refine⟨S,F,d,S1,R,h1,fun v F1 H1 R1 st1 r1=>?_⟩;obtain⟨a,ws,dx,e1,e2,e3⟩:=wJ R1 h2;obtain⟨u,u',o,o',hS,Hw,hio,hf,IP,rfl⟩:=mW h3;cases hf;obtain⟨R3,st3⟩:=R1.write (ho:=.ins C dx (nP f v ws)) hS IP e1 ⟨_,⟨dx,aU⟩,Am (y:=.inl d) r1 e3⟩;exact⟨.ref a,e1,a,C,dx,ws,rfl,e2,c,na,by rw[cO e3];lia,q σ F1 _ R3 st1.ext.le⟩⟩
def FU (i j:Nat) (c:AN X.K C) (na:gf X.K C f) (hg:Gl X "len") (hm:X.mg "len" =none) (hN:X.N[i]? =some x:=by rfl) (hv:qV X.env.scope x:=by first|exact Or.inl rfl|exact Or.inr (Or.inl rfl)|exact Or.inr (Or.inr rfl))
  (hd:BBT x:=by decide) (hcd:BBU x:=by decide) (hb:attributeBase (.Name x px) f X.env (eval (.Name x px) X.env)=eval (.Name x px) X.env:=by rfl)
  (he:starEach [.Attribute (.Name x px) f apos] X.env=(false,eval (.Attribute (.Name x px) f apos) X.env)::starEach [] X.env:=by rfl) (hpl:(backTo pos (starEach [] X.env)).any (·.1)=false:=by rfl):
  JD X (.Call (.Name "len" p) [.Attribute (.Name x px) f apos] [] pos) (FQ C i f j):=⟨fun B=>(jL kh hg hm adv (gF (uJ (cI hN hv hd hcd) hb) kO he) (by decide) (by decide) he hpl).imp fun σ H Q hh=>by
 obtain⟨S,F,d,S',R,hg',q⟩:=hh;obtain⟨cc,h1,hg'⟩:=ah hg';obtain⟨ds,h2,hg'⟩:=aB hg';cases hg';obtain⟨a,ws,dx,e1,e2,e3⟩:=tZ R h1;obtain⟨_,vs,e4,e5⟩:=K4 R h2;exact⟨.ref a,e1,a,C,dx,ws,_,rfl,e2,c,na,e3,cc,vs,rfl,.inl (mQ.of e4),by rw[e5.length];exact q _ F H R (Step.refl ..) (.int _)⟩⟩
def NW {n:Bool}{j:Nat}(c:AN X.K C) (na:gf X.K C f) (h:tD X.K B (Ii n C i f j gk) σ H Q):tD X.K B gk σ H fun y H1=>Vo X.K (AI i) f σ H1 fun x H2=>∃a o,x= .ref a/\lJ H2 a y o/\Q (.bl (n != o.isSome)) H2:=by
 obtain⟨S,F,d,S',R,hg,q⟩:=h;obtain⟨⟨d1,S1⟩,h1,hg⟩:=ah hg;obtain⟨cc,h2,hg⟩:=ah hg;obtain⟨kvs,h3,hg⟩:=ah hg;obtain⟨kk,h4,hg⟩:=aB hg;cases hg;refine⟨S,F,d1,_,R,h1,fun v F1 H1 R1 st1 r1=>?_⟩;obtain⟨a,ws,dx,e1,e2,e3⟩:=tZ R1 h2;obtain⟨_,vs,e4,e5⟩:=yj R1 h3;obtain⟨b,rfl,hb⟩:=lg R1.sub r1 h4;refine⟨.ref a,e1,a,C,dx,ws,_,rfl,e2,c,na,e3,cc,_,rfl,lJ.t e4 hb,?_⟩;rw[Ky e5 kk];exact q (.bl _) F1 H1 R1 st1 (.bl _)
def Ij (i j:Nat) (c:AN X.K C) (na:gf X.K C f) (hu:X.A.units+20<cLine) (hk:JD X k gk) (hN:X.N[i]? =some x:=by rfl) (hv:qV X.env.scope x:=by first|exact Or.inl rfl|exact Or.inr (Or.inl rfl)|exact Or.inr (Or.inr rfl)) (hd:BBT x:=by decide) (hcd:BBU x:=by decide)
  (hb:attributeBase (.Name x px) f X.env (eval (.Name x px) X.env)=eval (.Name x px) X.env:=by rfl) (hm:behindInMarks .NotIn (.Attribute (.Name x px) f apos)=false:=by with_unfolding_all rfl):
  JT X (.Compare k [.NotIn] [.Attribute (.Name x px) f apos] pos) (qB (Ii true C i f j gk)):=⟨fun B=>(Qm (Hg hu (hk.h B) (uJ (cI hN hv hd hcd) hb)) hm).imp fun σ H Q hh=>by
 obtain⟨S,F,kk,S',R,hg,q⟩:=hh;have h:tD X.K B (Ii true C i f j gk) σ H (fun v H'=>∃d,v= .bl d/\Q d H'):=⟨S,F,.bl kk,S',R,kj hg,fun v F' H' R' st r=>⟨kk,l8 r,q F' H' R' st⟩⟩
 have h2:=NW c na h
 simpa[tB,E4] using h2⟩
def NY (i j:Nat) (c:AN X.K C) (na:gf X.K C f) (hu:X.A.units+20<cLine) (hk:JD X k gk) (hs:qI k:=by first|(intro _ _;rfl)) (hN:X.N[i]? =some x:=by rfl) (hv:qV X.env.scope x:=by first|exact Or.inl rfl|exact Or.inr (Or.inl rfl)|exact Or.inr (Or.inr rfl))
  (hd:BBT x:=by decide) (hcd:BBU x:=by decide) (hb:attributeBase (.Name x px) f X.env (eval (.Name x px) X.env)=eval (.Name x px) X.env:=by rfl):JD X (.Subscript (.Attribute (.Name x px) f apos) k pos) (K6 C i f j gk):=
 ⟨fun B=>(wH hu (uJ (cI hN hv hd hcd) hb) (hk.h B) hs).imp fun σ H Q hh=>by
 obtain⟨S,F,d,S',R,hg,q⟩:=hh;obtain⟨cc,h1,hg⟩:=ah hg;obtain⟨⟨d1,S1⟩,h2,hg⟩:=ah hg;obtain⟨kvs,h3,hg⟩:=ah hg;obtain⟨kk,h4,hg⟩:=ah hg;obtain⟨d2,h5,hg⟩:=aB hg;cases hg;obtain⟨a,ws,dx,e1,e2,e3⟩:=tZ R h1;refine⟨.ref a,e1,a,C,dx,ws,_,rfl,e2,c,na,e3,S,F,d1,_,R,h2,fun v F1 H1 R1 st1 r1=>?_⟩;obtain⟨_,vs,e4,e5⟩:=yj R1 h3;obtain⟨w',z1,z2⟩:=jd e5 h5;obtain⟨b',rfl,hb'⟩:=lg R1.sub r1 h4;exact⟨cc,w',rfl,by rw[<-z1];exact lJ.t e4 hb',q w' F1 H1 R1 st1 z2⟩⟩
def N1 (i j:Nat) (c:AN X.K C) (na:gf X.K C f) (hu:X.A.units+20<cLine) (hk:JD X k gk) (hval:JD X value gv) (hN:X.N[i]? =some x:=by rfl) (hv:qV X.env.scope x:=by first|exact Or.inl rfl|exact Or.inr (Or.inl rfl)|exact Or.inr (Or.inr rfl))
  (hd:BBT x:=by decide) (hcd:BBU x:=by decide) (hb:attributeBase (.Name x px) f X.env (eval (.Name x px) X.env)=eval (.Name x px) X.env:=by rfl)
  (hs:swapsWith value (some (.Subscript (.Attribute (.Name x px) f apos) k pos')) pos.line X.env=pure false:=by rfl):
  JS X (.Assign [.Subscript (.Attribute (.Name x px) f apos) k pos'] value pos) (K7 C i f j gk gv):=⟨fun B=>(AV hu (uJ (cI hN hv hd hcd) hb) (hk.h B) (hval.h B) hs).imp fun D σ H hh=>by
 obtain⟨S,F,o,R,hg,q⟩:=hh;obtain⟨⟨d,S1⟩,h1,hg⟩:=ah hg;obtain⟨cc,h2,hg⟩:=ah hg;obtain⟨⟨kd,S2⟩,h3,hg⟩:=ah hg;obtain⟨kvs,h4,hg⟩:=ah hg;obtain⟨⟨nd,S3⟩,h5,hg⟩:=aB hg;subst hg;obtain⟨u,u',mo,mo',hS,Hw,hio,hf,IP,rfl⟩:=mW h5;refine⟨S,F,d,S1,R,h1,fun v F1 H1 R1 st1 r1=>?_⟩;obtain⟨a,ws,dx,e1,e2,e3⟩:=tZ R1 h2;refine⟨.ref a,e1,a,C,dx,ws,_,rfl,e2,c,na,e3,S1,F1,kd,S2,R1,h3,fun y F2 H2 R2 st2 r2=>?_⟩;obtain⟨hv0,_⟩:=yj R2 h4;obtain⟨v',k1,k2⟩:=R2.rep j u hS;rw[hv0] at k1;cases k1;obtain⟨a2,o2,e6,fa,eo,k3⟩:=k2.cQ Hw;cases e6;rw[hio] at eo;cases eo;cases mo with
 |lK c' kvs'=>
  obtain⟨⟨rfl,hl⟩,hf⟩:=cW hf;obtain⟨kk,e7,hf⟩:=aB hf;cases hf;obtain⟨ws',⟨_,ha⟩,pr⟩:=k3;obtain⟨b',rfl,hb'⟩:=lg R2.sub r2 e7;refine⟨_,_,rfl,AR.t ha hb' (by rw[cO pr];exact aaE hl (by decide)),?_⟩;obtain⟨R3,st3⟩:=R2.write (ho:=.dT (putK ws' kk v)) hS IP hv0 ⟨_,⟨rfl,aU⟩,tN pr (r1.le st2.ext.le)⟩;exact q σ F2 _ R3 fun b o z=>st2.ext.le b o (st1.ext.le b o z)
 |_=>cases hf⟩
def N2 (i j:Nat) (c:AN X.K C) (na:gf X.K C f){r:V->List V->Hp->VK->Prop}{h:List D->MO->Option (D×MO)}(slot:Slot "list" name id) (hty:typeOf (.builtin id)=pure (.type "method_descriptor")) (hm:Yd X id r) (hh:Yj r h) (ha:JA X (e::es) gA)
  (hN:X.N[i]? =some x:=by rfl) (hv:qV X.env.scope x:=by first|exact Or.inl rfl|exact Or.inr (Or.inl rfl)|exact Or.inr (Or.inr rfl)) (hb:attributeBase (.Name x px) f X.env (eval (.Name x px) X.env)=eval (.Name x px) X.env:=by rfl)
  (hbase:attributeBase (.Attribute (.Name x px) f spos) name X.env (eval (.Attribute (.Name x px) f spos) X.env)=eval (.Attribute (.Name x px) f spos) X.env:=by rfl)
  (hfew:((backTo cpos (starEach (e::es) X.env)).all (fun x=>!x.1) && (backToKw cpos (keywordEach [] X.env)).all (fun x=>x.1.isSome)
   && decide ((e::es).length+([]:BBI).length+(if([]:BBI).isEmpty then 0 else 1)<30))=true:=by rfl)
  (hline:(apos.endLine == cpos.line)=true:=by rfl) (hs:starEach (e::es) X.env=(false,eval e X.env)::starEach es X.env:=by rfl) (hplain:(backTo cpos (starEach es X.env)).any (·.1)=false:=by rfl)
  (hd:BBT x:=by decide) (hcd:BBU x:=by decide):
  JD X (.Call (.Attribute (.Attribute (.Name x px) f spos) name apos) (e::es) [] cpos) (K8 C i f j h gA):=
 ⟨fun B=>(Pj aft slot hty hm (uJ (cI hN hv hd hcd) hb) (ha.h B) hbase hfew hline hs hplain).imp fun σ H Q hq=>by
 obtain⟨S,F,d,S',R,hg,q⟩:=hq;obtain⟨cc,h0,hg⟩:=ah hg;split at hg
 ·rename_i hL;obtain⟨⟨args,S1⟩,h1,hg⟩:=ah hg;obtain⟨u,u',o,o',hS,Hw,hio,hf,IP,rfl⟩:=mW hg;obtain⟨a,ws,dx,g1,g2,g3⟩:=tZ R h0;obtain⟨l1,vs1,l2⟩:=KW R hL;refine⟨.ref a,g1,a,C,dx,ws,_,rfl,g2,c,na,g3,.inl ⟨rfl,vs1,mQ.of l2⟩,S,F,args,S1,R,h1,fun xs F1 H1 R1 st1 r1=>?_⟩;cases o with
  |lat c' ds=>
   obtain⟨rfl,hf⟩:=cW hf;cases hx:h args (.lst ds) with
   |none=>rw[hx] at hf;cases hf
   |some p=>
    rw[hx] at hf;obtain⟨d',o2⟩:=p;cases o2 with
    |lst ds'=>
     cases hf;obtain⟨v,k1,k2⟩:=R1.rep j u hS;rw[l1] at k1;cases k1;obtain⟨b',o2,e1,f,e2,k3⟩:=k2.cQ Hw;cases e1;rw[hio] at e2;cases e2;obtain⟨vs,⟨_,hH1⟩,rs⟩:=k3;refine hh F1 H1 _ vs xs ds args _ _ R1.sub hH1 f rs r1 hx Q fun rv ho rr ha=>?_;obtain⟨ws,z1,z2⟩:=ha;obtain⟨R2,st2⟩:=R1.write (ho:=ho) (o:=.lat _ ds') hS IP l1 ⟨ws,⟨rfl,z1⟩,z2⟩;exact q rv F1 _ R2 (st1.trans st2) rr
    |_=>cases hf
  |_=>cases hf
 ·cases hg⟩
end
section
variable {P:Program}{w:World}{K:AAD}{mg:AAF}{base:Heap}{C:Addr}{m q x:Str}{st:Stmt}{ps:BBB}{fm:FM}{ng:Nat}
structure ym (P:Program) (w:World) (K:AAD) (mg:AAF) (base:Heap) (n:Nat) (C:Addr) (m:Str) (ps:BBB) (ng:Nat) (fm:FM):Prop where
 ex:∃a d,kP P w K mg base zV n a d ps (spG K ps.length ng fm)/\Binds K d ps []/\Meth K C m a
def K9 {g:GS}(D:ED K C m q st) (Sc:bR N ps (aV st))
  (hf:∀us r,fm us=some r->bH N.length g us=some r)
  (hb:∀(f:Addr) (cdv:Value) (A:Around) (outer:BBF) (s:Shared) (H:Hp) (E:XK),gD k (A.deeper (envOfC q (aV st) s.heap.objs.size f cdv))->JB (wW zV P w K mg base N q (aV st) f cdv A outer s H E).ME (fV st) g) (hn:ps.length+ng<=N.length:=by decide) (hgs:∀x∈(N.drop ps.length).take ng,(aV st).names.lookup x=none:=by decide +kernel)
  (bd:BdM m q st ps:=by intro _ _ _ _ _ _ us hl;rcases us with _|⟨_,_|⟨_,_|⟨_,_|⟨_,_|⟨_,_|⟨_,_|⟨_,_⟩⟩⟩⟩⟩⟩⟩<;>first|rfl|cases hl):ym P w K mg base (k+1) C m ps ng fm:=by
 obtain⟨f,fd,F,m⟩:=D.ex;exact⟨f,fd,abm F Sc hn hgs (hb f) hf,F.binds bd,m⟩
end
def jf (C:Addr) (m:Str) (i:Nat) (f:FM) (gu:GU) (gh:BBJ):GE:=fun S=>(j9 C S i).bind fun kvs=>if kvs.lookup m=none then bu f (UA (Ad i gu) gh) S else none
section
variable {X:Cx}{C:Addr}{e:Expr}{es:BBC}{gu:GU}{x m:Str}{px pos apos:Pos}{fm:FM}{ps:BBB}{k j i:Nat}{gh:BBJ}
def UB {pl:Sem Bool}(i:Nat) (gh:BBJ) (c:AN X.K C) (Cl:ym X.prog X.w X.K X.mg X.base j C m ps gh.length fm) (hr:gD k X.A) (ha:JU X (e::es) gu) (hj:j<=k:=by lia) (hn:(e::es).length+1=ps.length:=by rfl)
  (hN:X.N[i]? =some x:=by rfl) (hv:qV X.env.scope x:=by first|exact Or.inl rfl|exact Or.inr (Or.inl rfl)|exact Or.inr (Or.inr rfl)) (hd:BBT x:=by decide) (hcd:BBU x:=by decide)
  (hst:starEach (e::es) X.env=(false,eval e X.env)::starEach es X.env:=by rfl) (hpl:(backTo pos (starEach es X.env)).any (·.1)=false:=by rfl)
  (ht:eval (.Call (.Attribute (.Name x px) m apos) (e::es) [] pos) X.env=(do
   let ov <-eval (.Name x px) X.env
   standAt apos.atName
   let(f,first) <-holding [ov] (getMethod ov m pl)
   callWith pos f first (backTo pos (starEach (e::es) X.env)) (backToKw pos (keywordEach [] X.env))):=by rfl):
  JE X (.Call (.Attribute (.Name x px) m apos) (e::es) [] pos) (jf C m i fm gu gh):=by
 obtain⟨fa,fd,G,hb,hm⟩:=Cl.ex;exact⟨fun B=>(MM (pl:=pl) (cI hN hv hd hcd) c hm (G.mono hj) hr hb .nil Fg (ha.h B) hst hpl ht).imp fun σ H Q hh=>by
 obtain⟨S,F0,u,S',R,hg,q⟩:=hh;obtain⟨kvs,h0,hg⟩:=ah hg;obtain⟨hl,hg⟩:=cW hg;obtain⟨⟨us',S1⟩,h1,hg⟩:=ah hg;obtain⟨⟨us1,S1a⟩,h1a,hq⟩:=aB h1;cases hq;obtain⟨⟨us,S1'⟩,UO,hq⟩:=aB h1a;cases hq;obtain⟨u0,hS,_,_⟩:=yi h0;obtain⟨a,ws,dx,e1,e2,e3⟩:=wJ R h0;obtain⟨hc,hg⟩:=cW hg;obtain⟨ws',h2,hg⟩:=ah hg;obtain⟨⟨r,outs⟩,h3,hg⟩:=ah hg;obtain⟨S2,h4,hg⟩:=aB hg;cases hg;refine⟨.ref a,e1,a,dx,ws,rfl,e2,Al e3 hl,S,F0,us,_,R,UO,fun vs F1 H1 R1 st1 rr0=>?_⟩;show spG X.K ps.length gh.length fm (.ref a::(vs++[])) H1 Q E0;rw[adB];have hlen:vs.length+1=ps.length:=by rw[rr0.length,ha.len _ _ _ UO];exact hn
 obtain⟨w2,hw2⟩:=tX h2;obtain⟨gv,gl,gp⟩:=FG (H0:=H) R1 gh hw2;have rr1:Paired (fun v u=>iY X.K B S1' σ H F1 H1 v u) (.ref a::vs) (.v i::us):=.cons ⟨e1,st1.slots i u0 hS⟩ rr0;have rr:=ya rr1 gp;refine⟨hlen,gv,F1,ws',r,outs,gl,R1.sub,qK R1 rr h2,dz R1 rr h2 hc.1 hc.2,h3,fun v F2 H2 po rn=>?_⟩;obtain⟨R2,st2,mu⟩:=kR R1 st1 rr h2 h4 hc.1 po;refine q v F2 H2 R2 st2 ?_;cases r with
 |t d=>exact rn
 |b o=>cases rn
 |v i=>cases rn
 |s i=>cases rn
 |f i=>cases rn
 |x cx kx=>cases rn
 |m o=>
  obtain⟨a,e,h0,f,h⟩:=rn;refine⟨a,e,none_of st1.ext.there h0,f,h,fun m=>?_,none_of R1.ext.there h0⟩;obtain⟨o',ho⟩:=R1.has (mu a m);rw[h0] at ho;cases ho⟩
end
section
variable {X:Cx}{pins:AAG}{σ gv:St}{H:Hp}{s:Shared}{gh:BBB}
def Cx.Ok.other (o:X.Ok):{X with N:=N}.Ok:=⟨o.mod,o.kind,o.glob,o.blt,o.above,o.inj,o.has,o.Qk,o.hd,o.frames,o.stk,o.UU,o.bs,o.GZ,o.Ck,o.DT,o.sU,o.MB⟩
def Cx.Ok.back (o:{X with N:=N}.Ok):X.Ok:=⟨o.mod,o.kind,o.glob,o.blt,o.above,o.inj,o.has,o.Qk,o.hd,o.frames,o.stk,o.UU,o.bs,o.GZ,o.Ck,o.DT,o.sU,o.MB⟩
def Inv.wide (I:Inv X pins σ H s) (hl:gv.length=gh.length) (hg:∀x∈gh,X.env.scope.names.lookup x=none):Inv {X with N:=X.N++gh} pins (σ++gv) H s:=
 ⟨I.ok.other,I.os,I.bare,I.base,let⟨m,a,b⟩:=I.loc;⟨m,a,fun i x v h1 h2 h3=>by
  have h1:(X.N++gh)[i]? =some x:=h1;have le:=I.len;by_cases hi:i<X.N.length
  ·rw[ab1 hi] at h1;rw[ab1 (by rw[le];exact hi)] at h2;exact b i x v h1 h2 h3
  ·rw[ado (Nat.le_of_not_lt hi)] at h1;have:=hg x (abK h1);rcases h3 with z|z|z<;>(rw[this] at z;cases z)⟩,I.cell,I.free,I.lM,I.pin,I.hok,by show(σ++gv).length=(X.N++gh).length;rw[aan,aan,hl,I.len]⟩
def Inv.slim (I:Inv {X with N:=X.N++gh} pins (σ++gv) H s) (hl:σ.length=X.N.length):Inv X pins σ H s:=
 ⟨I.ok.back,I.os,I.bare,I.base,let⟨m,a,b⟩:=I.loc;⟨m,a,fun i x v h1 h2 h3=>by
  have hi:=(aaD.mp h1).1;exact b i x v (by show(X.N++gh)[i]? =_;rw[ab1 hi];exact h1) (by rw[ab1 (by rw[hl];exact hi)];exact h2) h3⟩,I.cell,I.free,I.lM,I.pin,I.hok,hl⟩
def PE.wide {e:Expr}{t:TE}(h:PE {X with N:=X.N++gh} e t) (hg:∀x∈gh,X.env.scope.names.lookup x=none):PE X e (fun σ H Q=>∃gv:St,gv.length=gh.length/\t (σ++gv) H Q):=by
 intro pins s σ H Q I ⟨gv,hl,q⟩;have:=h pins s (σ++gv) H Q (I.wide hl hg) q;exact acf this (fun u s' ⟨v,H',I',r,q⟩=>⟨v,H',I'.slim I.len,r,q⟩) fun _ _ e=>e
end
theorem An {f:Str×NameKind->Str×NameKind}(hf:∀p,(f p).1=p.1){z:Str}:∀{l:List (Str×NameKind)},l.lookup z=none->(l.map f).lookup z=none
 |[],_=>rfl
 |(a,k)::l,h=>by
  rw[ade] at h;split at h
  ·cases h
  ·rename_i q;rw[abX];have e:=hf (a,k);generalize f (a,k)=p at *;obtain⟨b,k'⟩:=p;cases e;rw[ade,q];exact An hf h
def Bw {env:Env}{z:Str}(h:scope.names.lookup z=none):(relabel scope env).names.lookup z=none:=by
 unfold relabel;exact An (fun p=>by obtain⟨n,k⟩:=p;dsimp only;split<;>rfl) h
def La {X:Cx}{iter:Expr}{x:Str}{px pos:Pos}{gi:GI}(gh:BBB) (gs:BBJ) (T:eO X x bL cap scope cl) (hc:X.calm=true) (hi:JI X (.Name x px) iter gi)
  (he:∀C s H fp,JD (cj X (x::bL++gh) scope cl C s H fp) elt g) (hgl:gs.length=gh.length:=by rfl) (hgh:∀z∈gh,scope.names.lookup z=none:=by decide +kernel)
  (hs:∀x,foldedSetIterable iter X.env x=pure x:=by intro _;rfl):JE X (.ListComp elt [⟨.Name x px,iter,[],0⟩] scope pos) (cT (cap++gs) gi bQ g):=⟨fun B=>by
 refine(xg (tc:=QZ) (te:=fun σ H Q=>∃gv:St,gv.length=gh.length/\∃B,tD X.K B g (σ++gv) H Q) T hc (hi.h B) (fun C s H fp=>Fi) (fun C s H fp=>PE.wide (X:=cj X (x::bL) scope cl C s H fp) (t:=fun σ H Q=>∃B,tD X.K B g σ H Q) (fun pins s' σ H' Q I ⟨B',z⟩=>(he C s H fp).h B' pins s' σ H' Q I z) (fun z hz=>Bw (hgh z hz))) hs).imp fun σ H Q h=>?_;obtain⟨S,F,ds,S1,R,hg,q⟩:=xu h;refine⟨S,F,ds,S1,R,hg,fun J F1 H1 R1 st1 w=>?_⟩;obtain⟨W,w0,w1⟩:=q J F1 H1 R1 st1 w;refine⟨W,w0,fun i m ys H' hW=>?_⟩;obtain⟨l,r⟩:=w1 i m ys H' hW;refine⟨l,r.imp (fun z=>z) fun⟨go,y⟩=>⟨go,fun xv H3 hy=>?_⟩⟩;obtain⟨B',S2,F2,b,S3,R2,hq,k⟩:=y xv H3 hy;cases hq;have k2:=k F2 H3 R2 (Step.refl ..);rw[if_pos rfl] at k2;simp only[QZ,↓reduceIte];refine⟨dj gs σ,by unfold dj;rw[aah];exact hgl,?_⟩;have e:some xv::dj (cap++gs) σ=(some xv::dj cap σ)++dj gs σ:=by unfold dj;rw[acg];rfl
 rw[<-e];exact k2⟩
noncomputable def spI (C:Addr):Sp:=fun vs H Q _=>∃x dx,vs=[.ref x]/\H x=some (.ins C dx [])/\∀c d H',H c=none->H d=none->c≠d->H' x=some (.ins C dx [("basics",.ref c),("numbers",.ref d),("trues",.int 0)])->H' c=some (.lst [])->H' d=some (.dT [])->(∀b o,H b=some o->b≠x->H' b=some o)->Q .cJ H'
structure RP (P:Program) (w:World) (K:AAD) (mg:AAF) (base:Heap) (n:Nat) (C:Addr):Prop where
 ex:∃a d,kP P w K mg base zV n a d ["self"] (spI C)/\Binds K d ["self"] []/\Meth K C "__init__" a
section
variable {X:Cx}{C:Addr}{p1 p2 p3 p4 p5 p6 p7 p8 p9 pa pb pc:Pos}{kk:Nat}
def PM (C:Addr):TS:=fun D σ H=>∃x dx,σ[0]? =some (some (.ref x))/\H x=some (.ins C dx [])/\∀c d H',H c=none->H d=none->c≠d->H' x=some (.ins C dx [("basics",.ref c),("numbers",.ref d),("trues",.int 0)])->H' c=some (.lst [])->H' d=some (.dT [])->(∀b o,H b=some o->b≠x->H' b=some o)->D.nx σ H'
def Lb (c:AN X.K C) (n1:gf X.K C "basics") (n2:gf X.K C "numbers") (n3:gf X.K C "trues") (hN:X.N[0]? =some ("self":Str):=by rfl) (hv:qV X.env.scope ("self":Str):=by first|exact Or.inl rfl|exact Or.inr (Or.inl rfl)|exact Or.inr (Or.inr rfl))
  (s1:swapsWith (.List [] p3) (some (.Attribute (.Name "self" p1) "basics" p2)) p4.line X.env=pure false:=by rfl) (s2:swapsWith (.Dict [] [] p7) (some (.Attribute (.Name "self" p5) "numbers" p6)) p8.line X.env=pure false:=by rfl) (s3:swapsWith (.Constant (.int 0) kk pb) (some (.Attribute (.Name "self" p9) "trues" pa)) pc.line X.env=pure false:=by rfl):
  zh X [.Assign [.Attribute (.Name "self" p1) "basics" p2] (.List [] p3) p4,.Assign [.Attribute (.Name "self" p5) "numbers" p6] (.Dict [] [] p7) p8,.Assign [.Attribute (.Name "self" p9) "trues" pa] (.Constant (.int 0) kk pb) pc] (PM C):=by
 refine(sV (AO (cI hN hv (by decide) (by decide)) (Jw kO) s1) (sV (AO (cI hN hv (by decide) (by decide)) JL s2) (EY (AO (cI hN hv (by decide) (by decide)) (Je (i:=0)) s3)))).imp fun D σ H hh=>?_;obtain⟨x,dx,hs,hx,q⟩:=hh;refine⟨by show 0<=_;exact abH _,fun cc hc=>?_⟩;have RQ:x≠cc:=fun e=>by rw[<-e,hx] at hc;cases hc
 refine⟨.ref x,hs,x,C,dx,[],rfl,by rw[bh RQ];exact hx,c,n1,by decide,?_⟩;intro dd hd;have RS:x≠dd:=fun e=>by rw[<-e,aU] at hd;cases hd
 rw[bh (acj RS)] at hd;have WS:cc≠dd:=fun e=>by rw[<-e,aU] at hd;cases hd
 have hd0:H dd=none:=by rw[bh (acj WS)] at hd;exact hd
 refine⟨.ref x,hs,x,C,dx,_,rfl,by rw[bh RS];exact aU,c,n2,by show 1<1000;decide,?_⟩;refine⟨.ref x,hs,x,C,dx,_,rfl,aU,c,n3,by show 2<1000;decide,?_⟩;refine q cc dd _ hc hd0 WS aU ?_ ?_ fun b o z nb=>?_
 ·rw[bh (acj RQ),bh (acj RQ),bh WS,bh (acj RQ)];exact aU
 ·rw[bh (acj RS),bh (acj RS)];exact aU
 ·have b1:b≠cc:=fun e=>by rw[e,hc] at z;cases z
  have b2:b≠dd:=fun e=>by rw[e,hd0] at z;cases z
  rw[bh nb,bh nb,bh b2,bh nb,bh b1];exact z
end
section
variable {P:Program}{w:World}{K:AAD}{mg:AAF}{base:Heap}{C:Addr}{q:Str}{st:Stmt}
def okI (D:ED K C "__init__" q st) (Sc:bR ["self"] ["self"] (aV st))
  (hb:∀(f:Addr) (cdv:Value) (A:Around) (outer:BBF) (s:Shared) (H:Hp) (E:XK),zh (wW zV P w K mg base ["self"] q (aV st) f cdv A outer s H E).ME (fV st) (PM C))
  (bd:BdM "__init__" q st ["self"]:=by intro _ _ _ _ _ _ us hl;rcases us with _|⟨_,_|⟨_,_⟩⟩<;>first|rfl|cases hl):RP P w K mg base (k+1) C:=by
 obtain⟨f,fd,F,m⟩:=D.ex;refine⟨f,fd,F.ok Sc (fun vs H Q E ⟨x,dx,e,_⟩=>by rw[e];rfl) fun cdv A outer s H vs Q E hr h=>?_,F.binds bd,m⟩;obtain⟨x,dx,rfl,hx,q⟩:=h;exact⟨_,hb f cdv A outer s H E,x,dx,rfl,hx,q⟩
end
def RU (i j k:Nat) (C c d:Addr) (S:SS):Option SS:=
 (pL j (.m (.lat c [])) S).bind fun S1=>(pL k (.m (.lK d [])) S1).bind fun S2=>pL i (.m (.DO C [("basics",.inr c),("numbers",.inr d),("trues",.inl (.int 0))])) S2
noncomputable def Ao (S:SS) (i:Nat):Bool:=match S[i]? with
 |some (some (.m _))=>true
 |_=>false
def RV (i j k:Nat):Out->Option Out
 |.rt (.t d) S=>if Ao S i/\Ao S j/\Ao S k/\i≠j/\i≠k/\j≠k then some (.rt (.t d) (((S.set i none).set j none).set k none)) else none
 |_=>none
def Lc (i j k:Nat) (C:Addr) (gr:GS):GS:=fun S=>yc fun c d=>(RU i j k C c d S).bind fun S1=>(gr S1).bind (RV i j k)
def yp (h:Ao S i=true):∃o,S[i]? =some (some (.m o)):=by
 unfold Ao at h;split at h
 ·rename_i o e;exact⟨o,e⟩
 ·cases h
def N3 {j:Nat}{F:Hp}{D:Ends}{o o1:Out}(h:RV i j k o1=some o) (q:zX K B F D o):zX K B F D o1:=by
 cases o1 with
 |rt u S1=>
  cases u with
  |t dd=>
   obtain⟨⟨hi,hj,hk,ij,ik,jk'⟩,h⟩:=cW (show(if _ then some (Out.rt (.t dd) (((S1.set i none).set j none).set k none)) else none)=some o from h);cases h;intro v σ' F' H' R le r;obtain⟨oi,ei⟩:=yp hi;obtain⟨oj,ej⟩:=yp hj;obtain⟨ok,ek⟩:=yp hk;have R1:=R.drop ei;have R2:=R1.drop (i:=j) (o:=oj) (by rw[abv ij];exact ej);have R3:=R2.drop (i:=k) (o:=ok) (by rw[abv jk',abv ik];exact ek);exact q v σ' F' H' R3 le r
  |_=>cases h
 |_=>cases h
section
variable {X:Cx}{C:Addr}{rest:BBH}{gr:GS}{i:Nat}{x y:Str}{p pos py spos:Pos}{n m:Nat}
def Ld (j k:Nat){zj zk:Str}(M:WO X.K X.mg x C) (I:RP X.prog X.w X.K X.mg X.base n C) (hr:gD m X.A) (hN:X.N.Nodup) (hy:X.N[i]? =some y) (hx:Loc X.env.scope y) (hb:JB X rest gr) (hn:n+1<=m:=by lia) (hg:Gl X x:=by rfl)
  (hj:X.N[j]? =some zj:=by rfl) (hk:X.N[k]? =some zk:=by rfl) (lj:X.env.scope.names.lookup zj=none:=by rfl) (lk:X.env.scope.names.lookup zk=none:=by rfl) (hdb:BBT x:=by decide)
  (hs:swapsWith (.Call (.Name x p) [] [] pos) (some (.Name y py)) spos.line X.env=pure false:=by rfl) (hf:X.fn y=true\/X.env.scope.names.lookup y=some .local:=by first|exact .inl rfl|exact .inr rfl|assumption):
  JB X (.Assign [.Name y py] (.Call (.Name x p) [] [] pos) spos::rest) (Lc i j k C gr):=by
 obtain⟨fa,fd,G,bd,me⟩:=I.ex;exact⟨fun B=>by
 refine(sV (Jm hN hy hx (Jz ⟨M.mks,me.at_,me.fn,M.kp⟩ G (hr.mono hn) hg M.nm bd .nil Fg hdb) hs hf) (hb.h B).gh).imp fun D σ H hh=>?_;obtain⟨S,F,o,R,h,q⟩:=hh;have hall:=C1 h;intro xa dx hx hdx ne;refine⟨xa,dx,rfl,aU,fun c d H' hc hd WS a1 a2 a3 a4=>⟨rfl,?_⟩⟩;have RQ:c≠xa:=fun e=>by rw[e,aU] at hc;cases hc
 have RS:d≠xa:=fun e=>by rw[e,aU] at hd;cases hd
 have old:∀b,b≠xa->upd (upd H dx (.own xa)) xa (.ins C dx []) b=none->H b=none:=fun b nb z=>by
  rw[bh nb] at z;by_cases e:b=dx
  ·subst e;rw[aU] at z;cases z
  ·rw[bh e] at z;exact z
 have hc0:=old c RQ hc;have hd0:=old d RS hd;have keep:∀b o,H b=some o->H' b=some o:=fun b o z=>by
  have b1:b≠xa:=fun e=>by rw[e,hx] at z;cases z
  have b2:b≠dx:=fun e=>by rw[e,hdx] at z;cases z
  exact a4 b o (by rw[bh b1,bh b2];exact z) b1
 have nw:gg F H F H':=⟨fun _ _ z=>z,keep,fun _ _ _ z=>z⟩
 have R1:=R.new nw (R.sub.same nw.same);have fr:∀a,H a=none->F a=none/\¬cQ S σ a/\B.H a=none:=fun a z=>⟨R.sub.fresh z,fun mm=>(by obtain⟨o,ho⟩:=R.has mm;rw[z] at ho;cases ho),none_of R.ext.there z⟩
 have hcd:=hall c d;obtain⟨S4,h4,hcd⟩:=ah hcd;obtain⟨o1,b1,b2⟩:=ah hcd;obtain⟨Sa,ha,h4⟩:=ah h4;obtain⟨Sb,hb',h4⟩:=ah h4;have Ra:=R1.put ha (v:=.ref c) ⟨c,rfl,(fr c hc0).1,⟨[],⟨rfl,a2⟩,.nil⟩,(fr c hc0).2.1,(fr c hc0).2.2⟩;have ea:=(uO ha).1;subst ea;have Rb:=Ra.put hb' (v:=.ref d) ⟨d,rfl,(fr d hd0).1,⟨[],⟨rfl,a3⟩,.nil⟩,fun mm=>(vd mm).elim (acj WS) (fr d hd0).2.1,(fr d hd0).2.2⟩;have eb:=(uO hb').1;subst eb;have Rc:=Rb.put h4 (v:=.ref xa) ⟨xa,rfl,(fr xa hx).1,⟨_,⟨dx,a1⟩,.cons ⟨rfl,rfl⟩ (.cons ⟨rfl,rfl⟩ (.cons ⟨rfl,.int 0⟩ .nil))⟩,fun mm=>(vd mm).elim (acj RS) fun mm=>(vd mm).elim (acj RQ) (fr xa hx).2.1,(fr xa hx).2.2⟩;obtain⟨l,e⟩:=KY (σ:=σ) (i:=i) (c:=c) (d:=d) (p:=xa) hj hk lj lk;exact⟨_,l,e,S4,F,o1,Rc,b1,N3 b2 q⟩⟩
end
def C5 (S:SS) (cap:BBJ):Bool:=match dH S cap with
 |some us=>(slotsOf us).isEmpty && cS us == 0
 |none=>false
def vf (i:Nat) (cap:BBJ) (q:GT) (g:GD):GE:=fun S=>match S[i]? with
 |some (some (.m (.lst ds)))=>if ds.length<=100000/\C5 S cap=true then(cg cap q g ds S []).map fun r=>(.m (.lst r.1),r.2) else none
 |some (some (.b (.lst ds)))=>if ds.length<=100000/\C5 S cap=true then(cg cap q g ds S []).map fun r=>(.m (.lst r.1),r.2) else none
 |_=>none
theorem pU {S S':SS}:∀{us ws:List U}{outs:List MO},slotsOf us=[]->cS us=0->cH S us=some ws->wb us outs S=some S'->S'=S
 |[],_,[],_,_,_,h=>by cases h;rfl
 |[],_,_::_,_,_,_,h=>by cases h
 |u::us,ws,outs,h1,h2,h3,h=>by
  obtain⟨w,e1,h3⟩:=ah h3;obtain⟨ws',e2,h3⟩:=aB h3;cases u with
  |t d=>exact pU (us:=us) (outs:=outs) h1 h2 e2 (by cases outs<;>exact h)
  |m o=>exact absurd h2 (Nat.succ_ne_zero _)
  |b o=>cases e1
  |v j=>cases h1
  |s ns=>exact pU (us:=us) (outs:=outs) h1 h2 e2 (by cases outs<;>exact h)
  |f a=>exact pU (us:=us) (outs:=outs) h1 h2 e2 (by cases outs<;>exact h)
  |x cx kx=>exact pU (us:=us) (outs:=outs) h1 h2 e2 (by cases outs<;>exact h)
def C6 {Sf:SS}{F:Hp}{res:List D}{a:Addr}(R:Rel K B S σ F H) (hi:σ[i]? =some (some (.ref a))) (at':∀F' H',Rel K B S σ F' H'->∃vs,H' a=some (.lst vs)/\bM F' vs ds) (hlen:ds.length<=100000) (hct:C5 S cap=true) (h2:cg cap q g ds S []=some (res,Sf))
  (k:∀v F' H',Rel K B Sf σ F' H'->Step S Sf σ F H F' H'->iY K B Sf σ H F' H' v (.m (.lst res))->Q v H'):Ud (Jq K (AI i)) cap (fun σ H Q=>∃B,tQ K B q σ H Q) (fun σ H Q=>∃B,tD K B g σ H Q) σ H Q:=by
 obtain⟨x,_⟩:∃x:Str,True:=⟨"",trivial⟩
 obtain⟨us,hus,hsl,hfr⟩:∃us,dH S cap=some us/\slotsOf us=[]/\cS us=0:=by
  unfold C5 at hct;split at hct
  ·rename_i us e;obtain⟨c1,c2⟩:=abP.mp hct;exact⟨us,e,List.isEmpty_iff.mp c1,eq_of_beq c2⟩
  ·cases hct
 obtain⟨Yc,ha0,_⟩:=at' F H R;refine⟨.ref a,hi,a,rfl,⟨Yc,mQ.of ha0⟩,?_⟩;refine⟨fun j m ys H'=>∃F2 acc,Rel K B S σ F2 H'/\Step S S σ F H F2 H'/\bM F2 ys acc/\acc.length<=j/\j<=ds.length/\m=ds.length-j/\cg cap q g (ds.drop j) S acc=some (res,Sf),
  ⟨_,F,[],R,Step.refl ..,.nil,aam _,abH _,rfl,h2⟩,?_⟩
 rintro j m ys H' ⟨F2,acc,R2,st2,ry,hac,hl,rfl,fj⟩;refine⟨by rw[ry.length];exact adi (abl hac (abl hl hlen)) (by decide),?_⟩;obtain⟨vs,ha,rs⟩:=at' F2 H' R2;by_cases hlt:j<ds.length
 ·have hd:ds[j]? =some ds[j]:=aaz hlt;obtain⟨xv,hx,rx⟩:=rs.get hd;rw[acM hlt] at fj;refine .inr ⟨⟨vs,xv,mQ.of ha,hx⟩,fun xv' H3 y=>?_⟩;obtain⟨rfl,y2⟩:=y;have e0:=y2 vs (mQ.of ha);rw[hx] at e0;cases e0;obtain⟨us',e1,fj⟩:=ah fj;rw[hus] at e1;cases e1;split at fj
  ·rename_i hnd;obtain⟨ws,e2,fj⟩:=ah fj;obtain⟨⟨bk,T1⟩,e3,fj⟩:=ah fj;obtain⟨YL,k1,k2⟩:=Bb R2 hus;have rr:Paired (fun v u=>iY K B S σ H3 F2 H3 v u) (xv::YL) (.t ds[j]::us):=.cons rx k2;have er:=tK R2 ds[j] e2;have ar:=qK R2 rr er;have nd:=dz R2 rr er hnd.1 hnd.2;have R3:=mY (n:=ws.length+1) R2.sub ar nd (List.replicate (ws.length+1) x) (by simp);have hvl:YL.length=ws.length:=by have:=ar.length;simpa using this
   have es:start (List.replicate (ws.length+1) x) (xv::YL)=some xv::dj cap σ:=by
    unfold start;rw[k1];simp[hvl]
   have eS:(U.t ds[j]::ws).map some++List.replicate (ws.length+1-(U.t ds[j]::ws).length) none=some (U.t ds[j])::ws.map some:=by simp
   rw[es,eS] at R3;have back:∀(T2:SS) (F3 H4:Hp) (outs:List MO) (S3:SS),Rel K ⟨lent (xv::YL) (U.t ds[j]::ws),F2,H3⟩ T2 (some xv::dj cap σ) F3 H4->aT (U.t ds[j]::ws) T2=some outs->wb us outs S=some S3->S3=S/\Rel K B S3 σ F3 H4/\Step S S3 σ F H F3 H4/\(∀b o,F2 b=some o->F3 b=some o):=fun T2 F3 H4 outs S3 RT ho hw=>by
    have po:=post_of ar T2 _ F3 H4 outs RT ho;obtain⟨Ra,zy,_⟩:=kR (S0:=S) (F0:=F2) (H0:=H3) R2 (Step.refl ..) rr er (show wb (U.t ds[j]::us) outs S=some S3 by cases outs<;>exact hw) hnd.1 po;exact⟨pU hsl hfr e2 hw,Ra,st2.trans zy,zy.ext.le⟩
   refine⟨_,_,F2,bk,T1,R3,e3,fun F3 H4 Pr V1=>?_⟩;cases bk with
   |true=>
    obtain⟨⟨yd,T2⟩,e4,fj⟩:=ah (show(g T1).bind _=_ from fj);obtain⟨outs,e5,fj⟩:=ah fj;obtain⟨S3,e6,RW⟩:=ah fj;refine Cy ⟨_,T1,F3,yd,T2,Pr,e4,fun yv F4 H5 V2 V3 V4=>?_⟩;obtain⟨rfl,Ra,zy,Eo⟩:=back T2 F4 H5 outs S3 V2 e5 e6;exact⟨ds.length-(j+1),by lia,F4,acc++[yd],Ra,zy,(ry.le Eo).append (.cons V4 .nil),by simp;lia,hlt,rfl,RW⟩
   |false=>
    obtain⟨outs,e5,fj⟩:=ah (show(aT (U.t ds[j]::ws) T1).bind _=_ from fj);obtain⟨S3,e6,RW⟩:=ah fj;obtain⟨rfl,Ra,zy,Eo⟩:=back T1 F3 H4 outs S3 Pr e5 e6;exact Cw ⟨ds.length-(j+1),by lia,F3,acc,Ra,zy,ry.le Eo,by lia,hlt,rfl,RW⟩
  ·cases fj
 ·have e:j=ds.length:=by lia
  subst e;rw[aek] at fj;cases fj;refine .inl ⟨⟨vs,mQ.of ha,by rw[rs.length];exact aam _⟩,fun p hp=>?_⟩;have n:=gg.obj (F:=F2) hp (.lst ys);refine k (.ref p) F2 _ (R2.new n (R2.sub.same n.same)) (st2.trans n.step) ⟨p,rfl,none_of st2.ext.there hp,R2.sub.fresh hp,⟨ys,aU,ry⟩,fun m=>?_,none_of R2.ext.there hp⟩;obtain⟨o,ho⟩:=R2.has m;rw[hp] at ho;cases ho
def Ik (h:tE K B (vf i cap q g) σ H Q):Ud (Jq K (AI i)) cap (fun σ H Q=>∃B,tQ K B q σ H Q) (fun σ H Q=>∃B,tD K B g σ H Q) σ H Q:=by
 obtain⟨S,F,u,S',R,hg,k⟩:=h;unfold vf at hg;split at hg
 ·rename_i ds e;obtain⟨⟨hlen,hct⟩,hg⟩:=cW hg;obtain⟨⟨res,Sf⟩,h2,hg⟩:=aB hg;cases hg;obtain⟨v,e1,a,rfl,_⟩:=R.rep i _ e;exact C6 R e1 (fun F' H' R'=>by
   obtain⟨v',e2,a',rfl,_,r⟩:=R'.rep i _ e;rw[e1] at e2;cases e2;exact r) hlen hct h2 k
 ·rename_i ds e;obtain⟨⟨hlen,hct⟩,hg⟩:=cW hg;obtain⟨⟨res,Sf⟩,h2,hg⟩:=aB hg;cases hg;obtain⟨v,e1,a,rfl,_⟩:=R.rep i _ e;exact C6 R e1 (fun F' H' R'=>by
   obtain⟨v',e2,a',rfl,_,r⟩:=R'.rep i _ e;rw[e1] at e2;cases e2;exact r) hlen hct h2 k
 ·cases hg
def Le {X:Cx}{ifs:BBC}{x y:Str}{px py pos:Pos}(i:Nat) (T:eO X x bL cap scope cl) (hc:X.calm=true)
  (ht:∀C s H fp,Ng (cj X (x::bL) scope cl C s H fp) ifs q) (he:∀C s H fp,JD (cj X (x::bL) scope cl C s H fp) elt g)
  (hN:X.N[i]? =some y:=by rfl) (hv:qV X.env.scope y:=by first|exact Or.inl rfl|exact Or.inr (Or.inl rfl)|exact Or.inr (Or.inr rfl)) (hd:BBT y:=by decide) (hcd:BBU y:=by decide)
  (hs:∀x,foldedSetIterable (.Name y py) X.env x=pure x:=by intro _;rfl):JE X (.ListComp elt [⟨.Name x px,.Name y py,ifs,0⟩] scope pos) (vf i cap q g):=⟨fun B=>by
 exact(xg (tc:=fun σ H Q=>∃B,tQ X.K B q σ H Q) (te:=fun σ H Q=>∃B,tD X.K B g σ H Q) T hc (AK (cI hN hv hd hcd)) (fun C s H fp pins s' σ H' Q I ⟨B',z⟩=>(ht C s H fp).h B' pins s' σ H' Q I z) (fun C s H fp pins s' σ H' Q I ⟨B',z⟩=>(he C s H fp).h B' pins s' σ H' Q I z) hs).imp fun σ H Q h=>Ik h⟩
def C7 (ge:GE) (gk:GD):GD:=fun S=>(ge S).bind fun p=>match p.1 with
 |.m (.dct kvs)=>(gk p.2).bind fun r=>(keyOf r.1).bind fun kk=>(bT kvs kk).map fun d=>(d,r.2)
 |_=>none
section
variable {X:Cx}{e k:Expr}{pos:Pos}{ge:GE}{gk:GD}
def N4 (hu:X.A.units+20<cLine) (he:JE X e ge) (hk:JD X k gk) (hs:qI k:=by first|(intro _ _;rfl)):JD X (.Subscript e k pos) (C7 ge gk):=
 ⟨fun B=>(wH hu (he.h B) (hk.h B) hs).imp fun σ H Q hh=>by
 obtain⟨S,F,d,S',R,hg,q⟩:=hh;obtain⟨⟨u,S1⟩,h1,hg⟩:=ah hg;dsimp only at hg;split at hg
 ·rename_i kvs;obtain⟨⟨d1,S2⟩,h2,hg⟩:=ah hg;obtain⟨kk,h3,hg⟩:=ah hg;obtain⟨d2,h4,hg⟩:=aB hg;cases hg;refine⟨S,F,_,S1,R,h1,fun v F1 H1 R1 st1 r1=>⟨S1,F1,d1,_,R1,h2,fun y F2 H2 R2 st2 r2=>?_⟩⟩;obtain⟨a,rfl,_,_,⟨ws,ha,pr⟩,_,_⟩:=r1.step st2;obtain⟨w',z1,z2⟩:=jd pr h4;exact⟨a,w',rfl,by rw[<-z1];exact lJ.ky ha (ni r2 h3),q w' F2 H2 R2 (st1.trans st2) z2⟩
 ·cases hg⟩
end
def Bx (f:FM) (g:GD) (i:Nat):GD:=fun S=>(g S).bind fun p=>match p.2[i]? with
 |some (some u)=>(look u).bind fun d=>match f [.t p.1,.t d] with
  |some (.t e,[])=>if iW e=true then some (e,p.2) else none
  |_=>none
 |_=>none
def Lf {F:Hp}{u:U}{d d1:D}{v:V}(R:Rel K B S σ F H) (h:S[i]? =some (some u)) (hl:look u=some d) (r1:Rep F v d1):∃w F1,σ[i]? =some (some w)/\Sub F1 H/\Rep F1 w d/\Rep F1 v d1:=by
 obtain⟨w,hv,r⟩:=R.rep i u h;unfold look at hl;split at hl
 ·cases hl;exact⟨_,F,hv,R.sub,r,r1⟩
 ·cases hl;obtain⟨a,rfl,fa,vs,ha,rs⟩:=r;exact⟨_,upd F a (.lst vs),hv,R.sub.jK ha,.lst (.inl aU) (rs.le (fT fa)),r1.le (fT fa)⟩
 ·cases hl;obtain⟨a,rfl,fa,vs,ha,rs⟩:=r;exact⟨_,upd F a (.lst vs),hv,R.sub.jK ha,.lst (.inl aU) (rs.le (fT fa)),r1.le (fT fa)⟩
 ·cases hl
section
variable {X:Cx}{e:Expr}{g:GD}{x y:Str}{p px pos:Pos}{ps:BBB}{k j:Nat}{fm:FM}
def jlk (i:Nat) (c:tW X.prog X.w X.K X.mg X.base j x ps fm) (hr:gD k X.A) (he:JD X e g) (hj:j<=k:=by lia) (hg:Gl X x:=by rfl) (hn:ps.length=2:=by rfl)
  (hN:X.N[i]? =some y:=by rfl) (hv:qV X.env.scope y:=by first|exact Or.inl rfl|exact Or.inr (Or.inl rfl)|exact Or.inr (Or.inr rfl)) (hd:BBT y:=by decide) (hcd:BBU y:=by decide)
  (hdb:BBT x:=by decide) (h1:starEach [e,.Name y px] X.env=(false,eval e X.env)::starEach [.Name y px] X.env:=by rfl) (h2:starEach [.Name y px] X.env=(false,eval (.Name y px) X.env)::starEach [] X.env:=by rfl) (hpl:(backTo pos (starEach [.Name y px] X.env)).any (·.1)=false:=by rfl):
  JD X (.Call (.Name x p) [e,.Name y px] [] pos) (Bx fm g i):=by
 obtain⟨a,d,G,b,kp,m⟩:=c.ex;exact⟨fun B=>(E2 (G.mono hj) hr hg m kp b .nil Fg (gF (he.h B) (gF (cI hN hv hd hcd) kO h2) h1) hdb h1 hpl).imp fun σ H Q hh=>by
 obtain⟨S,F,d0,S',R,hg',q⟩:=hh;obtain⟨⟨d1,S1⟩,e1,hg'⟩:=ah hg';dsimp only at hg';split at hg'
 ·rename_i u hS;obtain⟨dl,e2,hg'⟩:=ah hg';split at hg'
  ·rename_i e' he';obtain⟨hfl,hg'⟩:=cz hg';cases hg';refine⟨S,F,d1,_,R,e1,fun v F1 H1 R1 st1 r1=>?_⟩;obtain⟨w2,F3,z1,z2,z3,z4⟩:∃w2 F3,σ[i]? =some (some w2)/\Sub F3 H1/\Rep F3 w2 dl/\Rep F3 v d1:=Lf R1 hS e2 r1;refine⟨w2,z1,?_⟩;show spT X.K ps.length fm ([v,w2]++[]) H1 Q E0;rw[adB];refine⟨by rw[hn];rfl,F3,[.t d1,.t dl],_,[],z2,.cons z4 (.cons z3 .nil),?_,he',fun v' F' H' po rn=>?_⟩
   ·rw[Rk,Rk];exact ad2
   ·have keep:∀b o,H1 b=some o->H' b=some o:=fun b o z=>po.ext.keep b o z (by rw[Rk,Rk];exact abG);have n':gg F1 H1 F1 H':=⟨fun _ _ z=>z,keep,fun _ _ _ z=>z⟩
    exact q v' F1 H' (R1.new n' (R1.sub.same n'.same)) (st1.trans n'.step) (xJ hfl rn)
  ·cases hg'
 ·cases hg'⟩
end
end L2
end
section
namespace Sw
open PySem PySem.Spec PyProof.Rows L2
noncomputable def WT:Str:="abcdefghijklmnopqrstuvwxyz"
def WU (y:Str):Bool:=!(Builtin.Str.occurrences WT y 0 WT.length 1).isEmpty
noncomputable def signs (z:Str):BBB:=z.cps.toList.map fun c=>(⟨#[c]⟩:Str)
def nameB:D->Bool
 |.str z=>decide (1<=z.length) && decide (z.length<=8) && (signs z).all WU
 |_=>false
end Sw
end
section
namespace L2
open PySem PySem.Spec PyProof.Rows
section
variable (S:SS)(d:D)(i:Nat)(g ga gb gc:GD)(gA:GA)
@[simp] theorem abo (ds:List D) (k:Int):aat [.lst ds,.int k]=if 0<=k/\k.toNat<=100000/\ds.length*k.toNat<=100000 then some (.m (.lst (List.replicate k.toNat ds).flatten)) else none:=rfl
@[simp] theorem UC (es ds:List D):dR [.lst es] (.lst ds)=if ds.length+es.length<=100000 then some (.cJ,.lst (ds++es)) else none:=rfl
def Lg (cap:BBJ) (gi:GI) (q:GT):cT cap gi q g S=(gi S).bind fun p=>if p.1.length<=100000 then(cg cap q g p.1 p.2 []).map fun r=>(.m (.lst r.1),r.2) else none:=rfl
@[simp] theorem YM (x y:Int):z9 [.int x,.int y]=AAC (if y<x then y else x):=rfl
end
end L2
namespace Sq
open PySem PySem.Spec PyProof.Rows L2 Sw
theorem FW {bd:GB}{body:GS}:∀(ds:List D) (I:List D->SS->Prop) (S:SS),I ds S->(∀d r S,I (d::r) S->∃S1 S2,bd d S=some S1/\body S1=some (.nx S2)/\I r S2)->∃S',loop bd body ds S=some (.nx S')/\I [] S'
 |[],I,S,h,_=>⟨S,rfl,h⟩
 |d::ds,I,S,h,k=>by
  obtain⟨S1,S2,e1,e2,h2⟩:=k d ds S h;obtain⟨S',e,h'⟩:=FW ds I S2 h2 k;refine⟨S',?_,h'⟩;show((bd d S).bind fun S1=>(body S1).bind _)=_;rw[e1,aad,e2,aad];exact e
def n6 (cap:BBJ) (q:GT) (g:GD) (d:D) (ds:List D) (S:SS) (acc:List D):cg cap q g (d::ds) S acc=(cg cap q g [d] S acc).bind fun r=>cg cap q g ds r.2 r.1:=by
 simp only[cg];cases dH S cap with
 |none=>rfl
 |some us=>
  simp only[aad];split
  ·cases cH S us with
   |none=>rfl
   |some ws=>
    simp only[aad];cases q (AAA d::ws.map some) with
    |none=>rfl
    |some p=>
     simp only[aad];split
     ·cases g p.2 with
      |none=>rfl
      |some r=>
       simp only[aad];cases aT (.t d::ws) r.2 with
       |none=>rfl
       |some outs=>
        simp only[aad];cases wb us outs S with
        |none=>rfl
        |some S'=>rfl
     ·cases aT (.t d::ws) p.2 with
      |none=>rfl
      |some outs=>
       simp only[aad];cases wb us outs S with
       |none=>rfl
       |some S'=>rfl
  ·rfl
theorem FY {cap:BBJ}{g:GD}:∀(ds:List D) (I:List D->List D->SS->Prop) (S:SS) (acc:List D),I ds acc S->(∀d r acc S,I (d::r) acc S->∃acc' S',cg cap bQ g [d] S acc=some (acc',S')/\I r acc' S')->∃acc' S',cg cap bQ g ds S acc=some (acc',S')/\I [] acc' S'
 |[],I,S,acc,h,_=>⟨acc,S,rfl,h⟩
 |d::ds,I,S,acc,h,k=>by
  obtain⟨a1,S1,e1,h1⟩:=k d ds acc S h;obtain⟨a2,S2,e2,h2⟩:=FY ds I S1 a1 h1 k;exact⟨a2,S2,by rw[n6,e1];exact e2,h2⟩
def Lh {α:Type}{l:List α}{i:Int}{x:α}(h0:0<=i) (h:l[i.toNat]? =some x):d7 l i=some x:=by
 have hl:=(aaD.mp h).1;unfold d7 Hh;rw[if_pos h0,if_pos (by lia)];exact h
def RX {α:Type}{l:List α}{i:Int}(h0:0<=i) (h1:i<l.length):∃x,d7 l i=some x/\l[i.toNat]? =some x:=by
 have h:i.toNat<l.length:=by lia
 exact⟨l[i.toNat],Lh h0 (aaz h),aaz h⟩
noncomputable abbrev fd (c i l:Int):MO:=.lst [.int c,.int i,.int l]
end Sq
end
section
namespace L2
open PySem PySem.Spec PyProof.Rows
@[simp] theorem abp (n:Nat) (bs:Mp) (ds:List D) (S:SS):uP n bs (.tup ds) S=if ds.length=n then bs ds S else none:=rfl
@[simp] theorem YO (b:GB) (bs:Mp) (d:D) (r:List D) (S:SS):gU b bs (d::r) S=(b d S).bind fun S1=>bs r S1:=rfl
@[simp] theorem abq (S:SS):wk [] S=some S:=rfl
@[simp] theorem YQ (S:SS):Fw S=some (.m (.dct []),S):=rfl
@[simp] theorem WV (z:Str):iW (.str z)=true:=rfl
@[simp] theorem WW (b:Bool):iW (.bl b)=true:=rfl
@[simp] theorem WX (b:Int):iW (.int b)=true:=rfl
@[simp] theorem WK (g:GD) (lo hi:Option GD) (S:SS):IQ g lo hi S=(g S).bind fun p=>(nu lo p.2).bind fun l=>(nu hi l.2).bind fun h=>(Nn p.1 l.1 h.1).map fun u=>(u,h.2):=rfl
@[simp] theorem UD (S:SS):nu none S=some (none,S):=rfl
@[simp] theorem UE (g:GD) (S:SS):nu (some g) S=(g S).bind fun p=>match p.1 with|.int i=>some (some i,p.2)|_=>none:=rfl
@[simp] theorem NO (ds:List D) (lo hi:BBM):Nn (.tup ds) lo hi=AAA (.tup (cutD ds lo hi)):=rfl
@[simp] theorem NP (ds:List D) (lo hi:BBM):Nn (.lst ds) lo hi=AAB (cutD ds lo hi):=rfl
def pW {bd:GB}{body:GS}(ds:List D) (I:Nat->SS->Prop) (S:SS) (h0:I 0 S) (hs:∀j d S,ds[j]? =some d->I j S->∃S1 S2,bd d S=some S1/\body S1=some (.nx S2)/\I (j+1) S2):∃S',loop bd body ds S=some (.nx S')/\I ds.length S':=by
 obtain⟨S',e,j,hr,hj,hI⟩:=Sq.FW (bd:=bd) (body:=body) ds (fun r S=>∃j,ds.drop j=r/\j<=ds.length/\I j S) S ⟨0,rfl,abH _,h0⟩ (by
  rintro d r S ⟨j,hr,hj,hI⟩;have hlt:j<ds.length:=by
   have:=congrArg List.length hr;rw[ach,abn] at this;lia
  rw[acM hlt] at hr;injection hr with h1 h2
  obtain⟨S1,S2,e1,e2,h3⟩:=hs j d S (by rw[aaz hlt,h1]) hI;exact⟨S1,S2,e1,e2,j+1,h2,hlt,h3⟩)
 have:j=ds.length:=by
  have:=congrArg List.length hr;rw[ach,adC] at this;lia
 subst this;exact⟨S',e,hI⟩
def C8 {cap:BBJ}{g:GD}(ds:List D) (I:Nat->List D->SS->Prop) (S:SS) (h0:I 0 [] S) (hs:∀j d acc S,ds[j]? =some d->I j acc S->∃x S',cg cap bQ g [d] S acc=some (acc++[x],S')/\I (j+1) (acc++[x]) S'):∃acc S',cg cap bQ g ds S []=some (acc,S')/\I ds.length acc S':=by
 obtain⟨acc,S',e,j,hr,hj,hI⟩:=Sq.FY (cap:=cap) (g:=g) ds (fun r acc S=>∃j,ds.drop j=r/\j<=ds.length/\I j acc S) S [] ⟨0,rfl,abH _,h0⟩ (by
  rintro d r acc S ⟨j,hr,hj,hI⟩;have hlt:j<ds.length:=by
   have:=congrArg List.length hr;rw[ach,abn] at this;lia
  rw[acM hlt] at hr;injection hr with h1 h2
  obtain⟨x,S',e1,h3⟩:=hs j d acc S (by rw[aaz hlt,h1]) hI;exact⟨_,S',e1,j+1,h2,hlt,h3⟩)
 have:j=ds.length:=by
  have:=congrArg List.length hr;rw[ach,adC] at this;lia
 subst this;exact⟨acc,S',e,hI⟩
def uc {n j:Nat}{d:D}(h:(iX 0 n)[j]? =some d):j<n/\d= .int j:=by
 unfold iX at h;rw[abx] at h;cases e:(List.range n)[j]? with
 |none=>rw[e] at h;cases h
 |some k=>
  rw[e] at h;obtain⟨h1,h2⟩:=aaD.mp e;rw[List.getElem_range] at h2;rw[ab6] at h1;subst h2;refine⟨h1,?_⟩;have:=abJ h;rw[<-this];show D.int (0+(j:Int))=_;rw[Int.zero_add]
theorem fy (bd:GB) (body:GS) (d:D) (ds:List D) (S:SS):loop bd body (d::ds) S=(bd d S).bind fun S1=>(body S1).bind fun o=>match o with
  |.nx S2=>loop bd body ds S2
  |.ct S2=>loop bd body ds S2
  |.bk S2=>some (.nx S2)
  |.rt u S2=>some (.rt u S2):=rfl
end L2
end
section
namespace Ss
open PySem PySem.Spec PyProof.Rows L2 Sw
variable {z:Str}{bs:BBB}
def jg (a:D) (r:List D):d7 (a::r) 0=some a:=by
 unfold d7 Hh;rw[if_pos (by decide),if_pos (by simp only[abn];lia)];rfl
def qN (x:D) (zs:BBB):xy [x,.tup (zs.map D.str)]=AAA (.bl (inD x (zs.map D.str))):=by
 have:bF (zs.map D.str)<=40:=by rw[L2.xM];decide
 cases x<;>simp[xy,this]
noncomputable def yq:BBB:=["less","same","more"]
noncomputable def BND:BBB:=["each","one"]
def C9 (bs:BBB):D->Bool
 |.tup [a]=>iS a (.str "any")
 |.tup [a,b]=>if iS a (.str "name") then nameB b else inD a (yq.map D.str) && (pI b 0 9 || inD b (bs.map D.str))
 |_=>false
noncomputable def LEN:List (Str×Int):=[("yes",1),("no",1),("now",2),("not",2),("both",3),("either",3),("next",2),("till",3),("within",3),("always",2),("some",2),("each",4),("one",4)]
noncomputable def STA:List (Str×Int):=[("yes",1),("no",1),("now",2),("not",1),("both",1),("either",1),("next",1),("till",1),("within",2),("always",1),("some",1),("each",3),("one",3)]
def jN (z:Str):Int:=(CP LEN z).getD 0
def jh (z:Str):Nat:=((CP STA z).getD 0).toNat
def fB (z:Str):Bool:=inD (.str z) (BND.map D.str)
noncomputable def rC:BBB:=["yes","no","now","not","both","either","next","till","within","always","some","each","one"]
def By {kvs:AAJ}(h:z∉kvs.map (·.1)):CP kvs z=none:=by
 unfold CP;have:kvs.find? (fun p=>decide (p.1=z))=none:=aeW.mpr fun p hp q=>h (by rw[<-acd q];exact List.mem_map_of_mem hp);rw[this];rfl
def Il (h:z∉rC):jN z=0:=by unfold jN;rw[By (show z∉LEN.map (·.1) from h)];rfl
def Dc (h:jN z≠0):z∈rC:=aco fun q=>h (Il q)
structure Li (z:Str):Prop where
 zy:CP STA z=some ((jh z:Nat):Int)
 s1:1<=jh z
 s4:(jh z:Int)<=jN z
 l4:jN z<=4
 few:jN z-jh z<=2
def BA:∀z∈rC,Li z:=by
 intro z hz;simp only[rC,aav,abG,acA] at hz;rcases hz with rfl|rfl|rfl|rfl|rfl|rfl|rfl|rfl|rfl|rfl|rfl|rfl|rfl<;>exact⟨by decide,by decide,by decide,by decide,by decide⟩
def Dd (ds:List D) (k:Nat):L2.cutD ds (some (k:Int)) none=ds.drop k:=by
 unfold L2.cutD;rw[HT.Ct,HT.E5];by_cases h:k<=ds.length
 ·rw[Nat.min_eq_left h,acU (by rw[ach];lia)]
 ·rw[Nat.min_eq_right (by lia),List.drop_of_length_le (aam _),List.drop_of_length_le (by lia),List.take_nil]
def ff (bs:BBB) (z:Str) (r:List D):Bool:=
 if jN z=(r.length:Int)+1 then
  (match r with
  |[]=>true
  |a::r2=>if z="now" then C9 bs a else if z="within" then pI a 0 5 else if fB z then(match r2 with|b::_=>nameB a && nameB b|[]=>false) else true)
 else false
noncomputable def strOf:D->Str
 |.str z=>z
 |_=>""
def gX (bs:BBB) (z:Str) (r:List D):BBB:=if fB z=true then bs++[strOf (r.getD 1 .cJ)] else bs
def dB (z:Str) (r:List D):List D:=(.str z::r).drop (jh z)
def iB:Nat->BBB->D->Bool
 |0,_,_=>false
 |n+1,bs,.tup (.str z::r)=>ff bs z r && (dB z r).all (iB n (gX bs z r))
 |_+1,_,_=>false
def yr {r:List D}(h:ff bs z r=true):jN z=(r.length:Int)+1/\Li z/\z∈rC:=by
 unfold ff at h;split at h
 ·rename_i c;have:=Dc (z:=z) (by lia);exact⟨c,BA z this,this⟩
 ·cases h
def pX {d:D}(h:nameB d=true):∃y,d= .str y:=by
 cases d with
 |str z=>exact⟨z,rfl⟩
 |_=>cases h
def pY:Nat->D->List D
 |0,_=>[]
 |n+1,.tup (.str z::r)=>.tup (.str z::r)::(dB z r).flatMap (pY n)
 |_+1,d=>[d]
def rX {n:Nat}{d:D}(h:iB (n+1) bs d=true):∃z r,d= .tup (.str z::r)/\ff bs z r=true/\∀p∈dB z r,iB n (gX bs z r) p=true:=by
 cases d with
 |tup ds=>
  cases ds with
  |nil=>cases h
  |cons a r=>
   cases a with
   |str z=>
    obtain⟨h1,h2⟩:=abP.mp (show(ff bs z r && (dB z r).all (iB n (gX bs z r)))=true from h);exact⟨z,r,rfl,h1,fun p hp=>ab2.mp h2 p hp⟩
   |_=>cases h
 |_=>cases h
def pZ (n:Nat) (d:D):Nat:=(pY n d).length
def Lj:D->Bool
 |.tup (.str z::_)=>fB z
 |_=>false
def yt (n:Nat) (d:D):Nat:=((pY n d).filter Lj).length
def wz (d:D):Bool:=iB 8 [] d && (decide (pZ 8 d<=16) && decide (yt 8 d<=3))
end Ss
end
section
namespace Sd
open PySem PySem.Spec PyProof.Rows L2 Sw Ss
variable {bs:BBB}{z:Str}{r ds:List D}{n room bin c:Nat}{T:MO}{cs:BBD}{a l k a' b':Int}{x1 x2 x3 x4 x8:Option U}{S:SS}{rows:AAJ}{td:D}
@[simp] theorem YR (zB:List (Str×GD)) (S:SS):xF zB S=(lq zB S).map fun p=>(.m (.dct (mh [] p.1)),p.2):=rfl
@[simp] theorem N5 (S:SS):lq [] S=some ([],S):=rfl
@[simp] theorem Ms (z:Str) (g:GD) (r:List (Str×GD)) (S:SS):lq ((z,g)::r) S=(g S).bind fun p=>(lq r p.2).map fun q=>((.inr z,p.1)::q.1,q.2):=rfl
@[simp] theorem YS (i:Nat) (ge:GE) (S:SS):Wi i ge S=match S[i]? with
 |some (some u)=>if rA u then(ge S).bind fun p=>match p.1 with
  |.m (.dct more)=>pA p.2 i fun o=>match o with
   |.dct kvs=>if kvs.length+more.length<=100000 then some (.cJ,.dct (mh kvs more)) else none
   |_=>none
  |_=>none
  else none
 |_=>none:=rfl
@[simp] theorem YT (i:Nat) (gk gd:GD) (S:SS):xN i gk gd S=match S[i]? with
 |some (some u)=>if rA u then(gk S).bind fun p=>(gd p.2).bind fun q=>match q.2[i]? with
  |some (some u2)=>(HH u2 p.1).map fun o=>(o.getD q.1,q.2)
  |_=>none
  else none
 |_=>none:=rfl
@[simp] theorem YU (kvs:List (Key×D)):rA (.m (.dct kvs))=true:=rfl
@[simp] theorem abr (kvs:List (Key×D)) (k:D):HH (.m (.dct kvs)) k=(keyOf k).map (bT kvs):=rfl
def FZ:jN "now" =2/\jN "within" =3:=by decide
def yu (n:Nat) (z:Str) (r:List D):(pZ (n+1) (.tup (.str z::r)):Int)=1+(((dB z r).flatMap (pY n)).length:Int):=by
 unfold pZ;show(((.tup (.str z::r):D)::(dB z r).flatMap (pY n)).length:Int)=_;rw[abn];push_cast;lia
def BB (n:Nat) (z:Str) (r:List D):(yt (n+1) (.tup (.str z::r)):Int)=(if fB z=true then 1 else 0)+((((dB z r).flatMap (pY n)).filter Lj).length:Int):=by
 unfold yt;show((((.tup (.str z::r):D)::(dB z r).flatMap (pY n)).filter Lj).length:Int)=_;by_cases h:fB z=true
 ·rw[afw (by exact h),if_pos h,abn];push_cast;lia
 ·rw[afx (by exact h),if_neg h];lia
def n8 (n:Nat) (bs:BBB) (z:Str) (r:List D):iB (n+1) bs (.tup (.str z::r))=true↔ff bs z r=true/\∀p∈dB z r,iB n (gX bs z r) p=true:=by
 show(ff bs z r && (dB z r).all (iB n (gX bs z r)))=true↔_;rw[abP,ab2]
def De (c:jN z=(r.length:Int)+1) (n1:¬z="now") (n2:¬(z="within"/\pI (r.getD 0 .cJ) 0 5=false)) (hb:fB z=false):ff bs z r=true:=by
 unfold ff;rw[if_pos c];cases r with
 |nil=>rfl
 |cons a q=>
  simp only[n1,adw,hb];by_cases k:z="within"
  ·rw[if_pos k];cases w:pI a 0 5 with
   |true=>rfl
   |false=>exact absurd ⟨k,w⟩ n2
  ·rw[if_neg k];rfl
structure Dr (deep:Nat) (bs:BBB) (room:Nat) (bin:Nat) (d:D):Prop where
 fm:iB deep bs d=true
 sz:pZ deep d<=room
 bn:yt deep d=bin
 fit:Fj 8 d
 dep:bV d<=deep+1
def kg {x:D}{l:List D}{i:Int}(h0:0<=i) (h1:i<l.length):∃y,d7 l i=some y/\y∈l:=by
 obtain⟨y,a,b⟩:=Sq.RX (l:=l) h0 h1;exact⟨y,a,abK b⟩
def Dg (bs:BBB) (a b:D):C9 bs (.tup [a,b])=if iS a (.str "name")=true then nameB b else inD a (yq.map D.str) && (pI b 0 9 || inD b (bs.map D.str)):=rfl
def dr0 (sh:ff bs z r=true) (pl:dB z r=[]) (nb:fB z=false) (hr:1<=room) (fit:Fj 8 (.tup (.str z::r))) (dep:bV (.tup (.str z::r))<=n+2):Dr (n+1) bs room 0 (.tup (.str z::r)):=by
 have es:=yu n z r;have eb:=BB n z r;rw[pl] at es eb;rw[nb] at eb;simp at es eb;exact⟨(n8 n bs z r).mpr ⟨sh,by rw[pl];simp⟩,by lia,by lia,fit,dep⟩
def YV {b:Nat}{p:D}(sh:ff bs z r=true) (pl:dB z r=[p]) (h:Dr n (gX bs z r) room b p) (fit:Fj 8 (.tup (.str z::r))) (dep:bV (.tup (.str z::r))<=n+2):Dr (n+1) bs (room+1) ((if fB z=true then 1 else 0)+b) (.tup (.str z::r)):=by
 have es:=yu n z r;have eb:=BB n z r;rw[pl] at es eb;have e1:([p].flatMap (pY n)).length=pZ n p:=by simp[pZ]
 have e2:(([p].flatMap (pY n)).filter Lj).length=yt n p:=by simp[yt]
 rw[e1] at es;rw[e2] at eb;have:=h.sz;have:=h.bn;refine⟨(n8 n bs z r).mpr ⟨sh,by rw[pl];intro q hq;rw[show q=p by simpa using hq];exact h.fm⟩,by lia,?_,fit,dep⟩;by_cases hb:fB z=true
 ·rw[if_pos hb] at eb ⊢;lia
 ·rw[if_neg hb] at eb ⊢;lia
def dr2 {r1 r2 b1 b2:Nat}{p q:D}(sh:ff bs z r=true) (pl:dB z r=[p,q]) (nb:fB z=false) (h1:Dr n bs r1 b1 p) (h2:Dr n bs r2 b2 q) (fit:Fj 8 (.tup (.str z::r))) (dep:bV (.tup (.str z::r))<=n+2):Dr (n+1) bs (r1+r2+1) (b1+b2) (.tup (.str z::r)):=by
 have es:=yu n z r;have eb:=BB n z r;rw[pl] at es eb;have e1:([p,q].flatMap (pY n)).length=pZ n p+pZ n q:=by simp[pZ]
 have e2:(([p,q].flatMap (pY n)).filter Lj).length=yt n p+yt n q:=by simp[yt]
 rw[e1] at es;rw[e2,nb] at eb;simp at eb;have:=h1.sz;have:=h1.bn;have:=h2.sz;have:=h2.bn;have ib:gX bs z r=bs:=by unfold gX;rw[if_neg (by rw[nb];simp)]
 refine⟨(n8 n bs z r).mpr ⟨sh,by rw[pl,ib];intro x hx;simp at hx;rcases hx with rfl|rfl;exact h1.fm;exact h2.fm⟩,by lia,by lia,fit,dep⟩
def Dr.more {PN b:Nat}{d:D}(h:Dr n bs room b d) (hr:room<=PN):Dr n bs PN b d:=⟨h.fm,abl h.sz hr,h.bn,h.fit,h.dep⟩
def Lk (h:z.length<=8):Fj 8 (.str z):=h
def qb (c:jN z=(r.length:Int)+1) (n1:z≠"now") (n2:z≠"within") (hb:fB z=false):ff bs z r=true:=De c n1 (fun q=>n2 q.1) hb
noncomputable abbrev nn:MO:=.lst [.int 100,.int 100,.int 100]
section

noncomputable def pk (k:Nat):D->D
 |.lst l=>l.getD k .cJ
 |_=>.cJ
end
noncomputable def YW:BBB:=["now","next","till","within","always","some","each","one"]
noncomputable def PR:BBB:=["yes","no","not","both","either"]
def WY (zs:BBB):D->Bool
 |.tup (a::_)=>inD a (zs.map D.str)
 |_=>false
def EH (d:D):Bool:=wz d && WY YW d
def N6 {d:D}(h:wz d=true):∃z r,d= .tup (.str z::r)/\z∈rC:=by
 unfold wz at h;rw[abw] at h;obtain⟨z,r,e,sh,_⟩:=rX h.1;exact⟨z,r,e,(yr sh).2.2⟩
def Ll:D->Bool
 |.tup [a,b]=>J9 b && EH a
 |_=>false
noncomputable def allB (p:D->Bool):D->Bool
 |.tup ds=>ds.all p
 |_=>false
def N7:∀z∈rC,inD (.str z) (YW.map D.str)=!inD (.str z) (PR.map D.str):=by decide +kernel
noncomputable def Dh (cs:BBD) (a l:Int):List (Key×D):=[(.inr "cells",.lst (cs.map D.int)),(.inr "at",.int a),(.inr "left",.int l)]
def F5 (cs:BBD) (a l:Int):bT (Dh cs a l) (.inr "cells")=some (.lst (cs.map D.int)):=rfl
def F6 (cs:BBD) (a l:Int):bT (Dh cs a l) (.inr "at")=some (.int a):=rfl
def Di (cs:BBD) (a l:Int):bT (Dh cs a l) (.inr "left")=some (.int l):=rfl
def BC (cs:BBD) (a l x:Int):putD (Dh cs a l) (.inr "at") (.int x)=Dh cs x l:=rfl
def yw (cs:BBD) (a l x:Int):putD (Dh cs a l) (.inr "left") (.int x)=Dh cs a x:=rfl
def Dj (cs:BBD) (a l:Int):(Dh cs a l).length=3:=rfl
def Fd (n:Nat) (T:MO):Prop:=∃(cs:BBD) (a l:Int),T= .dct (Dh cs a l)/\cs.length<=63/\0<=a/\a<=n
def Fd.mono {m:Nat}(h:Fd n T) (k:n<=m):Fd m T:=by
 obtain⟨cs,a,l,e,h1,h2,h3⟩:=h;exact⟨cs,a,l,e,h1,h2,by lia⟩
def gm:GS:=
 (aP (iZ (qB (eF (eP Pk (aa (cF 0 (eC (.str "left"))) (aa (eC (.int 0)) aA))))) (aP (cu 2 (eP zx (aa (cF 0 (eC (.str "left"))) (aa (eF (au 1)) aA))))
 (aP (zA 0 (eC (.str "left")) (eF (eP M9 (aa (cF 0 (eC (.str "left"))) (aa (eF (au 1)) aA)))))
 (cG (au 2)))) cX)
 (aP (cu 3 (eT (cF 0 (eC (.str "at")))))
 (aP (zA 0 (eC (.str "at")) (eF (eP dO (aa (eF (au 3)) (aa (eC (.int 1)) aA)))))
 (aP (cu 4 (eP tG (aa (eF (au 3)) (aa (eF (au 3)) aA))))
 (aP (iZ (qB (eF (eP Mq (aa (cF 0 (eC (.str "cells"))) (aa (eF (eP dG aA)) aA))))) (cu 4 (eP A6 (aa (cF 0 (eC (.str "cells"))) (aa (eF (eP zx (aa (eF (au 3)) (aa (eF (eP Ht (aa (cF 0 (eC (.str "cells"))) aA))) aA)))) aA)))) cX)
 (aP (iZ (qB (eF (eP fGe (aa (eF (au 4)) (aa (eF (eP VR (aa (eC (.int 10)) (aa (eC (.int 18)) aA)))) aA))))) (aP (zA 0 (eC (.str "left")) (eF (eP M9 (aa (eF (au 4)) (aa (eF (au 1)) aA)))))
 (cG (eP zx (aa (eF (au 4)) (aa (eF (au 1)) aA))))) cX)
 (aP (cu 5 (eP zx (aa (eF (eP tG (aa (eF (eP dO (aa (eF (eP dO (aa (eF (eP tG (aa (eF (eP zx (aa (eF (au 4)) (aa (eC (.int 1000003)) aA)))) (aa (eC (.int 7)) aA)))) (aa (eF (eP tG (aa (eC (.int 104729)) (aa (eF (au 3)) aA)))) aA)))) (aa (eC (.int 1)) aA)))) (aa (eC (.int 48271)) aA)))) (aa (eC (.int 999983)) aA))))
 (aP (cu 5 (eP zx (aa (eF (eP tG (aa (eF (eP zx (aa (eF (eP dO (aa (eF (eP tG (aa (eF (au 5)) (aa (eF (au 5)) aA)))) (aa (eF (eP tG (aa (eC (.int 7919)) (aa (eF (au 3)) aA)))) aA)))) (aa (eC (.int 2147483629)) aA)))) (aa (eC (.int 30269)) aA)))) (aa (eC (.int 998244353)) aA))))
 (cG (eP zx (aa (eF (eP M9 (aa (eF (au 5)) (aa (eC (.int 7)) aA)))) (aa (eF (au 1)) aA))))))))))))
def bW:FM:=bH 6 gm
def Lm:∀us r,bW us=some r->bH 6 gm us=some r:=fun _ _ h=>h
def md1 (x:Int):-18446744073709551616<x % 999983:=by lia
def md2 (x:Int):x % 999983<18446744073709551616:=by lia
def Dk (is:BBD):bF (is.map D.int)=0:=by
 induction is with
 |nil=>rfl
 |cons i is ih=>show max 0 (bF (is.map D.int))=0;lia
def Dl (is:BBD):iS (.lst (is.map D.int)) (.lst [])=is.isEmpty:=by cases is<;>rfl
def Im {m:Int}(h:0<l) (m0:0<m) (m1:m<1000000):bW [.b (.dct (Dh cs a l)),.t (.int m)]=some (.t (.int (l % m)),[.dct (Dh cs a (l / m))]):=by
 have e3:m<1073741824:=by lia
 have n0:¬m=0:=by lia
 simp[bW,bH,gm,Di,yw,Dj,h,m0,e3,n0,aT]
def Ln {m c:Int}(h:¬0<l) (m0:0<m) (m1:m<1000000) (a0:0<=a) (a1:a<1000000) (hc:(cs=[]/\c=a*a)\/(cs≠[]/\d7 (cs.map D.int) (a % (cs.length:Int))=some (.int c))) (hl:cs.length<=63) (hb:10 ^ 18<=c):
  bW [.b (.dct (Dh cs a l)),.t (.int m)]=some (.t (.int (c % m)),[.dct (Dh cs (a+1) (c / m))]):=by
 have e3:m<1073741824:=by lia
 have n0:¬m=0:=by lia
 have b1:-18446744073709551616<a:=by lia
 have b2:a<18446744073709551616:=by lia
 have dd:=Dk cs;have en:=Dl cs;have hb:(1000000000000000000:Int)<=c:=hb;have ee:iS (.lst []) (.lst [])=true:=rfl;rcases hc with⟨rfl,rfl⟩|⟨hne,hc⟩
 ·simp[bW,bH,gm,Di,F6,F5,yw,BC,Dj,h,m0,e3,n0,aT,b1,b2,hb,bV,bF,ee]
 ·have en:iS (.lst (cs.map D.int)) (.lst [])=false:=by rw[en];cases cs with|nil=>exact absurd rfl hne|cons _ _=>rfl
  have l0:0<(cs.length:Int):=by cases cs with|nil=>exact absurd rfl hne|cons _ _=>simp only[abn];lia
  have l1:(cs.length:Int)<1073741824:=by lia
  have l3:0<cs.length:=by lia
  have l4:cs.length<1073741824:=by lia
  have l2:((cs.map D.int).length:Int)=cs.length:=by rw[aah]
  generalize hx:cs.map D.int=xs at *;simp[bW,bH,gm,Di,F6,F5,yw,BC,Dj,h,m0,e3,n0,aT,b1,b2,hb,bV,dd,en,l2,l0,l1,l3,l4,hc,hx]
noncomputable def RY (c a:Int):Int:=((c % 1000003*7+104729*a+1)*48271 % 999983*((c % 1000003*7+104729*a+1)*48271 % 999983)+7919*a) % 2147483629*30269 % 998244353 / 7
def Lo {m c:Int}(h:¬0<l) (m0:0<m) (m1:m<1000000) (a0:0<=a) (a1:a<1000000) (hc:(cs=[]/\c=a*a)\/(cs≠[]/\d7 (cs.map D.int) (a % (cs.length:Int))=some (.int c))) (hl:cs.length<=63) (hb:¬10 ^ 18<=c):
  bW [.b (.dct (Dh cs a l)),.t (.int m)]=some (.t (.int (RY c a % m)),[.dct (Dh cs (a+1) l)]):=by
 have e3:m<1073741824:=by lia
 have n0:¬m=0:=by lia
 have b1:-18446744073709551616<a:=by lia
 have b2:a<18446744073709551616:=by lia
 have dd:=Dk cs;have en:=Dl cs;have hb:¬(1000000000000000000:Int)<=c:=hb;have ee:iS (.lst []) (.lst [])=true:=rfl;rcases hc with⟨rfl,rfl⟩|⟨hne,hc⟩
 ·simp[bW,bH,gm,Di,F6,F5,yw,BC,Dj,h,m0,e3,n0,aT,b1,b2,hb,bV,bF,ee,md1,md2,RY]
 ·have en:iS (.lst (cs.map D.int)) (.lst [])=false:=by rw[en];cases cs with|nil=>exact absurd rfl hne|cons _ _=>rfl
  have l0:0<(cs.length:Int):=by cases cs with|nil=>exact absurd rfl hne|cons _ _=>simp only[abn];lia
  have l1:(cs.length:Int)<1073741824:=by lia
  have l3:0<cs.length:=by lia
  have l4:cs.length<1073741824:=by lia
  have l2:((cs.map D.int).length:Int)=cs.length:=by rw[aah]
  generalize hx:cs.map D.int=xs at *;simp[bW,bH,gm,Di,F6,F5,yw,BC,Dj,h,m0,e3,n0,aT,b1,b2,hb,bV,dd,en,l2,l0,l1,l3,l4,hc,hx,md1,md2,RY]
def cA {m:Int}(h:Fd n T) (hn:n<1000000) (m0:0<m) (m1:m<1000000):∃v T',bW [.b T,.t (.int m)]=some (.t (.int v),[T'])/\0<=v/\v<m/\Fd (n+1) T':=by
 obtain⟨cs,a,l,rfl,hl,a0,a1⟩:=h;have r1:∀x:Int,0<=x % m/\x % m<m:=fun x=>⟨afz _ (by lia),aeX _ m0⟩
 by_cases c:0<l
 ·exact⟨_,_,Im c m0 m1,(r1 _).1,(r1 _).2,cs,a,_,rfl,hl,a0,by lia⟩
 ·obtain⟨x,hx⟩:∃x,(cs=[]/\x=a*a)\/(cs≠[]/\d7 (cs.map D.int) (a % (cs.length:Int))=some (.int x)):=by
   cases cs with
   |nil=>exact⟨_,.inl ⟨rfl,rfl⟩⟩
   |cons y ys=>
    have l0:(0:Int)<((y::ys).length:Int):=by simp only[abn];lia
    obtain⟨d,h1,h2⟩:=kg (x:=.cJ) (l:=(y::ys).map D.int) (i:=a % ((y::ys).length:Int)) (afz _ (by lia)) (by rw[aah];exact aeX _ l0);obtain⟨z,_,rfl⟩:=abt.mp h2;exact⟨z,.inr ⟨by simp,h1⟩⟩
  by_cases hb:10 ^ 18<=x
  ·exact⟨_,_,Ln c m0 m1 a0 (by lia) hx hl hb,(r1 _).1,(r1 _).2,cs,_,_,rfl,hl,by lia,by lia⟩
  ·exact⟨_,_,Lo c m0 m1 a0 (by lia) hx hl hb,(r1 _).1,(r1 _).2,cs,_,_,rfl,hl,by lia,by lia⟩
def qc:GS:=
 (cG (xF [("cells",(eF (eP nh (aa (eF (Np 0 none (some (eC (.int 63))))) aA)))),("at",(eC (.int 0))),("left",(eC (.int 0)))]))
def o7:FM:=bH 1 qc
def Lp:∀us r,o7 us=some r->bH 1 qc us=some r:=fun _ _ h=>h
def N8 (ns:BBD):∃T,o7 [.s ns]=some (.m T,[])/\Fd 0 T:=by
 refine⟨.dct (Dh (zC ns none (some 63)) 0 0),?_,zC ns none (some 63),0,0,rfl,?_,by decide,by decide⟩
 ·have e:∀l:List D,mh [] [(.inr "cells",.lst l),(.inr "at",.int 0),(.inr "left",.int 0)]=[((.inr "cells":Key),D.lst l),(.inr "at",.int 0),(.inr "left",.int 0)]:=fun l=>rfl;have f:nh [.lst ((zC ns none (some 63)).map D.int)]=AAB ((zC ns none (some 63)).map D.int):=rfl;simp[o7,bH,qc,Np,aT,f,e,Dh]
 ·unfold zC;rw[ab9];have:HT.fZ ns.length ns.length (some 63)<=63:=by
   show(if(63:Int)<0 then((63:Int)+(ns.length:Int)).toNat else min (63:Int).toNat ns.length)<=63;rw[if_neg (by decide)];exact Nat.min_le_left _ _
  lia
def Nm (z:Str):Prop:=nameB (.str z)=true/\z.length<=8/\Sane (.str z)
noncomputable instance (z:Str):Decidable (Nm z):=by unfold Nm Sane;infer_instance
noncomputable def kD (p:Str×Int):D:=.tup [.str p.1,.int p.2]
def Tb (td:D):Prop:=∃rows:List (Str×Int),td= .tup (rows.map kD)/\rows≠[]/\rows.length<=4/\∀p∈rows,Nm p.1
noncomputable def NA:List (BBB):=[["a","ab","abc","b"],["now","any","name","less"],["x","xxxxxxxx","xxxxxxx","y"]]
def WZ:∀l∈NA,l.length=4/\∀z∈l,Nm z:=by decide +kernel
def BD (ds:List D) (k:Nat):L2.cutD ds none (some (k:Int))=ds.take k:=by
 unfold L2.cutD;rw[HT.Ct,HT.E5,List.drop_zero,Nat.sub_zero];by_cases h:k<=ds.length
 ·rw[Nat.min_eq_left h]
 ·rw[Nat.min_eq_right (by lia),acU (aam _),acU (by lia)]
def kE (ao:FM):GS:=
 (aP (cu 1 (eP dG (aa (eF (eP dG (aa (eC (.str "a")) (aa (eC (.str "ab")) (aa (eC (.str "abc")) (aa (eC (.str "b")) aA)))))) (aa (eF (eP dG (aa (eC (.str "now")) (aa (eC (.str "any")) (aa (eC (.str "name")) (aa (eC (.str "less")) aA)))))) (aa (eF (eP dG (aa (eC (.str "x")) (aa (eC (.str "xxxxxxxx")) (aa (eC (.str "xxxxxxx")) (aa (eC (.str "y")) aA)))))) aA)))))
 (aP (cu 2 (eT (cF 1 (eF (bu ao (cD (au 0) (aZ (eC (.int 3)) bO)))))))
 (aP (cu 3 (bu ao (cD (au 0) (aZ (eC (.int 4)) bO))))
 (aP (cu 2 (IQ (eF (eP dO (aa (eF (IQ (eF (au 2)) (some (eF (au 3))) none)) (aa (eF (IQ (eF (au 2)) none (some (eF (au 3))))) aA)))) none (some (eF (eP A6 (aa (eF (eP dG (aa (eC (.int 1)) (aa (eC (.int 2)) (aa (eC (.int 2)) (aa (eC (.int 3)) aA)))))) (aa (eF (bu ao (cD (au 0) (aZ (eC (.int 4)) bO)))) aA)))))))
 (cG (eP fU (aa (eF (cT [0] (iA (eF (au 2))) bQ (eF (eP cM (aa (eF (au 0)) (aa (eF (eP A6 (aa (eF (eP dG (aa (eC (.int 0)) (aa (eC (.int 1)) (aa (eC (.int 1)) (aa (eC (.int 2)) aA)))))) (aa (eF (bu ao (cD (au 1) (aZ (eC (.int 4)) bO)))) aA)))) aA)))))) aA)))))))
def lA:FM:=bH 4 (kE bW)
def Io:∀us r,lA us=some r->bH 4 (kE bW) us=some r:=fun _ _ h=>h
abbrev Lq (f:FM):GD:=eF (eP cM (aa (eF (au 0)) (aa (eF (eP A6 (aa (eF (eP dG (aa (eC (.int 0)) (aa (eC (.int 1)) (aa (eC (.int 1)) (aa (eC (.int 2)) aA)))))) (aa (eF (bu f (cD (au 1) (aZ (eC (.int 4)) bO)))) aA)))) aA)))
def Lr {f:FM}{T0 T1 T2 T3 T4:MO}{v kk:Int}{nl l2 acc:List D}(p1:f [.b T0,.t (.int 3)]=some (.t (.int v),[T1]))
  (h1:d7 [D.lst [.str "a",.str "ab",.str "abc",.str "b"],.lst [.str "now",.str "any",.str "name",.str "less"],.lst [.str "x",.str "xxxxxxxx",.str "xxxxxxx",.str "y"]] v=some (.lst nl))
  (p2:f [.b T1,.t (.int 4)]=some (.t (.int a),[T2])) (p3:f [.b T2,.t (.int 4)]=some (.t (.int k),[T3])) (h2:d7 [D.int 1,.int 2,.int 2,.int 3] k=some (.int kk))
  (hl:(L2.cutD nl (some a) none).length+(L2.cutD nl none (some a)).length<=100000) (hc:L2.cutD (L2.cutD nl (some a) none++L2.cutD nl none (some a)) none (some kk)=l2) (hl2:l2.length<=100000)
  (h4:cg [0] bQ (Lq f) l2 [some (.b T3),AAB [.lst [.str "a",.str "ab",.str "abc",.str "b"],.lst [.str "now",.str "any",.str "name",.str "less"],.lst [.str "x",.str "xxxxxxxx",.str "xxxxxxx",.str "y"]],AAA (.lst l2),AAC a] []=some (acc,[some (.b T4),x1,x2,AAC a])):
  bH 4 (kE f) [.b T0]=some (.t (.tup acc),[T4]):=by
 simp only[Lq] at h4;simp[bH,kE,aT,p1,h1,p2,p3,h2,hl,hc,cU,hl2,h4,fU]
def Ls (l:BBB) (hT:Fd n T) (hn:n+l.length<1000000):
  ∃(rows:AAJ) (T':MO),cg [0] bQ (Lq bW) (l.map D.str) [some (.b T),x1,x2,x3] []=some (rows.map kD,[some (.b T'),x1,x2,x3])/\rows.map (·.1)=l/\Fd (n+l.length) T'/\∀p∈rows,0<=p.2/\p.2<=2:=by
 obtain⟨acc,S',e,T',rows,rfl,rfl,hr,hf,hb⟩:=C8 (cap:=[0]) (g:=Lq bW) (l.map D.str)
  (fun j acc S=>∃(T':MO) (rows:AAJ),S=[some (.b T'),x1,x2,x3]/\acc=rows.map kD/\rows.map (·.1)=l.take j/\Fd (n+j) T'/\∀p∈rows,0<=p.2/\p.2<=2)
  [some (.b T),x1,x2,x3] ⟨T,[],rfl,rfl,by simp,hT,by simp⟩ (by
   rintro j d acc S hd ⟨T1,rows,rfl,rfl,hr,hf,hb⟩;rw[abx] at hd;obtain⟨z,hz,rfl⟩:=aB hd;have hj:j<l.length:=(aaD.mp hz).1;obtain⟨v,T2,e1,v0,v1,f2⟩:=cA (m:=4) hf (by lia) (by decide) (by decide);obtain⟨y,y1,y2⟩:=kg (x:=.cJ) (l:=[.int 0,.int 1,.int 1,.int 2]) v0 v1;obtain⟨i,rfl,i0,i2⟩:∃i:Int,y= .int i/\0<=i/\i<=2:=by
    simp only[aav,abG,acA] at y2;rcases y2 with rfl|rfl|rfl|rfl<;>exact⟨_,rfl,by decide,by decide⟩
   refine⟨kD (z,i),[some (.b T2),x1,x2,x3],?_,T2,rows++[(z,i)],rfl,by simp,?_,f2,fun p hp=>by
    rcases aaG.mp hp with q|q
    ·exact hb p q
    ·rw[aao.mp q];exact⟨i0,i2⟩⟩
   ·generalize bW=f at *;simp[cg,dH,l9,aT,Lq,e1,y1,kD]
   ·rw[acg,hr,List.take_add_one,hz];rfl)
 rw[aah] at hr hf;exact⟨rows,T',e,by rw[hr,List.take_length],hf,hb⟩
def Tn (td:D):Prop:=∃rows:List (Str×Int),td= .tup (rows.map kD)/\rows.length<=4/\∀p∈rows,0<=p.2/\p.2<=2
def Ip (h:Fd n T) (hn:n<900000):∃td T',lA [.b T]=some (.t td,[T'])/\Tb td/\Fd (n+7) T'/\Tn td:=by
 obtain⟨v,T1,p1,v0,v1,h1⟩:=cA (m:=3) h (by lia) (by decide) (by decide);obtain⟨a,T2,p2,a0,a1,h2⟩:=cA (m:=4) h1 (by lia) (by decide) (by decide);obtain⟨k,T3,p3,k0,k1,h3⟩:=cA (m:=4) h2 (by lia) (by decide) (by decide);obtain⟨nl,g1,g2⟩:=kg (x:=.cJ) (l:=[D.lst [.str "a",.str "ab",.str "abc",.str "b"],.lst [.str "now",.str "any",.str "name",.str "less"],.lst [.str "x",.str "xxxxxxxx",.str "xxxxxxx",.str "y"]]) v0 v1;obtain⟨L,hL,rfl⟩:∃L∈NA,nl= .lst (L.map D.str):=by
  simp only[aav,abG,acA] at g2;rcases g2 with rfl|rfl|rfl
  ·exact⟨_,by unfold NA;exact aal,rfl⟩
  ·exact⟨_,by unfold NA;exact aaj _ aal,rfl⟩
  ·exact⟨_,by unfold NA;exact aaj _ (aaj _ aal),rfl⟩
 obtain⟨hl,hz⟩:=WZ L hL;obtain⟨kd,q1,q2⟩:=kg (x:=.cJ) (l:=[.int 1,.int 2,.int 2,.int 3]) k0 k1;obtain⟨kk,rfl,kk1,kk3⟩:∃kk:Nat,kd= .int kk/\1<=kk/\kk<=3:=by
  simp only[aav,abG,acA] at q2;rcases q2 with rfl|rfl|rfl|rfl
  ·exact⟨1,rfl,by lia,by lia⟩
  ·exact⟨2,rfl,by lia,by lia⟩
  ·exact⟨2,rfl,by lia,by lia⟩
  ·exact⟨3,rfl,by lia,by lia⟩
 obtain⟨b,rfl⟩:∃b:Nat,a=b:=⟨a.toNat,by lia⟩
 have c1:=Dd (L.map D.str) b;have c2:=BD (L.map D.str) b;have c3:=BD ((L.map D.str).drop b++(L.map D.str).take b) kk;have ce:((L.map D.str).drop b++(L.map D.str).take b).take kk=((L.drop b++L.take b).take kk).map D.str:=by
  rw[adO,acg,ae2,adO]
 rw[ce] at c3;have ll:(L.drop b++L.take b).length=4:=by rw[aan,ach,ab9];lia
 have lt:((L.drop b++L.take b).take kk).length=kk:=by rw[ab9,ll];lia
 have hmem:∀z∈(L.drop b++L.take b).take kk,Nm z:=fun z hzz=>by
  rcases aaG.mp (adt hzz) with q|q
  ·exact hz z (aeG q)
  ·exact hz z (adt q)
 generalize (L.drop b++L.take b).take kk=R at *;obtain⟨rows,T4,e4,r1,h4,hb4⟩:=Ls (x1:=AAB [.lst [.str "a",.str "ab",.str "abc",.str "b"],.lst [.str "now",.str "any",.str "name",.str "less"],.lst [.str "x",.str "xxxxxxxx",.str "xxxxxxx",.str "y"]]) (x2:=AAA (.lst (R.map D.str))) (x3:=AAC (b:Int)) R h3 (by lia);refine⟨.tup (rows.map kD),T4,?_,⟨rows,rfl,?_,?_,?_⟩,h4.mono (by lia),rows,rfl,by have:=congrArg List.length r1;rw[aah] at this;lia,hb4⟩
 ·exact Lr (f:=bW) (l2:=R.map D.str) (k:=k) (kk:=(kk:Int)) p1 g1 p2 p3 q1 (by rw[c1,c2,ach,ab9,aah];lia) (by rw[c1,c2,c3]) (by rw[aah];lia) e4
 ·rintro rfl;rw[<-r1] at lt;simp at lt;lia
 ·have:=congrArg List.length r1;rw[aah] at this;lia
 ·intro p hp;exact hmem p.1 (by rw[<-r1];exact List.mem_map_of_mem hp)
def dD (ao:FM):GS:=
 (aP (cu 3 (bu ao (cD (au 0) (aZ (eC (.int 8)) bO))))
 (aP (iZ (qB (eF (eP ku (aa (eF (au 3)) (aa (eC (.int 0)) aA))))) (cG (eP cM (aa (eC (.str "any")) aA))) cX)
 (aP (iZ (qB (eF (eP El (aa (eF (au 3)) (aa (eC (.int 3)) aA))))) (aP (cu 4 (eP dO (aa (eF (cT [] (iA (eF (au 1))) bQ (cF 0 (eC (.int 0))))) (aa (eF (eP dG (aa (eC (.str "zz")) aA))) aA))))
 (cG (eP cM (aa (eC (.str "name")) (aa (cF 4 (eF (bu ao (cD (au 0) (aZ (jQ 4) bO))))) aA))))) cX)
 (aP (cu 5 (bu ao (cD (au 0) (aZ (eC (.int 4)) bO))))
 (aP (iZ (uM (qB (eF (eP Mq (aa (eF (au 2)) (aa (eF (eP cM aA)) aA))))) (qB (eF (eP Pk (aa (eF (bu ao (cD (au 0) (aZ (eC (.int 4)) bO)))) (aa (eC (.int 0)) aA)))))) (cu 5 (eT (cF 2 (eF (bu ao (cD (au 0) (aZ (jQ 2) bO))))))) cX)
 (cG (eP cM (aa (eF (eP A6 (aa (eF (eP dG (aa (eC (.str "same")) (aa (eC (.str "less")) (aa (eC (.str "more")) aA))))) (aa (eF (eP zx (aa (eF (au 3)) (aa (eC (.int 3)) aA)))) aA)))) (aa (eF (au 5)) aA)))))))))
def Mt:FM:=bH 6 (dD bW)
def RZ:∀us r,Mt us=some r->bH 6 (dD bW) us=some r:=fun _ _ h=>h
noncomputable def qd (rows:AAJ):List D:=(rows.map Prod.fst).map D.str
def ud (rows:AAJ):(qd rows).length=rows.length:=by unfold qd;rw[aah,aah]
noncomputable def W0 (z:Str):Bool:=z.cps.toList.all fun c=>decide (c<16 ^ 8)
def cZ (h:W0 z=true):Sane (.str z):=by
 intro c hc;exact acd (ab2.mp h c hc)
def yx (rows:AAJ):cg [] bQ (cF 0 (eC (.int 0))) (rows.map kD) S []=some (qd rows,S):=by
 have e:=iD (cap:=[]) (g:=cF 0 (eC (.int 0))) (S:=S) (ts:=[]) rfl (fun d=>match d with|.tup (a::_)=>a|_=>.cJ) (rows.map kD) [] (by
  intro d hd;obtain⟨p,_,rfl⟩:=abt.mp hd;simp[kD,jg])
 unfold qd;rw[e,abZ,acr,acr];rfl
structure Tw (bs:BBB) (d:D):Prop where
 ok:C9 bs d=true
 fit:Fj 8 d
 dep:bV d<=1
 iT:Sane d
 w:wD d<=180
section
variable {f:FM}{T0 T1 T2 T3 T4:MO}{td:D}{bl:List D}{w v x:Int}{nd:D}
def R5 (p1:f [.b T0,.t (.int 8)]=some (.t (.int 0),[T1])):bH 6 (dD f) [.b T0,.t td,.t (.tup bl)]=some (.t (.tup [.str "any"]),[T1]):=by
 simp[bH,dD,aT,p1]
def N9 (p1:f [.b T0,.t (.int 8)]=some (.t (.int w),[T1])) (h0:¬w=0) (h3:w<3) (hr:rows.length<=10) (p2:f [.b T1,.t (.int ((qd rows++[D.str "zz"]).length:Int))]=some (.t (.int v),[T2])) (ha:d7 (qd rows++[D.str "zz"]) v=some nd):
  bH 6 (dD f) [.b T0,.t (.tup (rows.map kD)),.t (.tup bl)]=some (.t (.tup [.str "name",nd]),[T2]):=by
 have ec:=fun S=>yx (S:=S) rows;have l1:(rows.map kD).length<=100000:=by rw[aah];lia
 have l2:(qd rows).length+1<=100000:=by rw[ud];lia
 generalize qd rows=L at *;generalize rows.map kD=R at *;have el:((L++[D.str "zz"]).length:Int)=(L.length:Int)+1:=by rw[aan];push_cast;rfl
 rw[el] at p2;simp[bH,dD,aT,p1,h0,h3,cU,l1,ec,l2,p2,ha]
def gt_num (p1:f [.b T0,.t (.int 8)]=some (.t (.int w),[T1])) (h0:¬w=0) (h3:¬w<3) (p2:f [.b T1,.t (.int 4)]=some (.t (.int v),[T2])) (hh:d7 [D.str "same",.str "less",.str "more"] (w % 3)=some nd)
  (hb:bl=[]/\T3=T2\/bl≠[]/\∃u,f [.b T2,.t (.int 4)]=some (.t (.int u),[T3])/\¬0<u) (hd:bV (.tup bl)<=40):bH 6 (dD f) [.b T0,.t td,.t (.tup bl)]=some (.t (.tup [nd,.int v]),[T3]):=by
 rcases hb with⟨rfl,rfl⟩|⟨hne,u,p3,hu⟩
 ·have q:iS (.tup []) (.tup [])=true:=rfl;simp[bH,dD,aT,p1,h0,h3,p2,q,hh,bV,bF]
 ·have q:iS (.tup bl) (.tup [])=false:=by cases bl with|nil=>exact absurd rfl hne|cons _ _=>rfl
  simp[bH,dD,aT,p1,h0,h3,p2,q,hd,p3,hu,hh]
def R6 {u:Int}{xd:D}(p1:f [.b T0,.t (.int 8)]=some (.t (.int w),[T1])) (h0:¬w=0) (h3:¬w<3) (p2:f [.b T1,.t (.int 4)]=some (.t (.int v),[T2])) (hh:d7 [D.str "same",.str "less",.str "more"] (w % 3)=some nd)
  (hne:bl≠[]) (p3:f [.b T2,.t (.int 4)]=some (.t (.int u),[T3])) (hu:0<u) (p4:f [.b T3,.t (.int (bl.length:Int))]=some (.t (.int x),[T4])) (hx:d7 bl x=some xd) (hd:bV (.tup bl)<=40):bH 6 (dD f) [.b T0,.t td,.t (.tup bl)]=some (.t (.tup [nd,xd]),[T4]):=by
 have q:iS (.tup bl) (.tup [])=false:=by cases bl with|nil=>exact absurd rfl hne|cons _ _=>rfl
 simp[bH,dD,aT,p1,h0,h3,p2,q,hd,p3,hu,p4,hx,hh]
end
def Dm (h:z.length<=8):wD (.str z)<=82:=by show 10*z.length+2<=82;lia
def W2 (h:Fd n T) (hn:n<900000) (ht:Tb td) (hb:bs.length<900) (hs:∀z∈bs,Nm z):
  ∃d T',Mt [.b T,.t td,.t (.tup (bs.map D.str))]=some (.t d,[T'])/\Tw bs d/\Fd (n+4) T':=by
 obtain⟨w,T1,p1,w0,w1,h1⟩:=cA (m:=8) h (by lia) (by decide) (by decide);obtain⟨rows,rfl,rne,rl,rn⟩:=ht;by_cases c0:w=0
 ·subst c0;exact⟨_,T1,R5 p1,⟨rfl,⟨(by show 1<=8;lia),(by show 3<=8;lia),True.intro⟩,by decide,⟨cZ (by decide +kernel),True.intro⟩,by decide⟩,h1.mono (by lia)⟩
 ·by_cases c1:w<3
  ·have hl:((qd rows++[D.str "zz"]).length:Int)=rows.length+1:=by rw[aan,ud];push_cast;rfl
   obtain⟨v,T2,p2,v0,v1,h2⟩:=cA (m:=((qd rows++[D.str "zz"]).length:Int)) h1 (by lia) (by lia) (by lia);obtain⟨nd,a1,a2⟩:=kg (x:=.cJ) v0 v1;obtain⟨z,rfl,nz⟩:∃z,nd= .str z/\Nm z:=by
    rcases aaG.mp a2 with q|q
    ·obtain⟨z,hz,rfl⟩:=abt.mp q;obtain⟨p,hp,rfl⟩:=abt.mp hz;exact⟨_,rfl,rn p hp⟩
    ·rw[aao] at q;exact⟨"zz",q,by decide +kernel,by decide,cZ (by decide +kernel)⟩
   obtain⟨z1,z2,z3⟩:=nz;refine⟨_,T2,N9 p1 c0 c1 (by lia) p2 a1,⟨?_,⟨(by show 2<=8;lia),(by show 4<=8;lia),z2,True.intro⟩,by show max 0 (max 0 0)+1<=1;lia,⟨cZ (by decide +kernel),z3,True.intro⟩,?_⟩,h2.mono (by lia)⟩
   ·rw[Dg,if_pos (mZ _)];exact z1
   ·have:=Dm z2;show 42+2+(wD (.str z)+2+0)+4<=180;lia
  ·obtain⟨v,T2,p2,v0,v1,h2⟩:=cA (m:=4) h1 (by lia) (by decide) (by decide);obtain⟨hd,d1,d2⟩:=kg (x:=.cJ) (l:=[.str "same",.str "less",.str "more"]) (i:=w % 3) (afz _ (by decide)) (aeX _ (by decide));have hhd:inD hd (yq.map D.str)=true/\iS hd (.str "name")=false/\Fj 8 hd/\bV hd=0/\Sane hd/\wD hd<=82:=by
    simp only[aav,abG,acA] at d2;rcases d2 with rfl|rfl|rfl<;>exact⟨by decide,by decide,(by show _<=8;decide),rfl,cZ (by decide +kernel),by decide⟩
   obtain⟨q1,q2,q3,q4,q5,q6⟩:=hhd;have fin:∀x:D,(pI x 0 9=true\/inD x (bs.map D.str)=true)->Fj 8 x->bV x=0->Sane x->wD x<=82->Tw bs (.tup [hd,x]):=fun x h1 h2 h3 h4 h5=>by
    refine⟨?_,⟨(by show 2<=8;lia),q3,h2,True.intro⟩,by show max (bV hd) (max (bV x) 0)+1<=1;rw[q4,h3];decide,⟨q5,h4,True.intro⟩,by show wD hd+2+(wD x+2+0)+4<=180;lia⟩;rw[Dg,q2,q1];rcases h1 with q|q
    ·rw[q];rfl
    ·rw[q];simp
   have dv:bV (.tup (bs.map D.str))<=40:=by show bF (bs.map D.str)+1<=40;rw[L2.xM];lia
   have hv:Tw bs (.tup [hd,.int v]):=fin _ (.inl (by show(decide (0<=v) && decide (v<=9))=true;simp only[abw,aci];lia)) True.intro rfl (by show v.natAbs<10 ^ 30;lia) (by show 40<=82;lia);cases YX:bs with
   |nil=>
    subst YX;exact⟨_,T2,gt_num p1 c0 c1 p2 d1 (.inl ⟨rfl,rfl⟩) dv,hv,h2.mono (by lia)⟩
   |cons y ys=>
    rw[<-YX];have hne:bs.map D.str≠[]:=by rw[YX];simp
    obtain⟨u,T3,p3,u0,u1,h3⟩:=cA (m:=4) h2 (by lia) (by decide) (by decide);by_cases c3:0<u
    ·have hl0:0<((bs.map D.str).length:Int):=by rw[YX];simp only[abX,abn];lia
     obtain⟨x,T4,p4,x0,x1,h4⟩:=cA (m:=((bs.map D.str).length:Int)) h3 (by lia) hl0 (by rw[aah];lia);obtain⟨xd,g1,g2⟩:=kg (x:=.cJ) x0 x1;obtain⟨vs,m1,rfl⟩:=abt.mp g2;have iv:inD (.str vs) (bs.map D.str)=true:=by
      unfold inD;exact abI.mpr ⟨.str vs,g2,mZ _⟩
     obtain⟨z1,z2,z3⟩:=hs vs m1;exact⟨_,T4,R6 p1 c0 c1 p2 d1 hne p3 c3 p4 g1 dv,fin _ (.inr iv) z2 rfl z3 (Dm z2),h4.mono (by lia)⟩
    ·exact⟨_,T3,gt_num p1 c0 c1 p2 d1 (.inr ⟨hne,u,p3,c3⟩) dv,hv,h3.mono (by lia)⟩
def YY (ao bB ak:FM):GS:=
 (zA 3 (eC (.int 0)) (eF (eP wj (aa (cF 3 (eC (.int 0))) (aa (eC (.int 1)) aA)))))
def YZ (ao bB ak:FM):GS:=
 (cu 5 (eP dG (aa (eC (.str "next")) (aa (eC (.str "not")) (aa (eC (.str "within")) (aa (eC (.str "always")) (aa (eC (.str "some")) (aa (eC (.str "till")) (aa (eC (.str "both")) (aa (eC (.str "either")) (aa (eC (.str "till")) (aa (eC (.str "each")) (aa (eC (.str "one")) (aa (eC (.str "now")) aA))))))))))))))
def Y0 (ao bB ak:FM):GS:=
 (cu 6 (eT (cF 5 (eF (bu ao (cD (au 0) (aZ (eC (.int 12)) bO)))))))
def Mu (ao bB ak:FM):GS:=
 (iZ (Ue (uM (qB (eF (eP xy (aa (eF (au 6)) (aa (eF (eP cM (aa (eC (.str "each")) (aa (eC (.str "one")) aA)))) aA))))) (qB (eF (eP ku (aa (cF 3 (eC (.int 1))) (aa (eC (.int 0)) aA)))))) (uM (qB (eF (eP xy (aa (eF (au 6)) (aa (eF (eP cM (aa (eC (.str "till")) (aa (eC (.str "both")) (aa (eC (.str "either")) aA))))) aA))))) (qB (eF (eP El (aa (cF 3 (eC (.int 0))) (aa (eC (.int 2)) aA))))))) (cu 6 (eP A6 (aa (eF (eP dG (aa (eC (.str "next")) (aa (eC (.str "some")) (aa (eC (.str "always")) aA))))) (aa (eF (bu ao (cD (au 0) (aZ (eC (.int 3)) bO)))) aA)))) cX)
def Oa (ao bB ak:FM):GS:=
 (iZ (Ue (qB (eF (eP El (aa (cF 3 (eC (.int 0))) (aa (eC (.int 1)) aA))))) (Ue (qB (eF (eP El (aa (eF (au 4)) (aa (eC (.int 2)) aA))))) (qB (eF (eP ku (aa (eF (au 6)) (aa (eC (.str "now")) aA))))))) (cG (eP A6 (aa (eF (eP dG (aa (eF (eP cM (aa (eC (.str "yes")) aA))) (aa (eF (eP cM (aa (eC (.str "no")) aA))) (aa (eF (eP cM (aa (eC (.str "now")) (aa (eF (bu bB (cD (au 0) (aZ (eF (au 1)) (aZ (eF (au 2)) bO))))) aA)))) aA))))) (aa (eF (eP z9 (aa (eC (.int 2)) (aa (eF (bu ao (cD (au 0) (aZ (eC (.int 9)) bO)))) aA)))) aA)))) cX)
def IT (ao bB ak:FM):GS:=
 (iZ (qB (eF (eP xy (aa (eF (au 6)) (aa (eF (eP cM (aa (eC (.str "each")) (aa (eC (.str "one")) aA)))) aA))))) (aP (zA 3 (eC (.int 1)) (eF (eP wj (aa (cF 3 (eC (.int 1))) (aa (eC (.int 1)) aA)))))
 (aP (cu 7 (cT [] (iA (eF (au 1))) bQ (cF 0 (eC (.int 0)))))
 (aP (cu 8 (eP A6 (aa (eF (eP dO (aa (eF (au 7)) (aa (eF (eP dG (aa (eC (.str "x")) (aa (eC (.str "y")) (aa (eC (.str "x")) aA))))) aA)))) (aa (eF (bu ao (cD (au 0) (aZ (eF (eP dO (aa (jQ 7) (aa (eC (.int 3)) aA)))) bO)))) aA))))
 (aP (cu 9 (bu ak (cD (au 0) (aZ (eF (au 1)) (aZ (eF (eP dO (aa (eF (au 2)) (aa (eF (eP cM (aa (eF (au 8)) aA))) aA)))) (cD (au 3) (aZ (eF (eP wj (aa (eF (au 4)) (aa (eC (.int 1)) aA)))) bO)))))))
 (cG (eP cM (aa (eF (au 6)) (aa (cF 7 (eF (bu ao (cD (au 0) (aZ (jQ 7) bO))))) (aa (eF (au 8)) (aa (eF (au 9)) aA)))))))))) cX)
def PU (ao bB ak:FM):GS:=
 (iZ (qB (eF (eP ku (aa (eF (au 6)) (aa (eC (.str "within")) aA))))) (cG (eP cM (aa (eF (au 6)) (aa (eF (eP A6 (aa (eF (eP dG (aa (eC (.int 2)) (aa (eC (.int 1)) (aa (eC (.int 3)) (aa (eC (.int 0)) (aa (eC (.int 5)) (aa (eC (.int 2)) aA)))))))) (aa (eF (bu ao (cD (au 0) (aZ (eC (.int 6)) bO)))) aA)))) (aa (eF (bu ak (cD (au 0) (aZ (eF (au 1)) (aZ (eF (au 2)) (cD (au 3) (aZ (eF (eP wj (aa (eF (au 4)) (aa (eC (.int 1)) aA)))) bO))))))) aA))))) cX)
def UG (ao bB ak:FM):GS:=
 (iZ (qB (eF (eP xy (aa (eF (au 6)) (aa (eF (eP cM (aa (eC (.str "till")) (aa (eC (.str "both")) (aa (eC (.str "either")) aA))))) aA))))) (aP (zA 3 (eC (.int 0)) (eF (eP wj (aa (cF 3 (eC (.int 0))) (aa (eC (.int 1)) aA)))))
 (aP (cu 10 (bu ak (cD (au 0) (aZ (eF (au 1)) (aZ (eF (au 2)) (cD (au 3) (aZ (eF (eP wj (aa (eF (au 4)) (aa (eC (.int 1)) aA)))) bO)))))))
 (aP (zA 3 (eC (.int 0)) (eF (eP dO (aa (cF 3 (eC (.int 0))) (aa (eC (.int 1)) aA)))))
 (cG (eP cM (aa (eF (au 6)) (aa (eF (au 10)) (aa (eF (bu ak (cD (au 0) (aZ (eF (au 1)) (aZ (eF (au 2)) (cD (au 3) (aZ (eF (eP wj (aa (eF (au 4)) (aa (eC (.int 1)) aA)))) bO))))))) aA)))))))) cX)
def Y3 (ao bB ak:FM):GS:=
 (cG (eP cM (aa (eF (au 6)) (aa (eF (bu ak (cD (au 0) (aZ (eF (au 1)) (aZ (eF (au 2)) (cD (au 3) (aZ (eF (eP wj (aa (eF (au 4)) (aa (eC (.int 1)) aA)))) bO))))))) aA))))
def dW (ao bB ak:FM):GS:=aP (YY ao bB ak) (aP (YZ ao bB ak) (aP (Y0 ao bB ak) (aP (Mu ao bB ak) (aP (Oa ao bB ak) (aP (IT ao bB ak) (aP (PU ao bB ak) (aP (UG ao bB ak) (Y3 ao bB ak))))))))
def W3 (ao bB ak:FM):dW ao bB ak=aP (YY ao bB ak) (aP (YZ ao bB ak) (aP (Y0 ao bB ak) (aP (Mu ao bB ak) (aP (Oa ao bB ak) (aP (IT ao bB ak) (aP (PU ao bB ak) (aP (UG ao bB ak) (Y3 ao bB ak)))))))):=rfl
noncomputable def HL:BBB:=["next","not","within","always","some","till","both","either","till","each","one","now"]
noncomputable def DR:BBB:=["till","both","either"]
noncomputable abbrev bg (a b:Int):MO:=.lst [.int a,.int b]
section
variable {f1 f2 f3:FM}{T0 T1 T2 T3 T4 T5:MO}{td:D}{bl:List D}{b0 b1 deep:Int}{z:Str}{hl:List D}
abbrev sv (hl:List D) (T:MO) (td:D) (bl:List D) (a b deep:Int) (h:Str):SS:=[some (.b T),AAA td,AAA (.tup bl),some (.b (bg a b)),AAC deep,AAB hl,AAA (.str h),none,none,none,none]
def IU (f1 f2 f3:FM):GS:=aP (Oa f1 f2 f3) (aP (IT f1 f2 f3) (aP (PU f1 f2 f3) (aP (UG f1 f2 f3) (Y3 f1 f2 f3))))
def lQ (a b:D):d7 [a,b] 0=some a/\d7 [a,b] 1=some b:=⟨rfl,rfl⟩
def Lu:Hh 2 0=some 0/\Hh 2 1=some 1:=⟨rfl,rfl⟩
def ue (z:Str):xy [.str z,.tup [.str "each",.str "one"]]=AAA (.bl (fB z)):=qN (.str z) BND
def BF (z:Str):xy [.str z,.tup [.str "till",.str "both",.str "either"]]=AAA (.bl (inD (.str z) (DR.map D.str))):=qN (.str z) DR
def F7 {v:Int}{h0:Str}(p1:f1 [.b T0,.t (.int 12)]=some (.t (.int v),[T1])) (hh:d7 (HL.map D.str) v=some (.str h0))
  (hz:(fB h0=true/\b1=0\/inD (.str h0) (DR.map D.str)=true/\b0-1<2)/\(∃u,f1 [.b T1,.t (.int 3)]=some (.t (.int u),[T2])/\d7 [D.str "next",.str "some",.str "always"] u=some (.str z))\/¬(fB h0=true/\b1=0\/inD (.str h0) (DR.map D.str)=true/\b0-1<2)/\z=h0/\T2=T1):
  dW f1 f2 f3 [some (.b T0),AAA td,AAA (.tup bl),some (.b (bg b0 b1)),AAC deep,none,none,none,none,none,none]=IU f1 f2 f3 (sv (HL.map D.str) T2 td bl (b0-1) b1 deep z):=by
 rw[W3];have e0:YY f1 f2 f3 [some (.b T0),AAA td,AAA (.tup bl),some (.b (bg b0 b1)),AAC deep,none,none,none,none,none,none]=some (.nx [some (.b T0),AAA td,AAA (.tup bl),some (.b (bg (b0-1) b1)),AAC deep,none,none,none,none,none,none]):=by simp[YY,lQ,Lu]
 have e1:YZ f1 f2 f3 [some (.b T0),AAA td,AAA (.tup bl),some (.b (bg (b0-1) b1)),AAC deep,none,none,none,none,none,none]=some (.nx [some (.b T0),AAA td,AAA (.tup bl),some (.b (bg (b0-1) b1)),AAC deep,AAB (HL.map D.str),none,none,none,none,none]):=by simp[YZ,HL]
 have e1':∃hl:List D,hl=HL.map D.str:=⟨_,rfl⟩
 obtain⟨hl,ehl⟩:=e1';rw[<-ehl] at hh e1 ⊢;have e2:Y0 f1 f2 f3 [some (.b T0),AAA td,AAA (.tup bl),some (.b (bg (b0-1) b1)),AAC deep,AAB hl,none,none,none,none,none]=some (.nx (sv hl T1 td bl (b0-1) b1 deep h0)):=by
  simp[Y0,p1,hh]
 have e3:Mu f1 f2 f3 (sv hl T1 td bl (b0-1) b1 deep h0)=some (.nx (sv hl T2 td bl (b0-1) b1 deep z)):=by
  have i1:=ue h0;have i2:=BF h0;rcases hz with⟨hc,u,p2,hu⟩|⟨hc,rfl,rfl⟩
  ·cases q1:fB h0 with
   |true=>
    rw[q1] at i1;by_cases c1:b1=0
    ·simp[Mu,i1,lQ,c1,p2,hu]
    ·have q3:inD (.str h0) (DR.map D.str)=true/\b0-1<2:=by rcases hc with h|h;exact absurd h.2 c1;exact h
     rw[q3.1] at i2;simp[Mu,i1,i2,lQ,c1,p2,hu,q3.2]
   |false=>
    rw[q1] at i1 hc;have q3:inD (.str h0) (DR.map D.str)=true/\b0-1<2:=by rcases hc with h|h;cases h.1;exact h
    rw[q3.1] at i2;simp[Mu,i1,i2,lQ,p2,hu,q3.2]
  ·cases q1:fB z with
   |true=>
    rw[q1] at i1;have c1:¬b1=0:=fun c=>hc (.inl ⟨q1,c⟩);cases q2:inD (.str z) (DR.map D.str) with
    |true=>
     rw[q2] at i2;have c2:¬b0-1<2:=fun c=>hc (.inr ⟨q2,c⟩);simp[Mu,i1,i2,lQ,c1,c2]
    |false=>
     rw[q2] at i2;simp[Mu,i1,i2,lQ,c1]
   |false=>
    rw[q1] at i1;cases q2:inD (.str z) (DR.map D.str) with
    |true=>
     rw[q2] at i2;have c2:¬b0-1<2:=fun c=>hc (.inr ⟨q2,c⟩);simp[Mu,i1,i2,lQ,c2]
    |false=>
     rw[q2] at i2;simp[Mu,i1,i2,lQ]
 rw[d8,e0,aad];simp only;rw[d8,e1,aad];simp only;rw[d8,e2,aad];simp only;rw[d8,e3,aad];rfl
def R7 (T:MO) (td:D) (bl:List D) (a b deep:Int) (o:Option Out):Option (U×List MO):=o.bind fun o=>match o with
 |.rt (.t d) S=>(aT [.b T,.t td,.t (.tup bl),.b (bg a b),.t (.int deep)] S).map fun os=>(.t d,os)
 |.rt (.m o) S=>(aT [.b T,.t td,.t (.tup bl),.b (bg a b),.t (.int deep)] S).map fun os=>(.m o,os)
 |.nx S=>(aT [.b T,.t td,.t (.tup bl),.b (bg a b),.t (.int deep)] S).map fun os=>(.t .cJ,os)
 |_=>none
def R8:bH 11 (dW f1 f2 f3) [.b T0,.t td,.t (.tup bl),.b (bg b0 b1),.t (.int deep)]=R7 T0 td bl b0 b1 deep (dW f1 f2 f3 [some (.b T0),AAA td,AAA (.tup bl),some (.b (bg b0 b1)),AAC deep,none,none,none,none,none,none]):=rfl
def yy {d:D}{T':MO}{b:Int}{r:SS}:R7 T td bl a b deep (some (.rt (.t d) (some (.b T')::AAA td::AAA (.tup bl)::some (.b (bg a' b'))::AAC deep::r)))=some (.t d,[T',bg a' b']):=by
 simp[R7,aT]
def Ob {b:Int}{Mv d:D}(hc:a<1\/deep<2\/z="now") (p1:f2 [.b T2,.t td,.t (.tup bl)]=some (.t Mv,[T3])) (p2:f1 [.b T3,.t (.int 9)]=some (.t (.int k),[T4])) (hk:d7 [.tup [.str "yes"],.tup [.str "no"],.tup [.str "now",Mv]] (if k<2 then k else 2)=some d):
  IU f1 f2 f3 (sv hl T2 td bl a b deep z)=some (.rt (.t d) (sv hl T4 td bl a b deep z)):=by
 have e4:Oa f1 f2 f3 (sv hl T2 td bl a b deep z)=some (.rt (.t d) (sv hl T4 td bl a b deep z)):=by
  by_cases c1:a<1
  ·simp[Oa,lQ,c1,p1,p2,hk]
  ·by_cases c2:deep<2
   ·simp[Oa,lQ,c1,c2,p1,p2,hk]
   ·have c3:z="now":=by rcases hc with h|h|h;exact absurd h c1;exact absurd h c2;exact h
    subst c3;simp[Oa,lQ,c1,c2,p1,p2,hk]
 unfold IU;rw[d8,e4,aad]
def wK {b:Int}(h1:¬a<1) (h2:¬deep<2) (h3:¬z="now"):Oa f1 f2 f3 (sv hl T2 td bl a b deep z)=some (.nx (sv hl T2 td bl a b deep z)):=by
 simp[Oa,lQ,h1,h2,h3]
def R9 {b x nx:Int}{xd nd d:D}(h1:¬a<1) (h2:¬deep<2) (h3:¬z="now") (hb:fB z=true) (hr:rows.length<=10)
  (p1:f1 [.b T2,.t (.int ((rows.length:Int)+3))]=some (.t (.int x),[T3])) (hx:d7 (qd rows++[.str "x",.str "y",.str "x"]) x=some xd) (hv:bl.length+1<=100000)
  (p2:f3 [.b T3,.t (.tup (rows.map kD)),.t (.tup (bl++[xd])),.b (bg a (b-1)),.t (.int (deep-1))]=some (.t d,[T4,bg a' b'])) (p3:f1 [.b T4,.t (.int (rows.length:Int))]=some (.t (.int nx),[T5])) (hn:d7 (qd rows) nx=some nd):
  ∃r,IU f1 f2 f3 (sv hl T2 (.tup (rows.map kD)) bl a b deep z)=some (.rt (.t (.tup [.str z,nd,xd,d])) (some (.b T5)::AAA (.tup (rows.map kD))::AAA (.tup bl)::some (.b (bg a' b'))::AAC deep::r)):=by
 unfold IU;rw[d8,wK h1 h2 h3,aad];simp only;have i1:=ue z;rw[hb] at i1;have ec:=fun S=>yx (S:=S) rows;have l1:(rows.map kD).length<=100000:=by rw[aah];lia
 have ln:(qd rows).length=rows.length:=ud rows;have l3:rows.length<=99997:=by lia
 have l4:((qd rows).length:Int)=rows.length:=by rw[ln]
 generalize qd rows=L at *;generalize rows.map kD=R at *;rw[d8];simp[IT,lQ,Lu,i1,cU,l1,ec,l3,l4,ln,p1,hx,hv,p2,p3,hn]
def Iq {b:Int}{kd d:D}(h1:¬a<1) (h2:¬deep<2) (h3:¬z="now") (hb:fB z=false) (hz:z="within")
  (p1:f1 [.b T2,.t (.int 6)]=some (.t (.int k),[T3])) (hk:d7 [D.int 2,.int 1,.int 3,.int 0,.int 5,.int 2] k=some kd)
  (p2:f3 [.b T3,.t td,.t (.tup bl),.b (bg a b),.t (.int (deep-1))]=some (.t d,[T4,bg a' b'])):
  IU f1 f2 f3 (sv hl T2 td bl a b deep z)=some (.rt (.t (.tup [.str z,kd,d])) (sv hl T4 td bl a' b' deep z)):=by
 unfold IU;rw[d8,wK h1 h2 h3,aad];simp only;have i1:=ue z;rw[hb] at i1;have e5:IT f1 f2 f3 [some (.b T2),AAA td,AAA (.tup bl),some (.b (bg a b)),AAC deep,AAB hl,AAA (.str z),none,none,none,none]=some (.nx [some (.b T2),AAA td,AAA (.tup bl),some (.b (bg a b)),AAC deep,AAB hl,AAA (.str z),none,none,none,none]):=by simp[IT,i1]
 rw[d8,e5,aad];simp only;rw[d8];simp[PU,eq_true hz,p1,hk,p2]
def Se {b:Int}{d e:D}{a2 b2:Int}(h1:¬a<1) (h2:¬deep<2) (h3:¬z="now") (hb:fB z=false) (hz:¬z="within") (ht:inD (.str z) (DR.map D.str)=true)
  (p1:f3 [.b T2,.t td,.t (.tup bl),.b (bg (a-1) b),.t (.int (deep-1))]=some (.t d,[T3,bg a' b'])) (p2:f3 [.b T3,.t td,.t (.tup bl),.b (bg (a'+1) b'),.t (.int (deep-1))]=some (.t e,[T4,bg a2 b2])):
  ∃r,IU f1 f2 f3 (sv hl T2 td bl a b deep z)=some (.rt (.t (.tup [.str z,d,e])) (some (.b T4)::AAA td::AAA (.tup bl)::some (.b (bg a2 b2))::AAC deep::r)):=by
 unfold IU;rw[d8,wK h1 h2 h3,aad];simp only;have i1:=ue z;rw[hb] at i1;have i2:=BF z;rw[ht] at i2;have e5:IT f1 f2 f3 [some (.b T2),AAA td,AAA (.tup bl),some (.b (bg a b)),AAC deep,AAB hl,AAA (.str z),none,none,none,none]=some (.nx [some (.b T2),AAA td,AAA (.tup bl),some (.b (bg a b)),AAC deep,AAB hl,AAA (.str z),none,none,none,none]):=by simp[IT,i1]
 have e6:PU f1 f2 f3 [some (.b T2),AAA td,AAA (.tup bl),some (.b (bg a b)),AAC deep,AAB hl,AAA (.str z),none,none,none,none]=some (.nx [some (.b T2),AAA td,AAA (.tup bl),some (.b (bg a b)),AAC deep,AAB hl,AAA (.str z),none,none,none,none]):=by simp[PU,hz]
 rw[d8,e5,aad];simp only;rw[d8,e6,aad];simp only;rw[d8];simp[UG,lQ,Lu,i2,p1,p2]
def Sg {b:Int}{d:D}(h1:¬a<1) (h2:¬deep<2) (h3:¬z="now") (hb:fB z=false) (hz:¬z="within") (ht:inD (.str z) (DR.map D.str)=false)
  (p1:f3 [.b T2,.t td,.t (.tup bl),.b (bg a b),.t (.int (deep-1))]=some (.t d,[T3,bg a' b'])):
  IU f1 f2 f3 (sv hl T2 td bl a b deep z)=some (.rt (.t (.tup [.str z,d])) (sv hl T3 td bl a' b' deep z)):=by
 unfold IU;rw[d8,wK h1 h2 h3,aad];simp only;have i1:=ue z;rw[hb] at i1;have i2:=BF z;rw[ht] at i2;have e5:IT f1 f2 f3 [some (.b T2),AAA td,AAA (.tup bl),some (.b (bg a b)),AAC deep,AAB hl,AAA (.str z),none,none,none,none]=some (.nx [some (.b T2),AAA td,AAA (.tup bl),some (.b (bg a b)),AAC deep,AAB hl,AAA (.str z),none,none,none,none]):=by simp[IT,i1]
 have e6:PU f1 f2 f3 [some (.b T2),AAA td,AAA (.tup bl),some (.b (bg a b)),AAC deep,AAB hl,AAA (.str z),none,none,none,none]=some (.nx [some (.b T2),AAA td,AAA (.tup bl),some (.b (bg a b)),AAC deep,AAB hl,AAA (.str z),none,none,none,none]):=by simp[PU,hz]
 have e7:UG f1 f2 f3 [some (.b T2),AAA td,AAA (.tup bl),some (.b (bg a b)),AAC deep,AAB hl,AAA (.str z),none,none,none,none]=some (.nx [some (.b T2),AAA td,AAA (.tup bl),some (.b (bg a b)),AAC deep,AAB hl,AAA (.str z),none,none,none,none]):=by simp[UG,i2]
 rw[d8,e5,aad];simp only;rw[d8,e6,aad];simp only;rw[d8,e7,aad];simp only;simp[Y3,p1]
end
structure Dw (deep:Nat) (bs:BBB) (room bin:Nat) (d:D):Prop where
 dr:Dr deep bs room bin d
 iT:Sane d
 w:wD d+2<=450*room
noncomputable def rm (deep:Nat):Nat:=2 ^ deep-1
def Lv (n:Nat):1<=rm (n+1):=by
 unfold rm;have:1<=2 ^ n:=adY;rw[acV];lia
def Oc (n:Nat):rm (n+1)=2*rm n+1:=by
 unfold rm;have:1<=2 ^ n:=adY;rw[acV];lia
def gn:Nat->FM
 |0=>fun _=>none
 |j+1=>bH 11 (dW bW Mt (gn j))
def Od (j:Nat):∀us r,gn (j+1) us=some r->bH 11 (dW bW Mt (gn j)) us=some r:=fun _ _ h=>h
noncomputable def be:Nat->D->Nat
 |n+1,.tup [.str z,a]=>if z="not" then be n a else 0
 |n+1,.tup [.str z,a,b]=>if z="both"\/z="either" then be n a+be n b+1 else 0
 |_,_=>0
def Sh (n:Nat) (z:Str) (a:D):be (n+1) (.tup [.str z,a])<=be n a:=by show(if _ then _ else _)<=_;split<;>lia
def Lw (n:Nat) (z:Str) (a b:D):be (n+1) (.tup [.str z,a,b])<=be n a+be n b+1:=by
 show(if _ then _ else _)<=_;split
 ·exact aam _
 ·exact abH _
inductive Si (r:Option (U×List MO)) (deep:Nat) (bs:BBB) (n:Nat) (b0:Int) (b1:Nat):Prop where
 |mk (d:D) (T':MO) (a':Int) (bin:Nat):r=some (.t d,[T',bg a' ((b1-bin:Nat):Int)])->Dw deep bs (rm deep) bin d->bin<=b1->Fd (n+8*rm deep) T'->(1<=b0->0<=a'/\2*(be deep d:Int)+1+a'<=b0)->Si r deep bs n b0 b1
def W4 (f:FM) (deep:Nat):Prop:=∀(T:MO) (n:Nat) (td:D) (bs:BBB) (b0:Int) (b1:Nat),Fd n T->n+8*rm deep<800000->Tb td->bs.length+deep<800->(∀z∈bs,Nm z)->
 Si (f [.b T,.t td,.t (.tup (bs.map D.str)),.b (bg b0 b1),.t (.int deep)]) deep bs n b0 b1
structure Hd (z:Str):Prop where
 h8:z.length<=8
 sn:Sane (.str z)
 nw:z="now"\/z="within"/\fB z=false/\inD (.str z) (DR.map D.str)=false\/fB z=true/\jN z=4/\jh z=3/\z≠"now"/\z≠"within"\/
  fB z=false/\inD (.str z) (DR.map D.str)=true/\jN z=3/\jh z=1/\z≠"now"/\z≠"within"\/fB z=false/\inD (.str z) (DR.map D.str)=false/\jN z=2/\jh z=1/\z≠"now"/\z≠"within"
def W5:∀z∈HL,Hd z:=by
 intro z hz;unfold HL at hz;simp only[aav,abG,acA] at hz;rcases hz with rfl|rfl|rfl|rfl|rfl|rfl|rfl|rfl|rfl|rfl|rfl|rfl
 ·exact⟨by decide,cZ (by decide +kernel),.inr (.inr (.inr (.inr ⟨by decide,by decide,by decide,by decide,by decide,by decide⟩)))⟩
 ·exact⟨by decide,cZ (by decide +kernel),.inr (.inr (.inr (.inr ⟨by decide,by decide,by decide,by decide,by decide,by decide⟩)))⟩
 ·exact⟨by decide,cZ (by decide +kernel),.inr (.inl ⟨rfl,by decide,by decide⟩)⟩
 ·exact⟨by decide,cZ (by decide +kernel),.inr (.inr (.inr (.inr ⟨by decide,by decide,by decide,by decide,by decide,by decide⟩)))⟩
 ·exact⟨by decide,cZ (by decide +kernel),.inr (.inr (.inr (.inr ⟨by decide,by decide,by decide,by decide,by decide,by decide⟩)))⟩
 ·exact⟨by decide,cZ (by decide +kernel),.inr (.inr (.inr (.inl ⟨by decide,by decide,by decide,by decide,by decide,by decide⟩)))⟩
 ·exact⟨by decide,cZ (by decide +kernel),.inr (.inr (.inr (.inl ⟨by decide,by decide,by decide,by decide,by decide,by decide⟩)))⟩
 ·exact⟨by decide,cZ (by decide +kernel),.inr (.inr (.inr (.inl ⟨by decide,by decide,by decide,by decide,by decide,by decide⟩)))⟩
 ·exact⟨by decide,cZ (by decide +kernel),.inr (.inr (.inr (.inl ⟨by decide,by decide,by decide,by decide,by decide,by decide⟩)))⟩
 ·exact⟨by decide,cZ (by decide +kernel),.inr (.inr (.inl ⟨by decide,by decide,by decide,by decide,by decide⟩))⟩
 ·exact⟨by decide,cZ (by decide +kernel),.inr (.inr (.inl ⟨by decide,by decide,by decide,by decide,by decide⟩))⟩
 ·exact⟨by decide,cZ (by decide +kernel),.inl rfl⟩
def BA {f2 f3:FM}{bl:List D}{b0 b1 deep:Int}(h:Fd n T) (hn:n+2<900000):
  ∃z T2,dW bW f2 f3 [some (.b T),AAA td,AAA (.tup bl),some (.b (bg b0 b1)),AAC deep,none,none,none,none,none,none]=IU bW f2 f3 (sv (HL.map D.str) T2 td bl (b0-1) b1 deep z)/\z∈HL/\(fB z=true->b1≠0)/\(inD (.str z) (DR.map D.str)=true->2<=b0-1)/\Fd (n+2) T2:=by
 obtain⟨v,T1,p1,v0,v1,h1⟩:=cA (m:=12) h (by lia) (by decide) (by decide);obtain⟨hd,a1,a2⟩:=kg (x:=.cJ) (l:=HL.map D.str) v0 (by rw[aah];exact v1);obtain⟨h0,hm,rfl⟩:=abt.mp a2;by_cases c:fB h0=true/\b1=0\/inD (.str h0) (DR.map D.str)=true/\b0-1<2
 ·obtain⟨u,T2,p2,u0,u1,h2⟩:=cA (m:=3) h1 (by lia) (by decide) (by decide);obtain⟨zd,q1,q2⟩:=kg (x:=.cJ) (l:=[D.str "next",.str "some",.str "always"]) u0 u1;obtain⟨z,rfl,zm,zb,zt⟩:∃z,zd= .str z/\z∈HL/\fB z=false/\inD (.str z) (DR.map D.str)=false:=by
   simp only[aav,abG,acA] at q2;rcases q2 with rfl|rfl|rfl
   ·exact⟨"next",rfl,by decide,by decide,by decide⟩
   ·exact⟨"some",rfl,by decide,by decide,by decide⟩
   ·exact⟨"always",rfl,by decide,by decide,by decide⟩
  exact⟨z,T2,F7 p1 a1 (.inl ⟨c,u,p2,q1⟩),zm,fun q=>(by rw[zb] at q;cases q),fun q=>(by rw[zt] at q;cases q),h2⟩
 ·exact⟨h0,T1,F7 p1 a1 (.inr ⟨c,rfl,rfl⟩),hm,fun q e=>c (.inl ⟨q,e⟩),fun q=>(by by_cases h:b0-1<2;exact absurd (.inr ⟨q,h⟩) c;lia),h1.mono (by lia)⟩
def Sj {Mv d:D}(ht:Tw bs Mv) (h:d∈[D.tup [.str "yes"],.tup [.str "no"],.tup [.str "now",Mv]]):Dw (n+1) bs (rm (n+1)) 0 d:=by
 have r1:=Lv n;simp only[aav,abG,acA] at h;rcases h with rfl|rfl|rfl
 ·exact⟨dr0 (qb (by decide) (by decide) (by decide) (by decide)) (by unfold dB;rw[show jh "yes" =1 by decide];rfl) (by decide) r1 ⟨(by show 1<=8;lia),(by show 3<=8;lia),True.intro⟩ (by show max 0 0+1<=n+2;lia),⟨cZ (by decide +kernel),True.intro⟩,by show 32+2+0+4+2<=_;lia⟩
 ·exact⟨dr0 (qb (by decide) (by decide) (by decide) (by decide)) (by unfold dB;rw[show jh "no" =1 by decide];rfl) (by decide) r1 ⟨(by show 1<=8;lia),(by show 2<=8;lia),True.intro⟩ (by show max 0 0+1<=n+2;lia),⟨cZ (by decide +kernel),True.intro⟩,by show 22+2+0+4+2<=_;lia⟩
 ·refine⟨dr0 (z:="now") (r:=[Mv]) ?_ (by unfold dB;rw[show jh "now" =2 by decide];rfl) (by decide) r1 ⟨(by show 2<=8;lia),(by show 3<=8;lia),ht.fit,True.intro⟩ (by have:=ht.dep;show max 0 (max (bV Mv) 0)+1<=n+2;lia),⟨cZ (by decide +kernel),ht.iT,True.intro⟩,by have:=ht.w;show 32+2+(wD Mv+2+0)+4+2<=_;lia⟩;unfold ff;rw[if_pos (by rw[FZ.1];rfl)];simp only[if_true];exact ht.ok
def Lx:∀(deep:Nat),1<=deep->∀(j:Nat),deep<=j->W4 (gn j) deep:=by
 intro deep
 induction deep with
 |zero=>intro h;lia
 |succ m ih=>
  intro _ j hj T n td bs b0 b1 hT hn ht hl hs;obtain⟨i,rfl⟩:∃i,j=i+1:=⟨j-1,by lia⟩
  have r0:=Lv m;have r1:=Oc m;show Si (bH 11 (dW bW Mt (gn i)) _) _ _ _ _ _;rw[R8];obtain⟨z,T2,e0,zm,zb,zt,h2⟩:=BA (f2:=Mt) (f3:=gn i) (td:=td) (bl:=bs.map D.str) (b0:=b0) (b1:=b1) (deep:=((m+1:Nat):Int)) hT (by lia);rw[e0];generalize HL.map D.str=hl;obtain⟨z8,zs,zk⟩:=W5 z zm;have zw:=Dm z8;by_cases c:b0-1<1\/((m+1:Nat):Int)<2\/z="now"
  ·obtain⟨Mv,T3,p1,tw,h3⟩:=W2 (bs:=bs) h2 (by lia) ht (by lia) hs;obtain⟨k,T4,p2,k0,k1,h4⟩:=cA (m:=9) h3 (by lia) (by decide) (by decide);obtain⟨d,q1,q2⟩:=kg (x:=.cJ) (l:=[D.tup [.str "yes"],.tup [.str "no"],.tup [.str "now",Mv]]) (i:=if k<2 then k else 2) (by split<;>lia) (by show _<(3:Int);split<;>lia);have O6:be (m+1) d=0:=by
    simp only[aav,abG,acA] at q2;rcases q2 with rfl|rfl|rfl
    ·rfl
    ·rfl
    ·exact if_neg (by decide)
   refine⟨d,T4,b0-1,0,?_,Sj tw q2,by lia,h4.mono (by lia),fun _=>by lia⟩;rw[Ob c p1 p2 q1,yy];rfl
  ·have c1:¬b0-1<1:=fun q=>c (.inl q);have c2:¬((m+1:Nat):Int)<2:=fun q=>c (.inr (.inl q));have c3:¬z="now":=fun q=>c (.inr (.inr q));have ed:(((m+1:Nat):Int)-1)=(m:Int):=by lia
   have ih:=ih (by lia) i (by lia);rcases zk with zk|⟨zk,bz,tz⟩|⟨bz,l4,s3,n1,n2⟩|⟨bz,tz,l3,s1,n1,n2⟩|⟨bz,tz,l2,s1,n1,n2⟩
   ·exact absurd zk c3
   ·obtain⟨k,T3,p1,k0,k1,h3⟩:=cA (m:=6) h2 (by lia) (by decide) (by decide);obtain⟨kd,q1,q2⟩:=kg (x:=.cJ) (l:=[D.int 2,.int 1,.int 3,.int 0,.int 5,.int 2]) k0 k1;obtain⟨d,T4,a',bin,g1,g2,g3,g4,g5⟩:=ih T3 (n+2+1) td bs (b0-1) b1 h3 (by lia) ht (by lia) hs;obtain⟨x,rfl,x0,x5⟩:∃x:Int,kd= .int x/\0<=x/\x<=5:=by
     simp only[aav,abG,acA] at q2;rcases q2 with rfl|rfl|rfl|rfl|rfl|rfl<;>exact⟨_,rfl,by decide,by decide⟩
    subst zk;have sh:ff bs "within" [.int x,d]=true:=by
     unfold ff;rw[if_pos (by rw[FZ.2];rfl)];simp only[show ¬(("within":Str)="now") by decide,adw,if_true];show(decide (0<=x) && decide (x<=5))=true;simp only[abw,aci];lia
    have pl:dB "within" [.int x,d]=[d]:=by unfold dB;rw[show jh "within" =2 by decide];rfl
    have ib:gX bs "within" [.int x,d]=bs:=by unfold gX;rw[if_neg (by rw[bz];simp)]
    have dr:=YV (n:=m) (room:=rm m) (b:=bin) (bs:=bs) (z:="within") (r:=[.int x,d]) sh pl (by rw[ib];exact g2.dr) ⟨(by show 3<=8;lia),(by show 6<=8;lia),True.intro,g2.dr.fit,True.intro⟩ (by
     have:=g2.dr.dep;show max 0 (max 0 (max (bV d) 0))+1<=m+2;lia)
    rw[if_neg (by rw[bz];simp),aeF] at dr;refine⟨_,T4,a',bin,?_,⟨dr.more (by lia),⟨zs,(by show x.natAbs<10 ^ 30;lia),g2.iT,True.intro⟩,?_⟩,g3,g4.mono (by lia),fun _=>by have:=g5 (by lia);have hb:be (m+1) (.tup [.str "within",.int x,d])=0:=if_neg (by decide);lia⟩
    ·rw[Iq c1 c2 c3 bz rfl p1 q1 (by rw[ed];exact g1),yy]
    ·have:=g2.w;show wD (.str "within")+2+(40+2+(wD d+2+0))+4+2<=_;lia
   ·obtain⟨rows,rfl,rne,rl,rn⟩:=id ht;have b1n:b1≠0:=fun q=>zb bz (by rw[q];rfl);have rp:0<(rows.length:Int):=by cases rows with|nil=>exact absurd rfl rne|cons _ _=>simp only[abn];lia
    obtain⟨x,T3,p1,x0,x1,h3⟩:=cA (m:=(rows.length:Int)+3) h2 (by lia) (by lia) (by lia);obtain⟨xd,q1,q2⟩:=kg (x:=.cJ) (l:=qd rows++[.str "x",.str "y",.str "x"]) x0 (by rw[aan,ud];push_cast;exact x1);obtain⟨xs,rfl,xn⟩:∃xs,xd= .str xs/\Nm xs:=by
     rcases aaG.mp q2 with q|q
     ·obtain⟨y,hy,rfl⟩:=abt.mp q;obtain⟨p,hp,rfl⟩:=abt.mp hy;exact⟨_,rfl,rn p hp⟩
     ·simp only[aav,abG,acA] at q;rcases q with rfl|rfl|rfl<;>exact⟨_,rfl,by decide +kernel,by decide,cZ (by decide +kernel)⟩
    obtain⟨d,T4,a',bin,g1,g2,g3,g4,g5⟩:=ih T3 (n+2+1) _ (bs++[xs]) (b0-1) (b1-1) h3 (by lia) ht (by rw[aan,abR];lia) (by
     intro y hy;rcases aaG.mp hy with q|q
     ·exact hs y q
     ·rw[show y=xs by simpa using q];exact xn)
    obtain⟨y,T5,p3,y0,y1,h5⟩:=cA (m:=(rows.length:Int)) g4 (by lia) rp (by lia);obtain⟨nd,w1,w2⟩:=kg (x:=.cJ) (l:=qd rows) y0 (by rw[ud];exact y1);obtain⟨ns,rfl,nn⟩:∃ns,nd= .str ns/\Nm ns:=by
     obtain⟨y,hy,rfl⟩:=abt.mp w2;obtain⟨p,hp,rfl⟩:=abt.mp hy;exact⟨_,rfl,rn p hp⟩
    obtain⟨n1',n2',n3'⟩:=nn;obtain⟨x1',x2',Ly⟩:=xn;have ev:(bs++[xs]).map D.str=bs.map D.str++[.str xs]:=by rw[acg];rfl
    have eb1:((b1-1:Nat):Int)=(b1:Int)-1:=by lia
    rw[ev,eb1] at g1;have sh:ff bs z [.str ns,.str xs,d]=true:=by
     unfold ff;rw[if_pos (by rw[l4];rfl)];simp only[n1,n2,adw,bz,if_true,n1',x1'];rfl
    have pl:dB z [.str ns,.str xs,d]=[d]:=by unfold dB;rw[s3];rfl
    have ib:gX bs z [.str ns,.str xs,d]=bs++[xs]:=by unfold gX;rw[if_pos bz];rfl
    have dr:=YV (n:=m) (room:=rm m) (b:=bin) (bs:=bs) (z:=z) (r:=[.str ns,.str xs,d]) sh pl (by rw[ib];exact g2.dr) ⟨(by show 4<=8;lia),Lk z8,Lk n2',Lk x2',g2.dr.fit,True.intro⟩ (by
     have:=g2.dr.dep;show max 0 (max 0 (max 0 (max (bV d) 0)))+1<=m+2;lia)
    rw[if_pos bz] at dr;refine⟨_,T5,a',1+bin,?_,⟨dr.more (by lia),⟨zs,n3',Ly,g2.iT,True.intro⟩,?_⟩,by lia,h5.mono (by lia),fun _=>by have:=g5 (by lia);have hb:be (m+1) (.tup [.str z,.str ns,.str xs,d])=0:=rfl;lia⟩
    ·obtain⟨r,es⟩:=R9 (f1:=bW) (f2:=Mt) (f3:=gn i) (hl:=hl) (T2:=T2) (a:=b0-1) (b:=(b1:Int)) (deep:=((m+1:Nat):Int)) (z:=z) (bl:=bs.map D.str) (rows:=rows) c1 c2 c3 bz (by lia) p1 q1 (by rw[aah];lia) (by rw[ed];exact g1) p3 w1;rw[es,yy];have ebb:((b1-1-bin:Nat):Int)=((b1-(1+bin):Nat):Int):=by lia
     rw[ebb]
    ·have:=g2.w;have:=Dm n2';have:=Dm x2';show wD (.str z)+2+(wD (.str ns)+2+(wD (.str xs)+2+(wD d+2+0)))+4+2<=_;lia
   ·obtain⟨d1,T3,a1,Y4,g1,g2,g3,g4,g5⟩:=ih T2 (n+2) td bs (b0-1-1) b1 h2 (by lia) ht (by lia) hs;obtain⟨d2,T4,a2,bi2,k1,k2,k3,k4,k5⟩:=ih T3 (n+2+8*rm m) td bs (a1+1) (b1-Y4) g4 (by lia) ht (by lia) hs;have dr:=dr2 (n:=m) (bs:=bs) (z:=z) (r:=[d1,d2]) (qb (by rw[l3];rfl) n1 n2 bz) (by unfold dB;rw[s1];rfl) bz g2.dr k2.dr ⟨(by show 3<=8;lia),Lk z8,g2.dr.fit,k2.dr.fit,True.intro⟩ (by
     have:=g2.dr.dep;have:=k2.dr.dep;show max 0 (max (bV d1) (max (bV d2) 0))+1<=m+2;lia)
    refine⟨_,T4,a2,Y4+bi2,?_,⟨dr.more (by lia),⟨zs,g2.iT,k2.iT,True.intro⟩,?_⟩,by lia,k4.mono (by lia),fun _=>by have z2:=zt tz;have:=g5 (by lia);have:=k5 (by lia);have:=Lw m z d1 d2;lia⟩
    ·obtain⟨r,es⟩:=Se (f1:=bW) (f2:=Mt) (f3:=gn i) (hl:=hl) (T2:=T2) (a:=b0-1) (b:=(b1:Int)) (deep:=((m+1:Nat):Int)) (z:=z) (bl:=bs.map D.str) (td:=td) c1 c2 c3 bz n2 tz (by rw[ed];exact g1) (by rw[ed];exact k1);rw[es,yy];have ebb:((b1-Y4-bi2:Nat):Int)=((b1-(Y4+bi2):Nat):Int):=by lia
     rw[ebb]
    ·have:=g2.w;have:=k2.w;show wD (.str z)+2+(wD d1+2+(wD d2+2+0))+4+2<=_;lia
   ·obtain⟨d,T3,a',bin,g1,g2,g3,g4,g5⟩:=ih T2 (n+2) td bs (b0-1) b1 h2 (by lia) ht (by lia) hs;have sh:ff bs z [d]=true:=qb (by rw[l2];rfl) n1 n2 bz;have pl:dB z [d]=[d]:=by unfold dB;rw[s1];rfl
    have ib:gX bs z [d]=bs:=by unfold gX;rw[if_neg (by rw[bz];simp)]
    have dr:=YV (n:=m) (room:=rm m) (b:=bin) (bs:=bs) (z:=z) (r:=[d]) sh pl (by rw[ib];exact g2.dr) ⟨(by show 2<=8;lia),Lk z8,g2.dr.fit,True.intro⟩ (by
     have:=g2.dr.dep;show max 0 (max (bV d) 0)+1<=m+2;lia)
    rw[if_neg (by rw[bz];simp),aeF] at dr;refine⟨_,T3,a',bin,?_,⟨dr.more (by lia),⟨zs,g2.iT,True.intro⟩,?_⟩,g3,g4.mono (by lia),fun _=>by have:=g5 (by lia);have:=Sh m z d;lia⟩
    ·rw[Sg (f1:=bW) (f2:=Mt) (f3:=gn i) c1 c2 c3 bz n2 tz (by rw[ed];exact g1),yy]
    ·have:=g2.w;show wD (.str z)+2+(wD d+2+0)+4+2<=_;lia
theorem yz {f g:D->List D}:∀{ps:List D},(∀p∈ps,f p=g p)->ps.flatMap f=ps.flatMap g
 |[],_=>rfl
 |p::ps,h=>by rw[ad9,ad9,h p aal,yz fun q hq=>h q (aaj _ hq)]
theorem Aq:∀{n:Nat}{bs:BBB}{d:D},iB n bs d=true->iB (n+1) bs d=true/\pY (n+1) d=pY n d
 |0,_,_,h=>by cases h
 |n+1,bs,d,h=>by
  obtain⟨z,r,rfl,h1,h2⟩:=rX h;have up:=fun p hp=>Aq (h2 p hp);refine⟨(n8 (n+1) bs z r).mpr ⟨h1,fun p hp=>(up p hp).1⟩,?_⟩;show(.tup (.str z::r):D)::(dB z r).flatMap (pY (n+1))= .tup (.str z::r)::(dB z r).flatMap (pY n);rw[yz fun p hp=>(up p hp).2]
def Ir {m:Nat}{d:D}(hm:n<=m) (h:iB n bs d=true):iB m bs d=true/\pY m d=pY n d:=by
  induction m with
  | zero => obtain rfl : n = 0 := by lia
            exact⟨h,rfl⟩
  |succ m ih=>
    by_cases e:n=m+1
    . subst e;exact⟨h,rfl⟩
    . obtain⟨a,b⟩:=ih (by lia)
      obtain⟨c,d⟩:=Aq a;exact⟨c,d.trans b⟩
def Dr.say {deep:Nat}{d:D}(h:Dr deep [] room bin d) (h1:deep<=8) (h2:room<=16) (h3:bin<=3):wz d=true:=by
 obtain⟨a,b⟩:=Ir h1 h.fm;have s:=h.sz;have n:=h.bn;unfold pZ at s;unfold yt at n;unfold wz pZ yt;rw[a,b];simp only[afC,abw,aci];lia
def Oe (h:ds.length<=n) (hf:∀d∈ds,Fj n d):Fj n (.tup ds):=by
 refine⟨h,?_⟩;clear h
 induction ds with
 |nil=>exact True.intro
 |cons d ds ih=>exact⟨hf d aal,ih fun e he=>hf e (aaj _ he)⟩
def BG {k:Nat}(hf:∀d∈ds,bV d<=k):bV (.tup ds)<=k+1:=by
 have:=C0 hf;show bF ds+1<=k+1;lia
structure Bs (d:D):Prop where
 ok:EH d=true
 fit:Fj 8 d
 dep:bV d<=6
 iT:Sane d
 w:wD d<=7200
def Of {d:D}(h:Dw 4 [] (rm 4) bin d) (hb:bin<=1):∃z r,d= .tup (.str z::r)/\z∈rC/\wz d=true:=by
 have hs:wz d=true:=h.dr.say (by lia) (by decide) (by lia);obtain⟨z,r,e,hz⟩:=N6 hs;exact⟨z,r,e,hz,hs⟩
def Og (h:Dw 4 [] (rm 4) bin (.tup (.str z::r))) (hb:bin<=1) (hz:z∈rC) (hn:inD (.str z) (PR.map D.str)=false):Bs (.tup (.str z::r)):=by
 have hs:wz (.tup (.str z::r))=true:=h.dr.say (by lia) (by decide) (by lia);refine⟨?_,h.dr.fit,by have:=h.dr.dep;lia,h.iT,by have:=h.w;have:rm 4=15:=(by decide);lia⟩;show(wz _ && inD (.str z) (YW.map D.str))=true;rw[hs,N7 z hz,hn];rfl
def Oh {d:D}(h:Dw 4 [] (rm 4) bin d) (hb:bin<=1):Bs (.tup [.str "next",d]):=by
 have sh:ff [] "next" [d]=true:=qb (by rw[show jN "next" =2 by decide];rfl) (by decide) (by decide) (by decide);have dr:=YV (n:=4) (room:=rm 4) (b:=bin) (bs:=[]) (z:="next") (r:=[d]) sh (by unfold dB;rw[show jh "next" =1 by decide];rfl) (by
  have ib:gX [] "next" [d]=[]:=by unfold gX;rw[if_neg (by decide)]
  rw[ib];exact h.dr) ⟨(by show 2<=8;lia),(by show 4<=8;lia),h.dr.fit,True.intro⟩ (by
   have:=h.dr.dep;show max 0 (max (bV d) 0)+1<=4+2;lia)
 rw[if_neg (by decide),aeF] at dr;have hs:wz (.tup [.str "next",d])=true:=dr.say (by lia) (by decide) (by lia);refine⟨?_,dr.fit,by have:=dr.dep;lia,⟨cZ (by decide +kernel),h.iT,True.intro⟩,?_⟩
 ·show(wz _ && inD (.str "next") (YW.map D.str))=true;rw[hs];decide
 ·have:=h.w;have:rm 4=15:=by decide
  show 42+2+(wD d+2+0)+4<=7200;lia
def dI (ao ak:FM):GS:=
 (aP (cu 4 (bu ak (cD (au 0) (aZ (eF (au 1)) (aZ (eF (eP cM aA)) (cD (eP dG (aa (eF (eP dO (aa (eC (.int 1)) (aa (eF (bu ao (cD (au 0) (aZ (eC (.int 4)) bO)))) aA)))) (aa (eC (.int 1)) aA))) (aZ (eC (.int 4)) bO)))))))
 (aP (iZ (qB (eF (eP xy (aa (cF 4 (eC (.int 0))) (aa (eF (eP cM (aa (eC (.str "yes")) (aa (eC (.str "no")) (aa (eC (.str "not")) (aa (eC (.str "both")) (aa (eC (.str "either")) aA))))))) aA))))) (cu 4 (eP cM (aa (eC (.str "next")) (aa (eF (au 4)) aA)))) cX)
 (j8 (eT (eM 2 hAppend (aa (eF (au 4)) aA))))))
def dJ (ao ak:FM):GS:=
 (j8 (eT (eM 6 hAppend (aa (eF (eP cM (aa (cF 2 (eF (bu ao (cD (au 0) (aZ (jQ 2) bO))))) (aa (eF (eP Pk (aa (eF (bu ao (cD (au 0) (aZ (eC (.int 3)) bO)))) (aa (eC (.int 0)) aA)))) aA)))) aA))))
def eV (ao ak:FM):GS:=
 (aP (cu 6 (eP dG aA))
 (aP (iF (bName 7) (mV (aa (eF (bu ao (cD (au 0) (aZ (eC (.int 5)) bO)))) aA)) (dJ ao ak))
 (j8 (eT (eM 5 hAppend (aa (eF (eP fU (aa (eF (au 6)) aA))) aA))))))
def as0 (ao ak:FM):GS:=
 (cu 2 (eP dG aA))
def as1 (ao ak:FM):GS:=
 (iF (bName 3) (mV (aa (eF (eP dO (aa (eC (.int 1)) (aa (eF (bu ao (cD (au 0) (aZ (eC (.int 4)) bO)))) aA)))) aA)) (dI ao ak))
def as2 (ao ak:FM):GS:=
 (cu 5 (eP dG aA))
def Y5 (ao ak:FM):GS:=
 (iF (bName 3) (mV (aa (eF (bu ao (cD (au 0) (aZ (eC (.int 5)) bO)))) aA)) (eV ao ak))
def PV (ao ak:FM):GS:=
 (iZ (uM (qB (xK Mq 5 (eF (eP dG aA)))) (qB (eF (eP ku (aa (eF (bu ao (cD (au 0) (aZ (eC (.int 2)) bO)))) (aa (eC (.int 0)) aA)))))) (aP (cu 8 (bu ao (cD (au 0) (aZ (jQ 5) bO))))
 (j8 (eT (eM 5 hAppend (aa (eF (eP dO (aa (eF (KC (cF 5 (eF (au 8))) (eF (eP Em (aa (eC (.int 1)) aA))))) (aa (cF 5 (eF (bu ao (cD (au 0) (aZ (jQ 5) bO))))) aA)))) aA))))) cX)
def W6 (ao ak:FM):GS:=
 (cG (eP fU (aa (eF (au 5)) aA)))
def dZ (ao ak:FM):GS:=aP (as0 ao ak) (aP (as1 ao ak) (aP (as2 ao ak) (aP (Y5 ao ak) (aP (PV ao ak) (W6 ao ak)))))
def W7 (ao ak:FM):dZ ao ak=aP (as0 ao ak) (aP (as1 ao ak) (aP (as2 ao ak) (aP (Y5 ao ak) (aP (PV ao ak) (W6 ao ak))))):=rfl
def anyF:FM:=bH 9 (dZ bW (gn 4))
def Oi:∀us r,anyF us=some r->bH 9 (dZ bW (gn 4)) us=some r:=fun _ _ h=>h
section
variable {f1 f3:FM}{T0 T1 T2:MO}{td:D}{L:List D}{v:Int}{x3 x4 x5 x6 x7 x8:Option U}{z:Str}{r:List D}{a' b':Int}
def Oj (z:Str):xy [.str z,.tup [.str "yes",.str "no",.str "not",.str "both",.str "either"]]=AAA (.bl (inD (.str z) (PR.map D.str))):=qN (.str z) PR
def Ol (h4:dP x4=false) (p1:f1 [.b T0,.t (.int 4)]=some (.t (.int v),[T1])) (p2:f3 [.b T1,.t td,.t (.tup []),.b (bg (1+v) 1),.t (.int 4)]=some (.t (.tup (.str z::r)),[T2,bg a' b'])) (hl:L.length<100000):
  dI f1 f3 [some (.b T0),AAA td,AAB L,x3,x4,x5,x6,x7,x8]=some (.nx [some (.b T2),AAA td,AAB (L++[if inD (.str z) (PR.map D.str)=true then .tup [.str "next",.tup (.str z::r)] else .tup (.str z::r)]),x3,AAA (if inD (.str z) (PR.map D.str)=true then .tup [.str "next",.tup (.str z::r)] else .tup (.str z::r)),x5,x6,x7,x8]):=by
 have i1:=Oj z;cases q:inD (.str z) (PR.map D.str) with
 |true=>
  rw[q] at i1;simp[dI,-bD,br,h4,p1,p2,jg,i1,pA,hl]
 |false=>
  rw[q] at i1;simp[dI,-bD,br,h4,p1,p2,jg,i1,pA,hl]
def Om {bn:List D}{b:D}{u:Int}(p1:f1 [.b T0,.t (.int (L.length:Int))]=some (.t (.int v),[T1])) (hb:d7 L v=some b) (p2:f1 [.b T1,.t (.int 3)]=some (.t (.int u),[T2])) (hl:bn.length<100000):
  dJ f1 f3 [some (.b T0),AAA td,AAB L,x3,x4,x5,AAB bn,x7,x8]=some (.nx [some (.b T2),AAA td,AAB L,x3,x4,x5,AAB (bn++[.tup [b,.bl (decide (0<u))]]),x7,x8]):=by
 simp[dJ,p1,hb,p2,pA,hl]
end
def Th (d:D):Prop:=∃b q,d= .tup [b,.bl q]/\Bs b
def Bn (m:Nat) (d:D):Prop:=∃l,d= .tup l/\l.length<=m/\∀t∈l,Th t
def W8 (hT:Fd n T) (hn:n+121*c<700000) (ht:Tb td):∃(L:List D) (T':MO) (x3 x4:Option U),loop (bName 3) (dI bW (gn 4)) (iX 0 c) [some (.b T),AAA td,AAB [],none,none,none,none,none,none]=some (.nx [some (.b T'),AAA td,AAB L,x3,x4,none,none,none,none])/\L.length=c/\(∀b∈L,Bs b)/\dP x3=false/\dP x4=false/\Fd (n+121*c) T':=by
 by_cases c0:c<90000
 ·obtain⟨S',e,L,T',x3,x4,rfl,hl,hb,i3,i4,hf⟩:=pW (bd:=bName 3) (body:=dI bW (gn 4)) (iX 0 c) (fun j S=>∃(L:List D) (T':MO) (x3 x4:Option U),S=[some (.b T'),AAA td,AAB L,x3,x4,none,none,none,none]/\L.length=j/\(∀b∈L,Bs b)/\dP x3=false/\dP x4=false/\Fd (n+121*j) T')
   [some (.b T),AAA td,AAB [],none,none,none,none,none,none] ⟨[],T,none,none,rfl,rfl,(by simp),rfl,rfl,hT⟩ (by
    rintro j d S hd ⟨L,T0,x3,x4,rfl,hl,hb,i3,i4,hf⟩;obtain⟨hj,rfl⟩:=uc hd;have:=adQ 121 (Nat.succ_le_of_lt hj);obtain⟨v,T1,p1,v0,v1,h1⟩:=cA (m:=4) hf (by lia) (by decide) (by decide);obtain⟨d,T2,a',bin,g1,g2,g3,g4,_⟩:=Lx 4 (by lia) 4 (by lia) T1 (n+121*j+1) td [] (1+v) 1 h1 (by rw[show rm 4=15 by decide];lia) ht (by simp only[adC];lia) (by simp);obtain⟨z,r,rfl,hz,hs⟩:=Of g2 g3;have g1:gn 4 [.b T1,.t td,.t (.tup []),.b (bg (1+v) 1),.t (.int 4)]=some (.t (.tup (.str z::r)),[T2,bg a' ((1-bin:Nat):Int)]):=g1;refine⟨[some (.b T0),AAA td,AAB L,AAC j,x4,none,none,none,none],_,by simp[bName,-bD,br,i3],Ol i4 p1 g1 (by lia),_,T2,_,_,rfl,by rw[aan,hl];rfl,?_,rfl,rfl,?_⟩
    ·intro b hbm;rcases aaG.mp hbm with q|q
     ·exact hb b q
     ·rw[aao] at q;rw[q];cases qq:inD (.str z) (PR.map D.str) with
      |true=>rw[if_pos rfl];exact Oh g2 g3
      |false=>rw[if_neg (by simp)];exact Og g2 g3 hz qq
    ·refine g4.mono ?_;rw[show rm 4=15 by decide];lia)
  have rl:(iX 0 c).length=c:=by unfold iX;rw[aah,ab6]
  rw[rl] at hl hf;exact⟨L,T',x3,x4,e,hl,hb,i3,i4,hf⟩
 ·lia
def W9 {L:List D}{x5 x7:Option U}(hT:Fd n T) (hn:n+2*c<700000) (hc:c<1000) (hl:0<L.length) (hl2:L.length<1000) (hb:∀b∈L,Bs b) (i7:dP x7=false):
  ∃(bn:List D) (T':MO) (PX:Option U),loop (bName 7) (dJ bW (gn 4)) (iX 0 c) [some (.b T),AAA td,AAB L,x3,x4,x5,AAB [],x7,x8]=some (.nx [some (.b T'),AAA td,AAB L,x3,x4,x5,AAB bn,PX,x8])/\bn.length=c/\(∀t∈bn,Th t)/\dP PX=false/\Fd (n+2*c) T':=by
 obtain⟨S',e,bn,T',PX,rfl,Y6,hbn,i7',hf⟩:=pW (bd:=bName 7) (body:=dJ bW (gn 4)) (iX 0 c) (fun j S=>∃(bn:List D) (T':MO) (x7:Option U),S=[some (.b T'),AAA td,AAB L,x3,x4,x5,AAB bn,x7,x8]/\bn.length=j/\(∀t∈bn,Th t)/\dP x7=false/\Fd (n+2*j) T')
  [some (.b T),AAA td,AAB L,x3,x4,x5,AAB [],x7,x8] ⟨[],T,x7,rfl,rfl,(by simp),i7,hT⟩ (by
   rintro j d S hd ⟨bn,T0,x7,rfl,Y6,hbn,i7,hf⟩;obtain⟨hj,rfl⟩:=uc hd;obtain⟨v,T1,p1,v0,v1,h1⟩:=cA (m:=(L.length:Int)) hf (by lia) (by lia) (by lia);obtain⟨b,a1,a2⟩:=kg (x:=.cJ) v0 v1;obtain⟨u,T2,p2,u0,u1,h2⟩:=cA (m:=3) h1 (by lia) (by decide) (by decide);refine⟨[some (.b T0),AAA td,AAB L,x3,x4,x5,AAB bn,AAC j,x8],_,by simp[bName,-bD,br,i7],Om p1 a1 p2 (by lia),_,T2,_,rfl,by rw[aan,Y6];rfl,?_,rfl,h2.mono (by lia)⟩;intro t Xa;rcases aaG.mp Xa with q|q
   ·exact hbn t q
   ·rw[aao] at q;exact⟨b,_,q,hb b a2⟩)
 have rl:(iX 0 c).length=c:=by unfold iX;rw[aah,ab6]
 rw[rl] at Y6 hf;exact⟨bn,T',PX,e,Y6,hbn,i7',hf⟩
section
variable {f1 f3:FM}{T0 T1 T2:MO}{td:D}{L st bn:List D}{v:Int}{x3 x4 x6 x7 PX x8:Option U}
def Oo (h6:dP x6=false) (p1:f1 [.b T0,.t (.int 5)]=some (.t (.int v),[T1])) (v0:0<=v) (v1:v<5)
  (e:loop (bName 7) (dJ f1 f3) (iX 0 v.toNat) [some (.b T1),AAA td,AAB L,x3,x4,AAB st,AAB [],x7,x8]=some (.nx [some (.b T2),AAA td,AAB L,x3,x4,AAB st,AAB bn,PX,x8])) (hl:st.length<100000):
  eV f1 f3 [some (.b T0),AAA td,AAB L,x3,x4,AAB st,x6,x7,x8]=some (.nx [some (.b T2),AAA td,AAB L,x3,x4,AAB (st++[.tup bn]),AAA (.lst bn),PX,x8]):=by
 have c1:v<1000000:=by lia
 have c2:-1000000<v:=by lia
 generalize hr:iX 0 v.toNat=R at *;simp[eV,-bD,br,h6,p1,c1,c2,hr,iF,e,pA,hl,fU]
end
def Xb {L:List D}(hT:Fd n T) (hn:n+9*c<600000) (hc:c<1000) (hl:0<L.length) (hl2:L.length<1000) (hb:∀b∈L,Bs b) (i3:dP x3=false):
  ∃(st:List D) (T':MO) (Ly x6 x7:Option U),loop (bName 3) (eV bW (gn 4)) (iX 0 c) [some (.b T),AAA td,AAB L,x3,x4,AAB [],none,none,x8]=some (.nx [some (.b T'),AAA td,AAB L,Ly,x4,AAB st,x6,x7,x8])/\st.length=c/\(∀t∈st,Bn 4 t)/\Fd (n+9*c) T':=by
 obtain⟨S',e,st,T',Ly,x6,x7,rfl,hsl,hst,i3',i6,i7,hf⟩:=pW (bd:=bName 3) (body:=eV bW (gn 4)) (iX 0 c) (fun j S=>∃(st:List D) (T':MO) (x3 x6 x7:Option U),S=[some (.b T'),AAA td,AAB L,x3,x4,AAB st,x6,x7,x8]/\st.length=j/\(∀t∈st,Bn 4 t)/\dP x3=false/\dP x6=false/\dP x7=false/\Fd (n+9*j) T')
  [some (.b T),AAA td,AAB L,x3,x4,AAB [],none,none,x8] ⟨[],T,x3,none,none,rfl,rfl,(by simp),i3,rfl,rfl,hT⟩ (by
   rintro j d S hd ⟨st,T0,x3,x6,x7,rfl,hsl,hst,i3,i6,i7,hf⟩;obtain⟨hj,rfl⟩:=uc hd;obtain⟨v,T1,p1,v0,v1,h1⟩:=cA (m:=5) hf (by lia) (by decide) (by decide);obtain⟨bn,T2,PX,e2,b1,b2,i7',h2⟩:=W9 (td:=td) (x3:=AAC j) (x4:=x4) (x5:=AAB st) (x7:=x7) (x8:=x8) (c:=v.toNat) h1 (by lia) (by lia) hl hl2 hb i7;refine⟨[some (.b T0),AAA td,AAB L,AAC j,x4,AAB st,x6,x7,x8],_,by simp[bName,-bD,br,i3],Oo i6 p1 v0 v1 e2 (by lia),_,T2,_,_,_,rfl,by rw[aan,hsl];rfl,?_,rfl,rfl,i7',h2.mono (by lia)⟩;intro t Xa;rcases aaG.mp Xa with q|q
   ·exact hst t q
   ·rw[aao] at q;exact⟨bn,q,by lia,b2⟩)
 have rl:(iX 0 c).length=c:=by unfold iX;rw[aah,ab6]
 rw[rl] at hsl hf;exact⟨st,T',Ly,x6,x7,e,hsl,hst,hf⟩
section
variable {f1 f3:FM}{T0 T1 T2 T3:MO}{td:D}{L st:List D}{v k u:Int}{x3 x4 x6 x7:Option U}{a b:List D}
def Lz (hd:bV (.lst st)<=40) (h:st=[]/\T1=T0\/st≠[]/\∃u,f1 [.b T0,.t (.int 2)]=some (.t (.int u),[T1])/\¬u=0):PV f1 f3 [some (.b T0),AAA td,AAB L,x3,x4,AAB st,x6,x7,none]=some (.nx [some (.b T1),AAA td,AAB L,x3,x4,AAB st,x6,x7,none]):=by
 rcases h with⟨rfl,rfl⟩|⟨hne,u,p1,hu⟩
 ·have q:iS (.lst []) (.lst [])=true:=rfl;simp[PV,xK,q,bV,bF]
 ·have q:iS (.lst st) (.lst [])=false:=by cases st with|nil=>exact absurd rfl hne|cons _ _=>rfl
  simp[PV,xK,q,hd,p1,hu]
def Oq (hd:bV (.lst st)<=40) (hne:st≠[]) (p1:f1 [.b T0,.t (.int 2)]=some (.t (.int 0),[T1])) (p2:f1 [.b T1,.t (.int (st.length:Int))]=some (.t (.int v),[T2])) (hv:d7 st v=some (.tup a)) (p3:f1 [.b T2,.t (.int (st.length:Int))]=some (.t (.int k),[T3])) (hk:d7 st k=some (.tup b)) (hl:a.length+b.length<=100000) (hs:st.length<100000):
  PV f1 f3 [some (.b T0),AAA td,AAB L,x3,x4,AAB st,x6,x7,none]=some (.nx [some (.b T3),AAA td,AAB L,x3,x4,AAB (st++[.tup (a.reverse++b)]),x6,x7,AAC v]):=by
 have q:iS (.lst st) (.lst [])=false:=by cases st with|nil=>exact absurd rfl hne|cons _ _=>rfl
 have hl':a.reverse.length+b.length<=100000:=by rw[ada];exact hl
 simp[PV,xK,q,hd,p1,p2,hv,p3,hk,xO,hl,hs,pA]
end
def Th.all {d:D}(h:Th d):Ll d=true/\Fj 8 d/\bV d<=7/\Sane d/\wD d<=7214:=by
 obtain⟨b,q,rfl,hb⟩:=h;refine⟨?_,⟨(by show 2<=8;lia),hb.fit,True.intro,True.intro⟩,?_,⟨hb.iT,True.intro,True.intro⟩,?_⟩
 ·show(true && EH b)=true;rw[hb.ok];rfl
 ·have:=hb.dep;show max (bV b) (max 0 0)+1<=7;lia
 ·have:=hb.w;show wD b+2+(6+2+0)+4<=7214;lia
theorem BH {c:Nat}:∀{ds:List D},(∀d∈ds,wD d<=c)->IS ds<=(c+2)*ds.length
 |[],_=>abH _
 |d::ds,h=>by
  have h1:=h d aal;have h2:=BH fun e he=>h e (aaj _ he);show wD d+2+IS ds<=(c+2)*(ds.length+1);rw[Nat.mul_succ];lia
def Bn.all {d:D}(h:Bn 8 d):allB Ll d=true/\Fj 8 d/\bV d<=8/\Sane d/\wD d<=57732:=by
 obtain⟨l,rfl,hl,ht⟩:=h;have a:=fun t h=>(ht t h).all;refine⟨ab2.mpr fun t h=>(a t h).1,Oe hl fun t h=>(a t h).2.1,BG fun t h=>(a t h).2.2.1,pT.of fun t h=>(a t h).2.2.2.1,?_⟩;have:=BH fun t h=>(a t h).2.2.2.2;have:=adQ (7214+2) hl;show IS l+4<=57732;lia
def Sn (d:D):Prop:=∃st,d= .tup st/\st.length<=5/\∀b∈st,Bn 8 b
def Bn.mono {m k:Nat}{d:D}(h:Bn m d) (l:m<=k):Bn k d:=by
 obtain⟨x,e,h1,h2⟩:=h;exact⟨x,e,by lia,h2⟩
def F8 {g:GD}{S':SS}{v:Int}(h:g S=some (.int v,S')) (v1:v<1000000) (v0:-1000000<v):mV (aa g aA) S=some (iX 0 v.toNat,S'):=by
 simp[h,v1,v0]
def Ot {f1 f3:FM}{T1:MO}{st:List D}{r:SS}(hS:W6 f1 f3 S=some (.rt (.t (.tup st)) (some (.b T1)::AAA td::r)))
  (h:dZ f1 f3 [some (.b T),AAA td,none,none,none,none,none,none,none]=W6 f1 f3 S):bH 9 (dZ f1 f3) [.b T,.t td]=some (.t (.tup st),[T1]):=by
 show(dZ f1 f3 [some (.b T),AAA td,none,none,none,none,none,none,none]).bind _=_;rw[h,hS];simp[aT]
def LA (h:Fd n T) (hn:n<500000) (ht:Tb td):∃d T',anyF [.b T,.t td]=some (.t d,[T'])/\Sn d/\Fd (n+600) T':=by
 obtain⟨v,T1,p1,v0,v1,h1⟩:=cA (m:=4) h (by lia) (by decide) (by decide);have hc:(1+v).toNat<=4:=by lia
 obtain⟨L,T2,x3,x4,e1,l1,l2,i3,i4,h2⟩:=W8 (td:=td) (c:=(1+v).toNat) h1 (by lia) ht;obtain⟨u,T3,p2,u0,u1,h3⟩:=cA (m:=5) h2 (by lia) (by decide) (by decide);obtain⟨st,T4,Ly,x6,x7,e3,s1,s2,h4⟩:=Xb (td:=td) (L:=L) (x3:=x3) (x4:=x4) (x8:=none) (c:=u.toNat) h3 (by lia) (by lia) (by lia) (by lia) l2 i3;have sd:bV (.lst st)<=40:=by
  have:bF st<=8:=C0 fun b hb=>((s2 b hb).mono (by lia)).all.2.2.1;show bF st+1<=40;lia
 have a4:∃(st':List D) (T5:MO) (x8:Option U),PV bW (gn 4) [some (.b T4),AAA td,AAB L,Ly,x4,AAB st,x6,x7,none]=some (.nx [some (.b T5),AAA td,AAB L,Ly,x4,AAB st',x6,x7,x8])/\st'.length<=5/\(∀b∈st',Bn 8 b)/\Fd (n+600) T5:=by
  by_cases c:st=[]
  ·exact⟨st,T4,none,Lz sd (.inl ⟨c,rfl⟩),by lia,fun b hb=>(s2 b hb).mono (by lia),h4.mono (by lia)⟩
  ·obtain⟨w,T5,p3,w0,w1,h5⟩:=cA (m:=2) h4 (by lia) (by decide) (by decide);by_cases cw:w=0
   ·subst cw;have sl:0<(st.length:Int):=by cases st with|nil=>exact absurd rfl c|cons _ _=>simp only[abn];lia
    obtain⟨x,T6,p4,y0,y1,h6⟩:=cA (m:=(st.length:Int)) h5 (by lia) sl (by lia);obtain⟨bx,a1,a2⟩:=kg (x:=.cJ) y0 y1;obtain⟨y,T7,p5,z0,z1,h7⟩:=cA (m:=(st.length:Int)) h6 (by lia) sl (by lia);obtain⟨by',b1,b2⟩:=kg (x:=.cJ) z0 z1;obtain⟨la,rfl,la1,la2⟩:=s2 bx a2;obtain⟨lb,rfl,lb1,lb2⟩:=s2 by' b2;refine⟨_,T7,_,Oq sd c p3 p4 a1 p5 b1 (by lia) (by lia),by rw[aan,abR];lia,?_,h7.mono (by lia)⟩;intro b hb;rcases aaG.mp hb with q|q
    ·exact(s2 b q).mono (by lia)
    ·rw[aao] at q;refine⟨_,q,by rw[aan,ada];lia,fun t Xa=>?_⟩;rcases aaG.mp Xa with q|q
     ·exact la2 t (afp.mp q)
     ·exact lb2 t q
   ·exact⟨st,T5,none,Lz sd (.inr ⟨c,w,p3,cw⟩),by lia,fun b hb=>(s2 b hb).mono (by lia),h5.mono (by lia)⟩
 obtain⟨st',T5,x8,e4,t1,t2,h5⟩:=a4;refine⟨.tup st',T5,?_,⟨st',rfl,t1,t2⟩,h5⟩;refine Ot (S:=[some (.b T5),AAA td,AAB L,Ly,x4,AAB st',x6,x7,x8]) (r:=[AAB L,Ly,x4,AAA (.lst st'),x6,x7,x8]) ?_ ?_
 ·simp[W6,fU]
 ·rw[W7];have e0:as0 bW (gn 4) [some (.b T),AAA td,none,none,none,none,none,none,none]=some (.nx [some (.b T),AAA td,AAB [],none,none,none,none,none,none]):=by simp[as0]
  have e1':as1 bW (gn 4) [some (.b T),AAA td,AAB [],none,none,none,none,none,none]=some (.nx [some (.b T2),AAA td,AAB L,x3,x4,none,none,none,none]):=by
   have er:=F8 (g:=eF (eP dO (aa (eC (.int 1)) (aa (eF (bu bW (cD (au 0) (aZ (eC (.int 4)) bO)))) aA)))) (S:=[some (.b T),AAA td,AAB [],none,none,none,none,none,none]) (S':=[some (.b T1),AAA td,AAB [],none,none,none,none,none,none]) (v:=1+v) (by generalize bW=f at *;simp[p1]) (by lia) (by lia);unfold as1;rw[iF,er,aad];exact e1
  have e2:as2 bW (gn 4) [some (.b T2),AAA td,AAB L,x3,x4,none,none,none,none]=some (.nx [some (.b T2),AAA td,AAB L,x3,x4,AAB [],none,none,none]):=by simp[as2]
  have e3':Y5 bW (gn 4) [some (.b T2),AAA td,AAB L,x3,x4,AAB [],none,none,none]=some (.nx [some (.b T4),AAA td,AAB L,Ly,x4,AAB st,x6,x7,none]):=by
   have er:=F8 (g:=eF (bu bW (cD (au 0) (aZ (eC (.int 5)) bO)))) (S:=[some (.b T2),AAA td,AAB L,x3,x4,AAB [],none,none,none]) (S':=[some (.b T3),AAA td,AAB L,x3,x4,AAB [],none,none,none]) (v:=u) (by generalize bW=f at *;simp[p2]) (by lia) (by lia);unfold Y5;rw[iF,er,aad];exact e3
  rw[d8,e0,aad];simp only;rw[d8,e1',aad];simp only;rw[d8,e2,aad];simp only;rw[d8,e3',aad];simp only;rw[d8,e4,aad]
end Sd
end
section
namespace Sp
open PySem PySem.Spec PyProof.Rows L2 Sw Ss Sd
noncomputable def ONE:BBB:=["not","next","always","some"]
noncomputable def TWO:BBB:=["both","either","till"]
inductive Ts (bs:BBB):D->Prop where
 |any:Ts bs (.tup [.str "any"])
 |name {a:Str}:nameB (.str a)=true->Ts bs (.tup [.str "name",.str a])
 |num {o:Str}{k:Int}:o∈yq->0<=k->k<=9->Ts bs (.tup [.str o,.int k])
 |var {o y:Str}:o∈yq->y∈bs->Ts bs (.tup [.str o,.str y])
inductive Sy:Nat->BBB->D->Prop where
 |leaf {n:Nat}{bs:BBB}{z:Str}:z="yes"\/z="no"->Sy (n+1) bs (.tup [.str z])
 |now {n:Nat}{bs:BBB}{t:D}:Ts bs t->Sy (n+1) bs (.tup [.str "now",t])
 |one {n:Nat}{bs:BBB}{z:Str}{p:D}:z∈ONE->Sy n bs p->Sy (n+1) bs (.tup [.str z,p])
 |two {n:Nat}{bs:BBB}{z:Str}{p q:D}:z∈TWO->Sy n bs p->Sy n bs q->Sy (n+1) bs (.tup [.str z,p,q])
 |PY {n:Nat}{bs:BBB}{k:Int}{p:D}:0<=k->k<=5->Sy n bs p->Sy (n+1) bs (.tup [.str "within",.int k,p])
 |bnd {n:Nat}{bs:BBB}{z a y:Str}{p:D}:z="each"\/z="one"->nameB (.str a)=true->nameB (.str y)=true->Sy n (bs++[y]) p->Sy (n+1) bs (.tup [.str z,.str a,.str y,p])
def F9 {x:D}{zs:BBB}(h:inD x (zs.map D.str)=true):∃z∈zs,x= .str z:=by
 unfold inD at h;rw[List.any_map,abI] at h;obtain⟨z,hz,e⟩:=h;exact⟨z,hz,u6 (show iS (.str z) x=true from e)⟩
def Ar {b:D}{m:Int}(h:pI b 0 m=true):∃k,b= .int k/\0<=k/\k<=m:=by
 cases b with
 |int k=>simp only[pI,abw,aci] at h;exact⟨k,rfl,h.1,h.2⟩
 |_=>cases h
def Ts.of {bs:BBB}{t:D}(h:C9 bs t=true):Ts bs t:=by
 unfold C9 at h;split at h
 ·rename_i a;have:iS (.str "any") a=true:=by cases a<;>simp[iS] at h ⊢;exact h.symm
  rw[u6 this];exact .any
 ·rename_i a b;split at h
  ·rename_i c;have:iS (.str "name") a=true:=by cases a<;>simp[iS] at c ⊢;exact c.symm
   rw[u6 this];obtain⟨y,rfl⟩:=pX h;exact .name h
  ·obtain⟨h1,h2⟩:=abP.mp h;obtain⟨o,ho,rfl⟩:=F9 h1;rcases Bool.or_eq_true_iff.mp h2 with q|q
   ·obtain⟨k,rfl,k0,k1⟩:=Ar q;exact .num ho k0 k1
   ·obtain⟨y,hy,rfl⟩:=F9 q;exact .var ho hy
 ·cases h
def LB {o:Str}(h:o∈yq):o≠"name"/\o≠"any":=by
 simp only[yq,aav,abG,acA] at h;rcases h with rfl|rfl|rfl<;>decide
theorem Sy.of:∀{n:Nat}{bs:BBB}{d:D},iB n bs d=true->Sy n bs d
 |0,_,_,h=>by cases h
 |n+1,bs,d,h=>by
  obtain⟨z,r,rfl,hs,hp⟩:=rX h;obtain⟨c,hh,hz⟩:=yr hs;unfold ff at hs;rw[if_pos c] at hs;simp only[rC,aav,abG,acA] at hz;have two:∀{k:Nat},jN z=(k:Int)+1->r.length=k:=fun e=>by lia
  have l0:r.length=0->r=[]:=List.eq_nil_of_length_eq_zero;have l1:r.length=1->∃a,r=[a]:=fun e=>by match r,e with|[a],_=>exact⟨a,rfl⟩
  have l2:r.length=2->∃a b,r=[a,b]:=fun e=>by match r,e with|[a,b],_=>exact⟨a,b,rfl⟩
  have l3:r.length=3->∃a b p,r=[a,b,p]:=fun e=>by match r,e with|[a,b,p],_=>exact⟨a,b,p,rfl⟩
  rcases hz with rfl|rfl|rfl|rfl|rfl|rfl|rfl|rfl|rfl|rfl|rfl|rfl|rfl
  ·rw[l0 (two (k:=0) (by decide))];exact .leaf (.inl rfl)
  ·rw[l0 (two (k:=0) (by decide))];exact .leaf (.inr rfl)
  ·obtain⟨a,rfl⟩:=l1 (two (k:=1) (by decide));exact .now (.of hs)
  ·obtain⟨a,rfl⟩:=l1 (two (k:=1) (by decide));exact .one (by decide) (Sy.of (hp a (by show a∈[a];simp)))
  ·obtain⟨a,b,rfl⟩:=l2 (two (k:=2) (by decide));exact .two (by decide) (Sy.of (hp a (by show a∈[a,b];simp))) (Sy.of (hp b (by show b∈[a,b];simp)))
  ·obtain⟨a,b,rfl⟩:=l2 (two (k:=2) (by decide));exact .two (by decide) (Sy.of (hp a (by show a∈[a,b];simp))) (Sy.of (hp b (by show b∈[a,b];simp)))
  ·obtain⟨a,rfl⟩:=l1 (two (k:=1) (by decide));exact .one (by decide) (Sy.of (hp a (by show a∈[a];simp)))
  ·obtain⟨a,b,rfl⟩:=l2 (two (k:=2) (by decide));exact .two (by decide) (Sy.of (hp a (by show a∈[a,b];simp))) (Sy.of (hp b (by show b∈[a,b];simp)))
  ·obtain⟨a,b,rfl⟩:=l2 (two (k:=2) (by decide));obtain⟨k,rfl,k0,k1⟩:=Ar (m:=5) hs;exact .PY k0 k1 (Sy.of (hp b (by show b∈[b];simp)))
  ·obtain⟨a,rfl⟩:=l1 (two (k:=1) (by decide));exact .one (by decide) (Sy.of (hp a (by show a∈[a];simp)))
  ·obtain⟨a,rfl⟩:=l1 (two (k:=1) (by decide));exact .one (by decide) (Sy.of (hp a (by show a∈[a];simp)))
  ·obtain⟨a,b,p,rfl⟩:=l3 (two (k:=3) (by decide));obtain⟨h1,h2⟩:=abP.mp (show(nameB a && nameB b)=true from hs);obtain⟨x,rfl⟩:=pX h1;obtain⟨y,rfl⟩:=pX h2;exact .bnd (.inl rfl) h1 h2 (Sy.of (hp p (by show p∈[p];simp)))
  ·obtain⟨a,b,p,rfl⟩:=l3 (two (k:=3) (by decide));obtain⟨h1,h2⟩:=abP.mp (show(nameB a && nameB b)=true from hs);obtain⟨x,rfl⟩:=pX h1;obtain⟨y,rfl⟩:=pX h2;exact .bnd (.inr rfl) h1 h2 (Sy.of (hp p (by show p∈[p];simp)))
def vg {z:Str}(h:z∈ONE):z="not"\/z="next"\/z="always"\/z="some":=by simpa[ONE] using h
def vh {z:Str}(h:z∈TWO):z="both"\/z="either"\/z="till":=by simpa[TWO] using h
end Sp
end
section
namespace Sp
open PySem PySem.Spec PyProof.Rows L2 Sw Ss
variable {c n k n2 k2:Nat}{a:D}
def Iu (h:WU ⟨#[c]⟩=true):c<16 ^ 8:=by
 obtain⟨i,hi⟩:=(PySem.StrLaws.found_iff Sw.WT ⟨#[c]⟩).mp h;have:=(PySem.StrLaws.subAt_one Sw.WT c i).mp hi;have k:∀c∈Sw.WT.cps.toList,c<16 ^ 8:=by decide +kernel
 exact k c (abK this)
def qO {z:Str}(h:nameB (.str z)=true):Sane (.str z)/\z.length<=8:=by
 unfold nameB at h;simp only[abw,aci,ab2] at h;exact⟨fun c hc=>Iu (h.2 _ (abt.mpr ⟨c,hc,rfl⟩)),h.1.2⟩
def Wd (z:Str):Prop:=Sane (.str z)/\z.length<=8
def uf (z:Str) (h:(z.cps.toList.all fun c=>decide (c<16 ^ 8))=true) (h8:z.length<=8):Wd z:=⟨fun c hc=>acd (ab2.mp h c hc),h8⟩
def good_str {z:Str}(h:Wd z):Good 82 0 (.str z):=⟨h.1,by show 10*z.length+2<=82;have:=h.2;lia,aam _⟩
def good_int {k:Int}(h0:0<=k) (h9:k<=9):Good 40 0 (.int k):=by
 refine⟨?_,aam _,aam _⟩;show k.natAbs<10 ^ 30;have:k.natAbs<=9:=by lia
 exact adi this (by decide)
def mx {a b d:Nat}(h:a<=c) (k:b<=d):max a b<=max c d:=Nat.max_le.mpr ⟨abl h (Nat.le_max_left ..),abl k (Nat.le_max_right ..)⟩
def Y7 {a:Nat}(h:a<=c):max a 0<=c:=Nat.max_le.mpr ⟨h,abH _⟩
def As (h:Good n k a):Good (n+6) (k+1) (.tup [a]):=⟨⟨h.iT,True.intro⟩,by show wD a+2+0+4<=_;have:=h.w;lia,ael (Y7 h.dep)⟩
def nD {b:D}(h:Good n k a) (g:Good n2 k2 b):Good (n+n2+8) (max k k2+1) (.tup [a,b]):=⟨⟨h.iT,g.iT,True.intro⟩,by show wD a+2+(wD b+2+0)+4<=_;have:=h.w;have:=g.w;lia,ael (mx h.dep (Y7 g.dep))⟩
def Au {b c:D}{n3 k3:Nat}(h:Good n k a) (g:Good n2 k2 b) (j:Good n3 k3 c):Good (n+n2+n3+10) (max k (max k2 k3)+1) (.tup [a,b,c]):=
 ⟨⟨h.iT,g.iT,j.iT,True.intro⟩,by show wD a+2+(wD b+2+(wD c+2+0))+4<=_;have:=h.w;have:=g.w;have:=j.w;lia,ael (mx h.dep (mx g.dep (Y7 j.dep)))⟩
def Iv {b c d:D}{n3 k3 n4 k4:Nat}(h:Good n k a) (g:Good n2 k2 b) (j:Good n3 k3 c) (l:Good n4 k4 d):Good (n+n2+n3+n4+12) (max k (max k2 (max k3 k4))+1) (.tup [a,b,c,d]):=
 ⟨⟨h.iT,g.iT,j.iT,l.iT,True.intro⟩,by show wD a+2+(wD b+2+(wD c+2+(wD d+2+0)))+4<=_;have:=h.w;have:=g.w;have:=j.w;have:=l.w;lia,ael (mx h.dep (mx g.dep (mx j.dep (Y7 l.dep))))⟩
def LC {o:Str}(h:o∈yq):Wd o:=by
 simp only[yq,aav,abG,acA] at h;rcases h with rfl|rfl|rfl<;>exact uf _ (by decide +kernel) (by decide)
def Ts.good {bs:BBB}{t:D}(h:Ts bs t) (hw:∀y∈bs,Wd y):Good 172 1 t:=by
 cases h with
 |any=>exact(As (good_str (uf "any" (by decide +kernel) (by decide)))).mono (by decide) (by decide)
 |name h=>exact(nD (good_str (uf "name" (by decide +kernel) (by decide))) (good_str (qO h))).mono (by decide) (by decide)
 |num a b c=>exact(nD (good_str (LC a)) (good_int b c)).mono (by decide) (by decide)
 |var a b=>exact(nD (good_str (LC a)) (good_str (hw _ b))).mono (by decide) (by decide)
def Sy.good {n:Nat}{bs:BBB}{d:D}(h:Sy n bs d) (hw:∀y∈bs,Wd y):Good (400*2 ^ n-300) (n+1) d:=by
 have pw:∀n:Nat,1<=2 ^ n:=fun n=>adY
 induction h with
 |@leaf n bs z h=>have:=pw n;exact(As (good_str (by rcases h with rfl|rfl<;>exact uf _ (by decide +kernel) (by decide)))).mono (by rw[acV];lia) (by lia)
 |@now n bs t h=>have:=pw n;exact(nD (good_str (uf "now" (by decide +kernel) (by decide))) (h.good hw)).mono (by rw[acV];lia) (by lia)
 |@one n bs z p hz _ ih=>have:=pw n;exact(nD (good_str (by rcases vg hz with rfl|rfl|rfl|rfl<;>exact uf _ (by decide +kernel) (by decide))) (ih hw)).mono (by rw[acV];lia) (by lia)
 |@two n bs z p q hz _ _ i1 i2=>have:=pw n;exact(Au (good_str (by rcases vh hz with rfl|rfl|rfl<;>exact uf _ (by decide +kernel) (by decide))) (i1 hw) (i2 hw)).mono (by rw[acV];lia) (by lia)
 |@PY n bs k p a b _ ih=>have:=pw n;exact(Au (good_str (uf "within" (by decide +kernel) (by decide))) (good_int a (by lia)) (ih hw)).mono (by rw[acV];lia) (by lia)
 |@bnd n bs z a y p hz ha hb _ ih=>
  have:=pw n;exact(Iv (good_str (by rcases hz with rfl|rfl<;>exact uf _ (by decide +kernel) (by decide))) (good_str (qO ha)) (good_str (qO hb)) (ih fun w hw'=>by
   rcases aaG.mp hw' with q|q
   ·exact hw w q
   ·rw[aao.mp q];exact qO hb)).mono (by rw[acV];lia) (by lia)
end Sp
end
section
namespace T5
open PySem PySem.Spec PyProof.Rows L2 Sw Ss Sd Sp
variable {a l k:Bu}{x y r:List Bu}{bs bs' acc o R o':List D}{C c:Addr}{q:Bool}{n N:Nat}{kvs:List (Key×D)}{ks ms:BBJ}{g w:GS}{S:SS}{x3 x4 s0 x5 s1 s2 s3 s5 x6 x7 x8:Option U}{d1 d2 row td:D}{G:GD}{gi:GI}{bl:List Bool}{u4 u2 u3:U}{A:AAJ}{L:List (List (Str×Int))}{T:MO}
mutual
noncomputable def pl:D->Bool
 |.int _=>true
 |.str _=>true
 |.tup ds=>Mw ds
 |_=>false
noncomputable def Mw:List D->Bool
 |[]=>true
 |d::ds=>pl d && Mw ds
end
mutual
theorem PZ:∀d:D,pl d=true->nf d=d
 |.int _,_=>rfl
 |.str _,_=>rfl
 |.tup ds,h=>by show D.tup (O5 ds)=_;rw[LD ds h]
 |.cJ,h=>by cases h
 |.bl _,h=>by cases h
 |.lst _,h=>by cases h
theorem LD:∀ds:List D,Mw ds=true->O5 ds=ds
 |[],_=>rfl
 |d::ds,h=>by
  obtain⟨h1,h2⟩:=abP.mp (show(pl d && Mw ds)=true from h);show nf d::O5 ds=_;rw[PZ d h1,LD ds h2]
end
mutual
theorem P0:∀(d:D) (n:Nat),pl d=true->bV d<=n->gZ n d=true
 |.int _,n,_,_=>by cases n<;>rfl
 |.str _,n,_,_=>by cases n<;>rfl
 |.tup ds,0,h,hd=>absurd (show bF ds+1<=0 from hd) (by lia)
 |.tup ds,n+1,h,hd=>LF ds n h (by have:bF ds+1<=n+1:=hd;lia)
 |.cJ,_,h,_=>by cases h
 |.bl _,_,h,_=>by cases h
 |.lst _,_,h,_=>by cases h
theorem LF:∀(ds:List D) (n:Nat),Mw ds=true->bF ds<=n->ds.all (gZ n)=true
 |[],_,_,_=>rfl
 |d::ds,n,h,hd=>by
  obtain⟨h1,h2⟩:=abP.mp (show(pl d && Mw ds)=true from h);have:max (bV d) (bF ds)<=n:=hd;rw[acW,P0 d n h1 (by lia),LF ds n h2 (by lia)];rfl
end
mutual
theorem P1:∀a b:D,pl a=true->pl b=true->iS a b=true->a=b
 |.int x,b,_,hb,h=>by
  cases b with
  |int y=>rw[eq_of_beq (show(x == y)=true from h)]
  |_=>first|(cases h;done)|(cases hb;done)
 |.str x,b,_,hb,h=>by
  cases b with
  |str y=>rw[eq_of_beq (show(x == y)=true from h)]
  |_=>first|(cases h;done)|(cases hb;done)
 |.tup xs,b,ha,hb,h=>by
  cases b with
  |tup ys=>rw[LG xs ys ha hb h]
  |_=>first|(cases h;done)|(cases hb;done)
 |.cJ,_,h,_,_=>by cases h
 |.bl _,_,h,_,_=>by cases h
 |.lst _,_,h,_,_=>by cases h
theorem LG:∀a b:List D,Mw a=true->Mw b=true->pN a b=true->a=b
 |[],[],_,_,_=>rfl
 |[],_::_,_,_,h=>by cases h
 |_::_,[],_,_,h=>by cases h
 |x::xs,y::ys,ha,hb,h=>by
  obtain⟨a1,a2⟩:=abP.mp (show(pl x && Mw xs)=true from ha);obtain⟨b1,b2⟩:=abP.mp (show(pl y && Mw ys)=true from hb);obtain⟨h1,h2⟩:=abP.mp (show(iS x y && pN xs ys)=true from h);rw[P1 x y a1 b1 h1,LG xs ys a2 b2 h2]
end
def Sk {a b:D}(ha:pl a=true) (hb:pl b=true):iS a b=decide (a=b):=by
 by_cases h:a=b
 ·subst h;rw[mZ];simp
 ·rw[abU h];cases q:iS a b with
  |false=>rfl
  |true=>exact absurd (P1 a b ha hb q) h
structure Bc (b:D):Prop where
 p:pl b=true
 d:bV b<=8
 t:∃ds,b= .tup ds
def Bc.key {b:D}(h:Bc b):xC b=some b:=by
 obtain⟨ds,rfl⟩:=h.t;show(if gZ 8 (.tup ds)=true then some (nf (.tup ds)) else none)=_;rw[if_pos (P0 _ 8 h.p h.d),PZ _ h.p]
noncomputable abbrev Tg:=D×Bool
noncomputable def d9 (p:Tg):D:=.tup [p.1,.bl p.2]
def Xc {p q:Tg}(hp:Bc p.1) (hq:Bc q.1):iS (d9 p) (d9 q)=decide (p=q):=by
 obtain⟨a,x⟩:=p;obtain⟨b,y⟩:=q;show(iS a b && ((x == y) && true))=_;rw[Sk hp.p hq.p];by_cases h:a=b<;>by_cases k:x=y<;>simp[h,k]
def Dn {p:Tg}{l:List Tg}(hp:Bc p.1) (hl:∀q∈l,Bc q.1):inD (d9 p) (l.map d9)=decide (p∈l):=by
 unfold inD;rw[List.any_map];by_cases h:p∈l
 ·rw[ab8 h,abI];exact⟨p,h,mZ _⟩
 ·rw[abU h,ad7];intro q hq e;have e:iS (d9 q) (d9 p)=true:=e;rw[Xc (hl q hq) hp] at e;exact h (acd e▸hq)
abbrev Bu:=List Tg
noncomputable def cL (l:Bu):Bool:=l.any fun p=>decide ((p.1,!p.2)∈l)
noncomputable def fC (a b:Bu):Bool:=a.all fun p=>decide (p∈b)
def vX (x y:List Bu):Bool:=x.all fun l=>cL l || y.any fun k=>fC k l
def gq {b:Bu}:fC a b=true↔∀p∈a,p∈b:=by unfold fC;simp
def kK :cL l=true↔∃b,(b,true)∈l/\(b,false)∈l:=by
 unfold cL;rw[abI];constructor
 ·rintro⟨⟨b,q⟩,h1,h2⟩;have h2:=acd h2;cases q
  ·exact⟨b,h2,h1⟩
  ·exact⟨b,h1,h2⟩
 ·rintro⟨b,h1,h2⟩;exact⟨(b,true),h1,ab8 h2⟩
def yC {b:Bu}(h:fC a b=true) (hv:cL a=true):cL b=true:=by
 obtain⟨c,h1,h2⟩:=kK.mp hv;exact kK.mpr ⟨c,gq.mp h _ h1,gq.mp h _ h2⟩
def ji {b c:Bu}(h:fC a b=true) (k:fC b c=true):fC a c=true:=gq.mpr fun p hp=>gq.mp k p (gq.mp h p hp)
def wL :vX x y=true↔∀l∈x,cL l=false->∃k∈y,fC k l=true:=by
 unfold vX;rw[ab2];constructor
 ·intro h l hl hv;have:=h l hl;rw[hv,ae1,abI] at this;exact this
 ·intro h l hl;cases hv:cL l with
  |true=>rfl
  |false=>rw[ae1,abI];exact h l hl hv
structure Tr (x r:List Bu):Prop where
 from_:∀k∈r,cL k=false/\∃l∈x,fC k l=true/\fC l k=true
 all:∀l∈x,cL l=false->∃k∈r,fC k l=true
def Tr.sh {s:List Bu}(h:Tr x r) (k:Tr y s):vX r s=vX x y:=by
 have:vX r s=true↔vX x y=true:=by
  rw[wL,wL];constructor
  ·intro q l hl hv;obtain⟨a,ha,h1⟩:=h.all l hl hv;obtain⟨b,hb,h2⟩:=q a ha (h.from_ a ha).1;obtain⟨_,c,hc,_,h3⟩:=k.from_ b hb;exact⟨c,hc,ji h3 (ji h2 h1)⟩
  ·intro q a ha hv;obtain⟨_,l,hl,h1,h2⟩:=h.from_ a ha;have hvl:cL l=false:=by
    cases e:cL l with
    |false=>rfl
    |true=>rw[yC h2 e] at hv;cases hv
   obtain⟨c,hc,h3⟩:=q l hl hvl;have hvc:cL c=false:=by
    cases e:cL c with
    |false=>rfl
    |true=>rw[yC h3 e] at hvl;cases hvl
   obtain⟨b,hb,h4⟩:=k.all c hc hvc;exact⟨b,hb,ji h4 (ji h3 h2)⟩
 cases e1:vX r s<;>cases e2:vX x y
 ·rfl
 ·exact absurd (this.mpr e2) (by rw[e1];simp)
 ·exact absurd (this.mp e1) (by rw[e2];simp)
 ·rfl
noncomputable def ix (bs:List D) (p:Tg):Nat:=2*bs.idxOf p.1+(if p.2 then 0 else 1)
noncomputable def LH:Nat->Nat
 |0=>0
 |n+1=>LH n ||| 2 ^ (2*n)
def rY (bs:List D) (l:Bu):Nat:=l.foldl (fun m p=>m ||| 2 ^ ix bs p) 0
theorem Ga (bs:List D) (k:Nat):∀(l:Bu) (m:Nat),(l.foldl (fun m p=>m ||| 2 ^ ix bs p) m).testBit k=(m.testBit k || l.any fun p=>decide (ix bs p=k))
 |[],m=>by simp
 |p::l,m=>by
  rw[aeH,Ga bs k l,Nat.testBit_or,Nat.testBit_two_pow,acX,Bool.or_assoc]
def BI (bs:List D) (l:Bu) (k:Nat):(rY bs l).testBit k=l.any fun p=>decide (ix bs p=k):=by
 unfold rY;rw[Ga];simp
theorem Gb:∀(n k:Nat),(LH n).testBit k=decide (k % 2=0/\k / 2<n)
 |0,k=>by simp[LH]
 |n+1,k=>by
  show(LH n ||| 2 ^ (2*n)).testBit k=_;rw[Nat.testBit_or,Gb n k,Nat.testBit_two_pow];by_cases h:2*n=k
  ·subst h;simp
  ·rw[abU h,afA];by_cases q:k % 2=0<;>simp[q]
   lia
def Ge {a b:D}(ha:a∈bs) (hb:b∈bs) (h:bs.idxOf a=bs.idxOf b):a=b:=by
 have h1:=List.getElem_idxOf (adk ha);have h2:=List.getElem_idxOf (adk hb);rw[<-h1,<-h2]
 congr 1
def Sl {p q:Tg}(hp:p.1∈bs) (hq:q.1∈bs) (h:ix bs p=ix bs q):p=q:=by
 obtain⟨a,x⟩:=p;obtain⟨b,y⟩:=q;have hp:a∈bs:=hp;have hq:b∈bs:=hq;have h:2*bs.idxOf a+(if x=true then 0 else 1)=2*bs.idxOf b+(if y=true then 0 else 1):=h;have:x=y:=by
  cases x<;>cases y
  ·rfl
  ·simp at h;lia
  ·simp at h;lia
  ·rfl
 subst this;have:bs.idxOf a=bs.idxOf b:=by lia
 rw[Ge hp hq this]
def BJ (hl:∀p∈l,p.1∈bs){p:Tg}(hp:p.1∈bs):(rY bs l).testBit (ix bs p)=decide (p∈l):=by
 rw[BI];by_cases h:p∈l
 ·rw[ab8 h,abI];exact⟨p,h,by simp⟩
 ·rw[abU h,ad7];intro q hq e;exact h (Sl (hl q hq) hp (acd e)▸hq)
def qP {b:Bu}(ha:∀p∈a,p.1∈bs) (hb:∀p∈b,p.1∈bs):(rY bs a &&& rY bs b=rY bs a)↔fC a b=true:=by
 rw[gq];constructor
 ·intro h p hp;have e:(rY bs a &&& rY bs b).testBit (ix bs p)=(rY bs a).testBit (ix bs p):=by rw[h]
  rw[aeI,BJ ha (ha p hp),BJ hb (ha p hp),ab8 hp] at e
  simpa using e
 ·intro h;apply Nat.eq_of_testBit_eq;intro k;rw[aeI,BI,BI];cases e:a.any fun p=>decide (ix bs p=k) with
  |false=>rfl
  |true=>
   obtain⟨p,hp,q⟩:=abI.mp e;rw[afC,abI];exact⟨p,h p hp,q⟩
def Gf (hl:∀p∈l,p.1∈bs):(rY bs l &&& rY bs l / 2 &&& LH bs.length≠0)↔cL l=true:=by
 rw[kK];have bit:∀k,(rY bs l &&& rY bs l / 2 &&& LH bs.length).testBit k=(((rY bs l).testBit k && (rY bs l).testBit (k+1)) && decide (k % 2=0/\k / 2<bs.length)):=fun k=>by
  rw[aeI,aeI,Gb,Nat.testBit_div_two]
 constructor
 ·intro h;obtain⟨k,hk⟩:=Nat.exists_testBit_of_ne_zero h;rw[bit] at hk;obtain⟨h1,h2⟩:=abP.mp hk;obtain⟨h3,h4⟩:=abP.mp h1;have h2:=acd h2;rw[BI,abI] at h3 h4;obtain⟨⟨b,x⟩,hp,e1⟩:=h3;obtain⟨⟨c,y⟩,hq,e2⟩:=h4;have e1:=acd e1;have e2:=acd e2;unfold ix at e1 e2;dsimp only at e1 e2;have hx:x=true:=by
   cases x with
   |true=>rfl
   |false=>simp at e1;lia
  have hy:y=false:=by
   cases y with
   |false=>rfl
   |true=>simp at e2;lia
  subst hx;subst hy;simp at e1 e2;have:bs.idxOf b=bs.idxOf c:=by lia
  have:=Ge (hl _ hp) (hl _ hq) this;subst this;exact⟨b,hp,hq⟩
 ·rintro⟨b,h1,h2⟩ h;have hb:=hl _ h1;have e:=bit (ix bs (b,true));rw[h,Nat.zero_testBit,BJ (p:=(b,true)) hl hb,ab8 h1] at e;have e2:ix bs (b,true)+1=ix bs (b,false):=by simp[ix]
  have hl2:bs.idxOf b<bs.length:=adk hb;rw[e2,BJ (p:=(b,false)) hl hb,ab8 h2] at e;have:ix bs (b,true) % 2=0/\ix bs (b,true) / 2<bs.length:=by
   simp only[ix,if_true];lia
  rw[ab8 this] at e;cases e
def Xd (aY:Addr):GS:=
 (iZ (qB (Ii true aY 0 "numbers" 4 (eF (au 1)))) (aP (K7 aY 0 "numbers" 4 (eF (au 1)) (FQ aY 0 "basics" 3))
 (aP (K5 aY 0 "trues" (eF (eP KZ (aa (C4 aY 0 "trues") (aa (eF (eP K0 (aa (eC (.int 1)) (aa (eF (eP tG (aa (eC (.int 2)) (aa (FQ aY 0 "basics" 3) aA)))) aA)))) aA)))))
 (j8 (eT (K8 aY 0 "basics" 3 hAppend (aa (eF (au 1)) aA)))))) cX)
def Y8 (aY:Addr):GS:=
 (cu 5 (eP tG (aa (eC (.int 2)) (aa (K6 aY 0 "numbers" 4 (eF (au 1))) aA))))
def Uj (aY:Addr):GS:=
 (cG (eP K0 (aa (eC (.int 1)) (aa (eF (Kg (qB (eF (au 2))) (au 5) (eP dO (aa (eF (au 5)) (aa (eC (.int 1)) aA))))) aA))))
def gJ (aY:Addr):GS:=aP (Xd aY) (aP (Y8 aY) (Uj aY))
def mo_eq (aY:Addr):gJ aY=aP (Xd aY) (aP (Y8 aY) (Uj aY)):=rfl
def n9 (C c d:Addr) (n:Nat):MO:=.DO C [("basics",.inr c),("numbers",.inr d),("trues",.inl (.int (LH n:Nat)))]
noncomputable def iU:Nat->List D->List (D×D)
 |_,[]=>[]
 |k,b::l=>(b,.int (k:Nat))::iU (k+1) l
noncomputable def add (bs:List D) (b:D):List D:=if b∈bs then bs else bs++[b]
theorem qQ (b:D):∀(k:Nat) (bs:List D),bT (iU k bs) b=if b∈bs then some (.int ((k+bs.idxOf b:Nat):Int)) else none
 |_,[]=>rfl
 |k,a::bs=>by
  have ih:=qQ b (k+1) bs;unfold bT at ih ⊢;unfold iU;rw[abY,List.idxOf_cons];by_cases h:a=b
  ·subst h;simp
  ·rw[abU h,ih];have h':¬b=a:=fun e=>h e.symm;have h2:(a == b)=false:=by simpa using h
   simp only[aav,h',false_or,h2,cond_false];split
   ·congr 3;lia
   ·rfl
theorem Dp (b:D):∀(k:Nat) (bs:List D),iU k (bs++[b])=iU k bs++[(b,.int ((k+bs.length:Nat):Int))]
 |k,[]=>rfl
 |k,a::bs=>by
  show(a,D.int (k:Nat))::iU (k+1) (bs++[b])=(a,D.int (k:Nat))::(iU (k+1) bs++_);rw[Dp b (k+1) bs,abn,show k+1+bs.length=k+(bs.length+1) by lia]
def LI {b:D}{k:Nat}{v:D}(h:b∉bs):putD (iU k bs) b v=iU k bs++[(b,v)]:=by
 unfold putD;rw[if_neg];intro e;rw[abI] at e;obtain⟨x,hx,e⟩:=e;have e:=acd e;have:=qQ b k bs;rw[if_neg h] at this;unfold bT at this;rw[Option.map_eq_none_iff,aeW] at this;exact this x hx (ab8 e)
theorem Dq:∀(k:Nat) (bs:List D),(iU k bs).length=bs.length
 |_,[]=>rfl
 |k,_::bs=>by show(iU (k+1) bs).length+1=bs.length+1;rw[Dq]
section
variable {x y z:D ⊕ Addr}
@[simp] theorem ae4:List.lookup ("basics":Str) [("basics",x),("numbers",y),("trues",z)]=some x:=by rfl
@[simp] theorem ae5:List.lookup ("numbers":Str) [("basics",x),("numbers",y),("trues",z)]=some y:=by rfl
@[simp] theorem ae6:List.lookup ("trues":Str) [("basics",x),("numbers",y),("trues",z)]=some z:=by rfl
@[simp] theorem acY:List.lookup ("of_thing":Str) [(("basics":Str),x),(("numbers":Str),y),(("trues":Str),z)]=none:=by rfl
@[simp] theorem acZ:List.lookup ("of_bunch":Str) [(("basics":Str),x),(("numbers":Str),y),(("trues":Str),z)]=none:=by rfl
@[simp] theorem ac0:List.lookup ("of_stand":Str) [(("basics":Str),x),(("numbers":Str),y),(("trues":Str),z)]=none:=by rfl
@[simp] theorem ac1:List.lookup ("trim":Str) [(("basics":Str),x),(("numbers":Str),y),(("trues":Str),z)]=none:=by rfl
@[simp] theorem ac2:List.lookup ("is_void":Str) [(("basics":Str),x),(("numbers":Str),y),(("trues":Str),z)]=none:=by rfl
@[simp] theorem ac3 {w:D ⊕ Addr}:C3 "trues" w [("basics",x),("numbers",y),("trues",z)]=[(("basics":Str),x),(("numbers":Str),y),(("trues":Str),w)]:=by rfl
end
def P4 (C:Addr):FM:=bH 6 (gJ C)
def Sm (C:Addr):∀us r,P4 C us=some r->bH 6 (gJ C) us=some r:=fun _ _ h=>h
def P5 (C c d:Addr) (bs:List D):List MO:=[n9 C c d bs.length,.lat c bs,.lK d (iU 0 bs)]
abbrev mS (C c d:Addr) (bs:List D) (b:D) (q:Bool) (x:Option U):SS:=[some (.b (n9 C c d bs.length)),AAA b,AAA (.bl q),some (.b (.lat c bs)),some (.b (.lK d (iU 0 bs))),x]
section
variable {C c d:Addr}{bs:List D}{b:D}{q:Bool}
def abA (hb:Bc b) (hl:bs.length<10000):Xd C (mS C c d bs b q none)=some (.nx (mS C c d (add bs b) b q none)):=by
 have lk:=qQ b 0 bs;by_cases h:b∈bs
 ·rw[if_pos h] at lk;rw[show add bs b=bs from if_pos h];simp[Xd,n9,Ii,Bv,j9,vW,hb.key,lk]
 ·rw[if_neg h] at lk;rw[show add bs b=bs++[b] from if_neg h];have a1:(2:Int)*(bs.length:Nat)<=100000:=by lia
  have a3:(0:Int)<=2*(bs.length:Nat):=by lia
  have a5:((2:Int)*(bs.length:Nat)).toNat=2*bs.length:=by lia
  have nl:=Dq 0 bs;have pt:=fun v=>LI (k:=0) (v:=v) h;have hl':bs.length<100000:=by lia
  have p0:(0:Int)<=2 ^ (2*bs.length):=Int.pow_nonneg (by lia);have p1:((2:Int) ^ (2*bs.length)).toNat=2 ^ (2*bs.length):=by
   have:((2:Int) ^ (2*bs.length))=((2 ^ (2*bs.length):Nat):Int):=by simp
   rw[this,afb]
  simp[Xd,n9,Ii,Bv,j9,vW,FP,FH,WQ,hb.key,lk,K7,WR,K5,C4,FQ,K8,K0,KZ,yX,a1,a3,a5,nl,pt,p0,p1,hl',Dp,LH,hAppend]
def abB (hb:Bc b) (h:b∈bs):Y8 C (mS C c d bs b q none)=some (.nx (mS C c d bs b q (AAC (2*(bs.idxOf b:Nat))))):=by
 have lk:=qQ b 0 bs;rw[if_pos h,aeF] at lk;simp[-bD,br,Y8,n9,K6,Bv,j9,vW,hb.key,lk]
def abC {i:Nat}(hl:i<20000):Uj C (mS C c d bs b q (AAC (2*(i:Nat))))=some (.rt (.t (.int ((2 ^ (2*i+if q then 0 else 1):Nat):Int))) (mS C c d bs b q (AAC (2*(i:Nat))))):=by
 have a1:(2:Int)*(i:Nat)<=100000:=by lia
 have a2:(2:Int)*(i:Nat)+1<=100000:=by lia
 have a3:(0:Int)<=2*(i:Nat):=by lia
 have a4:(0:Int)<=2*(i:Nat)+1:=by lia
 have a5:((2:Int)*(i:Nat)).toNat=2*i:=by lia
 have a6:((2:Int)*(i:Nat)+1).toNat=2*i+1:=by lia
 cases q<;>simp[Uj,K0,yX,a1,a2,a3,a4,a5,a6]
def Xe (hb:Bc b) (hl:bs.length<10000):
  P4 C [.b (n9 C c d bs.length),.t b,.t (.bl q),.b (.lat c bs),.b (.lK d (iU 0 bs))]=some (.t (.int ((2 ^ ix (add bs b) (b,q):Nat):Int)),P5 C c d (add bs b)):=by
 have hm:b∈add bs b:=by unfold add;split<;>simp[*]
 have hi:(add bs b).idxOf b<(add bs b).length:=adk hm;have ha:(add bs b).length<=bs.length+1:=by unfold add;split<;>simp
 show(gJ C (mS C c d bs b q none)).bind _=_;rw[mo_eq,aP,abA hb hl];show(aP _ _ _).bind _=_;rw[aP,abB hb hm];show(Uj C _).bind _=_;rw[abC (by lia)];rfl
end
def eY (jR:FM) (aY:Addr):GS:=
 (cu 4 (eP KZ (aa (eF (au 4)) (aa (eF (jf aY "of_thing" 0 jR (aZ (cF 5 (eC (.int 0))) (aZ (cF 5 (eC (.int 1))) bO)) [2,3])) aA))))
def jj (jR:FM) (aY:Addr):GS:=
 (aP (cu 4 (eT (eC (.int 0))))
 (aP (iF (bName 5) (iA (eF (au 1))) (eY jR aY))
 (cG (au 4))))
section
variable {C c d:Addr}{S:SS}{n:Nat}{s0 s1:Option U}
def IV (c d:Addr) (n:Nat):List (Str×(D ⊕ Addr)):=[("basics",.inr c),("numbers",.inr d),("trues",.inl (.int (LH n:Nat)))]
def Ou:j9 C (some (.b (n9 C c d n))::S) 0=some (IV c d n):=by simp[j9,n9,IV]
def abD:j9 C (s0::some (.b (n9 C c d n))::S) 1=some (IV c d n):=by simp[j9,n9,IV]
def abE:j9 C (s0::s1::some (.m (n9 C c d n))::S) 2=some (IV c d n):=by simp[j9,n9,IV]
end
def adds (bs:List D) (l:Bu):List D:=l.foldl (fun bs p=>add bs p.1) bs
def So (C:Addr):FM:=bH 6 (jj (P4 C) C)
def Su (C:Addr):∀us r,So C us=some r->bH 6 (jj (P4 C) C) us=some r:=fun _ _ h=>h
def Ov {d:Addr}{b t:D}{m:Nat}(hb:Bc b) (hl:bs.length<10000):
  eY (P4 C) C [some (.b (n9 C c d bs.length)),AAA t,some (.b (.lat c bs)),some (.b (.lK d (iU 0 bs))),AAC (m:Nat),AAA (d9 (b,q))]
   = some (.nx [some (.b (n9 C c d (add bs b).length)),AAA t,some (.b (.lat c (add bs b))),some (.b (.lK d (iU 0 (add bs b)))),AAC ((m ||| 2 ^ ix (add bs b) (b,q):Nat):Int),AAA (d9 (b,q))]):=by
 have e:=Xe (C:=C) (c:=c) (d:=d) (q:=q) hb hl;have p0:(0:Int)<=2 ^ ix (add bs b) (b,q):=Int.pow_nonneg (by lia);have p1:((2:Int) ^ ix (add bs b) (b,q)).toNat=2 ^ ix (add bs b) (b,q):=by
  have:((2:Int) ^ ix (add bs b) (b,q))=((2 ^ ix (add bs b) (b,q):Nat):Int):=by simp
  rw[this,afb]
 have a0:d7 [b,D.bl q] 0=some b:=rfl;have a1:d7 [b,D.bl q] 1=some (.bl q):=rfl;simp[eY,jf,a0,a1,Ou,IV,UA,Ad,d9,e,P5,KZ,yX,p0,p1]
def Gg (bs:List D) (b:D):b∈add bs b:=by unfold add;split<;>simp[*]
def Gh {b x:D}(h:x∈bs):x∈add bs b:=by unfold add;split<;>simp[*]
def Sv {b:D}{p:Tg}(h:p.1∈bs):ix (add bs b) p=ix bs p:=by
 unfold add ix;split
 ·rfl
 ·rw[List.idxOf_append,if_pos h]
theorem ug {x:D}:∀(l:Bu){bs:List D},x∈bs->x∈adds bs l
 |[],_,h=>h
 |p::l,bs,h=>ug l (bs:=add bs p.1) (Gh h)
theorem BK {p:Tg}:∀(l:Bu){bs:List D},p.1∈bs->ix (adds bs l) p=ix bs p
 |[],_,h=>rfl
 |q::l,bs,h=>(BK l (bs:=add bs q.1) (Gh h)).trans (Sv h)
theorem yD:∀(l:Bu){bs:List D}{p:Tg},p∈l->p.1∈adds bs l
 |q::l,bs,p,h=>by
  rcases aav.mp h with rfl|h
  ·exact ug l (bs:=add bs p.1) (Gg bs p.1)
  ·exact yD l (bs:=add bs q.1) h
def Gi (bs:List D) (b:D):(add bs b).length<=bs.length+1:=by unfold add;split<;>simp
theorem yE:∀(l:Bu) (bs:List D),(adds bs l).length<=bs.length+l.length
 |[],_=>aam _
 |p::l,bs=>by
  have h1:=yE l (add bs p.1);have h2:=Gi bs p.1;show(adds (add bs p.1) l).length<=bs.length+(l.length+1);lia
theorem Gj {C c d:Addr}{t:D}:∀(l:Bu) (bs:List D) (m:Nat) (x5:Option U),dP x5=false->(∀p∈l,Bc p.1)->bs.length+l.length<10000->
  ∃y,loop (bName 5) (eY (P4 C) C) (l.map d9) [some (.b (n9 C c d bs.length)),AAA t,some (.b (.lat c bs)),some (.b (.lK d (iU 0 bs))),AAC (m:Nat),x5]
   = some (.nx [some (.b (n9 C c d (adds bs l).length)),AAA t,some (.b (.lat c (adds bs l))),some (.b (.lK d (iU 0 (adds bs l)))),AAC ((l.foldl (fun m p=>m ||| 2 ^ ix (adds bs l) p) m:Nat):Int),y])
 |[],bs,m,x5,_,_,_=>⟨x5,rfl⟩
 |(b,q)::l,bs,m,x5,h5,hb,hl=>by
  have hl:bs.length+(l.length+1)<10000:=hl;have h1:=Gi bs b;obtain⟨y,e⟩:=Gj (C:=C) (c:=c) (d:=d) (t:=t) l (add bs b) (m ||| 2 ^ ix (add bs b) (b,q)) (some (.t (d9 (b,q)))) rfl (fun p hp=>hb p (aaj _ hp)) (by lia);refine⟨y,?_⟩;have tn:=Ov (C:=C) (c:=c) (d:=d) (t:=t) (q:=q) (m:=m) (hb (b,q) aal) (show bs.length<10000 by lia);have ea:adds bs ((b,q)::l)=adds (add bs b) l:=rfl;have ei:ix (adds (add bs b) l) (b,q)=ix (add bs b) (b,q):=BK (p:=(b,q)) l (Gg bs b);rw[ea,aeH,ei,<-e];show((bName 5 (d9 (b,q)) _).bind _)=_;have eb:bName 5 (d9 (b,q)) [some (.b (n9 C c d bs.length)),AAA t,some (.b (.lat c bs)),some (.b (.lK d (iU 0 bs))),AAC (m:Nat),x5]=some [some (.b (n9 C c d bs.length)),AAA t,some (.b (.lat c bs)),some (.b (.lK d (iU 0 bs))),AAC (m:Nat),AAA (d9 (b,q))]:=by simp[-bD,br,h5]
  rw[eb,aad,tn,aad]
def dQ (l:Bu):D:=.tup (l.map d9)
def Xf {d:Addr}(hb:∀p∈l,Bc p.1) (hl:bs.length+l.length<10000):
  So C [.b (n9 C c d bs.length),.t (dQ l),.b (.lat c bs),.b (.lK d (iU 0 bs))]=some (.t (.int ((rY (adds bs l) l:Nat):Int)),P5 C c d (adds bs l)):=by
 obtain⟨y,e⟩:=Gj (C:=C) (c:=c) (d:=d) (t:=dQ l) l bs 0 none rfl hb hl;have e:loop (bName 5) (eY (P4 C) C) (l.map d9) [some (.b (n9 C c d bs.length)),AAA (dQ l),some (.b (.lat c bs)),some (.b (.lK d (iU 0 bs))),AAC 0,none]=_:=e;unfold dQ at e ⊢;simp[So,bH,jj,cU,e,aT,P5,rY]
def jS (aY:Addr):GS:=
 (cG (eP Mq (aa (eF (eP yf (aa (eF (eP yf (aa (eF (au 1)) (aa (eF (eP RO (aa (eF (au 1)) (aa (eC (.int 1)) aA)))) aA)))) (aa (C4 aY 0 "trues") aA)))) (aa (eC (.int 0)) aA))))
def fX:GS:=
 (iZ (qB (eF (eP ku (aa (eF (eP yf (aa (eF (au 2)) (aa (eF (au 0)) aA)))) (aa (eF (au 2)) aA))))) (cG (eT (eC (.bl true)))) cX)
def jk:GS:=
 (aP (iF (bName 2) (iA (eF (au 1))) (fX))
 (cG (eT (eC (.bl false)))))
def g7 (lB dN:FM) (aY:Addr):GS:=
 (iZ (uM (nT (qB (eF (jf aY "is_void" 0 lB (aZ (eF (au 5)) bO) [2,3])))) (nT (qB (Bx dN (eF (au 5)) 4)))) (j8 (eT (eM 4 hAppend (aa (eF (au 5)) aA)))) cX)
def oh (lB dN:FM) (aY:Addr):GS:=
 (aP (cu 4 (eP dG aA))
 (aP (iF (bName 5) (iA (eF (eP Bj (aa (eF (au 1)) aA)))) (g7 lB dN aY))
 (cG (au 4))))
def jl (Ds wA:FM) (aY:Addr):GS:=
 (cG (jf aY "trim" 0 Ds (aZ (eF (cT [0,2,3] (iA (eF (au 1))) bQ (eF (jf aY "of_bunch" 1 wA (aZ (eF (au 0)) bO) [2,3])))) bO) [2,3]))
def fQ (dN:FM):GS:=
 (iZ (nT (qB (eF (bu dN (aZ (eF (au 2)) (aZ (eF (au 1)) bO)))))) (cG (eT (eC (.bl false)))) cX)
def oq (dN:FM):GS:=
 (aP (iF (bName 2) (iA (eF (au 0))) (fQ dN))
 (cG (eT (eC (.bl true)))))
def wM (IW Dt o8:FM) (aY:Addr):GS:=
 (Lc 2 3 4 aY (cG (bu Dt (aZ (eF (jf aY "of_stand" 2 o8 (aZ (eF (au 0)) bO) [3,4])) (aZ (eF (jf aY "of_stand" 2 o8 (aZ (eF (au 1)) bO) [3,4])) bO)))))
def Ow (C:Addr):FM:=bH 4 (jS C)
def Sx (C:Addr):∀us r,Ow C us=some r->bH 4 (jS C) us=some r:=fun _ _ h=>h
def vM (n m:Nat):Bool:=decide (m &&& m / 2 &&& LH n≠0)
def abF (a:Nat):(((a:Nat):Int) == 0)=decide (a=0):=by rw[ac8];simp
def Xg {d:Addr}{m:Nat}{kvs:List (D×D)}:
  Ow C [.b (n9 C c d n),.t (.int (m:Nat)),.b (.lat c bs),.b (.lK d kvs)]=some (.t (.bl (vM n m)),[n9 C c d n,.lat c bs,.lK d kvs]):=by
 have h1:(0:Int)<=(m:Nat) / 2:=by lia
 have h2:((m:Int) / 2).toNat=m / 2:=by lia
 simp[Ow,bH,jS,C4,Ou,IV,yf,RO,yX,aT,vM,h1,h2];exact abF _
noncomputable def Av (m:Nat) (ks:BBJ):Bool:=ks.any fun k=>decide (k &&& m=k)
noncomputable def nats (ks:BBJ):List D:=ks.map fun k=>.int (k:Nat)
def uh:FM:=bH 3 jk
def Ox:∀us r,uh us=some r->bH 3 jk us=some r:=fun _ _ h=>h
theorem Du {m:Nat}{t:D}:∀(ks:BBJ) (x:Option U),dP x=false->∃y,loop (bName 2) fX (nats ks) [AAC (m:Nat),AAA t,x]
  = some (if Av m ks then .rt (.t (.bl true)) [AAC (m:Nat),AAA t,y] else .nx [AAC (m:Nat),AAA t,y])
 |[],x,_=>⟨x,rfl⟩
 |k::ks,x,hx=>by
  obtain⟨y,e⟩:=Du (m:=m) (t:=t) ks (AAC (k:Nat)) rfl;by_cases h:k &&& m=k
  ·refine⟨AAC (k:Nat),?_⟩;have:Av m (k::ks)=true:=by simp[Av,h]
   rw[if_pos this];simp[nats,loop,-bD,br,hx,fX,yf,yX,h]
  ·refine⟨y,?_⟩;have:Av m (k::ks)=Av m ks:=by simp[Av,h]
   rw[this,<-e];have h':¬((k &&& m:Nat):Int)=(k:Int):=fun e=>h (Int.ofNat.inj e);simp[nats,loop,-bD,br,hx,fX,yf,yX,h']
def LJ {m:Nat}:uh [.t (.int (m:Nat)),.t (.lst (nats ks))]=some (.t (.bl (Av m ks)),[]):=by
 obtain⟨y,e⟩:=Du (m:=m) (t:=.lst (nats ks)) ks none rfl;cases h:Av m ks<;>rw[h] at e<;>simp[uh,bH,jk,cU,e,aT]
def lR (n:Nat):BBJ->BBJ->BBJ
 |[],kept=>kept
 |m::r,kept=>if vM n m=false/\Av m kept=false then lR n r (kept++[m]) else lR n r kept
theorem BL {n k:Nat}:∀(ms kept:BBJ),k∈lR n ms kept->k∈kept\/(k∈ms/\vM n k=false)
 |[],kept,h=>.inl h
 |m::r,kept,h=>by
  unfold lR at h;split at h
  ·rename_i c;rcases BL r _ h with q|q
   ·rcases aaG.mp q with q|q
    ·exact .inl q
    ·rw[aao.mp q];exact .inr ⟨aal,c.1⟩
   ·exact .inr ⟨aaj _ q.1,q.2⟩
  ·rcases BL r _ h with q|q
   ·exact .inl q
   ·exact .inr ⟨aaj _ q.1,q.2⟩
theorem qR {n k:Nat}:∀(ms kept:BBJ),k∈kept->k∈lR n ms kept
 |[],kept,h=>h
 |m::r,kept,h=>by
  unfold lR;split
  ·exact qR r _ (aaG.mpr (.inl h))
  ·exact qR r _ h
def BN {m:Nat}:Av m ks=true↔∃k∈ks,k &&& m=k:=by unfold Av;simp
theorem yF {n m:Nat}:∀(ms kept:BBJ),m∈ms->vM n m=false->∃k∈lR n ms kept,k &&& m=k
 |x::r,kept,h,hv=>by
  rcases aav.mp h with rfl|h
  ·unfold lR;split
   ·exact⟨m,qR r _ (aaG.mpr (.inr aal)),Nat.and_self m⟩
   ·rename_i c;have:Av m kept=true:=by
     cases e:Av m kept with
     |true=>rfl
     |false=>exact absurd ⟨hv,e⟩ c
    obtain⟨k,hk,e⟩:=BN.mp this;exact⟨k,qR r _ hk,e⟩
  ·unfold lR;split
   ·exact yF r _ h hv
   ·exact yF r _ h hv
def UH (C:Addr):FM:=bH 6 (oh (Ow C) uh C)
def tm_run (C:Addr):∀us r,UH C us=some r->bH 6 (oh (Ow C) uh C) us=some r:=fun _ _ h=>h
def Oz {d:Addr}{m:Nat}{t:D}{kvs:List (D×D)}(hl:ks.length<1000):
  g7 (Ow C) uh C [some (.b (n9 C c d n)),AAA t,some (.b (.lat c bs)),some (.b (.lK d kvs)),AAB (nats ks),AAC (m:Nat)]
   = some (.nx [some (.b (n9 C c d n)),AAA t,some (.b (.lat c bs)),some (.b (.lK d kvs)),AAB (nats (if vM n m=false/\Av m ks=false then ks++[m] else ks)),AAC (m:Nat)]):=by
 have e1:=Xg (C:=C) (c:=c) (d:=d) (n:=n) (m:=m) (bs:=bs) (kvs:=kvs);have e2:=LJ (m:=m) (ks:=ks);have hl':(nats ks).length<100000:=by rw[nats,aah];lia
 cases h1:vM n m<;>cases h2:Av m ks<;>rw[h1] at e1<;>rw[h2] at e2<;>simp[g7,jf,Ou,IV,UA,Ad,e1,Bx,look,e2,iW,hl',hAppend]<;>simp[nats]
theorem Gk {C c d:Addr}{n:Nat}{t:D}{bs:List D}{kvs:List (D×D)}:∀(ms ks:BBJ) (x:Option U),dP x=false->ms.length+ks.length<1000->
  ∃y,loop (bName 5) (g7 (Ow C) uh C) (nats ms) [some (.b (n9 C c d n)),AAA t,some (.b (.lat c bs)),some (.b (.lK d kvs)),AAB (nats ks),x]
   = some (.nx [some (.b (n9 C c d n)),AAA t,some (.b (.lat c bs)),some (.b (.lK d kvs)),AAB (nats (lR n ms ks)),y])
 |[],ks,x,_,_=>⟨x,rfl⟩
 |m::ms,ks,x,hx,hl=>by
  have hl:ms.length+1+ks.length<1000:=hl;have tn:=Oz (C:=C) (c:=c) (d:=d) (n:=n) (m:=m) (t:=t) (bs:=bs) (kvs:=kvs) (ks:=ks) (by lia);have eb:bName 5 (.int (m:Nat)) [some (.b (n9 C c d n)),AAA t,some (.b (.lat c bs)),some (.b (.lK d kvs)),AAB (nats ks),x]=some [some (.b (n9 C c d n)),AAA t,some (.b (.lat c bs)),some (.b (.lK d kvs)),AAB (nats ks),AAC (m:Nat)]:=by simp[-bD,br,hx]
  have hk:lR n (m::ms) ks=lR n ms (if vM n m=false/\Av m ks=false then ks++[m] else ks):=by
   show(if _ then _ else _)=_;split<;>rfl
  have hl2:(if vM n m=false/\Av m ks=false then ks++[m] else ks).length<=ks.length+1:=by split<;>simp
  rw[hk];generalize (if vM n m=false/\Av m ks=false then ks++[m] else ks)=ks' at *;obtain⟨y,e⟩:=Gk (C:=C) (c:=c) (d:=d) (n:=n) (t:=t) (bs:=bs) (kvs:=kvs) ms ks' (AAC (m:Nat)) rfl (by lia);refine⟨y,?_⟩;show((bName 5 (.int (m:Nat)) _).bind _)=_;rw[eb,aad,tn,aad];exact e
def Mx (ms:BBJ):BBJ:=(sortI (ms.map Int.ofNat)).map Int.toNat
def Gm {k:Nat}:k∈Mx ms↔k∈ms:=by
 unfold Mx;rw[abt];constructor
 ·rintro⟨z,hz,rfl⟩;obtain⟨a,ha,rfl⟩:=abt.mp (uZ.mp hz);exact ha
 ·intro h;exact⟨(k:Int),uZ.mpr (abt.mpr ⟨k,h,rfl⟩),rfl⟩
def LK (ms:BBJ):(sortI (ms.map Int.ofNat)).map D.int=nats (Mx ms):=by
 unfold nats Mx;rw[acr];refine adb fun z hz=>?_;obtain⟨a,ha,rfl⟩:=abt.mp (uZ.mp hz);rfl
theorem Aw:∀ms:BBJ,q9 (nats ms)=some (ms.map Int.ofNat)
 |[]=>rfl
 |m::ms=>by
  have:=Aw ms;unfold nats at this ⊢;simp[q9,this]
def OA (ms:BBJ):(Mx ms).length<=ms.length:=by
 unfold Mx;rw[aah,(sortI_perm _).length_eq];have:=Bg (fun i=>(ms.map Int.ofNat).getD i 0) (ms.map Int.ofNat).length;rw[aah] at this ⊢;exact this
def Xh {d:Addr}{kvs:List (D×D)}(hl:ms.length<64):
  UH C [.b (n9 C c d n),.t (.lst (nats ms)),.b (.lat c bs),.b (.lK d kvs)]=some (.m (.lst (nats (lR n (Mx ms) []))),[n9 C c d n,.lat c bs,.lK d kvs]):=by
 have sl:=OA ms;obtain⟨y,e⟩:=Gk (C:=C) (c:=c) (d:=d) (n:=n) (t:=.lst (nats ms)) (bs:=bs) (kvs:=kvs) (Mx ms) [] none rfl (by show _+0<1000;lia);have e:loop (bName 5) (g7 (Ow C) uh C) (nats (Mx ms)) [some (.b (n9 C c d n)),AAA (.lst (nats ms)),some (.b (.lat c bs)),some (.b (.lK d kvs)),AAB [],none]=_:=e;have hl':(ms.map Int.ofNat).length<64:=by rw[aah];exact hl
 simp[-bD,br,UH,bH,oh,cU,Bj,Aw,hl,LK,e,aT]
def eu (bs:List D) (x:List Bu):List D:=x.foldl adds bs
noncomputable def tot (x:List Bu):Nat:=(x.map List.length).sum
theorem vj {a:D}:∀(x:List Bu){bs:List D},a∈bs->a∈eu bs x
 |[],_,h=>h
 |l::x,bs,h=>vj x (bs:=adds bs l) (ug l h)
theorem yG {p:Tg}:∀(x:List Bu){bs:List D},p.1∈bs->ix (eu bs x) p=ix bs p
 |[],_,h=>rfl
 |l::x,bs,h=>(yG x (bs:=adds bs l) (ug l h)).trans (BK l h)
theorem kL:∀(x:List Bu){bs:List D}{l:Bu}{p:Tg},l∈x->p∈l->p.1∈eu bs x
 |k::x,bs,l,p,h,hp=>by
  rcases aav.mp h with rfl|h
  ·exact vj x (bs:=adds bs l) (yD l hp)
  ·exact kL x (bs:=adds bs k) h hp
theorem Ax:∀(x:List Bu) (bs:List D),(eu bs x).length<=bs.length+tot x
 |[],_=>aam _
 |l::x,bs=>by
  have h1:=Ax x (adds bs l);have h2:=yE l bs;have:tot (l::x)=l.length+tot x:=by simp[tot]
  show(eu (adds bs l) x).length<=_;lia
def Gn (h:∀p∈l,ix bs' p=ix bs p):rY bs' l=rY bs l:=by
 unfold rY;generalize (0:Nat)=m
 induction l generalizing m with
 |nil=>rfl
 |cons p l ih=>
  rw[aeH,aeH,h p aal];exact ih (fun q hq=>h q (aaj _ hq)) _
def OB (C:Addr):FM:=bH 4 (jl (UH C) (So C) C)
def Sz (C:Addr):∀us r,OB C us=some r->bH 4 (jl (UH C) (So C) C) us=some r:=fun _ _ h=>h
def cR (x:List Bu):D:=.tup (x.map dQ)
def Xi (C:Addr):GD:=eF (jf C "of_bunch" 1 (So C) (aZ (eF (au 0)) bO) [2,3])
def SA {d:Addr}{t:D}(hb:∀p∈l,Bc p.1) (hl:bs.length+l.length<10000):
  cg [0,2,3] bQ (Xi C) [dQ l] [some (.b (n9 C c d bs.length)),AAA t,some (.b (.lat c bs)),some (.b (.lK d (iU 0 bs)))] acc
   = some (acc++[.int ((rY (adds bs l) l:Nat):Int)],[some (.b (n9 C c d (adds bs l).length)),AAA t,some (.b (.lat c (adds bs l))),some (.b (.lK d (iU 0 (adds bs l))))]):=by
 have e:=Xf (C:=C) (c:=c) (d:=d) hb hl;simp[cg,dH,l9,bQ,Xi,jf,abD,IV,UA,Ad,e,P5,aT]
theorem Gp {C c d:Addr}{t:D}:∀(x:List Bu) (bs acc:List D),(∀l∈x,∀p∈l,Bc p.1)->bs.length+tot x<10000->
  cg [0,2,3] bQ (Xi C) (x.map dQ) [some (.b (n9 C c d bs.length)),AAA t,some (.b (.lat c bs)),some (.b (.lK d (iU 0 bs)))] acc
   = some (acc++nats (x.map (rY (eu bs x))),[some (.b (n9 C c d (eu bs x).length)),AAA t,some (.b (.lat c (eu bs x))),some (.b (.lK d (iU 0 (eu bs x))))])
 |[],bs,acc,_,_=>by simp[cg,nats,eu]
 |l::x,bs,acc,hb,hl=>by
  have ht:tot (l::x)=l.length+tot x:=by simp[tot]
  have h2:=yE l bs;rw[abX,Sq.n6,SA (hb l aal) (by lia),aad];show cg [0,2,3] bQ (Xi C) (x.map dQ) _ _=_;rw[Gp x (adds bs l) _ (fun k hk=>hb k (aaj _ hk)) (by lia)];have ea:eu bs (l::x)=eu (adds bs l) x:=rfl;rw[ea,abX];have em:rY (eu (adds bs l) x) l=rY (adds bs l) l:=Gn fun p hp=>yG x (yD l hp);rw[em];simp[nats]
def BO (bs:List D) (x:List Bu):BBJ:=lR (eu bs x).length (Mx (x.map (rY (eu bs x)))) []
def P6 {d:Addr}(hb:∀l∈x,∀p∈l,Bc p.1) (hl:bs.length+tot x<10000) (hx:x.length<64):
  OB C [.b (n9 C c d bs.length),.t (cR x),.b (.lat c bs),.b (.lK d (iU 0 bs))]=some (.m (.lst (nats (BO bs x))),P5 C c d (eu bs x)):=by
 have e:=Gp (C:=C) (c:=c) (d:=d) (t:=cR x) x bs [] hb hl;have e2:=Xh (C:=C) (c:=c) (d:=d) (n:=(eu bs x).length) (bs:=eu bs x) (kvs:=iU 0 (eu bs x)) (ms:=x.map (rY (eu bs x))) (by rw[aah];exact hx);have hx':x.length<=100000:=by lia
 unfold cR at e ⊢;unfold Xi at e;simp[OB,bH,jl,jf,Ou,IV,UA,Ad,Lg,cU,e,e2,hx',aT,P5,BO]
structure Kp (bs:List D) (x:List Bu) (ks:BBJ):Prop where
 from_:∀k∈ks,∃l∈x,k=rY bs l/\cL l=false
 all:∀l∈x,cL l=false->∃k∈ks,k &&& rY bs l=k
def Gq (hl:∀p∈l,p.1∈bs):vM bs.length (rY bs l)=cL l:=by
 unfold vM;cases h:cL l with
 |true=>exact ab8 ((Gf hl).mpr h)
 |false=>exact abU fun q=>by rw[(Gf hl).mp q] at h;cases h
def P7 :Kp (eu bs x) x (BO bs x):=by
 constructor
 ·intro k hk;rcases BL _ _ hk with q|⟨q,v⟩
  ·cases q
  ·obtain⟨l,hl,rfl⟩:=abt.mp (Gm.mp q);rw[Gq fun p hp=>kL x hl hp] at v;exact⟨l,hl,rfl,v⟩
 ·intro l hl hv;exact yF _ _ (Gm.mpr (abt.mpr ⟨l,hl,rfl⟩)) (by rw[Gq fun p hp=>kL x hl hp];exact hv)
def Kp.ext (h:Kp bs x ks) (he:∀l∈x,rY bs' l=rY bs l):Kp bs' x ks:=
 ⟨fun k hk=>by obtain⟨l,hl,e,v⟩:=h.from_ k hk;exact⟨l,hl,by rw[he l hl];exact e,v⟩,fun l hl hv=>by rw[he l hl];exact h.all l hl hv⟩
def Iw (a b:BBJ):Bool:=a.all fun m=>Av m b
def Xj {a b:BBJ}(hx:∀l∈x,∀p∈l,p.1∈bs) (hy:∀l∈y,∀p∈l,p.1∈bs) (ha:Kp bs x a) (hb:Kp bs y b):Iw a b=vX x y:=by
 have:Iw a b=true↔vX x y=true:=by
  rw[wL];unfold Iw;rw[ab2];constructor
  ·intro h l hl hv;obtain⟨k1,hk1,e1⟩:=ha.all l hl hv;obtain⟨l1,hl1,rfl,v1⟩:=ha.from_ k1 hk1;obtain⟨k2,hk2,e2⟩:=BN.mp (h _ hk1);obtain⟨l2,hl2,rfl,v2⟩:=hb.from_ k2 hk2;exact⟨l2,hl2,ji ((qP (hy l2 hl2) (hx l1 hl1)).mp e2) ((qP (hx l1 hl1) (hx l hl)).mp e1)⟩
  ·intro h m hm;obtain⟨l,hl,rfl,hv⟩:=ha.from_ m hm;obtain⟨k,hk,s⟩:=h l hl hv;have hvk:cL k=false:=by
    cases e:cL k with
    |false=>rfl
    |true=>rw[yC s e] at hv;cases hv
   obtain⟨k2,hk2,e2⟩:=hb.all k hk hvk;obtain⟨l2,hl2,rfl,v2⟩:=hb.from_ k2 hk2;exact BN.mpr ⟨_,hk2,(qP (hy l2 hl2) (hx l hl)).mpr (ji ((qP (hy l2 hl2) (hy k hk)).mp e2) s)⟩
 cases e1:Iw a b<;>cases e2:vX x y
 ·rfl
 ·exact absurd (this.mpr e2) (by rw[e1];simp)
 ·exact absurd (this.mp e1) (by rw[e2];simp)
 ·rfl
def P8:FM:=bH 3 (oq uh)
def SD:∀us r,P8 us=some r->bH 3 (oq uh) us=some r:=fun _ _ h=>h
theorem Gr {t:D}{b:BBJ}:∀(a:BBJ) (x:Option U),dP x=false->∃y,loop (bName 2) (fQ uh) (nats a) [AAA t,AAA (.lst (nats b)),x]
  = some (if Iw a b then .nx [AAA t,AAA (.lst (nats b)),y] else .rt (.t (.bl false)) [AAA t,AAA (.lst (nats b)),y])
 |[],x,_=>⟨x,rfl⟩
 |m::a,x,hx=>by
  obtain⟨y,e⟩:=Gr (t:=t) (b:=b) a (AAC (m:Nat)) rfl;have e2:=LJ (m:=m) (ks:=b);have eb:bName 2 (.int (m:Nat)) [AAA t,AAA (.lst (nats b)),x]=some [AAA t,AAA (.lst (nats b)),AAC (m:Nat)]:=by simp[-bD,br,hx]
  cases h:Av m b
  ·refine⟨AAC (m:Nat),?_⟩;have:Iw (m::a) b=false:=by simp[Iw,h]
   rw[this];rw[h] at e2;have tn:fQ uh [AAA t,AAA (.lst (nats b)),AAC (m:Nat)]=some (.rt (.t (.bl false)) [AAA t,AAA (.lst (nats b)),AAC (m:Nat)]):=by simp[fQ,e2]
   show((bName 2 (.int (m:Nat)) _).bind _)=_;rw[eb,aad,tn,aad];rfl
  ·refine⟨y,?_⟩;have:Iw (m::a) b=Iw a b:=by simp[Iw,h]
   rw[this,<-e];rw[h] at e2;have tn:fQ uh [AAA t,AAA (.lst (nats b)),AAC (m:Nat)]=some (.nx [AAA t,AAA (.lst (nats b)),AAC (m:Nat)]):=by simp[fQ,e2]
   show((bName 2 (.int (m:Nat)) _).bind _)=_;rw[eb,aad,tn,aad];rfl
def Xk {a b:BBJ}:P8 [.t (.lst (nats a)),.t (.lst (nats b))]=some (.t (.bl (Iw a b)),[]):=by
 obtain⟨y,e⟩:=Gr (t:=.lst (nats a)) (b:=b) a none rfl;cases h:Iw a b<;>rw[h] at e<;>simp[P8,bH,oq,cU,e,aT]
noncomputable def OC:FM:=fun _=>none
def My (C:Addr):FM:=bH 5 (wM OC P8 (OB C) C)
def SE (C:Addr):∀us r,My C us=some r->bH 5 (wM OC P8 (OB C) C) us=some r:=fun _ _ h=>h
def P9 (hx:∀l∈x,∀p∈l,Bc p.1) (hy:∀l∈y,∀p∈l,Bc p.1) (lx:x.length<64) (ly:y.length<64) (ht:tot x+tot y<10000):
  My C [.t (cR x),.t (cR y)]=some (.t (.bl (vX x y)),[]):=by
 have al:=Ax x [];have al:(eu [] x).length<=0+tot x:=al;have hks:Iw (BO [] x) (BO (eu [] x) y)=vX x y:=by
  have k1:Kp (eu [] x) x (BO [] x):=P7;have k2:Kp (eu (eu [] x) y) y (BO (eu [] x) y):=P7;have k1':=k1.ext (bs':=eu (eu [] x) y) fun l hl=>Gn fun p hp=>yG y (kL x hl hp);exact Xj (fun l hl p hp=>vj y (kL x hl hp)) (fun l hl p hp=>kL y hl hp) k1' k2
 have main:wM OC P8 (OB C) C [AAA (cR x),AAA (cR y),none,none,none]=some (.rt (.t (.bl (vX x y))) [AAA (cR x),AAA (cR y),none,none,none]):=by
  refine Ib fun c d=>?_;have e1:=P6 (C:=C) (c:=c) (d:=d) (bs:=[]) (x:=x) hx (by show 0+tot x<10000;lia) lx;have e2:=P6 (C:=C) (c:=c) (d:=d) (bs:=eu [] x) (x:=y) hy (by lia) ly;have e3:=Xk (a:=BO [] x) (b:=BO (eu [] x) y);rw[hks] at e3;have em:RU 2 3 4 C c d [AAA (cR x),AAA (cR y),none,none,none]=some [AAA (cR x),AAA (cR y),some (.m (n9 C c d 0)),some (.m (.lat c [])),some (.m (.lK d []))]:=by simp[RU,n9,LH]
  rw[em,aad];have e1:OB C [.b (n9 C c d 0),.t (cR x),.b (.lat c []),.b (.lK d [])]=_:=e1;simp[jf,abE,IV,UA,Ad,e1,e2,e3,P5,RV,Ao]
 show((wM OC P8 (OB C) C [AAA (cR x),AAA (cR y),none,none,none]).bind _)=_;rw[main,aad];rfl
def za (l:Bu):Prop:=∀p∈l,Bc p.1
def LL {p:Tg}(h:Bc p.1):bV (d9 p)<=9:=by
 have:=h.d;show max (bV p.1) (max (bV (.bl p.2)) 0)+1<=9;have:bV (.bl p.2)=0:=rfl;lia
theorem kF:∀{l:Bu},za l->bF (l.map d9)<=9
 |[],_=>abH _
 |p::l,h=>by
  have h1:=LL (h p aal);have h2:=kF (l:=l) fun q hq=>h q (aaj _ hq);show max (bV (d9 p)) (bF (l.map d9))<=9;lia
theorem vm {cap:BBJ}{q:GT}{t:D}{S:SS}(P:Tg->Bool) (hc:dH S cap=some [.t t]):∀(l:Bu) (acc:List D),
  (∀p∈l,q [AAA p.1,AAA (.bl p.2),AAA t]=some (P p,[AAA p.1,AAA (.bl p.2),AAA t]))->
  iK cap q (eC (.int 1)) (l.map d9) S acc=some (acc++(l.filter P).map (fun _=>.int 1),S)
 |[],acc,_=>by simp[iK]
 |p::l,acc,hq=>by
  have q0:=hq p aal;have ih:=fun acc=>vm (q:=q) P hc l acc fun p hp=>hq p (aaj _ hp);rw[abX];show iK cap q (eC (.int 1)) (.tup [p.1,.bl p.2]::l.map d9) S acc=_;cases h:P p
  ·rw[h] at q0;simp[iK,hc,q0,ih,h,aT]
  ·rw[h] at q0;simp[iK,hc,q0,ih,h,aT]
def Dv {P:Tg->Bool}:iS (.lst ((l.filter P).map fun _=>.int 1)) (.lst [])=!(l.any P):=by
 cases h:l.filter P with
 |nil=>
  have:l.any P=false:=by
   rw[ad7];intro p hp e;exact absurd (acB.mpr ⟨hp,e⟩) (by rw[h];exact abG)
  rw[this];rfl
 |cons p r=>
  have:p∈l.filter P:=by rw[h];exact aal
  obtain⟨h1,h2⟩:=acB.mp this;rw[abI.mpr ⟨p,h1,h2⟩];rfl
def LM {p:Tg}(hl:za l) (hp:p∈l):inD (.tup [p.1,.bl (!p.2)]) (l.map d9)=decide ((p.1,!p.2)∈l):=Dn (p:=(p.1,!p.2)) (hl p hp) hl
def OD:GS:=
 (cu 3 (je [2] (CD (eF (au 2))) (qB (eF (eP xy (aa (eF (eP cM (aa (eF (au 0)) (aa (eQ (nT (qB (eF (au 1))))) aA)))) (aa (eF (au 2)) aA))))) (eC (.int 1))))
def OE:GS:=
 (cu 4 (cT [2] (iA (eF (au 1))) (qB (eF (eP ku (aa (eF (cT [1] (iA (eF (au 0))) (qB (eF (eP uR (aa (eF (au 0)) (aa (eF (au 1)) aA))))) (eF (au 0)))) (aa (eF (eP dG aA)) aA))))) (eF (au 0))))
def Iz:GS:=
 (iZ (uM (qB (eF (eP ku (aa (eF (au 3)) (aa (eF (eP dG aA)) aA))))) (qB (eF (eP ku (aa (eF (au 4)) (aa (eF (eP dG aA)) aA)))))) (cG (eT (eC (.bl false)))) cX)
def g8:GS:=aP (OD) (aP (OE) (Iz))
def SG:g8=aP (OD) (aP (OE) (Iz)):=rfl
def ou:GS:=
 (aP (iF (bName 2) (iA (eF (au 0))) (g8))
 (cG (eT (eC (.bl true)))))
def LN:FM:=bH 5 ou
def ls_run:∀us r,LN us=some r->bH 5 ou us=some r:=fun _ _ h=>h
def OF :(k.filter fun p=>!decide (p∈l)).isEmpty=fC k l:=by
 unfold fC;rw[ac8,List.isEmpty_iff,List.filter_eq_nil_iff,ab2];constructor
 ·intro h p hp;have:=h p hp
  simpa using this
 ·intro h p hp;simp[acd (h p hp)]
def LO (hl:za l) (hk:za k):(k.map d9).filter (fun d=>!inD d (l.map d9))=(k.filter fun p=>!decide (p∈l)).map d9:=by
 rw[List.filter_map]
 congr 1
 refine List.filter_congr fun p hp=>?_;show(!inD (d9 p) (l.map d9))=_;rw[Dn (hk p hp) hl]
def Gs {α:Type}{f:α->D}{r:List α}:iS (.lst (r.map f)) (.lst [])=r.isEmpty:=by cases r<;>rfl
def Xl (hl:za l) (hk:za k) (hn:k.length<=1000):(qB (eF (eP ku (aa (eF (cT [1] (iA (eF (au 0))) (qB (eF (eP uR (aa (eF (au 0)) (aa (eF (au 1)) aA))))) (eF (au 0)))) (aa (eF (eP dG aA)) aA))))) [AAA (dQ k),AAA (dQ l)]=some (fC k l,[AAA (dQ k),AAA (dQ l)]):=by
 have dl:=kF hl;have dk:=kF hk;have e:=nY (cap:=[1]) (q:=qB (eF (eP uR (aa (eF (au 0)) (aa (eF (au 1)) aA))))) (g:=eF (au 0)) (S:=[AAA (dQ k),AAA (dQ l)]) (ts:=[dQ l]) rfl (fun d=>!inD d (l.map d9)) (fun d=>d) (k.map d9) [] (fun d hd=>by
  have h1:bF (l.map d9)<=40:=by lia
  simp[dQ,uR,h1]) (fun d hd _=>by simp)
 rw[LO hl hk,abZ,afr] at e;have d2:bV (.lst ((k.filter fun p=>!decide (p∈l)).map d9))<=40:=by
  have:=kF (l:=k.filter fun p=>!decide (p∈l)) fun p hp=>hk p (acB.mp hp).1;show bF _+1<=40;lia
 have ee:=Gs (f:=d9) (r:=k.filter fun p=>!decide (p∈l));rw[OF] at ee;have hn':k.length<=100000:=by lia
 simp[cU,dQ,hn'] at e ⊢;simp[e,d2,ee]
def Gu (x:List Bu):Prop:=∀l∈x,za l/\l.length<=1000
def bE {h:GS}{S1:SS}(e:g S=some (.nx S1)):aP g h S=h S1:=by
 show(g S).bind _=_;rw[e];rfl
def OG (h:Gu y):bF (y.map dQ)<=10:=by
 induction y with
 |nil=>exact abH _
 |cons l y ih=>
  have h1:=kF (h l aal).1;have h2:=ih fun k hk=>h k (aaj _ hk);show max (bF (l.map d9)+1) (bF (y.map dQ))<=10;lia
def qT (hk:za k) (hl:za l):((k.map d9).all fun z=>inD z (l.map d9))=fC k l:=by
 rw[aev];unfold fC;rw[ac8,ab2,ab2];constructor
 ·intro h p hp;rw[<-Dn (hk p hp) hl];exact h p hp
 ·intro h p hp;show inD (d9 p) _=true;rw[Dn (hk p hp) hl];exact h p hp
def Dy (r:Bu):bV (.lst (r.map fun _=>(D.int 1)))<=40:=by
 have:bF (r.map fun _=>(D.int 1))<=0:=by
  induction r with
  |nil=>exact aam _
  |cons p r ih=>show max (bV (.int 1)) _<=0;have:bV (.int 1)=0:=rfl;lia
 show bF _+1<=40;lia
def IA {α:Type}{l:List α}{P:α->Bool}:(l.filter P).isEmpty=!(l.any P):=by
 rw[ac8];simp
def OH {a:D}(hl:za l) (hn:l.length<=1000) (hy:Gu y) (ny:y.length<=1000) (h3:dP x3=false) (h4:dP x4=false):
  ∃y3 y4,dP y3=false/\dP y4=false/\g8 [AAA a,AAA (cR y),AAA (dQ l),x3,x4]=some (if(cL l || y.any fun k=>fC k l) then .nx [AAA a,AAA (cR y),AAA (dQ l),y3,y4] else .rt (.t (.bl false)) [AAA a,AAA (cR y),AAA (dQ l),y3,y4]):=by
 rw[SG];have dl:=kF hl;have e0:=vm (cap:=[2]) (q:=qB (eF (eP xy (aa (eF (eP cM (aa (eF (au 0)) (aa (eQ (nT (qB (eF (au 1))))) aA)))) (aa (eF (au 2)) aA))))) (t:=dQ l) (S:=[AAA a,AAA (cR y),AAA (dQ l),x3,x4]) (fun p=>decide ((p.1,!p.2)∈l)) rfl l [] (fun p hp=>by
  have h1:bF (l.map d9)<=40:=by lia
  have h2:=LM hl hp;simp[dQ,xy,h1,h2])
 have s0:OD [AAA a,AAA (cR y),AAA (dQ l),x3,x4]=some (.nx [AAA a,AAA (cR y),AAA (dQ l),AAB ((l.filter fun p=>decide ((p.1,!p.2)∈l)).map fun _=>.int 1),x4]):=by
  rw[abZ] at e0;have hn':l.length<=100000:=by lia
  unfold dQ at e0 ⊢;simp[-bD,br,OD,je,hn',e0,h3]
 generalize hV:((l.filter fun p=>decide ((p.1,!p.2)∈l)).map fun _=>(D.int 1))=V at s0;have ev:iS (.lst V) (.lst [])=!(cL l):=by rw[<-hV,Dv];rfl
 have dv:bV (.lst V)<=40:=hV▸Dy _;have e1:=nY (cap:=[2]) (q:=qB (eF (eP ku (aa (eF (cT [1] (iA (eF (au 0))) (qB (eF (eP uR (aa (eF (au 0)) (aa (eF (au 1)) aA))))) (eF (au 0)))) (aa (eF (eP dG aA)) aA))))) (g:=eF (au 0)) (S:=[AAA a,AAA (cR y),AAA (dQ l),AAB V,x4]) (ts:=[dQ l]) rfl (fun d=>match d with|.tup ds=>ds.all fun z=>inD z (l.map d9)|_=>false) (fun d=>d) (y.map dQ) [] (fun d hd=>by
   obtain⟨k,hk,rfl⟩:=abt.mp hd;have:=Xl hl (hy k hk).1 (hy k hk).2;rw[show [dQ l].map (fun x=>some (U.t x))=[AAA (dQ l)] from rfl,this];rw[<-qT (hy k hk).1 hl];rfl) (fun d hd _=>by simp)
 rw[abZ,afr] at e1;have ef:(y.map dQ).filter (fun d=>match d with|.tup ds=>ds.all fun z=>inD z (l.map d9)|_=>false)=(y.filter fun k=>fC k l).map dQ:=by
  rw[List.filter_map]
  congr 1
  refine List.filter_congr fun k hk=>?_;exact qT (hy k hk).1 hl
 rw[ef] at e1;have eh:iS (.lst ((y.filter fun k=>fC k l).map dQ)) (.lst [])=!(y.any fun k=>fC k l):=by
  rw[Gs,IA]
 have dh:bV (.lst ((y.filter fun k=>fC k l).map dQ))<=40:=by
  have:=OG (y:=y.filter fun k=>fC k l) fun k hk=>hy k (acB.mp hk).1;show bF _+1<=40;lia
 generalize ((y.filter fun k=>fC k l).map dQ)=W at e1 eh dh;have ny':y.length<=100000:=by lia
 have s1:OE [AAA a,AAA (cR y),AAA (dQ l),AAB V,x4]=some (.nx [AAA a,AAA (cR y),AAA (dQ l),AAB V,AAB W]):=by
  unfold cR at e1 ⊢;simp[-bD,br,OE,cU,ny',e1,h4]
 rw[bE s0,bE s1];cases hv:cL l<;>cases hh:(y.any fun k=>fC k l)<;>rw[hv] at ev<;>rw[hh] at eh
 ·exact⟨_,_,rfl,rfl,by simp[Iz,ev,eh,dv,dh];exact⟨rfl,rfl⟩⟩
 ·exact⟨_,_,rfl,rfl,by simp[Iz,ev,eh,dv,dh];exact⟨rfl,rfl⟩⟩
 ·exact⟨_,_,rfl,rfl,by simp[Iz,ev,eh,dv,dh];exact⟨rfl,rfl⟩⟩
 ·exact⟨_,_,rfl,rfl,by simp[Iz,ev,eh,dv,dh];exact⟨rfl,rfl⟩⟩
theorem Gv {a:D}{y:List Bu}(hy:Gu y) (ny:y.length<=1000):∀(x:List Bu) (x2 x3 x4:Option U),Gu x->dP x2=false->dP x3=false->dP x4=false->
  ∃y2 y3 y4,loop (bName 2) g8 (x.map dQ) [AAA a,AAA (cR y),x2,x3,x4]=some (if vX x y then .nx [AAA a,AAA (cR y),y2,y3,y4] else .rt (.t (.bl false)) [AAA a,AAA (cR y),y2,y3,y4])
 |[],x2,x3,x4,_,_,_,_=>⟨x2,x3,x4,rfl⟩
 |l::x,x2,x3,x4,hx,h2,h3,h4=>by
  obtain⟨y3,y4,i3,i4,e⟩:=OH (a:=a) (hx l aal).1 (hx l aal).2 hy ny h3 h4;have eb:bName 2 (dQ l) [AAA a,AAA (cR y),x2,x3,x4]=some [AAA a,AAA (cR y),AAA (dQ l),x3,x4]:=by simp[-bD,br,h2]
  have hs:vX (l::x) y=((cL l || y.any fun k=>fC k l) && vX x y):=by simp[vX]
  cases h:(cL l || y.any fun k=>fC k l)
  ·refine⟨AAA (dQ l),y3,y4,?_⟩;rw[hs,h,ad1];rw[h] at e;show((bName 2 (dQ l) _).bind _)=_;rw[eb,aad,e];rfl
  ·obtain⟨z2,z3,z4,q⟩:=Gv hy ny x (AAA (dQ l)) y3 y4 (fun k hk=>hx k (aaj _ hk)) rfl i3 i4;refine⟨z2,z3,z4,?_⟩;rw[hs,h,afC];rw[h] at e;show((bName 2 (dQ l) _).bind _)=_;rw[eb,aad,e];exact q
def Xm (hx:Gu x) (hy:Gu y) (ny:y.length<=1000):LN [.t (cR x),.t (cR y)]=some (.t (.bl (vX x y)),[]):=by
 obtain⟨y2,y3,y4,e⟩:=Gv (a:=cR x) hy ny x none none none hx rfl rfl rfl;have e:loop (bName 2) g8 (x.map dQ) [AAA (.tup (x.map dQ)),AAA (cR y),none,none,none]=_:=e;cases h:vX x y<;>rw[h] at e<;>simp[LN,bH,ou,cU,cR] at e ⊢<;>simp[e,aT]
def gK:GS:=
 (iZ (qB (rT true 3 (eF (au 4)))) (j8 (eT (eM 3 hAppend (aa (eF (au 4)) aA)))) cX)
def Y9:GS:=
 (cu 3 (eP dG aA))
def Za:GS:=
 (iF (bName 4) (iA (eF (au 2))) (gK))
def Zb:GS:=
 (iZ (qB (eF (eP ku (aa (eF (je [3] (CD (eF (au 3))) (qB (rT false 2 (eF (eP cM (aa (eF (au 0)) (aa (eQ (nT (qB (eF (au 1))))) aA)))))) (eC (.int 1)))) (aa (eF (eP dG aA)) aA))))) (j8 (eT (eM 1 hAppend (aa (eF (au 3)) aA)))) cX)
def iL:GS:=aP (Y9) (aP (Za) (Zb))
def Xn:iL=aP (Y9) (aP (Za) (Zb)):=rfl
def gM:GS:=
 (iZ (nT (qB (eF (eP wm (aa (eF (vf 5 [3] bQ (eF (eP xA (aa (eF (cT [1] (iA (eF (au 0))) bQ (rT false 1 (eF (au 0))))) aA))))) aA))))) (j8 (eT (eM 5 hAppend (aa (eF (au 3)) aA)))) cX)
def Zd:GS:=
 (cu 1 (eP dG aA))
def Ze:GS:=
 (iF (bName 2) (iA (eF (au 0))) (iL))
def Zf:GS:=
 (cu 5 (eP dG aA))
def Zg:GS:=
 (iF (bName 3) (iA (eF (eP Bt (aa (eF (au 1)) aA)))) (gM))
def ts4:GS:=
 (cG (au 5))
def lT:GS:=aP (Zd) (aP (Ze) (aP (Zf) (aP (Zg) (ts4))))
def Xo:lT=aP (Zd) (aP (Ze) (aP (Zf) (aP (Zg) (ts4)))):=rfl
noncomputable def dd:Bu->Bu->Bu
 |acc,[]=>acc
 |acc,p::l=>dd (if p∈acc then acc else acc++[p]) l
theorem LP {p:Tg}:∀(l acc:Bu),p∈dd acc l↔p∈acc\/p∈l
 |[],acc=>by simp[dd]
 |q::l,acc=>by
  unfold dd;rw[LP l];split
  ·rename_i h;constructor
   ·rintro(h|h)
    ·exact .inl h
    ·exact .inr (aaj _ h)
   ·rintro(h'|h')
    ·exact .inl h'
    ·rcases aav.mp h' with rfl|h'
     ·exact .inl h
     ·exact .inr h'
  ·rw[aaG,aao,aav,or_assoc]
theorem LQ:∀(l acc:Bu),(dd acc l).length<=acc.length+l.length
 |[],acc=>aam _
 |q::l,acc=>by
  unfold dd;have:=LQ l (if q∈acc then acc else acc++[q]);have h2:(if q∈acc then acc else acc++[q]).length<=acc.length+1:=by split<;>simp
  rw[abn];lia
def EI {b:Bu}(h:∀p,p∈a↔p∈b):cL a=cL b:=by
 rw[ac8,kK,kK];constructor
 ·rintro⟨c,h1,h2⟩;exact⟨c,(h _).mp h1,(h _).mp h2⟩
 ·rintro⟨c,h1,h2⟩;exact⟨c,(h _).mpr h1,(h _).mpr h2⟩
def vY (l:Bu):Bu:=dd [] l
def qU {p:Tg}:p∈vY l↔p∈l:=by unfold vY;rw[LP];simp
def Dz (l:Bu):cL (vY l)=cL l:=EI fun _=>qU
def BP (l:Bu):(vY l).length<=l.length:=by have:=LQ l [];simpa[vY] using this
def LR (h:za l):za (vY l):=fun p hp=>h p (qU.mp hp)
noncomputable def OI (b:Bool) (ds:List D):D:=if b then .lst ds else .tup ds
def Cc (b:Bool) (l:Bu):D:=OI b (l.map d9)
def DA (b:Bool) (x:List Bu):D:=OI b (x.map (Cc b))
def yH:FM:=bH 6 lT
def SH:∀us r,yH us=some r->bH 6 lT us=some r:=fun _ _ h=>h
section
variable {s0 s1 s2 x4 x5:Option U}
def OJ {acc:Bu}{p:Tg}(ha:za acc) (hp:Bc p.1) (hn:acc.length<1000):gK [s0,s1,s2,AAB (acc.map d9),AAA (d9 p),x5]=some (.nx [s0,s1,s2,AAB ((if p∈acc then acc else acc++[p]).map d9),AAA (d9 p),x5]):=by
 have h1:bF (acc.map d9)<=40:=by have:=kF ha;lia
 have h2:=Dn hp ha;have h3:acc.length<100000:=by lia
 by_cases h:p∈acc
 ·rw[ab8 h] at h2;simp[gK,rT,rq,h1,h2,h]
 ·rw[abU h] at h2;simp[gK,rT,rq,h1,h2,h,hAppend,h3]
theorem Gw:∀(l acc:Bu) (x4:Option U),za acc->za l->acc.length+l.length<1000->dP x4=false->
  ∃y4,dP y4=false/\loop (bName 4) gK (l.map d9) [s0,s1,s2,AAB (acc.map d9),x4,x5]=some (.nx [s0,s1,s2,AAB ((dd acc l).map d9),y4,x5])
 |[],acc,x4,_,_,_,h4=>⟨x4,h4,rfl⟩
 |p::l,acc,x4,ha,hl,hn,h4=>by
  have hn:acc.length+(l.length+1)<1000:=hn;have tn:=OJ (s0:=s0) (s1:=s1) (s2:=s2) (x5:=x5) ha (hl p aal) (show acc.length<1000 by lia);have eb:bName 4 (d9 p) [s0,s1,s2,AAB (acc.map d9),x4,x5]=some [s0,s1,s2,AAB (acc.map d9),AAA (d9 p),x5]:=by simp[-bD,br,h4]
  have h2:(if p∈acc then acc else acc++[p]).length<=acc.length+1:=by split<;>simp
  have h3:za (if p∈acc then acc else acc++[p]):=by
   split
   ·exact ha
   ·intro q hq;rcases aaG.mp hq with h|h
    ·exact ha q h
    ·rw[aao.mp h];exact hl p aal
  obtain⟨y4,i4,e⟩:=Gw l (if p∈acc then acc else acc++[p]) (AAA (d9 p)) h3 (fun q hq=>hl q (aaj _ hq)) (by lia) rfl;refine⟨y4,i4,?_⟩;show((bName 4 (d9 p) _).bind _)=_;rw[eb,aad,tn,aad];exact e
end
def cN (l:Bu):D:=.lst (l.map d9)
def gw (x:List Bu):List Bu:=(x.filter fun l=>!cL l).map vY
def OL {b:Bool}{R:List Bu}(hl:za l) (hn:l.length<1000) (hR:R.length<1000) (h3:dP x3=false) (h4:dP x4=false):
  ∃y3 y4,dP y3=false/\dP y4=false/\iL [s0,AAB (R.map cN),AAA (Cc b l),x3,x4,x5]=some (.nx [s0,AAB ((if cL l then R else R++[vY l]).map cN),AAA (Cc b l),y3,y4,x5]):=by
 rw[Xn];have hn':l.length<=100000:=by lia
 have s0':Y9 [s0,AAB (R.map cN),AAA (Cc b l),x3,x4,x5]=some (.nx [s0,AAB (R.map cN),AAA (Cc b l),AAB [],x4,x5]):=by simp[-bD,br,Y9,h3]
 obtain⟨y4,i4,e⟩:=Gw (s0:=s0) (s1:=AAB (R.map cN)) (s2:=AAA (Cc b l)) (x5:=x5) l [] x4 (fun p hp=>by cases hp) hl (by show 0+l.length<1000;lia) h4;have e:loop (bName 4) gK (l.map d9) [s0,AAB (R.map cN),AAA (Cc b l),AAB [],x4,x5]=some (.nx [s0,AAB (R.map cN),AAA (Cc b l),AAB ((vY l).map d9),y4,x5]):=e;have s1':Za [s0,AAB (R.map cN),AAA (Cc b l),AAB [],x4,x5]=some (.nx [s0,AAB (R.map cN),AAA (Cc b l),AAB ((vY l).map d9),y4,x5]):=by
  rw[<-e];cases b<;>simp[Za,cU,Cc,OI]
 rw[bE s0',bE s1'];have gl:=LR hl;have dl:=kF gl;have e0:=vm (cap:=[3]) (q:=qB (rT false 2 (eF (eP cM (aa (eF (au 0)) (aa (eQ (nT (qB (eF (au 1))))) aA)))))) (t:=.lst ((vY l).map d9)) (S:=[s0,AAB (R.map cN),AAA (Cc b l),AAA (.lst ((vY l).map d9)),y4,x5]) (fun p=>decide ((p.1,!p.2)∈vY l)) rfl (vY l) [] (fun p hp=>by
  have h1:bF ((vY l).map d9)<=40:=by lia
  have h2:=LM gl hp;simp[rT,rq,h1,h2])
 rw[abZ] at e0;generalize hV:(((vY l).filter fun p=>decide ((p.1,!p.2)∈vY l)).map fun _=>(D.int 1))=V at e0;have ev:iS (.lst V) (.lst [])=!(cL l):=by rw[<-hV,Dv,<-Dz];rfl
 have dv:bV (.lst V)<=40:=hV▸Dy _;have hd:(vY l).length<=100000:=by have:=BP l;lia
 have hR':R.length<100000:=by lia
 refine⟨AAA (.lst ((vY l).map d9)),y4,rfl,i4,?_⟩;cases hv:cL l<;>rw[hv] at ev
 ·simp[Zb,je,hd,e0,dv,ev,hAppend,hR'];rfl
 ·simp[Zb,je,hd,e0,dv,ev]
def EJ (l:Bu) (x:List Bu):gw (l::x)=(if cL l then [] else [vY l])++gw x:=by
 unfold gw;rw[List.filter_cons];cases cL l<;>simp
theorem Gx {b:Bool}{s0 x5:Option U}:∀(x:List Bu) (R:List Bu) (x2 x3 x4:Option U),Gu x->(∀l∈x,l.length<1000)->R.length+x.length<1000->dP x2=false->dP x3=false->dP x4=false->
  ∃y2 y3 y4,dP y2=false/\dP y3=false/\dP y4=false/\loop (bName 2) iL (x.map (Cc b)) [s0,AAB (R.map cN),x2,x3,x4,x5]=some (.nx [s0,AAB ((R++gw x).map cN),y2,y3,y4,x5])
 |[],R,x2,x3,x4,_,_,_,h2,h3,h4=>⟨x2,x3,x4,h2,h3,h4,by simp[loop,gw]⟩
 |l::x,R,x2,x3,x4,hx,hm,hn,h2,h3,h4=>by
  have hn:R.length+(x.length+1)<1000:=hn;obtain⟨y3,y4,i3,i4,tn⟩:=OL (b:=b) (s0:=s0) (x5:=x5) (hx l aal).1 (hm l aal) (show R.length<1000 by lia) h3 h4;have eb:bName 2 (Cc b l) [s0,AAB (R.map cN),x2,x3,x4,x5]=some [s0,AAB (R.map cN),AAA (Cc b l),x3,x4,x5]:=by simp[-bD,br,h2]
  have h2:(if cL l then R else R++[vY l]).length<=R.length+1:=by split<;>simp
  obtain⟨z2,z3,z4,j2,j3,j4,e⟩:=Gx (b:=b) (s0:=s0) (x5:=x5) x (if cL l then R else R++[vY l]) (AAA (Cc b l)) y3 y4 (fun q hq=>hx q (aaj _ hq)) (fun q hq=>hm q (aaj _ hq)) (by lia) rfl i3 i4;refine⟨z2,z3,z4,j2,j3,j4,?_⟩;have ea:R++gw (l::x)=(if cL l then R else R++[vY l])++gw x:=by
   rw[EJ];cases cL l<;>simp
  rw[ea];show((bName 2 (Cc b l) _).bind _)=_;rw[eb,aad,tn,aad];exact e
def kb:List Bu->List Bu->List Bu
 |[],F=>F
 |k::r,F=>kb r (if(F.any fun f=>fC f k) then F else F++[k])
theorem Qa {k:Bu}:∀(r F:List Bu),k∈kb r F->k∈F\/k∈r
 |[],F,h=>.inl h
 |m::r,F,h=>by
  unfold kb at h;rcases Qa r _ h with q|q
  ·split at q
   ·exact .inl q
   ·rcases aaG.mp q with q|q
    ·exact .inl q
    ·rw[aao.mp q];exact .inr aal
  ·exact .inr (aaj _ q)
theorem BQ {k:Bu}:∀(r F:List Bu),k∈F->k∈kb r F
 |[],F,h=>h
 |m::r,F,h=>by
  unfold kb;refine BQ r _ ?_;split
  ·exact h
  ·exact aaG.mpr (.inl h)
def IB (k:Bu):fC k k=true:=gq.mpr fun _ h=>h
theorem LS {m:Bu}:∀(r F:List Bu),m∈r->∃k∈kb r F,fC k m=true
 |x::r,F,h=>by
  unfold kb;rcases aav.mp h with rfl|h
  ·split
   ·rename_i c;obtain⟨f,hf,e⟩:=abI.mp c;exact⟨f,BQ r _ hf,e⟩
   ·exact⟨m,BQ r _ (aaG.mpr (.inr aal)),IB m⟩
  ·exact LS r _ h
theorem LV:∀(r F:List Bu),(kb r F).length<=F.length+r.length
 |[],F=>aam _
 |m::r,F=>by
  unfold kb;have:=LV r (if(F.any fun f=>fC f m) then F else F++[m]);have h2:(if(F.any fun f=>fC f m) then F else F++[m]).length<=F.length+1:=by split<;>simp
  rw[abn];lia
def OM:GD:=eF (eP xA (aa (eF (cT [1] (iA (eF (au 0))) bQ (rT false 1 (eF (au 0))))) aA))
def ON (hk:za k) (hl:za l) (hn:k.length<=1000):OM [AAA (cN k),AAA (cN l)]=some (.bl (fC k l),[AAA (cN k),AAA (cN l)]):=by
 have dl:=kF hl;have e:=iD (cap:=[1]) (g:=rT false 1 (eF (au 0))) (S:=[AAA (cN k),AAA (cN l)]) (ts:=[cN l]) rfl (fun z=>.bl (inD z (l.map d9))) (k.map d9) [] (fun d hd=>by
  have h1:bF (l.map d9)<=40:=by lia
  simp[rT,rq,cN,h1])
 rw[abZ] at e;have hb:=u5 (fun z=>inD z (l.map d9)) (k.map d9);have hs:=qT hk hl;have hn':k.length<=100000:=by lia
 have hs':((k.map d9).map fun z=>inD z (l.map d9)).all id=fC k l:=by rw[<-hs,aev];rfl
 generalize (k.map d9).map (fun z=>(D.bl (inD z (l.map d9))))=Z at e hb;generalize (k.map d9).map (fun z=>(inD z (l.map d9)))=Y at hb hs';unfold cN at e ⊢;simp[OM,cU,hn',e,xA,hb,hs']
def OO {F:List Bu}(hl:za l) (hF:Gu F) (hn:F.length<1000):
  gM [s0,s1,s2,AAA (cN l),x4,AAB (F.map cN)]=some (.nx [s0,s1,s2,AAA (cN l),x4,AAB ((if(F.any fun f=>fC f l) then F else F++[l]).map cN)]):=by
 have e:=iD (cap:=[3]) (g:=OM) (S:=[s0,s1,s2,AAA (cN l),x4,AAB (F.map cN)]) (ts:=[cN l]) rfl (fun d=>.bl (match d with|.lst es=>es.all fun z=>inD z (l.map d9)|_=>false)) (F.map cN) [] (fun d hd=>by
  obtain⟨k,hk,rfl⟩:=abt.mp hd;have:=ON (hF k hk).1 hl (hF k hk).2;rw[show [cN l].map (fun x=>some (U.t x))=[AAA (cN l)] from rfl,this,<-qT (hF k hk).1 hl];rfl)
 rw[abZ] at e;have hb:=u5 (fun d:D=>(match d with|.lst es=>es.all fun z=>inD z (l.map d9)|_=>false)) (F.map cN);have ha:((F.map cN).map (fun d:D=>(match d with|.lst es=>es.all fun z=>inD z (l.map d9)|_=>false))).any id=F.any fun f=>fC f l:=by
  rw[acr,List.any_map];rw[ac8,abI,abI];constructor
  ·rintro⟨f,hf,e⟩;exact⟨f,hf,by rw[<-qT (hF f hf).1 hl];exact e⟩
  ·rintro⟨f,hf,e⟩;exact⟨f,hf,by show((f.map d9).all _)=true;rw[qT (hF f hf).1 hl];exact e⟩
 generalize (F.map cN).map (fun d:D=>D.bl (match d with|.lst es=>es.all fun z=>inD z (l.map d9)|_=>false))=Z at e hb;generalize (F.map cN).map (fun d:D=>(match d with|.lst es=>es.all fun z=>inD z (l.map d9)|_=>false))=Y at hb ha;have hn':F.length<=100000:=by lia
 have hn2:F.length<100000:=by lia
 unfold OM at e;have hcap:C5 [s0,s1,s2,AAA (cN l),x4,AAB (F.map cN)] [3]=true:=rfl;cases q:F.any fun f=>fC f l<;>rw[q] at ha
 ·simp[gM,vf,hcap,hn',e,wm,hb,ha,hAppend,hn2]
 ·simp[gM,vf,hcap,hn',e,wm,hb,ha]
theorem Gy {s0 s1 s2 x4:Option U}:∀(r F:List Bu) (x3:Option U),Gu r->Gu F->F.length+r.length<1000->dP x3=false->
  ∃y3,loop (bName 3) gM (r.map cN) [s0,s1,s2,x3,x4,AAB (F.map cN)]=some (.nx [s0,s1,s2,y3,x4,AAB ((kb r F).map cN)])
 |[],F,x3,_,_,_,_=>⟨x3,rfl⟩
 |k::r,F,x3,hr,hF,hn,h3=>by
  have hn:F.length+(r.length+1)<1000:=hn;have tn:=OO (s0:=s0) (s1:=s1) (s2:=s2) (x4:=x4) (hr k aal).1 hF (by lia);have eb:bName 3 (cN k) [s0,s1,s2,x3,x4,AAB (F.map cN)]=some [s0,s1,s2,AAA (cN k),x4,AAB (F.map cN)]:=by simp[-bD,br,h3]
  have h2:(if(F.any fun f=>fC f k) then F else F++[k]).length<=F.length+1:=by split<;>simp
  have h4:Gu (if(F.any fun f=>fC f k) then F else F++[k]):=by
   split
   ·exact hF
   ·intro q hq;rcases aaG.mp hq with h|h
    ·exact hF q h
    ·rw[aao.mp h];exact hr k aal
  obtain⟨y3,e⟩:=Gy (s0:=s0) (s1:=s1) (s2:=s2) (x4:=x4) r (if(F.any fun f=>fC f k) then F else F++[k]) (AAA (cN k)) (fun q hq=>hr q (aaj _ hq)) h4 (by lia) rfl;refine⟨y3,?_⟩;show((bName 3 (cN k) _).bind _)=_;rw[eb,aad,tn,aad];exact e
theorem Gz:∀r:List Bu,rB (r.map cN)=some (r.map List.length)
 |[]=>rfl
 |k::r=>by
  show(rB (r.map cN)).map _=_;rw[Gz r];simp
def IC (r:List Bu):∃s:List Bu,tY (r.map List.length) (r.map cN)=s.map cN/\s.Perm r:=by
 have p:=qM (r.map List.length);rw[aah] at p;refine⟨(mj (r.map List.length)).map fun i=>r.getD i [],?_,?_⟩
 ·unfold tY;rw[acr];refine adb fun i hi=>?_;have hi:i<r.length:=ack.mp (p.mem_iff.mp hi);show(r.map cN).getD i .cJ=cN (r.getD i []);simp[hi]
 ·have q:=p.map fun i=>r.getD i [];have e:(List.range r.length).map (fun i=>r.getD i [])=r:=by
   apply afg;intro i;by_cases hi:i<r.length
   ·simp[hi]
   ·simp[hi]
  rw[e] at q;exact q
structure Td (x r:List Bu):Prop where
 from_:∀k∈r,∃l∈x,cL l=false/\k=vY l
 all:∀l∈x,cL l=false->∃k∈r,fC k l=true
 len:r.length<=x.length
def Td.tr (h:Td x r):Tr x r:=
 ⟨fun k hk=>by obtain⟨l,hl,v,rfl⟩:=h.from_ k hk;exact⟨by rw[Dz];exact v,l,hl,gq.mpr fun p hp=>qU.mp hp,gq.mpr fun p hp=>qU.mpr hp⟩,h.all⟩
def vn :k∈gw x↔∃l∈x,cL l=false/\k=vY l:=by
 unfold gw;rw[abt];constructor
 ·rintro⟨l,hl,rfl⟩;obtain⟨h1,h2⟩:=acB.mp hl;exact⟨l,h1,by simpa using h2,rfl⟩
 ·rintro⟨l,hl,v,rfl⟩;exact⟨l,acB.mpr ⟨hl,by rw[v];rfl⟩,rfl⟩
def ID (x:List Bu):(gw x).length<=x.length:=by
 unfold gw;rw[aah];exact List.length_filter_le _ _
def LW {b:Bool}(hx:∀l∈x,za l/\l.length<=900) (hn:x.length<64):∃r,yH [.t (DA b x)]=some (.m (.lst (r.map cN)),[])/\Td x r:=by
 have hx':Gu x:=fun l hl=>⟨(hx l hl).1,by have:=(hx l hl).2;lia⟩
 obtain⟨y2,y3,y4,j2,j3,j4,e⟩:=Gx (b:=b) (s0:=AAA (DA b x)) (x5:=none) x [] none none none hx' (fun l hl=>by have:=(hx l hl).2;lia) (by show 0+x.length<1000;lia) rfl rfl rfl;have l1:=ID x;obtain⟨s,es,ps⟩:=IC (gw x);have lr:=Gz (gw x);have gr:Gu s:=fun k hk=>by
  obtain⟨l,hl,v,rfl⟩:=vn.mp (ps.mem_iff.mp hk);exact⟨LR (hx l hl).1,by have:=(hx l hl).2;have:=BP l;lia⟩
 have ls:=ps.length_eq;obtain⟨z3,e3⟩:=Gy (s0:=AAA (DA b x)) (s1:=AAA (.lst ((gw x).map cN))) (s2:=y2) (x4:=y4) s [] y3 gr (fun k hk=>by cases hk) (by show 0+s.length<1000;lia) j3;refine⟨kb s [],?_,?_⟩
 ·have e:loop (bName 2) iL (x.map (Cc b)) [AAA (DA b x),AAB [],none,none,none,none]=some (.nx [AAA (DA b x),AAB ((gw x).map cN),y2,y3,y4,none]):=e;have s0:Zd [AAA (DA b x),none,none,none,none,none]=some (.nx [AAA (DA b x),AAB [],none,none,none,none]):=by simp[-bD,br,Zd]
  have s1:Ze [AAA (DA b x),AAB [],none,none,none,none]=some (.nx [AAA (DA b x),AAB ((gw x).map cN),y2,y3,y4,none]):=by
   rw[<-e];cases b<;>simp[Ze,cU,DA,OI]
  have s2:Zf [AAA (DA b x),AAB ((gw x).map cN),y2,y3,y4,none]=some (.nx [AAA (DA b x),AAB ((gw x).map cN),y2,y3,y4,AAB []]):=by simp[-bD,br,Zf]
  have h64:(gw x).length<64:=by lia
  have e3:loop (bName 3) gM (s.map cN) [AAA (DA b x),AAA (.lst ((gw x).map cN)),y2,y3,y4,AAB []]=some (.nx [AAA (DA b x),AAA (.lst ((gw x).map cN)),y2,z3,y4,AAB ((kb s []).map cN)]):=e3;have s3:Zg [AAA (DA b x),AAB ((gw x).map cN),y2,y3,y4,AAB []]=some (.nx [AAA (DA b x),AAA (.lst ((gw x).map cN)),y2,z3,y4,AAB ((kb s []).map cN)]):=by
   rw[<-e3];simp[Zg,cU,Bt,lr,h64,es]
  show((lT [AAA (DA b x),none,none,none,none,none]).bind _)=_;rw[Xo,bE s0,bE s1,bE s2,bE s3];simp[ts4,aT]
 ·refine⟨fun k hk=>?_,fun l hl hv=>?_,?_⟩
  ·rcases Qa _ _ hk with q|q
   ·cases q
   ·exact vn.mp (ps.mem_iff.mp q)
  ·obtain⟨k,hk,e⟩:=LS s [] (m:=vY l) (ps.mem_iff.mpr (vn.mpr ⟨l,hl,hv,rfl⟩));exact⟨k,hk,ji e (gq.mpr fun p hp=>qU.mp hp)⟩
  ·have:=LV s [];have:(kb s []).length<=0+s.length:=this;lia
def mq:GS:=
 (cG (eP fU (aa (eF (cT [] (iA (eF (au 0))) bQ (eF (eP fU (aa (eF (au 0)) aA))))) aA)))
def BR:FM:=bH 1 mq
def SJ:∀us r,BR us=some r->bH 1 mq us=some r:=fun _ _ h=>h
def GC (hr:r.length<=1000) (hl:∀k∈r,k.length<=1000):BR [.t (.lst (r.map cN))]=some (.t (cR r),[]):=by
 have e:=iD (cap:=[]) (g:=eF (eP fU (aa (eF (au 0)) aA))) (S:=[AAA (.lst (r.map cN))]) (ts:=[]) rfl (fun d=>match d with|.lst ds=>.tup ds|d=>d) (r.map cN) [] (fun d hd=>by
  obtain⟨k,hk,rfl⟩:=abt.mp hd;have:=hl k hk;have h1:k.length<=100000:=by lia
  have h2:k.length<100000:=by lia
  simp[cN,fU,h1,h2])
 have em:(r.map cN).map (fun d=>match d with|.lst ds=>.tup ds|d=>d)=r.map dQ:=by rw[acr];rfl
 rw[abZ,em] at e;have h1:r.length<=100000:=by lia
 have h2:r.length<100000:=by lia
 simp[BR,bH,mq,cU,h1,h2,e,fU,aT,cR]
def jO (aE:FM):GS:=
 (j8 (eT (eM 3 dR (aa (eF (cT [4] (iA (eF (au 2))) bQ (eF (eP dO (aa (eF (eP nh (aa (eF (au 1)) aA))) (aa (eF (eP nh (aa (eF (au 0)) aA))) aA)))))) aA))))
def Xp (aE:FM):GS:=
 (iZ (nT (qB (eF (au 0)))) (cG (bu aE (aZ (eF (eP dO (aa (eF (eP nh (aa (eF (au 1)) aA))) (aa (eF (eP nh (aa (eF (au 2)) aA))) aA)))) bO))) cX)
def ps1 (aE:FM):GS:=
 (cu 3 (eP dG aA))
def ps2 (aE:FM):GS:=
 (iF (bName 4) (iA (eF (au 1))) (jO aE))
def ps3 (aE:FM):GS:=
 (cG (bu aE (aZ (eF (au 3)) bO)))
def lC (aE:FM):GS:=aP (Xp aE) (aP (ps1 aE) (aP (ps2 aE) (ps3 aE)))
def ps_eq (aE:FM):lC aE=aP (Xp aE) (aP (ps1 aE) (aP (ps2 aE) (ps3 aE))):=rfl
def UI:FM:=bH 5 (lC yH)
def SK:∀us r,UI us=some r->bH 5 (lC yH) us=some r:=fun _ _ h=>h
noncomputable def prod (x y:List Bu):List Bu:=x.flatMap fun a=>y.map fun b=>a++b
def EK (t:Bool) (x y:List Bu):List Bu:=if t then prod x y else x++y
def OP {t:D}{F:List Bu}(hy:y.length<=1000) (ha:a.length<=1000) (hl:∀k∈y,k.length<=1000) (hF:F.length<=1000):
  jO yH [AAA t,s1,AAA (.lst (y.map cN)),AAB (F.map cN),AAA (cN a)]=some (.nx [AAA t,s1,AAA (.lst (y.map cN)),AAB ((F++y.map fun b=>a++b).map cN),AAA (cN a)]):=by
 have e:=iD (cap:=[4]) (g:=eF (eP dO (aa (eF (eP nh (aa (eF (au 1)) aA))) (aa (eF (eP nh (aa (eF (au 0)) aA))) aA)))) (S:=[AAA t,s1,AAA (.lst (y.map cN)),AAB (F.map cN),AAA (cN a)]) (ts:=[cN a]) rfl (fun d=>match d with|.lst ds=>.lst (a.map d9++ds)|d=>d) (y.map cN) [] (fun d hd=>by
  obtain⟨k,hk,rfl⟩:=abt.mp hd;have:=hl k hk;have h1:k.length<=100000:=by lia
  have h2:a.length<=100000:=by lia
  have h3:k.length<100000:=by lia
  have h4:a.length<100000:=by lia
  have h5:a.length+k.length<=100000:=by lia
  simp[cN,nh,dO,h1,h2,h3,h4,h5])
 have em:(y.map cN).map (fun d=>match d with|.lst ds=>.lst (a.map d9++ds)|d=>d)=(y.map fun b=>a++b).map cN:=by
  rw[acr,acr];refine adb fun k _=>?_;show D.lst (a.map d9++k.map d9)= .lst ((a++k).map d9);rw[acg]
 rw[abZ,em] at e;have h1:y.length<=100000:=by lia
 have h2:y.length<100000:=by lia
 have h3:F.length<100000:=by lia
 have h4:F.length+y.length<=100000:=by lia
 have h5:F.length+y.length<100000:=by lia
 simp[jO,cU,h1,e,dR,h3,h4,h2,h5]
def DB (x y:List Bu):(prod x y).length=x.length*y.length:=by
 unfold prod
 induction x with
 |nil=>simp
 |cons a x ih=>rw[ad9,aan,ih,aah,abn,Nat.succ_mul,Nat.add_comm]
theorem GF {t:D}{s1:Option U}{y:List Bu}(hy:y.length<=1000) (hl:∀k∈y,k.length<=1000):∀(x F:List Bu) (x4:Option U),dP x4=false->(∀a∈x,a.length<=1000)->F.length+x.length*y.length<=1000->
  ∃y4,loop (bName 4) (jO yH) (x.map cN) [AAA t,s1,AAA (.lst (y.map cN)),AAB (F.map cN),x4]=some (.nx [AAA t,s1,AAA (.lst (y.map cN)),AAB ((F++prod x y).map cN),y4])
 |[],F,x4,_,_,_=>⟨x4,by simp[loop,prod]⟩
 |a::x,F,x4,h4,hx,hn=>by
  have hn:F.length+(x.length+1)*y.length<=1000:=hn;rw[Nat.add_mul,Nat.one_mul] at hn;have tn:=OP (t:=t) (s1:=s1) (F:=F) hy (hx a aal) hl (by lia);have eb:bName 4 (cN a) [AAA t,s1,AAA (.lst (y.map cN)),AAB (F.map cN),x4]=some [AAA t,s1,AAA (.lst (y.map cN)),AAB (F.map cN),AAA (cN a)]:=by simp[-bD,br,h4]
  obtain⟨y4,e⟩:=GF (t:=t) (s1:=s1) hy hl x (F++y.map fun b=>a++b) (AAA (cN a)) rfl (fun q hq=>hx q (aaj _ hq)) (by rw[aan,aah];lia);refine⟨y4,?_⟩;have ep:F++prod (a::x) y=F++(y.map fun b=>a++b)++prod x y:=by simp[prod]
  rw[ep];show((bName 4 (cN a) _).bind _)=_;rw[eb,aad,tn,aad];exact e
def LX (h:k∈prod x y):∃a∈x,∃b∈y,k=a++b:=by
 unfold prod at h;obtain⟨a,ha,h⟩:=List.mem_flatMap.mp h;obtain⟨b,hb,rfl⟩:=abt.mp h;exact⟨a,ha,b,hb,rfl⟩
def Gd (b:D):Prop:=Bc b/\(∃n,n<=9/\Sy n [] b)/\Sane b/\wD b<=12500
def UJ (l:Bu):Prop:=∀p∈l,Gd p.1
def UJ.gb (h:UJ l):za l:=fun p hp=>(h p hp).1
def GR (N:Nat) (x:List Bu):Prop:=∀l∈x,UJ l/\l.length<=N
def GR.put {M:Nat}{t:Bool}(hx:GR N x) (hy:GR M y):GR (N+M) (EK t x y):=by
 intro k hk;unfold EK at hk;split at hk
 ·obtain⟨a,ha,b,hb,rfl⟩:=LX hk;obtain⟨h1,h2⟩:=hx a ha;obtain⟨h3,h4⟩:=hy b hb;refine⟨fun p hp=>?_,by rw[aan];lia⟩;rcases aaG.mp hp with q|q
  ·exact h1 p q
  ·exact h3 p q
 ·rcases aaG.mp hk with q|q
  ·exact⟨(hx k q).1,by have:=(hx k q).2;lia⟩
  ·exact⟨(hy k q).1,by have:=(hy k q).2;lia⟩
def GR.SM (hx:GR N x) (h:Td x r):GR N r:=fun k hk=>by
 obtain⟨l,hl,_,rfl⟩:=h.from_ k hk;exact⟨fun p hp=>(hx l hl).1 p (qU.mp hp),abl (BP l) (hx l hl).2⟩
def GR.mono {M:Nat}(h:GR N x) (k:N<=M):GR M x:=fun l hl=>⟨(h l hl).1,abl (h l hl).2 k⟩
def Xq {t:Bool}(hx:GR N x) (hy:GR N y) (hN:N<=400) (lx:x.length<=63) (ly:y.length<=63) (hn:(EK t x y).length<64):
  ∃r,UI [.t (.bl t),.t (.lst (x.map cN)),.t (.lst (y.map cN))]=some (.m (.lst (r.map cN)),[])/\Td (EK t x y) r:=by
 have hp:=GR.put (t:=t) hx hy;obtain⟨r,e,td⟩:=LW (b:=true) (x:=EK t x y) (fun l hl=>⟨(hp l hl).1.gb,by have:=(hp l hl).2;lia⟩) hn;refine⟨r,?_,td⟩;cases t with
 |false=>
  have e:yH [.t (.lst ((x++y).map cN))]=some (.m (.lst (r.map cN)),[]):=e;have h1:x.length<=100000:=by lia
  have h2:y.length<=100000:=by lia
  have h3:x.length<100000:=by lia
  have h4:y.length<100000:=by lia
  have h5:x.length+y.length<=100000:=by lia
  have h6:x.length+y.length<100000:=by lia
  rw[acg] at e;simp[UI,bH,lC,Xp,nh,dO,h1,h2,h3,h4,h5,h6,e,aT]
 |true=>
  have e:yH [.t (.lst ((prod x y).map cN))]=some (.m (.lst (r.map cN)),[]):=e;have hn:(prod x y).length<64:=hn;rw[DB] at hn;obtain⟨y4,q⟩:=GF (t:=.bl true) (s1:=AAA (.lst (x.map cN))) (y:=y) (by lia) (fun k hk=>by have:=(hy k hk).2;lia) x [] none rfl (fun k hk=>by have:=(hx k hk).2;lia) (by show 0+_<=1000;lia);have q:loop (bName 4) (jO yH) (x.map cN) [AAA (.bl true),AAA (.lst (x.map cN)),AAA (.lst (y.map cN)),AAB [],none]=some (.nx [AAA (.bl true),AAA (.lst (x.map cN)),AAA (.lst (y.map cN)),AAB ((prod x y).map cN),y4]):=q;show((lC yH [AAA (.bl true),AAA (.lst (x.map cN)),AAA (.lst (y.map cN)),none,none]).bind _)=_;have s0:Xp yH [AAA (.bl true),AAA (.lst (x.map cN)),AAA (.lst (y.map cN)),none,none]=some (.nx [AAA (.bl true),AAA (.lst (x.map cN)),AAA (.lst (y.map cN)),none,none]):=by simp[Xp]
  have s1:ps1 yH [AAA (.bl true),AAA (.lst (x.map cN)),AAA (.lst (y.map cN)),none,none]=some (.nx [AAA (.bl true),AAA (.lst (x.map cN)),AAA (.lst (y.map cN)),AAB [],none]):=by simp[-bD,br,ps1]
  have s2:ps2 yH [AAA (.bl true),AAA (.lst (x.map cN)),AAA (.lst (y.map cN)),AAB [],none]=some (.nx [AAA (.bl true),AAA (.lst (x.map cN)),AAA (.lst (y.map cN)),AAB ((prod x y).map cN),y4]):=by
   rw[<-q];simp[ps2,cU]
  rw[ps_eq,bE s0,bE s1,bE s2];simp[ps3,e,aT]
def dX (bq IE:FM):GS:=
 (aP (cu 2 (eT (cF 0 (eC (.int 0)))))
 (aP (iZ (qB (eF (eP xy (aa (eF (au 2)) (aa (eF (eP cM (aa (eC (.str "yes")) (aa (eC (.str "no")) aA)))) aA))))) (cG (Kg (qB (eF (eP ku (aa (eF (eP ku (aa (eF (au 2)) (aa (eC (.str "yes")) aA)))) (aa (eF (au 1)) aA))))) (eP dG (aa (eF (eP dG aA)) aA)) (eP dG aA))) cX)
 (aP (iZ (qB (eF (eP ku (aa (eF (au 2)) (aa (eC (.str "not")) aA))))) (cG (bu bq (aZ (cF 0 (eC (.int 1))) (aZ (eQ (nT (qB (eF (au 1))))) bO)))) cX)
 (aP (iZ (qB (eF (eP xy (aa (eF (au 2)) (aa (eF (eP cM (aa (eC (.str "both")) (aa (eC (.str "either")) aA)))) aA))))) (cG (bu IE (aZ (eF (eP ku (aa (eF (eP ku (aa (eF (au 2)) (aa (eC (.str "both")) aA)))) (aa (eF (au 1)) aA)))) (aZ (eF (bu bq (aZ (cF 0 (eC (.int 1))) (aZ (eF (au 1)) bO)))) (aZ (eF (bu bq (aZ (cF 0 (eC (.int 2))) (aZ (eF (au 1)) bO)))) bO))))) cX)
 (cG (eP dG (aa (eF (eP dG (aa (eF (eP cM (aa (eF (au 0)) (aa (eF (au 1)) aA)))) aA))) aA)))))))
def DS:Nat->FM
 |0=>fun _=>none
 |j+1=>bH 3 (dX (DS j) UI)
def SN (j:Nat):∀us r,DS (j+1) us=some r->bH 3 (dX (DS j) UI) us=some r:=fun _ _ h=>h
section
variable {f g:FM}{z:Str}{r:List D}{t:Bool}
noncomputable def YN:BBB:=["yes","no"]
noncomputable def BE:BBB:=["both","either"]
def vo (z:Str):xy [.str z,.tup [.str "yes",.str "no"]]=AAA (.bl (inD (.str z) (YN.map D.str))):=qN (.str z) YN
def BS (z:Str):xy [.str z,.tup [.str "both",.str "either"]]=AAA (.bl (inD (.str z) (BE.map D.str))):=qN (.str z) BE
def LY (h1:inD (.str z) (YN.map D.str)=false) (h2:¬z="not") (h3:inD (.str z) (BE.map D.str)=false):
  bH 3 (dX f g) [.t (.tup (.str z::r)),.t (.bl t)]=some (.m (.lst [.lst [.tup [.tup (.str z::r),.bl t]]]),[]):=by
 have i1:=vo z;have i2:=BS z;rw[h1] at i1;rw[h3] at i2;simp[bH,dX,jg,i1,i2,h2,aT]
def OQ (hz:z="yes"\/z="no"):bH 3 (dX f g) [.t (.tup [.str z]),.t (.bl t)]=some (.m (.lst (if decide (z="yes") == t then [.lst []] else [])),[]):=by
 have i1:=vo z;have h1:inD (.str z) (YN.map D.str)=true:=by rcases hz with rfl|rfl<;>decide
 rw[h1] at i1;have n1:¬(("no":Str)="yes"):=by decide
 rcases hz with rfl|rfl<;>cases t<;>simp[bH,dX,jg,i1,aT,iS,n1]
def SO {d:D}(e:f [.t d,.t (.bl (!t))]=some (.m (.lst o),[])):bH 3 (dX f g) [.t (.tup [.str "not",d]),.t (.bl t)]=some (.m (.lst o),[]):=by
 have i1:=vo "not";have h1:inD (.str "not") (YN.map D.str)=false:=by decide
 have a1:d7 [D.str "not",d] 1=some d:=rfl;rw[h1] at i1;simp[bH,dX,jg,i1,a1,e,aT]
def SQ {o1 o2:List D}(hz:z="both"\/z="either") (e1:f [.t d1,.t (.bl t)]=some (.m (.lst o1),[])) (e2:f [.t d2,.t (.bl t)]=some (.m (.lst o2),[])) (e3:g [.t (.bl ((z == ("both":Str)) == t)),.t (.lst o1),.t (.lst o2)]=some (.m (.lst o),[])):
  bH 3 (dX f g) [.t (.tup [.str z,d1,d2]),.t (.bl t)]=some (.m (.lst o),[]):=by
 have i1:=vo z;have i2:=BS z;have h1:inD (.str z) (YN.map D.str)=false:=by rcases hz with rfl|rfl<;>decide
 have h2:inD (.str z) (BE.map D.str)=true:=by rcases hz with rfl|rfl<;>decide
 have a1:d7 [D.str z,d1,d2] 1=some d1:=rfl;have a2:d7 [D.str z,d1,d2] 2=some d2:=rfl;have n:¬z="not":=by rcases hz with rfl|rfl<;>decide
 rw[h1] at i1;rw[h2] at i2;simp[bH,dX,jg,i1,i2,a1,a2,n,e1,e2,e3,aT]
end
def Xr {bs:BBB}{t:D}(h:Ts bs t):pl t=true/\bV t<=1:=by cases h<;>exact⟨rfl,aam _⟩
def LZ {bs:BBB}{d:D}(h:Sy n bs d):pl d=true/\bV d<=n+1:=by
 induction h with
 |leaf h=>exact⟨rfl,by show 1<=_;lia⟩
 |now h=>
  obtain⟨h1,h2⟩:=Xr h;exact⟨by show(true && (pl _ && true))=true;rw[h1];rfl,by show max 0 (max (bV _) 0)+1<=_;lia⟩
 |one hz _ ih=>exact⟨by show(true && (pl _ && true))=true;rw[ih.1];rfl,by have:=ih.2;show max 0 (max (bV _) 0)+1<=_;lia⟩
 |two hz _ _ i1 i2=>exact⟨by show(true && (pl _ && (pl _ && true)))=true;rw[i1.1,i2.1];rfl,by have:=i1.2;have:=i2.2;show max 0 (max (bV _) (max (bV _) 0))+1<=_;lia⟩
 |PY _ _ _ ih=>exact⟨by show(true && (true && (pl _ && true)))=true;rw[ih.1];rfl,by have:=ih.2;show max 0 (max 0 (max (bV _) 0))+1<=_;lia⟩
 |bnd _ _ _ _ ih=>exact⟨by show(true && (true && (true && (pl _ && true))))=true;rw[ih.1];rfl,by have:=ih.2;show max 0 (max 0 (max 0 (max (bV _) 0)))+1<=_;lia⟩
def L0 {bs:BBB}{d:D}(h:Sy n bs d):∃ds,d= .tup ds:=by cases h<;>exact⟨_,rfl⟩
def L1 {d:D}(h:Sy n [] d) (hn:n<=5):Gd d:=by
 have g:=h.good (fun y hy=>by cases hy);have:2 ^ n<=2 ^ 5:=acy (by lia) hn;exact⟨⟨(LZ h).1,by have:=(LZ h).2;lia,L0 h⟩,⟨n,by lia,h⟩,g.iT,by have:=g.w;lia⟩
def one_pow (n:Nat):1<=2 ^ n:=adY
def L3 {d:D}{t:Bool}(h:Gd d):GR (2 ^ n) [[(d,t)]]:=fun l hl=>by
 rw[aao.mp hl];exact⟨fun p hp=>by rw[aao.mp hp];exact h,one_pow n⟩
theorem DC:∀(n:Nat) (d:D) (t:Bool),Sy n [] d->n<=5->be n d<=5->∃r,DS n [.t d,.t (.bl t)]=some (.m (.lst (r.map cN)),[])/\GR (2 ^ n) r/\r.length<=2 ^ be n d
 |0,d,t,h,_,_=>by cases h
 |n+1,d,t,h,hn,hb=>by
  have gd:=L1 h (by lia);have Qc:∀{z:Str}{r:List D},d= .tup (.str z::r)->inD (.str z) (YN.map D.str)=false->¬z="not"->inD (.str z) (BE.map D.str)=false->∃r,DS (n+1) [.t d,.t (.bl t)]=some (.m (.lst (r.map cN)),[])/\GR (2 ^ (n+1)) r/\r.length<=2 ^ be (n+1) d:=fun e h1 h2 h3=>by
   refine⟨[[(d,t)]],?_,L3 gd,one_pow _⟩;subst e;exact LY h1 h2 h3
  cases h with
  |@leaf _ _ z hz=>
   refine⟨if decide (z="yes") == t then [[]] else [],?_,fun l hl=>?_,?_⟩
   ·show bH 3 _ _=_;rw[OQ hz];split<;>rfl
   ·split at hl
    ·rw[aao.mp hl];exact⟨fun p hp=>(by cases hp),abH _⟩
    ·cases hl
   ·have:=one_pow (be (n+1) (.tup [.str z]));split
    ·exact this
    ·exact abH _
  |now h=>exact Qc rfl (by decide) (by decide) (by decide)
  |@one _ _ z p hz hp=>
   rcases vg hz with rfl|rfl|rfl|rfl
   ·have e:be (n+1) (.tup [.str "not",p])=be n p:=if_pos rfl;rw[e] at hb ⊢;obtain⟨r,e1,g,l⟩:=DC n p (!t) hp (by lia) hb;exact⟨r,SO e1,g.mono (by rw[acV];lia),l⟩
   ·exact Qc rfl (by decide) (by decide) (by decide)
   ·exact Qc rfl (by decide) (by decide) (by decide)
   ·exact Qc rfl (by decide) (by decide) (by decide)
  |@two _ _ z p q hz hp hq=>
   have main:(z="both"\/z="either")->∃r,DS (n+1) [.t (.tup [.str z,p,q]),.t (.bl t)]=some (.m (.lst (r.map cN)),[])/\GR (2 ^ (n+1)) r/\r.length<=2 ^ be (n+1) (.tup [.str z,p,q]):=fun hz=>by
    have e:be (n+1) (.tup [.str z,p,q])=be n p+be n q+1:=if_pos hz;rw[e] at hb ⊢;obtain⟨r1,e1,g1,l1⟩:=DC n p t hp (by lia) (by lia);obtain⟨r2,e2,g2,l2⟩:=DC n q t hq (by lia) (by lia);have hN:2 ^ n<=2 ^ 5:=acy (by lia) (by lia);have p1:2 ^ be n p<=2 ^ 4:=acy (by lia) (by lia);have p2:2 ^ be n q<=2 ^ 4:=acy (by lia) (by lia);have hl:(EK ((z == ("both":Str)) == t) r1 r2).length<=2 ^ (be n p+be n q+1):=by
     have k1:=one_pow (be n p);have k2:=one_pow (be n q);have m1:r1.length*r2.length<=2 ^ be n p*2 ^ be n q:=Nat.mul_le_mul l1 l2;have m2:2 ^ be n p*1<=2 ^ be n p*2 ^ be n q:=adQ _ k2;have m3:1*2 ^ be n q<=2 ^ be n p*2 ^ be n q:=Nat.mul_le_mul_right _ k1;rw[acV,Nat.pow_add];unfold EK;split
     ·rw[DB];lia
     ·rw[aan];lia
    have h5:2 ^ (be n p+be n q+1)<=2 ^ 5:=acy (by lia) (by lia);obtain⟨r,e3,td⟩:=Xq (t:=(z == ("both":Str)) == t) g1 g2 (by lia) (by lia) (by lia) (by lia);refine⟨r,SQ hz e1 e2 e3,((g1.put g2).SM td).mono (by rw[acV];lia),by have:=td.len;lia⟩
   rcases vh hz with rfl|rfl|rfl
   ·exact main (.inl rfl)
   ·exact main (.inr rfl)
   ·exact Qc rfl (by decide) (by decide) (by decide)
  |PY _ _ _=>exact Qc rfl (by decide) (by decide) (by decide)
  |@bnd _ _ z _ _ _ hz _ _ _=>
   rcases hz with rfl|rfl
   ·exact Qc rfl (by decide) (by decide) (by decide)
   ·exact Qc rfl (by decide) (by decide) (by decide)
def fh:GS:=
 (aP (iZ (qB (eF (eP ku (aa (cF 0 (eC (.int 0))) (aa (eC (.str "any")) aA))))) (cG (eT (eC (.bl true)))) cX)
 (aP (iZ (qB (eF (eP ku (aa (cF 0 (eC (.int 0))) (aa (eC (.str "name")) aA))))) (cG (eP ku (aa (cF 0 (eC (.int 1))) (aa (cF 1 (eC (.int 0))) aA)))) cX)
 (aP (cu 3 (eT (xN 2 (cF 0 (eC (.int 1))) (cF 0 (eC (.int 1))))))
 (cG (eT (C7 (xF [("less",(eF (eP El (aa (cF 1 (eC (.int 1))) (aa (eF (au 3)) aA))))),("same",(eF (eP ku (aa (cF 1 (eC (.int 1))) (aa (eF (au 3)) aA))))),("more",(eF (eP Pk (aa (cF 1 (eC (.int 1))) (aa (eF (au 3)) aA)))))]) (cF 0 (eC (.int 0)))))))))
def ze:FM:=bH 4 fh
def SR:∀us r,ze us=some r->bH 4 fh us=some r:=fun _ _ h=>h
structure Kn (bs:BBB) (kvs:List (Key×D)):Prop where
 all:∀kv∈kvs,∃(y:Str) (k:Int),kv=(.inr y,.int k)
 has:∀y∈bs,∃k:Int,bT kvs (.inr y)=some (.int k)
 len:kvs.length<=bs.length
def Kn.inl {bs:BBB}{kvs:List (Key×D)}(h:Kn bs kvs) (k:Int):bT kvs (.inl k)=none:=by
 unfold bT;rw[Option.map_eq_none_iff,aeW];intro kv hkv e;obtain⟨y,j,rfl⟩:=h.all kv hkv;have e:=acd e;cases e
noncomputable def kG (p:Str×Int):D:=.tup [.str p.1,.int p.2]
def lkc (x y w:D):bT (mh [] [((.inr "less":Key),x),(.inr "same",y),(.inr "more",w)]) (.inr "less")=some x/\bT (mh [] [((.inr "less":Key),x),(.inr "same",y),(.inr "more",w)]) (.inr "same")=some y/\bT (mh [] [((.inr "less":Key),x),(.inr "same",y),(.inr "more",w)]) (.inr "more")=some w:=⟨rfl,rfl,rfl⟩
def L4 {t1:D}{o a:Str}{v k:Int}{g:Option D}(ho:o∈yq) (hg:HH (.b (.dct kvs)) t1=some g) (hd:g.getD t1= .int k):
  ∃b,ze [.t (.tup [.str o,t1]),.t (kG (a,v)),.b (.dct kvs)]=some (.t (.bl b),[.dct kvs]):=by
 have a1:d7 [D.str o,t1] 1=some t1:=rfl;have b1:d7 [D.str a,D.int v] 1=some (.int v):=rfl;have n1:=(LB ho).1;have n2:=(LB ho).2;simp only[yq,aav,abG,acA] at ho;rcases ho with rfl|rfl|rfl
 ·refine⟨decide (v<k),?_⟩;simp[ze,bH,fh,kG,jg,a1,b1,n1,n2,xN,rA,hg,hd,C7,xF,lq,keyOf,aT,El,Pk,(lkc _ _ _).1]
 ·refine⟨v == k,?_⟩;simp[ze,bH,fh,kG,jg,a1,b1,n1,n2,xN,rA,hg,hd,C7,xF,lq,keyOf,aT,El,Pk,(lkc _ _ _).2.1]
 ·refine⟨decide (k<v),?_⟩;simp[ze,bH,fh,kG,jg,a1,b1,n1,n2,xN,rA,hg,hd,C7,xF,lq,keyOf,aT,El,Pk,(lkc _ _ _).2.2]
def Xs {bs:BBB}{t:D}{p:Str×Int}(h:Ts bs t) (hk:Kn bs kvs):∃b,ze [.t t,.t (kG p),.b (.dct kvs)]=some (.t (.bl b),[.dct kvs]):=by
 obtain⟨a,v⟩:=p;cases h with
 |any=>exact⟨true,by simp[ze,bH,fh,jg,aT]⟩
 |@name y h=>
  have a1:d7 [D.str "name",.str y] 1=some (.str y):=rfl;have n:¬(("name":Str)="any"):=by decide
  exact⟨y == a,by simp[ze,bH,fh,kG,jg,a1,n,aT]⟩
 |@num o k ho k0 k1=>exact L4 (g:=none) (k:=k) ho (by show((keyOf (.int k)).map (bT kvs))=_;show some (bT kvs (.inl k))=_;rw[hk.inl]) rfl
 |@var o y ho hy=>
  obtain⟨k,e⟩:=hk.has y hy;exact L4 (g:=some (.int k)) (k:=k) ho (by show some (bT kvs (.inr y))=_;rw[e]) rfl
def dc (aL aJ:FM):GS:=
 (aP (iZ (qB (eF (bu aJ (aZ (cF 0 (eC (.int 2))) (aZ (eF (au 1)) (aZ (eF (au 6)) (cD (au 3) bO))))))) (cG (eT (eC (.bl true)))) cX)
 (iZ (nT (qB (eF (bu aJ (aZ (cF 0 (eC (.int 1))) (aZ (eF (au 1)) (aZ (eF (au 6)) (cD (au 3) bO)))))))) (cG (eT (eC (.bl false)))) cX))
def fR (aL aJ:FM):GS:=
 (iZ (qB (eF (eP ku (aa (eF (eP A6 (aa (cF 1 (eF (au 6))) (aa (eC (.int 0)) aA)))) (aa (cF 0 (eC (.int 1))) aA))))) (aP (cu 7 (xQ 3))
 (aP (zA 7 (cF 0 (eC (.int 2))) (eF (eP A6 (aa (cF 1 (eF (au 6))) (aa (eC (.int 1)) aA)))))
 (j8 (eT (eM 5 hAppend (aa (eF (bu aJ (aZ (cF 0 (eC (.int 3))) (aZ (eF (au 1)) (aZ (eF (au 6)) (cD (au 7) bO)))))) aA)))))) cX)
def hs0 (aL aJ:FM):GS:=
 (cu 4 (eT (cF 0 (eC (.int 0)))))
def hs1 (aL aJ:FM):GS:=
 (iZ (qB (eF (eP xy (aa (eF (au 4)) (aa (eF (eP cM (aa (eC (.str "yes")) (aa (eC (.str "no")) aA)))) aA))))) (cG (eP ku (aa (eF (au 4)) (aa (eC (.str "yes")) aA)))) cX)
def hs2 (aL aJ:FM):GS:=
 (iZ (qB (eF (eP ku (aa (eF (au 4)) (aa (eC (.str "now")) aA))))) (cG (eT (eQ (uM (qB (eF (eP El (aa (eF (au 2)) (aa (jQ 1) aA))))) (qB (eF (bu aL (aZ (cF 0 (eC (.int 1))) (aZ (cF 1 (eF (au 2))) (cD (au 3) bO)))))))))) cX)
def Nl (aL aJ:FM):GS:=
 (iZ (qB (eF (eP ku (aa (eF (au 4)) (aa (eC (.str "not")) aA))))) (cG (eT (eQ (nT (qB (eF (bu aJ (aZ (cF 0 (eC (.int 1))) (aZ (eF (au 1)) (aZ (eF (au 2)) (cD (au 3) bO))))))))))) cX)
def Mr (aL aJ:FM):GS:=
 (iZ (qB (eF (eP xy (aa (eF (au 4)) (aa (eF (eP cM (aa (eC (.str "both")) (aa (eC (.str "either")) aA)))) aA))))) (aP (cu 5 (cT [2,3,1] (iA (eF (IQ (eF (au 0)) (some (eC (.int 1))) none))) bQ (eF (bu aJ (aZ (eF (au 0)) (aZ (eF (au 3)) (aZ (eF (au 1)) (cD (au 2) bO))))))))
 (cG (Kg (qB (eF (eP ku (aa (eF (au 4)) (aa (eC (.str "both")) aA))))) (eT (nv xA 5)) (eT (nv wm 5))))) cX)
def SV (aL aJ:FM):GS:=
 (iZ (qB (eF (eP ku (aa (eF (au 4)) (aa (eC (.str "next")) aA))))) (cG (eT (eQ (uM (qB (eF (eP El (aa (eF (au 2)) (aa (jQ 1) aA))))) (qB (eF (bu aJ (aZ (cF 0 (eC (.int 1))) (aZ (eF (au 1)) (aZ (eF (eP dO (aa (eF (au 2)) (aa (eC (.int 1)) aA)))) (cD (au 3) bO))))))))))) cX)
def Xu (aL aJ:FM):GS:=
 (iZ (qB (eF (eP ku (aa (eF (au 4)) (aa (eC (.str "till")) aA))))) (aP (iF (bName 6) (vN (aa (eF (au 2)) (aa (jQ 1) aA))) (dc aL aJ))
 (cG (eT (eC (.bl false))))) cX)
def Xv (aL aJ:FM):GS:=
 (iZ (qB (eF (eP ku (aa (eF (au 4)) (aa (eC (.str "within")) aA))))) (cG (eP wm (aa (eF (cT [3,1,0] (vN (aa (eF (au 2)) (aa (eF (eP z9 (aa (eF (eP dO (aa (eF (au 2)) (aa (cF 0 (eC (.int 1))) aA)))) (aa (jQ 1) aA)))) aA))) bQ (eF (bu aJ (aZ (cF 3 (eC (.int 2))) (aZ (eF (au 2)) (aZ (eF (au 0)) (cD (au 1) bO)))))))) aA))) cX)
def Xw (aL aJ:FM):GS:=
 (iZ (qB (eF (eP xy (aa (eF (au 4)) (aa (eF (eP cM (aa (eC (.str "always")) (aa (eC (.str "some")) aA)))) aA))))) (aP (cu 5 (cT [3,1,0] (vN (aa (eF (au 2)) (aa (jQ 1) aA))) bQ (eF (bu aJ (aZ (cF 3 (eC (.int 1))) (aZ (eF (au 2)) (aZ (eF (au 0)) (cD (au 1) bO))))))))
 (cG (Kg (qB (eF (eP ku (aa (eF (au 4)) (aa (eC (.str "always")) aA))))) (eT (nv xA 5)) (eT (nv wm 5))))) cX)
def hs9 (aL aJ:FM):GS:=
 (cu 5 (eP dG aA))
def SW (aL aJ:FM):GS:=
 (iF (bName 6) (vN (aa (eF (au 2)) (aa (jQ 1) aA))) (fR aL aJ))
def SX (aL aJ:FM):GS:=
 (cG (Kg (qB (eF (eP ku (aa (eF (au 4)) (aa (eC (.str "each")) aA))))) (eT (nv xA 5)) (eT (nv wm 5))))
def gO (aL aJ:FM):GS:=aP (hs0 aL aJ) (aP (hs1 aL aJ) (aP (hs2 aL aJ) (aP (Nl aL aJ) (aP (Mr aL aJ) (aP (SV aL aJ) (aP (Xu aL aJ) (aP (Xv aL aJ) (aP (Xw aL aJ) (aP (hs9 aL aJ) (aP (SW aL aJ) (SX aL aJ)))))))))))
def hs_eq (aL aJ:FM):gO aL aJ=aP (hs0 aL aJ) (aP (hs1 aL aJ) (aP (hs2 aL aJ) (aP (Nl aL aJ) (aP (Mr aL aJ) (aP (SV aL aJ) (aP (Xu aL aJ) (aP (Xv aL aJ) (aP (Xw aL aJ) (aP (hs9 aL aJ) (aP (SW aL aJ) (SX aL aJ))))))))))):=rfl
def IF:Nat->FM
 |0=>fun _=>none
 |j+1=>bH 8 (gO ze (IF j))
def SY (j:Nat):∀us r,IF (j+1) us=some r->bH 8 (gO ze (IF j)) us=some r:=fun _ _ h=>h
section
variable {f g:FM}{z:Str}{r row:List D}{at':Int}{kvs:List (Key×D)}{x5 x6 x7:Option U}
noncomputable abbrev hS (d:D) (row:List D) (at':Int) (kvs:List (Key×D)) (z:Str) (x5 x6 x7:Option U):SS:=[AAA d,AAA (.tup row),AAC at',some (.b (.dct kvs)),AAA (.str z),x5,x6,x7]
def h0:hs0 f g [AAA (.tup (.str z::r)),AAA (.tup row),AAC at',some (.b (.dct kvs)),none,none,none,none]=some (.nx (hS (.tup (.str z::r)) row at' kvs z none none none)):=by simp[-bD,br,hs0,jg]
def k1 (h:inD (.str z) (YN.map D.str)=false):hs1 f g (hS (.tup (.str z::r)) row at' kvs z x5 x6 x7)=some (.nx (hS (.tup (.str z::r)) row at' kvs z x5 x6 x7)):=by
 have i:=vo z;rw[h] at i;simp[hs1,i]
def k2 (h:¬z="now"):hs2 f g (hS (.tup (.str z::r)) row at' kvs z x5 x6 x7)=some (.nx (hS (.tup (.str z::r)) row at' kvs z x5 x6 x7)):=by simp[hs2,h]
def k3 (h:¬z="not"):Nl f g (hS (.tup (.str z::r)) row at' kvs z x5 x6 x7)=some (.nx (hS (.tup (.str z::r)) row at' kvs z x5 x6 x7)):=by simp[Nl,h]
def k4 (h:inD (.str z) (BE.map D.str)=false):Mr f g (hS (.tup (.str z::r)) row at' kvs z x5 x6 x7)=some (.nx (hS (.tup (.str z::r)) row at' kvs z x5 x6 x7)):=by
 have i:=BS z;rw[h] at i;simp[Mr,i]
def k5 (h:¬z="next"):SV f g (hS (.tup (.str z::r)) row at' kvs z x5 x6 x7)=some (.nx (hS (.tup (.str z::r)) row at' kvs z x5 x6 x7)):=by simp[SV,h]
def k6 (h:¬z="till"):Xu f g (hS (.tup (.str z::r)) row at' kvs z x5 x6 x7)=some (.nx (hS (.tup (.str z::r)) row at' kvs z x5 x6 x7)):=by simp[Xu,h]
def k7 (h:¬z="within"):Xv f g (hS (.tup (.str z::r)) row at' kvs z x5 x6 x7)=some (.nx (hS (.tup (.str z::r)) row at' kvs z x5 x6 x7)):=by simp[Xv,h]
noncomputable def AS:BBB:=["always","some"]
def L5 (z:Str):xy [.str z,.tup [.str "always",.str "some"]]=AAA (.bl (inD (.str z) (AS.map D.str))):=qN (.str z) AS
def k8 (h:inD (.str z) (AS.map D.str)=false):Xw f g (hS (.tup (.str z::r)) row at' kvs z x5 x6 x7)=some (.nx (hS (.tup (.str z::r)) row at' kvs z x5 x6 x7)):=by
 have i:=L5 z;rw[h] at i;simp[Xw,i]
end
def rZ (g:FM) (p:D) (row:List D) (kvs:List (Key×D)):Prop:=∀a:Nat,a<=row.length->∃b,g [.t p,.t (.tup row),.t (.int (a:Nat)),.b (.dct kvs)]=some (.t (.bl b),[.dct kvs])
def Fin (d:D) (row:List D) (at':Int) (kvs:List (Key×D)) (o:Option Out):Prop:=∃b rest,o=some (.rt (.t (.bl b)) (AAA d::AAA (.tup row)::AAC at'::some (.b (.dct kvs))::rest))
def Fin.run {f g:FM}{d:D}{row:List D}{at':Int}(h:Fin d row at' kvs (gO f g [AAA d,AAA (.tup row),AAC at',some (.b (.dct kvs)),none,none,none,none])):
  ∃b,bH 8 (gO f g) [.t d,.t (.tup row),.t (.int at'),.b (.dct kvs)]=some (.t (.bl b),[.dct kvs]):=by
 obtain⟨b,rest,e⟩:=h;refine⟨b,?_⟩;show((gO f g [AAA d,AAA (.tup row),AAC at',some (.b (.dct kvs)),none,none,none,none]).bind _)=_;rw[e];simp[aT]
def yI {h:GS}{S1:SS}{u:U}(e:g S=some (.rt u S1)):aP g h S=some (.rt u S1):=by
 show(g S).bind _=_;rw[e];rfl
def L6 {l:List D}{a:Nat}{d:D}(h:l[a]? =some d):d7 l (a:Int)=some d:=Sq.Lh (by lia) (by simpa using h)
theorem wN {cap:BBJ}{g:GD}{S:SS}:∀(ds acc:List D),(∀d∈ds,∀acc,∃b,cg cap bQ g [d] S acc=some (acc++[.bl b],S))->∃bl:List Bool,cg cap bQ g ds S acc=some (acc++bl.map D.bl,S)
 |[],acc,_=>⟨[],by simp[cg]⟩
 |d::ds,acc,h=>by
  obtain⟨b,e⟩:=h d aal acc;obtain⟨bl,e2⟩:=wN ds (acc++[.bl b]) fun x hx=>h x (aaj _ hx);refine⟨b::bl,?_⟩;rw[Sq.n6,e,aad];show cg cap bQ g ds S _=_;rw[e2];simp
theorem iM:∀bl:List Bool,i9 (bl.map D.bl)=some bl
 |[]=>rfl
 |b::bl=>by show(i9 (bl.map D.bl)).map _=_;rw[iM bl];rfl
def EL {a:Nat}{d:D}(h:d∈iX (a:Int) ((n:Int)-a).toNat):∃s:Nat,d= .int (s:Nat)/\a<=s/\s<n:=by
 unfold iX at h;obtain⟨i,hi,rfl⟩:=abt.mp h;have:=ack.mp hi;exact⟨a+i,by push_cast;rfl,by lia,by lia⟩
section
variable {f g:FM}{row:List D}{a:Nat}{kvs:List (Key×D)}{p q:D}{z:Str}
def S5 (hz:z="yes"\/z="no"):Fin (.tup [.str z]) row a kvs (hs1 f g (hS (.tup [.str z]) row a kvs z none none none)):=by
 have i:=vo z;have h1:inD (.str z) (YN.map D.str)=true:=by rcases hz with rfl|rfl<;>decide
 rw[h1] at i;exact⟨z == "yes",_,by simp[hs1,i];rfl⟩
def Xx {bs:BBB}(ht:Ts bs p) (hk:Kn bs kvs) (hr:∀h∈row,∃x,h=kG x):Fin (.tup [.str "now",p]) row a kvs (hs2 ze g (hS (.tup [.str "now",p]) row a kvs "now" none none none)):=by
 have a1:d7 [D.str "now",p] 1=some p:=rfl;by_cases h:a<row.length
 ·obtain⟨hd,e⟩:∃hd,row[a]? =some hd:=⟨row[a],aaz h⟩
  obtain⟨x,rfl⟩:=hr hd (abK e);obtain⟨b,e2⟩:=Xs (p:=x) ht hk;have e3:=L6 e;have h':(a:Int)<row.length:=by lia
  exact⟨b,_,by simp[hs2,a1,e3,e2,h',El];rfl⟩
 ·have h':¬(a:Int)<row.length:=by lia
  exact⟨false,_,by simp[hs2,h',El];rfl⟩
def Xy (h:rZ g p row kvs) (ha:a<=row.length):Fin (.tup [.str "not",p]) row a kvs (Nl f g (hS (.tup [.str "not",p]) row a kvs "not" none none none)):=by
 have a1:d7 [D.str "not",p] 1=some p:=rfl;obtain⟨b,e⟩:=h a ha;exact⟨!b,_,by simp[Nl,a1,e];rfl⟩
def S6 (h:rZ g p row kvs):Fin (.tup [.str "next",p]) row a kvs (SV f g (hS (.tup [.str "next",p]) row a kvs "next" none none none)):=by
 have a1:d7 [D.str "next",p] 1=some p:=rfl;by_cases h1:a<row.length
 ·obtain⟨b,e⟩:=h (a+1) (by lia);have h':(a:Int)<row.length:=by lia
  have e:g [.t p,.t (.tup row),.t (.int ((a:Int)+1)),.b (.dct kvs)]=some (.t (.bl b),[.dct kvs]):=e;exact⟨b,_,by simp[SV,a1,e,h',El];rfl⟩
 ·have h':¬(a:Int)<row.length:=by lia
  exact⟨false,_,by simp[SV,h',El];rfl⟩
def Xz (hz:z="both"\/z="either") (h1:rZ g p row kvs) (h2:rZ g q row kvs) (ha:a<=row.length):Fin (.tup [.str z,p,q]) row a kvs (Mr f g (hS (.tup [.str z,p,q]) row a kvs z none none none)):=by
 have i:=BS z;have hi:inD (.str z) (BE.map D.str)=true:=by rcases hz with rfl|rfl<;>decide
 rw[hi] at i;obtain⟨bl,e⟩:=wN (cap:=[2,3,1]) (g:=eF (bu g (aZ (eF (au 0)) (aZ (eF (au 3)) (aZ (eF (au 1)) (cD (au 2) bO)))))) (S:=hS (.tup [.str z,p,q]) row a kvs z none none none) [p,q] [] (fun d hd acc=>by
  obtain⟨b,e⟩:∃b,g [.t d,.t (.tup row),.t (.int (a:Nat)),.b (.dct kvs)]=some (.t (.bl b),[.dct kvs]):=by
   rcases aav.mp hd with rfl|hd
   ·exact h1 a ha
   ·rw[aao.mp hd];exact h2 a ha
  exact⟨b,by simp[cg,dH,l9,bQ,e,aT]⟩)
 rw[abZ] at e;have ec:L2.cutD [D.str z,p,q] (some 1) none=[p,q]:=rfl;have n:¬(("either":Str)="both"):=by decide
 rcases hz with rfl|rfl
 ·exact⟨bl.all id,[AAA (.str "both"),AAB (bl.map D.bl),none,none],by simp[-bD,br,Mr,i,cU,ec,e,iM,iW]⟩
 ·exact⟨bl.any id,[AAA (.str "either"),AAB (bl.map D.bl),none,none],by simp[-bD,br,Mr,i,cU,ec,e,iM,iW,n]⟩
def EM (ha:a<=row.length) (hr:row.length<=1000){S:SS}{y5 y6 y7:Option U}{d:D}:vN (aa (eF (au 2)) (aa (jQ 1) aA)) (hS d row a kvs z y5 y6 y7)=some (iX (a:Int) ((row.length:Int)-a).toNat,hS d row a kvs z y5 y6 y7):=by
 have h1:(a:Int)<1000000:=by lia
 have h2:(-1000000:Int)<a:=by lia
 have h3:(row.length:Int)<1000000:=by lia
 have h4:(-1000000:Int)<row.length:=by lia
 have e:aa (eF (au 2)) (aa (jQ 1) aA) (hS d row a kvs z y5 y6 y7)=some ([.int (a:Int),.int (row.length:Int)],hS d row a kvs z y5 y6 y7):=by simp
 rw[FA,e,aad];exact if_pos ⟨h1,h2,h3,h4⟩
def Zh (g:FM):GD:=eF (bu g (aZ (cF 3 (eC (.int 1))) (aZ (eF (au 2)) (aZ (eF (au 0)) (cD (au 1) bO)))))
def S7 {s:Nat}{b:Bool}(e:g [.t p,.t (.tup row),.t (.int (s:Nat)),.b (.dct kvs)]=some (.t (.bl b),[.dct kvs])):cg [3,1,0] bQ (Zh g) [.int (s:Nat)] (hS (.tup [.str z,p]) row a kvs z none none none) acc=some (acc++[.bl b],hS (.tup [.str z,p]) row a kvs z none none none):=by
 have a1:d7 [D.str z,p] 1=some p:=rfl;simp[cg,dH,l9,bQ,Zh,a1,e,aT]
def S8 (h1:rZ g p row kvs):∃bl:List Bool,cg [3,1,0] bQ (Zh g) (iX (a:Int) ((row.length:Int)-a).toNat) (hS (.tup [.str z,p]) row a kvs z none none none) []=some (bl.map D.bl,hS (.tup [.str z,p]) row a kvs z none none none):=by
 obtain⟨bl,e⟩:=wN (cap:=[3,1,0]) (g:=Zh g) (S:=hS (.tup [.str z,p]) row a kvs z none none none) (iX (a:Int) ((row.length:Int)-a).toNat) [] (fun d hd acc=>by
  obtain⟨s,rfl,s0,s1⟩:=EL hd;obtain⟨b,e⟩:=h1 s (by lia);exact⟨b,S7 e⟩)
 exact⟨bl,e⟩
def yJ {cap:BBJ}(er:gi S=some (R,S)) (el:R.length<=100000) (e:cg cap bQ G R S []=some (o,S)):cT cap gi bQ G S=some (.m (.lst o),S):=by
 simp[er,el,e]
def OR (ha:a<=row.length) (hr:row.length<=1000):(iX (a:Int) ((row.length:Int)-a).toNat).length<=100000:=by
 unfold iX;rw[aah,ab6];lia
def S9 (hz:z="always"\/z="some")(ec:cT [3,1,0] gi bQ G (hS (.tup [.str z,p]) row a kvs z none none none)=some (.m (.lst (bl.map D.bl)),hS (.tup [.str z,p]) row a kvs z none none none)):
  Fin (.tup [.str z,p]) row a kvs (iZ (qB (eF (eP xy (aa (eF (au 4)) (aa (eF (eP cM (aa (eC (.str "always")) (aa (eC (.str "some")) aA)))) aA))))) (aP (cu 5 (cT [3,1,0] gi bQ G)) (cG (Kg (qB (eF (eP ku (aa (eF (au 4)) (aa (eC (.str "always")) aA))))) (eT (nv xA 5)) (eT (nv wm 5))))) cX (hS (.tup [.str z,p]) row a kvs z none none none)):=by
 have i:=L5 z;have hi:inD (.str z) (AS.map D.str)=true:=by rcases hz with rfl|rfl<;>decide
 rw[hi] at i;have n:¬(("some":Str)="always"):=by decide
 rcases hz with rfl|rfl
 ·exact⟨bl.all id,[AAA (.str "always"),AAB (bl.map D.bl),none,none],by simp[-bD,br,-tV,i,ec,iM,iW]⟩
 ·exact⟨bl.any id,[AAA (.str "some"),AAB (bl.map D.bl),none,none],by simp[-bD,br,-tV,i,ec,iM,iW,n]⟩
def XA (hz:z="always"\/z="some") (h1:rZ g p row kvs) (ha:a<=row.length) (hr:row.length<=1000):Fin (.tup [.str z,p]) row a kvs (Xw f g (hS (.tup [.str z,p]) row a kvs z none none none)):=by
 obtain⟨bl,e⟩:=S8 (z:=z) (a:=a) h1;exact S9 hz (yJ (EM (S:=[]) ha hr) (OR ha hr) e)
end
def OS {a:Nat}{m:Int}{d:D}(h:d∈iX (a:Int) (m-a).toNat):∃s:Nat,d= .int (s:Nat)/\a<=s/\(s:Int)<m:=by
 unfold iX at h;obtain⟨i,hi,rfl⟩:=abt.mp h;have:=ack.mp hi;exact⟨a+i,by push_cast;rfl,by lia,by lia⟩
def OT {gA:GA}{i j:Int}(e:gA S=some ([.int i,.int j],S)) (h1:i<1000000) (h2:-1000000<i) (h3:j<1000000) (h4:-1000000<j):vN gA S=some (iX i (j-i).toNat,S):=by
 rw[FA,e,aad];exact if_pos ⟨h1,h2,h3,h4⟩
section
variable {f g:FM}{row:List D}{a:Nat}{kvs:List (Key×D)}{p q:D}{z:Str}
def wiG (g:FM):GD:=eF (bu g (aZ (cF 3 (eC (.int 2))) (aZ (eF (au 2)) (aZ (eF (au 0)) (cD (au 1) bO)))))
def Tc {s:Nat}{b:Bool}{k:D}(e:g [.t p,.t (.tup row),.t (.int (s:Nat)),.b (.dct kvs)]=some (.t (.bl b),[.dct kvs])):cg [3,1,0] bQ (wiG g) [.int (s:Nat)] (hS (.tup [.str z,k,p]) row a kvs z none none none) acc=some (acc++[.bl b],hS (.tup [.str z,k,p]) row a kvs z none none none):=by
 have a1:d7 [D.str z,k,p] 2=some p:=rfl;simp[cg,dH,l9,bQ,wiG,a1,e,aT]
def Te {k:D}(ec:cT [3,1,0] gi bQ G (hS (.tup [.str "within",k,p]) row a kvs "within" none none none)=some (.m (.lst (bl.map D.bl)),hS (.tup [.str "within",k,p]) row a kvs "within" none none none)):
  Fin (.tup [.str "within",k,p]) row a kvs (iZ (qB (eF (eP ku (aa (eF (au 4)) (aa (eC (.str "within")) aA))))) (cG (eP wm (aa (eF (cT [3,1,0] gi bQ G)) aA))) cX (hS (.tup [.str "within",k,p]) row a kvs "within" none none none)):=
 ⟨bl.any id,[AAA (.str "within"),none,none,none],by simp[-tV,ec,iM]⟩
def abL {k:Int}(k0:0<=k) (k5:k<=5) (h1:rZ g p row kvs) (ha:a<=row.length) (hr:row.length<=1000):Fin (.tup [.str "within",.int k,p]) row a kvs (Xv f g (hS (.tup [.str "within",.int k,p]) row a kvs "within" none none none)):=by
 have a1:d7 [D.str "within",.int k,p] 1=some (.int k):=rfl;have em:aa (eF (au 2)) (aa (eF (eP z9 (aa (eF (eP dO (aa (eF (au 2)) (aa (cF 0 (eC (.int 1))) aA)))) (aa (jQ 1) aA)))) aA) (hS (.tup [.str "within",.int k,p]) row a kvs "within" none none none)=some ([.int (a:Int),.int (if(row.length:Int)<a+k then row.length else a+k)],hS (.tup [.str "within",.int k,p]) row a kvs "within" none none none):=by
  simp[a1,dO]
 have hm:(if(row.length:Int)<a+k then(row.length:Int) else a+k)<=row.length/\(0:Int)<=(if(row.length:Int)<a+k then(row.length:Int) else a+k):=by split<;>lia
 generalize (if(row.length:Int)<a+k then(row.length:Int) else a+k)=m at em hm;have er:=OT em (by lia) (by lia) (by lia) (by lia);obtain⟨bl,e⟩:=wN (cap:=[3,1,0]) (g:=wiG g) (S:=hS (.tup [.str "within",.int k,p]) row a kvs "within" none none none) (iX (a:Int) (m-a).toNat) [] (fun d hd acc=>by
  obtain⟨s,rfl,s0,s1⟩:=OS hd;obtain⟨b,e⟩:=h1 s (by lia);exact⟨b,Tc e⟩)
 have el:(iX (a:Int) (m-a).toNat).length<=100000:=by unfold iX;rw[aah,ab6];lia
 exact Te (yJ er el e)
theorem GG (h1:rZ g p row kvs) (h2:rZ g q row kvs):∀(ds:List D) (x6:Option U),(∀d∈ds,∃s:Nat,d= .int (s:Nat)/\s<=row.length)->dP x6=false->
  ∃y6,(∃b,loop (bName 6) (dc f g) ds (hS (.tup [.str z,p,q]) row a kvs z none x6 none)=some (.rt (.t (.bl b)) (hS (.tup [.str z,p,q]) row a kvs z none y6 none)))\/loop (bName 6) (dc f g) ds (hS (.tup [.str z,p,q]) row a kvs z none x6 none)=some (.nx (hS (.tup [.str z,p,q]) row a kvs z none y6 none))
 |[],x6,_,_=>⟨x6,.inr rfl⟩
 |d::ds,x6,hd,h6=>by
  obtain⟨s,rfl,s1⟩:=hd d aal;obtain⟨b2,e2⟩:=h2 s s1;obtain⟨b1,e1⟩:=h1 s s1;have a1:d7 [D.str z,p,q] 1=some p:=rfl;have a2:d7 [D.str z,p,q] 2=some q:=rfl;have eb:bName 6 (.int (s:Nat)) (hS (.tup [.str z,p,q]) row a kvs z none x6 none)=some (hS (.tup [.str z,p,q]) row a kvs z none (AAC (s:Nat)) none):=by simp[-bD,br,h6]
  cases b2 with
  |true=>
   have tn:dc f g (hS (.tup [.str z,p,q]) row a kvs z none (AAC (s:Nat)) none)=some (.rt (.t (.bl true)) (hS (.tup [.str z,p,q]) row a kvs z none (AAC (s:Nat)) none)):=by simp[dc,a2,e2]
   exact⟨_,.inl ⟨true,by rw[fy,eb,aad,tn];rfl⟩⟩
  |false=>
   cases b1 with
   |false=>
    have tn:dc f g (hS (.tup [.str z,p,q]) row a kvs z none (AAC (s:Nat)) none)=some (.rt (.t (.bl false)) (hS (.tup [.str z,p,q]) row a kvs z none (AAC (s:Nat)) none)):=by simp[dc,a1,a2,e1,e2]
    exact⟨_,.inl ⟨false,by rw[fy,eb,aad,tn];rfl⟩⟩
   |true=>
    have tn:dc f g (hS (.tup [.str z,p,q]) row a kvs z none (AAC (s:Nat)) none)=some (.nx (hS (.tup [.str z,p,q]) row a kvs z none (AAC (s:Nat)) none)):=by simp[dc,a1,a2,e1,e2]
    obtain⟨y6,o⟩:=GG h1 h2 ds (AAC (s:Nat)) (fun x hx=>hd x (aaj _ hx)) rfl;refine⟨y6,?_⟩;rw[fy,eb,aad,tn];exact o
def Tf (er:gi (hS (.tup [.str "till",p,q]) row a kvs "till" none none none)=some (R,hS (.tup [.str "till",p,q]) row a kvs "till" none none none))
  (o:∃y6,(∃b,loop (bName 6) w R (hS (.tup [.str "till",p,q]) row a kvs "till" none none none)=some (.rt (.t (.bl b)) (hS (.tup [.str "till",p,q]) row a kvs "till" none y6 none)))\/loop (bName 6) w R (hS (.tup [.str "till",p,q]) row a kvs "till" none none none)=some (.nx (hS (.tup [.str "till",p,q]) row a kvs "till" none y6 none))):
  Fin (.tup [.str "till",p,q]) row a kvs (iZ (qB (eF (eP ku (aa (eF (au 4)) (aa (eC (.str "till")) aA))))) (aP (iF (bName 6) gi w) (cG (eT (eC (.bl false))))) cX (hS (.tup [.str "till",p,q]) row a kvs "till" none none none)):=by
 obtain⟨y6,⟨b,e⟩|e⟩:=o
 ·exact⟨b,[AAA (.str "till"),none,y6,none],by simp[er,e]⟩
 ·exact⟨false,[AAA (.str "till"),none,y6,none],by simp[er,e]⟩
def abM (h1:rZ g p row kvs) (h2:rZ g q row kvs) (ha:a<=row.length) (hr:row.length<=1000):Fin (.tup [.str "till",p,q]) row a kvs (Xu f g (hS (.tup [.str "till",p,q]) row a kvs "till" none none none)):=
 Tf (EM (S:=[]) ha hr) (GG h1 h2 _ none (fun d hd=>by obtain⟨s,e,_,s1⟩:=EL hd;exact⟨s,e,by lia⟩) rfl)
theorem BU {nm y:Str}(hr:∀h∈row,∃x,h=kG x) (hk:kvs.length<1000) (h1:∀v:Int,rZ g p row (putD kvs (.inr y) (.int v))):∀(ds:List D) (bl:List Bool) (x6 x7:Option U),(∀d∈ds,∃s:Nat,d= .int (s:Nat)/\s<row.length)->bl.length+ds.length<=1000->dP x6=false->dP x7=false->
  ∃Ti y6 y7,loop (bName 6) (fR f g) ds (hS (.tup [.str z,.str nm,.str y,p]) row a kvs z (AAB (bl.map D.bl)) x6 x7)=some (.nx (hS (.tup [.str z,.str nm,.str y,p]) row a kvs z (AAB (List.map D.bl Ti)) y6 y7))
 |[],bl,x6,x7,_,_,_,_=>⟨bl,x6,x7,rfl⟩
 |d::ds,bl,x6,x7,hd,hn,h6,h7=>by
  have hn:bl.length+(ds.length+1)<=1000:=hn;obtain⟨s,rfl,s1⟩:=hd d aal;obtain⟨hh,e⟩:∃hh,row[s]? =some hh:=⟨row[s],aaz s1⟩
  obtain⟨⟨x,v⟩,rfl⟩:=hr hh (abK e);have e3:=L6 e;have c0:d7 [D.str x,.int v] 0=some (.str x):=rfl;have c1:d7 [D.str x,.int v] 1=some (.int v):=rfl;have b1:d7 [D.str z,.str nm,.str y,p] 1=some (.str nm):=rfl;have b2:d7 [D.str z,.str nm,.str y,p] 2=some (.str y):=rfl;have b3:d7 [D.str z,.str nm,.str y,p] 3=some p:=rfl;have eb:bName 6 (.int (s:Nat)) (hS (.tup [.str z,.str nm,.str y,p]) row a kvs z (AAB (bl.map D.bl)) x6 x7)=some (hS (.tup [.str z,.str nm,.str y,p]) row a kvs z (AAB (bl.map D.bl)) (AAC (s:Nat)) x7):=by simp[-bD,br,h6]
  obtain⟨b,e1⟩:=h1 v s (by lia);have hk':kvs.length<100000:=by lia
  have hl':bl.length<100000:=by lia
  by_cases c:x=nm
  ·subst c;have tn:fR f g (hS (.tup [.str z,.str x,.str y,p]) row a kvs z (AAB (bl.map D.bl)) (AAC (s:Nat)) x7)=some (.nx (hS (.tup [.str z,.str x,.str y,p]) row a kvs z (AAB ((bl++[b]).map D.bl)) (AAC (s:Nat)) (some (.m (.dct (putD kvs (.inr y) (.int v))))))):=by
    simp[-bD,br,fR,e3,kG,A6,c0,c1,b1,b2,b3,h7,xQ,keyOf,rR,hk',pA,e1,hl',hAppend]
   obtain⟨Ti,y6,y7,o⟩:=BU hr hk h1 ds (bl++[b]) (AAC (s:Nat)) (some (.m (.dct (putD kvs (.inr y) (.int v))))) (fun x hx=>hd x (aaj _ hx)) (by rw[aan,abR];lia) rfl rfl;refine⟨Ti,y6,y7,?_⟩;rw[fy,eb,aad,tn];exact o
  ·have tn:fR f g (hS (.tup [.str z,.str nm,.str y,p]) row a kvs z (AAB (bl.map D.bl)) (AAC (s:Nat)) x7)=some (.nx (hS (.tup [.str z,.str nm,.str y,p]) row a kvs z (AAB (bl.map D.bl)) (AAC (s:Nat)) x7)):=by
    simp[fR,e3,kG,A6,c0,c1,b1,c]
   obtain⟨Ti,y6,y7,o⟩:=BU hr hk h1 ds bl (AAC (s:Nat)) x7 (fun x hx=>hd x (aaj _ hx)) (by lia) rfl h7;refine⟨Ti,y6,y7,?_⟩;rw[fy,eb,aad,tn];exact o
def Tj {nm y:Str}(hz:z="each"\/z="one") (er:gi (hS (.tup [.str z,.str nm,.str y,p]) row a kvs z (AAB []) none none)=some (R,hS (.tup [.str z,.str nm,.str y,p]) row a kvs z (AAB []) none none))
  (o:∃Ti y6 y7,loop (bName 6) w R (hS (.tup [.str z,.str nm,.str y,p]) row a kvs z (AAB []) none none)=some (.nx (hS (.tup [.str z,.str nm,.str y,p]) row a kvs z (AAB (List.map D.bl Ti)) y6 y7))):
  Fin (.tup [.str z,.str nm,.str y,p]) row a kvs (aP (cu 5 (eP dG aA)) (aP (iF (bName 6) gi w) (cG (Kg (qB (eF (eP ku (aa (eF (au 4)) (aa (eC (.str "each")) aA))))) (eT (nv xA 5)) (eT (nv wm 5))))) (hS (.tup [.str z,.str nm,.str y,p]) row a kvs z none none none)):=by
 obtain⟨bl,y6,y7,e⟩:=o;have n:¬(("one":Str)="each"):=by decide
 rcases hz with rfl|rfl
 ·exact⟨bl.all id,[AAA (.str "each"),AAB (bl.map D.bl),y6,y7],by simp[-bD,br,er,e,iM,iW]⟩
 ·exact⟨bl.any id,[AAA (.str "one"),AAB (bl.map D.bl),y6,y7],by simp[-bD,br,er,e,iM,iW,n]⟩
def abN {nm y:Str}(hz:z="each"\/z="one") (hr:∀h∈row,∃x,h=kG x) (hk:kvs.length<1000) (h1:∀v:Int,rZ g p row (putD kvs (.inr y) (.int v))) (ha:a<=row.length) (hl:row.length<=900):
  Fin (.tup [.str z,.str nm,.str y,p]) row a kvs (aP (hs9 f g) (aP (SW f g) (SX f g)) (hS (.tup [.str z,.str nm,.str y,p]) row a kvs z none none none)):=
 Tj hz (EM (S:=[]) ha (by lia)) (BU hr hk h1 _ [] none none (fun d hd=>by obtain⟨s,e,_,s1⟩:=EL hd;exact⟨s,e,s1⟩) (by unfold iX;rw[aah,ab6];show 0+_<=1000;lia) rfl rfl)
end
def zD {κ:Type} [DecidableEq κ] (kvs:List (κ×D)) (k:κ) (v:D):bT (putD kvs k v) k=some v:=by
 unfold putD;split
 ·rename_i h
  induction kvs with
  |nil=>simp at h
  |cons p ps ih=>
   by_cases e:p.1=k
   ·simp[bT,abY,e]
   ·have h':(ps.any fun kv=>decide (kv.1=k))=true:=by simpa[acX,e] using h
    have:=ih h'
    simpa[bT,abY,e] using this
 ·rename_i h
  induction kvs with
  |nil=>simp[bT]
  |cons p ps ih=>
   have e:¬p.1=k:=fun q=>h (by simp[acX,q]);have h':¬(ps.any fun kv=>decide (kv.1=k))=true:=fun q=>h (by simp[acX,q]);have:=ih h'
   simpa[bT,abY,e] using this
def DE {κ:Type} [DecidableEq κ] (kvs:List (κ×D)){k k':κ}(v:D) (hn:k'≠k):bT (putD kvs k v) k'=bT kvs k':=by
 unfold putD;split
 ·rename_i h;clear h
  induction kvs with
  |nil=>rfl
  |cons p ps ih=>
   by_cases e:p.1=k
   ·have:¬p.1=k':=fun q=>hn (q.symm.trans e);have e2:¬k=k':=fun q=>hn q.symm
    simpa[bT,abY,e,e2] using ih
   ·by_cases e2:p.1=k'
    ·simp[bT,abY,e,e2,hn]
    ·simpa[bT,abY,e,e2] using ih
 ·have e2:¬k=k':=fun q=>hn q.symm;simp[bT,List.find?_append,e2]
def L7 {k k':Key}{d:D}:bT (putD kvs k d) k'=if k'=k then some d else bT kvs k':=by
 split
 ·rename_i h;rw[h];exact zD kvs k d
 ·rename_i h;exact DE kvs d h
def Kn.put {bs:BBB}(h:Kn bs kvs) (y:Str) (v:Int):Kn (bs++[y]) (putD kvs (.inr y) (.int v)):=by
 refine⟨fun kv hkv=>?_,fun x hx=>?_,?_⟩
 ·unfold putD at hkv;split at hkv
  ·obtain⟨kv',h',rfl⟩:=abt.mp hkv;obtain⟨y',k',rfl⟩:=h.all kv' h';split
   ·exact⟨y',v,rfl⟩
   ·exact⟨y',k',rfl⟩
  ·rcases aaG.mp hkv with q|q
   ·exact h.all kv q
   ·rw[aao.mp q];exact⟨y,v,rfl⟩
 ·rw[L7];split
  ·exact⟨v,rfl⟩
  ·rename_i n;rcases aaG.mp hx with q|q
   ·exact h.has x q
   ·exact absurd (by rw[aao.mp q]) n
 ·have:=h.len;rw[aan,abR];unfold putD;split
  ·rw[aah];lia
  ·rw[aan,abR];lia
theorem L8 {row:List D}(hr:∀h∈row,∃x,h=kG x) (hl:row.length<=900):∀(n:Nat) (bs:BBB) (d:D) (kvs:List (Key×D)),Sy n bs d->Kn bs kvs->bs.length+n<1000->rZ (IF n) d row kvs
 |0,_,_,_,h,_,_=>by cases h
 |n+1,bs,d,kvs,h,hk,hn=>fun a ha=>by
  have ih:=fun p (hp:Sy n bs p)=>L8 hr hl n bs p kvs hp hk (by lia);refine Fin.run ?_;rw[hs_eq];cases h with
  |leaf hz=>
   rw[bE h0];obtain⟨b,rest,e⟩:=S5 (f:=ze) (g:=IF n) (row:=row) (a:=a) (kvs:=kvs) hz;exact⟨b,rest,yI e⟩
  |now ht=>
   rw[bE h0,bE (k1 (by decide))];obtain⟨b,rest,e⟩:=Xx (g:=IF n) (row:=row) (a:=a) ht hk hr;exact⟨b,rest,yI e⟩
  |@one _ _ z p hz hp=>
   rcases vg hz with rfl|rfl|rfl|rfl
   ·rw[bE h0,bE (k1 (by decide)),bE (k2 (by decide))];obtain⟨b,rest,e⟩:=Xy (f:=ze) (ih p hp) ha;exact⟨b,rest,yI e⟩
   ·rw[bE h0,bE (k1 (by decide)),bE (k2 (by decide)),bE (k3 (by decide)),bE (k4 (by decide))];obtain⟨b,rest,e⟩:=S6 (f:=ze) (a:=a) (ih p hp);exact⟨b,rest,yI e⟩
   ·rw[bE h0,bE (k1 (by decide)),bE (k2 (by decide)),bE (k3 (by decide)),bE (k4 (by decide)),bE (k5 (by decide)),bE (k6 (by decide)),bE (k7 (by decide))];obtain⟨b,rest,e⟩:=XA (f:=ze) (.inl rfl) (ih p hp) ha (by lia);exact⟨b,rest,yI e⟩
   ·rw[bE h0,bE (k1 (by decide)),bE (k2 (by decide)),bE (k3 (by decide)),bE (k4 (by decide)),bE (k5 (by decide)),bE (k6 (by decide)),bE (k7 (by decide))];obtain⟨b,rest,e⟩:=XA (f:=ze) (.inr rfl) (ih p hp) ha (by lia);exact⟨b,rest,yI e⟩
  |@two _ _ z p q hz hp hq=>
   rcases vh hz with rfl|rfl|rfl
   ·rw[bE h0,bE (k1 (by decide)),bE (k2 (by decide)),bE (k3 (by decide))];obtain⟨b,rest,e⟩:=Xz (f:=ze) (.inl rfl) (ih p hp) (ih q hq) ha;exact⟨b,rest,yI e⟩
   ·rw[bE h0,bE (k1 (by decide)),bE (k2 (by decide)),bE (k3 (by decide))];obtain⟨b,rest,e⟩:=Xz (f:=ze) (.inr rfl) (ih p hp) (ih q hq) ha;exact⟨b,rest,yI e⟩
   ·rw[bE h0,bE (k1 (by decide)),bE (k2 (by decide)),bE (k3 (by decide)),bE (k4 (by decide)),bE (k5 (by decide))];obtain⟨b,rest,e⟩:=abM (f:=ze) (ih p hp) (ih q hq) ha (by lia);exact⟨b,rest,yI e⟩
  |@PY _ _ k p k0 k5 hp=>
   rw[bE h0,bE (k1 (by decide)),bE (k2 (by decide)),bE (k3 (by decide)),bE (k4 (by decide)),bE (T5.k5 (by decide)),bE (k6 (by decide))];obtain⟨b,rest,e⟩:=abL (f:=ze) k0 k5 (ih p hp) ha (by lia);exact⟨b,rest,yI e⟩
  |@bnd _ _ z nm y p hz h1 h2 hp=>
   have it:∀v:Int,rZ (IF n) p row (putD kvs (.inr y) (.int v)):=fun v=>L8 hr hl n (bs++[y]) p _ hp (hk.put y v) (by rw[aan,abR];lia);have kl:=hk.len;have fin:=abN (f:=ze) (g:=IF n) (nm:=nm) (a:=a) hz hr (by lia) it ha hl;rcases hz with rfl|rfl
   ·rw[bE h0,bE (k1 (by decide)),bE (k2 (by decide)),bE (k3 (by decide)),bE (k4 (by decide)),bE (k5 (by decide)),bE (k6 (by decide)),bE (k7 (by decide)),bE (k8 (by decide))];exact fin
   ·rw[bE h0,bE (k1 (by decide)),bE (k2 (by decide)),bE (k3 (by decide)),bE (k4 (by decide)),bE (k5 (by decide)),bE (k6 (by decide)),bE (k7 (by decide)),bE (k8 (by decide))];exact fin
def mw (aJ:FM):GS:=
 (cG (bu aJ (aZ (eF (au 0)) (aZ (eF (au 1)) (aZ (eC (.int 0)) (cD Fw bO))))))
def IX:FM:=bH 2 (mw (IF 9))
def To:∀us r,IX us=some r->bH 2 (mw (IF 9)) us=some r:=fun _ _ h=>h
structure Rw (d:D):Prop where
 ex:∃row:List D,d= .tup row/\row.length<=900/\∀h∈row,∃x,h=kG x
def fv (b row:D):Bool:=match IX [.t b,.t row] with
 |some (.t (.bl x),_)=>x
 |_=>false
def Sy.up {bs:BBB}{d:D}(h:Sy n bs d):∀{m:Nat},n<=m->Sy m bs d:=by
 induction h with
 |leaf h=>intro m hm;obtain⟨k,rfl⟩:∃k,m=k+1:=⟨m-1,by lia⟩;exact .leaf h
 |now h=>intro m hm;obtain⟨k,rfl⟩:∃k,m=k+1:=⟨m-1,by lia⟩;exact .now h
 |one hz _ ih=>intro m hm;obtain⟨k,rfl⟩:∃k,m=k+1:=⟨m-1,by lia⟩;exact .one hz (ih (by lia))
 |two hz _ _ i1 i2=>intro m hm;obtain⟨k,rfl⟩:∃k,m=k+1:=⟨m-1,by lia⟩;exact .two hz (i1 (by lia)) (i2 (by lia))
 |PY a b _ ih=>intro m hm;obtain⟨k,rfl⟩:∃k,m=k+1:=⟨m-1,by lia⟩;exact .PY a b (ih (by lia))
 |bnd hz a b _ ih=>intro m hm;obtain⟨k,rfl⟩:∃k,m=k+1:=⟨m-1,by lia⟩;exact .bnd hz a b (ih (by lia))
def XC {b:D}(hb:Gd b) (hr:Rw row):IX [.t b,.t row]=some (.t (.bl (fv b row)),[]):=by
 obtain⟨_,⟨n,hn,hs⟩,_⟩:=hb;obtain⟨rw',rfl,hl,hh⟩:=hr.ex;obtain⟨x,e⟩:=L8 hh hl 9 [] b [] (Sy.up hs hn) ⟨fun _ h=>(by cases h),fun _ h=>(by cases h),aam _⟩ (by decide) 0 (abH _);have e:IF 9 [.t b,.t (.tup rw'),.t (.int 0),.b (.dct [])]=some (.t (.bl x),[.dct []]):=e;have main:IX [.t b,.t (.tup rw')]=some (.t (.bl x),[]):=by
  simp[IX,bH,mw,Fw,e,aT]
 have:fv b (.tup rw')=x:=by unfold fv;rw[main]
 rw[main,this]
def cY (ow:FM):GS:=
 (iZ (qB (eF (eP xA (aa (eF (je [1] (CD (eF (au 2))) bQ (eF (eP ku (aa (eF (bu ow (aZ (eF (au 0)) (aZ (eF (au 2)) bO)))) (aa (eF (au 1)) aA)))))) aA)))) (cG (eT (eC (.bl true)))) cX)
def iN (ow:FM):GS:=
 (aP (iF (bName 2) (iA (eF (au 0))) (cY ow))
 (cG (eT (eC (.bl false)))))
def IG:FM:=bH 3 (iN IX)
def Tp:∀us r,IG us=some r->bH 3 (iN IX) us=some r:=fun _ _ h=>h
def II (row:D) (l:Bu):Bool:=l.all fun p=>fv p.1 row == p.2
def wB (row:D) (x:List Bu):Bool:=x.any (II row)
theorem Ay {cap:BBJ}{g:GD}{t:D}{S:SS}(f:Tg->Bool) (hc:dH S cap=some [.t t]):∀(l:Bu) (acc:List D),
  (∀p∈l,g [AAA p.1,AAA (.bl p.2),AAA t]=some (.bl (f p),[AAA p.1,AAA (.bl p.2),AAA t]))->
  iK cap bQ g (l.map d9) S acc=some (acc++(l.map f).map D.bl,S)
 |[],acc,_=>by simp[iK]
 |p::l,acc,hq=>by
  have q0:=hq p aal;have ih:=fun acc=>Ay (g:=g) f hc l acc fun p hp=>hq p (aaj _ hp);rw[abX];show iK cap bQ g (.tup [p.1,.bl p.2]::l.map d9) S acc=_;simp[iK,hc,bQ,q0,ih,aT]
def OU {t:D}(hl:UJ l) (hn:l.length<=1000) (hr:Rw row):
  cY IX [AAA t,AAA row,AAA (dQ l)]=some (if II row l then .rt (.t (.bl true)) [AAA t,AAA row,AAA (dQ l)] else .nx [AAA t,AAA row,AAA (dQ l)]):=by
 have e:=Ay (cap:=[1]) (g:=eF (eP ku (aa (eF (bu IX (aZ (eF (au 0)) (aZ (eF (au 2)) bO)))) (aa (eF (au 1)) aA)))) (t:=row) (S:=[AAA t,AAA row,AAA (dQ l)]) (fun p=>fv p.1 row == p.2) rfl l [] (fun p hp=>by
  have:=XC (hl p hp) hr;simp[this])
 have hb:=iM (l.map fun p=>fv p.1 row == p.2);have ha:(l.map fun p=>fv p.1 row == p.2).all id=II row l:=by rw[aev];rfl
 rw[abZ] at e;generalize (l.map fun p=>fv p.1 row == p.2).map D.bl=Z at e hb;have hn':l.length<=100000:=by lia
 unfold dQ at e ⊢;cases h:II row l<;>rw[h] at ha
 ·simp[cY,je,hn',e,hb,ha]
 ·simp[cY,je,hn',e,hb,ha]
theorem GH {t row:D}(hr:Rw row):∀(x:List Bu) (x2:Option U),GR 900 x->dP x2=false->∃y2,loop (bName 2) (cY IX) (x.map dQ) [AAA t,AAA row,x2]=some (if wB row x then .rt (.t (.bl true)) [AAA t,AAA row,y2] else .nx [AAA t,AAA row,y2])
 |[],x2,_,_=>⟨x2,rfl⟩
 |l::x,x2,hx,h2=>by
  have tn:=OU (t:=t) (hx l aal).1 (by have:=(hx l aal).2;lia) hr;have eb:bName 2 (dQ l) [AAA t,AAA row,x2]=some [AAA t,AAA row,AAA (dQ l)]:=by simp[-bD,br,h2]
  have hs:wB row (l::x)=(II row l || wB row x):=rfl;cases h:II row l
  ·obtain⟨y2,e⟩:=GH (t:=t) hr x (AAA (dQ l)) (fun k hk=>hx k (aaj _ hk)) rfl;rw[h] at tn;refine⟨y2,?_⟩;rw[hs,h,ae1,abX,fy,eb,aad,tn];exact e
  ·rw[h] at tn;refine⟨AAA (dQ l),?_⟩;rw[hs,h,Bool.true_or,abX,fy,eb,aad,tn];rfl
def Qd (hr:Rw row) (hx:GR 900 x):IG [.t (cR x),.t row]=some (.t (.bl (wB row x)),[]):=by
 obtain⟨y2,e⟩:=GH (t:=cR x) hr x none hx rfl;have e:loop (bName 2) (cY IX) (x.map dQ) [AAA (.tup (x.map dQ)),AAA row,none]=_:=e;cases h:wB row x<;>rw[h] at e<;>simp[IG,bH,iN,cU,cR] at e ⊢<;>simp[e,aT]
def IJ (h:vX x y=true) (hf:wB row x=true):wB row y=true:=by
 obtain⟨l,hl,e⟩:=abI.mp hf;have e:=ab2.mp e;have hv:cL l=false:=by
  cases q:cL l with
  |false=>rfl
  |true=>
   obtain⟨b,h1,h2⟩:=kK.mp q;have e1:=e _ h1;have e2:=e _ h2;have e1:(fv b row == true)=true:=e1;have e2:(fv b row == false)=true:=e2;rw[eq_of_beq e1] at e2;cases e2
 obtain⟨k,hk,s⟩:=wL.mp h l hl hv;exact abI.mpr ⟨k,hk,ab2.mpr fun p hp=>e p (gq.mp s p hp)⟩
def lU:GS:=
 (j8 (eT (eM 1 dR (aa (eF (cT [2] (mV (aa (eF (eP dO (aa (eF (au 3)) (aa (eC (.int 1)) aA)))) aA)) bQ (eF (eP cM (aa (eF (au 1)) (aa (eF (au 0)) aA)))))) aA))))
def r9:GS:=
 (aP (cu 1 (eP dG aA))
 (aP (iF (uP 2 (gU (bName 2) (gU (bName 3) wk))) (CD (eF (au 0))) (lU))
 (cG (au 1))))
def DF:FM:=bH 4 r9
def Tq:∀us r,DF us=some r->bH 4 r9 us=some r:=fun _ _ h=>h
def wO {gA:GA}{j:Int}(e:gA S=some ([.int j],S)) (h3:j<1000000) (h4:-1000000<j):mV gA S=some (iX 0 j.toNat,S):=by
 rw[NN,e,aad];exact if_pos ⟨h3,h4⟩
def Tt {H:List D}{z m:D}(ec:cT [2] gi bQ G [AAA td,AAB H,AAA z,AAA m]=some (.m (.lst o),[AAA td,AAB H,AAA z,AAA m])) (hH:H.length+o.length<1000):
  j8 (eT (eM 1 dR (aa (eF (cT [2] gi bQ G)) aA))) [AAA td,AAB H,AAA z,AAA m]=some (.nx [AAA td,AAB (H++o),AAA z,AAA m]):=by
 have h1:H.length+o.length<=100000:=by lia
 have h2:H.length<100000:=by lia
 simp[-tV,ec,dR,h1,h2]
def OV {H:AAJ}{z:Str}{m:Int}(m0:0<=m) (m2:m<=2) (hH:H.length<900):∃H',H'.length<=H.length+3/\lU [AAA td,AAB (H.map kG),AAA (.str z),AAC m]=some (.nx [AAA td,AAB (List.map kG H'),AAA (.str z),AAC m]):=by
 have er:=wO (gA:=aa (eF (eP dO (aa (eF (au 3)) (aa (eC (.int 1)) aA)))) aA) (S:=[AAA td,AAB (H.map kG),AAA (.str z),AAC m]) (j:=m+1) (by simp[dO]) (by lia) (by lia);have e:=iD (cap:=[2]) (g:=eF (eP cM (aa (eF (au 1)) (aa (eF (au 0)) aA)))) (S:=[AAA td,AAB (H.map kG),AAA (.str z),AAC m]) (ts:=[.str z]) rfl (fun k=>.tup [.str z,k]) (iX 0 (m+1).toNat) [] (fun d hd=>by simp);have eo:(iX 0 (m+1).toNat).map (fun k=>D.tup [.str z,k])=((List.range (m+1).toNat).map fun(i:Nat)=>(z,(i:Int))).map kG:=by
  unfold iX;rw[acr,acr];refine adb fun i _=>?_;show D.tup [.str z,.int (0+(i:Int))]= .tup [.str z,.int (i:Int)];rw[Int.zero_add]
 rw[abZ,eo] at e;have hl:((List.range (m+1).toNat).map fun(i:Nat)=>(z,(i:Int))).length<=3:=by rw[aah,ab6];lia
 have el:(iX 0 (m+1).toNat).length<=100000:=by unfold iX;rw[aah,ab6];lia
 generalize ((List.range (m+1).toNat).map fun(i:Nat)=>(z,(i:Int)))=o at e hl;refine⟨H++o,by rw[aan];lia,?_⟩;have:=Tt (yJ er el e) (by rw[aah,aah];lia);rw[acg];exact this
theorem GJ {td:D}:∀(rows H:AAJ) (x2 x3:Option U),(∀p∈rows,0<=p.2/\p.2<=2)->H.length+3*rows.length<900->dP x2=false->dP x3=false->
  ∃H' y2 y3,H'.length<=H.length+3*rows.length/\loop (uP 2 (gU (bName 2) (gU (bName 3) wk))) lU (rows.map kD) [AAA td,AAB (H.map kG),x2,x3]=some (.nx [AAA td,AAB (List.map kG H'),y2,y3])
 |[],H,x2,x3,_,_,_,_=>⟨H,x2,x3,by lia,rfl⟩
 |(z,m)::rows,H,x2,x3,hp,hn,h2,h3=>by
  have hn:H.length+3*(rows.length+1)<900:=hn;obtain⟨H1,l1,tn⟩:=OV (td:=td) (z:=z) (hp (z,m) aal).1 (hp (z,m) aal).2 (show H.length<900 by lia);have eb:uP 2 (gU (bName 2) (gU (bName 3) wk)) (kD (z,m)) [AAA td,AAB (H.map kG),x2,x3]=some [AAA td,AAB (H.map kG),AAA (.str z),AAC m]:=by simp[-bD,br,h2,h3,kD]
  obtain⟨H',y2,y3,l2,o⟩:=GJ (td:=td) rows H1 (AAA (.str z)) (AAC m) (fun p q=>hp p (aaj _ q)) (by lia) rfl rfl;refine⟨H',y2,y3,by rw[abn];lia,?_⟩;rw[abX,fy,eb,aad,tn];exact o
def XD (h:Tn td):∃H:List (Str×Int),H.length<=12/\DF [.t td]=some (.m (.lst (H.map kG)),[]):=by
 obtain⟨rows,rfl,hl,hp⟩:=h;obtain⟨H,y2,y3,l,o⟩:=GJ (td:=.tup (rows.map kD)) rows [] none none hp (by show 0+_<900;lia) rfl rfl;have l:H.length<=0+3*rows.length:=l;have o:loop (uP 2 (gU (bName 2) (gU (bName 3) wk))) lU (rows.map kD) [AAA (.tup (rows.map kD)),AAB [],none,none]=_:=o;exact⟨H,by lia,by simp[-bD,br,DF,bH,r9,o,aT]⟩
def vp:GS:=
 (cG (eT (eQ (uM (qB (Yk ["bool"] (eF (au 0)))) (qB (eF (eP ku (aa (eF (au 0)) (aa (eF (au 1)) aA)))))))))
def Ma:FM:=bH 2 vp
def Tu:∀us r,Ma us=some r->bH 2 vp us=some r:=fun _ _ h=>h
def XE (a b:Bool):Ma [.t (.bl a),.t (.bl b)]=some (.t (.bl (a == b)),[]):=by
 have i:Ep "bool" (.bl a)=some true:=rfl;simp[Ma,bH,vp,Yk,z7,i,aT]
def gP (bY:FM):GS:=
 (j8 (eT (eM 6 dR (aa (eF (cT [7] (iA (eF (au 4))) bQ (eF (eP dO (aa (eF (au 1)) (aa (eF (eP cM (aa (eF (au 0)) aA))) aA)))))) aA))))
def oz (bY:FM):GS:=
 (iZ (qB (eF (eP Yh (aa (eF (eP dO (aa (jQ 2) (aa (eF (eP tG (aa (jQ 3) (aa (jQ 4) aA)))) aA)))) (aa (eC (.int 300)) aA))))) (aP (cu 6 (eP dG aA))
 (aP (iF (bName 7) (iA (eF (au 3))) (gP bY))
 (aP (cu 3 (au 6))
 (cu 2 (eP dO (aa (eF (au 2)) (aa (eF (au 3)) aA))))))) cX)
def Zi (bY:FM):GS:=
 (cu 2 (eP dG (aa (eF (eP cM aA)) aA)))
def oX (bY:FM):GS:=
 (cu 3 (eP dG (aa (eF (eP cM aA)) aA)))
def DP (bY:FM):GS:=
 (cu 4 (bu bY (aZ (eF (au 0)) bO)))
def rs3 (bY:FM):GS:=
 (iF (bName 5) (mV (aa (eF (au 1)) aA)) (oz bY))
def XF (bY:FM):GS:=
 (cG (au 2))
def lV (bY:FM):GS:=aP (Zi bY) (aP (oX bY) (aP (DP bY) (aP (rs3 bY) (XF bY))))
def rs_eq (bY:FM):lV bY=aP (Zi bY) (aP (oX bY) (aP (DP bY) (aP (rs3 bY) (XF bY)))):=rfl
def IY:FM:=bH 8 (lV DF)
def Tv:∀us r,IY us=some r->bH 8 (lV DF) us=some r:=fun _ _ h=>h
def cB (r:AAJ):D:=.tup (r.map kG)
noncomputable def longer (L:List (List (Str×Int))) (A:AAJ):List (List (Str×Int)):=L.flatMap fun r=>A.map fun x=>r++[x]
section
variable {s0 s1 s5 x7:Option U}
def OW {G:List (List (Str×Int))}{r:AAJ}(h4:u4= .m (.lst (A.map kG))\/u4= .t (.lst (A.map kG))) (hr:r.length<=900) (hA:A.length<=900) (hG:G.length<=20000):
  gP DF [s0,s1,s2,s3,some u4,s5,AAB (G.map cB),AAA (cB r)]=some (.nx [s0,s1,s2,s3,AAA (.lst (A.map kG)),s5,AAB ((G++A.map fun x=>r++[x]).map cB),AAA (cB r)]):=by
 have e:=iD (cap:=[7]) (g:=eF (eP dO (aa (eF (au 1)) (aa (eF (eP cM (aa (eF (au 0)) aA))) aA)))) (S:=[s0,s1,s2,s3,AAA (.lst (A.map kG)),s5,AAB (G.map cB),AAA (cB r)]) (ts:=[cB r]) rfl (fun d=>.tup (r.map kG++[d])) (A.map kG) [] (fun d hd=>by
  have h1:r.length+1<=100000:=by lia
  simp[cB,dO,h1])
 have eo:(A.map kG).map (fun d=>D.tup (r.map kG++[d]))=(A.map fun x=>r++[x]).map cB:=by
  rw[acr,acr];refine adb fun x _=>?_;show D.tup (r.map kG++[kG x])= .tup ((r++[x]).map kG);rw[acg];rfl
 rw[abZ,eo] at e;have h1:A.length<=100000:=by lia
 have h2:G.length+A.length<=100000:=by lia
 have h3:G.length<100000:=by lia
 rcases h4 with rfl|rfl
 ·simp[gP,cU,h1,e,dR,h2,h3]
 ·simp[gP,cU,h1,e,dR,h2,h3]
theorem GK {A:AAJ}{s2 s3:Option U}(hA:A.length<=12):∀(L G:List (List (Str×Int))) (u4:U) (x7:Option U),(u4= .m (.lst (A.map kG))\/u4= .t (.lst (A.map kG)))->(∀r∈L,r.length<=900)->G.length+L.length*A.length<=10000->dP x7=false->
  ∃v4 y7,(v4= .m (.lst (A.map kG))\/v4= .t (.lst (A.map kG)))/\dP y7=false/\loop (bName 7) (gP DF) (L.map cB) [s0,s1,s2,s3,some u4,s5,AAB (G.map cB),x7]=some (.nx [s0,s1,s2,s3,some v4,s5,AAB ((G++longer L A).map cB),y7])
 |[],G,u4,x7,h4,_,_,h7=>⟨u4,x7,h4,h7,by simp[loop,longer]⟩
 |r::L,G,u4,x7,h4,hr,hn,h7=>by
  have hn:G.length+(L.length+1)*A.length<=10000:=hn;rw[Nat.add_mul,Nat.one_mul] at hn;have tn:=OW (s0:=s0) (s1:=s1) (s5:=s5) (s2:=s2) (s3:=s3) (G:=G) (r:=r) h4 (hr r aal) (by lia) (by lia);have eb:bName 7 (cB r) [s0,s1,s2,s3,some u4,s5,AAB (G.map cB),x7]=some [s0,s1,s2,s3,some u4,s5,AAB (G.map cB),AAA (cB r)]:=by simp[-bD,br,h7]
  obtain⟨v4,y7,k4,k7,o⟩:=GK hA L (G++A.map fun x=>r++[x]) (.t (.lst (A.map kG))) (AAA (cB r)) (.inr rfl) (fun q hq=>hr q (aaj _ hq)) (by rw[aan,aah];lia) rfl;refine⟨v4,y7,k4,k7,?_⟩;have ep:G++longer (r::L) A=G++(A.map fun x=>r++[x])++longer L A:=by simp[longer]
  rw[ep,abX,fy,eb,aad,tn];exact o
end
def EN (L:List (List (Str×Int))) (A:AAJ):(longer L A).length=L.length*A.length:=by
 unfold longer
 induction L with
 |nil=>simp
 |cons a x ih=>rw[ad9,aan,ih,aah,abn,Nat.succ_mul,Nat.add_comm]
def yK {k:Nat}(h:∀r∈L,r.length<=k):∀r∈longer L A,r.length<=k+1:=by
 intro r hr;unfold longer at hr;obtain⟨a,ha,hr⟩:=List.mem_flatMap.mp hr;obtain⟨x,hx,rfl⟩:=abt.mp hr;have:=h a ha;rw[aan,abR];lia
def LU (u:U) (L:List D):Prop:=u= .m (.lst L)\/u= .t (.lst L)
def Tz (fm:List D->Option U):GT:=qB (eF (eP Yh (aa (eF (eP dO (aa (jQ 2) (aa (eF (eP fm (aa (jQ 3) (aa (jQ 4) aA)))) aA)))) (aa (eC (.int 300)) aA))))
def XG:GT:=Tz tG
def OX {a b:Nat}(ha:a<=100000):tG [.int (a:Int),.int (b:Int)]=AAC ((a:Int)*b):=by
 rw[RG];apply if_pos;simp;lia
def OY {fm:List D->Option U}{F:List (List (Str×Int))}(h2:LU u2 (F.map cB)) (h3:LU u3 (L.map cB)) (h4:LU u4 (A.map kG)) (em:fm [.int (L.length:Int),.int (A.length:Int)]=AAC ((L.length:Int)*A.length)):
  Tz fm [s0,s1,some u2,some u3,some u4,s5,x6,x7]=some (decide (F.length+L.length*A.length<=300),[s0,s1,some u2,some u3,some u4,s5,x6,x7]):=by
 have ec:decide ((F.length:Int)+(L.length:Int)*(A.length:Int)<=300)=decide (F.length+L.length*A.length<=300):=by
  have:((F.length:Int)+(L.length:Int)*(A.length:Int))=((F.length+L.length*A.length:Nat):Int):=by push_cast;rfl
  rw[this];exact decide_eq_decide.mpr (by lia)
 have ea:dO [.int (F.length:Int),.int ((L.length:Int)*A.length)]=AAC ((F.length:Int)+(L.length:Int)*A.length):=rfl;have el:Yh [.int ((F.length:Int)+(L.length:Int)*A.length),.int 300]=AAA (.bl (decide ((F.length:Int)+(L.length:Int)*(A.length:Int)<=300))):=rfl;rw[ec] at el;rcases h2 with rfl|rfl<;>rcases h3 with rfl|rfl<;>rcases h4 with rfl|rfl<;>simp[Tz,em,ea,el]
def TF {F:List (List (Str×Int))}(h2:LU u2 (F.map cB)) (h3:LU u3 (L.map cB)) (h4:LU u4 (A.map kG)) (hL:L.length<=10000):
  XG [s0,s1,some u2,some u3,some u4,s5,x6,x7]=some (decide (F.length+L.length*A.length<=300),[s0,s1,some u2,some u3,some u4,s5,x6,x7]):=OY h2 h3 h4 (OX (by lia))
def XH {q:GT}{a:GS}(h:q S=some (false,S)):iZ q a cX S=some (.nx S):=by simp[h]
def TH {q:GT}{a:GS}(h:q S=some (true,S)):iZ q a cX S=a S:=by simp[h]
inductive J2 (A:AAJ) (s0 s1:Option U) (k:Nat) (S:SS):Prop where
 |mk {F L:List (List (Str×Int))}{u2 u3 u4:U}{x5 x6 x7:Option U}:S=[s0,s1,some u2,some u3,some u4,x5,x6,x7]->LU u2 (F.map cB)->LU u3 (L.map cB)->LU u4 (A.map kG)->F.length<=300->L.length<=300->(∀r∈F,r.length<=k)->(∀r∈L,r.length<=k)->dP x5=false->dP x6=false->dP x7=false->J2 A s0 s1 k S
def OZ {F:List (List (Str×Int))}{k:Nat}(h2:LU u2 (F.map cB)) (h3:LU u3 (L.map cB)) (h4:LU u4 (A.map kG)) (hF:F.length<=300) (hL:L.length<=300) (hA:A.length<=12) (hk:k<=800) (mF:∀r∈F,r.length<=k) (mL:∀r∈L,r.length<=k) (h5:dP s5=false) (h6:dP x6=false) (h7:dP x7=false):
  ∃S,oz DF [s0,s1,some u2,some u3,some u4,s5,x6,x7]=some (.nx S)/\J2 A s0 s1 (k+1) S:=by
 have hc:=TF (s0:=s0) (s1:=s1) (s5:=s5) (x6:=x6) (x7:=x7) h2 h3 h4 (by lia);by_cases c:F.length+L.length*A.length<=300
 ·rw[ab8 c] at hc;have ll:=EN L A;obtain⟨v4,y7,k4,k7,o⟩:=GK (s0:=s0) (s1:=s1) (s5:=s5) (s2:=some u2) (s3:=AAA (.lst (L.map cB))) hA L [] u4 x7 h4 (fun r hr=>by have:=mL r hr;lia) (by show 0+_<=10000;lia) h7;rw[abZ] at o;have o:loop (bName 7) (gP DF) (L.map cB) [s0,s1,some u2,AAA (.lst (L.map cB)),some u4,s5,AAB [],x7]=some (.nx [s0,s1,some u2,AAA (.lst (L.map cB)),some v4,s5,AAB ((longer L A).map cB),y7]):=o;have hl1:F.length+(longer L A).length<=100000:=by lia
  refine⟨[s0,s1,AAB ((F++longer L A).map cB),AAA (.lst ((longer L A).map cB)),some v4,s5,AAA (.lst ((longer L A).map cB)),y7],?_,.mk rfl (.inl rfl) (.inr rfl) k4 (by rw[aan];lia) (by lia) (fun r hr=>?_) (yK mL) h5 rfl k7⟩
  rotate_left
  ·rcases aaG.mp hr with q|q
   ·have:=mF r q;lia
   ·exact yK mL r q
  ·show iZ XG _ cX _=_;rw[TH hc,acg];rcases h2 with rfl|rfl<;>rcases h3 with rfl|rfl<;>simp[-bD,br,h6,cU,o,dO,hl1]
 ·rw[abU c] at hc;exact⟨_,XH hc,.mk rfl h2 h3 h4 hF hL (fun r hr=>(by have:=mF r hr;lia)) (fun r hr=>(by have:=mL r hr;lia)) h5 h6 h7⟩
def TJ {S':SS}(er:gi S=some (R,S)) (o:loop (bName 5) w R S=some (.nx S')):iF (bName 5) gi w S=some (.nx S'):=by
 show(gi S).bind _=_;rw[er,aad];exact o
def XI (h:Tn td):∃(F:List (List (Str×Int))) (u:U),IY [.t td,.t (.int 3)]=some (u,[])/\LU u (F.map cB)/\F.length<=300/\∀r∈F,r.length<=3:=by
 obtain⟨A,hA,eA⟩:=XD h;obtain⟨S',e,@⟨F,L,u2,u3,u4,x5,x6,x7,rfl,k2,k3,k4,l2,l3,m2,m3,i5,i6,i7⟩⟩:=pW (bd:=bName 5) (body:=oz DF) (iX 0 3) (J2 A (AAA td) (AAC 3))
  [AAA td,AAC 3,AAB ([[]].map cB),AAB ([[]].map cB),AAB (A.map kG),none,none,none]
  (.mk rfl (.inl rfl) (.inl rfl) (.inl rfl) (by decide) (by decide) (by simp) (by simp) rfl rfl rfl) (by
   rintro j d S hd @⟨F,L,u2,u3,u4,x5,x6,x7,rfl,k2,k3,k4,l2,l3,m2,m3,i5,i6,i7⟩;obtain⟨hj,rfl⟩:=uc hd;obtain⟨S2,tn,q⟩:=OZ (s0:=AAA td) (s1:=AAC 3) (s5:=AAC (j:Int)) (k:=j) k2 k3 k4 l2 l3 hA (by lia) m2 m3 rfl i6 i7;exact⟨[AAA td,AAC 3,some u2,some u3,some u4,AAC (j:Int),x6,x7],S2,by simp[-bD,br,i5],tn,q⟩)
 have el:(iX 0 3).length=3:=rfl;rw[el] at m2;have s0:Zi DF [AAA td,AAC 3,none,none,none,none,none,none]=some (.nx [AAA td,AAC 3,AAB ([[]].map cB),none,none,none,none,none]):=by simp[-bD,br,Zi,cB]
 have s1:oX DF [AAA td,AAC 3,AAB ([[]].map cB),none,none,none,none,none]=some (.nx [AAA td,AAC 3,AAB ([[]].map cB),AAB ([[]].map cB),none,none,none,none]):=by simp[-bD,br,oX,cB]
 have s2:DP DF [AAA td,AAC 3,AAB ([[]].map cB),AAB ([[]].map cB),none,none,none,none]=some (.nx [AAA td,AAC 3,AAB ([[]].map cB),AAB ([[]].map cB),AAB (A.map kG),none,none,none]):=by simp[-bD,br,DP,eA]
 have er:=wO (gA:=aa (eF (au 1)) aA) (S:=[AAA td,AAC 3,AAB ([[]].map cB),AAB ([[]].map cB),AAB (A.map kG),none,none,none]) (j:=3) (by simp) (by lia) (by lia);have s3:rs3 DF [AAA td,AAC 3,AAB ([[]].map cB),AAB ([[]].map cB),AAB (A.map kG),none,none,none]=some (.nx [AAA td,AAC 3,some u2,some u3,some u4,x5,x6,x7]):=TJ er e;have key:∀u S,XF DF [AAA td,AAC 3,some u2,some u3,some u4,x5,x6,x7]=some (.rt u (AAA td::AAC 3::S))->LU u (F.map cB)->IY [.t td,.t (.int 3)]=some (u,[]):=fun u S h4 hu=>by
  show((lV DF [AAA td,AAC 3,none,none,none,none,none,none]).bind _)=_;rw[rs_eq,bE s0,bE s1,bE s2,bE s3,h4];rcases hu with rfl|rfl<;>simp[aT]
 rcases k2 with rfl|rfl
 ·exact⟨F,_,key _ _ (by simp[XF];rfl) (.inl rfl),.inl rfl,l2,m2⟩
 ·exact⟨F,_,key _ _ (by simp[XF];rfl) (.inr rfl),.inr rfl,l2,m2⟩
structure PS (x:List Bu):Prop where
 gr:GR 32 x
 len:x.length<=32
def XJ {b:D}(h:Bs b):Gd b:=by
 have hs:wz b=true:=(abP.mp h.ok).1;have hf:iB 8 [] b=true:=(abP.mp hs).1;have sy:=Sy.of hf;exact⟨⟨(LZ sy).1,by have:=h.dep;lia,L0 sy⟩,⟨8,by lia,sy⟩,h.iT,by have:=h.w;lia⟩
def XM {t:D}(h:Th t):∃p:Tg,t=d9 p/\Gd p.1:=by
 obtain⟨b,q,rfl,hb⟩:=h;exact⟨(b,q),rfl,XJ hb⟩
theorem BV {α:Type}{f:α->D}{P:α->Prop}:∀{ds:List D},(∀d∈ds,∃a,d=f a/\P a)->∃l:List α,ds=l.map f/\∀a∈l,P a
 |[],_=>⟨[],rfl,fun _ h=>(by cases h)⟩
 |d::ds,h=>by
  obtain⟨a,rfl,ha⟩:=h d aal;obtain⟨l,rfl,hl⟩:=BV (f:=f) (P:=P) fun x hx=>h x (aaj _ hx);refine⟨a::l,rfl,fun x hx=>?_⟩;rcases aav.mp hx with rfl|hx
  ·exact ha
  ·exact hl x hx
def Qe {d:D}(h:Sn d):∃x:List Bu,d=cR x/\GR 8 x/\x.length<=5:=by
 obtain⟨st,rfl,hl,hb⟩:=h;obtain⟨x,rfl,hx⟩:=BV (f:=dQ) (P:=fun l=>UJ l/\l.length<=8) (ds:=st) fun d hd=>by
  obtain⟨ts,rfl,h1,h2⟩:=hb d hd;obtain⟨l,rfl,hl⟩:=BV (f:=d9) (P:=fun p=>Gd p.1) (ds:=ts) fun t ht=>XM (h2 t ht);exact⟨l,rfl,hl,by rw[aah] at h1;exact h1⟩
 exact⟨x,rfl,hx,by rw[aah] at hl;exact hl⟩
def Zj (aK ao ak bq aq:FM):GS:=
 (cu 2 (bu aK (cD (au 0) (aZ (eF (au 1)) bO))))
def Zk (aK ao ak bq aq:FM):GS:=
 (cu 3 (bu ao (cD (au 0) (aZ (eC (.int 6)) bO))))
def UK (aK ao ak bq aq:FM):GS:=
 (iZ (qB (eF (eP ku (aa (eF (au 3)) (aa (eC (.int 0)) aA))))) (cG (eP cM (aa (eF (au 2)) (aa (eF (bu aK (cD (au 0) (aZ (eF (au 1)) bO)))) aA)))) cX)
def UL (aK ao ak bq aq:FM):GS:=
 (iZ (qB (eF (eP ku (aa (eF (au 3)) (aa (eC (.int 1)) aA))))) (cG (eP cM (aa (eF (au 2)) (aa (eF (eP dO (aa (eF (IQ (eF (au 2)) (some (eC (.int 1))) none)) (aa (eF (IQ (eF (au 2)) none (some (eF (bu ao (cD (au 0) (aZ (eC (.int 2)) bO))))))) aA)))) aA)))) cX)
def UM (aK ao ak bq aq:FM):GS:=
 (iZ (qB (eF (eP ku (aa (eF (au 3)) (aa (eC (.int 2)) aA))))) (cG (eP cM (aa (eF (au 2)) (aa (eF (eP fU (aa (eF (cT [0] (iA (eF (au 2))) bQ (eF (Kg (qB (eF (eP ku (aa (eF (bu ao (cD (au 1) (aZ (eC (.int 2)) bO)))) (aa (eC (.int 0)) aA))))) (IQ (eF (au 0)) none (some (eF (eP Em (aa (eC (.int 1)) aA))))) (au 0))))) aA))) aA)))) cX)
def UN (aK ao ak bq aq:FM):GS:=
 (iZ (qB (eF (eP ku (aa (eF (au 3)) (aa (eC (.int 3)) aA))))) (aP (cu 4 (eP cM (aa (eC (.str "next")) (aa (eF (eP cM (aa (eC (.str "yes")) aA))) aA))))
 (aP (cu 5 (eP fU (aa (eF (cT [4] (iA (eF (au 2))) bQ (eF (eP dO (aa (eF (KC (eF (au 0)) (eF (eP Em (aa (eC (.int 1)) aA))))) (aa (eF (eP cM (aa (eF (eP cM (aa (eF (au 1)) (aa (eC (.bl true)) aA)))) aA))) aA)))))) aA)))
 (cG (eP cM (aa (eF (eP dO (aa (eF (au 2)) (aa (eF (eP cM (aa (eF (eP cM (aa (eF (eP cM (aa (eF (au 4)) (aa (eC (.bl true)) aA)))) (aa (eF (eP cM (aa (eF (au 4)) (aa (eC (.bl false)) aA)))) aA)))) aA))) aA)))) (aa (eF (au 5)) aA)))))) cX)
def pq6 (aK ao ak bq aq:FM):GS:=
 (cu 6 (cT [0,1] (mV (aa (eC (.int 2)) aA)) bQ (eF (bu ak (cD (au 1) (aZ (eF (au 2)) (aZ (eF (eP cM aA)) (cD (eP dG (aa (eF (eP dO (aa (eC (.int 1)) (aa (eF (bu ao (cD (au 1) (aZ (eC (.int 5)) bO)))) aA)))) (aa (eC (.int 1)) aA))) (aZ (eC (.int 4)) bO)))))))))
def Zl (aK ao ak bq aq:FM):GS:=
 (cu 7 (eP ku (aa (eF (bu ao (cD (au 0) (aZ (eC (.int 2)) bO)))) (aa (eC (.int 1)) aA))))
def XN (aK ao ak bq aq:FM):GS:=
 (cu 8 (bu bq (aZ (eF (eP cM (aa (eF (eP A6 (aa (eF (eP dG (aa (eC (.str "both")) (aa (eC (.str "either")) aA)))) (aa (eF (eP wj (aa (eF (au 3)) (aa (eC (.int 4)) aA)))) aA)))) (aa (cF 6 (eC (.int 0))) (aa (cF 6 (eC (.int 1))) aA))))) (aZ (eF (au 7)) bO))))
def Zm (aK ao ak bq aq:FM):GS:=
 (cG (eP cM (aa (eF (bu aq (aZ (eF (au 8)) bO))) (aa (eF (bu aq (aZ (eF (bu bq (aZ (cF 6 (eC (.int 0))) (aZ (eF (au 7)) bO)))) bO))) aA))))
def jP (aK ao ak bq aq:FM):GS:=aP (Zj aK ao ak bq aq) (aP (Zk aK ao ak bq aq) (aP (UK aK ao ak bq aq) (aP (UL aK ao ak bq aq) (aP (UM aK ao ak bq aq) (aP (UN aK ao ak bq aq) (aP (pq6 aK ao ak bq aq) (aP (Zl aK ao ak bq aq) (aP (XN aK ao ak bq aq) (Zm aK ao ak bq aq)))))))))
def DG (aK ao ak bq aq:FM):jP aK ao ak bq aq=aP (Zj aK ao ak bq aq) (aP (Zk aK ao ak bq aq) (aP (UK aK ao ak bq aq) (aP (UL aK ao ak bq aq) (aP (UM aK ao ak bq aq) (aP (UN aK ao ak bq aq) (aP (pq6 aK ao ak bq aq) (aP (Zl aK ao ak bq aq) (aP (XN aK ao ak bq aq) (Zm aK ao ak bq aq))))))))):=rfl
section
variable {f1 f2 f3 f4 f5:FM}{T T1 T2:MO}{td o o2:D}{w v:Int}{x4 x5 x6 x7 x8:Option U}
noncomputable abbrev pS (T:MO) (td o:D) (w:Int) (x4 x5 x6 x7 x8:Option U):SS:=[some (.b T),AAA td,AAA o,AAC w,x4,x5,x6,x7,x8]
def p0 (e:f1 [.b T,.t td]=some (.t o,[T1])):Zj f1 f2 f3 f4 f5 [some (.b T),AAA td,none,none,none,none,none,none,none]=some (.nx [some (.b T1),AAA td,AAA o,none,none,none,none,none,none]):=by simp[-bD,br,Zj,e]
def p1 (e:f2 [.b T,.t (.int 6)]=some (.t (.int w),[T1])):Zk f1 f2 f3 f4 f5 [some (.b T),AAA td,AAA o,none,none,none,none,none,none]=some (.nx (pS T1 td o w none none none none none)):=by simp[-bD,br,Zk,e]
def n2 (h:¬w=0):UK f1 f2 f3 f4 f5 (pS T td o w x4 x5 x6 x7 x8)=some (.nx (pS T td o w x4 x5 x6 x7 x8)):=by simp[UK,h]
def n3 (h:¬w=1):UL f1 f2 f3 f4 f5 (pS T td o w x4 x5 x6 x7 x8)=some (.nx (pS T td o w x4 x5 x6 x7 x8)):=by simp[UL,h]
def n4 (h:¬w=2):UM f1 f2 f3 f4 f5 (pS T td o w x4 x5 x6 x7 x8)=some (.nx (pS T td o w x4 x5 x6 x7 x8)):=by simp[UM,h]
def n5 (h:¬w=3):UN f1 f2 f3 f4 f5 (pS T td o w x4 x5 x6 x7 x8)=some (.nx (pS T td o w x4 x5 x6 x7 x8)):=by simp[UN,h]
def BW (td a b:D) (T:MO) (r:Option Out):Prop:=∃rest,r=some (.rt (.t (.tup [a,b])) (some (.b T)::AAA td::rest))
def BW.seq {a b:D}{h:GS}(k:BW td a b T (g S)):BW td a b T (aP g h S):=by
 obtain⟨r,e⟩:=k;exact⟨r,yI e⟩
def y2 (e:f1 [.b T,.t td]=some (.t o2,[T1])):BW td o o2 T1 (UK f1 f2 f3 f4 f5 (pS T td o 0 x4 x5 x6 x7 x8)):=⟨[AAA o,AAC 0,x4,x5,x6,x7,x8],by simp[UK,e]⟩
def Mb (ds:List D) (k:Nat):L2.cutD ds (some (k:Int)) none=ds.drop k:=Dd ds k
def y3 {k:Nat}(hk:(k:Int)=v) (hx:x.length<=100) (e:f2 [.b T,.t (.int 2)]=some (.t (.int v),[T1])):BW td (cR x) (cR (x.drop 1++x.take k)) T1 (UL f1 f2 f3 f4 f5 (pS T td (cR x) 1 x4 x5 x6 x7 x8)):=by
 have c1:=Mb (x.map dQ) 1;have c1:L2.cutD (x.map dQ) (some 1) none=(x.map dQ).drop 1:=c1;have c2:=BD (x.map dQ) k;rw[hk] at c2;have hl:((x.map dQ).drop 1).length+((x.map dQ).take k).length<=100000:=by
  rw[ach,ab9,aah];lia
 have em:(x.drop 1++x.take k).map dQ=(x.map dQ).drop 1++(x.map dQ).take k:=by rw[acg,ae2,adO]
 unfold cR;rw[em];generalize (x.map dQ).drop 1=A at *;generalize (x.map dQ).take k=B at *;exact⟨[AAA (.tup (x.map dQ)),AAC 1,x4,x5,x6,x7,x8],by simp[UL,e,c1,c2,dO,hl]⟩
def TL (l:Bu) (lo hi:BBM):∃l':Bu,L2.cutD (l.map d9) lo hi=l'.map d9/\(∀p∈l',p∈l)/\l'.length<=l.length:=by
 refine⟨(l.drop (HT.fZ l.length 0 lo)).take (HT.fZ l.length l.length hi-HT.fZ l.length 0 lo),?_,fun p hp=>aeG (adt hp),?_⟩
 ·unfold L2.cutD;rw[adO,ae2,aah]
 ·rw[ab9,ach];lia
def TM (f:FM):GD:=eF (Kg (qB (eF (eP ku (aa (eF (bu f (cD (au 1) (aZ (eC (.int 2)) bO)))) (aa (eC (.int 0)) aA))))) (IQ (eF (au 0)) none (some (eF (eP Em (aa (eC (.int 1)) aA))))) (au 0))
def TN (e:f2 [.b T,.t (.int 2)]=some (.t (.int v),[T1])):∃l':Bu,(∀p∈l',p∈l)/\l'.length<=l.length/\cg [0] bQ (TM f2) [dQ l] [some (.b T),s1,s2,s3,x4,x5,x6,x7,x8] acc=some (acc++[dQ l'],[some (.b T1),s1,s2,s3,x4,x5,x6,x7,x8]):=by
 by_cases h:v=0
 ·subst h;obtain⟨l',e1,e2,e3⟩:=TL l none (some (-1));have z0:ku [.int 0,.int 0]=AAA (.bl true):=rfl;exact⟨l',e2,e3,by simp[-PJ,cg,dH,l9,bQ,TM,dQ,e,e1,z0,aT]⟩
 ·have z0:ku [.int v,.int 0]=AAA (.bl false):=by simp[h]
  exact⟨l,fun _ h=>h,aam _,by simp[-PJ,cg,dH,l9,bQ,TM,dQ,e,z0,aT]⟩
def TQ {a:List D}(hx:x.length<=100) (ha:a.length<=1000) (ec:cg [0] bQ (TM f2) (x.map dQ) (pS T td (cR x) 2 x4 x5 x6 x7 x8) []=some (a,pS T1 td (cR x) 2 x4 x5 x6 x7 x8)):BW td (cR x) (.tup a) T1 (UM f1 f2 f3 f4 f5 (pS T td (cR x) 2 x4 x5 x6 x7 x8)):=by
 have h1:x.length<=100000:=by lia
 have h2:a.length<=100000:=by lia
 have h3:a.length<100000:=by lia
 unfold cR TM at ec;unfold cR;exact⟨[AAA (.tup (x.map dQ)),AAC 2,x4,x5,x6,x7,x8],by simp[UM,cU,h1,ec,fU,h2,h3]⟩
noncomputable def NX:D:=.tup [.str "next",.tup [.str "yes"]]
def more (x:List Bu):List Bu:=x.map fun l=>l.reverse++[(NX,true)]
def y5 (hx:x.length<=100) (hl:∀l∈x,l.length<=100) (h4:dP x4=false) (h5:dP x5=false):BW td (cR (x++[[(NX,true),(NX,false)]])) (cR (more x)) T (UN f1 f2 f3 f4 f5 (pS T td (cR x) 3 x4 x5 x6 x7 x8)):=by
 have e:=iD (cap:=[4]) (g:=eF (eP dO (aa (eF (KC (eF (au 0)) (eF (eP Em (aa (eC (.int 1)) aA))))) (aa (eF (eP cM (aa (eF (eP cM (aa (eF (au 1)) (aa (eC (.bl true)) aA)))) aA))) aA)))) (S:=pS T td (cR x) 3 (AAA NX) x5 x6 x7 x8) (ts:=[NX]) rfl (fun d=>match d with|.tup ds=>.tup (ds.reverse++[.tup [NX,.bl true]])|d=>d) (x.map dQ) [] (fun d hd=>by
  obtain⟨k,hk,rfl⟩:=abt.mp hd;have:=hl k hk;have h1:k.length+1<=100000:=by lia
  simp[dQ,xO,dO,h1])
 have eo:(x.map dQ).map (fun d=>match d with|.tup ds=>.tup (ds.reverse++[.tup [NX,.bl true]])|d=>d)=(more x).map dQ:=by
  unfold more;rw[acr,acr];refine adb fun l _=>?_;show D.tup ((l.map d9).reverse++[.tup [NX,.bl true]])= .tup ((l.reverse++[(NX,true)]).map d9);rw[acg,List.map_reverse];rfl
 rw[abZ,eo] at e;have h1:x.length<=100000:=by lia
 have h2:(more x).length<=100000:=by unfold more;rw[aah];lia
 have h2':(more x).length<100000:=by unfold more;rw[aah];lia
 have h3:x.length+1<=100000:=by lia
 have en:D.tup [.str "next",.tup [.str "yes"]]=NX:=rfl;have hX:(x.map dQ).length<=100000:=by rw[aah];exact h1
 have hX3:(x.map dQ).length+1<=100000:=by rw[aah];exact h3
 unfold cR at e ⊢;rw[acg];have ez:([[(NX,true),(NX,false)]]:List Bu).map dQ=[.tup [.tup [NX,.bl true],.tup [NX,.bl false]]]:=rfl;rw[ez];have hM:((more x).map dQ).length<=100000:=by rw[aah];exact h2
 generalize (more x).map dQ=M at *;generalize x.map dQ=X0 at *;exact⟨[AAA (.tup X0),AAC 3,AAA NX,AAA (.tup M),x6,x7,x8],by simp[-bD,br,UN,h4,h5,en,cU,hX,e,fU,hM,dO,hX3]⟩
def sgG (f g:FM):GD:=eF (bu g (cD (au 1) (aZ (eF (au 2)) (aZ (eF (eP cM aA)) (cD (eP dG (aa (eF (eP dO (aa (eC (.int 1)) (aa (eF (bu f (cD (au 1) (aZ (eC (.int 5)) bO)))) aA)))) (aa (eC (.int 1)) aA))) (aZ (eC (.int 4)) bO))))))
def Mc {k d:D}{a b:Int}(e1:f2 [.b T,.t (.int 5)]=some (.t (.int v),[T1])) (e2:f3 [.b T1,.t td,.t (.tup []),.b (bg (1+v) 1),.t (.int 4)]=some (.t d,[T2,bg a b])):
  cg [0,1] bQ (sgG f2 f3) [k] [some (.b T),AAA td,s2,s3,x4,x5,x6,x7,x8] acc=some (acc++[d],[some (.b T2),AAA td,s2,s3,x4,x5,x6,x7,x8]):=by
 simp[cg,dH,l9,bQ,sgG,dO,e1,e2,aT]
def TR {S':SS}(er:gi S=some (R,S)) (el:R.length<=100000) (ec:cg [0,1] bQ G R S []=some (o',S')):cT [0,1] gi bQ G S=some (.m (.lst o'),S'):=by
 simp[er,el,ec]
def TU (h6:dP x6=false) (ec:cT [0,1] gi bQ G (pS T td o w x4 x5 x6 x7 x8)=some (.m (.lst o'),pS T1 td o w x4 x5 x6 x7 x8)):cu 6 (cT [0,1] gi bQ G) (pS T td o w x4 x5 x6 x7 x8)=some (.nx (pS T1 td o w x4 x5 (AAB o') x7 x8)):=by
 simp[-bD,br,-tV,ec,h6]
def y7 (h7:dP x7=false) (e:f2 [.b T,.t (.int 2)]=some (.t (.int v),[T1])):∃q:Bool,Zl f1 f2 f3 f4 f5 (pS T td o w x4 x5 x6 x7 x8)=some (.nx (pS T1 td o w x4 x5 x6 (AAA (.bl q)) x8)):=
 ⟨v == 1,by simp[-bD,br,Zl,e,h7]⟩
def y8 {z:Str}{r:List D}(h8:dP x8=false) (hw:w=4/\z="both"\/w=5/\z="either") (e:f4 [.t (.tup [.str z,d1,d2]),.t (.bl q)]=some (.m (.lst r),[])):
  XN f1 f2 f3 f4 f5 (pS T td o w x4 x5 (AAB [d1,d2]) (AAA (.bl q)) x8)=some (.nx (pS T td o w x4 x5 (AAB [d1,d2]) (AAA (.bl q)) (AAB r))):=by
 have a0:d7 [d1,d2] 0=some d1:=rfl;have a1:d7 [d1,d2] 1=some d2:=rfl;have c0:d7 [D.str "both",.str "either"] 0=some (.str "both"):=rfl;have c1:d7 [D.str "both",.str "either"] 1=some (.str "either"):=rfl;rcases hw with⟨rfl,rfl⟩|⟨rfl,rfl⟩
 ·have cs:wj [.int 4,.int 4]=AAC 0:=rfl;simp[-bD,br,XN,h8,a0,a1,A6,c0,cs,e]
 ·have cs:wj [.int 5,.int 4]=AAC 1:=rfl;simp[-bD,br,XN,h8,a0,a1,A6,c1,cs,e]
def y9 {a b:D}{r r2:List D}(e1:f5 [.t (.lst r)]=some (.t a,[])) (e2:f4 [.t d1,.t (.bl q)]=some (.m (.lst r2),[])) (e3:f5 [.t (.lst r2)]=some (.t b,[])):
  BW td a b T (Zm f1 f2 f3 f4 f5 (pS T td o w x4 x5 (AAB [d1,d2]) (AAA (.bl q)) (AAB r))):=by
 have a0:d7 [d1,d2] 0=some d1:=rfl;exact⟨_,by simp[Zm,e1,a0,e2,e3];rfl⟩
end
def XO {bs:BBB}{d:D}(h:Sy n bs d):be (n+1) d=be n d:=by
 induction h with
 |leaf h=>rfl
 |now h=>exact(if_neg (by decide)).trans (if_neg (by decide)).symm
 |@one n bs z p hz _ ih=>
  show(if z="not" then be (n+1) p else 0)=(if z="not" then be n p else 0);rw[ih]
 |@two n bs z p q hz _ _ i1 i2=>
  show(if z="both"\/z="either" then be (n+1) p+be (n+1) q+1 else 0)=(if z="both"\/z="either" then be n p+be n q+1 else 0);rw[i1,i2]
 |PY _ _ _ ih=>exact(if_neg (by decide)).trans (if_neg (by decide)).symm
 |bnd _ _ _ _ ih=>rfl
def Me:FM:=bH 9 (jP anyF bW (gn 4) (DS 5) BR)
def TV:∀us r,Me us=some r->bH 9 (jP anyF bW (gn 4) (DS 5) BR) us=some r:=fun _ _ h=>h
def yL {T':MO}{a b:D}(h:BW td a b T' (jP anyF bW (gn 4) (DS 5) BR [some (.b T),AAA td,none,none,none,none,none,none,none])):Me [.b T,.t td]=some (.t (.tup [a,b]),[T']):=by
 obtain⟨r,e⟩:=h;show((jP anyF bW (gn 4) (DS 5) BR [some (.b T),AAA td,none,none,none,none,none,none,none]).bind _)=_;rw[e];simp[aT]
def PS.of (h:GR N x) (hN:N<=32) (hl:x.length<=32):PS x:=⟨h.mono hN,hl⟩
structure Sd4 (d:D):Prop where
 sy:Sy 4 [] d
 be:be 4 d<=2
def O0 (hT:Fd n T) (hn:n<400000) (ht:Tb td):
  ∃d1 d2 T',cg [0,1] bQ (sgG bW (gn 4)) (iX 0 2) [some (.b T),AAA td,s2,s3,x4,x5,x6,x7,x8] []=some ([d1,d2],[some (.b T'),AAA td,s2,s3,x4,x5,x6,x7,x8])/\Sd4 d1/\Sd4 d2/\Fd (n+300) T':=by
 have one:∀(T:MO) (m:Nat),Fd m T->m<600000->∃d T' v T1 a b,bW [.b T,.t (.int 5)]=some (.t (.int v),[T1])/\gn 4 [.b T1,.t td,.t (.tup []),.b (bg (1+v) 1),.t (.int 4)]=some (.t d,[T',bg a b])/\Sd4 d/\Fd (m+150) T':=fun T m hT hm=>by
  obtain⟨v,T1,e1,v0,v1,h1⟩:=cA (m:=5) hT (by lia) (by decide) (by decide);obtain⟨d,T2,a',bin,g1,g2,g3,g4,g5⟩:=Lx 4 (by lia) 4 (by lia) T1 (m+1) td [] (1+v) 1 h1 (by rw[show rm 4=15 by decide];lia) ht (by simp only[adC];lia) (by simp);have:=g5 (by lia);exact⟨d,T2,v,T1,a',_,e1,g1,⟨Sy.of g2.dr.fm,by lia⟩,g4.mono (by rw[show rm 4=15 by decide];lia)⟩
 obtain⟨d1,T2,v,T1,a,b,e1,e2,s1,h2⟩:=one T n hT (by lia);obtain⟨d2,T4,v',T3,a',b',e3,e4,s2',h4⟩:=one T2 (n+150) h2 (by lia);refine⟨d1,d2,T4,?_,s1,s2',h4.mono (by lia)⟩;have er:iX 0 2=[.int 0,.int 1]:=rfl;rw[er,Sq.n6,Mc e1 e2,aad];exact Mc e3 e4
def XQ:GR 2 [[(NX,true),(NX,false)]]:=fun l hl=>by
 have g:Gd NX:=L1 (n:=2) (.one (by decide) (.leaf (.inl rfl))) (by lia);rw[aao.mp hl];refine⟨fun p hp=>?_,aam _⟩;rcases aav.mp hp with rfl|hp
 ·exact g
 ·rw[aao.mp hp];exact g
def O1 (h:GR N x):GR (N+1) (more x):=fun l hl=>by
 have g:Gd NX:=L1 (n:=2) (.one (by decide) (.leaf (.inl rfl))) (by lia);obtain⟨k,hk,rfl⟩:=abt.mp hl;obtain⟨h1,h2⟩:=h k hk;refine⟨fun p hp=>?_,by rw[aan,ada,abR];lia⟩;rcases aaG.mp hp with q|q
 ·exact h1 p (afp.mp q)
 ·rw[aao.mp q];exact g
def abS (hT:Fd n T) (hn:n+x.length<900000) (hx:GR 8 x):
  ∃ys T',cg [0] bQ (TM bW) (x.map dQ) (pS T td (cR x) 2 x4 x5 x6 x7 x8) []=some (List.map dQ ys,pS T' td (cR x) 2 x4 x5 x6 x7 x8)/\GR 8 ys/\ys.length=x.length/\Fd (n+x.length) T':=by
 obtain⟨acc,S',e,T',ys,rfl,rfl,hg,hl,hf⟩:=C8 (cap:=[0]) (g:=TM bW) (x.map dQ)
  (fun j acc S=>∃(T':MO) (ys:List Bu),S=pS T' td (cR x) 2 x4 x5 x6 x7 x8/\acc=ys.map dQ/\GR 8 ys/\ys.length=j/\Fd (n+j) T')
  (pS T td (cR x) 2 x4 x5 x6 x7 x8) ⟨T,[],rfl,rfl,fun l h=>(by cases h),rfl,hT⟩ (by
   rintro j d acc S hd ⟨T1,ys,rfl,rfl,hg,hl,hf⟩;rw[abx] at hd;obtain⟨l,hz,rfl⟩:=aB hd;have hj:j<x.length:=(aaD.mp hz).1;obtain⟨v,T2,e1,v0,v1,f2⟩:=cA (m:=2) hf (by lia) (by decide) (by decide);obtain⟨l',m1,m2,e2⟩:=TN (l:=l) (acc:=ys.map dQ) (s1:=AAA td) (s2:=AAA (cR x)) (s3:=AAC 2) (x4:=x4) (x5:=x5) (x6:=x6) (x7:=x7) (x8:=x8) e1;obtain⟨q1,q2⟩:=hx l (abK hz);refine⟨dQ l',_,e2,T2,ys++[l'],rfl,by rw[acg];rfl,fun k hk=>?_,by rw[aan,abR,hl],f2⟩;rcases aaG.mp hk with q|q
   ·exact hg k q
   ·rw[aao.mp q];exact⟨fun p hp=>q1 p (m1 p hp),by lia⟩)
 rw[aah] at hl hf;exact⟨ys,T',e,hg,hl,hf⟩
def XR (hT:Fd n T) (hn:n<300000) (ht:Tb td):∃x y T',Me [.b T,.t td]=some (.t (.tup [cR x,cR y]),[T'])/\PS x/\PS y/\Fd (n+1500) T'/\x.length+y.length<=38:=by
 obtain⟨d,T1,e1,sn,h1⟩:=LA hT (by lia) ht;obtain⟨x,rfl,gx,lx⟩:=Qe sn;obtain⟨w,T2,e2,w0,w1,h2⟩:=cA (m:=6) h1 (by lia) (by decide) (by decide);have px:PS x:=.of gx (by lia) (by lia);have b0:=p0 (f2:=bW) (f3:=gn 4) (f4:=DS 5) (f5:=BR) e1;have b1:=p1 (f1:=anyF) (f3:=gn 4) (f4:=DS 5) (f5:=BR) (td:=td) (o:=cR x) e2;have hw:w=0\/w=1\/w=2\/w=3\/w=4\/w=5:=by lia
 rcases hw with rfl|rfl|rfl|rfl|hw
 ·obtain⟨d,T3,e3,sn3,h3⟩:=LA h2 (by lia) ht;obtain⟨y,rfl,gy,ly⟩:=Qe sn3;refine⟨x,y,T3,yL ?_,px,.of gy (by lia) (by lia),h3.mono (by lia),by lia⟩;rw[DG,bE b0,bE b1];exact(y2 e3).seq
 ·obtain⟨v,T3,e3,v0,v1,h3⟩:=cA (m:=2) h2 (by lia) (by decide) (by decide);refine⟨x,x.drop 1++x.take v.toNat,T3,yL ?_,px,.of (N:=8) (fun l hl=>?_) (by lia) ?_,h3.mono (by lia),by rw[aan,ach,ab9];lia⟩
  ·rw[DG,bE b0,bE b1,bE (n2 (by decide))];exact(y3 (by lia) (by lia) e3).seq
  ·rcases aaG.mp hl with q|q
   ·exact gx l (aeG q)
   ·exact gx l (adt q)
  ·rw[aan,ach,ab9];lia
 ·obtain⟨ys,T3,e3,gy,ly,h3⟩:=abS (td:=td) (x4:=none) (x5:=none) (x6:=none) (x7:=none) (x8:=none) h2 (by lia) gx;refine⟨x,ys,T3,yL ?_,px,.of gy (by lia) (by lia),h3.mono (by lia),by lia⟩;rw[DG,bE b0,bE b1,bE (n2 (by decide)),bE (n3 (by decide))];exact(TQ (by lia) (by rw[aah];lia) e3).seq
 ·refine⟨x++[[(NX,true),(NX,false)]],more x,T2,yL ?_,.of (N:=8) (fun l hl=>?_) (by lia) (by rw[aan,abR];lia),.of (O1 gx) (by lia) (by unfold more;rw[aah];lia),h2.mono (by lia),by unfold more;rw[aan,abR,aah];lia⟩
  ·rw[DG,bE b0,bE b1,bE (n2 (by decide)),bE (n3 (by decide)),bE (n4 (by decide))];exact(y5 (by lia) (fun l hl=>by have:=(gx l hl).2;lia) rfl rfl).seq
  ·rcases aaG.mp hl with q|q
   ·exact gx l q
   ·exact(XQ.mono (by lia)) l q
 ·obtain⟨d1,d2,T3,e3,s1,s2,h3⟩:=O0 (s2:=AAA (cR x)) (s3:=AAC w) (x4:=none) (x5:=none) (x6:=none) (x7:=none) (x8:=none) h2 (by lia) ht;obtain⟨v,T4,e4,v0,v1,h4⟩:=cA (m:=2) h3 (by lia) (by decide) (by decide);obtain⟨z,hz,hwz⟩:∃z:Str,(z="both"\/z="either")/\(w=4/\z="both"\/w=5/\z="either"):=by
   rcases hw with rfl|rfl
   ·exact⟨"both",.inl rfl,.inl ⟨rfl,rfl⟩⟩
   ·exact⟨"either",.inr rfl,.inr ⟨rfl,rfl⟩⟩
  have IT:Sy 5 [] (.tup [.str z,d1,d2]):=.two (by rcases hz with rfl|rfl<;>decide) s1.sy s2.sy;obtain⟨q,c7⟩:=y7 (f1:=anyF) (f3:=gn 4) (f4:=DS 5) (f5:=BR) (td:=td) (o:=cR x) (w:=w) (x4:=none) (x5:=none) (x6:=AAB [d1,d2]) (x7:=none) (x8:=none) rfl e4;have k1:=s1.be;have k2:=s2.be;have k3:be 5 (.tup [.str z,d1,d2])<=be 4 d1+be 4 d2+1:=Lw 4 z d1 d2;obtain⟨r1,l1,g1,b1'⟩:=DC 5 _ q IT (by lia) (by lia);have k4:be 5 d1=be 4 d1:=XO s1.sy;obtain⟨r2,l2,g2,b2'⟩:=DC 5 d1 q (Sy.up s1.sy (by lia)) (by lia) (by lia);have p1':2 ^ be 5 (.tup [.str z,d1,d2])<=2 ^ 5:=acy (by lia) (by lia);have p2':2 ^ be 5 d1<=2 ^ 2:=acy (by lia) (by lia);have hh1:=GC (r:=r1) (by lia) (fun k hk=>by have:=(g1 k hk).2;lia);have hh2:=GC (r:=r2) (by lia) (fun k hk=>by have:=(g2 k hk).2;lia);refine⟨r1,r2,T4,yL ?_,.of g1 (by lia) (by lia),.of g2 (by lia) (by lia),h4.mono (by lia),by lia⟩;have w0':¬w=0:=by lia
  have VX:¬w=1:=by lia
  have VY:¬w=2:=by lia
  have w3':¬w=3:=by lia
  have er:mV (aa (eC (.int 2)) aA) (pS T2 td (cR x) w none none none none none)=some (iX 0 2,pS T2 td (cR x) w none none none none none):=wO (j:=2) rfl (by lia) (by lia);have c6:pq6 anyF bW (gn 4) (DS 5) BR (pS T2 td (cR x) w none none none none none)=some (.nx (pS T3 td (cR x) w none none (AAB [d1,d2]) none none)):=TU rfl (TR er (by decide) e3);rw[DG,bE b0,bE b1,bE (n2 w0'),bE (n3 VX),bE (n4 VY),bE (n5 w3'),bE c6,bE c7,bE (y8 rfl hwz l1)];exact y9 hh1 l2 hh2
end T5
end
section
namespace Sd
open L2
def IK (us:List U):gn 0 us=none:=rfl
end Sd
namespace T5
open PySem PySem.Spec PyProof.Rows L2 Sw Ss Sd Sp
variable {x:List Bu}{o9 mO nM:Option U}
def Mf (us:List U):IF 0 us=none:=rfl
def Mg (us:List U):DS 0 us=none:=rfl
def abV {d:D}(h:Sane d) (hw:wD d<=16000000) (hd:bV d<=20):Nq d:=
 ⟨vV d h,by rw[depth_eq];exact hd,abl (shown_le d h) (abl hw (by decide))⟩
def O2 {l:Bu}{N:Nat}(h:UJ l) (hl:l.length<=N):Good (12550*N+4) 10 (dQ l):=by
 have ht:∀t∈l.map d9,Sane t/\wD t<=12540/\bV t<=9:=fun t ht=>by
  obtain⟨p,hp,rfl⟩:=abt.mp ht;obtain⟨hb,_,hs,hw⟩:=h p hp;refine⟨⟨hs,True.intro,True.intro⟩,?_,LL hb⟩;show wD p.1+2+(wD (.bl p.2)+2+0)+4<=12540;have:wD (.bl p.2)<=20:=by cases p.2<;>decide
  lia
 have w:=BH (c:=12540) fun t h=>(ht t h).2.1;rw[aah] at w;have m:(12540+2)*l.length<=12542*N:=adQ _ hl;refine⟨pT.of fun t h=>(ht t h).1,?_,BG fun t h=>(ht t h).2.2⟩;show IS (l.map d9)+4<=_;lia
def GL (h:GR 32 x) (hl:x.length<=32):Good (401620*x.length+4) 11 (cR x):=by
 have ht:∀t∈x.map dQ,Good (12550*32+4) 10 t:=fun t ht=>by
  obtain⟨l,hl,rfl⟩:=abt.mp ht;exact O2 (h l hl).1 (h l hl).2
 have w:=BH (c:=12550*32+4) fun t h=>(ht t h).w;rw[aah] at w;refine⟨pT.of fun t h=>(ht t h).iT,?_,BG fun t h=>(ht t h).dep⟩;show IS (x.map dQ)+4<=_;lia
def O3 {y:List Bu}(hx:PS x) (hy:PS y) (hl:x.length+y.length<=38):Nq (.tup [cR x,cR y]):=by
 have g1:=GL hx.gr hx.len;have g2:=GL hy.gr hy.len;have w1:=g1.w;have w2:=g2.w;have d1:=g1.dep;have d2:=g2.dep;refine abV ⟨g1.iT,g2.iT,True.intro⟩ ?_ ?_
 ·show wD (cR x)+2+(wD (cR y)+2+0)+4<=16000000;lia
 ·show max (bV (cR x)) (max (bV (cR y)) 0)+1<=20;lia
def Zn (aM aH aN aO aI aq aE aX bG az:FM):GS:=
 (cu 10 (bu aI (aZ (eF (au 8)) (aZ (eF (au 9)) bO))))
def Zo (aM aH aN aO aI aq aE aX bG az:FM):GS:=
 (cu 11 (eP dG (aa (eF (bu aq (aZ (eF (bu aE (aZ (eF (au 8)) bO))) bO))) (aa (eF (bu aq (aZ (eF (bu aE (aZ (eF (au 9)) bO))) bO))) aA))))
def Zp (aM aH aN aO aI aq aE aX bG az:FM):GS:=
 (iZ (Ue (nT (qB (eF (bu aX (aZ (eF (bu bG (aZ (eF (au 8)) (aZ (eF (au 9)) bO)))) (aZ (eF (au 10)) bO)))))) (nT (qB (eF (bu aX (aZ (eF (bu bG (aZ (cF 11 (eC (.int 0))) (aZ (cF 11 (eC (.int 1))) bO)))) (aZ (eF (au 10)) bO))))))) (cG (eT (eC (.bl false)))) cX)
def XS (aM aH aN aO aI aq aE aX bG az:FM):GS:=
 (cu 12 (cT [8] (iA (eF (au 3))) (qB (eF (bu az (aZ (eF (au 1)) (aZ (eF (au 0)) bO))))) (eF (au 0))))
def XT (aM aH aN aO aI aq aE aX bG az:FM):GS:=
 (iZ (uM (qB (eF (au 10))) (qB (eF (eP Mq (aa (eF (cT [9] (iA (eF (au 12))) (nT (qB (eF (bu az (aZ (eF (au 1)) (aZ (eF (au 0)) bO)))))) (eF (au 0)))) (aa (eF (eP dG aA)) aA)))))) (cG (eT (eC (.bl false)))) cX)
def se (aM aH aN aO aI aq aE aX bG az:FM):GS:=aP (Zn aM aH aN aO aI aq aE aX bG az) (aP (Zo aM aH aN aO aI aq aE aX bG az) (aP (Zp aM aH aN aO aI aq aE aX bG az) (aP (XS aM aH aN aO aI aq aE aX bG az) (XT aM aH aN aO aI aq aE aX bG az))))
def XU (aM aH aN aO aI aq aE aX bG az:FM):se aM aH aN aO aI aq aE aX bG az=aP (Zn aM aH aN aO aI aq aE aX bG az) (aP (Zo aM aH aN aO aI aq aE aX bG az) (aP (Zp aM aH aN aO aI aq aE aX bG az) (aP (XS aM aH aN aO aI aq aE aX bG az) (XT aM aH aN aO aI aq aE aX bG az)))):=rfl
def Zq (aM aH aN aO aI aq aE aX bG az:FM):GS:=
 (Q9 (uP 2 (gU (bName 5) (gU (bName 6) wk))) (eF (bu aO (cD (au 1) (aZ (eF (au 2)) bO)))))
def Zr (aM aH aN aO aI aq aE aX bG az:FM):GS:=
 (cu 7 (eP xG (aa (eF (eP cM (aa (eF (au 5)) (aa (eF (au 6)) aA)))) aA)))
def vb2 (aM aH aN aO aI aq aE aX bG az:FM):GS:=
 (iF (uP 2 (gU (bName 8) (gU (bName 9) wk))) (CD (eF (eP dG (aa (eF (eP cM (aa (eF (au 5)) (aa (eF (au 6)) aA)))) (aa (eF (eP cM (aa (eF (au 6)) (aa (eF (au 5)) aA)))) aA))))) (se aM aH aN aO aI aq aE aX bG az))
def Zs (aM aH aN aO aI aq aE aX bG az:FM):GS:=
 (iZ (qB (eF (eP Mq (aa (eF (eP xG (aa (eF (eP cM (aa (eF (au 5)) (aa (eF (au 6)) aA)))) aA))) (aa (eF (au 7)) aA))))) (cG (eT (eC (.bl false)))) cX)
def yM (aM aH aN aO aI aq aE aX bG az:FM):GS:=aP (Zq aM aH aN aO aI aq aE aX bG az) (aP (Zr aM aH aN aO aI aq aE aX bG az) (aP (vb2 aM aH aN aO aI aq aE aX bG az) (Zs aM aH aN aO aI aq aE aX bG az)))
def XW (aM aH aN aO aI aq aE aX bG az:FM):yM aM aH aN aO aI aq aE aX bG az=aP (Zq aM aH aN aO aI aq aE aX bG az) (aP (Zr aM aH aN aO aI aq aE aX bG az) (aP (vb2 aM aH aN aO aI aq aE aX bG az) (Zs aM aH aN aO aI aq aE aX bG az))):=rfl
def Zt (aM aH aN aO aI aq aE aX bG az:FM):GS:=
 (cu 1 (bu aM (cD (au 0) bO)))
def Zu (aM aH aN aO aI aq aE aX bG az:FM):GS:=
 (cu 2 (bu aH (cD (au 1) bO)))
def Zv (aM aH aN aO aI aq aE aX bG az:FM):GS:=
 (cu 3 (IQ (eF (bu aN (aZ (eF (au 2)) (aZ (eC (.int 3)) bO)))) none (some (eC (.int 60)))))
def Zw (aM aH aN aO aI aq aE aX bG az:FM):GS:=
 (iF (bName 4) (mV (aa (eC (.int 8)) aA)) (yM aM aH aN aO aI aq aE aX bG az))
def lw4 (aM aH aN aO aI aq aE aX bG az:FM):GS:=
 (cG (eT (eC (.bl true))))
def DH (aM aH aN aO aI aq aE aX bG az:FM):GS:=aP (Zt aM aH aN aO aI aq aE aX bG az) (aP (Zu aM aH aN aO aI aq aE aX bG az) (aP (Zv aM aH aN aO aI aq aE aX bG az) (aP (Zw aM aH aN aO aI aq aE aX bG az) (lw4 aM aH aN aO aI aq aE aX bG az))))
def lw_eq (aM aH aN aO aI aq aE aX bG az:FM):DH aM aH aN aO aI aq aE aX bG az=aP (Zt aM aH aN aO aI aq aE aX bG az) (aP (Zu aM aH aN aO aI aq aE aX bG az) (aP (Zv aM aH aN aO aI aq aE aX bG az) (aP (Zw aM aH aN aO aI aq aE aX bG az) (lw4 aM aH aN aO aI aq aE aX bG az)))):=rfl
def BX {N:Nat}(h:GR N x):tot x<=N*x.length:=by
 induction x with
 |nil=>exact abH _
 |cons l x ih=>
  have h1:=(h l aal).2;have h2:=ih fun k hk=>h k (aaj _ hk);have:tot (l::x)=l.length+tot x:=by simp[tot]
  rw[this,abn,Nat.mul_succ];lia
section
variable {f1 f2 f3 f4 f5 f6 f7 f8 f9 GO:FM}{s0 s1 s2 s4 s5 s6 s7 o9 mO nM:Option U}{u3:U}{a b a' b':D}{ra rb F:List D}{q:Bool}
noncomputable abbrev wS (s0 s1 s2:Option U) (u3:U) (s4 s5 s6 s7:Option U) (a b:D) (o9 mO nM:Option U):SS:=[s0,s1,s2,some u3,s4,s5,s6,s7,AAA a,AAA b,o9,mO,nM]
def v0 (h:dP o9=false) (e:f5 [.t a,.t b]=some (.t (.bl q),[])):Zn f1 f2 f3 f4 f5 f6 f7 f8 f9 GO (wS s0 s1 s2 u3 s4 s5 s6 s7 a b o9 mO nM)=some (.nx (wS s0 s1 s2 u3 s4 s5 s6 s7 a b (AAA (.bl q)) mO nM)):=by simp[-bD,br,Zn,h,e]
def v1 (h:dP mO=false) (e1:f7 [.t a]=some (.m (.lst ra),[])) (e2:f6 [.t (.lst ra)]=some (.t a',[])) (e3:f7 [.t b]=some (.m (.lst rb),[])) (e4:f6 [.t (.lst rb)]=some (.t b',[])):
  Zo f1 f2 f3 f4 f5 f6 f7 f8 f9 GO (wS s0 s1 s2 u3 s4 s5 s6 s7 a b o9 mO nM)=some (.nx (wS s0 s1 s2 u3 s4 s5 s6 s7 a b o9 (AAB [a',b']) nM)):=by simp[-bD,br,Zo,h,e1,e2,e3,e4]
def v2 (e1:f9 [.t a,.t b]=some (.t (.bl q),[])) (e2:f9 [.t a',.t b']=some (.t (.bl q),[])) (e3:f8 [.t (.bl q),.t (.bl q)]=some (.t (.bl true),[])):
  Zp f1 f2 f3 f4 f5 f6 f7 f8 f9 GO (wS s0 s1 s2 u3 s4 s5 s6 s7 a b (AAA (.bl q)) (AAB [a',b']) nM)=some (.nx (wS s0 s1 s2 u3 s4 s5 s6 s7 a b (AAA (.bl q)) (AAB [a',b']) nM)):=by
 have a0:d7 [a',b'] 0=some a':=rfl;have a1:d7 [a',b'] 1=some b':=rfl;simp[Zp,e1,e2,e3,a0,a1]
def v3 (h:dP nM=false) (hu:LU u3 F) (hF:F.length<=1000) (p:D->Bool) (e:∀d∈F,GO [.t a,.t d]=some (.t (.bl (p d)),[])):
  XS f1 f2 f3 f4 f5 f6 f7 f8 f9 GO (wS s0 s1 s2 u3 s4 s5 s6 s7 a b o9 mO nM)=some (.nx (wS s0 s1 s2 (.t (.lst F)) s4 s5 s6 s7 a b o9 mO (AAB (F.filter p)))):=by
 have ec:=nY (cap:=[8]) (q:=qB (eF (bu GO (aZ (eF (au 1)) (aZ (eF (au 0)) bO))))) (g:=eF (au 0)) (S:=wS s0 s1 s2 (.t (.lst F)) s4 s5 s6 s7 a b o9 mO nM) (ts:=[a]) rfl p (fun d=>d) F [] (fun d hd=>by
  have:=e d hd;simp[this]) (fun d hd _=>by simp)
 rw[abZ,afr] at ec;have h1:F.length<=100000:=by lia
 rcases hu with rfl|rfl
 ·simp[-bD,br,XS,cU,h1,ec,h]
 ·simp[-bD,br,XS,cU,h1,ec,h]
def v4 {G:List D}(hG:G.length<=1000) (p:D->Bool) (hp:q=true->∀d∈G,p d=true) (e:∀d∈G,GO [.t b,.t d]=some (.t (.bl (p d)),[])):
  ∃TX,dP TX=false/\XT f1 f2 f3 f4 f5 f6 f7 f8 f9 GO (wS s0 s1 s2 u3 s4 s5 s6 s7 a b (AAA (.bl q)) mO (AAB G))=some (.nx (wS s0 s1 s2 u3 s4 s5 s6 s7 a b (AAA (.bl q)) mO TX)):=by
 cases q with
 |false=>exact⟨some (.m (.lst G)),rfl,by simp[XT]⟩
 |true=>
  have ec:=nY (cap:=[9]) (q:=nT (qB (eF (bu GO (aZ (eF (au 1)) (aZ (eF (au 0)) bO)))))) (g:=eF (au 0)) (S:=wS s0 s1 s2 u3 s4 s5 s6 s7 a b (AAA (.bl true)) mO (AAA (.lst G))) (ts:=[b]) rfl (fun d=>!p d) (fun d=>d) G [] (fun d hd=>by
   have:=e d hd;simp[this]) (fun d hd _=>by simp)
  have ef:G.filter (fun d=>!p d)=[]:=List.filter_eq_nil_iff.mpr fun d hd=>by rw[hp rfl d hd];simp
  rw[abZ,afr,ef] at ec;have h1:G.length<=100000:=by lia
  have z0:Mq [.lst [],.lst []]=AAA (.bl false):=rfl;exact⟨AAA (.lst G),rfl,by simp[XT,cU,h1,ec,z0]⟩
end
abbrev Qg (C:Addr){α:Type}(g:FM->FM->FM->FM->FM->FM->FM->FM->FM->FM->α):α:=g o7 Sd.lA IY Me LN BR yH Ma (My C) IG
def TY {d:D}(h:Nq d):xG [d]=AAA (.str (toPy d).shown):=by show(if Nq d then some (U.t (.str (toPy d).shown)) else none)=_;rw[if_pos h]
def look {C:Addr}{y:List Bu}{F:List (List (Str×Int))}{s0 s1 s2 s4 s5 s6 s7:Option U}{u3:U}(hx:PS x) (hy:PS y) (hu:LU u3 (F.map cB)) (hF:F.length<=300) (hr:∀r∈F,r.length<=3) (h10:dP o9=false) (h11:dP mO=false) (h12:dP nM=false):
  ∃y10 y11 TX,dP y10=false/\dP y11=false/\dP TX=false/\Qg C se (wS s0 s1 s2 u3 s4 s5 s6 s7 (cR x) (cR y) o9 mO nM)=some (.nx (wS s0 s1 s2 (.t (.lst (F.map cB))) s4 s5 s6 s7 (cR x) (cR y) y10 y11 TX)):=by
 have lx:=hx.len;have ly:=hy.len;have tx:=BX hx.gr;have ty:=BX hy.gr;have gs:∀{x:List Bu},PS x->Gu x:=fun h l hl=>⟨(h.gr l hl).1.gb,by have:=(h.gr l hl).2;lia⟩
 have bc:∀{x:List Bu},PS x->∀l∈x,∀p∈l,Bc p.1:=fun h l hl p hp=>((h.gr l hl).1 p hp).1;have e0:=Xm (gs hx) (gs hy) (by lia);obtain⟨r,t1,d1⟩:=LW (b:=false) (x:=x) (fun l hl=>⟨(hx.gr l hl).1.gb,by have:=(hx.gr l hl).2;lia⟩) (by lia);obtain⟨s,t2,d2⟩:=LW (b:=false) (x:=y) (fun l hl=>⟨(hy.gr l hl).1.gb,by have:=(hy.gr l hl).2;lia⟩) (by lia);have t1:yH [.t (cR x)]=some (.m (.lst (r.map cN)),[]):=t1;have t2:yH [.t (cR y)]=some (.m (.lst (s.map cN)),[]):=t2;have gr:=hx.gr.SM d1;have gs':=hy.gr.SM d2;have lr:=d1.len;have ls:=d2.len;have hh1:=GC (r:=r) (by lia) (fun k hk=>by have:=(gr k hk).2;lia);have hh2:=GC (r:=s) (by lia) (fun k hk=>by have:=(gs' k hk).2;lia);have tr:=BX gr;have ts:=BX gs';have e1:=P9 (C:=C) (bc hx) (bc hy) (by lia) (by lia) (by lia);have e2:=P9 (C:=C) (x:=r) (y:=s) (fun l hl p hp=>((gr l hl).1 p hp).1) (fun l hl p hp=>((gs' l hl).1 p hp).1) (by lia) (by lia) (by lia);rw[Tr.sh d1.tr d2.tr] at e2;have e3:=XE (vX x y) (vX x y);have eq:(vX x y == vX x y)=true:=by simp
 rw[eq] at e3;have rw':∀d∈F.map cB,Rw d:=fun d hd=>by
  obtain⟨r,hr',rfl⟩:=abt.mp hd;refine⟨⟨r.map kG,rfl,by rw[aah];have:=hr r hr';lia,fun h hh=>?_⟩⟩;obtain⟨p,_,rfl⟩:=abt.mp hh;exact⟨p,rfl⟩
 have f1:∀d∈F.map cB,IG [.t (cR x),.t d]=some (.t (.bl (wB d x)),[]):=fun d hd=>Qd (rw' d hd) (hx.gr.mono (by lia));have f2:∀d∈F.map cB,IG [.t (cR y),.t d]=some (.t (.bl (wB d y)),[]):=fun d hd=>Qd (rw' d hd) (hy.gr.mono (by lia));have hl:(F.map cB).length<=1000:=by rw[aah];lia
 have hg:((F.map cB).filter fun d=>wB d x).length<=1000:=abl (List.length_filter_le _ _) hl;generalize hS:vX x y=sh at *;have k4:=v4 (f1:=o7) (f2:=Sd.lA) (f3:=IY) (f4:=Me) (f5:=LN) (f6:=BR) (f7:=yH) (f8:=Ma) (f9:=My C) (GO:=IG) (s0:=s0) (s1:=s1) (s2:=s2) (s4:=s4) (s5:=s5) (s6:=s6) (s7:=s7) (u3:=.t (.lst (F.map cB))) (a:=cR x) (b:=cR y) (mO:=AAB [cR r,cR s]) (q:=sh) hg (fun d=>wB d y)
  (fun hq d hd=>by
   obtain⟨h1,h2⟩:=acB.mp hd;exact IJ (hS.trans hq) h2)
  (fun d hd=>f2 d (acB.mp hd).1)
 obtain⟨TX,i12,e4⟩:=k4;refine⟨AAA (.bl sh),AAB [cR r,cR s],TX,rfl,rfl,i12,?_⟩;show se _ _ _ _ _ _ _ _ _ _ _=_;rw[XU,bE (v0 h10 e0),bE (v1 h11 t1 hh1 t2 hh2),bE (v2 e1 e2 e3),bE (v3 h12 hu hl (fun d=>wB d x) f1)];exact e4
section
variable {f1 f2 f3 f4 f5 f6 f7 f8 f9 GO:FM}{ns:BBD}{T T1:MO}{td a b:D}{x4 x5 x6 x7 x8 x9 o9 mO nM:Option U}{u3:U}{z:Str}
noncomputable abbrev vS (ns:BBD) (T:MO) (td:D) (u3:U) (x4 x5 x6 x7 x8 x9 o9 mO nM:Option U):SS:=[some (.s ns),some (.m T),AAA td,some u3,x4,x5,x6,x7,x8,x9,o9,mO,nM]
def t0 (h5:dP x5=false) (h6:dP x6=false) (e:f4 [.b T,.t td]=some (.t (.tup [a,b]),[T1])):Zq f1 f2 f3 f4 f5 f6 f7 f8 f9 GO (vS ns T td u3 x4 x5 x6 x7 x8 x9 o9 mO nM)=some (.nx (vS ns T1 td u3 x4 (AAA a) (AAA b) x7 x8 x9 o9 mO nM)):=by simp[-bD,br,Zq,h5,h6,e]
def t1 (h7:dP x7=false) (e:xG [.tup [a,b]]=AAA (.str z)):Zr f1 f2 f3 f4 f5 f6 f7 f8 f9 GO (vS ns T td u3 x4 (AAA a) (AAA b) x7 x8 x9 o9 mO nM)=some (.nx (vS ns T td u3 x4 (AAA a) (AAA b) (AAA (.str z)) x8 x9 o9 mO nM)):=by simp[-bD,br,-FD,Zr,h7,e]
def t3 (e:xG [.tup [a,b]]=AAA (.str z)):Zs f1 f2 f3 f4 f5 f6 f7 f8 f9 GO (vS ns T td u3 x4 (AAA a) (AAA b) (AAA (.str z)) x8 x9 o9 mO nM)=some (.nx (vS ns T td u3 x4 (AAA a) (AAA b) (AAA (.str z)) x8 x9 o9 mO nM)):=by
 have e2:=mZ (.str z);simp[-FD,Zs,e,Mq,bV,e2]
def t2 {w:GS}{S':SS}(e:loop (uP 2 (gU (bName 8) (gU (bName 9) wk))) w [.tup [a,b],.tup [b,a]] (vS ns T td u3 x4 (AAA a) (AAA b) x7 x8 x9 o9 mO nM)=some (.nx S')):
  iF (uP 2 (gU (bName 8) (gU (bName 9) wk))) (CD (eF (eP dG (aa (eF (eP cM (aa (eF (au 5)) (aa (eF (au 6)) aA)))) (aa (eF (eP cM (aa (eF (au 6)) (aa (eF (au 5)) aA)))) aA))))) w (vS ns T td u3 x4 (AAA a) (AAA b) x7 x8 x9 o9 mO nM)=some (.nx S'):=by
 rw[<-e];simp
def b89 (h8:dP x8=false) (h9:dP x9=false){a0 b0:Option U}:uP 2 (gU (bName 8) (gU (bName 9) wk)) (.tup [a,b]) (vS ns T td u3 x4 a0 b0 x7 x8 x9 o9 mO nM)=some (vS ns T td u3 x4 a0 b0 x7 (AAA a) (AAA b) o9 mO nM):=by simp[-bD,br,h8,h9]
end
inductive V25 (ns:BBD) (td:D) (L:List D) (x4:Option U) (n:Nat) (r:Option Out):Prop where
 |mk {T:MO}{x5 x6 x7 x8 x9 o9 mO nM:Option U}:dP x5=false->dP x6=false->dP x7=false->dP x8=false->dP x9=false->dP o9=false->dP mO=false->dP nM=false->Fd n T->r=some (.nx (vS ns T td (.t (.lst L)) x4 x5 x6 x7 x8 x9 o9 mO nM))->V25 ns td L x4 n r
inductive J25 (ns:BBD) (td:D) (L:List D) (n:Nat) (S:SS):Prop where
 |mk {T:MO}{u3:U}{x4 x5 x6 x7 x8 x9 o9 mO nM:Option U}:S=vS ns T td u3 x4 x5 x6 x7 x8 x9 o9 mO nM->LU u3 L->dP x4=false->dP x5=false->dP x6=false->dP x7=false->dP x8=false->dP x9=false->dP o9=false->dP mO=false->dP nM=false->Fd n T->J25 ns td L n S
def TZ {C:Addr}{T:MO}{n:Nat}{td:D}{ns:BBD}{F:List (List (Str×Int))}{u3:U}{x4 x5 x6 x7 x8 x9:Option U}(hT:Fd n T) (hn:n<300000) (ht:Tb td) (hu:LU u3 (F.map cB)) (hF:F.length<=300) (hr:∀r∈F,r.length<=3)
  (h5:dP x5=false) (h6:dP x6=false) (h7:dP x7=false) (h8:dP x8=false) (h9:dP x9=false) (h10:dP o9=false) (h11:dP mO=false) (h12:dP nM=false):
  V25 ns td (F.map cB) x4 (n+1500) (Qg C yM (vS ns T td u3 x4 x5 x6 x7 x8 x9 o9 mO nM)):=by
 obtain⟨x,y,T1,e1,px,py,h1,hl⟩:=XR hT hn ht;have er:=TY (O3 px py hl);generalize (toPy (.tup [cR x,cR y])).shown=z at er;obtain⟨a10,a11,a12,i10,i11,i12,l1⟩:=look (C:=C) (s0:=some (.s ns)) (s1:=some (.m T1)) (s2:=AAA td) (s4:=x4) (s5:=AAA (cR x)) (s6:=AAA (cR y)) (s7:=AAA (.str z)) px py hu hF hr h10 h11 h12;obtain⟨c10,c11,c12,j10,j11,j12,l2⟩:=look (C:=C) (s0:=some (.s ns)) (s1:=some (.m T1)) (s2:=AAA td) (s4:=x4) (s5:=AAA (cR x)) (s6:=AAA (cR y)) (s7:=AAA (.str z)) (u3:=.t (.lst (F.map cB))) py px (.inr rfl) hF hr i10 i11 i12;have lp:loop (uP 2 (gU (bName 8) (gU (bName 9) wk))) (Qg C se) [.tup [cR x,cR y],.tup [cR y,cR x]] (vS ns T1 td u3 x4 (AAA (cR x)) (AAA (cR y)) (AAA (.str z)) x8 x9 o9 mO nM)=some (.nx (vS ns T1 td (.t (.lst (F.map cB))) x4 (AAA (cR x)) (AAA (cR y)) (AAA (.str z)) (AAA (cR y)) (AAA (cR x)) c10 c11 c12)):=by
  rw[fy,b89 h8 h9,aad];rw[show Qg C se (vS ns T1 td u3 x4 (AAA (cR x)) (AAA (cR y)) (AAA (.str z)) (AAA (cR x)) (AAA (cR y)) o9 mO nM)=_ from l1,aad];show loop _ _ [.tup [cR y,cR x]] _=_;rw[fy,b89 rfl rfl,aad];rw[show Qg C se (vS ns T1 td (.t (.lst (F.map cB))) x4 (AAA (cR x)) (AAA (cR y)) (AAA (.str z)) (AAA (cR y)) (AAA (cR x)) a10 a11 a12)=_ from l2,aad];rfl
 refine .mk (x5:=AAA (cR x)) (x6:=AAA (cR y)) (x7:=AAA (.str z)) (x8:=AAA (cR y)) (x9:=AAA (cR x)) rfl rfl rfl rfl rfl j10 j11 j12 h1 ?_;show yM _ _ _ _ _ _ _ _ _ _ _=_;rw[XW,bE (t0 h5 h6 e1),bE (t1 h7 er)];rw[bE (show vb2 _ _ _ _ _ _ _ _ _ _ _=some (.nx _) from t2 lp)];exact t3 er
def IL (C:Addr):∀us r,Bk 63 us=some r->bH 13 (Qg C DH) us=some r:=by
 intro us r h;unfold Bk at h;split at h
 ·rename_i ns;obtain⟨hl,rfl⟩:=cz h;obtain⟨T,p1,h1⟩:=N8 ns;obtain⟨td,T1,p2,ht,h2,tn⟩:=Ip h1 (by lia);obtain⟨F,u,p3,hu,lF,mF⟩:=XI tn;have Zx:=BD (F.map cB) 60;have Zx:L2.cutD (F.map cB) none (some 60)=(F.map cB).take 60:=Zx;rw[<-adO] at Zx;obtain⟨S',e,@⟨T',u3,x4,x5,x6,x7,x8,x9,o9,mO,nM,rfl,_⟩⟩:=pW (bd:=bName 4) (body:=Qg C yM) (iX 0 8) (fun j S=>J25 ns td ((F.take 60).map cB) (7+1500*j) S)
   (vS ns T1 td (.m (.lst ((F.take 60).map cB))) none none none none none none none none none) (.mk rfl (.inl rfl) rfl rfl rfl rfl rfl rfl rfl rfl rfl (h2.mono (by lia))) (by
    rintro j d S hd ⟨rfl,hu3,b4,b5,b6,b7,b8,b9,b10,b11,b12,hf⟩;obtain⟨hj,rfl⟩:=uc hd;obtain⟨c5,c6,c7,c8,c9,c10,c11,c12,f2,tn⟩:=TZ (C:=C) (ns:=ns) (x4:=AAC (j:Int)) hf (by lia) ht hu3 (by rw[ab9];lia) (fun r hr=>mF r (adt hr)) b5 b6 b7 b8 b9 b10 b11 b12;exact⟨_,_,by simp[-bD,br,b4],tn,.mk rfl (.inr rfl) rfl c5 c6 c7 c8 c9 c10 c11 c12 (f2.mono (by lia))⟩)
  have s0:Zt o7 Sd.lA IY Me LN BR yH Ma (My C) IG [some (.s ns),none,none,none,none,none,none,none,none,none,none,none,none]=some (.nx [some (.s ns),some (.m T),none,none,none,none,none,none,none,none,none,none,none]):=by
   generalize o7=f at *;simp[Zt,p1]
  have s1:Zu o7 Sd.lA IY Me LN BR yH Ma (My C) IG [some (.s ns),some (.m T),none,none,none,none,none,none,none,none,none,none,none]=some (.nx [some (.s ns),some (.m T1),AAA td,none,none,none,none,none,none,none,none,none,none]):=by
   generalize Sd.lA=f at *;simp[Zu,p2]
  have s2:Zv o7 Sd.lA IY Me LN BR yH Ma (My C) IG [some (.s ns),some (.m T1),AAA td,none,none,none,none,none,none,none,none,none,none]=some (.nx (vS ns T1 td (.m (.lst ((F.take 60).map cB))) none none none none none none none none none)):=by
   generalize IY=f at *;rcases hu with rfl|rfl<;>simp[-bD,br,Zv,p3,Zx]
  have er:mV (aa (eC (.int 8)) aA) (vS ns T1 td (.m (.lst ((F.take 60).map cB))) none none none none none none none none none)=some (iX 0 8,vS ns T1 td (.m (.lst ((F.take 60).map cB))) none none none none none none none none none):=wO (j:=8) rfl (by lia) (by lia);have s3:Zw o7 Sd.lA IY Me LN BR yH Ma (My C) IG (vS ns T1 td (.m (.lst ((F.take 60).map cB))) none none none none none none none none none)=some (.nx (vS ns T' td u3 x4 x5 x6 x7 x8 x9 o9 mO nM)):=by
   unfold Zw;rw[iF,er,aad];exact e
  show((Qg C DH) [some (.s ns),none,none,none,none,none,none,none,none,none,none,none,none]).bind _=_;show(DH _ _ _ _ _ _ _ _ _ _ _).bind _=_;rw[lw_eq,bE s0,bE s1,bE s2,bE s3];simp[lw4,aT]
 ·cases h
end T5
end
namespace K25
open PySem PySem.Spec PyProof.Rows L2 Sw Ss Sd Sp T5
variable {j:Nat}{l:PySem.W.OpenLaw}
def top (i:Nat):Stmt:=PySem.Challenge.pw_surewatch_k25_what_shows.main.body.getD i (.Pass ⟨0,0,0,0⟩)
noncomputable def XX (s:Stmt) (j:Nat):Stmt:=match s with
 |.ClassDef _ _ _ b _ _ _ _ _ _ _=>b.getD j (.Pass ⟨0,0,0,0⟩)
 |_=>.Pass ⟨0,0,0,0⟩
def vq (i j:Nat):Stmt:=XX (top i) j
structure Zc where
 P:Program
 w:World
 K:PySem.W.Frag
 mg:Str->BBP
 aY:Addr
structure Nb (P:Program) (w:World) (K:AAD) (mg:AAF) (aY:Addr):Prop where
 nF:mg "len" =none
 GP:mg "sorted" =none
 ab0:mg "set" =none
 DI:mg "list" =none
 sf:mg "tuple" =none
 lD:mg "range" =none
 XY:mg "min" =none
 Mh:mg "all" =none
 Mi:mg "any" =none
 XZ:mg "dict" =none
 DJ:mg "isinstance" =none
 X3:mg "bool" =none
 Qh:mg "repr" =none
 EO:∃t,mg "NO_THINGS" =some (.int 0 t)
 gY:AN K aY
 jH:PySem.W.findIn K (.ref aY) "basics" =some none
 iO:PySem.W.findIn K (.ref aY) "numbers" =some none
 kH:PySem.W.findIn K (.ref aY) "trues" =some none
abbrev NZ (z:Zc):Prop:=Nb z.P z.w z.K z.mg z.aY
variable {z:Zc}{b:Heap}
abbrev jm:Stmt:=vq 3 0
abbrev nG (z:Zc):Prop:=ED z.K z.aY "__init__" "Marks.__init__" jm
abbrev jo (z:Zc) (b:Heap):Prop:=RP z.P z.w z.K z.mg b 1 z.aY
abbrev jq:Stmt:=vq 3 1
abbrev nH (z:Zc):Prop:=ED z.K z.aY "of_thing" "Marks.of_thing" jq
abbrev jr (z:Zc) (b:Heap):Prop:=ym z.P z.w z.K z.mg b 1 z.aY "of_thing" ["self","basic","truth"] 2 ((P4 z.aY))
abbrev ju:Stmt:=vq 3 2
abbrev nI (z:Zc):Prop:=ED z.K z.aY "of_bunch" "Marks.of_bunch" ju
abbrev jw (z:Zc) (b:Heap):Prop:=ym z.P z.w z.K z.mg b 2 z.aY "of_bunch" ["self","bunch"] 2 ((So z.aY))
abbrev jx:Stmt:=vq 3 3
abbrev nJ (z:Zc):Prop:=ED z.K z.aY "of_stand" "Marks.of_stand" jx
abbrev jy (z:Zc) (b:Heap):Prop:=ym z.P z.w z.K z.mg b 3 z.aY "of_stand" ["self","stand"] 2 ((OB z.aY))
abbrev jT:Stmt:=vq 3 4
abbrev pq (z:Zc):Prop:=ED z.K z.aY "is_void" "Marks.is_void" jT
abbrev jU (z:Zc) (b:Heap):Prop:=ym z.P z.w z.K z.mg b 1 z.aY "is_void" ["self","mark"] 2 ((Ow z.aY))
abbrev oA:Stmt:=vq 3 5
abbrev um (z:Zc):Prop:=ED z.K z.aY "trim" "Marks.trim" oA
abbrev oB (z:Zc) (b:Heap):Prop:=ym z.P z.w z.K z.mg b 2 z.aY "trim" ["self","marks"] 2 ((UH z.aY))
abbrev jz:Stmt:=top 4
abbrev nK (z:Zc):Prop:=Df z.K z.mg "has_one_within" jz
abbrev gQ (z:Zc) (b:Heap):Prop:=tW z.P z.w z.K z.mg b 1 "has_one_within" ["mark","marks"] uh
abbrev oE:Stmt:=top 5
abbrev uo (z:Zc):Prop:=Df z.K z.mg "marks_show" oE
abbrev oF (z:Zc) (b:Heap):Prop:=tW z.P z.w z.K z.mg b 2 "marks_show" ["one","other"] P8
abbrev BY:Stmt:=top 7
abbrev GQ (z:Zc):Prop:=Df z.K z.mg "shows" BY
abbrev BZ (z:Zc) (b:Heap):Prop:=tW z.P z.w z.K z.mg b 4 "shows" ["one","other"] ((My z.aY))
abbrev qg:Stmt:=top 9
abbrev vZ (z:Zc):Prop:=Df z.K z.mg "_law_feed" qg
abbrev qh (z:Zc) (b:Heap):Prop:=tW z.P z.w z.K z.mg b 1 "_law_feed" ["_law_script"] o7
abbrev qi:Stmt:=top 10
abbrev v5 (z:Zc):Prop:=Df z.K z.mg "_law_draw" qi
abbrev gz (z:Zc) (b:Heap):Prop:=tW z.P z.w z.K z.mg b 1 "_law_draw" ["_law_feed_here","_law_many"] bW
abbrev oG:Stmt:=top 11
abbrev uq (z:Zc):Prop:=Df z.K z.mg "_law_table" oG
abbrev oH (z:Zc) (b:Heap):Prop:=tW z.P z.w z.K z.mg b 2 "_law_table" ["_law_feed_here"] Sd.lA
abbrev sr:Stmt:=top 12
abbrev yN (z:Zc):Prop:=Df z.K z.mg "_law_all" sr
abbrev su (z:Zc) (b:Heap):Prop:=tW z.P z.w z.K z.mg b 1 "_law_all" ["_law_table_here"] DF
abbrev qj:Stmt:=top 13
abbrev v7 (z:Zc):Prop:=Df z.K z.mg "_law_test" qj
abbrev qk (z:Zc) (b:Heap):Prop:=tW z.P z.w z.K z.mg b 2 "_law_test" ["_law_feed_here","_law_table_here","_law_seen"] Mt
abbrev mz:Stmt:=top 14
abbrev rD (z:Zc):Prop:=Df z.K z.mg "_law_saying" mz
abbrev g9 (z:Zc) (b:Heap) (j:Nat):Prop:=tW z.P z.w z.K z.mg b (j+2) "_law_saying" ["_law_feed_here","_law_table_here","_law_seen","_law_bag","_law_deep"] (Sd.gn j)
abbrev jA:Stmt:=top 15
abbrev nL (z:Zc):Prop:=Df z.K z.mg "_law_any_stand" jA
abbrev jB (z:Zc) (b:Heap):Prop:=tW z.P z.w z.K z.mg b 7 "_law_any_stand" ["_law_feed_here","_law_table_here"] anyF
abbrev mC:Stmt:=top 16
abbrev rE (z:Zc):Prop:=Df z.K z.mg "_law_passes" mC
abbrev mD (z:Zc) (b:Heap):Prop:=tW z.P z.w z.K z.mg b 1 "_law_passes" ["_law_test_here","_law_happening","_law_known"] ze
abbrev oJ:Stmt:=top 17
abbrev ur (z:Zc):Prop:=Df z.K z.mg "_law_holds" oJ
abbrev kI (z:Zc) (b:Heap) (j:Nat):Prop:=tW z.P z.w z.K z.mg b (j+1) "_law_holds" ["_law_saying_here","_law_row","_law_at","_law_known"] (IF j)
abbrev mG:Stmt:=top 18
abbrev rF (z:Zc):Prop:=Df z.K z.mg "_law_is_fit" mG
abbrev mH (z:Zc) (b:Heap):Prop:=tW z.P z.w z.K z.mg b 11 "_law_is_fit" ["_law_saying_here","_law_row"] IX
abbrev iP:Stmt:=top 19
abbrev lW (z:Zc):Prop:=Df z.K z.mg "_law_fits_stand" iP
abbrev iQ (z:Zc) (b:Heap):Prop:=tW z.P z.w z.K z.mg b 12 "_law_fits_stand" ["_law_stand","_law_row"] IG
abbrev ql:Stmt:=top 20
abbrev v8 (z:Zc):Prop:=Df z.K z.mg "_law_trim" ql
abbrev lX (z:Zc) (b:Heap):Prop:=tW z.P z.w z.K z.mg b 1 "_law_trim" ["_law_stand"] yH
abbrev sA:Stmt:=top 21
abbrev yO (z:Zc):Prop:=Df z.K z.mg "_law_put" sA
abbrev sC (z:Zc) (b:Heap):Prop:=tW z.P z.w z.K z.mg b 2 "_law_put" ["_law_together","_law_one","_law_other"] UI
abbrev qm:Stmt:=top 22
abbrev v9 (z:Zc):Prop:=Df z.K z.mg "_law_laid" qm
abbrev lY (z:Zc) (b:Heap) (j:Nat):Prop:=tW z.P z.w z.K z.mg b (j+2) "_law_laid" ["_law_saying_here","_law_truth"] (DS j)
abbrev qo:Stmt:=top 23
abbrev wc (z:Zc):Prop:=Df z.K z.mg "_law_rows" qo
abbrev qp (z:Zc) (b:Heap):Prop:=tW z.P z.w z.K z.mg b 2 "_law_rows" ["_law_table_here","_law_most"] IY
abbrev oK:Stmt:=top 24
abbrev uu (z:Zc):Prop:=Df z.K z.mg "_law_shows" oK
abbrev oM (z:Zc) (b:Heap):Prop:=tW z.P z.w z.K z.mg b 1 "_law_shows" ["_law_one","_law_other"] LN
abbrev vt:Stmt:=top 25
abbrev Az (z:Zc):Prop:=Df z.K z.mg "_law_is" vt
abbrev vv (z:Zc) (b:Heap):Prop:=tW z.P z.w z.K z.mg b 1 "_law_is" ["_law_found","_law_due"] Ma
abbrev mJ:Stmt:=top 26
abbrev rG (z:Zc):Prop:=Df z.K z.mg "_law_handed" mJ
abbrev jI (z:Zc) (b:Heap):Prop:=tW z.P z.w z.K z.mg b 1 "_law_handed" ["_law_stand"] BR
abbrev qu:Stmt:=top 27
abbrev we (z:Zc):Prop:=Df z.K z.mg "_law_pair" qu
abbrev qw (z:Zc) (b:Heap):Prop:=tW z.P z.w z.K z.mg b 8 "_law_pair" ["_law_feed_here","_law_table_here"] Me
abbrev GV:Stmt:=top 28
abbrev X4 (z:Zc):Prop:=Df z.K z.mg "law" GV
def uv:bR ["self"] ["self"] (aV jm):=sI
def uw (D:nG z) (N:NZ z):jo z b:=okI D uv fun _ _ _ _ _ _ _=>Lb N.gY N.jH N.iO N.kH
def lZ:bR ["self","basic","truth","%basics","%numbers","bit"] ["self","basic","truth"] (aV jq):=sI
def ux (D:nH z) (N:NZ z):jr z b:=
 K9 D lZ (Sm z.aY) fun _ _ _ _ _ _ _ hr=>(aD (cC (Ij 0 4 N.gY N.iO (lO hr) (jv 1)) (aD (N1 0 4 N.gY N.iO (lO hr) (jv 1) (FU 0 3 N.gY N.jH rfl N.nF))
  (aD (NV 0 N.gY N.kH (JE.d (bN FI (FT 0 N.gY N.kH) (JE.d (bN FJ aC (JE.d (bN jF aC (FU 0 3 N.gY N.jH rfl N.nF))))))))
  (aR (gH (JD.e (N2 0 3 N.gY (by exact N.jH) ab3 ab4 fO fP (aj (jv 1) aF))))))) bS)
  (aD (zs lZ.nd 5 (bN jF aC (NY 0 4 N.gY N.iO (lO hr) (jv 1) (fun _ _=>rfl))))
  (aR (bA (bN FJ aC (JE.d (zY (iJ (jv 2)) (bw 5) (bN cK (jv 5) aC))))))))
def fY:bR ["self","bunch","%basics","%numbers","mark","thing"] ["self","bunch"] (aV ju):=sI
def uy (D:nI z) (N:NZ z) (jV:jr z b):jw z b:=
 by obtain⟨T8,ER⟩:=N.EO;exact K9 D fY (Su z.aY) fun _ _ _ _ _ _ _ hr=>(aD (zs fY.nd 4 (JD.e (Nr rfl ER)))
  (aD (fu abQ rfl (dw (jv 1)) (zg fY.nd 5) (aR (zs fY.nd 4 (bN FI (jv 4) (JE.d (UB 0 [2,3] N.gY jV hr (aG (ys hr 5 aC) (aG (ys hr 5 aC) aW))))))))
  (aR (bA (bw 4)))))
def uz:bR ["self","stand","%basics","%numbers"] ["self","stand"] (aV jx):=sI
def uA (D:nJ z) (N:NZ z) (qx:oB z b) (jW:jw z b):jy z b:=
 K9 D uz (Sz z.aY) fun _ _ _ _ _ _ _ hr=>(aR (bA (UB 0 [2,3] N.gY qx hr (aG (JE.d (La ["%basics","%numbers"] [2,3] (cc 0) rfl (dw (jv 1)) (fun _ _ _ _=>(JE.d (UB 1 [2,3] N.gY jW hr (aG (jv 0) aW)))))) aW))))
def vA:bR ["self","mark","%basics","%numbers"] ["self","mark"] (aV jT):=sI
def vB (D:pq z) (N:NZ z):jU z b:=
 K9 D vA (Sx z.aY) fun _ _ _ _ _ _ _ hr=>(aR (bA (iy (uQ hr.units) (JE.d (bN yg (JE.d (bN yg (jv 1) (JE.d (bN NQ (jv 1) aC)))) (FT 0 N.gY N.kH))) aC)))
def mK:bR ["self","marks","%basics","%numbers","kept","mark"] ["self","marks"] (aV oA):=sI
def zE (D:um z) (N:NZ z) (lE:jU z b) (eL:gQ z b):oB z b:=
 K9 D mK (tm_run z.aY) fun _ _ _ _ _ _ _ hr=>(aD (zs mK.nd 4 (bU aF))
  (aD (fu abQ rfl (dw (JE.d (CZ rfl rfl N.GP rfl N.ab0 (jv 1)))) (zg mK.nd 5) (aR (cC (JW.t (rO (nU (iJ (JE.d (UB 0 [2,3] N.gY lE hr (aG (jv 5) aW))))) (iz (nU (iJ (jlk 4 eL hr (jv 5))))))) (aR (gH (JD.e (ie (i:=4) ab3 ab4 fO fP gI (aj (jv 5) aF))))) bS)))
  (aR (bA (bw 4)))))
def l5:bR ["mark","marks","lesser"] ["mark","marks"] (aV jz):=sI
def uB (D:nK z):gQ z b:=
 yZ D l5 Ox fun _ _ _ _ _ _ _ hr=>(aD (fu abQ rfl (dw (jv 1)) (zg l5.nd 2) (aR (cC (bK (cy hr.units) (JE.d (bN yg (jv 2) (jv 0))) (jv 2)) (aR (bA (JD.e iH))) bS)))
  (aR (bA (JD.e iH))))
def rH:bR ["one","other","mark"] ["one","other"] (aV oE):=sI
def zF (D:uo z) (eL:gQ z b):oF z b:=
 yZ D rH SD fun _ _ _ _ _ _ _ hr=>(aD (fu abQ rfl (dw (jv 0)) (zg rH.nd 2) (aR (cC (nU (iJ (JE.d (jc eL hr (aG (jv 2) (aG (jv 1) aW)))))) (aR (bA (JD.e iH))) bS)))
  (aR (bA (JD.e iH))))
def DK:bR ["one","other","marks","%basics","%numbers"] ["one","other"] (aV BY):=sI
def Mj (D:GQ z) (N:NZ z) (jX:jo z b) (qy:oF z b) (ir:jy z b) (sD:WO z.K z.mg "Marks" z.aY):BZ z b:=
 yZ D DK (SE z.aY) fun _ _ _ _ _ _ _ hr=>(Ld (i:=2) 3 4 sD jX hr DK.nd rfl (by first|exact Or.inl rfl|exact Or.inr rfl) (aR (bA (jc qy hr (aG (JE.d (UB 2 [3,4] N.gY ir hr (aG (jv 0) aW))) (aG (JE.d (UB 2 [3,4] N.gY ir hr (aG (jv 1) aW))) aW))))))
def B0:bR ["_law_script"] ["_law_script"] (aV qg):=sI
def B3 (D:vZ z) (N:NZ z):qh z b:=
 yZ D B0 Lp fun _ _ _ _ _ _ _ hr=>(aR (bA (Fv (hk:=Nat.le_of_ble_eq_true rfl) (nq (JE.d (eB k9 rfl N.DI adf (aj (JE.d (HD (i:=0) kB (kC aC))) aF))) (nq aC (nq aC Ft))))))
def fH:bR ["_law_feed_here","_law_many","_law_found","_law_at","_law_cell","_law_number"] ["_law_feed_here","_law_many"] (aV qi):=sI
def B4 (D:v5 z) (N:NZ z):gz z b:=
 yZ D fH Lm fun _ _ _ _ _ _ _ hr=>(aD (cC (bK A3 (ys hr 0 aQ) aC) (aD (zs fH.nd 2 (bN kr (ys hr 0 aQ) (jv 1)))
  (aD (pR (i:=0) (lO hr) aQ (JE.d (bN A4 (ys hr 0 aQ) (jv 1))))
  (aR (bA (bw 2))))) bS)
  (aD (zs fH.nd 3 (JD.e (ys hr 0 aQ)))
  (aD (pR (i:=0) (lO hr) aQ (JE.d (bN cK (jv 3) aC)))
  (aD (zs fH.nd 4 (bN jF (jv 3) (jv 3)))
  (aD (cC (bK (uQ hr.units) (ys hr 0 aQ) (JE.d (bU aF))) (aR (zs fH.nd 4 (pK xq (ys hr 0 aQ) (JE.d (bN kr (jv 3) (JE.d (iI Hu rfl N.nF adv (aj (ys hr 0 aQ) aF))))) (fun _ _=>rfl)))) bS)
  (aD (cC (bK Q7 (jv 4) (JE.d (bN Na aC aC))) (aD (pR (i:=0) (lO hr) aQ (JE.d (bN A4 (jv 4) (jv 1))))
  (aR (bA (bN kr (jv 4) (jv 1))))) bS)
  (aD (zs fH.nd 5 (bN kr (JE.d (bN jF (JE.d (bN cK (JE.d (bN cK (JE.d (bN jF (JE.d (bN kr (jv 4) aC)) aC)) (JE.d (bN jF aC (jv 3))))) aC)) aC)) aC))
  (aD (zs fH.nd 5 (bN kr (JE.d (bN jF (JE.d (bN kr (JE.d (bN cK (JE.d (bN jF (jv 5) (jv 5))) (JE.d (bN jF aC (jv 3))))) aC)) aC)) aC))
  (aR (bA (bN kr (JE.d (bN A4 (jv 5) aC)) (jv 1))))))))))))
def ia:bR ["_law_feed_here","_law_some","_law_names","_law_at"] ["_law_feed_here"] (aV oG):=sI
def zG (D:uq z) (N:NZ z) (bf:gz z b):oH z b:=
 yZ D ia Sd.Io fun _ _ _ _ _ _ _ hr=>(aD (zs ia.nd 1 (bU (aj (JE.d (bU (aj aQ (aj aQ (aj aQ (aj aQ aF)))))) (aj (JE.d (bU (aj aQ (aj aQ (aj aQ (aj aQ aF)))))) (aj (JE.d (bU (aj aQ (aj aQ (aj aQ (aj aQ aF)))))) aF)))))
  (aD (zs ia.nd 2 (JD.e (ys hr 1 (JE.d (jc bf hr (bC (bw 0) (aG aC aW)))))))
  (aD (zs ia.nd 3 (jc bf hr (bC (bw 0) (aG aC aW))))
  (aD (zs ia.nd 2 (jM (JE.d (bN cK (JE.d (jM (jv 2) (kC (jv 3)) kB)) (JE.d (jM (jv 2) kB (kC (jv 3)))))) kB (kC (JE.d (pK xq (JE.d (bU (aj aC (aj aC (aj aC (aj aC aF)))))) (JE.d (jc bf hr (bC (bw 0) (aG aC aW)))) (fun _ _=>rfl))))))
  (aR (bA (eB gj rfl N.sf acw (aj (JE.d (ig (cc 0) rfl (dw (jv 2)) (fun _ _ _ _=>fq) (fun _ _ _ _=>(JE.d (bJ (aj (jv 0) (aj (JE.d (pK xq (JE.d (bU (aj aC (aj aC (aj aC (aj aC aF)))))) (JE.d (jc bf hr (bC (bw 1) (aG aC aW)))) (fun _ _=>rfl))) aF))))))) aF))))))))
def l6:bR ["_law_table_here","_law_found","_law_name","_law_most"] ["_law_table_here"] (aV sr):=sI
def DL (D:yN z) (N:NZ z):su z b:=
 yZ D l6 Tq fun _ _ _ _ _ _ _ hr=>(aD (zs l6.nd 1 (bU aF))
  (aD (fu abQ rfl (xr (jv 0)) (En rfl (mU (zg l6.nd 2) (mU (zg l6.nd 3) A8))) (aR (gH (JD.e (ie (i:=1) adZ ad0 rW uU uV (aj (JE.d (ig (cc 2) rfl (i8 rfl N.lD (aj (JE.d (bN cK (jv 3) aC)) aF)) (fun _ _ _ _=>fq) (fun _ _ _ _=>(JE.d (bJ (aj (jv 1) (aj (jv 0) aF))))))) aF))))))
  (aR (bA (bw 1)))))
def iR:bR ["_law_feed_here","_law_table_here","_law_seen","_law_way","_law_names","_law_number"] ["_law_feed_here","_law_table_here","_law_seen"] (aV qj):=sI
def B5 (D:v7 z) (N:NZ z) (bf:gz z b):qk z b:=
 yZ D iR RZ fun _ _ _ _ _ _ _ hr=>(aD (zs iR.nd 3 (jc bf hr (bC (bw 0) (aG aC aW))))
  (aD (cC (bK (cy hr.units) (jv 3) aC) (aR (bA (bJ (aj aQ aF)))) bS)
  (aD (cC (bK rQ (jv 3) aC) (aD (zs iR.nd 4 (bN cK (JE.d (ig cp rfl (dw (jv 1)) (fun _ _ _ _=>fq) (fun _ _ _ _=>(ys hr 0 aC)))) (JE.d (bU (aj aQ aF)))))
  (aR (bA (bJ (aj aQ (aj (ys hr 4 (JE.d (jc bf hr (bC (bw 0) (aG (gW (i:=4) rfl N.nF) aW))))) aF)))))) bS)
  (aD (zs iR.nd 5 (jc bf hr (bC (bw 0) (aG aC aW))))
  (aD (cC (JW.t (rO (bK (uQ hr.units) (jv 2) (JE.d (bJ aF))) (iz (bK A3 (JE.d (jc bf hr (bC (bw 0) (aG aC aW)))) aC)))) (aR (zs iR.nd 5 (JD.e (ys hr 2 (JE.d (jc bf hr (bC (bw 0) (aG (gW (i:=2) rfl N.nF) aW)))))))) bS)
  (aR (bA (bJ (aj (JE.d (pK xq (JE.d (bU (aj aQ (aj aQ (aj aQ aF))))) (JE.d (bN kr (jv 3) aC)) (fun _ _=>rfl))) (aj (jv 5) aF))))))))))
def dF:bR ["_law_feed_here","_law_table_here","_law_seen","_law_bag","_law_deep","_law_heads","_law_head","_law_names","_law_x","_law_inner","_law_first"] ["_law_feed_here","_law_table_here","_law_seen","_law_bag","_law_deep"] (aV mz):=sI
def yP (D:rD z) (N:NZ z) (bf:gz z b) (sE:qk z b) (cP:g9 z b j):g9 z b (j+1):=
 yZ D dF (Sd.Od j) fun _ _ _ _ _ _ _ hr=>(aD (pR (i:=3) (lO hr) aC (JE.d (bN kq (ys hr 3 aC) aC)))
  (aD (zs dF.nd 5 (bU (aj aQ (aj aQ (aj aQ (aj aQ (aj aQ (aj aQ (aj aQ (aj aQ (aj aQ (aj aQ (aj aQ (aj aQ aF))))))))))))))
  (aD (zs dF.nd 6 (JD.e (ys hr 5 (JE.d (jc bf hr (bC (bw 0) (aG aC aW)))))))
  (aD (cC (JW.t (Fp (JW.t (rO (bK (kZ hr.units) (jv 6) (JE.d (bJ (aj aQ (aj aQ aF)))) (by with_unfolding_all rfl)) (iz (bK (cy hr.units) (ys hr 3 aC) aC)))) (uN (JW.t (rO (bK (kZ hr.units) (jv 6) (JE.d (bJ (aj aQ (aj aQ (aj aQ aF))))) (by with_unfolding_all rfl)) (iz (bK rQ (ys hr 3 aC) aC))))))) (aR (zs dF.nd 6 (pK xq (JE.d (bU (aj aQ (aj aQ (aj aQ aF))))) (JE.d (jc bf hr (bC (bw 0) (aG aC aW)))) (fun _ _=>rfl)))) bS)
  (aD (cC (JW.t (Fp (bK rQ (ys hr 3 aC) aC) (Fp (bK rQ (jv 4) aC) (uN (bK (cy hr.units) (jv 6) aQ))))) (aR (bA (pK xq (JE.d (bU (aj (JE.d (bJ (aj aQ aF))) (aj (JE.d (bJ (aj aQ aF))) (aj (JE.d (bJ (aj aQ (aj (JE.d (jc sE hr (bC (bw 0) (aG (jv 1) (aG (jv 2) aW))))) aF)))) aF))))) (JE.d (iI (xB rfl) rfl N.XY PyProof.Rows.Boot.min (aj aC (aj (JE.d (jc bf hr (bC (bw 0) (aG aC aW)))) aF)))) (fun _ _=>rfl)))) bS)
  (aD (cC (bK (kZ hr.units) (jv 6) (JE.d (bJ (aj aQ (aj aQ aF)))) (by with_unfolding_all rfl)) (aD (pR (i:=3) (lO hr) aC (JE.d (bN kq (ys hr 3 aC) aC)))
  (aD (zc dF.nd 7 cp (dw (jv 1)) (fun _ _ _ _=>fq) (fun _ _ _ _=>(ys hr 0 aC)))
  (aD (zs dF.nd 8 (pK xq (JE.d (bN cK (jv 7) (JE.d (bU (aj aQ (aj aQ (aj aQ aF))))))) (JE.d (jc bf hr (bC (bw 0) (aG (JE.d (bN cK (gW (i:=7) rfl N.nF) aC)) aW)))) (fun _ _=>rfl)))
  (aD (zs dF.nd 9 (jc cP hr (bC (bw 0) (aG (jv 1) (aG (JE.d (bN cK (jv 2) (JE.d (bJ (aj (jv 8) aF))))) (bC (bw 3) (aG (JE.d (bN kq (jv 4) aC)) aW)))))))
  (aR (bA (bJ (aj (jv 6) (aj (ys hr 7 (JE.d (jc bf hr (bC (bw 0) (aG (gW (i:=7) rfl N.nF) aW))))) (aj (jv 8) (aj (jv 9) aF))))))))))) bS)
  (aD (cC (bK (cy hr.units) (jv 6) aQ) (aR (bA (bJ (aj (jv 6) (aj (JE.d (pK xq (JE.d (bU (aj aC (aj aC (aj aC (aj aC (aj aC (aj aC aF)))))))) (JE.d (jc bf hr (bC (bw 0) (aG aC aW)))) (fun _ _=>rfl))) (aj (JE.d (jc cP hr (bC (bw 0) (aG (jv 1) (aG (jv 2) (bC (bw 3) (aG (JE.d (bN kq (jv 4) aC)) aW))))))) aF)))))) bS)
  (aD (cC (bK (kZ hr.units) (jv 6) (JE.d (bJ (aj aQ (aj aQ (aj aQ aF))))) (by with_unfolding_all rfl)) (aD (pR (i:=3) (lO hr) aC (JE.d (bN kq (ys hr 3 aC) aC)))
  (aD (zs dF.nd 10 (jc cP hr (bC (bw 0) (aG (jv 1) (aG (jv 2) (bC (bw 3) (aG (JE.d (bN kq (jv 4) aC)) aW)))))))
  (aD (pR (i:=3) (lO hr) aC (JE.d (bN cK (ys hr 3 aC) aC)))
  (aR (bA (bJ (aj (jv 6) (aj (jv 10) (aj (JE.d (jc cP hr (bC (bw 0) (aG (jv 1) (aG (jv 2) (bC (bw 3) (aG (JE.d (bN kq (jv 4) aC)) aW))))))) aF))))))))) bS)
  (aR (bA (bJ (aj (jv 6) (aj (JE.d (jc cP hr (bC (bw 0) (aG (jv 1) (aG (jv 2) (bC (bw 3) (aG (JE.d (bN kq (jv 4) aC)) aW))))))) aF)))))))))))))
def bX:bR ["_law_feed_here","_law_table_here","_law_basics","_law_k","_law_saying_here","_law_stand","_law_bunch","_law_j","_law_at"] ["_law_feed_here","_law_table_here"] (aV jA):=sI
def uC (D:nL z) (N:NZ z) (bf:gz z b) (cP:g9 z b 4):jB z b:=
 yZ D bX Oi fun _ _ _ _ _ _ _ hr=>(aD (zs bX.nd 2 (bU aF))
  (aD (fu abQ rfl (i8 rfl N.lD (aj (JE.d (bN cK aC (JE.d (jc bf hr (bC (bw 0) (aG aC aW)))))) aF)) (zg bX.nd 3) (aD (zs bX.nd 4 (jc cP hr (bC (bw 0) (aG (jv 1) (aG (JE.d (bJ aF)) (bC (bU (aj (JE.d (bN cK aC (JE.d (jc bf hr (bC (bw 0) (aG aC aW)))))) (aj aC aF))) (aG aC aW)))))))
  (aD (cC (bK (kZ hr.units) (ys hr 4 aC) (JE.d (bJ (aj aQ (aj aQ (aj aQ (aj aQ (aj aQ aF))))))) (by with_unfolding_all rfl)) (aR (zs bX.nd 4 (bJ (aj aQ (aj (jv 4) aF))))) bS)
  (aR (gH (JD.e (ie (i:=2) ab3 ab4 fO fP gI (aj (jv 4) aF))))))))
  (aD (zs bX.nd 5 (bU aF))
  (aD (fu abQ rfl (i8 rfl N.lD (aj (JE.d (jc bf hr (bC (bw 0) (aG aC aW)))) aF)) (zg bX.nd 3) (aD (zs bX.nd 6 (bU aF))
  (aD (fu abQ rfl (i8 rfl N.lD (aj (JE.d (jc bf hr (bC (bw 0) (aG aC aW)))) aF)) (zg bX.nd 7) (aR (gH (JD.e (ie (i:=6) ab3 ab4 fO fP gI (aj (JE.d (bJ (aj (ys hr 2 (JE.d (jc bf hr (bC (bw 0) (aG (gW (i:=2) rfl N.nF) aW))))) (aj (JE.d (iy A3 (JE.d (jc bf hr (bC (bw 0) (aG aC aW)))) aC)) aF)))) aF))))))
  (aR (gH (JD.e (ie (i:=5) ab3 ab4 fO fP gI (aj (JE.d (eB gj rfl N.sf acw (aj (jv 6) aF))) aF))))))))
  (aD (cC (JW.t (rO (Nz (i:=5) (uQ hr.units) (JE.d (bU aF))) (iz (bK (cy hr.units) (JE.d (jc bf hr (bC (bw 0) (aG aC aW)))) aC)))) (aD (zs bX.nd 8 (jc bf hr (bC (bw 0) (aG (gW (i:=5) rfl N.nF) aW))))
  (aR (gH (JD.e (ie (i:=5) ab3 ab4 fO fP gI (aj (JE.d (bN cK (JE.d (KD (ys hr 5 (jv 8)) (JE.d (Kf A5 aC)))) (ys hr 5 (JE.d (jc bf hr (bC (bw 0) (aG (gW (i:=5) rfl N.nF) aW))))))) aF)))))) bS)
  (aR (bA (eB gj rfl N.sf acw (aj (jv 5) aF)))))))))
def qz:bR ["_law_test_here","_law_happening","_law_known","_law_number"] ["_law_test_here","_law_happening","_law_known"] (aV mC):=sI
def yQ (D:rE z):mD z b:=
 yZ D qz SR fun _ _ _ _ _ _ _ hr=>(aD (cC (bK (cy hr.units) (ys hr 0 aC) aQ) (aR (bA (JD.e iH))) bS)
  (aD (cC (bK (cy hr.units) (ys hr 0 aC) aQ) (aR (bA (iy (cy hr.units) (ys hr 0 aC) (ys hr 1 aC)))) bS)
  (aD (zs qz.nd 3 (JD.e (ND (i:=2) (lO hr) (ys hr 0 aC) (ys hr 0 aC))))
  (aR (bA (JD.e (N4 (lO hr) (Fv (hk:=Nat.le_of_ble_eq_true rfl) (nq (JE.d (iy rQ (ys hr 1 aC) (jv 3))) (nq (JE.d (iy (cy hr.units) (ys hr 1 aC) (jv 3))) (nq (JE.d (iy A3 (ys hr 1 aC) (jv 3))) Ft)))) (ys hr 0 aC) (fun _ _=>rfl))))))))
def dY:bR ["_law_saying_here","_law_row","_law_at","_law_known","_law_head","_law_told","_law_spot","_law_inner"] ["_law_saying_here","_law_row","_law_at","_law_known"] (aV oJ):=sI
def zH (D:ur z) (N:NZ z) (oN:mD z b) (cV:kI z b j):kI z b (j+1):=
 yZ D dY (SY j) fun _ _ _ _ _ _ _ hr=>(aD (zs dY.nd 4 (JD.e (ys hr 0 aC)))
  (aD (cC (bK (kZ hr.units) (jv 4) (JE.d (bJ (aj aQ (aj aQ aF)))) (by with_unfolding_all rfl)) (aR (bA (iy (cy hr.units) (jv 4) aQ))) bS)
  (aD (cC (bK (cy hr.units) (jv 4) aQ) (aR (bA (JD.e (Ek (JE.d (iy rQ (jv 2) (gW (i:=1) rfl N.nF))) (Ej (JE.d (jc oN hr (aG (ys hr 0 aC) (aG (ys hr 1 (jv 2)) (bC (bw 3) aW)))))))))) bS)
  (aD (cC (bK (cy hr.units) (jv 4) aQ) (aR (bA (JD.e (A2 (JE.d (jc cV hr (aG (ys hr 0 aC) (aG (jv 1) (aG (jv 2) (bC (bw 3) aW)))))))))) bS)
  (aD (cC (bK (kZ hr.units) (jv 4) (JE.d (bJ (aj aQ (aj aQ aF)))) (by with_unfolding_all rfl)) (aD (zc dY.nd 5 (cs ["_law_at","_law_known","_law_row"] [2,3,1]) (dw (JE.d (jM (jv 0) (kC aC) kB))) (fun _ _ _ _=>fq) (fun _ _ _ _=>(JE.d (jc cV hr (aG (jv 0) (aG (jv 3) (aG (jv 1) (bC (bw 2) aW))))))))
  (aR (bA (zY (bK (cy hr.units) (jv 4) aQ) (JD.e (nA (i:=5) (m8 rfl) rfl N.Mh adm)) (JD.e (nA (i:=5) (m9 rfl) rfl N.Mi adn)))))) bS)
  (aD (cC (bK (cy hr.units) (jv 4) aQ) (aR (bA (JD.e (Ek (JE.d (iy rQ (jv 2) (gW (i:=1) rfl N.nF))) (Ej (JE.d (jc cV hr (aG (ys hr 0 aC) (aG (jv 1) (aG (JE.d (bN cK (jv 2) aC)) (bC (bw 3) aW))))))))))) bS)
  (aD (cC (bK (cy hr.units) (jv 4) aQ) (aD (fu abQ rfl (qJ rfl N.lD (aj (jv 2) (aj (gW (i:=1) rfl N.nF) aF))) (zg dY.nd 6) (aD (cC (iJ (JE.d (jc cV hr (aG (ys hr 0 aC) (aG (jv 1) (aG (jv 6) (bC (bw 3) aW))))))) (aR (bA (JD.e iH))) bS)
  (aR (cC (nU (iJ (JE.d (jc cV hr (aG (ys hr 0 aC) (aG (jv 1) (aG (jv 6) (bC (bw 3) aW)))))))) (aR (bA (JD.e iH))) bS))))
  (aR (bA (JD.e iH)))) bS)
  (aD (cC (bK (cy hr.units) (jv 4) aQ) (aR (bA (iI (m9 rfl) rfl N.Mi adn (aj (JE.d (ig (cs ["_law_known","_law_row","_law_saying_here"] [3,1,0]) rfl (qJ rfl N.lD (aj (jv 2) (aj (JE.d (iI (xB rfl) rfl N.XY PyProof.Rows.Boot.min (aj (JE.d (bN cK (jv 2) (ys hr 0 aC))) (aj (gW (i:=1) rfl N.nF) aF)))) aF))) (fun _ _ _ _=>fq) (fun _ _ _ _=>(JE.d (jc cV hr (aG (ys hr 3 aC) (aG (jv 2) (aG (jv 0) (bC (bw 1) aW))))))))) aF)))) bS)
  (aD (cC (bK (kZ hr.units) (jv 4) (JE.d (bJ (aj aQ (aj aQ aF)))) (by with_unfolding_all rfl)) (aD (zc dY.nd 5 (cs ["_law_known","_law_row","_law_saying_here"] [3,1,0]) (qJ rfl N.lD (aj (jv 2) (aj (gW (i:=1) rfl N.nF) aF))) (fun _ _ _ _=>fq) (fun _ _ _ _=>(JE.d (jc cV hr (aG (ys hr 3 aC) (aG (jv 2) (aG (jv 0) (bC (bw 1) aW))))))))
  (aR (bA (zY (bK (cy hr.units) (jv 4) aQ) (JD.e (nA (i:=5) (m8 rfl) rfl N.Mh adm)) (JD.e (nA (i:=5) (m9 rfl) rfl N.Mi adn)))))) bS)
  (aD (zs dY.nd 5 (bU aF))
  (aD (fu abQ rfl (qJ rfl N.lD (aj (jv 2) (aj (gW (i:=1) rfl N.nF) aF))) (zg dY.nd 6) (aR (cC (bK (cy hr.units) (JE.d (pK xq (ys hr 1 (jv 6)) aC (fun _ _=>rfl))) (ys hr 0 aC)) (aD (zs dY.nd 7 (KI (i:=3) rfl N.XZ))
  (aD (pR (i:=7) (lO hr) (ys hr 0 aC) (JE.d (pK xq (ys hr 1 (jv 6)) aC (fun _ _=>rfl))))
  (aR (gH (JD.e (ie (i:=5) ab3 ab4 fO fP gI (aj (JE.d (jc cV hr (aG (ys hr 0 aC) (aG (jv 1) (aG (jv 6) (bC (bw 7) aW)))))) aF))))))) bS)))
  (aR (bA (zY (bK (cy hr.units) (jv 4) aQ) (JD.e (nA (i:=5) (m8 rfl) rfl N.Mh adm)) (JD.e (nA (i:=5) (m9 rfl) rfl N.Mi adn))))))))))))))))
def yR:bR ["_law_saying_here","_law_row"] ["_law_saying_here","_law_row"] (aV mG):=sI
def yS (D:rF z) (cV:kI z b 9):mH z b:=
 yZ D yR To fun _ _ _ _ _ _ _ hr=>(aR (bA (jc cV hr (aG (jv 0) (aG (jv 1) (aG aC (bC NB aW)))))))
def lG:bR ["_law_stand","_law_row","_law_bunch"] ["_law_stand","_law_row"] (aV iP):=sI
def sF (D:lW z) (N:NZ z) (oO:mH z b):iQ z b:=
 yZ D lG Tp fun _ _ _ _ _ _ _ hr=>(aD (fu abQ rfl (dw (jv 0)) (zg lG.nd 2) (aR (cC (iJ (JE.d (iI (m8 rfl) rfl N.Mh adm (aj (JE.d (CQ ⟨(cc 1),rfl,by decide⟩ rfl (xr (jv 2)) (fun _ _ _ _=>fq) (fun _ _ _ _=>(JE.d (iy (cy hr.units) (JE.d (jc oO hr (aG (jv 0) (aG (jv 2) aW)))) (jv 1)))))) aF)))) (aR (bA (JD.e iH))) bS)))
  (aR (bA (JD.e iH))))
def fJ:bR ["_law_stand","_law_rows_here","_law_bunch","_law_things","_law_thing","_law_found"] ["_law_stand"] (aV ql):=sI
def B6 (D:v8 z) (N:NZ z):lX z b:=
 yZ D fJ SH fun _ _ _ _ _ _ _ hr=>(aD (zs fJ.nd 1 (bU aF))
  (aD (fu abQ rfl (dw (jv 0)) (zg fJ.nd 2) (aD (zs fJ.nd 3 (bU aF))
  (aD (fu abQ rfl (dw (jv 2)) (zg fJ.nd 4) (aR (cC (HF (i:=3) hr.units (jv 4)) (aR (gH (JD.e (ie (i:=3) ab3 ab4 fO fP gI (aj (jv 4) aF))))) bS)))
  (aR (cC (bK (cy hr.units) (JE.d (CQ ⟨(cc 3),rfl,by decide⟩ rfl (xr (jv 3)) (fun _ _ _ _=>(qL (Rp (i:=2) hr.units (JE.d (bJ (aj (jv 0) (aj (A2 (jv 1)) aF))))))) (fun _ _ _ _=>aC))) (JE.d (bU aF))) (aR (gH (JD.e (ie (i:=1) ab3 ab4 fO fP gI (aj (jv 3) aF))))) bS)))))
  (aD (zs fJ.nd 5 (bU aF))
  (aD (fu abQ rfl (dw (JE.d (EG rfl N.GP rfl N.nF (jv 1)))) (zg fJ.nd 3) (aR (cC (nU (iJ (JE.d (iI (m9 rfl) rfl N.Mi adn (aj (JE.d (Le 5 (cc 3) rfl (fun _ _ _ _=>fq) (fun _ _ _ _=>(JE.d (iI (m8 rfl) rfl N.Mh adm (aj (JE.d (ig (cc 1) rfl (dw (jv 0)) (fun _ _ _ _=>fq) (fun _ _ _ _=>(Ro (i:=1) hr.units (jv 0))))) aF)))))) aF))))) (aR (gH (JD.e (ie (i:=5) ab3 ab4 fO fP gI (aj (jv 3) aF))))) bS)))
  (aR (bA (bw 5)))))))
def qA:bR ["_law_together","_law_one","_law_other","_law_found","_law_first"] ["_law_together","_law_one","_law_other"] (aV sA):=sI
def DM (D:yO z) (N:NZ z) (gB:lX z b):sC z b:=
 yZ D qA SK fun _ _ _ _ _ _ _ hr=>(aD (cC (nU (iJ (jv 0))) (aR (bA (jc gB hr (aG (JE.d (bN cK (JE.d (eB k9 rfl N.DI adf (aj (jv 1) aF))) (JE.d (eB k9 rfl N.DI adf (aj (jv 2) aF))))) aW)))) bS)
  (aD (zs qA.nd 3 (bU aF))
  (aD (fu abQ rfl (dw (jv 1)) (zg qA.nd 4) (aR (gH (JD.e (ie (i:=3) adZ ad0 rW uU uV (aj (JE.d (ig (cc 4) rfl (dw (jv 2)) (fun _ _ _ _=>fq) (fun _ _ _ _=>(JE.d (bN cK (JE.d (eB k9 rfl N.DI adf (aj (jv 1) aF))) (JE.d (eB k9 rfl N.DI adf (aj (jv 0) aF)))))))) aF))))))
  (aR (bA (jc gB hr (aG (jv 3) aW)))))))
def uD:bR ["_law_saying_here","_law_truth","_law_head"] ["_law_saying_here","_law_truth"] (aV qm):=sI
def B7 (D:v9 z) (gC:lY z b j) (vC:sC z b):lY z b (j+1):=
 yZ D uD (SN j) fun _ _ _ _ _ _ _ hr=>(aD (zs uD.nd 2 (JD.e (ys hr 0 aC)))
  (aD (cC (bK (kZ hr.units) (jv 2) (JE.d (bJ (aj aQ (aj aQ aF)))) (by with_unfolding_all rfl)) (aR (bA (zY (bK (cy hr.units) (JE.d (iy (cy hr.units) (jv 2) aQ)) (jv 1)) (bU (aj (JE.d (bU aF)) aF)) (bU aF)))) bS)
  (aD (cC (bK (cy hr.units) (jv 2) aQ) (aR (bA (jc gC hr (aG (ys hr 0 aC) (aG (A2 (jv 1)) aW))))) bS)
  (aD (cC (bK (kZ hr.units) (jv 2) (JE.d (bJ (aj aQ (aj aQ aF)))) (by with_unfolding_all rfl)) (aR (bA (jc vC hr (aG (JE.d (iy (cy hr.units) (JE.d (iy (cy hr.units) (jv 2) aQ)) (jv 1))) (aG (JE.d (jc gC hr (aG (ys hr 0 aC) (aG (jv 1) aW)))) (aG (JE.d (jc gC hr (aG (ys hr 0 aC) (aG (jv 1) aW)))) aW)))))) bS)
  (aR (bA (bU (aj (JE.d (bU (aj (JE.d (bJ (aj (jv 0) (aj (jv 1) aF)))) aF))) aF))))))))
def dU:bR ["_law_table_here","_law_most","_law_found","_law_last","_law_some","_law_k","_law_longer","_law_row"] ["_law_table_here","_law_most"] (aV qo):=sI
def B8 (D:wc z) (N:NZ z) (vD:su z b):qp z b:=
 yZ D dU Tv fun _ _ _ _ _ _ _ hr=>(aD (zs dU.nd 2 (bU (aj (JE.d (bJ aF)) aF)))
  (aD (zs dU.nd 3 (bU (aj (JE.d (bJ aF)) aF)))
  (aD (zs dU.nd 4 (jc vD hr (aG (jv 0) aW)))
  (aD (fu abQ rfl (i8 rfl N.lD (aj (jv 1) aF)) (zg dU.nd 5) (aR (cC (bK Q6 (JE.d (bN cK (gW (i:=2) rfl N.nF) (JE.d (bN jF (gW (i:=3) rfl N.nF) (gW (i:=4) rfl N.nF))))) aC) (aD (zs dU.nd 6 (bU aF))
  (aD (fu abQ rfl (dw (jv 3)) (zg dU.nd 7) (aR (gH (JD.e (ie (i:=6) adZ ad0 rW uU uV (aj (JE.d (ig (cc 7) rfl (dw (jv 4)) (fun _ _ _ _=>fq) (fun _ _ _ _=>(JE.d (bN cK (jv 1) (JE.d (bJ (aj (jv 0) aF)))))))) aF))))))
  (aD (zs dU.nd 3 (bw 6))
  (aR (zs dU.nd 2 (bN cK (jv 2) (jv 3))))))) bS)))
  (aR (bA (bw 2)))))))
def jJ:bR ["_law_one","_law_other","_law_bunch","_law_voids","_law_having"] ["_law_one","_law_other"] (aV oK):=sI
def zI (D:uu z):oM z b:=
 yZ D jJ ls_run fun _ _ _ _ _ _ _ hr=>(aD (fu abQ rfl (dw (jv 0)) (zg jJ.nd 2) (aD (HP (i:=3) jJ.nd rfl (by first|exact Or.inl rfl|exact Or.inr rfl) ⟨(cc 2),rfl,by decide⟩ rfl (xr (jv 2)) (fun _ _ _ _=>(qL (bK (kZ hr.units) (JE.d (bJ (aj (jv 0) (aj (A2 (jv 1)) aF)))) (jv 2) (by with_unfolding_all rfl)))) (fun _ _ _ _=>aC))
  (aD (zc jJ.nd 4 (cc 2) (dw (jv 1)) (fun _ _ _ _=>(qL (bK (cy hr.units) (JE.d (ig (cc 1) rfl (dw (jv 0)) (fun _ _ _ _=>(qL (bK (Hy hr.units) (jv 0) (jv 1) (by with_unfolding_all rfl)))) (fun _ _ _ _=>(jv 0)))) (JE.d (bU aF))))) (fun _ _ _ _=>(jv 0)))
  (aR (cC (JW.t (rO (bK (cy hr.units) (jv 3) (JE.d (bU aF))) (iz (bK (cy hr.units) (jv 4) (JE.d (bU aF)))))) (aR (bA (JD.e iH))) bS)))))
  (aR (bA (JD.e iH))))
def ES:bR ["_law_found","_law_due"] ["_law_found","_law_due"] (aV vt):=sI
def ET (D:Az z) (N:NZ z):vv z b:=
 yZ D ES Tu fun _ _ _ _ _ _ _ hr=>(aR (bA (JD.e (Ek (HA rfl N.DJ rfl N.X3 PyProof.Rows.Boot.bool (jv 0)) (Ej (JE.d (iy (cy hr.units) (jv 0) (jv 1))))))))
def yT:bR ["_law_stand"] ["_law_stand"] (aV mJ):=sI
def yU (D:rG z) (N:NZ z):jI z b:=
 yZ D yT SJ fun _ _ _ _ _ _ _ hr=>(aR (bA (eB gj rfl N.sf acw (aj (JE.d (ig cp rfl (dw (jv 0)) (fun _ _ _ _=>fq) (fun _ _ _ _=>(JE.d (eB gj rfl N.sf acw (aj (jv 0) aF)))))) aF))))
def eZ:bR ["_law_feed_here","_law_table_here","_law_one","_law_way","_law_basic","_law_more","_law_sayings","_law_truth","_law_stand"] ["_law_feed_here","_law_table_here"] (aV qu):=sI
def B9 (D:we z) (N:NZ z) (iu:jB z b) (bf:gz z b) (cP:g9 z b 4) (gC:lY z b 5) (e8:jI z b):qw z b:=
 yZ D eZ TV fun _ _ _ _ _ _ _ hr=>(aD (zs eZ.nd 2 (jc iu hr (bC (bw 0) (aG (jv 1) aW))))
  (aD (zs eZ.nd 3 (jc bf hr (bC (bw 0) (aG aC aW))))
  (aD (cC (bK (cy hr.units) (jv 3) aC) (aR (bA (bJ (aj (jv 2) (aj (JE.d (jc iu hr (bC (bw 0) (aG (jv 1) aW)))) aF))))) bS)
  (aD (cC (bK (cy hr.units) (jv 3) aC) (aR (bA (bJ (aj (jv 2) (aj (JE.d (bN cK (JE.d (jM (jv 2) (kC aC) kB)) (JE.d (jM (jv 2) kB (kC (JE.d (jc bf hr (bC (bw 0) (aG aC aW))))))))) aF))))) bS)
  (aD (cC (bK (cy hr.units) (jv 3) aC) (aR (bA (bJ (aj (jv 2) (aj (JE.d (eB gj rfl N.sf acw (aj (JE.d (ig (cc 0) rfl (dw (jv 2)) (fun _ _ _ _=>fq) (fun _ _ _ _=>(JE.d (zY (bK (cy hr.units) (JE.d (jc bf hr (bC (bw 1) (aG aC aW)))) aC) (jM (jv 0) kB (kC (JE.d (Kf A5 aC)))) (bw 0)))))) aF))) aF))))) bS)
  (aD (cC (bK (cy hr.units) (jv 3) aC) (aD (zs eZ.nd 4 (bJ (aj aQ (aj (JE.d (bJ (aj aQ aF))) aF))))
  (aD (zs eZ.nd 5 (eB gj rfl N.sf acw (aj (JE.d (ig (cc 4) rfl (dw (jv 2)) (fun _ _ _ _=>fq) (fun _ _ _ _=>(JE.d (bN cK (JE.d (KD (jv 0) (JE.d (Kf A5 aC)))) (JE.d (bJ (aj (JE.d (bJ (aj (jv 1) (aj iH aF)))) aF)))))))) aF)))
  (aR (bA (bJ (aj (JE.d (bN cK (jv 2) (JE.d (bJ (aj (JE.d (bJ (aj (JE.d (bJ (aj (jv 4) (aj iH aF)))) (aj (JE.d (bJ (aj (jv 4) (aj iH aF)))) aF)))) aF))))) (aj (jv 5) aF))))))) bS)
  (aD (zc eZ.nd 6 (cs ["_law_feed_here","_law_table_here"] [0,1]) (i8 rfl N.lD (aj aC aF)) (fun _ _ _ _=>fq) (fun _ _ _ _=>(JE.d (jc cP hr (bC (bw 1) (aG (jv 2) (aG (JE.d (bJ aF)) (bC (bU (aj (JE.d (bN cK aC (JE.d (jc bf hr (bC (bw 1) (aG aC aW)))))) (aj aC aF))) (aG aC aW)))))))))
  (aD (zs eZ.nd 7 (iy (cy hr.units) (JE.d (jc bf hr (bC (bw 0) (aG aC aW)))) aC))
  (aD (zs eZ.nd 8 (jc gC hr (aG (JE.d (bJ (aj (JE.d (pK xq (JE.d (bU (aj aQ (aj aQ aF)))) (JE.d (bN kq (jv 3) aC)) (fun _ _=>rfl))) (aj (ys hr 6 aC) (aj (ys hr 6 aC) aF))))) (aG (jv 7) aW))))
  (aR (bA (bJ (aj (JE.d (jc e8 hr (aG (jv 8) aW))) (aj (JE.d (jc e8 hr (aG (JE.d (jc gC hr (aG (ys hr 6 aC) (aG (jv 7) aW)))) aW))) aF))))))))))))))
def jC:bR ["_law_script","_law_feed_here","_law_table_here","_law_rows_here","_law_k","_law_one","_law_other","_law_kept","_law_first","_law_second","_law_due","_law_small","_law_fitting"] ["_law_script"] (aV GV):=sI
def T9 {f:Addr}{fd:FuncData}(F:Mm z.K "law" "law" GV f fd) (N:NZ z) (sG:qh z b) (qC:oH z b) (sH:qp z b) (sJ:qw z b) (qD:oM z b) (e8:jI z b) (gB:lX z b) (uE:vv z b) (Ca:BZ z b) (gR:iQ z b):kP z.P z.w z.K z.mg b zV 13 f fd ["_law_script"] (spT z.K 1 (Bk 63)):=
 okT (g:=T5.DH o7 Sd.lA IY Me LN BR yH Ma ((My z.aY)) IG) F jC (fun _ _ _ _ _ _ hr=>(aD (zs jC.nd 1 (jc sG hr (bC (bw 0) aW)))
  (aD (zs jC.nd 2 (jc qC hr (bC (bw 1) aW)))
  (aD (zs jC.nd 3 (jM (JE.d (jc sH hr (aG (jv 2) (aG aC aW)))) kB (kC aC)))
  (aD (fu abQ rfl (i8 rfl N.lD (aj aC aF)) (zg jC.nd 4) (aD (Rf (JE.d (jc sJ hr (bC (bw 1) (aG (jv 2) aW)))) (En rfl (mU (zg jC.nd 5) (mU (zg jC.nd 6) A8))))
  (aD (zs jC.nd 7 (iI (xH hr.gd hr.units) rfl N.Qh PyProof.Rows.Boot.repr (aj (JE.d (bJ (aj (jv 5) (aj (jv 6) aF)))) aF)))
  (aD (fu abQ rfl (xr (JE.d (bU (aj (JE.d (bJ (aj (jv 5) (aj (jv 6) aF)))) (aj (JE.d (bJ (aj (jv 6) (aj (jv 5) aF)))) aF))))) (En rfl (mU (zg jC.nd 8) (mU (zg jC.nd 9) A8))) (aD (zs jC.nd 10 (jc qD hr (aG (jv 8) (aG (jv 9) aW))))
  (aD (zs jC.nd 11 (bU (aj (JE.d (jc e8 hr (aG (JE.d (jc gB hr (aG (jv 8) aW))) aW))) (aj (JE.d (jc e8 hr (aG (JE.d (jc gB hr (aG (jv 9) aW))) aW))) aF))))
  (aD (cC (JW.t (Fp (nU (iJ (JE.d (jc uE hr (aG (JE.d (jc Ca hr (aG (jv 8) (aG (jv 9) aW)))) (aG (jv 10) aW)))))) (uN (nU (iJ (JE.d (jc uE hr (aG (JE.d (jc Ca hr (aG (ys hr 11 aC) (aG (ys hr 11 aC) aW)))) (aG (jv 10) aW))))))))) (aR (bA (JD.e iH))) bS)
  (aD (zc jC.nd 12 (cc 8) (dw (jv 3)) (fun _ _ _ _=>(qL (iJ (JE.d (jc gR hr (aG (jv 1) (aG (jv 0) aW))))))) (fun _ _ _ _=>(jv 0)))
  (aR (cC (JW.t (rO (iJ (jv 10)) (iz (bK (uQ hr.units) (JE.d (ig (cc 9) rfl (dw (jv 12)) (fun _ _ _ _=>(qL (nU (iJ (JE.d (jc gR hr (aG (jv 1) (aG (jv 0) aW)))))))) (fun _ _ _ _=>(jv 0)))) (JE.d (bU aF)))))) (aR (bA (JD.e iH))) bS)))))))
  (aR (cC (bK (uQ hr.units) (JE.d (iI (xH hr.gd hr.units) rfl N.Qh PyProof.Rows.Boot.repr (aj (JE.d (bJ (aj (jv 5) (aj (jv 6) aF)))) aF))) (jv 7)) (aR (bA (JD.e iH))) bS))))))
  (aR (bA (JD.e iH)))))))) (IL z.aY)
set_option maxHeartbeats 0 in
def O4 {fa:Addr}(sD:WO z.K z.mg "Marks" z.aY) (jY:nG z) (jZ:nH z) (j0:nI z) (j5:nJ z) (lH:pq z) (qE:um z) (j6:nK z) (qF:uo z) (EU:GQ z) (sL:vZ z) (sM:v5 z) (qG:uq z) (vE:yN z) (sN:v7 z) (kJ:rD z) (j7:nL z) (oR:rE z) (l7:ur z) (oU:rF z) (jD:lW z) (sO:v8 z) (vF:yO z) (oV:v9 z) (sP:wc z) (qH:uu z) (yV:Az z) (oW:rG z) (sQ:we z) (Ua:X4 z) (N:NZ z) (Rh:z.mg "law" =some (.ref fa)):
  ∃fd:FuncData,(∀(s:Shared) (v:Value),BindsTo s fd ⟨[v],[]⟩ [("_law_script",v)])/\∀b:Heap,z.K.In b->b.Ns mainGlobals z.mg->kP z.P z.w z.K z.mg b zV 13 fa fd ["_law_script"] (spT z.K 1 (Bk 63)):=by
 obtain⟨f,fd,F,m⟩:=Ua.ex;cases Rh.symm.trans m;refine⟨fd,fun s v=>?_,fun b _ _=>?_⟩
 ·obtain⟨_,_,_,_,_,_,_,_,_,rfl,_,_⟩:=F.ex;exact .of_eq rfl
 ·have jX:jo z b:=uw jY N;have jV:jr z b:=ux jZ N;have lE:jU z b:=vB lH N;have eL:gQ z b:=uB j6;have sG:qh z b:=B3 sL N;have bf:gz z b:=B4 sM N;have vD:su z b:=DL vE N;have oN:mD z b:=yQ oR;have gB:lX z b:=B6 sO N;have qD:oM z b:=zI qH;have uE:vv z b:=ET yV N;have e8:jI z b:=yU oW N;have jW:jw z b:=uy j0 N jV;have qx:oB z b:=zE qE N lE eL;have qy:oF z b:=zF qF eL;have qC:oH z b:=zG qG N bf;have sE:qk z b:=B5 sN N bf;have vC:sC z b:=DM vF N gB;have sH:qp z b:=B8 sP N vD;have ir:jy z b:=uA j5 N qx jW;have Ca:BZ z b:=Mj EU N jX qy ir sD;have Cb:∀j:Nat,g9 z b j:=by
   intro j
   induction j with
   |zero=>exact Bm kJ (Sd.IK)
   |succ j ih=>exact(yP kJ N bf sE ih).mono (by lia)
  have cP:=(Cb 4)
  have iu:jB z b:=uC j7 N bf cP;have EV:∀j:Nat,lY z b j:=by
   intro j
   induction j with
   |zero=>exact Bm oV (Mg)
   |succ j ih=>exact(B7 oV ih vC).mono (by lia)
  have gC:=(EV 5)
  have sJ:qw z b:=B9 sQ N iu bf cP gC e8;have DN:∀j:Nat,kI z b j:=by
   intro j
   induction j with
   |zero=>exact Bm l7 (Mf)
   |succ j ih=>exact(zH l7 N oN ih).mono (by lia)
  have cV:=(DN 9)
  have oO:mH z b:=yS oU cV;have gR:iQ z b:=sF jD N oO;exact T9 F N sG qC sH sJ qD e8 gB uE Ca gR
def all_mk {w:World}{K:AAD}{mg:AAF}{fa aY:Addr}(sD:WO K mg "Marks" aY) (jY:ED K aY "__init__" "Marks.__init__" jm) (jZ:ED K aY "of_thing" "Marks.of_thing" jq) (j0:ED K aY "of_bunch" "Marks.of_bunch" ju) (j5:ED K aY "of_stand" "Marks.of_stand" jx) (lH:ED K aY "is_void" "Marks.is_void" jT) (qE:ED K aY "trim" "Marks.trim" oA) (j6:Df K mg "has_one_within" jz) (qF:Df K mg "marks_show" oE) (EU:Df K mg "shows" BY) (sL:Df K mg "_law_feed" qg) (sM:Df K mg "_law_draw" qi) (qG:Df K mg "_law_table" oG) (vE:Df K mg "_law_all" sr) (sN:Df K mg "_law_test" qj) (kJ:Df K mg "_law_saying" mz) (j7:Df K mg "_law_any_stand" jA) (oR:Df K mg "_law_passes" mC) (l7:Df K mg "_law_holds" oJ) (oU:Df K mg "_law_is_fit" mG) (jD:Df K mg "_law_fits_stand" iP) (sO:Df K mg "_law_trim" ql) (vF:Df K mg "_law_put" sA) (oV:Df K mg "_law_laid" qm) (sP:Df K mg "_law_rows" qo) (qH:Df K mg "_law_shows" oK) (yV:Df K mg "_law_is" vt) (oW:Df K mg "_law_handed" mJ) (sQ:Df K mg "_law_pair" qu) (Ua:Df K mg "law" GV) (N:Nb l.prog w K mg aY) (Rh:mg "law" =some (.ref fa)):
  ∃fd:FuncData,(∀(s:Shared) (v:Value),BindsTo s fd ⟨[v],[]⟩ [("_law_script",v)])/\∀base:Heap,K.In base->base.Ns mainGlobals mg->kP l.prog w K mg base zV 13 fa fd ["_law_script"] (spT K 1 (Bk 63)):=
 O4 (z:=⟨l.prog,w,K,mg,aY⟩) sD jY jZ j0 j5 lH qE j6 qF EU sL sM qG vE sN kJ j7 oR l7 oU jD sO vF oV sP qH yV oW sQ Ua N Rh
def walk {q:Program}{loose:BBB}{XP:(Str->BBP)->Heap->Prop}{YP:World->Heap->Prop}{d:DefRec}{K:Params->PySem.W.Frag}(hn:l.most=some 63) (hdf:d.params.defaults=[])
  (hY:∀(w:World) (h:Heap),YP w h->(K w.params).In h)
  (F:∀(w:World) (mg:AAF) (fa:Addr) (h:Heap),(K w.params).In h->h.Ns mainGlobals mg->mg d.name=some (.ref fa)->
   ∃fd:FuncData,(∀(s:Shared) (u:Value),BindsTo s fd ⟨[u],[]⟩ [("_law_script",u)])/\∀base:Heap,(K w.params).In base->base.Ns mainGlobals mg->kP l.prog w (K w.params) mg base zV 13 fa fd ["_law_script"] (spT (K w.params) 1 (Bk 63))):
  PySem.W.WalkO q loose XP YP l.row.toRowW d [] (fun f vs=>PySem.call f vs):=
 L2.MZ (n:=63) (k:=13) (x:="_law_script") (CX:=fun _=>zV) (sp:=fun w=>spT (K w.params) 1 (Bk 63)) hn (by decide) hdf ⟨rfl,by decide,by decide,rfl⟩ hY F (fun w H a ns hl hO hS=>RL hl hO hS) fun _ _ _ _ _ z=>z
end K25
open PySem PySem.W PyProof.Rows
noncomputable def PySem.W.Fast.tw13504698176587363485:Nat->Stmt:=K25.top
theorem PySem.W.Fast.te13504698176587363485:K25.top=PySem.W.Fast.tw13504698176587363485:=rfl
def K25.sc:Scope:=PySem.Challenge.pw_surewatch_k25_what_shows.main.scope
noncomputable def PySem.W.Fast.tw8277675983435168465:Scope:=K25.sc
theorem PySem.W.Fast.te8277675983435168465:K25.sc=PySem.W.Fast.tw8277675983435168465:=rfl
def K25.pw:Program:={main:={body:=[K25.top 0,K25.top 1,K25.top 2,K25.top 3,K25.top 4,K25.top 5,K25.top 6,K25.top 7,K25.top 8,K25.top 9,K25.top 10,K25.top 11,K25.top 12,K25.top 13,K25.top 14,K25.top 15,K25.top 16,K25.top 17,K25.top 18,K25.top 19,K25.top 20,K25.top 21,K25.top 22,K25.top 23,K25.top 24,K25.top 25,K25.top 26,K25.top 27,K25.top 28],scope:=K25.sc,futureAnnotations:=false,file:="/claim/cut.py",more:=[]},modules:=[],parses:=[],absent:=[],harvested:=[],given:={argv:=[],stdin:=[],environ:=some [([76,67,95,65,76,76],[67,46,85,84,70,45,56])]}}
def K25.rw:OpenLaw:={prog:=K25.pw,name:=(PySem.Str.ofString "law"),about:=[(PySem.Str.ofString "shows")],foot:=20,most:=some 63,bound:=none,writes:=false}
def PySem.W.Fast.tw14295893411140670556:=0
def PySem.W.Fast.tw15857312693140049516:=0
def PySem.W.Fast.tw16733850323116535727:=0
def PySem.W.Fast.tw15807840486811333794:=0
def PySem.W.Fast.tw4258091113786911271:=0
def PySem.W.Fast.tw14650564723827582385:=0
def PySem.W.Fast.tw737776308922837472:=0
def PySem.W.Fast.tw7590794152409658827:=0
def PySem.W.Fast.tw6823145267898323415:=0
def PySem.W.Fast.tw1532235589599649347:=0
def PySem.W.Fast.tw12404356057067683523:=0
def PySem.W.Fast.tw7028816011770445543:=0
def PySem.W.Fast.tw3991188780642800612:=0
def PySem.W.Fast.tw5587483782403797701:=0
def PySem.W.Fast.tw15017496066508261315:=0
def PySem.W.Fast.tw15073443310717608932:=0
def PySem.W.Fast.tw16469926782195697258:=0
def PySem.W.Fast.tw16512566506908800987:=0
def PySem.W.Fast.tw11718433396592914017:=0
def PySem.W.Fast.tw17891141901119337620:=0
def PySem.W.Fast.tw7845833086392971428:=0
def PySem.W.Fast.tw1747866620135034541:=0
def PySem.W.Fast.tw9434547149731793703:=0
def PySem.W.Fast.tw2464377406420092497:=0
def PySem.W.Fast.tw15524911933834767192:=0
def PySem.W.Fast.tw11106636823787097638:=0
def PySem.W.Fast.tw8594049996404621534:=0
def PySem.W.Fast.tw10180241181540995904:=0
def PySem.W.Fast.tw5605114490047320656:=0
def PySem.W.Fast.tw13269679845785736275:=0
def PySem.W.Fast.tw16583756641289895513:=0
def PySem.W.Fast.tw9193797565533106478:=0
def PySem.W.Fast.tw581077801279679179:=0
def PySem.W.Fast.tw13859792731962926989:=0
def PySem.W.Fast.tw15828406322051554219:=0
def PySem.W.Fast.tw6446173991693916563:=0
def PySem.W.Fast.tw186959201146501736:=0
def PySem.W.Fast.tw74890597713868363:=0
def PySem.W.Fast.tw8324072706660103845:=0
def PySem.W.Fast.tw7905198351841571576:=0
def PySem.W.Fast.tw7839729547232675473:=0
def PySem.W.Fast.tw17515904360826010081:=0
def PySem.W.Fast.tw10380838561367144708:=0
def PySem.W.Fast.tw15639126486612974860:=0
def PySem.W.Fast.tw15812949829394052215:=0
def PySem.W.Fast.tw18002274630094833992:=0
def PySem.W.Fast.tw16666025965027408133:=0
def PySem.W.Fast.tw16460348769422570202:=0
def PySem.W.Fast.tw16495373309708527870:=0
def PySem.W.Fast.tw1181109553271329444:=0
def PySem.W.Fast.tw16390994672127420481:=0
def PySem.W.Fast.tw5081235708971443961:=0
def PySem.W.Fast.tw7241341469771609455:=0
def PySem.W.Fast.tw18199408915667212711:=0
def PySem.W.Fast.tw8565416412555635300:=0
def PySem.W.Fast.tw8563862845571869202:=0
def PySem.W.Fast.tw17384698982970148661:=0
set_option maxRecDepth 100000 in
set_option maxHeartbeats 0 in
def K25.holds:K25.rw.Holds:=by
 w_on;o_law;k_head;(case hw=>w_witness2)
 k_fill
 refine K25.walk (l:=K25.rw) rfl rfl (fun w h Y=>PySem.W.kIn_of Y) ?F
 case F=>
  intro w mg fa h KX G hmg;refine' K25.all_mk ?sD ?_ ?_ ?_ ?_ ?_ ?_ ?_ ?_ ?_ ?_ ?_ ?_ ?_ ?_ ?_ ?_ ?_ ?_ ?_ ?_ ?_ ?_ ?_ ?_ ?_ ?_ ?_ ?_ ?_ ?_ hmg
  (case sD=>refine' L2.RN KX G ?a ?b ?c;(case a=>k_is);(case b=>k_is);(case c=>k_is))
  iterate 6 (refine' L2.RM ?a ?l ?c ?k ?y;(case a=>k_is);(case l=>k_is);(case c=>k_is);(case k=>k_is);(case y=>k_is))
  iterate 23 (refine' L2.WN KX G ?a ?l ?c ?k;(case a=>k_is);(case l=>k_is);(case c=>k_is);(case k=>k_is))
  refine⟨ab7 KX G ?_,ab7 KX G ?_,ab7 KX G ?_,ab7 KX G ?_,ab7 KX G ?_,ab7 KX G ?_,ab7 KX G ?_,ab7 KX G ?_,ab7 KX G ?_,ab7 KX G ?_,ab7 KX G ?_,ab7 KX G ?_,ab7 KX G ?_,⟨_,afB KX G (by k_is)⟩,⟨?_,?_,?_,?_⟩,?_,?_,?_⟩<;>k_is
theorem PySem.Challenge.cw_surewatch_k25_what_shows_holds : PySem.Challenge.rw_surewatch_k25_what_shows.Holds :=
 K25.holds
