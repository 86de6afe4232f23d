import PyProof.Rows.All
import Wide.All
import OpenK.AllK
import Wide.FinOn
import PyProof.EqAt
import PyProof.EqKinds
import PyProof.TupleCall
import Lean
import PySem.Challenge.RW_surewatch_k21_trimmed_and_alike
set_option Elab.async false
set_option linter.all false
set_option maxRecDepth 100000
abbrev BBB:=List PySem.Str
abbrev BBC:=List PySem.Expr
abbrev BBD:=List Int
abbrev BBE:=List PySem.Addr
abbrev BBF:=List PySem.Env
abbrev BBG:=List PySem.Value
abbrev BBH:=List PySem.Stmt
abbrev BBI:=List PySem.Keyword
abbrev BBJ:=List Nat
abbrev BBL:=Option PySem.Expr
abbrev BBM:=Option Int
abbrev BBN:=Option PySem.Addr
abbrev BBP:=Option PySem.Value
noncomputable section
abbrev BBT(x:PySem.Str):Prop:=(x == ("__debug__":PySem.Str))=false
abbrev BBU(x:PySem.Str):Prop:=(x == ("__classdict__":PySem.Str))=false
abbrev AAD:=PySem.W.Frag
abbrev AAE:=PySem.Value->PySem.Shared->Prop
abbrev AAF:=PySem.Str->Option PySem.Value
abbrev AAG:=List (PySem.Addr×PySem.Obj)
abbrev AAJ:=List (PySem.Str×Int)
abbrev AAK:=Array PySem.Value
abbrev AAL:=List PySem.Value
abbrev aab:=@PySem.wpAny_bind
abbrev aac:=@PySem.Heap.get?_push_of_some
abbrev aad:=@List.size_toArray
abbrev aag:=@List.mem_cons_of_mem
abbrev aah:=@Option.bind_some
abbrev aai:=@List.length_map
abbrev aaj:=@Nat.le_refl
abbrev aak:=@List.mem_cons_self
abbrev aal:=@List.getElem?_eq_getElem
abbrev aam:=@List.mem_singleton
abbrev aao:=@List.mem_cons
abbrev aap:=@PySem.Heap.lt_size
abbrev aas:=@Nat.lt_of_lt_of_le
abbrev aau:=@List.getElem?_eq_some_iff
abbrev aav:=@List.mem_append
abbrev aaw:=@List.length_append
abbrev aaB:=@PySem.Heap.get?_push_size
abbrev aaC:=@Nat.le_trans
abbrev aaD:=@List.mem_map
abbrev aaE:=@List.getD_eq_getElem?_getD
abbrev aaF:=@Nat.ne_of_lt
abbrev aaG:=@List.length_cons
abbrev aaH:=@Bool.and_eq_true
abbrev aaI:=@List.getElem?_map
abbrev aaJ:=@List.getElem?_set_ne
abbrev aaK:=@Array.getElem?_eq_getElem
abbrev aaL:=@Array.length_toList
abbrev aaM:=@Nat.zero_le
abbrev aaN:=@Bool.and_eq_true_iff
abbrev aaO:=@List.cons.inj
abbrev aaP:=@List.mem_append_right
abbrev aaQ:=@List.not_mem_nil
abbrev aaR:=@Array.getD_eq_getD_getElem?
abbrev aaS:=@decide_eq_false
abbrev aaT:=@decide_eq_true
abbrev aaU:=@List.any_eq_true
abbrev aaV:=@Option.some.inj
abbrev aaW:=@List.mem_of_getElem?
abbrev aaX:=@PyProof.Rows.slot_tuple_getitem
abbrev aaY:=@decide_eq_true_eq
abbrev aa1:=@List.all_eq_true
abbrev aa2:=@of_decide_eq_true
abbrev aa3:=@List.getElem?_append_left
abbrev aa4:=@PySem.F.slot_list_append
abbrev aa5:=@PySem.F.type_list_append
abbrev aa6:=@List.mem_range
abbrev abi:=@PySem.wpAny_newObj_type
abbrev abj:=@List.map_cons
abbrev abk:=@List.length_range
abbrev abl:=@List.getElem?_set_self
abbrev abm:=@PySem.W.mg_none_of
abbrev abn:=@PySem.wpAny_mono
abbrev abo:=@List.nodup_cons
abbrev abp:=@List.nodup_nil
abbrev abq:=@PySem.wpAny_holding
abbrev abr:=@List.length_drop
abbrev abt:=@PyProof.Rows.Boot.tuple
abbrev abu:=@Classical.byContradiction
abbrev abv:=@List.drop_eq_getElem_cons
abbrev abC:=@PySem.sizeLine_eq
abbrev abD:=@PySem.PassesOwn.never
abbrev abE:=@List.map_map
abbrev abF:=@List.getElem?_eq_none
abbrev abG:=@Nat.le_of_lt
abbrev abH:=@PySem.wpAny_ite_split
abbrev abI:=@PyProof.Rows.listItems_at
abbrev abJ:=@Ne.symm
abbrev abK:=@PySem.mem_of_lookup
abbrev abL:=@PySem.Heap.SameBut.update
abbrev abM:=@Array.getElem?_toList
abbrev abN:=@List.find?_cons
abbrev abO:=@Bool.eq_iff_iff
abbrev abP:=@List.idxOf_lt_length_of_mem
abbrev abQ:=@List.length_take
abbrev abR:=@PySem.wpAny_call_entry
abbrev abS:=@Nat.lt_irrefl
abbrev abT:=@List.length_reverse
abbrev abU:=@or_false
abbrev abV:=@List.map_append
abbrev abW:=@PySem.wpAny_Call_Name_kw
abbrev abX:=@PySem.wpAny_callSpecial?_slot
abbrev abY:=@List.pairwise_map
abbrev abZ:=@List.append_assoc
abbrev ab0:=@PySem.Heap.get?_update_other
abbrev ab1:=@List.take_of_length_le
abbrev ab2:=@List.all_cons
abbrev ab3:=@List.getElem_mem
abbrev ab4:=@List.length_singleton
abbrev ab5:=@List.append_nil
abbrev ab6:=@List.length_set
abbrev ab7:=@PySem.lookup_relabel_local
abbrev ab8:=@PySem.codeAny_builtin
abbrev ab9:=@Nat.pow_le_pow_right
abbrev acd:=@PySem.wpAny_truthy_bool
abbrev ace:=@Nat.lt_succ_of_lt
abbrev acf:=@beq_eq_false_iff_ne
abbrev acg:=@Option.getD_some
abbrev ach:=@List.lookup_cons
abbrev aci:=@List.Perm.refl
abbrev acj:=@Nat.le_succ
abbrev ack:=@Bool.false_eq_true
abbrev acm:=@Nat.lt_of_le_of_lt
abbrev acn:=@Nat.pow_succ
abbrev aco:=@PySem.wpAny_passesOwn
abbrev acp:=@Classical.choose_spec
abbrev acr:=@List.getElem?_toArray
abbrev acs:=@List.nil_append
abbrev acu:=@if_false
abbrev acw:=@List.getElem?_append_right
abbrev acy:=@List.mem_append_left
abbrev acz:=@List.pairwise_iff_getElem
abbrev acA:=@PySem.Around.under_plainId
abbrev acB:=@PySem.Heap.size_push
abbrev acC:=@PySem.boot_len
abbrev acD:=@Nat.lt_succ_self
abbrev acE:=@PySem.F.called_set
abbrev acF:=@List.map_congr_left
abbrev acG:=@List.mem_map_of_mem
abbrev acH:=@List.getElem?_replicate
abbrev acI:=@PySem.wpAny_getItem_str_slice
abbrev acJ:=@List.any_cons
abbrev acK:=@PySem.plainId_quiet
abbrev acQ:=@List.mem_filter
abbrev acR:=@PyProof.Rows.callWith_builtin1
abbrev acS:=@PySem.W.kia_one
abbrev acT:=@Array.ext_getElem?
abbrev ac1:=@PyProof.Rows.Boot.repr
abbrev ac2:=@List.any_eq_false
abbrev ac4:=@PySem.wpAny_setState_of
abbrev ac5:=@PySem.codeAny_mono
abbrev ac6:=@PySem.Heap.get?_update_self
abbrev ac8:=@Nat.zero_add
abbrev ac9:=@PyProof.Rows.callWith_type1
abbrev ada:=@PySem.Heap.get?_none_of_le
abbrev adb:=@PySem.wpAny_rule
abbrev ade:=@Array.getElem_toList
abbrev adf:=@PySem.wpAny_askSetting
abbrev adg:=@PyProof.Rows.listUpdate_at
abbrev adh:=@List.perm_ext_iff_of_nodup
abbrev adi:=@List.filterMap_cons
abbrev adk:=@List.length_nil
abbrev adl:=@PyProof.Rows.get?_update_seq
abbrev adm:=@List.foldl_cons
abbrev adn:=@Array.forIn_toList
abbrev ado:=@PySem.F.args_tuple_add_2
abbrev adp:=@PySem.wpAny_typeOf
abbrev adq:=@PySem.wpAny_setField_rec
abbrev ads:=@PyProof.Rows.Boot.sorted
abbrev adt:=@PySem.isSubtype_type
abbrev adu:=@PySem.F.entry_tuple_add
abbrev adv:=@PyProof.Rows.F.plain_set_update_loop
abbrev adw:=@List.length_eq_zero_iff
abbrev adx:=@Nat.testBit_mod_two_pow
abbrev ady:=@PySem.wpAny_pyIter_list
abbrev adz:=@List.reverse_cons
abbrev adA:=@List.nodup_append
abbrev adB:=@List.ext_getElem?
abbrev adF:=@PySem.Heap.get?_push_ne
abbrev adG:=@PySem.F.slot_tuple_add
abbrev adH:=@PySem.wpAny_field
abbrev adI:=@List.sublist_cons_self
abbrev adJ:=@PySem.wpAny_newList
abbrev adK:=@PySem.strLen_append
abbrev adL:=@PySem.wpAny_isInstance
abbrev adM:=@List.drop_length
abbrev adN:=@List.mem_reverse
abbrev adO:=@PySem.SeqAt.EqAt.bool_bool
abbrev adP:=@PySem.SeqAt.EqAt.same
abbrev adQ:=@PySem.wpAny_execs_nil
abbrev adR:=@Nat.lt_trans
abbrev adS:=@PySem.Txt.slice_le
abbrev adT:=@PySem.post_val_or_str
abbrev adU:=@List.pairwise_append
abbrev adV:=@List.mem_of_mem_take
abbrev adW:=@List.mem_of_mem_drop
abbrev adX:=@Nat.testBit_and
abbrev adY:=@PySem.SeqAt.EqAt.int_bool
abbrev adZ:=@PySem.SeqAt.EqAt.bool_int
abbrev ad0:=@PySem.SeqAt.EqAt.bool_str
abbrev ad1:=@PySem.SeqAt.EqAt.str_bool
abbrev ad2:=@PySem.W.plainGet_of
abbrev ad3:=@PySem.wpAny_setEntries_of
abbrev ad4:=@Nat.mul_le_mul_left
abbrev ad5:=@Int.toNat_of_nonneg
abbrev ad6:=@Bool.false_and
abbrev ad7:=@PyProof.Rows.slicePart_none
abbrev ad8:=@PySem.SeqAt.EqAt.int_str
abbrev ad9:=@PySem.SeqAt.EqAt.str_int
abbrev aea:=@PySem.SeqAt.EqAt.of_refs
abbrev aeb:=@Bool.false_ne_true
abbrev aec:=@decide_eq_true_iff
abbrev aed:=@Int.emod_lt_of_pos
abbrev aee:=@Nat.one_le_two_pow
abbrev aef:=@List.getElem_idxOf
abbrev aeg:=@PySem.Paired.length
abbrev aeh:=@Int.fdiv_eq_ediv_of_nonneg
abbrev aei:=@List.map_take
abbrev aej:=@List.map_drop
abbrev aek:=@List.length_eraseIdx_of_lt
abbrev ael:=@Array.perm_iff_toList_perm
abbrev aem:=@PySem.Value.isInt_shape
abbrev aen:=@Int.toNat_natCast
abbrev aeo:=@PySem.wpAny_sequenceKey
abbrev aep:=@PySem.slot_list_getitem
abbrev aer:=@PySem.fits_of_scanBound
abbrev aes:=@Array.toList_push
abbrev aet:=@List.flatMap_cons
abbrev aeu:=@beq_iff_eq
abbrev aev:=@Nat.mod_lt
abbrev aew:=@PySem.F.plain_extend_loop
abbrev aex:=@PySem.Around.in1_units
abbrev aey:=@List.all_map
abbrev aez:=@Nat.ne_of_gt
abbrev aeA:=@List.getElem?_take_of_lt
abbrev aeB:=@PySem.noFill_tuple_add
abbrev aeC:=@beq_self_eq_true
abbrev aeD:=@PySem.Heap.size_update
abbrev aeE:=@List.Perm.eq_of_pairwise
abbrev aeF:=@PySem.F.plainAttrs_list
abbrev aeG:=@PySem.F.plain_list_iadd
abbrev aeH:=@List.filter_cons_of_pos
abbrev aeI:=@List.filter_cons_of_neg
abbrev aeJ:=@List.pairwise_singleton
abbrev aeK:=@PySem.StrLaws.found_iff
abbrev aeL:=@PySem.StrLaws.subAt_one
abbrev aeM:=@List.of_mem_zip
abbrev aeN:=@Int.emod_nonneg
abbrev aeO:=@Nat.two_pow_pos
abbrev aeP:=@Nat.log2_lt
abbrev aeQ:=@Bool.and_false
abbrev aeR:=@Bool.false_or
abbrev aeS:=@Bool.or_false
abbrev aeT:=@PySem.W.mg_of
section
section
namespace L2
open PySem PySem.Spec PyProof.Rows
inductive D where
 |bQ|bl (b:Bool)|int (i:Int)|str (z:Str)|tup (ds:List D)|lst (ds:List D)
mutual
noncomputable def D.same:D->D->Bool
 |.bQ,.bQ=>true
 |.bl a,.bl b=>a == b
 |.int a,.int b=>a == b
 |.str a,.str b=>decide (a=b)
 |.tup a,.tup b=>D.qU a b
 |.lst a,.lst b=>D.qU a b
 |_,_=>false
noncomputable def D.qU:List D->List D->Bool
 |[],[]=>true
 |a::as,b::bs=>D.same a b && D.qU as bs
 |_,_=>false
end
mutual
theorem D.same_refl:∀a:D,D.same a a=true
 |.bQ=>rfl
 |.bl _=>by simp[D.same]
 |.int _=>by simp[D.same]
 |.str _=>by simp[D.same]
 |.tup a=>by unfold D.same;exact D.qh a
 |.lst a=>by unfold D.same;exact D.qh a
theorem D.qh:∀a:List D,D.qU a a=true
 |[]=>rfl
 |a::as=>by unfold D.qU;rw[D.same_refl a,D.qh as];rfl
end
mutual
theorem D.same_eq:∀{a b:D},D.same a b=true->a=b
 |.bQ,b,h=>by cases b<;>simp[D.same] at h ⊢
 |.bl _,b,h=>by cases b<;>simp[D.same] at h ⊢;exact h
 |.int _,b,h=>by cases b<;>simp[D.same] at h ⊢;exact h
 |.str _,b,h=>by cases b<;>simp[D.same] at h ⊢;exact h
 |.tup a,b,h=>by
  cases b with
  |tup b=>unfold D.same at h;rw[D.vt h]
  |_=>simp[D.same] at h
 |.lst a,b,h=>by
  cases b with
  |lst b=>unfold D.same at h;rw[D.vt h]
  |_=>simp[D.same] at h
theorem D.vt:∀{a b:List D},D.qU a b=true->a=b
 |[],b,h=>by cases b<;>simp[D.qU] at h ⊢
 |a::as,b,h=>by
  cases b with
  |nil=>simp[D.qU] at h
  |cons b bs=>
   unfold D.qU at h;rw[aaH] at h;rw[D.same_eq h.1,D.vt h.2]
end
noncomputable instance:DecidableEq D:=fun a b=>if h:D.same a b=true then isTrue (D.same_eq h) else isFalse fun e=>h (e▸D.same_refl a)
noncomputable def bI (b:Bool):Int:=if b then 1 else 0
mutual
noncomputable def nf:D->D
 |.bl b=>.int (bI b)
 |.tup ds=>.tup (Oj ds)
 |d=>d
noncomputable def Oj:List D->List D
 |[]=>[]
 |d::ds=>nf d::Oj ds
end
noncomputable def fY:Nat->D->Bool
 |_,.bl _=>true
 |_,.int _=>true
 |_,.str _=>true
 |n+1,.tup ds=>ds.all (fY n)
 |_,_=>false
mutual
theorem Em:∀(d:D) (n:Nat),fY n d=true->fY n (nf d)=true
 |.bl _,n,_=>by cases n<;>rfl
 |.int _,n,_=>by cases n<;>rfl
 |.str _,n,_=>by cases n<;>rfl
 |.bQ,n,h=>by cases n<;>exact h
 |.lst _,n,h=>by cases n<;>exact h
 |.tup ds,0,h=>by exact h
 |.tup ds,n+1,h=>Br ds n h
theorem Br:∀(ds:List D) (n:Nat),ds.all (fY n)=true->(Oj ds).all (fY n)=true
 |[],n,_=>rfl
 |d::ds,n,h=>by
  rw[ab2,aaH] at h;show((nf d::Oj ds).all (fY n))=true;rw[ab2,Em d n h.1,Br ds n h.2];rfl
end
mutual
inductive xN (h:Heap):Value->D->Prop
 |bool (b:Bool):xN h (.bool b) (.int (bI b))
 |int (i:Int) (t:Tok):xN h (.int i t) (.int i)
 |str (x:Str) (t:Tok):xN h (.str x t) (.str x)
 |tup {a:Addr}{its:AAL}{ds:List D}(p:h.IsTuple a its.toArray) (r:kK h its ds):xN h (.ref a) (.tup ds)
inductive kK (h:Heap):BBG->List D->Prop
 |nil:kK h [] []
 |cons {u:Value}{d:D}{us:AAL}{ds:List D}(r:xN h u d) (rs:kK h us ds):kK h (u::us) (d::ds)
end
mutual
noncomputable def Ia (w:World):D->Int
 |.int i=>hashInt i
 |.str x=>hashStr w x
 |.tup ds=>reduceHash (Builtin.Tuple.tupleHashOf (qi w ds))
 |_=>0
noncomputable def qi (w:World):List D->BBD
 |[]=>[]
 |d::ds=>Ia w d::qi w ds
end
mutual
noncomputable def zD:D->Nat
 |.tup ds=>vc ds+1
 |_=>1
noncomputable def vc:List D->Nat
 |[]=>0
 |d::ds=>zD d+vc ds
end
theorem kK.length {h:Heap}:∀{us:AAL}{ds:List D},kK h us ds->us.length=ds.length
 |_,_,.nil=>rfl
 |_,_,.cons _ rs=>congrArg Nat.succ (kK.length rs)
mutual
theorem xN.inj {h:Heap}:∀{v:Value}{d e:D},xN h v d->xN h v e->d=e
 |_,_,_,.bool b,r=>by cases r;rfl
 |_,_,_,.int i t,r=>by cases r;rfl
 |_,_,_,.str x t,r=>by cases r;rfl
 |_,_,_,@xN.tup _ a its ds p r,q=>by
  cases q with
  |@tup _ its' ds' p' r'=>
   obtain⟨o,h1,_,n,h2⟩:=p;obtain⟨o',Tq,_,n',h2'⟩:=p';rw[h1] at Tq;cases Tq;rw[h2] at h2';injection h2' with e1 _
   have e:its=its':=by simpa using congrArg Array.toList e1
   subst e;rw[kK.inj r r']
theorem kK.inj {h:Heap}:∀{vs:AAL}{ds es:List D},kK h vs ds->kK h vs es->ds=es
 |_,_,_,.nil,r=>by cases r;rfl
 |_,_,_,.cons r1 s1,r=>by
  cases r with
  |cons r2 s2=>rw[xN.inj r1 r2,kK.inj s1 s2]
end
mutual
theorem xN.keeps {h h':Heap}{d:Addr}{o:Obj}{es:Array DictEntry}{ep:Nat}(ho:h.get? d=some o) (hd:o.data= .dict es ep) (hs:Heap.SameBut d h h'):∀{v:Value}{k:D},xN h v k->xN h' v k
 |_,_,.bool b=>.bool b
 |_,_,.int i t=>.int i t
 |_,_,.str x t=>.str x t
 |_,_,@xN.tup _ a its ds p r=>by
  obtain⟨o',h1,h2,n,h3⟩:=p;have hne:a≠d:=by
   intro z;subst z;rw[ho] at h1;cases h1;rw[hd] at h3;cases h3
  exact .tup ⟨o',(hs.2 a hne).trans h1,h2,n,h3⟩ (kK.keeps ho hd hs r)
theorem kK.keeps {h h':Heap}{d:Addr}{o:Obj}{es:Array DictEntry}{ep:Nat}(ho:h.get? d=some o) (hd:o.data= .dict es ep) (hs:Heap.SameBut d h h'):∀{v:AAL}{k:List D},kK h v k->kK h' v k
 |_,_,.nil=>.nil
 |_,_,.cons r1 s1=>.cons (xN.keeps ho hd hs r1) (kK.keeps ho hd hs s1)
end
section
variable {prog:Program}{w:World}{E:AAE}
def uz {A:Around}{s:Shared}{b:Bool}{Q:Int->Shared->Prop}(h:Q (hashInt (bI b)) {s with toks:=s.toks+1}):wpAny (model prog w) A (pyHash (.bool b)) Q E s:=by
 refine PySem.W.pyHash_slot (T:="bool") rfl F.slot_bool_hash F.entry_int_hash (F.args_int_hash_1 _) (beq_builtin_none _) (.inl rfl) ?_;cases b
 ·exact(show wpAny _ _ (do ret (<-mkInt 0)) _ _ s from aab (wpAny_mkInt (wpAny_pure ⟨_,_,rfl,h⟩)))
 ·exact(show wpAny _ _ (do ret (<-mkInt 1)) _ _ s from aab (wpAny_mkInt (wpAny_pure ⟨_,_,rfl,h⟩)))
mutual
theorem Bt:∀(d:D){n:Nat}{v:Value}{A:Around}{s:Shared}{Q:Int->Shared->Prop},xN s.heap v d->fY n d=true->A.units+n<cLine->Q (Ia w d) {s with toks:=s.toks+zD d}->wpAny (model prog w) A (pyHash v) Q E s
 |.int i,n,v,A,s,Q,x,_,_,h=>by
  cases x with
  |int=>exact wpAny_pyHash_int h
  |bool b=>exact uz h
 |.str y,n,v,A,s,Q,x,_,_,h=>by cases x;exact wpAny_pyHash_str h
 |.bQ,n,v,A,s,Q,x,_,_,h=>by cases x
 |.bl _,n,v,A,s,Q,x,_,_,h=>by cases x
 |.lst _,n,v,A,s,Q,x,_,_,h=>by cases x
 |.tup ds,n,v,A,s,Q,x,hk,hu,h=>by
  cases n with
  |zero=>simp[fY] at hk
  |succ n=>
   cases x with
   |@tup a its _ p r=>
    obtain⟨o,hg,hc,m,hd⟩:=p;refine PySem.W.pyHash_slot (T:="tuple") ⟨_,hg,hc⟩ F.slot_tuple_hash F.entry_tuple_hash (F.args_tuple_hash_1 _) (beq_builtin_none _) (.inr (by lia)) ?_;show wpAny _ _ (Builtin.Tuple.tupleItemsOf (.ref a) >>= _) _ _ s;refine aab (wpAny_tupleItemsOf hg hd ?_);refine aab ?_;rw[<-adn];refine yp ds (n:=n) (A:=A.in1) (b:=#[]) r hk (by rw[aex];lia) fun b hb=>?_;show wpAny _ _ (retInt (Builtin.Tuple.tupleHashOf b.toList)) _ _ _;rw[hb];refine aab (wpAny_mkInt (wpAny_pure ⟨_,_,rfl,?_⟩));have e:(#[]:Array Int).toList++qi w ds=qi w ds:=by simp
    rw[e];exact h
theorem yp:∀(ds:List D){n:Nat}{vs:AAL}{A:Around}{s:Shared}{b:Array Int}{Q:Array Int->Shared->Prop},kK s.heap vs ds->ds.all (fY n)=true->A.units+n<cLine->
  (∀b',b'.toList=b.toList++qi w ds->Q b' {s with toks:=s.toks+vc ds})->
  wpAny (model prog w) A (forIn vs b fun x r=>do let h <-pyHash x;pure PUnit.unit;pure (ForInStep.yield (r.push h))) Q E s
 |[],n,_,A,s,b,Q,x,_,_,h=>by cases x;exact wpAny_pure (h b (by simp[qi]))
 |d::ds,n,_,A,s,b,Q,x,hk,hu,h=>by
  cases x with
  |cons x1 x2=>
   rw[ab2,aaH] at hk;rw[List.forIn_cons];refine aab (aab (Bt d (n:=n) x1 hk.1 hu ?_));refine aab (wpAny_pure (wpAny_pure ?_));refine yp ds (n:=n) x2 hk.2 hu fun b' hb=>?_;have q:=h b' (by simp[hb,qi]);show Q b' {s with toks:=s.toks+zD d+vc ds};rw[Nat.add_assoc];exact q
end
end
def zE (n:Nat) (f:Nat->Bool):(List.range (n+1)).all f=(f 0 && (List.range n).all fun j=>f (j+1)):=by
 rw[List.range_succ_eq_map,ab2,aey];rfl
theorem Bv:∀ds es:List D,((List.range (min ds.length es.length)).all (fun j=>decide (ds[j]? =es[j]?)) && ds.length == es.length)=decide (ds=es)
 |[],[]=>by simp
 |[],e::es=>by simp
 |d::ds,[]=>by simp
 |d::ds,e::es=>by
  have ih:=Bv ds es;have e1:min (d::ds).length (e::es).length=min ds.length es.length+1:=by simp only[aaG];lia
  rw[e1,zE];have e2:(fun j=>decide ((d::ds)[j+1]? =(e::es)[j+1]?))=fun j=>decide (ds[j]? =es[j]?):=by funext j;simp
  have e3:((d::ds).length == (e::es).length)=(ds.length == es.length):=by simp
  have e4:decide ((d::ds)[0]? =(e::es)[0]?)=decide (d=e):=by simp
  have e5:decide (d::ds=e::es)=(decide (d=e) && decide (ds=es)):=by
   by_cases a:d=e
   ·subst a;by_cases b:ds=es<;>simp[b]
   ·simp[a]
  rw[e2,e3,e4,Bool.and_assoc,ih,e5]
def Ib {α:Type}(l:List α) (j:Nat) (h:j<l.toArray.size):l[j]? =some l.toArray[j]:=by
 have z:j<l.length:=by simpa using h
 simp[z]
mutual
theorem eqK:∀(d:D){e:D}{n:Nat}{A:Around}{s:Shared}{u v:Value},xN s.heap u d->xN s.heap v e->fY n d=true->A.units+n<cLine->SeqAt.EqAt A s u v (decide (d=e))
  |.int i,e,n,A,s,u,v,r1,r2,_,hu=>by
    have di:∀i j:Int,decide (D.int i=D.int j)=(i == j):=fun i j=>by by_cases z:i=j<;>simp[z]
    cases r1 with
    |int _ t=>
      cases r2 with
      |int j t'=>rw[di];exact SeqAt.EqAt.int_int i t j t'
      |bool b=>rw[di];exact adY i t b
      |str x t'=>exact ad8 i t x t'
      |tup p r=>exact SeqAt.EqAt.int_tuple i t p (by lia)
    |bool a=>
      cases r2 with
      |int j t'=>rw[di];exact adZ a j t'
      |bool b=>
        have:(bI a == bI b)=(a == b):=by cases a<;>cases b<;>rfl
        rw[di,this];exact adO a b
      |str x t'=>exact ad0 a x t'
      |tup p r=>exact SeqAt.EqAt.bool_tuple a p (by lia)
  |.str i,e,n,A,s,u,v,r1,r2,_,hu=>by
    cases r1 with
    |str _ t=>
    cases r2 with
    |int j t'=>exact ad9 i t j t'
    |bool b=>exact ad1 i t b
    | str x t' => have : decide (D.str i = D.str x) = (i == x) := by by_cases z : i = x <;> simp [z]
                  rw[this];exact SeqAt.EqAt.str_str i t x t'
    |tup p r=>exact SeqAt.EqAt.str_tuple i t p (by lia)
  |.bQ,e,n,A,s,u,v,r1,r2,hk,hu=>by cases r1
  |.bl _,e,n,A,s,u,v,r1,r2,hk,hu=>by cases r1
  |.lst _,e,n,A,s,u,v,r1,r2,hk,hu=>by cases r1
  |.tup ds,e,n,A,s,u,v,r1,r2,hk,hu=>by
    cases n with
    |zero=>simp[fY] at hk
    |succ n=>
    cases r1 with
    |@tup ca eV _ pa ra=>
    cases r2 with
    |int j t'=>exact SeqAt.EqAt.tuple_int j t' pa (by lia)
    |bool b=>exact SeqAt.EqAt.tuple_bool b pa (by lia)
    |str x t'=>exact SeqAt.EqAt.tuple_str x t' pa (by lia)
    |@tup cb bR es pb rb=>
      have items:∀j (h1:j<eV.toArray.size) (h2:j<bR.toArray.size),SeqAt.EqAt A.in1 s eV.toArray[j] bR.toArray[j] (decide (ds[j]? =es[j]?)):=fun j h1 h2=>
        Tt ds (n:=n) (A:=A.in1) ra rb hk (by rw[aex];lia) (Ib eV j h1) (Ib bR j h2)
      by_cases hc:ca=cb
      . subst hc
        have z:=xN.inj (.tup pa ra) (.tup pb rb);rw[z,aaT rfl];exact adP _
      . have q:=SeqAt.RcAt.tuples (e:=fun j=>decide (ds[j]? =es[j]?)) pa pb (by lia) items
        rw[aad,aad,ra.length,rb.length,Bv] at q;have z:decide (D.tup ds=D.tup es)=decide (ds=es):=by by_cases a:ds=es<;>simp[a]
        rw[z];exact aea hc q
theorem Tt:∀(ds:List D){es:List D}{n:Nat}{A:Around}{s:Shared}{us vs:AAL}{j:Nat}{u v:Value},kK s.heap us ds->kK s.heap vs es->ds.all (fY n)=true->A.units+n<cLine->us[j]? =some u->vs[j]? =some v->
  SeqAt.EqAt A s u v (decide (ds[j]? =es[j]?))
 |[],es,n,A,s,us,vs,j,u,v,r1,r2,hk,hu,h1,h2=>by cases r1;simp at h1
 |d::ds,es,n,A,s,us,vs,j,u,v,r1,r2,hk,hu,h1,h2=>by
  rw[ab2,aaH] at hk;cases r1 with
  |cons a as=>
  cases r2 with
  |nil=>simp at h2
  |@cons v' e' vs' es' b bs=>
   cases j with
   |zero=>
    simp only[List.getElem?_cons_zero,Option.some.injEq] at h1 h2;subst h1;subst h2;have z:decide ((d::ds)[0]? =(e'::es')[0]?)=decide (d=e'):=by simp
    rw[z];exact eqK d a b hk.1 hu
   |succ j=>
    have z:decide ((d::ds)[j+1]? =(e'::es')[j+1]?)=decide (ds[j]? =es'[j]?):=by simp
    rw[z];exact Tt ds as bs hk.2 hu (by simpa using h1) (by simpa using h2)
end
section
variable {prog:Program}{w:World}{A:Around}{E:AAE}{s:Shared}
mutual
theorem Ic:∀(d:D){n:Nat}{v:Value}{Q:Bool->Shared->Prop},xN s.heap v d->fY n d=true->Q true s->wpAny (model prog w) A (eqIsQuiet n v) Q E s
 |.int i,n,v,Q,x,_,h=>by cases x<;>(rw[eqIsQuiet_byValue n rfl];exact wpAny_pure h)
 |.str y,n,v,Q,x,_,h=>by cases x;rw[eqIsQuiet_byValue n rfl];exact wpAny_pure h
 |.bQ,n,v,Q,x,_,h=>by cases x
 |.bl _,n,v,Q,x,_,h=>by cases x
 |.lst _,n,v,Q,x,_,h=>by cases x
 |.tup ds,n,v,Q,x,hk,h=>by
  cases n with
  |zero=>simp[fY] at hk
  |succ n=>
   cases x with
   |@tup a its _ p r=>
    obtain⟨o,hg,hc,m,hd⟩:=p;have hT:s.TypeIs (.ref a) "tuple":=⟨o,hg,hc⟩
    unfold eqIsQuiet;refine aab (wpAny_specialOf hT F.slot_tuple_eq.lookup ?_);show wpAny _ _ (isInstance (.ref a) (.type "tuple") >>= _) _ _ s;refine aab (adL hT isSubtype_tuple_tuple ?_);simp only[Bool.not_true,ack,acu];refine aab (wpAny_seqItems hg hd ?_);refine aab ?_;show wpAny _ _ (forIn its.toArray _ _) _ _ s;rw[<-adn];exact yq ds r hk (wpAny_pure h)
theorem yq:∀(ds:List D){n:Nat}{vs:AAL}{Q:Option Bool×Unit->Shared->Prop},kK s.heap vs ds->ds.all (fY n)=true->Q (none,()) s->
  wpAny (model prog w) A (forIn vs ((none,()):Option Bool×Unit) fun y __s=>do
   let __do_lift <-eqIsQuiet n y
   if(!__do_lift)=true then pure (ForInStep.done (some false,())) else pure (ForInStep.yield (none,()))) Q E s
 |[],n,_,Q,x,_,h=>by cases x;exact wpAny_pure h
 |d::ds,n,_,Q,x,hk,h=>by
  cases x with
  |cons x1 x2=>
   rw[ab2,aaH] at hk;rw[List.forIn_cons];refine aab (aab (Ic d x1 hk.1 ?_));simp only[Bool.not_true,ack,acu];refine wpAny_pure ?_;exact yq ds x2 hk.2 h
end
end
def lF (prog:Program) (w:World):HeapKind prog w D where
 is:=fun h k a=>xN h (.ref a) k/\fY 8 k=true
 hash:=Ia w
 draws:=zD
 room:=fun A=>A.units+8<cLine
 inj:=fun hx hy=>hx.1.inj hy.1
 keeps:=fun x ho hd hs=>⟨x.1.keeps ho hd hs,x.2⟩
 pyHash:=fun hu hk h=>Bt _ hk.1 hk.2 hu h
 eqBool:=fun hu hx hy h=>eqK _ hx.1 hy.1 hx.2 hu _ _ _ _ h
 quiet:=fun hk h=>Ic _ hk.1 hk.2 h
def k6 {prog:Program}{w:World}{A:Around}(hu:A.units+20<cLine):(lF prog w).room A.in1:=by
 show A.in1.units+8<cLine;rw[aex];lia
end L2
end
namespace L2
open PySem PySem.Spec PyProof.Rows
variable {H H':Hp}{a C:Addr}{o:Obj}{u:Value}{P prog:Program}{w:World}{g':Array GenState}{t' i k:Nat}{ch fp:BBE}{N ps:BBB}{x qual:Str}{M:Model}{A:Around}{E Q:AAE}{X:Cx}{pos:Pos}{pins:AAG}{σ:St}{op:CmpOp}{c tg:Expr}{K:AAD}{es:BBC}{body:BBH}{r:R2}{g:Int->Int->Int}{us:AAL}{y:V}{mA mg:AAF}{pl:Sem Bool}{kw:List (Str×Value)}{base:Heap}{outer:BBF}{vs:List V}{scope:Scope}{kvs:List (D×V)}{xs:List (D×Addr×Value)}{L7:List (TE×TE)}
abbrev Key:=Sum Int Str
def vv:Key->Value->Bool
 |.inl k,.bool b=>decide (k=bI b)
 |.inl k,v=>Value.isInt k v
 |.inr x,v=>Value.isStrOf x v
noncomputable def Yi (w:World):Key->Int
 |.inl k=>hashInt k
 |.inr x=>hashStr w x
theorem cK:∀{k:Key}{v:Value},vv k v=true->(∃i t,k=Sum.inl i/\v=Value.int i t)\/(∃b,k=Sum.inl (bI b)/\v=Value.bool b)\/(∃x t,k=Sum.inr x/\v=Value.str x t)
 |.inl i,v,h=>by
  cases v with
  |bool b=>exact .inr (.inl ⟨b,by rw[aa2 (show decide (i=bI b)=true from h)],rfl⟩)
  |int j t=>obtain⟨t,e⟩:=aem (k:=i) (v:=Value.int j t) h;exact .inl ⟨i,t,rfl,e⟩
  |_=>exact absurd h (by simp[vv,Value.isInt])
 |.inr x,v,h=>by
  obtain⟨t,e⟩:=Value.isStrOf_shape (x:=x) (v:=v) h;exact .inr (.inr ⟨x,t,rfl,e⟩)
def Gf (i:Int) (t:Tok):vv (.inl i) (.int i t)=true:=by simp[vv,Value.isInt]
def Gg (x:Str) (t:Tok):vv (.inr x) (.str x t)=true:=by simp[vv,Value.isStrOf]
def zF (a b:Int):decide ((Sum.inl a:Key)=Sum.inl b)=(a == b):=by
 by_cases e:a=b
 ·subst e;simp
 ·have h:¬(Sum.inl a:Key)=Sum.inl b:=fun q=>e (Sum.inl.inj q);rw[aaS h];exact(acf.mpr e).symm
def Pg (a b:Str):decide ((Sum.inr a:Key)=Sum.inr b)=decide (a=b):=by
 by_cases e:a=b
 ·subst e;simp
 ·have h:¬(Sum.inr a:Key)=Sum.inr b:=fun q=>e (Sum.inr.inj q);rw[aaS h,aaS e]
def Ie (a:Int) (b:Str):decide ((Sum.inl a:Key)=Sum.inr b)=false:=aaS (fun q=>nomatch q)
def Ig (a:Str) (b:Int):decide ((Sum.inr a:Key)=Sum.inl b)=false:=aaS (fun q=>nomatch q)
def iN (prog:Program) (w:World):PySem.KeyKind prog w Key where
 is:=vv
 hash:=Yi w
 inj:=fun v a b ha hb=>by
  rcases cK ha with⟨i,t,rfl,rfl⟩|⟨c,rfl,rfl⟩|⟨x,t,rfl,rfl⟩
  ·rcases cK hb with⟨j,u,rfl,e⟩|⟨c',rfl,e⟩|⟨y,u,rfl,e⟩
   ·injection e with e1 _;rw[e1]
   ·exact nomatch e
   ·exact nomatch e
  ·rcases cK hb with⟨j,u,rfl,e⟩|⟨c',rfl,e⟩|⟨y,u,rfl,e⟩
   ·exact nomatch e
   ·injection e with e1;rw[e1]
   ·exact nomatch e
  ·rcases cK hb with⟨j,u,rfl,e⟩|⟨c',rfl,e⟩|⟨y,u,rfl,e⟩
   ·exact nomatch e
   ·exact nomatch e
   ·injection e with e1 _;rw[e1]
 byValue:=fun k v h=>by
  rcases cK h with⟨i,t,rfl,rfl⟩|⟨c,rfl,rfl⟩|⟨x,t,rfl,rfl⟩<;>rfl
 pyHash:=fun hv h=>by
  rcases cK hv with⟨i,t,rfl,rfl⟩|⟨c,rfl,rfl⟩|⟨x,t,rfl,rfl⟩
  ·exact wpAny_pyHash_int h
  ·exact uz h
  ·exact wpAny_pyHash_str h
 eqBool:=fun hu hv h=>by
  rcases cK hu with⟨i,t,rfl,rfl⟩|⟨c,rfl,rfl⟩|⟨x,t,rfl,rfl⟩
  ·rcases cK hv with⟨j,u,rfl,rfl⟩|⟨c',rfl,rfl⟩|⟨y,u,rfl,rfl⟩
   ·rw[zF] at h;exact wpAny_eqBool_int h
   ·rw[zF] at h;exact adY i t c' _ _ _ _ h
   ·rw[Ie] at h;exact ad8 i t y u _ _ _ _ h
  ·rcases cK hv with⟨j,u,rfl,rfl⟩|⟨c',rfl,rfl⟩|⟨y,u,rfl,rfl⟩
   ·rw[zF] at h;exact adZ c j u _ _ _ _ h
   ·have e:(bI c == bI c')=(c == c'):=by cases c<;>cases c'<;>rfl
    rw[zF,e] at h;exact adO c c' _ _ _ _ h
   ·rw[Ie] at h;exact ad0 c y u _ _ _ _ h
  ·rcases cK hv with⟨j,u,rfl,rfl⟩|⟨c',rfl,rfl⟩|⟨y,u,rfl,rfl⟩
   ·rw[Ig] at h;exact ad9 x t j u _ _ _ _ h
   ·rw[Ig] at h;exact ad1 x t c' _ _ _ _ h
   ·rw[Pg] at h;exact wpAny_eqBool_str h
 «strs»:=fun k x t v h=>by
  rcases cK h with⟨i,u,rfl,e⟩|⟨c,rfl,e⟩|⟨y,u,rfl,e⟩
  ·exact nomatch e
  ·exact nomatch e
  ·injection e with e1 _
   subst e1;cases v<;>rfl
def Bw (prog:Program) (w:World) (i:Int) (t:Tok):(iN prog w).is (.inl i) (.int i t)=true:=Gf i t
def Bx (prog:Program) (w:World) (x:Str) (t:Tok):(iN prog w).is (.inr x) (.str x t)=true:=Gg x t
inductive V where
 |bQ|bl (b:Bool)|int (i:Int)|str (x:Str)|WL (b:Array UInt8)|flt (b:UInt64)|ref (a:Addr)|ty (n:String)
 deriving DecidableEq
def RelV:V->Value->Prop
 |.bQ,u=>u=Value.none
 |.bl b,u=>u=Value.bool b
 |.int i,u=>∃t,u=Value.int i t
 |.str x,u=>∃t,u=Value.str x t
 |.WL b,u=>∃t,u=Value.bytes b t
 |.flt b,u=>∃t,u=Value.float b t
 |.ref a,u=>u=Value.ref a
 |.ty n,u=>u=Value.type n
abbrev Vals:List V->BBG->Prop:=Paired RelV
def Vals.length {xs:List V}{us:AAL}(r:Vals xs us):xs.length=us.length:=aeg r
theorem Vals.get:∀{xs:List V}{us:AAL}{i:Nat}{x:V},Vals xs us->xs[i]? =some x->∃u,us[i]? =some u/\RelV x u
 |_,_,_,_,.nil,e=>by simp at e
 |_,_,0,_,.cons r _,e=>by simp at e;subst e;exact⟨_,rfl,r⟩
 |_,_,i+1,x,.cons _ t,e=>by
  obtain⟨u,h1,h2⟩:=Vals.get (i:=i) (x:=x) t (by simpa using e);exact⟨u,by simpa using h1,h2⟩
theorem Vals.set {x:V}{u:Value}(r:RelV x u):∀{xs:List V}{us:AAL}(i:Nat),Vals xs us->Vals (xs.set i x) (us.set i u)
 |_,_,_,.nil=>.nil
 |_,_,0,.cons _ t=>.cons r t
 |_,_,i+1,.cons q t=>.cons q (Vals.set r i t)
theorem Vals.append:∀{xs ys:List V}{us ws:AAL},Vals xs us->Vals ys ws->Vals (xs++ys) (us++ws)
 |_,_,_,_,.nil,s=>s
 |_,_,_,_,.cons r t,s=>.cons r (Vals.append t s)
theorem Vals.take:∀{xs:List V}{us:AAL}(n:Nat),Vals xs us->Vals (xs.take n) (us.take n)
 |_,_,0,_=>.nil
 |_,_,_+1,.nil=>.nil
 |_,_,n+1,.cons r t=>.cons r (Vals.take n t)
theorem Vals.drop:∀{xs:List V}{us:AAL}(n:Nat),Vals xs us->Vals (xs.drop n) (us.drop n)
 |_,_,0,r=>r
 |_,_,_+1,.nil=>.nil
 |_,_,n+1,.cons _ t=>Vals.drop n t
def nG:Option V->BBP->Prop
 |some v,some u=>RelV v u
 |none,none=>True
 |_,_=>False
def KV {κ:Type}:List (κ×V)->List (κ×Value)->Prop:=Paired fun(p:κ×V) (q:κ×Value)=>p.1=q.1/\RelV p.2 q.2
noncomputable def kV:Key->V
 |.inl i=>.int i
 |.inr x=>.str x
inductive HO where
 |lst (xs:List V)
 |tup (xs:List V)
 |dK (kvs:List (Key×V))|dT (kvs:List (D×V))
 |set (S:Int->Bool) (n:Nat)
 |ins (C dx:Addr) (fs:List (Str×V))
 |own (x:Addr)
 |Tu (C dx:Addr) (fs:List (Str×V))
 |xd (fs:List (Str×V))
 |met (f x:Addr)
 |qV (lo hi:Int)
 |jh (o:Obj) (u:HO)
 |Ph (ps:AAK)
 |ext (φ:Heap->Prop)
abbrev Hp:=Addr->Option HO
mutual
inductive Rep (H:Hp):V->D->Prop
 |bQ:Rep H .bQ .bQ
 |bl (b:Bool):Rep H (.bl b) (.bl b)
 |int (i:Int):Rep H (.int i) (.int i)
 |str (z:Str):Rep H (.str z) (.str z)
 |tup {a:Addr}{vs:List V}{ds:List D}(e:H a=some (.tup vs)) (r:bq H vs ds):Rep H (.ref a) (.tup ds)
 |lst {a:Addr}{vs:List V}{ds:List D}(e:H a=some (.lst vs)\/∃o,H a=some (.jh o (.lst vs))) (r:bq H vs ds):Rep H (.ref a) (.lst ds)
inductive bq (H:Hp):List V->List D->Prop
 |nil:bq H [] []
 |cons {v:V}{d:D}{vs:List V}{ds:List D}(r:Rep H v d) (rs:bq H vs ds):bq H (v::vs) (d::ds)
end
mutual
theorem Rep.tups {H H':Hp}(ht:∀b xs,H b=some (.tup xs)->H' b=some (.tup xs)):∀(d:D){n:Nat}{v:V},Rep H v d->fY n d=true->Rep H' v d
 |.bQ,n,_,_,k=>by simp[fY] at k
 |.bl b,n,_,r,k=>by cases r;exact .bl b
 |.lst _,n,_,_,k=>by simp[fY] at k
 |.int i,n,_,r,k=>by cases r;exact .int i
 |.str i,n,_,r,k=>by cases r;exact .str i
 |.tup ds,n,_,r,k=>by
  cases n with
  |zero=>simp[fY] at k
  |succ n=>
   cases r with
   |@tup a vs _ e rs=>exact .tup (ht _ _ e) (bq.tups ht ds rs k)
theorem bq.tups {H H':Hp}(ht:∀b xs,H b=some (.tup xs)->H' b=some (.tup xs)):∀(ds:List D){n:Nat}{vs:List V},bq H vs ds->ds.all (fY n)=true->bq H' vs ds
 |[],n,_,r,k=>by cases r;exact .nil
 |d::ds,n,_,r,k=>by
  rw[ab2,aaH] at k;cases r with
  |cons r1 r2=>exact .cons (Rep.tups ht d r1 k.1) (bq.tups ht ds r2 k.2)
end
def Kd (H:Hp) (b:Addr) (k:D):Prop:=∃d,Rep H (.ref b) d/\fY 8 d=true/\nf d=k
def Kd.tups {H H':Hp}{b:Addr}{k:D}(x:Kd H b k) (ht:∀b xs,H b=some (.tup xs)->H' b=some (.tup xs)):Kd H' b k:=by
 obtain⟨d,r,hk,e⟩:=x;exact⟨d,Rep.tups ht d r hk,hk,e⟩
noncomputable def upd (H:Hp) (a:Addr) (o:HO):Hp:=fun b=>if b=a then some o else H b
def aO {o:HO}:upd H a o a=some o:=by unfold upd;rw[if_pos rfl]
def aP {b:Addr}{o:HO}(h:b≠a):upd H a o b=H b:=by unfold upd;rw[if_neg h]
def Tv {b:Addr}{o u:HO}(h:H a=some o) (h':H b=some u) (d:o≠u):a≠b:=by
 intro e;subst e;rw[h] at h';exact d (aaV h')
def bJ {b:Addr}{o:HO}(h:H a=some o) (h':H b=none):a≠b:=by
 intro e;subst e;rw[h] at h';cases h'
section
variable (P:Program)(w:World)
def dZ (H:Hp) (h:Heap) (a:Addr):HO->Prop
 |.lst xs=>xs.length<=sizeLine/\∃(its:AAL) (n:Nat),Vals xs its/\h.get? a=some {cls:=.type "list",data:=.seq its.toArray n}
 |.tup xs=>xs.length<=sizeLine/\∃its:BBG,Vals xs its/\IsTup h a its.toArray
 |.dK kvs=>kvs.length<=sizeLine/\(a == sysModules)=false/\∃vs,KV kvs vs/\h.DictOf (iN P w) a vs
 |.dT kvs=>kvs.length<=sizeLine/\(a == sysModules)=false/\∃xs:List (D×Addr×Value),
   Paired (fun(p:D×V) (q:D×Addr×Value)=>p.1=q.1/\Kd H q.2.1 p.1/\RelV p.2 q.2.2) kvs xs/\
   ∃o es ep,h.get? a=some o/\o.ExactDict/\o.data= .dict es ep/\es.toList=xs.map (entryOfKey (lF P w))/\(xs.map (·.1)).Nodup
 |.set S n=>h.SetOf (intKind P w) a S n
 |.ins C dx fs=>H dx=some (.own a)/\fs.length<=1000/\dx≠a/\h.get? a=some (PySem.W.instObj C dx)/\
   ∃mA,h.Ns1 dx mA/\(∀f,nG (fs.lookup f) (mA f))/\PySem.Within mA (fs.map (·.1))
 |.Tu C dx fs=>H dx=some (.own a)/\fs.length<=1000/\dx≠a/\(∃oe vs,h.get? a=some oe/\oe.cls= .ref C/\oe.dict=some dx/\oe.data= .fields vs)/\∃mA,h.Ns1 dx mA/\(∀f,nG (fs.lookup f) (mA f))/\PySem.Within mA (fs.map (·.1))
 |.own _=>∃o,h.get? a=some o
 |.xd fs=>∃mA,h.Ns1 a mA/\(∀f,nG (fs.lookup f) (mA f))/\PySem.Within mA (fs.map (·.1))
 |.qV lo hi=>∃t u v,h.get? a=some {cls:=.type "range",data:=.fields #[.int lo t,.int hi u,.int 1 v]}
 |.jh o u=>h.get? a=some o/\dZ H h a u
 |.Ph ps=>h.get? a=some {cls:=.none,data:=.fields ps}
 |.met f x=>h.get? a=some (PySem.W.methodObj (.ref f) (.ref x))
 |.ext φ=>φ h/\(∃o,h.get? a=some o)/\∀h1 h2:Heap,φ h1->(∀o,h1.get? a=some o->h2.get? a=some o)->φ h2
def nF (H:Hp) (h:Heap):Prop:=∀a o,H a=some o->dZ P w H h a o
end
section
variable {P:Program}{w:World}{H H':Hp}{h h':Heap}{a:Addr}{o:HO}
def dZ.lt (x:dZ P w H h a o):a<h.objs.size:=by
 cases o with
 |lst xs=>obtain⟨_,_,_,_,e⟩:=x;exact aap e
 |tup xs=>obtain⟨_,_,_,p⟩:=x;exact p.lt
 |dK kvs=>obtain⟨_,_,_,_,o,_,_,e,_⟩:=x;exact aap e
 |dT kvs=>obtain⟨_,_,_,_,o,_,_,e,_⟩:=x;exact aap e
 |set S n=>obtain⟨o,_,_,_,e,_⟩:=x;exact aap e
 |ins C dx fs=>obtain⟨_,_,_,e,_⟩:=x;exact aap e
 |Tu C dx fs=>obtain⟨_,_,_,⟨_,_,e,_⟩,_⟩:=x;exact aap e
 |own y=>obtain⟨_,e⟩:=x;exact aap e
 |xd fs=>obtain⟨_,⟨_,_,_,e,_⟩,_⟩:=x;exact aap e
 |qV lo hi=>obtain⟨_,_,_,e⟩:=x;exact aap e
 |jh ob u=>obtain⟨e,_⟩:=x;exact aap e
 |Ph ps=>exact aap (show h.get? a=some _ from x)
 |met f y=>exact aap (show h.get? a=some _ from x)
 |ext φ=>obtain⟨_,⟨_,e⟩,_⟩:=x;exact aap e
theorem Paired.By {α β:Type}{F G:α->β->Prop}:∀{l₁:List α}{l₂:List β},Paired F l₁ l₂->(∀a b,F a b->G a b)->Paired G l₁ l₂
 |_,_,.nil,_=>.nil
 |_,_,.cons r t,f=>.cons (f _ _ r) (Paired.By t f)
def dZ.stay (x:dZ P w H h a o) (k:∀b u,(b=a\/H b=some (.own a))->h.get? b=some u->h'.get? b=some u)
  (ho:∀b,H b=some (.own a)->H' b=some (.own a)) (ht:∀b xs,H b=some (.tup xs)->H' b=some (.tup xs)):dZ P w H' h' a o:=by
 induction o with
 |lst xs=>obtain⟨z,its,n,r,e⟩:=x;exact⟨z,its,n,r,k _ _ (.inl rfl) e⟩
 |tup xs=>obtain⟨z,its,r,ob,e,c⟩:=x;exact⟨z,its,r,ob,k _ _ (.inl rfl) e,c⟩
 |dK kvs=>obtain⟨z,y,vs,r,ob,es,ep,e,c⟩:=x;exact⟨z,y,vs,r,ob,es,ep,k _ _ (.inl rfl) e,c⟩
 |dT kvs=>
  obtain⟨z,y,xs,r,ob,es,ep,e,c⟩:=x;exact⟨z,y,xs,Paired.By r fun p q z=>⟨z.1,z.2.1.tups ht,z.2.2⟩,ob,es,ep,k _ _ (.inl rfl) e,c⟩
 |set S n=>obtain⟨ob,es,ep,t,e,c⟩:=x;exact⟨ob,es,ep,t,k _ _ (.inl rfl) e,c⟩
 |ins C dx fs=>
  obtain⟨d,z,ne,e,mA,⟨od,es,ep,e2,c⟩,r⟩:=x;exact⟨ho _ d,z,ne,k _ _ (.inl rfl) e,mA,⟨od,es,ep,k _ _ (.inr d) e2,c⟩,r⟩
 |Tu C dx fs=>
  obtain⟨d,z,ne,⟨oe,vs,e,r1⟩,mA,⟨od,es,ep,e2,c⟩,r⟩:=x;exact⟨ho _ d,z,ne,⟨oe,vs,k _ _ (.inl rfl) e,r1⟩,mA,⟨od,es,ep,k _ _ (.inr d) e2,c⟩,r⟩
 |own y=>obtain⟨ob,e⟩:=x;exact⟨ob,k _ _ (.inl rfl) e⟩
 |xd fs=>obtain⟨mA,⟨od,es,ep,e,c⟩,r⟩:=x;exact⟨mA,⟨od,es,ep,k _ _ (.inl rfl) e,c⟩,r⟩
 |qV lo hi=>obtain⟨t,u,v,e⟩:=x;exact⟨t,u,v,k _ _ (.inl rfl) e⟩
 |jh ob u ih=>obtain⟨e,q⟩:=x;exact⟨k _ _ (.inl rfl) e,ih q⟩
 |Ph ps=>
  have e:h.get? a=some {cls:=.none,data:=.fields ps}:=x;show h'.get? a=some {cls:=.none,data:=.fields ps};exact k a _ (.inl rfl) e
 |met f y=>
  have e:h.get? a=some (PySem.W.methodObj (.ref f) (.ref y)):=x;show h'.get? a=some (PySem.W.methodObj (.ref f) (.ref y));exact k a _ (.inl rfl) e
 |ext φ=>obtain⟨p,⟨o,e⟩,st⟩:=x;exact⟨st _ _ p fun o q=>k _ _ (.inl rfl) q,⟨o,k _ _ (.inl rfl) e⟩,st⟩
def nF.lt (x:nF P w H h) (e:H a=some o):a<h.objs.size:=(x a o e).lt
def nF.fresh (x:nF P w H h) (e:h.objs.size<=a):H a=none:=by
 cases q:H a with
 |none=>rfl
 |some u=>exact absurd (aas (x.lt q) e) (abS _)
def nF.kept (x:nF P w H h) (k:∀b u,h.get? b=some u->h'.get? b=some u):nF P w H h':=fun a o e=>
 (x a o e).stay (fun b u _ q=>k b u q) (fun _ q=>q) fun _ _ q=>q
def nF.laid (x:nF P w H h) (k:∀b u,h.get? b=some u->h'.get? b=some u) (hp:h.objs.size<=a) (new:dZ P w (upd H a o) h' a o):nF P w (upd H a o) h':=fun b u e=>by
 have hn:=x.fresh hp;by_cases hb:b=a
 ·subst hb;rw[aO] at e;cases e;exact new
 ·rw[aP hb] at e;exact(x b u e).stay (fun c v _ q=>k c v q) (fun c q=>by rw[aP (bJ q hn)];exact q) fun c xs q=>by rw[aP (bJ q hn)];exact q
end
def Rd (H:Hp) (a:Addr) (u:HO):Prop:=H a=some u\/∃o,H a=some (.jh o u)
def Rd.of {u:HO}(h:H a=some u):Rd H a u:=.inl h
def Rd.ok {h:Heap}{u:HO}(r:Rd H a u) (x:nF P w H h):dZ P w H h a u:=by
 rcases r with r|⟨o,r⟩
 ·exact x a u r
 ·obtain⟨_,q⟩:=x a _ r;exact q
def Tz:Option HO->Prop
 |some (.lst _)=>True
 |some (.dK _)=>True
 |some (.dT _)=>True
 |some (.set _ _)=>True
 |some (.ins _ _ _)=>True
 |some (.Tu _ _ _)=>True
 |some (.xd _)=>True
 |some (.ext _)=>True
 |_=>False
section
variable {P:Program}{w:World}{H:Hp}{h h':Heap}{x e:Addr}{o':HO}
def nF.write (ok:nF P w H h) (mu:Tz (H x)) (he:e=x\/H e=some (.own x)) (k:∀b u,b≠e->h.get? b=some u->h'.get? b=some u) (Sz:∃u,h'.get? e=some u)
  (new:dZ P w (upd H x o') h' x o'):nF P w (upd H x o') h':=fun b u q=>by
 have TF:∀c y,H c=some (.own y)->c≠x:=fun c y r z=>by subst z;rw[r] at mu;exact mu
 have Yj:∀c xs,H c=some (.tup xs)->c≠x:=fun c xs r z=>by subst z;rw[r] at mu;exact mu
 by_cases hb:b=x
 ·subst hb;rw[aO] at q;cases q;exact new
 ·rw[aP hb] at q;by_cases Ol:b=e
  ·have q':H b=some (.own x):=by
    rcases he with z|z
    ·exact absurd (Ol.trans z) hb
    ·rw[Ol];exact z
   rw[q] at q';cases q';obtain⟨v,hv⟩:=Sz;exact⟨v,by rw[Ol];exact hv⟩
  ·refine(ok b u q).stay (fun c v hc r=>k c v ?_ r) (fun c r=>by rw[aP (TF c b r)];exact r) fun c xs r=>by rw[aP (Yj c xs r)];exact r
   rcases hc with rfl|hc
   ·exact Ol
   ·rintro rfl;rcases he with z|z
    ·exact TF c b hc z
    ·rw[hc] at z;cases z;exact hb rfl
end
structure Un (fs ex:BBE) (H H':Hp) (h h':Heap):Prop where
 keep:∀b o,h.get? b=some o->H b=none->b∉fs->b∉ex->h'.get? b=some o
 slot:∀b o,h.get? b=some o->H b=none->b∈fs->b∉ex->∃sl,h'.get? b=some {o with slots:=sl}
 free:∀b o,h.get? b=some o->H b=none->b∉ex->H' b=none
 there:∀b o,h.get? b=some o->b∉ex->∃o',h'.get? b=some o'
 tups:∀b xs,H b=some (.tup xs)->H' b=some (.tup xs)
 xS:∀b o u,H b=some (.jh o u)->H' b=some (.jh o u)
 zG:∀b ps,H b=some (.Ph ps)->∃more,H' b=some (.Ph (ps++more))
section
variable {fs ex:BBE}{H H1:Hp}{h h1 h':Heap}{a x e:Addr}{o:HO}
def Un.any (u:Un fs ex H H1 h h1){b:Addr}{ob:Obj}(q:h.get? b=some ob) (n:H b=none) (hx:b∉ex):∃sl,h1.get? b=some {ob with slots:=sl}:=by
 by_cases hb:b∈fs
 ·exact u.slot b ob q n hb hx
 ·exact⟨ob.slots,u.keep b ob q n hb hx⟩
def Un.kept (k:∀b u,h.get? b=some u->h'.get? b=some u):Un fs ex H H h h':=
 ⟨fun b ob q _ _ _=>k b ob q,fun b ob q _ _ _=>⟨ob.slots,k b ob q⟩,fun _ _ _ n _=>n,fun b ob q _=>⟨ob,k b ob q⟩,fun _ _ q=>q,fun _ _ _ q=>q,fun _ ps q=>⟨#[],by rw[q];simp⟩⟩
def Un.refl:Un fs ex H H h h:=Un.kept fun _ _ q=>q
def Un.laid (k:∀b u,h.get? b=some u->h'.get? b=some u) (hp:h.objs.size<=a) (hn:H a=none):Un fs ex H (upd H a o) h h' where
 keep:=fun b u q _ _ _=>k b u q
 slot:=fun b u q _ _ _=>⟨u.slots,k b u q⟩
 free:=fun b u q n _=>by rw[aP (aaF (aas (aap q) hp))];exact n
 there:=fun b u q _=>⟨u,k b u q⟩
 tups:=fun b xs q=>by rw[aP (bJ q hn)];exact q
 xS:=fun b u xs q=>by rw[aP (bJ q hn)];exact q
 zG:=fun b ps q=>⟨#[],by rw[aP (bJ q hn),q];simp⟩
def Un.write (mu:Tz (H x)) (he:e=x\/H e=some (.own x)) (k:∀b u,b≠e->h.get? b=some u->h'.get? b=some u) (Sz:∃u,h'.get? e=some u):Un fs ex H (upd H x o) h h':=by
 have hx:∀b,H b=none->b≠x:=fun b n z=>by subst z;rw[n] at mu;exact mu
 have hb:∀b,H b=none->b≠e:=fun b n z=>by
  subst z;rcases he with r|r
  ·exact hx b n r
  ·rw[n] at r;cases r
 have hm:∀b u,H b=some u->¬Tz (some u)->b≠x:=fun b u q nm z=>by subst z;rw[q] at mu;exact nm mu
 refine⟨fun b u q n _ _=>k b u (hb b n) q,fun b u q n _ _=>⟨u.slots,k b u (hb b n) q⟩,fun b u q n _=>by rw[aP (hx b n)];exact n,fun b u q _=>?_,
  fun b xs q=>by rw[aP (hm b _ q fun z=>z)];exact q,fun b u xs q=>by rw[aP (hm b _ q fun z=>z)];exact q,fun b ps q=>⟨#[],by rw[aP (hm b _ q fun z=>z),q];simp⟩⟩
 by_cases Ol:b=e
 ·subst Ol;exact Sz
 ·exact⟨u,k b u Ol q⟩
end
noncomputable def WM (h:Heap) (H:Hp):BBE:=(List.range h.objs.size).filter fun a=>(H a).isSome
def zH (h:Heap) (H:Hp):Heap:=PySem.W.hideAll h (WM h H)
def Gh (h:Heap) (H:Hp):(zH h H).objs.size=h.objs.size:=PySem.W.hideAll_size _ _
def Ih {h:Heap}{b:Addr}(e:h.get? b=some o) (n:H b=none):(zH h H).get? b=some o:=
 PySem.W.hideAll_get _ e fun hm=>by
  have q:(H b).isSome=true:=(acQ.mp hm).2;rw[n] at q;simp at q
def LN {h:Heap}{b:Addr}(e:(zH h H).get? b=some o):h.get? b=some o/\H b=none:=by
 have e':h.get? b=some o:=PySem.W.of_hideAll (WM h H) e;refine⟨e',?_⟩;cases q:H b with
 |none=>rfl
 |some x=>
  have hm:b∈WM h H:=acQ.mpr ⟨aa6.mpr (aap e'),by simp[q]⟩;have z:(zH h H).get? b=none:=PySem.W.hideAll_none (WM h H) hm;rw[z] at e;cases e
noncomputable def LO (g h:Heap) (L:Addr):List (Addr×Obj):=(List.range h.objs.size).filterMap fun a=>if a=L\/(g.get? a).isSome=true then none else(h.get? a).map fun o=>(a,o)
def rest (g h:Heap) (L d:Addr):List (Addr×Obj):=(LO g h L).filter fun p=>decide (p.1≠d)
structure Mod (K:AAD) (mg:AAF) (base:Heap):Prop where
 WN:K.In base
 glob:base.Ns mainGlobals mg
 blt:∃mb,base.Ns builtinsNs mb/\∀x:Str,x≠"__name__"->mb x=bootBuiltins x
 nolimit:base.NoLimit
structure Cx where
 prog:Program
 w:World
 K:PySem.W.Frag
 mg:Str->BBP
 base:Heap
 A:Around
 N:BBB
 s₀:Shared
 H₀:Hp
 env:Env
 outer:BBF
 stack:BBF
 ex:BBE
 fn:Str->Bool
 calm:Bool
 pn:List (Addr×Obj)
 xe:Value->Shared->Prop
noncomputable def frs (l:BBF):BBE:=l.filterMap (·.frame)
abbrev Cx.fs (X:Cx):BBE:=frs X.outer
def qj (sc:Scope) (x:Str):Prop:=sc.names.lookup x=some .local\/sc.names.lookup x=some .cell\/sc.names.lookup x=some .free
def Loc (sc:Scope) (x:Str):Prop:=sc.names.lookup x=some .local\/sc.names.lookup x=some .cell
def Look (env:Env) (h:Heap) (m:AAF) (x:Str) (u:Value):Prop:=
 (env.kindOf x=some .local/\m x=some u)\/((env.kindOf x=some .cell\/env.kindOf x=some .free)/\∃c,env.cells.lookup x=some c/\h.IsCell c (some u))
structure Cx.Ok (X:Cx):Prop where
 mod:Mod X.K X.mg X.base
 kind:X.env.scope.kind= .function
 glob:X.env.globals=mainGlobals
 blt:X.env.builtins=builtinsNs
 above:X.s₀.heap.objs.size<=X.env.locals
 inj:∀x y c,X.env.cells.lookup x=some c->X.env.cells.lookup y=some c->x=y
 has:∀x,(X.env.kindOf x=some .cell\/X.env.kindOf x=some .free)->∃c,X.env.cells.lookup x=some c
 Pj:∀x c,X.fn x=true->X.env.cells.lookup x=some c->X.s₀.heap.objs.size<=c
 hd:X.calm=true->X.A.handled=none
 frames:X.A.frames=some X.stack
 stk:X.stack=X.outer\/(X.stack=X.env::X.outer/\X.env.frame=some X.env.locals)
 TH:∀b∈X.ex,b≠X.env.locals/\∀x c,X.env.cells.lookup x=some c->c≠b
 bs:∀b o,X.base.get? b=some o->X.s₀.heap.get? b=some o/\X.H₀ b=none
 Gi:X.base.objs.size<=X.s₀.heap.objs.size
 BA:∀b o,X.base.get? b=some o->b∉X.ex
 C5:∀b∈X.ex,b∉X.fs
 qW:X.s₀.heap.FunFrames X.base X.outer
 LP:∀b∈X.fs,X.H₀ b=none
structure Inv (X:Cx) (pins:AAG) (σ:List (Option V)) (H:Hp) (s:Shared):Prop where
 ok:X.Ok
 os:s.os=X.s₀.os
 bare:AllBare s.gens
 base:Un X.fs X.ex X.H₀ H X.s₀.heap s.heap
 loc:∃m,s.heap.Ns X.env.locals m/\∀(i:Nat) (x:Str) (v:V),X.N[i]? =some x->σ[i]? =some (some v)->qj X.env.scope x->∃u,RelV v u/\Look X.env s.heap m x u
 cell:∀x c,X.env.cells.lookup x=some c->∃v,s.heap.IsCell c v
 free:H X.env.locals=none
 kM:∀x c,X.env.cells.lookup x=some c->H c=none
 pin:∀p∈X.pn++pins,s.heap.get? p.1=some p.2/\H p.1=none/\p.1≠X.env.locals/\p.1∉X.fs/\∀v,p.2.data≠.cell v
 hok:nF X.prog X.w H s.heap
 len:σ.length=X.N.length
section
variable {X:Cx}{pins:AAG}{σ:List (Option V)}{H H':Hp}{s:Shared}{h':Heap}
def Cx.Ok.j6 (ok:X.Ok){b:Addr}(e:X.base.get? b=some o):b∉X.fs:=fun hb=>by
 have:=(ok.qW.mem hb).1;rw[e] at this;cases this
def Inv.bs (I:Inv X pins σ H s):∀b o,X.base.get? b=some o->s.heap.get? b=some o/\H b=none:=fun b o e=>
 ⟨I.base.keep b o (I.ok.bs b o e).1 (I.ok.bs b o e).2 (I.ok.j6 e) (I.ok.BA b o e),I.base.free b o (I.ok.bs b o e).1 (I.ok.bs b o e).2 (I.ok.BA b o e)⟩
def Inv.bk (I:Inv X pins σ H s):∀b o,X.base.get? b=some o->s.heap.get? b=some o:=fun b o e=>(I.bs b o e).1
def Inv.mod (I:Inv X pins σ H s):Mod X.K X.mg X.base:=I.ok.mod
def Inv.zI (I:Inv X pins σ H s):X.K.In s.heap:=I.ok.mod.WN.keeps I.bk
def Inv.lt (I:Inv X pins σ H s):X.env.locals<s.heap.objs.size:=let⟨_,hn,_⟩:=I.loc;hn.lt
def Inv.sz (I:Inv X pins σ H s):X.s₀.heap.objs.size<=s.heap.objs.size:=aaC I.ok.above (abG I.lt)
def Inv.TJ (I:Inv X pins σ H s)(h:s.heap.objs.size<=a):a∉X.fs:=fun hb=>by
 obtain⟨_,o,ho,_⟩:=I.ok.qW.mem hb;exact absurd (aas (aap ho) (aaC I.sz h)) (abS _)
def Inv.Pk (I:Inv X pins σ H s):∀x c,X.env.cells.lookup x=some c->c≠X.env.locals:=fun x c e z=>by
 obtain⟨v,o,ho,hd⟩:=I.cell x c e;obtain⟨m,⟨o',es,ep,ho',hd',_⟩,_⟩:=I.loc;rw[z,ho'] at ho;cases ho;rw[hd'] at hd;cases hd
def Inv.qW (I:Inv X pins σ H s):s.heap.FunFrames X.base X.outer:=by
 have all:∀(l:BBF),(∀b∈frs l,b∈X.fs)->X.s₀.heap.FunFrames X.base l->s.heap.FunFrames X.base l:=by
  intro l
  induction l with
  |nil=>intro _ _;trivial
  |cons env r ih=>
   intro hs hl;obtain⟨hk,⟨L,o,hf,hn,ho,hd⟩,hr⟩:=hl;have hL:L∈X.fs:=hs L (by unfold frs;rw[adi,hf];exact aak);obtain⟨sl,e⟩:=I.base.slot L o ho (I.ok.LP L hL) hL fun z=>I.ok.C5 L z hL;exact⟨hk,⟨L,_,hf,hn,e,hd⟩,ih (fun b hb=>hs b (by unfold frs;rw[adi,hf];exact aag _ hb)) hr⟩
 exact all X.outer (fun _ hb=>hb) I.ok.qW
def Inv.stack (I:Inv X pins σ H s):s.heap.FunFrames X.base X.stack:=by
 rcases I.ok.stk with e|⟨e,hf⟩
 ·rw[e];exact I.qW
 ·rw[e];obtain⟨m,hn,_⟩:=I.loc;refine .cons (by rw[I.ok.kind];decide) hf hn ?_ I.qW;exact ada (aaC I.ok.Gi I.ok.above)
def Inv.vA (I:Inv X pins σ H s):∀b∈frs X.stack,b∈X.env.locals::X.fs:=fun b hb=>by
 rcases I.ok.stk with e|⟨e,hf⟩
 ·rw[e] at hb;exact aag _ hb
 ·rw[e] at hb;unfold frs at hb;rw[adi,hf] at hb;exact hb
def Inv.zJ (I:Inv X pins σ H s):∀b∈frs X.stack,H b=none:=fun b hb=>by
 rcases aao.mp (I.vA b hb) with e|hb
 ·rw[e];exact I.free
 ·obtain⟨_,o,ho,_⟩:=I.ok.qW.mem hb;exact I.base.free b o ho (I.ok.LP b hb) fun z=>I.ok.C5 b z hb
def Inv.step {d':Drawn}(I:Inv X pins σ H s)
  (hch:∀b∈ch,(b∈X.ex\/X.s₀.heap.objs.size<=b)/\b≠X.env.locals/\(∀x c,X.env.cells.lookup x=some c->c≠b)/\∀p∈X.pn++pins,p.1≠b)
  (keep:∀b o,b≠X.env.locals->b∉X.fs->b∉ch->s.heap.get? b=some o->H b=none->h'.get? b=some o)
  (slot:∀b o,b≠X.env.locals->b∈X.fs->b∉ch->s.heap.get? b=some o->H b=none->∃sl,h'.get? b=some {o with slots:=sl}) (free:∀b o,b∉ch->s.heap.get? b=some o->H b=none->H' b=none)
  (there:∀b o,b∉ch->s.heap.get? b=some o->∃o',h'.get? b=some o')
  (tups:∀b xs,H b=some (.tup xs)->H' b=some (.tup xs)) (xS:∀b o u,H b=some (.jh o u)->H' b=some (.jh o u)) (zG:∀b ps,H b=some (.Ph ps)->∃more,H' b=some (.Ph (ps++more)))
  (ns:∀m,s.heap.Ns X.env.locals m->h'.Ns X.env.locals m) (hok:nF X.prog X.w H' h') (hg:AllBare g'):
  Inv X pins σ H' {s with heap:=h',gens:=g',drawn:=d',toks:=t'}:=by
 have neL:∀b o,X.s₀.heap.get? b=some o->b≠X.env.locals:=fun b o e=>aaF (aas (aap e) I.ok.above);have WO:∀b o,X.s₀.heap.get? b=some o->b∉X.ex->b∉ch:=fun b o e hx hb=>by
  rcases(hch b hb).1 with z|z
  ·exact hx z
  ·exact absurd (aas (aap e) z) (abS _)
 have cellK:∀x c,X.env.cells.lookup x=some c->∀v,s.heap.IsCell c v->h'.IsCell c v:=fun x c e v ⟨o,ho,hd⟩=>by
  have TL:c∉ch:=fun z=>(hch c z).2.2.1 x c e rfl;by_cases hc:c∈X.fs
  ·obtain⟨sl,q⟩:=slot c o (I.Pk x c e) hc TL ho (I.kM x c e);exact⟨_,q,hd⟩
  ·exact⟨o,keep c o (I.Pk x c e) hc TL ho (I.kM x c e),hd⟩
 refine⟨I.ok,I.os,hg,⟨fun b o e n hb hx=>?_,fun b o e n hb hx=>?_,fun b o e n hx=>?_,fun b o e hx=>?_,fun b xs e=>tups b xs (I.base.tups b xs e),fun b o xs e=>xS b o xs (I.base.xS b o xs e),fun b ps e=>?_⟩,?_,fun x c e=>?_,?_,fun x c e=>?_,fun p hp=>?_,hok,I.len⟩
 ·exact keep b o (neL b o e) hb (WO b o e hx) (I.base.keep b o e n hb hx) (I.base.free b o e n hx)
 ·obtain⟨sl,e1⟩:=I.base.slot b o e n hb hx;obtain⟨sl',e2⟩:=slot b _ (neL b o e) hb (WO b o e hx) e1 (I.base.free b o e n hx);exact⟨sl',e2⟩
 ·obtain⟨o',e1⟩:=I.base.there b o e hx;exact free b o' (WO b o e hx) e1 (I.base.free b o e n hx)
 ·obtain⟨o',e1⟩:=I.base.there b o e hx;exact there b o' (WO b o e hx) e1
 ·obtain⟨m1,e1⟩:=I.base.zG b ps e;obtain⟨m2,e2⟩:=zG b _ e1;exact⟨m1++m2,by rw[e2,Array.append_assoc]⟩
 ·obtain⟨m,hn,hl⟩:=I.loc;refine⟨m,ns m hn,fun i x v e1 e2 e3=>?_⟩;obtain⟨u,r,l⟩:=hl i x v e1 e2 e3;refine⟨u,r,?_⟩;rcases l with l|⟨k,c,e,z⟩
  ·exact .inl l
  ·exact .inr ⟨k,c,e,cellK x c e _ z⟩
 ·obtain⟨v,z⟩:=I.cell x c e;exact⟨v,cellK x c e v z⟩
 ·obtain⟨m,⟨o,_,_,ho,_⟩,_⟩:=I.loc;exact free _ o (fun z=>(hch _ z).2.1 rfl) ho I.free
 ·obtain⟨v,o,ho,hd⟩:=I.cell x c e;exact free c o (fun z=>(hch c z).2.2.1 x c e rfl) ho (I.kM x c e)
 ·obtain⟨e,n,ne,nf,d⟩:=I.pin p hp;have TL:p.1∉ch:=fun z=>(hch p.1 z).2.2.2 p hp rfl;exact⟨keep p.1 p.2 ne nf TL e n,free p.1 p.2 TL e n,ne,nf,d⟩
def Inv.un (I:Inv X pins σ H s) (u:Un X.fs [] H H' s.heap h') (hok:nF X.prog X.w H' h'):Inv X pins σ H' {s with heap:=h',toks:=t'}:=by
 obtain⟨m,⟨o,es,ep,ho,r⟩,_⟩:=id I.loc;obtain⟨sl,hL⟩:=u.any ho I.free (by simp);exact I.step (g':=s.gens) (d':=s.drawn) (ch:=[]) (fun _ z=>nomatch z) (fun b o _ hb _ e n=>u.keep b o e n hb (by simp)) (fun b o _ hb _ e n=>u.slot b o e n hb (by simp)) (fun b o _ e n=>u.free b o e n (by simp)) (fun b o _ e=>u.there b o e (by simp)) u.tups u.xS u.zG (fun m' hm=>by
  obtain⟨o',es',Yk,ho',r'⟩:=hm;rw[ho] at ho';cases ho';exact⟨_,es',Yk,hL,r'⟩) hok I.bare
def Inv.call {d':Drawn}(I:Inv X pins σ H s) (u:Un (frs X.stack) ch H H' s.heap h') (hok:nF X.prog X.w H' h') (hg:AllBare g')
  (hch:∀b∈ch,(b∈X.ex\/X.s₀.heap.objs.size<=b)/\b≠X.env.locals/\(∀x c,X.env.cells.lookup x=some c->c≠b)/\∀p∈X.pn++pins,p.1≠b):
  Inv X pins σ H' {s with heap:=h',gens:=g',drawn:=d',toks:=t'}:=by
 obtain⟨m,⟨o,es,ep,ho,r⟩,_⟩:=id I.loc;obtain⟨sl,hL⟩:=u.any ho I.free fun z=>(hch _ z).2.1 rfl;exact I.step (ch:=ch) hch (fun b o hL hb hc e n=>u.keep b o e n (fun z=>(aao.mp (I.vA b z)).elim hL hb) hc) (fun b o _ _ hc e n=>u.any e n hc) (fun b o hc e n=>u.free b o e n hc) (fun b o hc e=>u.there b o e hc) u.tups u.xS u.zG (fun m' hm=>by
  obtain⟨o',es',Yk,ho',r'⟩:=hm;rw[ho] at ho';cases ho';exact⟨_,es',Yk,hL,r'⟩) hok hg
def Inv.turned {it:Addr}(I:Inv X pins σ H s) (k:∀b o,b≠it->s.heap.get? b=some o->h'.get? b=some o) (hn:H it=none) (hL:it≠X.env.locals)
  (h1:it∈X.ex\/X.s₀.heap.objs.size<=it) (h2:∀x c,X.env.cells.lookup x=some c->c≠it) (h3:∀p∈X.pn++pins,p.1≠it):Inv X pins σ H {s with heap:=h',toks:=t'}:=by
 have nit:∀b u,H b=some u->b≠it:=fun b u e z=>by rw[z,hn] at e;cases e
 refine I.step (g':=s.gens) (d':=s.drawn) (ch:=[it]) (fun b hb=>?_) (fun b o _ _ hc e _=>k b o (fun z=>hc (by simp[z])) e) (fun b o _ _ hc e _=>⟨o.slots,k b o (fun z=>hc (by simp[z])) e⟩) (fun _ _ _ _ n=>n)
  (fun b o hc e=>⟨o,k b o (fun z=>hc (by simp[z])) e⟩) (fun _ _ e=>e) (fun _ _ _ e=>e) (fun b ps e=>⟨#[],by rw[e];simp⟩) (fun m hm=>?_) (fun b u e=>?_) I.bare
 ·have e:b=it:=by simpa using hb
  subst e;exact⟨h1,hL,h2,h3⟩
 ·obtain⟨o,es,ep,ho,r⟩:=hm;exact⟨o,es,ep,k _ o (abJ hL) ho,r⟩
 ·refine(I.hok b u e).stay (fun c v hc q=>k c v ?_ q) (fun _ q=>q) fun _ _ q=>q;rcases hc with z|z
  ·rw[z];exact nit b u e
  ·exact nit c _ z
def Inv.tok (I:Inv X pins σ H s) (t:Nat):Inv X pins σ H {s with toks:=t}:=I.un (h':=s.heap) (t':=t) Un.refl I.hok
def Inv.kept {t':Nat}(I:Inv X pins σ H s) (k:∀b u,s.heap.get? b=some u->h'.get? b=some u):Inv X pins σ H {s with heap:=h',toks:=t'}:=I.un (Un.kept k) (I.hok.kept k)
def Inv.laid {a:Addr}{o:HO}{t':Nat}(I:Inv X pins σ H s) (k:∀b u,s.heap.get? b=some u->h'.get? b=some u) (hp:s.heap.objs.size<=a) (new:dZ X.prog X.w (upd H a o) h' a o):
  Inv X pins σ (upd H a o) {s with heap:=h',toks:=t'}:=I.un (Un.laid k hp (I.hok.fresh hp)) (I.hok.laid k hp new)
def Inv.write {x e:Addr}{o:HO}{t':Nat}(I:Inv X pins σ H s) (mu:Tz (H x)) (he:e=x\/H e=some (.own x)) (k:∀b u,b≠e->s.heap.get? b=some u->h'.get? b=some u) (Sz:∃u,h'.get? e=some u)
  (new:dZ X.prog X.w (upd H x o) h' x o):Inv X pins σ (upd H x o) {s with heap:=h',toks:=t'}:=I.un (Un.write mu he k Sz) (I.hok.write mu he k Sz new)
def Inv.En {Om:AAG}(I:Inv X pins σ H s) (h:∀p∈Om,s.heap.get? p.1=some p.2/\H p.1=none/\p.1≠X.env.locals/\p.1∉X.fs/\∀v,p.2.data≠.cell v):Inv X Om σ H s:=
 ⟨I.ok,I.os,I.bare,I.base,I.loc,I.cell,I.free,I.kM,fun p hp=>(aav.mp hp).elim (fun z=>I.pin p (acy _ z)) (h p),I.hok,I.len⟩
def BB (hN:N.Nodup){j:Nat}(a:N[i]? =some x) (b:N[j]? =some x):i=j:=by
 obtain⟨h1,e1⟩:=aau.mp a;obtain⟨h2,e2⟩:=aau.mp b;exact(List.getElem_inj hN).mp (e1.trans e2.symm)
def yr {v:V}{Q:Unit->Shared->Prop}(I:Inv X pins σ H s) (hN:X.N.Nodup) (hi:X.N[i]? =some x) (hx:Loc X.env.scope x) (r:RelV v u)
  (h:∀s',Inv X pins (σ.set i (some v)) H s'->(∃a,Heap.SameBut a s.heap s'.heap/\(a=X.env.locals\/X.env.cells.lookup x=some a))->Q () s') (hf:X.fn x=true\/X.env.scope.names.lookup x=some .local:=by first|exact .inl rfl|exact .inr rfl|assumption):wpAny M A (storeName X.env x u) Q E s:=by
 obtain⟨m,hn,hl⟩:=id I.loc;have hcls:(X.env.scope.kind == .class || (X.env.scope.kind == .module && X.env.locals != X.env.globals))=false:=by rw[I.ok.kind];rfl
 have TM:i<σ.length:=by rw[I.len];exact(aau.mp hi).1
 have Pk:=I.Pk;have tracked:∀{a:Addr}{h':Heap},(∃o,s.heap.get? a=some o/\H a=none)->Heap.SameBut a s.heap h'->nF X.prog X.w H h':=fun {a h'} ha hs b ob e=>by
  obtain⟨_,_,hfree⟩:=ha;refine(I.hok b ob e).stay (fun c w' hc q=>(hs.2 c ?_).trans q) (fun _ q=>q) fun _ _ q=>q;rintro rfl;rcases hc with rfl|hc
  ·rw[hfree] at e;cases e
  ·rw[hfree] at hc;cases hc
 rcases hx with hk|hk
 ·refine wpAny_storeName_local hk hn (fun h' hn' hs=>?_) hcls;obtain⟨oL,_,_,Ii,_⟩:=id hn;refine h _ ⟨I.ok,I.os,I.bare,⟨fun b o e n hb hx=>?_,fun b o e n hb hx=>?_,I.base.free,fun b o e hx=>?_,I.base.tups,I.base.xS,I.base.zG⟩,⟨_,hn',fun j y v' e1 e2 e3=>?_⟩,fun y c e=>?_,I.free,I.kM,fun p hp=>?_,tracked ⟨oL,Ii,I.free⟩ hs,by simpa using I.len⟩ ⟨_,hs,.inl rfl⟩
  ·exact(hs.2 b (aaF (aas (aap e) I.ok.above))).trans (I.base.keep b o e n hb hx)
  ·obtain⟨sl,e1⟩:=I.base.slot b o e n hb hx;exact⟨sl,(hs.2 b (aaF (aas (aap e) I.ok.above))).trans e1⟩
  ·obtain⟨o',e1⟩:=I.base.there b o e hx;exact⟨o',(hs.2 b (aaF (aas (aap e) I.ok.above))).trans e1⟩
  ·by_cases hj:j=i
   ·subst hj;rw[hi] at e1;cases e1;rw[abl TM] at e2;cases e2;exact⟨u,r,.inl ⟨hk,by simp⟩⟩
   ·rw[aaJ (abJ hj)] at e2;obtain⟨u',r',q⟩:=hl j y v' e1 e2 e3;refine⟨u',r',?_⟩;rcases q with⟨k,e⟩|⟨k,c,e,z⟩
    ·refine .inl ⟨k,?_⟩;have:y≠x:=fun e=>hj (BB hN e1 (e▸hi));simp[this,e]
    ·exact .inr ⟨k,c,e,z.sameBut hs (Pk y c e)⟩
  ·obtain⟨w',z⟩:=I.cell y c e;exact⟨w',z.sameBut hs (Pk y c e)⟩
  ·obtain⟨e,n,ne,nf,d⟩:=I.pin p hp;exact⟨(hs.2 p.1 ne).trans e,n,ne,nf,d⟩
 ·have hfn:X.fn x=true:=by
   rcases hf with z|z
   ·exact z
   ·rw[z] at hk;cases hk
  obtain⟨c,hc⟩:=I.ok.has x (.inl hk);obtain⟨w',z⟩:=I.cell x c hc;refine wpAny_storeName_cell I.ok.kind hk hc z (fun h' hc' hs=>?_);obtain⟨oc,hoc,Yl⟩:=id z;refine h {s with heap:=h'} ⟨I.ok,I.os,I.bare,⟨fun b o e n hb hx=>?_,fun b o e n hb hx=>?_,I.base.free,fun b o e hx=>?_,I.base.tups,I.base.xS,I.base.zG⟩,⟨m,hn.sameBut hs (abJ (Pk x c hc)),fun j y v' e1 e2 e3=>?_⟩,fun y c' e=>?_,I.free,I.kM,fun p hp=>?_,tracked ⟨oc,hoc,I.kM x c hc⟩ hs,by simpa using I.len⟩ ⟨c,hs,.inr hc⟩
  ·exact(hs.2 b (aaF (aas (aap e) (I.ok.Pj x c hfn hc)))).trans (I.base.keep b o e n hb hx)
  ·obtain⟨sl,e1⟩:=I.base.slot b o e n hb hx;exact⟨sl,(hs.2 b (aaF (aas (aap e) (I.ok.Pj x c hfn hc)))).trans e1⟩
  ·obtain⟨o',e1⟩:=I.base.there b o e hx;exact⟨o',(hs.2 b (aaF (aas (aap e) (I.ok.Pj x c hfn hc)))).trans e1⟩
  ·by_cases hj:j=i
   ·subst hj;rw[hi] at e1;cases e1;rw[abl TM] at e2;cases e2;exact⟨u,r,.inr ⟨.inl hk,c,hc,hc'⟩⟩
   ·rw[aaJ (abJ hj)] at e2;obtain⟨u',r',q⟩:=hl j y v' e1 e2 e3;refine⟨u',r',?_⟩;rcases q with q|⟨k,c',e,z'⟩
    ·exact .inl q
    ·refine .inr ⟨k,c',e,z'.sameBut hs ?_⟩;rintro rfl;exact hj (BB hN e1 (I.ok.inj _ _ _ e hc▸hi))
  ·by_cases hcc:c'=c
   ·subst hcc;exact⟨_,hc'⟩
   ·obtain⟨w2,z2⟩:=I.cell y c' e;exact⟨w2,z2.sameBut hs hcc⟩
  ·obtain⟨e,n,ne,nf,d⟩:=I.pin p hp;refine⟨(hs.2 p.1 ?_).trans e,n,ne,nf,d⟩;intro q;rw[q,hoc] at e;have q':oc=p.2:=aaV e;exact d w' (by rw[<-q'];exact Yl)
def BC {v:V}{Q:Unit->Shared->Prop}(I:Inv X pins σ H s) (hN:X.N.Nodup) (hi:X.N[i]? =some x) (hx:Loc X.env.scope x) (r:RelV v u)
  (h:∀s',Inv X pins (σ.set i (some v)) H s'->Q () s') (hf:X.fn x=true\/X.env.scope.names.lookup x=some .local:=by first|exact .inl rfl|exact .inr rfl|assumption):wpAny M A (storeName X.env x u) Q E s:=
 yr I hN hi hx r (fun s' I' _=>h s' I') hf
def Inv.TN {s':Shared}(I:Inv X pins σ H s) (ho:s'.os=s.os) (u:Un (frs X.stack) ch H H' s.heap s'.heap) (hok:nF X.prog X.w H' s'.heap) (hg:AllBare s'.gens)
  (hch:∀b∈ch,(b∈X.ex\/X.s₀.heap.objs.size<=b)/\b≠X.env.locals/\(∀x c,X.env.cells.lookup x=some c->c≠b)/\∀p∈X.pn++pins,p.1≠b):Inv X pins σ H' s':=by
 obtain⟨h',g',d',t',o'⟩:=s';have e:o'=s.os:=ho;subst e;exact I.call (g':=g') (t':=t') (d':=d') u hok hg hch
end
abbrev XK:=Value->BBN->Hp->Prop
abbrev St:=List (Option V)
abbrev VK:=V->Hp->Prop
abbrev TE:=St->Hp->VK->Prop
abbrev TT:=St->Hp->(Bool->Hp->Prop)->Prop
abbrev TA:=St->Hp->(List V->Hp->Prop)->Prop
structure Ends where
 nx:St->Hp->Prop
 rt:VK
 bk:St->Hp->Prop:=fun _ _=>False
 ct:St->Hp->Prop:=fun _ _=>False
abbrev TS:=Ends->St->Hp->Prop
inductive EP (X:Cx) (pins:AAG) (σ:St) (Q:VK) (u:Value) (s':Shared):Prop
 |mk (v:V) (H':Hp) (I:Inv X pins σ H' s') (r:RelV v u) (q:Q v H')
def TP (X:Cx) (pins:AAG) (σ:St) (Q:Bool->Hp->Prop) (b:Bool) (s':Shared):Prop:=∃H',Inv X pins σ H' s'/\Q b H'
inductive AP (X:Cx) (pins:AAG) (σ:St) (Q:List V->Hp->Prop) (us:AAL) (s':Shared):Prop
 |mk (vs:List V) (H':Hp) (I:Inv X pins σ H' s') (r:Vals vs us) (q:Q vs H')
def SP (X:Cx) (pins:AAG) (D:Ends) (f:Flow) (s':Shared):Prop:=
 match f with
 |.next=>∃σ' H',Inv X pins σ' H' s'/\D.nx σ' H'
 |.brk=>∃σ' H',Inv X pins σ' H' s'/\D.bk σ' H'
 |.cont=>∃σ' H',Inv X pins σ' H' s'/\D.ct σ' H'
 |.ret u=>∃v σ' H',Inv X pins σ' H' s'/\RelV v u/\D.rt v H'
def PE (X:Cx) (e:Expr) (t:TE):Prop:=
 ∀(pins:AAG) (s:Shared) (σ:St) (H:Hp) (Q:VK),Inv X pins σ H s->t σ H Q->wpAny (model X.prog X.w) X.A (eval e X.env) (EP X pins σ Q) X.xe s
def PT (X:Cx) (e:Expr) (t:TT):Prop:=
 ∀(pins:AAG) (s:Shared) (σ:St) (H:Hp) (Q:Bool->Hp->Prop),Inv X pins σ H s->t σ H Q->wpAny (model X.prog X.w) X.A (isTrue e X.env (eval e X.env)) (TP X pins σ Q) X.xe s
def PW (X:Cx) (e:Expr) (t:TT):Prop:=
 ∀(whole:Sem Value) (pins:AAG) (s:Shared) (σ:St) (H:Hp) (Q:Bool->Hp->Prop),Inv X pins σ H s->t σ H Q->wpAny (model X.prog X.w) X.A (isTrue e X.env whole) (TP X pins σ Q) X.xe s
def PW.pt {e:Expr}{t:TT}(h:PW X e t):PT X e t:=h _
def PA (X:Cx) (es:BBC) (t:TA):Prop:=
 ∀(pos:Pos) (pins:AAG) (s:Shared) (σ:St) (H:Hp) (Q:List V->Hp->Prop),Inv X pins σ H s->t σ H Q->wpAny (model X.prog X.w) X.A (spliced (backTo pos (starEach es X.env))) (AP X pins σ Q) X.xe s
def PS (X:Cx) (st:Stmt) (t:TS):Prop:=
 ∀(pins:AAG) (s:Shared) (σ:St) (H:Hp) (D:Ends),Inv X pins σ H s->t D σ H->wpAny (model X.prog X.w) X.A (exec st X.env) (SP X pins D) X.xe s
def xO (X:Cx) (st:BBH) (t:TS):Prop:=
 ∀(pins:AAG) (s:Shared) (σ:St) (H:Hp) (D:Ends),Inv X pins σ H s->t D σ H->wpAny (model X.prog X.w) X.A (execs st X.env) (SP X pins D) X.xe s
def dW {α:Type}{t:Sem α}{Q Q':α->Shared->Prop}{s:Shared}(h:wpAny M A t Q E s) (hQ:∀a s,Q a s->Q' a s):wpAny M A t Q' E s:=abn h hQ fun _ _ x=>x
section
variable {X:Cx}
def zK (i:Nat):TE:=fun σ H Q=>∃v,σ[i]? =some (some v)/\Q v H
def tC (v:V):TE:=fun _ H Q=>Q v H
def bZ (hN:X.N[i]? =some x) (hv:qj X.env.scope x) (hd:BBT x:=by decide) (hcd:BBU x:=by decide):PE X (.Name x pos) (zK i):=by
 intro pins s σ H Q I h;obtain⟨v,e,h⟩:=h;obtain⟨m,hn,hl⟩:=I.loc;obtain⟨u,r,l⟩:=hl i x v hN e hv;have fin:EP X pins σ Q u s:=⟨v,H,I,r,h⟩
 rcases l with⟨hk,hm⟩|⟨hk,c,hc,hcell⟩
 ·exact wpAny_Name (wpAny_loadName_local I.ok.kind hk hn hm fin) hd
 ·rcases hk with hk|hk
  ·exact wpAny_Name (wpAny_loadName_cell I.ok.kind hk hc hcell fin) hd
  ·exact wpAny_Name (wpAny_loadName_free I.ok.kind hk hc hcell fin hcd) hd
def Ij {i j pos}:PE X (.Constant (.int i) j pos) (tC (.int i)):=fun _ _ _ H _ I h=>wpAny_Constant_int ⟨.int i,H,I.tok _,⟨_,rfl⟩,h⟩
def TQ {b j pos}:PE X (.Constant (.bool b) j pos) (tC (.bl b)):=fun _ _ _ H _ I h=>Constant_bool ⟨.bl b,H,I,rfl,h⟩
def Ik {x j pos}:PE X (.Constant (.str x) j pos) (tC (.str x)):=fun _ _ _ H _ I h=>Calls.Constant_str ⟨.str x,H,I.tok _,⟨_,rfl⟩,h⟩
def Gl (X:Cx) (x:Str):Prop:=X.env.kindOf x=some .globalImplicit
def zL {s:Shared}(I:Inv X pins σ H s) (hg:Gl X x) (hm:X.mg x=some u) (h:Q u s)
  (hd:BBT x:=by decide):wpAny (model X.prog X.w) X.A (eval (.Name x pos) X.env) Q E s:=
 Calls.Name_function_global I.ok.kind hg (Calls.loadGlobal_global (by rw[I.ok.glob];exact I.mod.glob.keeps I.bk) hm h) hd
def mz {s:Shared}(I:Inv X pins σ H s) (hg:Gl X x) (hm:X.mg x=none) (hv:bootBuiltins x=some u) (h:Q u s)
  (hn:x≠"__name__":=by decide) (hd:BBT x:=by decide):wpAny (model X.prog X.w) X.A (eval (.Name x pos) X.env) Q E s:=by
 obtain⟨mb,h1,h2⟩:=I.mod.blt;exact Calls.Name_function_global I.ok.kind hg (Calls.loadGlobal_builtin (by rw[I.ok.glob];exact I.mod.glob.keeps I.bk) hm (by rw[I.ok.blt];exact h1.keeps I.bk) ((h2 x hn).trans hv) h) hd
def LQ {v:V}(hg:Gl X x) (hm:X.mg x=some u) (r:RelV v u) (hd:BBT x:=by decide):PE X (.Name x pos) (tC v):=
 fun _ _ _ H _ I h=>zL I hg hm ⟨v,H,I,r,h⟩ hd
def LR {v:V}(hg:Gl X x) (hm:X.mg x=none) (hv:bootBuiltins x=some u) (r:RelV v u) (hn:x≠"__name__":=by decide) (hd:BBT x:=by decide):PE X (.Name x pos) (tC v):=
 fun _ _ _ H _ I h=>mz I hg hm hv ⟨v,H,I,r,h⟩ hn hd
variable {a b:Expr}{ta tb:TE}{pos:Pos}
def PC (X:Cx) (op:CmpOp) (a b:Expr) (t:TE):Prop:=
 ∀(pins:AAG) (s:Shared) (σ:St) (H:Hp) (Q:VK),Inv X pins σ H s->t σ H Q->
  wpAny (model X.prog X.w) X.A (eval a X.env) (fun v s₁=>wpAny (model X.prog X.w) X.A (eval b X.env) (fun u s₂=>wpAny (model X.prog X.w) X.A (compareOp op v u) (EP X pins σ Q) X.xe s₂) X.xe s₁) X.xe s
def Il (b:Expr)(h:op≠.In) (h2:op≠.NotIn):behindInMarks op b=false:=by
 have e1:(op == CmpOp.In)=false:=by cases op<;>first|rfl|exact absurd rfl h
 have e2:(op == CmpOp.NotIn)=false:=by cases op<;>first|rfl|exact absurd rfl h2
 cases b<;>simp[behindInMarks,e1,e2]
def tB (t:TE):TT:=fun σ H Q=>t σ H fun x H1=>∃c,x= .bl c/\Q c H1
def Pn {t:TE}(h:PC X op a b t) (h1:behindInMarks op b=false:=by first|exact Il _ (by decide) (by decide)|rfl):PT X (.Compare a [op] [b] pos) (tB t):=by
 intro pins s σ H Q I hw;refine wpAny_isTrue_Compare1 (dW (h pins s σ H _ I hw) fun v s1 h1=>dW h1 fun u s2 h2=>dW h2 fun c s3 hh=>?_) h1;obtain⟨x,H1,I1,r1,q1⟩:=hh;obtain⟨d,rfl,q⟩:=q1;cases r1;exact acd ⟨H1,I1,q⟩
def Po {e:Expr}{t:TE}(h:PE X e t) (he:∀whole,isTrue e X.env whole=(do let v <-whole;standAt e.pos;holding [v] (truthy v)):=by intro _;rfl):PT X e (tB t):=by
 intro pins s σ H Q I hw;refine isTrue_plain (dW (h pins s σ H _ I hw) fun v s1 hh=>?_) (he _);obtain⟨x,H1,I1,r1,q1⟩:=hh;obtain⟨d,rfl,q⟩:=q1;cases r1;exact acd ⟨H1,I1,q⟩
variable {tA WQ:TT}{rest:BBC}
def Ym (t u:TT):TT:=fun σ H Q=>t σ H fun c H1=>if c=true then u σ H1 Q else Q false H1
def tOr (t u:TT):TT:=fun σ H Q=>t σ H fun c H1=>if c=true then Q true H1 else u σ H1 Q
def Yn (t:TT):TT:=fun σ H Q=>t σ H fun c H1=>Q (!c) H1
def pw_and1 (ha:PT X a tA):PW X (.BoolOp .And [a] pos) tA:=by
 intro wh pins s σ H Q I h;refine isTrue_and (dW (ha pins s σ H Q I h) fun c s1 e=>?_);cases c with
 |true=>exact isTrue_and_nil e
 |false=>exact e
def pw_or1 (ha:PT X a tA):PW X (.BoolOp .Or [a] pos) tA:=by
 intro wh pins s σ H Q I h;refine isTrue_or (dW (ha pins s σ H Q I h) fun c s1 e=>?_);cases c with
 |false=>exact isTrue_or_nil e
 |true=>exact e
def pw_and (ha:PT X a tA) (hb:PW X (.BoolOp .And (b::rest) pos) WQ):PW X (.BoolOp .And (a::b::rest) pos) (Ym tA WQ):=by
 intro wh pins s σ H Q I h;refine isTrue_and (dW (ha pins s σ H _ I h) fun c s1 hh=>?_);obtain⟨H1,I1,q1⟩:=hh;cases c with
 |true=>exact hb wh pins s1 σ H1 Q I1 q1
 |false=>exact⟨H1,I1,q1⟩
def pw_or (ha:PT X a tA) (hb:PW X (.BoolOp .Or (b::rest) pos) WQ):PW X (.BoolOp .Or (a::b::rest) pos) (tOr tA WQ):=by
 intro wh pins s σ H Q I h;refine isTrue_or (dW (ha pins s σ H _ I h) fun c s1 hh=>?_);obtain⟨H1,I1,q1⟩:=hh;cases c with
 |true=>exact⟨H1,I1,q1⟩
 |false=>exact hb wh pins s1 σ H1 Q I1 q1
def Pp (ha:PT X a tA):PT X (.UnaryOp .Not a pos) (Yn tA):=by
 intro pins s σ H Q I h;exact isTrue_not (ha pins s σ H (fun c H1=>Q (!c) H1) I h)
def TR (ta tb:TE):TE:=fun σ H Q=>ta σ H fun x H1=>∃c,x= .bl c/\if c=true then tb σ H1 Q else Q (.bl false) H1
def TU (ta:TE):TE:=fun σ H Q=>ta σ H fun x H1=>∃c,x= .bl c/\Q (.bl (!c)) H1
def Pq {op}{t:TE}(h:PE X a t):PE X (.BoolOp op [a] pos) t:=fun pins s σ H Q I hw=>BoolOp_one (h pins s σ H Q I hw)
def Pr (ha:PE X a ta) (hb:PE X (.BoolOp .And (b::rest) pos) tb):PE X (.BoolOp .And (a::b::rest) pos) (TR ta tb):=by
 intro pins s σ H Q I h;refine BoolOp_and (dW (ha pins s σ H _ I h) fun v s1 hh=>?_);obtain⟨x,H1,I1,r1,q1⟩:=hh;obtain⟨c,rfl,q1⟩:=q1;cases r1;refine acd ?_;cases c with
 |true=>exact hb pins s1 σ H1 Q I1 q1
 |false=>exact⟨.bl false,H1,I1,rfl,q1⟩
def Pu (ha:PE X a ta):PE X (.UnaryOp .Not a pos) (TU ta):=by
 intro pins s σ H Q I h;refine UnaryOp_ (dW (ha pins s σ H _ I h) fun v s1 hh=>?_);obtain⟨x,H1,I1,r1,q1⟩:=hh;obtain⟨c,rfl,q1⟩:=q1;cases r1;exact not_of (acd ⟨.bl (!c),H1,I1,rfl,q1⟩)
def tIf (t:TT) (ta tb:TE):TE:=fun σ H Q=>t σ H fun c H1=>if c=true then ta σ H1 Q else tb σ H1 Q
def Im (hc:PT X c tA) (ha:PE X a ta) (hb:PE X b tb):PE X (.IfExp c a b pos) (tIf tA ta tb):=by
 intro pins s σ H Q I h;refine wpAny_IfExp (dW (hc pins s σ H _ I h) fun d s1 hh=>?_);obtain⟨H1,I1,q1⟩:=hh;cases d with
 |true=>exact ha pins s1 σ H1 Q I1 q1
 |false=>exact hb pins s1 σ H1 Q I1 q1
end
def lE (K:AAD) (H:Hp) (a:Addr) (xs:List V):Prop:=
 Rd H a (.lst xs)\/
  ∃(o:Obj) (its:AAK) (n:Nat),K.lookup a=some o/\o.cls= .type "list"/\o.dict=none/\o.data= .seq its n/\its.size<=sizeLine/\Vals xs its.toList
def yt (K:AAD) (H:Hp) (a:Addr) (xs:List V):Prop:=
 Rd H a (.tup xs)\/
  ∃(o:Obj) (its:AAK) (n:Nat),K.lookup a=some o/\o.cls= .type "tuple"/\o.data= .seq its n/\its.size<=sizeLine/\Vals xs its.toList
noncomputable def Yo:Value->Option V
 |.none=>some .bQ
 |.bool b=>some (.bl b)
 |.int i _=>some (.int i)
 |.str x _=>some (.str x)
 |.bytes b _=>some (.WL b)
 |.float b _=>some (.flt b)
 |.ref a=>some (.ref a)
 |.type n=>some (.ty n)
 |_=>none
def RelV.abs {x:V}(r:RelV x u):Yo u=some x:=by
 cases x with
 |bQ=>cases r;rfl
 |bl _=>cases r;rfl
 |int _=>obtain⟨t,rfl⟩:=r;rfl
 |str _=>obtain⟨t,rfl⟩:=r;rfl
 |WL _=>obtain⟨t,rfl⟩:=r;rfl
 |flt _=>obtain⟨t,rfl⟩:=r;rfl
 |ref _=>cases r;rfl
 |ty _=>cases r;rfl
def RelV.inj {x y:V}{u:Value}(r:RelV x u) (q:RelV y u):x=y:=aaV (r.abs.symm.trans q.abs)
theorem Vals.inj:∀{xs ys:List V}{us:AAL},Vals xs us->Vals ys us->xs=ys
 |_,_,_,.nil,.nil=>rfl
 |_,_,_,.cons r t,.cons r' t'=>by rw[r.inj r',Vals.inj t t']
section
variable {X:Cx}{pins:AAG}{σ:St}{H:Hp}{s:Shared}{a:Addr}{xs ys:List V}
def lE.of (h:H a=some (.lst xs)):lE K H a xs:=.inl (.inl h)
def Inv.list (I:Inv X pins σ H s) (h:lE X.K H a xs):∃its:BBG,Vals xs its/\PlainL s.heap a its.toArray/\xs.length<=sizeLine:=by
 rcases h with h|⟨o,its,n,hk,hc,hd,hs,hz,r⟩
 ·obtain⟨z,its,n,r,e⟩:=h.ok I.hok;exact⟨its,r,⟨_,n,e,rfl,rfl,rfl⟩,z⟩
 ·refine⟨its.toList,r,⟨o,n,I.zI a o hk,hc,hd,by simpa using hs⟩,?_⟩;have e:=r.length;simp only[aaL] at e;lia
def Inv.tuple (I:Inv X pins σ H s) (h:yt X.K H a xs):∃its:BBG,Vals xs its/\IsTup s.heap a its.toArray/\xs.length<=sizeLine:=by
 rcases h with h|⟨o,its,n,hk,hc,hs,hz,r⟩
 ·obtain⟨z,its,r,p⟩:=h.ok I.hok;exact⟨its,r,p,z⟩
 ·refine⟨its.toList,r,⟨o,I.zI a o hk,hc,n,by simpa using hs⟩,?_⟩;have e:=r.length;simp only[aaL] at e;lia
def Inv.Io (I:Inv X pins σ H s) (h:lE X.K H a xs) (h':lE X.K H a ys):xs=ys:=by
 obtain⟨its,r,⟨o,n,e,_,_,d⟩,_⟩:=I.list h;obtain⟨its',r',⟨o',n',e',_,_,d'⟩,_⟩:=I.list h';rw[e] at e';cases e';rw[d] at d';injection d' with d1 _
 have:its=its':=by simpa using congrArg Array.toList d1
 subst this;exact r.inj r'
def Inv.Gj (I:Inv X pins σ H s) (h:yt X.K H a xs) (h':yt X.K H a ys):xs=ys:=by
 obtain⟨its,r,⟨o,e,_,n,d⟩,_⟩:=I.tuple h;obtain⟨its',r',⟨o',e',_,n',d'⟩,_⟩:=I.tuple h';rw[e] at e';cases e';rw[d] at d';injection d' with d1 _
 have:its=its':=by simpa using congrArg Array.toList d1
 subst this;exact r.inj r'
end
noncomputable abbrev Cx.xT (X:Cx) (E:AAE):Cx:={X with xe:=E}
noncomputable abbrev Cx.LS (X:Cx):Cx:=X.xT fun _ _=>False
def Cx.Ok.xT {X:Cx}(ok:X.Ok) (E:AAE):(X.xT E).Ok:=
 ⟨ok.mod,ok.kind,ok.glob,ok.blt,ok.above,ok.inj,ok.has,ok.Pj,ok.hd,ok.frames,ok.stk,ok.TH,ok.bs,ok.Gi,ok.BA,ok.C5,ok.qW,ok.LP⟩
def Cx.Ok.nH (ok:(X.xT E).Ok):X.Ok:=
 ⟨ok.mod,ok.kind,ok.glob,ok.blt,ok.above,ok.inj,ok.has,ok.Pj,ok.hd,ok.frames,ok.stk,ok.TH,ok.bs,ok.Gi,ok.BA,ok.C5,ok.qW,ok.LP⟩
section
variable {X:Cx}{pins:AAG}{σ:St}{H:Hp}{s:Shared}{E:AAE}
def Inv.xT (I:Inv X pins σ H s) (E:AAE):Inv (X.xT E) pins σ H s:=⟨I.ok.xT E,I.os,I.bare,I.base,I.loc,I.cell,I.free,I.kM,I.pin,I.hok,I.len⟩
def Inv.nH (I:Inv (X.xT E) pins σ H s):Inv X pins σ H s:=⟨I.ok.nH,I.os,I.bare,I.base,I.loc,I.cell,I.free,I.kM,I.pin,I.hok,I.len⟩
def SP.nH {D:Ends}{f:Flow}{s':Shared}(h:SP (X.xT E) pins D f s'):SP X pins D f s':=by
 cases f with
 |next=>obtain⟨σ',H',I,q⟩:=h;exact⟨σ',H',I.nH,q⟩
 |brk=>obtain⟨σ',H',I,q⟩:=h;exact⟨σ',H',I.nH,q⟩
 |cont=>obtain⟨σ',H',I,q⟩:=h;exact⟨σ',H',I.nH,q⟩
 |ret u=>obtain⟨v,σ',H',I,r,q⟩:=h;exact⟨v,σ',H',I.nH,r,q⟩
def xO.LS {st:BBH}{t:TS}(h:xO X.LS st t):xO X st t:=fun pins s σ H D I hw=>
 abn (h pins s σ H D (I.xT _) hw) (fun _ _ q=>q.nH) fun _ _ z=>False.elim z
end
section
variable {X:Cx}{st:Stmt}{rest:BBH}{t u:TS}{e:Expr}{te:TE}{pos:Pos}
def TV:TS:=fun D σ H=>D.nx σ H
def Yp (t u:TS):TS:=fun D σ H=>t {D with nx:=u D} σ H
def LU:xO X [] TV:=fun _ _ σ H _ I h=>adQ ⟨σ,H,I,h⟩
def qX (h1:PS X st t) (h2:xO X rest u):xO X (st::rest) (Yp t u):=by
 intro pins s σ H D I h;refine wpAny_execs_cons (dW (h1 pins s σ H {D with nx:=u D} I h) fun f s1 q=>?_);cases f with
 |next=>
  obtain⟨σ',H',I',q⟩:=q;exact h2 pins s1 σ' H' D I' q
 |ret v=>exact q
 |brk=>exact q
 |cont=>exact q
def Eo (h1:PS X st t):xO X [st] t:=by
 intro pins s σ H D I h;refine wpAny_execs_cons (dW (h1 pins s σ H D I h) fun f s1 q=>?_);cases f with
 |next=>exact adQ q
 |ret v=>exact q
 |brk=>exact q
 |cont=>exact q
def Inv.quiet {s:Shared}(I:Inv X pins σ H s):interactive X.env=false:=by simp[interactive,I.ok.kind]
def TX (te:TE):TS:=fun D σ H=>te σ H fun _ H1=>D.nx σ H1
def LV (he:PE X e te) (hs:swapsWith e none pos.line X.env=pure false:=by rfl):PS X (.Expr e pos) (TX te):=by
 intro pins s σ H D I h;exact wpAny_Expr_any (dW (he pins s σ H _ I h) fun v s1 ⟨x,H1,I1,r1,q1⟩=>⟨σ,H1,I1,q1⟩) I.quiet hs
def Yq (te:TE):TS:=fun D σ H=>te σ H D.rt
def Pw (he:PE X e te):PS X (.Return (some e) pos) (Yq te):=by
 intro pins s σ H D I h;exact wpAny_Return_some (dW (he pins s σ H _ I h) fun v s1 ⟨x,H1,I1,r1,q1⟩=>⟨x,σ,H1,I1,r1,q1⟩)
def Yr (c:TT) (t u:TS):TS:=fun D σ H=>c σ H fun b H1=>if b=true then t D σ H1 else u D σ H1
def TY {a b:BBH}{tc:TT}(hc:PT X c tc) (ha:xO X a t) (hb:xO X b u):PS X (.If c a b pos) (Yr tc t u):=by
 intro pins s σ H D I h;refine wpAny_If (dW (hc pins s σ H _ I h) fun d s1 hh=>?_);obtain⟨H1,I1,q1⟩:=hh;cases d with
 |true=>exact ha pins s1 σ H1 D I1 q1
 |false=>exact hb pins s1 σ H1 D I1 q1
end
abbrev TG:=V->St->Hp->(St->Hp->Prop)->Prop
abbrev Px:=List V->St->Hp->(St->Hp->Prop)->Prop
def PG (X:Cx) (target:Expr) (t:TG):Prop:=
 ∀(pins:AAG) (s:Shared) (σ:St) (H:Hp) (v:V) (u:Value) (Q:St->Hp->Prop),Inv X pins σ H s->RelV v u->t v σ H Q->
  wpAny (model X.prog X.w) X.A (assign target X.env u) (fun _ s'=>∃σ' H',Inv X pins σ' H' s'/\Q σ' H') X.xe s
def WR (X:Cx) (ts:BBC) (t:Px):Prop:=
 ∀(pins:AAG) (s:Shared) (σ:St) (H:Hp) (vs:List V) (us:AAL) (Q:St->Hp->Prop),Inv X pins σ H s->Vals vs us->t vs σ H Q->
  wpAny (model X.prog X.w) X.A (assignInOrder ((assignEach ts X.env).map (·.2)) us) (fun _ s'=>∃σ' H',Inv X pins σ' H' s'/\Q σ' H') X.xe s
abbrev Py:=V->V->V->Hp->(Hp->Prop)->Prop
def TZ (X:Cx) (t:Py):Prop:=
 ∀(pins:AAG) (s:Shared) (σ:St) (H:Hp) (o i v:V) (ov iv u:Value) (Q:Hp->Prop),Inv X pins σ H s->RelV o ov->RelV i iv->RelV v u->t o i v H Q->
  wpAny (model X.prog X.w) X.A (setItem ov iv u) (fun _ s'=>∃H',Inv X pins σ H' s'/\Q H') X.xe s
section
variable {X:Cx}{pos:Pos}
def BD (i:Nat):TG:=fun v σ H Q=>Q (σ.set i (some v)) H
def vd (hN:X.N.Nodup) (hi:X.N[i]? =some x) (hx:Loc X.env.scope x) (hf:X.fn x=true\/X.env.scope.names.lookup x=some .local:=by first|exact .inl rfl|exact .inr rfl|assumption):PG X (.Name x pos) (BD i):=by
 intro pins s σ H v u Q I r h;exact wpAny_assign_Name (BC I hN hi hx r (fun s' I'=>⟨_,H,I',h⟩) hf)
noncomputable def Ys:Px:=fun vs σ H Q=>vs=[]/\Q σ H
noncomputable def T8 (t:TG) (u:Px):Px:=fun vs σ H Q=>∃v r,vs=v::r/\t v σ H fun σ' H'=>u r σ' H' Q
def LW:WR X [] Ys:=by
 intro pins s σ H vs us Q I r h;obtain⟨e,h⟩:=h;subst e;cases r;exact assignInOrder_nil ⟨σ,H,I,h⟩
def BE {e:Expr}{t:TG}{u:Px}(h1:PG X e t) (h2:WR X es u)
  (hs:(assignEach (e::es) X.env).map (·.2)=assign e X.env::(assignEach es X.env).map (·.2):=by rfl):WR X (e::es) (T8 t u):=by
 intro pins s σ H vs us Q I r h;obtain⟨v,vr,e1,h⟩:=h;subst e1;cases r with
 |cons r rr=>
  rw[hs];refine assignInOrder_cons (dW (h1 pins s σ H _ _ _ I r h) fun _ s1 hh=>?_);obtain⟨σ1,H1,I1,q1⟩:=hh;exact h2 pins s1 σ1 H1 _ _ Q I1 rr q1
def Yt (K:AAD) (n:Nat) (t:Px):TG:=fun v σ H Q=>∃a xs,v= .ref a/\yt K H a xs/\xs.length=n/\t xs σ H Q
def Pz {t:Px}{n:Nat}(hc:X.calm=true) (h:WR X es t)
  (hn:(assignEach es X.env).length=n:=by rfl) (hst:(assignEach es X.env).findIdx? (·.1)=none:=by rfl):PG X (.Tuple es k pos) (Yt X.K n t):=by
 intro pins s σ H v u Q I r hw;obtain⟨a,xs,e1,hq,hl,hw⟩:=hw;subst e1;cases r;obtain⟨its,rv,ht,hz⟩:=I.tuple hq;refine assign_Tuple_tuple (I.ok.hd hc) ht (by simp[hn,<-hl,rv.length]) hst fun h' hx=>?_;have I1:Inv X pins σ H {s with heap:=h'}:=I.kept (t':=s.toks) fun b o e=>hx b o (aaF (aap e)) e;exact h pins _ σ H xs _ Q I1 (by simpa using rv) hw
def Yu (to ti:TE) (t:Py):TG:=fun v σ H Q=>to σ H fun o H1=>ti σ H1 fun i H2=>t o i v H2 fun H3=>Q σ H3
def Ip {o i:Expr}{to ti:TE}{t:Py}(ho:PE X o to) (hi:PE X i ti) (hs:TZ X t)
  (ha:∀v,assign (.Subscript o i pos) X.env v=(do
   let ov <-holding [v] (eval o X.env)
   let iv <-holding [v,ov] (eval i X.env)
   standAt pos
   holding [v,ov,iv] (setItem ov iv v)
   release [v,ov,iv] []):=by intro _;rfl):PG X (.Subscript o i pos) (Yu to ti t):=by
 intro pins s σ H v u Q I r h;rw[ha];refine aab (abq (dW (ho pins s σ H _ I h) fun ov s1 hh=>?_));obtain⟨x,H1,I1,r1,q1⟩:=hh;refine aab (abq (dW (hi pins s1 σ H1 _ I1 q1) fun iv s2 hh=>?_));obtain⟨y,H2,I2,r2,q2⟩:=hh;refine aab (wpAny_standAt (aab (abq (dW (hs pins s2 σ H2 x y v ov iv u _ I2 r1 r2 r q2) fun _ s3 hh=>?_))));obtain⟨H3,I3,q3⟩:=hh;exact wpAny_release ⟨σ,H3,I3,q3⟩
def LX (te:TE) (g:TG):TS:=fun D σ H=>te σ H fun x H1=>g x σ H1 D.nx
def Iq {e:Expr}{te:TE}{g:TG}(he:PE X e te) (hg:PG X tg g) (hs:swapsWithSole [tg] e pos.line X.env=pure false:=by rfl) (hw:swappedStores [tg] e X.env=pure none:=by rfl)
  (h1:(assignEach [tg] X.env).map (·.2)=[assign tg X.env]:=by rfl):PS X (.Assign [tg] e pos) (LX te g):=by
 intro pins s σ H D I h;refine wpAny_Assign_stores (dW (he pins s σ H _ I h) fun v s1 hh=>?_) hs hw;obtain⟨x,H1,I1,r1,q1⟩:=hh;rw[h1];exact dW (hg pins s1 σ H1 x v _ I1 r1 q1) fun _ s2 q=>q
def Ir {e:Expr}{te:TE}{pos':Pos}(hN:X.N.Nodup) (hi:X.N[i]? =some x) (hx:Loc X.env.scope x) (he:PE X e te) (hs:swapsWith e (some (.Name x pos')) pos.line X.env=pure false:=by rfl) (hf:X.fn x=true\/X.env.scope.names.lookup x=some .local:=by first|exact .inl rfl|exact .inr rfl|assumption):
  PS X (.Assign [.Name x pos'] e pos) (LX te (BD i)):=by
 intro pins s σ H D I h;refine wpAny_Assign_Name (dW (he pins s σ H _ I h) fun v s1 hh=>?_) hs;obtain⟨y,H1,I1,r1,q1⟩:=hh;exact BC I1 hN hi hx r1 (fun s2 I2=>⟨_,H1,I2,q1⟩) hf
def PB (c:TT) (tb:TS):TS:=fun D σ H=>∃W:Nat->St->Hp->Prop,(∃m,W m σ H)/\∀m σ H,W m σ H->
 c σ H fun b H1=>if b=true then ∃N:St->Hp->Prop,(∀σ' H',N σ' H'->∃m',m' < m/\W m' σ' H')/\tb {D with nx:=N,ct:=N,bk:=D.nx} σ H1 else D.nx σ H1
def Iu {tc:TT}{tb:TS}(hp:PassesOwn (model X.prog X.w) X.A X.env X.xe) (hc:PT X c tc) (hb:xO X body tb):PS X (.While c body [] pos) (PB tc tb):=by
 intro pins s σ H D I h;obtain⟨W,⟨m0,w0⟩,turn⟩:=h;refine wpAny_While (codeAny_whileLoop (fun n s'=>∃σ' H',Inv X pins σ' H' s'/\W n σ' H') ?_ m0 ⟨σ,H,I,w0⟩);rintro n s1 ⟨σ1,H1,I1,w1⟩;refine aco hp (dW (hc pins s1 σ1 H1 _ I1 (turn n σ1 H1 w1)) fun b s2 hh=>?_);obtain⟨H2,I2,q2⟩:=hh;cases b with
 |true=>
  obtain⟨N,hN,q2⟩:=q2;rw[if_pos rfl];refine aco hp (dW (hb pins s2 σ1 H2 _ I2 q2) fun f s3 q3=>?_);cases f with
  |next=>
   obtain⟨σ3,H3,I3,n3⟩:=q3;obtain⟨m',hm,w3⟩:=hN σ3 H3 n3;exact⟨m',hm,σ3,H3,I3,w3⟩
  |cont=>
   obtain⟨σ3,H3,I3,n3⟩:=q3;obtain⟨m',hm,w3⟩:=hN σ3 H3 n3;exact⟨m',hm,σ3,H3,I3,w3⟩
  |brk=>exact q3
  |ret v=>exact q3
 |false=>
  rw[if_neg aeb];exact adQ ⟨σ1,H2,I2,q2⟩
end
structure It where
 go:Nat->Hp->Prop
 PD:Nat->Hp->V->Hp->Prop
 stop:Nat->Hp->Prop
def qk (X:Cx) (pins:AAG) (H:Hp) (b:Addr):Prop:=
 H b=none/\b≠X.env.locals/\b∉X.fs/\(b∈X.ex\/X.s₀.heap.objs.size<=b)/\(∀x c,X.env.cells.lookup x=some c->c≠b)/\∀p∈X.pn++pins,p.1≠b
def Inv.Iv {s:Shared}{b:Addr}(I:Inv X pins σ H s) (hb:s.heap.objs.size<=b) (hn:H' b=none):qk X pins H' b:=by
 refine⟨hn,aez (aas I.lt hb),I.TJ hb,.inr (aaC I.sz hb),fun x c e z=>?_,fun p hp z=>?_⟩
 ·obtain⟨v,q⟩:=I.cell x c e;exact absurd (aas q.lt (by rw[z];exact hb)) (abS _)
 ·exact absurd (aas (aap (I.pin p hp).1) (by rw[z];exact hb)) (abS _)
structure Turn (P:Program) (w:World) (K:AAD) (tg:Expr) (J:It) (fp:BBE) (it:Addr) (tn:Nat->Heap->Prop):Prop where
 mem:it∈fp
 obj:∀i h,tn i h->∀b∈fp,∃o,h.get? b=some o/\∀v,o.data≠.cell v
 keep:∀i h h',tn i h->(∀b∈fp,∀o,h.get? b=some o->h'.get? b=some o)->tn i h'
 item:∀(X:Cx),X.prog=P->X.w=w->X.K=K->X.calm=true->∀(i:Nat) (pins:AAG) (s:Shared) (σ:St) (H:Hp) (E:AAE),Inv X pins σ H s->(∀b∈fp,qk X pins H b)->tn i s.heap->J.go i H->
  wpAny (model P w) X.A (pyNext (.ref it)) (fun r s1=>∃u,r=some u/\
   wpAny (model P w) X.A (letOwnedTupleGo tg (.ref it) u) (fun _ s2=>∃x H',Inv X pins σ H' s2/\RelV x u/\J.PD i H x H'/\tn (i+1) s2.heap/\∀b∈fp,H' b=none) E s1) E s
 done:∀(X:Cx),X.prog=P->X.w=w->X.K=K->X.calm=true->∀(i:Nat) (pins:AAG) (s:Shared) (σ:St) (H:Hp) (E:AAE),Inv X pins σ H s->(∀b∈fp,qk X pins H b)->tn i s.heap->J.stop i H->
  wpAny (model P w) X.A (pyNext (.ref it)) (fun r s1=>r=none/\Inv X pins σ H s1) E s
 self:∀(A:Around) (i:Nat) (s:Shared) (Q:AAE) (E:AAE),tn i s.heap->Q (.ref it) s->wpAny (model P w) A (pyIter (.ref it)) Q E s
abbrev TI:=St->Hp->(It->Hp->Prop)->Prop
def Yv (X:Cx) (pins:AAG) (σ:St) (tg:Expr) (R:It->Hp->Prop) (itv:Value) (s2:Shared):Prop:=
 ∃(it:Addr) (fp:BBE) (tn:Nat->Heap->Prop) (J:It) (H':Hp),itv= .ref it/\Inv X pins σ H' s2/\Turn X.prog X.w X.K tg J fp it tn/\tn 0 s2.heap/\(∀b∈fp,qk X pins H' b)/\R J H'
def PI (X:Cx) (tg iter:Expr) (wi:TI):Prop:=
 ∀(pins:AAG) (s:Shared) (σ:St) (H:Hp) (R:It->Hp->Prop),Inv X pins σ H s->wi σ H R->
  wpAny (model X.prog X.w) X.A (eval iter X.env) (fun v s1=>wpAny (model X.prog X.w) X.A (pyIter v) (Yv X pins σ tg R) X.xe s1) X.xe s
def Iw {s:Shared}{it:Addr}{n:String}{vs:AAK}{Q:Unit->Shared->Prop}(ho:s.heap.get? it=some o) (hc:o.cls= .type n) (hd:o.data= .fields vs)
    (hn:["enumerate","zip","dict_itemiterator","dict_reverseitemiterator","odict_iterator","itertools.zip_longest","itertools.pairwise"].contains n=false) (hQ:Q () s):wpAny M A (letOwnedTupleGo tg (.ref it) u) Q E s:=by
  unfold letOwnedTupleGo;cases tg<;>first
    |exact wpAny_pure hQ
    | (cases u <;> first
        |exact wpAny_pure hQ
        | (refine aab (wpAny_load ho ?_)
           rw[hc,hd];show wpAny M A (if(["enumerate","zip","dict_itemiterator","dict_reverseitemiterator","odict_iterator","itertools.zip_longest","itertools.pairwise"].contains n && vs[0]? == some (rawInt _))=true then _ else _) Q E s;rw[if_neg (by intro h;rw[hn,ad6] at h;cases h)];exact wpAny_pure hQ))
noncomputable def Yw (K:AAD) (a:Addr):It:=
 ⟨fun i H=>∃xs x,lE K H a xs/\xs[i]? =some x,fun i H x H'=>H'=H/\∀xs,lE K H a xs->xs[i]? =some x,fun i H=>∃xs,lE K H a xs/\xs.length<=i⟩
noncomputable def Yx (K:AAD) (a:Addr):It:=
 ⟨fun i H=>∃xs x,yt K H a xs/\xs[i]? =some x,fun i H x H'=>H'=H/\∀xs,yt K H a xs->xs[i]? =some x,fun i H=>∃xs,yt K H a xs/\xs.length<=i⟩
noncomputable def WS (lo:Int) (n:Nat):It:=⟨fun i _=>i<n,fun i H x H'=>H'=H/\x= .int (lo+i),fun i _=>n<=i⟩
def Gk (a it:Addr):Turn P w K tg (Yw K a) [it] it (fun i h=>h.IsListIter it a i) where
 mem:=by simp
 obj:=fun i h st b hb=>by
  have e:b=it:=by simpa using hb
  subst e;obtain⟨o,e,c,d⟩:=st;exact⟨o,e,fun v z=>by rw[d] at z;cases z⟩
 keep:=fun i h h' st k=>st.at fun o e=>k it (by simp) o e
 item:=by
  intro X hP hw hK hc i pins s σ H E I hf st hg;subst hP hw hK;obtain⟨xs,x,hq,hx⟩:=hg;obtain⟨its,rv,p,hz⟩:=I.list hq;obtain⟨u,hu,ru⟩:=rv.get hx;obtain⟨f0,f1,f2,f3,f4,f5⟩:=hf it (by simp);refine wpAny_pyNext_list_item st p.isList (x:=u) (by simpa using hu) fun h' st' sb=>?_;have I1:Inv X pins σ H {s with heap:=h'}:=I.turned (t':=s.toks) (fun b o hb e=>(sb.2 b hb).trans e) f0 f1 f3 f4 f5;obtain⟨o,e,c,d⟩:=id st';exact⟨u,rfl,Iw (s:={s with heap:=h'}) e c d (by decide) ⟨x,H,I1,ru,⟨rfl,fun ys hy=>by rw[I.Io hy hq];exact hx⟩,st',fun b hb=>(hf b hb).1⟩⟩
 done:=by
  intro X hP hw hK hc i pins s σ H E I hf st hg;subst hP hw hK;obtain⟨xs,hq,hx⟩:=hg;obtain⟨its,rv,p,hz⟩:=I.list hq;obtain⟨f0,f1,f2,f3,f4,f5⟩:=hf it (by simp);have hl:=rv.length;exact wpAny_pyNext_list_end (I.ok.hd hc) st p.isList (by simp;lia) fun h' eb=>⟨rfl,I.turned (t':=s.toks) (fun b o hb e=>eb b o hb e) f0 f1 f3 f4 f5⟩
 self:=fun _ _ _ _ _ st h=>wpAny_pyIter_listiter st h
def C6 (a it:Addr):Turn P w K tg (Yx K a) [it] it (fun i h=>h.IsTupleIter it a i) where
 mem:=by simp
 obj:=fun i h st b hb=>by
  have e:b=it:=by simpa using hb
  subst e;obtain⟨o,e,c,d⟩:=st;exact⟨o,e,fun v z=>by rw[d] at z;cases z⟩
 keep:=fun i h h' st k=>st.at fun o e=>k it (by simp) o e
 item:=by
  intro X hP hw hK hc i pins s σ H E I hf st hg;subst hP hw hK;obtain⟨xs,x,hq,hx⟩:=hg;obtain⟨its,rv,p,hz⟩:=I.tuple hq;obtain⟨u,hu,ru⟩:=rv.get hx;obtain⟨f0,f1,f2,f3,f4,f5⟩:=hf it (by simp);refine wpAny_pyNext_tuple_item st (show s.heap.IsTuple a its.toArray from p) (x:=u) (by simpa using hu) fun h' st' sb=>?_;have I1:Inv X pins σ H {s with heap:=h'}:=I.turned (t':=s.toks) (fun b o hb e=>(sb.2 b hb).trans e) f0 f1 f3 f4 f5;obtain⟨o,e,c,d⟩:=id st';exact⟨u,rfl,Iw (s:={s with heap:=h'}) e c d (by decide) ⟨x,H,I1,ru,⟨rfl,fun ys hy=>by rw[I.Gj hy hq];exact hx⟩,st',fun b hb=>(hf b hb).1⟩⟩
 done:=by
  intro X hP hw hK hc i pins s σ H E I hf st hg;subst hP hw hK;obtain⟨xs,hq,hx⟩:=hg;obtain⟨its,rv,p,hz⟩:=I.tuple hq;obtain⟨f0,f1,f2,f3,f4,f5⟩:=hf it (by simp);have hl:=rv.length;exact wpAny_pyNext_tuple_end (I.ok.hd hc) st (show s.heap.IsTuple a its.toArray from p) (by simp;lia) fun h' eb=>⟨rfl,I.turned (t':=s.toks) (fun b o hb e=>eb b o hb e) f0 f1 f3 f4 f5⟩
 self:=fun _ _ _ _ _ st h=>wpAny_pyIter_tupleiter st h
def C7 (it:Addr) (lo:Int) (n:Nat):Turn P w K tg (WS lo n) [it] it (fun i h=>IsRangeIter h it (lo+(i:Nat)*1) ((n:Int)-(i:Nat)) 1) where
 mem:=by simp
 obj:=fun i h st b hb=>by
  have e:b=it:=by simpa using hb
  subst e;exact⟨_,st,fun v z=>by
   have z':Data.fields _=Data.cell v:=z;cases z'⟩
 keep:=fun i h h' st k=>k it (by simp) _ st
 item:=by
  intro X hP hw hK hc i pins s σ H E I hf st hg;subst hP hw hK;obtain⟨f0,f1,f2,f3,f4,f5⟩:=hf it (by simp);have W:=Walks.range (prog:=X.prog) (w:=X.w) (I.ok.hd hc) it lo 1 n;refine W.item i s _ _ hg st fun v h' tk hv st' kk=>?_;obtain⟨t,rfl⟩:=hv;have I1:Inv X pins σ H {s with heap:=h',toks:=tk}:=I.turned (fun b o hb e=>kk b o (by simpa using hb) e) f0 f1 f3 f4 f5;refine⟨_,rfl,Iw (s:={s with heap:=h',toks:=tk}) (n:="range_iterator") st' rfl rfl (by decide) ⟨.int (lo+i),H,I1,⟨t,?_⟩,⟨rfl,rfl⟩,st',fun b hb=>(hf b hb).1⟩⟩;rw[Int.mul_one]
 done:=by
  intro X hP hw hK hc i pins s σ H E I hf st hg;subst hP hw hK;obtain⟨f0,f1,f2,f3,f4,f5⟩:=hf it (by simp);exact wpAny_pyNext_range_end (I.ok.hd hc) st (by have:n<=i:=hg;lia) fun h' eb=>⟨rfl,I.turned (t':=s.toks) (fun b o hb e=>eb b o hb e) f0 f1 f3 f4 f5⟩
 self:=fun _ _ _ _ _ st h=>wpAny_pyIter_rangeiter st h
section
variable {X:Cx}{tg:Expr}
def Iz (K:AAD) (tl:TE):TI:=fun σ H R=>tl σ H fun x H1=>∃a,x= .ref a/\(∃xs,lE K H1 a xs)/\R (Yw K a) H1
def Yy (K:AAD) (tl:TE):TI:=fun σ H R=>tl σ H fun x H1=>∃a,x= .ref a/\(∃xs,yt K H1 a xs)/\R (Yx K a) H1
def zM {l:Expr}{tl:TE}(hl:PE X l tl):PI X tg l (Iz X.K tl):=by
 intro pins s σ H R I h;refine dW (hl pins s σ H _ I h) fun v s1 hh=>?_;obtain⟨x,H1,I1,r1,q1⟩:=hh;obtain⟨a,e,⟨xs,hq⟩,q⟩:=q1;subst e;cases r1;obtain⟨its,rv,p,hz⟩:=I1.list hq;refine ady p.isList ?_;refine⟨s1.heap.objs.size,[s1.heap.objs.size],_,_,H1,rfl,I1.kept (t':=s1.toks) fun b o e=>aac _ e,Gk a _,⟨_,aaB _ rfl,rfl,rfl⟩,fun b hb=>?_,q⟩;have e:b=s1.heap.objs.size:=by simpa using hb
 subst e;exact I1.Iv (aaj _) (I1.hok.fresh (aaj _))
def IA {l:Expr}{tl:TE}(hl:PE X l tl):PI X tg l (Yy X.K tl):=by
 intro pins s σ H R I h;refine dW (hl pins s σ H _ I h) fun v s1 hh=>?_;obtain⟨x,H1,I1,r1,q1⟩:=hh;obtain⟨a,e,⟨xs,hq⟩,q⟩:=q1;subst e;cases r1;obtain⟨its,rv,p,hz⟩:=I1.tuple hq;refine wpAny_pyIter_tuple (show s1.heap.IsTuple a its.toArray from p) ?_;refine⟨s1.heap.objs.size,[s1.heap.objs.size],_,_,H1,rfl,I1.kept (t':=s1.toks) fun b o e=>aac _ e,C6 a _,⟨_,aaB _ rfl,rfl,rfl⟩,fun b hb=>?_,q⟩;have e:b=s1.heap.objs.size:=by simpa using hb
 subst e;exact I1.Iv (aaj _) (I1.hok.fresh (aaj _))
def IB {s:Shared}{R:It->Hp->Prop}{lo hi:Int}{t u v:Tok}{tk:Nat}(I:Inv X pins σ H s) (h1:-(2 ^ 62)<=lo) (h2:lo<2 ^ 62) (h3:-(2 ^ 62)<=hi) (h4:hi<2 ^ 62)
  (q:R (WS lo (hi-lo).toNat) H):wpAny (model X.prog X.w) X.A (pyIter (.ref s.heap.objs.size)) (Yv X pins σ tg R) E {s with heap:=s.heap.push {cls:=.type "range",data:=.fields #[.int lo t,.int hi u,.int 1 v]},toks:=tk}:=by
 refine wpAny_pyIter_range (IsRange.new ..) (small_one h1 h2 h3 h4) ?_;have I1:Inv X pins σ H {s with heap:=s.heap.push {cls:=.type "range",data:=.fields #[.int lo t,.int hi u,.int 1 v]},toks:=tk}:=I.kept fun b o e=>aac _ e;refine⟨(s.heap.push {cls:=.type "range",data:=.fields #[.int lo t,.int hi u,.int 1 v]}).objs.size,[(s.heap.push {cls:=.type "range",data:=.fields #[.int lo t,.int hi u,.int 1 v]}).objs.size],_,_,H,rfl,
  I1.kept (t':=tk) fun b o e=>aac _ e,C7 _ lo (hi-lo).toNat,?_,fun b hb=>?_,q⟩
 ·have e1:lo+((0:Nat):Int)*1=lo:=by simp
  have e2:(((hi-lo).toNat:Nat):Int)-((0:Nat):Int)=Builtin.Range.rangeSize lo hi 1:=by rw[rangeSize_one];split<;>lia
  show IsRangeIter _ _ (lo+((0:Nat):Int)*1) ((((hi-lo).toNat:Nat):Int)-((0:Nat):Int)) 1;rw[e1,e2];exact aaB _ rfl
 ·have e:b=(s.heap.push {cls:=.type "range",data:=.fields #[.int lo t,.int hi u,.int 1 v]}).objs.size:=by simpa using hb
  subst e;exact I1.Iv (aaj _) (I1.hok.fresh (aaj _))
def T9 (ta:TA):TI:=fun σ H R=>ta σ H fun vs H1=>∃j:Int,vs=[.int j]/\-(2 ^ 62)<=j/\j<2 ^ 62/\R (WS 0 j.toNat) H1
def Gm {a:Expr}{ta:TA}{p:Pos}(hg:Gl X "range") (hm:X.mg "range" =none) (ha:PA X [a] ta) (hs:starEach [a] X.env=[(false,eval a X.env)]:=by rfl):PI X tg (.Call (.Name "range" p) [a] [] pos) (T9 ta):=by
 intro pins s σ H R I h;refine Call_ (mz I hg hm boot_range (ac9 (dW (ha pos pins s σ H _ I h) fun us s1 hh=>?_) hs rfl));obtain⟨vs,H1,I1,r1,q1⟩:=hh;obtain⟨j,e,q1,q2,q⟩:=q1;subst e;cases r1 with
 |cons r rr=>
  cases rr;obtain⟨t,rfl⟩:=r;exact call_range_1 (IB I1 (by lia) (by lia) q1 q2 (by simpa using q))
def Yz (wi:TI) (g:TG) (tb:TS):TS:=fun D σ H=>wi σ H fun J H1=>∃W:Nat->Nat->St->Hp->Prop,(∃m,W 0 m σ H1)/\∀i m σ H,W i m σ H->
 (J.stop i H/\D.nx σ H)\/(J.go i H/\∃N:St->Hp->Prop,(∀σ' H',N σ' H'->∃m',m' < m/\W (i+1) m' σ' H')/\∀x H',J.PD i H x H'->g x σ H' fun σ2 H2=>tb {D with nx:=N,ct:=N,bk:=D.nx} σ2 H2)
noncomputable def ql (fp:BBE) (h:Heap):List (Addr×Obj):=fp.filterMap fun b=>(h.get? b).map fun o=>(b,o)
def gz {h:Heap}{b:Addr}(hb:b∈fp) (e:h.get? b=some o):(b,o)∈ql fp h:=List.mem_filterMap.mpr ⟨b,hb,by rw[e];rfl⟩
def yu {h:Heap}{p:Addr×Obj}(hp:p∈ql fp h):p.1∈fp/\h.get? p.1=some p.2:=by
 obtain⟨b,hb,e⟩:=List.mem_filterMap.mp hp;cases q:h.get? b with
 |none=>rw[q] at e;cases e
 |some o=>
  rw[q] at e;have e':(b,o)=p:=aaV e;subst e';exact⟨hb,q⟩
def Inv.pinned {s:Shared}(I:Inv X pins σ H s) (hf:∀b∈fp,qk X pins H b) (ho:∀b∈fp,∃o,s.heap.get? b=some o/\∀v,o.data≠.cell v):Inv X (pins++ql fp s.heap) σ H s:=
 I.En fun p hp=>(aav.mp hp).elim (fun z=>I.pin p (aaP _ z)) fun z=>by
  obtain⟨hb,e⟩:=yu z;obtain⟨f0,f1,f2,_⟩:=hf p.1 hb;obtain⟨o,e',d⟩:=ho p.1 hb;rw[e] at e';cases e';exact⟨e,f0,f1,f2,d⟩
def Inv.nI {pl:AAG}{s:Shared}(I:Inv X (pins++pl) σ H s):Inv X pins σ H s:=I.En fun p hp=>I.pin p (aaP _ (acy _ hp))
def PF {iter:Expr}{wi:TI}{g:TG}{tb:TS}(hp:PassesOwn (model X.prog X.w) X.A X.env X.xe) (hc:X.calm=true) (hi:PI X tg iter wi) (hg:PG X tg g) (hb:xO X body tb)
  (hs:∀x,foldedSetIterable iter X.env x=pure x:=by intro _;rfl):PS X (.For tg iter body [] pos) (Yz wi g tb):=by
 intro pins s σ H D I h;refine wpAny_For (dW (hi pins s σ H _ I h) fun v s1 h1=>dW h1 fun itv s2 h2=>?_) hs;obtain⟨it,fp,tn,J,H2,e,I2,T,st2,f2,W,⟨m0,w0⟩,turn⟩:=h2;subst e;have PJ:∀{H':Hp},(∀b∈fp,H' b=none)->∀b∈fp,qk X pins H' b:=fun hn b hb=>⟨hn b hb,(f2 b hb).2⟩
 refine codeAny_forLoop_any (fun n s'=>∃i σ' H',Inv X pins σ' H' s'/\tn i s'.heap/\(∀b∈fp,H' b=none)/\W i n σ' H') ?_ m0 ⟨0,σ,H2,I2,st2,fun b hb=>(f2 b hb).1,w0⟩;rintro n s3 ⟨i,σ3,H3,I3,st3,fr3,w3⟩;rcases turn i n σ3 H3 w3 with⟨stop,qn⟩|⟨go,N,hN,step⟩
 ·refine aco hp (dW (T.done X rfl rfl rfl hc i pins s3 σ3 H3 X.xe I3 (PJ fr3) st3 stop) fun r s4 hh=>?_);obtain⟨hr,I4⟩:=hh;subst hr;exact adQ ⟨σ3,H3,I4,qn⟩
 ·refine aco hp (dW (T.item X rfl rfl rfl hc i pins s3 σ3 H3 X.xe I3 (PJ fr3) st3 go) fun r s4 hh=>?_);obtain⟨u,hr,h4⟩:=hh;subst hr;refine aco hp (dW h4 fun _ s5 hh=>?_);obtain⟨x,H5,I5,r5,y5,YA,fr5⟩:=hh;have I5':=I5.pinned (PJ fr5) (T.obj _ _ YA);refine aco hp (dW (hg _ s5 σ3 H5 x u _ I5' r5 (step x H5 y5)) fun _ s6 hh=>?_);obtain⟨σ6,H6,I6,q6⟩:=hh;refine aco hp (dW (hb _ s6 σ6 H6 _ I6 q6) fun f s7 q7=>?_);have again:∀{IC:St}{H7:Hp},Inv X (pins++ql fp s5.heap) IC H7 s7->N IC H7->∃m,m<n/\∃i σ' H',Inv X pins σ' H' s7/\tn i s7.heap/\(∀b∈fp,H' b=none)/\W i m σ' H':=fun {IC H7} I7 n7=>by
   obtain⟨m',hm,w7⟩:=hN IC H7 n7;refine⟨m',hm,i+1,IC,H7,I7.nI,T.keep _ _ _ YA fun b hb o e=>(I7.pin (b,o) (aaP _ (aaP _ (gz hb e)))).1,fun b hb=>?_,w7⟩;obtain⟨o,e,d⟩:=T.obj _ _ YA b hb;exact(I7.pin (b,o) (aaP _ (aaP _ (gz hb e)))).2.1
  cases f with
  |next=>obtain⟨IC,H7,I7,n7⟩:=q7;exact again I7 n7
  |cont=>obtain⟨IC,H7,I7,n7⟩:=q7;exact again I7 n7
  |brk=>obtain⟨IC,H7,I7,q7⟩:=q7;exact⟨IC,H7,I7.nI,q7⟩
  |ret v=>obtain⟨x7,IC,H7,I7,r7,q7⟩:=q7;exact⟨x7,IC,H7,I7.nI,r7,q7⟩
end
abbrev R2:=V->V->Hp->VK->Prop
def uA (X:Cx) (f:Value->Value->Sem Value) (r:R2):Prop:=
 ∀(pins:AAG) (s:Shared) (σ:St) (H:Hp) (x y:V) (v u:Value) (Q:VK),Inv X pins σ H s->RelV x v->RelV y u->r x y H Q->
  wpAny (model X.prog X.w) X.A (f v u) (EP X pins σ Q) X.xe s
def Ua (X:Cx) (f:Value->Sem Value) (r:V->Hp->VK->Prop):Prop:=
 ∀(pins:AAG) (s:Shared) (σ:St) (H:Hp) (x:V) (v:Value) (Q:VK),Inv X pins σ H s->RelV x v->r x H Q->
  wpAny (model X.prog X.w) X.A (f v) (EP X pins σ Q) X.xe s
def gD (X:Cx) (f:Value) (r:List V->Hp->VK->Prop):Prop:=
 ∀(pins:AAG) (s:Shared) (σ:St) (H:Hp) (xs:List V) (us:AAL) (Q:VK),Inv X pins σ H s->Vals xs us->r xs H Q->
  wpAny (model X.prog X.w) X.A (call f us) (EP X pins σ Q) X.xe s
def Oo (r:R2) (ta tb:TE):TE:=fun σ H Q=>ta σ H fun x H1=>tb σ H1 fun y H2=>r x y H2 Q
def tUn (r:V->Hp->VK->Prop) (ta:TE):TE:=fun σ H Q=>ta σ H fun x H1=>r x H1 Q
def rI (C:Int->Int->Prop) (g:Int->Int->V):R2:=fun x y H Q=>∃i j,x= .int i/\y= .int j/\C i j/\Q (g i j) H
def LY (g:Int->Int->V):R2:=fun x y H Q=>∃i j,x= .int i/\y= .int j/\Q (g i j) H
def rU (g:Int->V):V->Hp->VK->Prop:=fun x H Q=>∃i,x= .int i/\Q (g i) H
section
variable {X:Cx}{a b:Expr}{ta tb:TE}{pos:Pos}
def PK (ha:PE X a ta) (hb:PE X b tb){s:Shared}{R:V->V->Hp->Prop}(I:Inv X pins σ H s)
  (h:ta σ H fun x H1=>tb σ H1 fun y H2=>R x y H2){f:Value->Value->Sem Value}
  (hf:∀v u s2 x y H2,Inv X pins σ H2 s2->RelV x v->RelV y u->R x y H2->wpAny (model X.prog X.w) X.A (f v u) Q X.xe s2):
  wpAny (model X.prog X.w) X.A (eval a X.env) (fun v s₁=>wpAny (model X.prog X.w) X.A (eval b X.env) (fun u s₂=>wpAny (model X.prog X.w) X.A (f v u) Q X.xe s₂) X.xe s₁) X.xe s:=by
 refine dW (ha pins s σ H _ I h) fun v s1 hh=>?_;obtain⟨x,H1,I1,r1,q1⟩:=hh;refine dW (hb pins s1 σ H1 _ I1 q1) fun u s2 hh=>?_;obtain⟨y,H2,I2,r2,q2⟩:=hh;exact hf v u s2 x y H2 I2 r1 r2 q2
def Ub {op:Operator}(ho:uA X (binaryOp op) r) (ha:PE X a ta) (hb:PE X b tb):PE X (.BinOp a op b pos) (Oo r ta tb):=by
 intro pins s σ H Q I h;exact wpAny_BinOp (PK ha hb I h fun v u s2 x y H2 I2 rx ry q=>ho pins s2 σ H2 x y v u Q I2 rx ry q)
def Uc {op:UnaryOp}{r:V->Hp->VK->Prop}(ho:Ua X (unaryOp op) r) (ha:PE X a ta):PE X (.UnaryOp op a pos) (tUn r ta):=by
 intro pins s σ H Q I h;exact UnaryOp_ (dW (ha pins s σ H _ I h) fun v s1 ⟨x,H1,I1,r1,q1⟩=>ho pins s1 σ H1 x v Q I1 r1 q1)
def SA {f:Value->Value->Sem Value}{C:Int->Int->Prop}
  (rule:∀(i j:Int) (t u:Tok) (s:Shared) (Q:AAE) (E:AAE),C i j->Q (.int (g i j) s.toks) {s with toks:=s.toks+1}->wpAny (model X.prog X.w) X.A (f (.int i t) (.int j u)) Q E s):
  uA X f (rI C fun i j=>.int (g i j)):=by
 intro pins s σ H x y v u Q I rx ry h;obtain⟨i,j,rfl,rfl,hc,q⟩:=h;obtain⟨t,rfl⟩:=rx;obtain⟨t',rfl⟩:=ry;exact rule i j t t' s _ _ hc ⟨.int (g i j),H,I.tok _,⟨_,rfl⟩,q⟩
def LZ {f:Value->Value->Sem Value}
  (rule:∀(i j:Int) (t u:Tok) (s:Shared) (Q:AAE) (E:AAE),Q (.int (g i j) s.toks) {s with toks:=s.toks+1}->wpAny (model X.prog X.w) X.A (f (.int i t) (.int j u)) Q E s):
  uA X f (LY fun i j=>.int (g i j)):=by
 intro pins s σ H x y v u Q I rx ry h;obtain⟨i,j,rfl,rfl,q⟩:=h;obtain⟨t,rfl⟩:=rx;obtain⟨t',rfl⟩:=ry;exact rule i j t t' s _ _ ⟨.int (g i j),H,I.tok _,⟨_,rfl⟩,q⟩
def PL {f:Value->Value->Sem Value}{g:Int->Int->Bool}
  (rule:∀(i j:Int) (t u:Tok) (s:Shared) (Q:AAE) (E:AAE),Q (.bool (g i j)) s->wpAny (model X.prog X.w) X.A (f (.int i t) (.int j u)) Q E s):
  uA X f (LY fun i j=>.bl (g i j)):=by
 intro pins s σ H x y v u Q I rx ry h;obtain⟨i,j,rfl,rfl,q⟩:=h;obtain⟨t,rfl⟩:=rx;obtain⟨t',rfl⟩:=ry;exact rule i j t t' s _ _ ⟨.bl (g i j),H,I,rfl,q⟩
def Ud (i j:Int):Prop:=0<j/\j<1073741824
def Ue (i j:Int):Prop:=0<=j/\j<=1000000/\i.natAbs<2 ^ 64
def PM (i j:Int):Prop:=(-(2 ^ 64)<i/\i<2 ^ 64)\/(-(2 ^ 64)<j/\j<2 ^ 64)
def PM.ok {i j:Int}(h:PM i j):IntMulOk i j:=by
 rcases h with⟨h1,h2⟩|⟨h1,h2⟩
 ·exact .of_left (intBits_le_64 h1 h2)
 ·exact .of_right (intBits_le_64 h1 h2)
def C8 (k:Nat):(0:Int)<=2 ^ k:=by
 rw[two_pow_cast];exact Int.natCast_nonneg _
def PN:uA X (binaryOp .Add) (LY fun i j=>.int (i+j)):=LZ fun _ _ _ _ _ _ _ q=>add_int q
def PR:uA X (binaryOp .Sub) (LY fun i j=>.int (i-j)):=LZ fun _ _ _ _ _ _ _ q=>sub_int q
def PU:uA X (binaryOp .Mult) (rI PM fun i j=>.int (i*j)):=SA fun _ _ _ _ _ _ _ hc q=>mul_int q hc.ok
def L0:uA X (binaryOp .FloorDiv) (rI Ud fun i j=>.int (i / j)):=SA fun i j _ _ _ _ _ hc q=>by
 have h1:(0:Int)<j:=hc.1;have h2:j<1073741824:=hc.2;exact floordiv_int (by lia) (by rw[aeh i (by lia)];exact q) (.inl (PyProof.noPylong_small (by lia)))
def PV:uA X (binaryOp .Mod) (rI (fun _ j=>0<j) fun i j=>.int (i % j)):=SA fun i j _ _ _ _ _ hc q=>by
 have h1:(0:Int)<j:=hc;exact mod_int' (by lia) (by rw[Int.fmod_eq_emod_of_nonneg i (by lia)];exact q)
def PX:uA X (binaryOp .Pow) (rI Ue fun i j=>.int (i ^ j.toNat)):=SA fun _ _ _ _ _ _ _ hc q=>pow_int_small hc.1 hc.2.1 hc.2.2 q
def PY:uA X (binaryOp .LShift) (rI Ue fun i j=>.int (i*2 ^ j.toNat)):=SA fun _ _ _ _ _ _ _ hc q=>lshift_int_small hc.1 hc.2.1 hc.2.2 q
def PZ:uA X (binaryOp .RShift) (rI (fun _ j=>0<=j) fun i j=>.int (i / 2 ^ j.toNat)):=SA fun i j _ _ _ _ _ hc q=>
 rshift_int hc (by rw[aeh i (C8 _)];exact q)
def P0:uA X (binaryOp .BitAnd) (LY fun i j=>.int (Builtin.bitAnd i j)):=LZ fun _ _ _ _ _ _ _ q=>and_int q
def Ug:uA X (binaryOp .BitOr) (LY fun i j=>.int (Builtin.bitOr i j)):=LZ fun _ _ _ _ _ _ _ q=>or_int q
def unI {f:Value->Sem Value}{g:Int->Int}
  (rule:∀(i:Int) (t:Tok) (s:Shared) (Q:AAE) (E:AAE),Q (.int (g i) s.toks) {s with toks:=s.toks+1}->wpAny (model X.prog X.w) X.A (f (.int i t)) Q E s):
  Ua X f (rU fun i=>.int (g i)):=by
 intro pins s σ H x v Q I rx h;obtain⟨i,rfl,q⟩:=h;obtain⟨t,rfl⟩:=rx;exact rule i t s _ _ ⟨.int (g i),H,I.tok _,⟨_,rfl⟩,q⟩
def P1:Ua X (unaryOp .USub) (rU fun i=>.int (-i)):=unI fun _ _ _ _ _ q=>neg_int q
end
section
variable {X:Cx}{a b c:Expr}{ta tb:TE}{pos:Pos}
def P4 {s:Shared}{Q:VK}{k k':Bool}(I:Inv X pins σ H s) (q:Q (.bl k) H) (e:k=k'):EP X pins σ Q (.bool k') s:=by
 subst e;exact⟨.bl k,H,I,rfl,q⟩
def Uh:uA X (compareOp .Lt) (LY fun i j=>.bl (decide (i<j))):=PL fun _ _ _ _ _ _ _ q=>lt_int q
def Ui:uA X (compareOp .Gt) (LY fun i j=>.bl (decide (j<i))):=PL fun _ _ _ _ _ _ _ q=>gt_int q
def Uj:uA X (compareOp .GtE) (LY fun i j=>.bl (decide (j<=i))):=PL fun _ _ _ _ _ _ _ q=>ge_int q
def Gn:uA X (compareOp .In) (fun x y H Q=>∃i j,x= .str i/\y= .str j/\Q (.bl (!(Builtin.Str.occurrences j i 0 j.length 1).isEmpty)) H):=by
 intro pins s σ H x y v u Q I rx ry h;obtain⟨i,j,rfl,rfl,q⟩:=h;obtain⟨t,rfl⟩:=rx;obtain⟨t',rfl⟩:=ry;exact in_str (P4 I q rfl)
def C9 (b:Expr)(h:op≠.In:=by decide) (h2:op≠.NotIn:=by decide):behindInMarks op b=false:=by
 have e1:(op == CmpOp.In)=false:=by cases op<;>first|rfl|exact absurd rfl h
 have e2:(op == CmpOp.NotIn)=false:=by cases op<;>first|rfl|exact absurd rfl h2
 cases b<;>simp[behindInMarks,e1,e2]
def Ep (ho:uA X (compareOp op) r) (ha:PE X a ta) (hb:PE X b tb) (hm:behindInMarks op b=false):PE X (.Compare a [op] [b] pos) (Oo r ta tb):=by
 intro pins s σ H Q I h;exact wpAny_Compare1 (PK ha hb I h fun v u s2 x y H2 I2 rx ry q=>ho pins s2 σ H2 x y v u Q I2 rx ry q) hm
def Uk (t:TE):TT:=fun σ H Q=>t σ H fun x H'=>∃k,x= .bl k/\Q k H'
def ve (ho:uA X (compareOp op) r) (ha:PE X a ta) (hb:PE X b tb) (hm:behindInMarks op b=false):PT X (.Compare a [op] [b] pos) (Uk (Oo r ta tb)):=by
 intro pins s σ H Q I h;refine wpAny_isTrue_Compare1 (dW (ha pins s σ H _ I h) fun v s1 ⟨x,H1,I1,r1,q1⟩=>dW (hb pins s1 σ H1 _ I1 q1) fun u s2 ⟨y,H2,I2,r2,q2⟩=>
  dW (ho pins s2 σ H2 x y v u _ I2 r1 r2 q2) fun c s3 ⟨z,H3,I3,r3,k,e,q3⟩=>?_) hm
 subst e;cases r3;exact acd ⟨H3,I3,q3⟩
def sP:(sizeLine:Nat)<2 ^ 63:=by rw[abC];decide
def Dc:uA X (binaryOp .Add) (fun x y H Q=>∃i j,x= .str i/\y= .str j/\i.length+j.length<=sizeLine/\Q (.str (i++j)) H):=by
 intro pins s σ H x y v u Q I rx ry h;obtain⟨i,j,rfl,rfl,hz,q⟩:=h;obtain⟨t,rfl⟩:=rx;obtain⟨t',rfl⟩:=ry;exact add_str (fun t' tk=>⟨.str (i++j),H,I.tok _,⟨_,rfl⟩,q⟩) hz
def vals1 {x:V}(r:Vals [x] us):∃u,us=[u]/\RelV x u:=by
 cases r with
 |cons r1 r2=>cases r2;exact⟨_,rfl,r1⟩
def vals2 {x:V}(r:Vals [x,y] us):∃u w',us=[u,w']/\RelV x u/\RelV y w':=by
 cases r with
 |cons r1 r2=>
  cases r2 with
  |cons r3 r4=>cases r4;exact⟨_,_,rfl,r1,r3⟩
def Gp (hc:X.calm=true):gD X (.builtin "min") (fun xs H Q=>∃i j,xs=[.int i,.int j]/\Q (.int (if j<i then j else i)) H):=by
 intro pins s σ H xs us Q I r h;obtain⟨i,j,rfl,q⟩:=h;obtain⟨u,w',rfl,⟨t,rfl⟩,⟨t',rfl⟩⟩:=vals2 r;refine min_two_ints (I.ok.hd hc) fun h' tk k=>⟨_,H,I.kept k,?_,q⟩
 by_cases hj:j<i
 ·rw[if_pos hj,if_pos hj];exact⟨_,rfl⟩
 ·rw[if_neg hj,if_neg hj];exact⟨_,rfl⟩
end
structure Dd (h:Heap) (x dx C:Addr) (mA:AAF):Prop where
 obj:h.get? x=some (PySem.W.instObj C dx)
 ns:h.Ns1 dx mA
 ne:dx≠x
def Gq {h:Heap}{dx:Addr}(n:h.Ns1 dx mA):∃od,h.get? dx=some od/\∀name,PySem.W.lookIn name od=some (mA name):=by
 obtain⟨o,es,ep,ho,hd,hk,_,hm⟩:=n;refine⟨o,ho,fun name=>?_⟩;have e:=hm name;unfold nsFind findBy at e;rw[<-Array.find?_toList] at e;unfold PySem.W.lookIn;rw[hd];dsimp only;split
 ·rename_i y q;rw[q] at e;exact congrArg some e
 ·rename_i q;rw[q] at e;have a:es.toList.any (·.refKey)=false:=by
   rw[ac2];intro y hy;obtain⟨z,t,hkey⟩:=hk y (Array.mem_toList_iff.mp hy);simp[DictEntry.refKey,hkey]
  have a':¬es.toList.any (·.refKey)=true:=by rw[a];exact aeb
  rw[if_neg a'];exact congrArg some e
def Dd.look {h:Heap}{x dx:Addr}(I:Dd h x dx C mA):∃od,PySem.W.InstAt h x (PySem.W.instObj C dx) C (some od)/\∀name,PySem.W.lookIn name od=some (mA name):=
 let⟨od,ho,hl⟩:=Gq I.ns
 ⟨od,⟨I.obj,rfl,rfl,ho⟩,hl⟩
section
variable {prog:Program}{w:World}{A:Around}{E:AAE}{s:Shared}{K:AAD}{x dx C f:Addr}{mA:AAF}{name:Str}{v:Value}
def get_map {expr:Bool}(X:K.In s.heap) (I:Dd s.heap x dx C mA) (hg:PySem.W.plainGet K C name=true) (hh:PySem.W.hasDictIn K C=true)
  (ha:PySem.W.findIn K (.ref C) name=some none) (hv:mA name=some v) (hv':PySem.W.handedIn v=true) (h:Q v {s with toks:=s.toks+1}):
  wpAny (model prog w) A (getAttr (.ref x) name expr) Q E s:=by
 obtain⟨od,J,hl⟩:=I.look;exact PySem.W.get_value X J (ad2 hg).1 (PySem.W.findObj_own hh ha rfl (by rw[hl,hv])) hv' h
def ID {Q:Value×BBG->Shared->Prop}(X:K.In s.heap) (I:Dd s.heap x dx C mA) (hg:PySem.W.plainGet K C name=true)
  (hf:PySem.W.findIn K (.ref C) name=some (some (.ref f))) (ht:PySem.W.isFn K (.ref f)=true) (hv:mA name=none) (h:Q (.ref f,[.ref x]) s):
  wpAny (model prog w) A (getMethod (.ref x) name pl) Q E s:=by
 obtain⟨od,J,hl⟩:=I.look;exact PySem.W.method_fn X J (ad2 hg).1 (ad2 hg).2 hf (aeu.mp ht) (by show(PySem.W.lookIn name od).map (·.isSome)=some false;rw[hl,hv];rfl) h
def L1 {ns:BBB}{Q:Unit->Shared->Prop}(X:K.In s.heap) (I:Dd s.heap x dx C mA)
  (hs:PySem.W.findIn K (.ref C) "__setattr__" =some (some (.builtin "object.__setattr__"))) (hp:PySem.W.plainOver K C=true) (ht:PySem.W.takerIn K C name=some none) (hh:PySem.W.hasDictIn K C=true)
  (hw:PySem.Within mA ns) (hsz:ns.length<=sizeLine)
  (h:∀h',Dd h' x dx C (fun y=>if y=name then some v else mA y)->Heap.SameBut dx s.heap h'->Q () {s with heap:=h',toks:=s.toks+2}):
  wpAny (model prog w) A (setAttr (.ref x) name v) Q E s:=by
 obtain⟨od,J,hl⟩:=I.look;refine PySem.W.set_plain X J hs (PySem.W.osa_open (s:={s with toks:=s.toks+1}) (r:=none) X J hp ht fun b=>?_);obtain⟨cd,hc,hd'⟩:=PySem.W.any_some hh;have hx:s.heap.get? x=some ⟨.ref C,some dx,.plain,#[]⟩:=I.obj;refine aab (wpAny_pure (aab (aab (wpAny_loadPart hx (aab (PySem.W.Looks.here (s:={s with toks:=s.toks+1}) (PySem.W.looks_clsIn X hc) ?_))))));rw[hd'];refine wpAny_pure (a:=some dx) (aab (wpAny_pure (aab ?_)));refine wpAny_nsSet1 (s:={s with toks:=s.toks+1}) I.ns fun h' hn2 hs2=>?_;obtain⟨oD,esD,epD,hoD,hdD,hcD⟩:=hn2.count (PySem.Within.cons name v hw);refine aab (wpAny_lookBehind hoD (by rw[hdD];exact pastItsLine_dict (aaC hcD (by rw[aaG];lia))) ?_);exact wpAny_pure (h _ ⟨(hs2.2 _ (abJ I.ne)).trans I.obj,hn2,I.ne⟩ hs2)
def IE {R:Result->Shared->Prop}{vs:AAL}(X:K.In s.heap) (hm:PySem.W.makesIn K C=true)
  (hi:PySem.W.findIn K (.ref C) "__init__" =some (some (.ref f))) (hf:PySem.W.typeIn K (.ref f)=some (.type "function"))
  (h:codeAny (model prog w) (A.under (.builtin "type.__call__" ⟨.ref C::vs,kw⟩)) (.call (.ref f) ⟨.ref (s.heap.objs.size+1)::vs,kw⟩) (PySem.W.InitBack (s.heap.objs.size+1) R)
   {s with heap:=(s.heap.push PySem.W.emptyDict).push (PySem.W.instObj C s.heap.objs.size)}):
  codeAny (model prog w) A (.call (.ref C) ⟨vs,kw⟩) R s:=by
 obtain⟨hh,g,d,t,os⟩:=s;exact PySem.W.make_core (PySem.W.makes_of X hm) (PySem.W.looks_findIn X hi) (fun self=>PySem.W.bind_fn X self hf) (.inl rfl) h
end
noncomputable def mC (f:Str) (v:V):List (Str×V)->List (Str×V)
 |[]=>[(f,v)]
 |(g,x)::r=>if g=f then(g,v)::r else(g,x)::mC f v r
theorem uB (f g:Str) (v:V):∀fs:List (Str×V),(mC f v fs).lookup g=if g=f then some v else fs.lookup g
 |[]=>by
  show List.lookup g [(f,v)]=_;by_cases h:g=f
  ·have hb:(g == f)=true:=aeu.mpr h;simp only[List.lookup,hb,if_pos h]
  ·have hb:(g == f)=false:=acf.mpr h;simp only[List.lookup,hb,if_neg h]
 |(k,x)::r=>by
  have ih:=uB f g v r;rw[show mC f v ((k,x)::r)=(if k=f then(k,v)::r else(k,x)::mC f v r) from rfl];by_cases hk:k=f
  ·rw[if_pos hk];by_cases h:g=k
   ·have hb:(g == k)=true:=aeu.mpr h;simp only[List.lookup,hb,if_pos (h.trans hk)]
   ·have hb:(g == k)=false:=acf.mpr h;simp only[List.lookup,hb,if_neg (fun e:g=f=>h (e.trans hk.symm))]
  ·rw[if_neg hk];by_cases h:g=k
   ·have hb:(g == k)=true:=aeu.mpr h;simp only[List.lookup,hb,if_neg (fun e:g=f=>hk (h.symm.trans e))]
   ·have hb:(g == k)=false:=acf.mpr h;simp only[List.lookup,hb];exact ih
theorem sQ (f:Str) (v:V):∀fs:List (Str×V),f∈(mC f v fs).map (·.1)/\∀g,g∈fs.map (·.1)->g∈(mC f v fs).map (·.1)
 |[]=>⟨by simp[mC],fun g h=>by simp at h⟩
 |(k,x)::r=>by
  obtain⟨i1,i2⟩:=sQ f v r;rw[show mC f v ((k,x)::r)=(if k=f then(k,v)::r else(k,x)::mC f v r) from rfl];by_cases hk:k=f
  ·rw[if_pos hk];subst hk;exact⟨by simp,fun g h=>by simpa using h⟩
  ·rw[if_neg hk];refine⟨?_,fun g h=>?_⟩
   ·rw[abj];exact aag _ i1
   ·rw[abj] at h ⊢;rcases aao.mp h with e|e
    ·exact aao.mpr (.inl e)
    ·exact aag _ (i2 g e)
theorem uC (f:Str) (v:V):∀fs:List (Str×V),(mC f v fs).length<=fs.length+1
 |[]=>by simp[mC]
 |(k,x)::r=>by
  have ih:=uC f v r;rw[show mC f v ((k,x)::r)=(if k=f then(k,v)::r else(k,x)::mC f v r) from rfl];by_cases hk:k=f
  ·rw[if_pos hk,aaG,aaG];lia
  ·rw[if_neg hk,aaG,aaG];lia
def nG.some_of {v:V}{o:BBP}(r:nG (some v) o):∃u,o=some u/\RelV v u:=by
 cases o with
 |none=>exact(show False from r).elim
 |some u=>exact⟨u,rfl,r⟩
def nG.none_of {o:BBP}(r:nG none o):o=none:=by
 cases o with
 |none=>rfl
 |some u=>exact(show False from r).elim
def Gr {v:V}(r:RelV v u):PySem.W.handedIn u=true:=by
 cases v with
 |bQ=>cases(show u=Value.none from r);rfl
 |bl b=>cases(show u=Value.bool b from r);rfl
 |int i=>obtain⟨t,e⟩:=(show ∃t,u=Value.int i t from r);cases e;rfl
 |str x=>obtain⟨t,e⟩:=(show ∃t,u=Value.str x t from r);cases e;rfl
 |WL b=>obtain⟨t,e⟩:=(show ∃t,u=Value.bytes b t from r);cases e;rfl
 |flt b=>obtain⟨t,e⟩:=(show ∃t,u=Value.float b t from r);cases e;rfl
 |ref a=>cases(show u=Value.ref a from r);rfl
 |ty n=>cases(show u=Value.type n from r);rfl
section
variable {P:Program}{w:World}{H:Hp}{h:Heap}{a C dx:Addr}{fs:List (Str×V)}
def zN (hok:nF P w H h) (e:H a=some (.ins C dx fs)):∃mA,Dd h a dx C mA/\(∀f,nG (fs.lookup f) (mA f))/\PySem.Within mA (fs.map (·.1))/\fs.length<=1000/\H dx=some (.own a):=by
 obtain⟨d,z,ne,ob,mA,n,r,q⟩:=(show dZ P w H h a (.ins C dx fs) from hok a _ e)
 exact⟨mA,⟨ob,n,ne⟩,r,q,z,d⟩
end
structure yw (K:AAD) (C:Addr):Prop where
 pg:PySem.W.plainGet K C Str.empty=true
 hd:PySem.W.hasDictIn K C=true
 po:PySem.W.plainOver K C=true
 sa:PySem.W.findIn K (.ref C) "__setattr__" =some (some (.builtin "object.__setattr__"))
def yw.get (c:yw K C) (f:Str):PySem.W.plainGet K C f=true:=c.pg
def eY (K:AAD) (C:Addr) (f:Str):Prop:=PySem.W.findIn K (.ref C) f=some none
def eY.Ul {f:Str}(n:eY K C f):PySem.W.takerIn K C f=some none:=by
 unfold PySem.W.takerIn;rw[show PySem.W.findIn K (.ref C) f=some none from n];rfl
structure Meth (K:AAD) (C:Addr) (m:Str) (f:Addr):Prop where
 at_:PySem.W.findIn K (.ref C) m=some (some (.ref f))
 fn:PySem.W.isFn K (.ref f)=true
 kp:PySem.W.keepIn K (.ref f)=true
section
variable {X:Cx}{pins:AAG}{σ:St}{H:Hp}{s:Shared}{a C dx:Addr}{fs:List (Str×V)}{f:Str}{v:V}{A:Around}{E:AAE}
def De {b:Bool}(I:Inv X pins σ H s) (e:H a=some (.ins C dx fs)) (c:yw X.K C) (n:eY X.K C f) (l:fs.lookup f=some v)
  (h:∀u s',Inv X pins σ H s'->RelV v u->Q u s'):wpAny (model X.prog X.w) A (getAttr (.ref a) f b) Q E s:=by
 obtain⟨mA,O,r,_,_,_⟩:=zN I.hok e;obtain⟨u,hu,ru⟩:=nG.some_of (v:=v) (o:=mA f) (by rw[<-l];exact r f);exact get_map I.zI O (c.get f) c.hd n hu (Gr ru) (h u _ (I.tok _) ru)
def Dg {m:Str}{g:Addr}{Q:Value×BBG->Shared->Prop}(I:Inv X pins σ H s) (e:H a=some (.ins C dx fs)) (c:yw X.K C) (k:Meth X.K C m g) (l:fs.lookup m=none)
  (h:Q (.ref g,[.ref a]) s):wpAny (model X.prog X.w) A (getMethod (.ref a) m pl) Q E s:=by
 obtain⟨mA,O,r,_,_,_⟩:=zN I.hok e;have hn:mA m=none:=nG.none_of (by rw[<-l];exact r m);exact ID I.zI O (c.get m) k.at_ k.fn hn h
def Dh {Q:Unit->Shared->Prop}(I:Inv X pins σ H s) (e:H a=some (.ins C dx fs)) (c:yw X.K C) (n:eY X.K C f) (hl:fs.length<1000) (ry:RelV y u)
  (h:∀s',Inv X pins σ (upd H a (.ins C dx (mC f y fs))) s'->Q () s'):wpAny (model X.prog X.w) A (setAttr (.ref a) f u) Q E s:=by
 obtain⟨mA,O,r,wi,_,ho⟩:=zN I.hok e;have hz:(fs.map (·.1)).length<=sizeLine:=by rw[aai,abC];lia
 refine L1 I.zI O c.sa c.po n.Ul c.hd wi hz fun h' O' sb=>h _ ?_;have hd:∃o,h'.get? dx=some o:=let⟨o,_,_,e',_⟩:=O'.ns;⟨o,e'⟩
 refine I.write (x:=a) (e:=dx) (by rw[e];exact True.intro) (.inr ho) (fun b q hb z=>(sb.2 b hb).trans z) hd ?_;refine⟨by rw[aP O.ne];exact ho,?_,O.ne,O'.obj,_,O'.ns,fun g=>?_,fun g hg=>?_⟩
 ·have:=uC f y fs;lia
 ·show nG ((mC f y fs).lookup g) (if g=f then some u else mA g);rw[uB];by_cases q:g=f
  ·rw[if_pos q,if_pos q];exact ry
  ·rw[if_neg q,if_neg q];exact r g
 ·by_cases q:g=f
  ·rw[q];exact(sQ f y fs).1
  ·refine(sQ f y fs).2 g (wi g fun z=>hg ?_);show(if g=f then some u else mA g)=none;rw[if_neg q];exact z
def Inv.made (I:Inv X pins σ H s):Inv X pins σ (upd (upd H s.heap.objs.size (.own (s.heap.objs.size+1))) (s.heap.objs.size+1) (.ins C s.heap.objs.size []))
  {s with heap:=(s.heap.push PySem.W.emptyDict).push (PySem.W.instObj C s.heap.objs.size)}:=by
 have e1:(s.heap.push PySem.W.emptyDict).get? s.heap.objs.size=some PySem.W.emptyDict:=aaB s.heap rfl;have e2:((s.heap.push PySem.W.emptyDict).push (PySem.W.instObj C s.heap.objs.size)).get? (s.heap.objs.size+1)=some (PySem.W.instObj C s.heap.objs.size):=by
  have:=aaB (s.heap.push PySem.W.emptyDict) (o:=PySem.W.instObj C s.heap.objs.size) rfl
  rwa [acB] at this
 have e3:(s.heap.push PySem.W.emptyDict).Ns s.heap.objs.size (fun _=>none):=⟨PySem.W.emptyDict,#[],_,e1,rfl,(fun e he=>absurd he (by simp)),fun _=>rfl⟩
 have I1:=I.laid (a:=s.heap.objs.size) (o:=.own (s.heap.objs.size+1)) (h':=s.heap.push PySem.W.emptyDict) (t':=s.toks) (fun b u q=>aac _ q) (aaj _) ⟨_,e1⟩;refine I1.laid (a:=s.heap.objs.size+1) (o:=.ins C s.heap.objs.size []) (t':=s.toks) (fun b u q=>aac _ q) (Nat.le_of_eq (acB _ _)) ?_;have ne:s.heap.objs.size≠s.heap.objs.size+1:=aaF (acD _);refine⟨by rw[aP ne,aO],aaM _,ne,e2,fun _=>none,(Heap.Ns1.of_empty e3).at fun o q=>aac _ q,fun _=>True.intro,fun y hy=>absurd rfl hy⟩
def L3 {env:Env}{e:Expr}(hb:attributeBase e f env (eval e env)=eval e env)
  (h:wpAny (model prog w) A (eval e env) (fun o s₁=>wpAny (model prog w) A (getAttr o f true) Q E s₁) E s):wpAny (model prog w) A (eval (.Attribute e f pos) env) Q E s:=
 Attribute_any_ h (by rw[arm_eval_Attribute,hb])
end
def Um (K:AAD) (ta:TE) (f:Str):TE:=fun σ H Q=>ta σ H fun x H1=>∃a C dx fs v,x= .ref a/\H1 a=some (.ins C dx fs)/\yw K C/\eY K C f/\fs.lookup f=some v/\Q v H1
def YB (K:AAD) (ta tv:TE) (f:Str):TS:=fun D σ H=>tv σ H fun y H1=>ta σ H1 fun x H2=>∃a C dx fs,x= .ref a/\H2 a=some (.ins C dx fs)/\yw K C/\eY K C f/\fs.length<1000/\
 D.nx σ (upd H2 a (.ins C dx (mC f y fs)))
section
variable {X:Cx}{o e value:Expr}{f:Str}{pos pos':Pos}{ta tv:TE}
def qm (he:PE X e ta) (hb:attributeBase e f X.env (eval e X.env)=eval e X.env):PE X (.Attribute e f pos) (Um X.K ta f):=by
 intro pins s σ H Q I h;refine L3 hb (dW (he pins s σ H _ I h) fun u s1 hh=>?_);obtain⟨x,H1,I1,rx,a,C,dx,fs,v,ex,ea,c,n,l,q⟩:=hh;subst ex;obtain rfl:u=Value.ref a:=rx;exact De I1 ea c n l fun u' s2 I2 ru=>⟨v,H1,I2,ru,q⟩
def zO (ha:PE X o ta) (hv:PE X value tv) (hs:swapsWith value (some (.Attribute o f pos')) pos.line X.env=pure false):PS X (.Assign [.Attribute o f pos'] value pos) (YB X.K ta tv f):=by
 intro pins s σ H D I h;refine plainObj_wpAny_Assign_Attribute (dW (hv pins s σ H _ I h) fun u s1 ⟨y,H1,I1,ry,q⟩=>dW (ha pins s1 σ H1 _ I1 q) fun ov s2 hh=>?_) hs;obtain⟨x,H2,I2,rx,a,C,dx,fs,ex,ea,c,n,l,q2⟩:=hh;subst ex;obtain rfl:ov=Value.ref a:=rx;exact Dh I2 ea c n l ry fun s3 I3=>⟨σ,_,I3,q2⟩
end
structure fE (k:Nat) (A:Around):Prop where
 hd:A.handled=none
 dp:A.depth+3*k+5<recursionLimit
 un:A.units+16*k+200<cLine
 gd:A.guards=some []
def fE.mono {j:Nat}(r:fE k A) (h:j<=k):fE j A:=⟨r.hd,by have:=r.dp;lia,by have:=r.un;lia,r.gd⟩
def fE.deeper {k:Nat}{A:Around}(r:fE (k+1) A) (env:Env):fE k (A.deeper env):=
 ⟨r.hd,by have:=r.dp;show A.depth+1+3*k+5<_;lia,by have:=r.un;show A.units+3+16*k+200<_;lia,r.gd⟩
def Di :(A.under (.builtin "type.__call__" ⟨.ref C::us,kw⟩)).depth=A.depth+1:=by
 first|rfl|simp[Around.under,Code.weight,Code.isCreation,Code.isGuard,Code.isCaller,Code.frames,Code.isFrame,guardIds]
def Dj :(A.under (.builtin "type.__call__" ⟨.ref C::us,kw⟩)).units=A.units+1:=by
 first|rfl|simp[Around.under,Code.cUnits,Code.frames,Code.isFrame]
def fE.make (r:fE (k+1) A) (C:Addr) (us:AAL) (kw:List (Str×Value)):fE k (A.under (.builtin "type.__call__" ⟨.ref C::us,kw⟩)):=
 ⟨r.hd,by have:=r.dp;rw[Di];lia,by have:=r.un;rw[Dj];lia,r.gd⟩
def fE.depth {k:Nat}{A:Around}(r:fE k A):A.depth<recursionLimit:=by have:=r.dp;lia
def fE.units {k:Nat}{A:Around}(r:fE k A):A.units+64<cLine:=by have:=r.un;lia
def P5:TA:=fun _ H Q=>Q [] H
def Oq (ta:TE) (tr:TA):TA:=fun σ H Q=>ta σ H fun x H1=>tr σ H1 fun xs H2=>Q (x::xs) H2
section
variable {X:Cx}{e:Expr}{es:BBC}{te:TE}{t:TA}{pos:Pos}
def k7:PA X [] P5:=fun _ _ _ _ H Q I h=>Calls.spliced_nil ⟨[],H,I,.nil,h⟩
def gj (ha:PE X e te) (hr:PA X es t) (hs:starEach (e::es) X.env=(false,eval e X.env)::starEach es X.env:=by rfl):PA X (e::es) (Oq te t):=by
 intro pos pins s σ H Q I h;rw[hs];show wpAny _ _ (spliced ((false,eval e X.env)::backTo pos (starEach es X.env))) _ _ s;refine Calls.spliced_cons (dW (ha pins s σ H _ I h) fun u s1 hh=>?_);obtain⟨x,H1,I1,r1,q1⟩:=hh;exact dW (hr pos pins s1 σ H1 _ I1 q1) fun us s2 ⟨xs,H2,I2,r2,q2⟩=>⟨x::xs,H2,I2,.cons r1 r2,q2⟩
def YC (t:TA):TE:=fun σ H Q=>t σ H fun xs H1=>xs.length<=sizeLine/\∀p,H1 p=none->Q (.ref p) (upd H1 p (.tup xs))
def YD (t:TA):TE:=fun σ H Q=>t σ H fun xs H1=>xs.length<=sizeLine/\∀p,H1 p=none->Q (.ref p) (upd H1 p (.lst xs))
def P6 {x1}(h:PA X es t):PE X (.Tuple es x1 pos) (YC t):=by
 intro pins s σ H Q I hq;refine wpAny_Tuple_spliced (dW (h pos pins s σ H _ I hq) fun us s1 ⟨xs,H1,I1,r,z,q⟩=>⟨by rw[<-r.length];exact z,?_⟩);have hf:H1 s1.heap.objs.size=none:=I1.hok.fresh (aaj _);refine⟨.ref s1.heap.objs.size,upd H1 s1.heap.objs.size (.tup xs),I1.laid (t':=s1.toks) (fun b u e=>aac _ e) (aaj _) ?_,rfl,q _ hf⟩;exact⟨z,us,r,⟨_,aaB _ rfl,rfl,_,rfl⟩⟩
def IF (h:PA X es t):PE X (.List es pos) (YD t):=by
 intro pins s σ H Q I hq;refine wpAny_List_spliced (dW (h pos pins s σ H _ I hq) fun us s1 ⟨xs,H1,I1,r,z,q⟩=>⟨by rw[<-r.length];exact z,?_⟩);have hf:H1 s1.heap.objs.size=none:=I1.hok.fresh (aaj _);refine⟨.ref s1.heap.objs.size,upd H1 s1.heap.objs.size (.lst xs),I1.laid (t':=s1.toks) (fun b u e=>aac _ e) (aaj _) ?_,rfl,q _ hf⟩;exact⟨z,us,0,r,aaB _ rfl⟩
end
abbrev Sp:=List V->Hp->VK->XK->Prop
abbrev HU:=BBF->Hp->Shared->XK->Value->Shared->Prop
structure Dk (P:Program) (w:World) (K:AAD) (mg:AAF) (base:Heap) (A:Around) (outer:BBF) (s:Shared) (H:Hp):Prop where
 frames:A.frames=some outer
 mod:Mod K mg base
 bs:∀b o,base.get? b=some o->s.heap.get? b=some o/\H b=none
 Gi:base.objs.size<=s.heap.objs.size
 qW:s.heap.FunFrames base outer
 LP:∀b∈frs outer,H b=none
 hok:nF P w H s.heap
 bare:AllBare s.gens
def CE (outer:BBF) (P:Program) (w:World) (H:Hp) (s:Shared) (Q:VK) (u:Value) (s':Shared):Prop:=
 ∃v H',s'.os=s.os/\AllBare s'.gens/\Un (frs outer) [] H H' s.heap s'.heap/\nF P w H' s'.heap/\RelV v u/\Q v H'
def CR (CX:HU) (outer:BBF) (P:Program) (w:World) (H:Hp) (s:Shared) (Q:VK) (E:XK) (r:Result) (s':Shared):Prop:=
 match r with
 |.ok (.ret u)=>CE outer P w H s Q u s'
 |.ok _=>False
 |.error e=>CX outer H s E e s'
structure j7 (P:Program) (w:World) (K:AAD) (mg:AAF) (base:Heap) (CX:HU) (k:Nat) (f:Addr) (fd:FuncData) (ps:BBB) (sp:Sp):Prop where
 len:∀vs H Q E,sp vs H Q E->vs.length=ps.length
 run:∀(A:Around) (outer:BBF) (s:Shared) (H:Hp) (args:Args) (us:AAL) (vs:List V) (Q:VK) (E:XK),fE k A->Dk P w K mg base A outer s H->BindsTo s fd args (ps.zip us)->Vals vs us->sp vs H Q E->
  codeAny (model P w) A (.call (.ref f) args) (CR CX outer P w H s Q E) s
def j7.mono {P:Program}{w:World}{K:AAD}{mg:AAF}{base:Heap}{CX:HU}{j k:Nat}{f:Addr}{fd:FuncData}{ps:BBB}{sp:Sp}(F:j7 P w K mg base CX j f fd ps sp) (h:j<=k):
  j7 P w K mg base CX k f fd ps sp:=⟨F.len,fun A outer s H args us vs Q E hr=>F.run A outer s H args us vs Q E (hr.mono h)⟩
def Dk.make {s:Shared}(e:Dk P w K mg base A outer s H) (C:Addr) (us:AAL) (kw:List (Str×Value)):
  Dk P w K mg base (A.under (.builtin "type.__call__" ⟨.ref C::us,kw⟩)) outer s H:=⟨by first|exact e.frames|(simpa[Around.under,Code.envs,Code.isFrame,pushEnvs] using e.frames),e.mod,e.bs,e.Gi,e.qW,e.LP,e.hok,e.bare⟩
section
variable {X:Cx}{pins:AAG}{σ:St}{H:Hp}{s s':Shared}
def Inv.Uo (I:Inv X pins σ H s):Dk X.prog X.w X.K X.mg X.base X.A X.stack s H:=
 ⟨I.ok.frames,I.ok.mod,I.bs,aaC I.ok.Gi I.sz,I.stack,I.zJ,I.hok,I.bare⟩
def Inv.after {Q:VK}(I:Inv X pins σ H s) (h:CE X.stack X.prog X.w H s Q u s'):EP X pins σ Q u s':=by
 obtain⟨v,H',os,bare,un,hok,r,q⟩:=h;obtain⟨hh,g,d,t,os'⟩:=s';obtain rfl:os'=s.os:=os;exact⟨v,H',I.call (h':=hh) (g':=g) (d':=d) (t':=t) (ch:=[]) un hok bare (fun b z=>absurd z (by simp)),r,q⟩
end
def Up (sp:Sp) (zP:List V) (E:XK) (t:TA):TE:=fun σ H Q=>t σ H fun vs H1=>sp (vs++zP) H1 Q E
def Uq (C:Addr) (m:Str) (sp:Sp) (zP:List V) (E:XK) (ta:TE) (t:TA):TE:=fun σ H Q=>ta σ H fun x H1=>∃a dx fs,x= .ref a/\H1 a=some (.ins C dx fs)/\fs.lookup m=none/\
 t σ H1 fun vs H2=>sp (x::(vs++zP)) H2 Q E
def Ur (C:Addr) (sp:Sp) (zP:List V) (E:XK) (t:TA):TE:=fun σ H Q=>t σ H fun vs H1=>∀x dx,H1 x=none->H1 dx=none->dx≠x->
 sp (.ref x::(vs++zP)) (upd (upd H1 dx (.own x)) x (.ins C dx [])) (fun v H2=>v= .bQ/\Q (.ref x) H2) E
def Binds (K:AAD) (fd:FuncData) (ps:BBB) (ds:AAL):Prop:=
 ∀(s:Shared) (us:AAL),K.In s.heap->(us++ds).length=ps.length->BindsTo s fd ⟨us,[]⟩ (ps.zip (us++ds))
def Binds.all {fd:FuncData}(h:∀us:BBG,us.length=ps.length->bindArgs fd ⟨us,[]⟩=pure (ps.zip us)):Binds K fd ps []:=fun s us _ hl=>by
 rw[ab5] at hl ⊢;exact .of_eq (h us hl)
def Passes (CX:HU) (X:Cx) (E:XK):Prop:=∀(pins:AAG) (σ:St) (H:Hp) (s:Shared) (e:Value) (s':Shared),Inv X pins σ H s->CX X.stack H s E e s'->X.xe e s'
section
variable {X:Cx}{CX:HU}{k:Nat}{f C:Addr}{fd:FuncData}{ps:BBB}{sp:Sp}{zP:List V}{ds:AAL}{E:XK}{x m:Str}{p pos apos:Pos}{e o:Expr}{es:BBC}{ta:TE}{t:TA}
def IG {s:Shared}{Q:VK}(F:j7 X.prog X.w X.K X.mg X.base CX k f fd ps sp) (hr:fE k X.A) (hb:Binds X.K fd ps ds) (hd:Vals zP ds) (hx:Passes CX X E)
  (I:Inv X pins σ H s) (r:Vals vs us) (h:sp (vs++zP) H Q E):wpAny (model X.prog X.w) X.A (call (.ref f) us) (EP X pins σ Q) X.xe s:=by
 have r2:Vals (vs++zP) (us++ds):=r.append hd;have hl:(us++ds).length=ps.length:=by rw[<-r2.length];exact F.len _ _ _ _ h
 refine wpAny_call (ac5 (F.run X.A X.stack s H ⟨us,[]⟩ (us++ds) (vs++zP) Q E hr I.Uo (hb s us I.zI hl) r2 h) fun r s' hq=>?_);cases r with
 |error e=>exact hx pins σ H s e s' I hq
 |ok fl=>
  cases fl with
  |ret u=>exact I.after hq
  |next=>exact False.elim hq
  |brk=>exact False.elim hq
  |cont=>exact False.elim hq
def Er (F:j7 X.prog X.w X.K X.mg X.base CX k f fd ps sp) (hr:fE k X.A) (hg:Gl X x) (hm:X.mg x=some (.ref f)) (hk:PySem.W.keepIn X.K (.ref f)=true) (hb:Binds X.K fd ps ds) (hd:Vals zP ds) (hx:Passes CX X E)
  (ha:PA X (e::es) t) (hdb:BBT x:=by decide) (he:starEach (e::es) X.env=(false,eval e X.env)::starEach es X.env:=by rfl) (hpl:(backTo pos (starEach es X.env)).any (·.1)=false:=by rfl):
  PE X (.Call (.Name x p) (e::es) [] pos) (Up sp zP E t):=by
 intro pins s σ H Q I h;refine abW (zL I hg hm ?_ hdb);refine PySem.W.callWith_K (h₀:=X.base) I.ok.mod.WN hk (dW (ha pos pins s σ H _ I h) fun us s1 ⟨vs,H1,I1,r,q⟩=>⟨I1.zI,?_⟩) he hpl;exact IG F hr hb hd hx I1 r q
def L4 (he:PE X o ta) (c:yw X.K C) (hm:Meth X.K C m f) (F:j7 X.prog X.w X.K X.mg X.base CX k f fd ps sp) (hr:fE k X.A) (hb:Binds X.K fd ps ds) (hd:Vals zP ds) (hx:Passes CX X E) (ha:PA X (e::es) t)
  (hst:starEach (e::es) X.env=(false,eval e X.env)::starEach es X.env:=by rfl) (hpl:(backTo pos (starEach es X.env)).any (·.1)=false:=by rfl)
  (ht:eval (.Call (.Attribute o m apos) (e::es) [] pos) X.env=(do
   let ov <-eval o X.env
   standAt apos.atName
   let(f,first) <-holding [ov] (getMethod ov m pl)
   callWith pos f first (backTo pos (starEach (e::es) X.env)) (backToKw pos (keywordEach [] X.env))):=by rfl):
  PE X (.Call (.Attribute o m apos) (e::es) [] pos) (Uq C m sp zP E ta t):=by
 intro pins s σ H Q I h;refine PySem.W.methodCall_KW (pl:=pl) (dW (he pins s σ H _ I h) fun u s1 hh=>?_) ht;obtain⟨x,H1,I1,rx,a,dx,fs,ex,ea,l,q⟩:=hh;subst ex;obtain rfl:u=Value.ref a:=rx;refine Dg I1 ea c hm l ?_;refine PySem.W.callWith_K (first:=[.ref a]) (h₀:=X.base) I.ok.mod.WN hm.kp (dW (ha pos pins s1 σ H1 _ I1 q) fun us s2 ⟨vs,H2,I2,r,q2⟩=>⟨I2.zI,?_⟩) hst hpl;exact IG (us:=.ref a::us) (vs:=.ref a::vs) F hr hb hd hx I2 (.cons rfl r) q2
structure Mk (K:AAD) (C f:Addr):Prop where
 makes:PySem.W.makesIn K C=true
 init:PySem.W.findIn K (.ref C) "__init__" =some (some (.ref f))
 fn:PySem.W.isFn K (.ref f)=true
 kp:PySem.W.keepIn K (.ref C)=true
def II {s:Shared}{Q:VK}(M:Mk X.K C f) (F:j7 X.prog X.w X.K X.mg X.base CX k f fd ps sp) (hr:fE (k+1) X.A) (hb:Binds X.K fd ps ds) (hd:Vals zP ds)
  (hx:Passes CX X E) (I:Inv X pins σ H s) (r:Vals vs us)
  (h:∀x dx,H x=none->H dx=none->dx≠x->sp (.ref x::(vs++zP)) (upd (upd H dx (.own x)) x (.ins C dx [])) (fun v H2=>v= .bQ/\Q (.ref x) H2) E):
  wpAny (model X.prog X.w) X.A (call (.ref C) us) (EP X pins σ Q) X.xe s:=by
 have hq:=h (s.heap.objs.size+1) s.heap.objs.size (I.hok.fresh (acj _)) (I.hok.fresh (aaj _)) (aaF (acD _));have I2:=Inv.made (C:=C) I;have r2:Vals (V.ref (s.heap.objs.size+1)::(vs++zP)) (Value.ref (s.heap.objs.size+1)::(us++ds)):=.cons rfl (r.append hd);have hl:(Value.ref (s.heap.objs.size+1)::us++ds).length=ps.length:=by
  have e:=r2.length;rw[F.len _ _ _ _ hq] at e;exact e.symm
 refine wpAny_call (IE (f:=f) I.zI M.makes M.init (aeu.mp M.fn) (ac5 (F.run _ X.stack _ _ ⟨Value.ref (s.heap.objs.size+1)::us,[]⟩ (Value.ref (s.heap.objs.size+1)::(us++ds)) _ _ E (hr.make C us [])
  (I2.Uo.make C us []) (hb _ (Value.ref (s.heap.objs.size+1)::us) I2.zI hl) r2 hq) fun r s' hq'=>?_))
 cases r with
 |error e=>exact hx pins σ _ _ e s' I2 hq'
 |ok fl=>
  cases fl with
  |ret u=>
   obtain⟨v,H',I3,rv,ev,q3⟩:=I2.after hq';subst ev;exact⟨rv,⟨V.ref (s.heap.objs.size+1),H',I3,rfl,q3⟩⟩
  |next=>exact False.elim hq'
  |brk=>exact False.elim hq'
  |cont=>exact False.elim hq'
def IJ (M:Mk X.K C f) (F:j7 X.prog X.w X.K X.mg X.base CX k f fd ps sp) (hr:fE (k+1) X.A) (hg:Gl X x) (hm:X.mg x=some (.ref C)) (hb:Binds X.K fd ps ds) (hd:Vals zP ds) (hx:Passes CX X E)
  (hdb:BBT x:=by decide):PE X (.Call (.Name x p) [] [] pos) (Ur C sp zP E P5):=by
 intro pins s σ H Q I h;refine abW (zL I hg hm ?_ hdb);exact PySem.W.callWith_K0 I.zI M.kp (II (us:=[]) M F hr hb hd hx I .nil h)
end
structure bG (N P:BBB) (sc:Scope):Prop where
 kind:sc.kind= .function
 co:sc.isCoroutine=false
 gen:sc.isGenerator=false
 nd:N.Nodup
 pre:N.take P.length=P
 par:∀x∈P,sc.names.lookup x=some .local\/sc.names.lookup x=some .cell
 P7:∀y∈sc.names,y.2≠.free
theorem yx {kindOf:Str->Option NameKind}{x:Str}:∀{binds:List (Str×Value)}{m:AAF},(∀v,(x,v)∉binds)->bindL kindOf binds m x=m x
 |[],_,_=>rfl
 |(n,v)::r,m,h=>by
  unfold bindL;rw[yx fun w hw=>h w (aag _ hw)];split
  ·have:x≠n:=by rintro rfl;exact h v aak
   simp[this]
  ·rfl
theorem yy {kindOf:Str->Option NameKind}{x:Str}:∀{binds:List (Str×Value)}{m:AAF},(∀v,(x,v)∉binds)->bindC kindOf binds m x=m x
 |[],_,_=>rfl
 |(n,v)::r,m,h=>by
  unfold bindC;rw[yy fun w hw=>h w (aag _ hw)];split
  ·rfl
  ·have:x≠n:=by rintro rfl;exact h v aak
   simp[this]
theorem yz {kindOf:Str->Option NameKind}{x:Str}{v:Value}:∀{P:BBB}{vs:AAL}{i:Nat}{m:AAF},P.Nodup->P[i]? =some x->vs[i]? =some v->kindOf x=some .local->
  bindL kindOf (P.zip vs) m x=some v
 |[],_,_,_,_,h,_,_=>by simp at h
 |_::_,[],_,_,_,_,h,_=>by simp at h
 |p::P,w::vs,0,m,nd,h1,h2,hk=>by
  simp at h1 h2;subst h1;subst h2;show bindL kindOf ((p,w)::P.zip vs) m p=_;unfold bindL;rw[yx fun v hv=>(abo.mp nd).1 (aeM hv).1,if_pos hk];simp
 |p::P,w::vs,i+1,m,nd,h1,h2,hk=>by
  show bindL kindOf ((p,w)::P.zip vs) m x=_;unfold bindL;exact yz (i:=i) (abo.mp nd).2 (by simpa using h1) (by simpa using h2) hk
theorem yC {kindOf:Str->Option NameKind}{x:Str}{v:Value}:∀{P:BBB}{vs:AAL}{i:Nat}{m:AAF},P.Nodup->P[i]? =some x->vs[i]? =some v->kindOf x≠some .local->
  bindC kindOf (P.zip vs) m x=some v
 |[],_,_,_,_,h,_,_=>by simp at h
 |_::_,[],_,_,_,_,h,_=>by simp at h
 |p::P,w::vs,0,m,nd,h1,h2,hk=>by
  simp at h1 h2;subst h1;subst h2;show bindC kindOf ((p,w)::P.zip vs) m p=_;unfold bindC;rw[yy fun v hv=>(abo.mp nd).1 (aeM hv).1,if_neg hk];simp
 |p::P,w::vs,i+1,m,nd,h1,h2,hk=>by
  show bindC kindOf ((p,w)::P.zip vs) m x=_;unfold bindC;exact yC (i:=i) (abo.mp nd).2 (by simpa using h1) (by simpa using h2) hk
noncomputable def start (N:BBB) (vs:List V):St:=vs.map some++List.replicate (N.length-vs.length) none
noncomputable def vB (CX:HU) (P:Program) (w:World) (K:AAD) (mg:AAF) (base:Heap) (N:BBB) (qual:Str) (scope:Scope) (f:Addr) (cd:Value) (A:Around) (outer:BBF) (s:Shared) (H:Hp) (E:XK):Cx where
 prog:=P
 w:=w
 K:=K
 mg:=mg
 base:=base
 A:=A.deeper (envOfC qual scope s.heap.objs.size f cd)
 N:=N
 s₀:=s
 H₀:=H
 env:=envOfC qual scope s.heap.objs.size f cd
 outer:=outer
 stack:=envOfC qual scope s.heap.objs.size f cd::outer
 ex:=[]
 calm:=true
 fn:=fun _=>true
 pn:=[]
 xe:=fun e s'=>wpAny (model P w) (A.deeper (envOfC qual scope s.heap.objs.size f cd)) (leaving (envOfC qual scope s.heap.objs.size f cd) e) (fun _ s''=>CX outer H s E e s'') (fun e' s''=>CX outer H s E e' s'') s'
def BF {sc:Scope}{n:Nat}(h:sc.names.lookup x=some .cell):∃c,(cellsFrom n sc.names []).lookup x=some c:=by
 have q:=PySem.W.cellsFrom_some sc.names n [] (.inl h);exact Option.isSome_iff_exists.mp q
def Gu {CX:HU}{f:Addr}{cd:Value}{s s1:Shared}{E:XK}
  (S:bG N ps scope) (hd:A.handled=none) (e0:Dk P w K mg base A outer s H) (hl:vs.length=ps.length) (r:Vals vs us)
  (x:InCallC s s.heap.objs.size (bindL (envOfC qual scope s.heap.objs.size f cd).kindOf (ps.zip us) fun _=>none) (cellsFrom (s.heap.objs.size+1) scope.names []) (bindC (envOfC qual scope s.heap.objs.size f cd).kindOf (ps.zip us) fun _=>none) s1):
  Inv (vB CX P w K mg base N qual scope f cd A outer s H E) [] (start N vs) H s1:=by
 have hpl:ps.length<=N.length:=by have:=congrArg List.length S.pre;rw[abQ] at this;lia
 obtain⟨h1,tk,rfl,hk⟩:=x.done;have Us:∀b:Addr,b∉(vB CX P w K mg base N qual scope f cd A outer s H E).ex:=fun b z=>absurd (show b∈([]:BBE) from z) (by simp);refine⟨⟨e0.mod,S.kind,rfl,rfl,aaj _,fun y z c h1 h2=>?_,fun y hy=>?_,fun y c _ h=>?_,fun _=>hd,Around.frames_deeper e0.frames,.inr ⟨rfl,rfl⟩,fun b z=>absurd z (Us b),e0.bs,e0.Gi,fun b _ _=>Us b,fun b z=>absurd z (Us b),e0.qW,e0.LP⟩,
  rfl,e0.bare,Un.kept hk,⟨_,x.toInCall.ns,fun i y v h1 h2 h3=>?_⟩,fun y c h=>⟨_,x.cell y c h⟩,e0.hok.fresh (aaj _),fun y c h=>?_,fun p hp=>absurd (show p∈([]:AAG) from hp) (by simp),e0.hok.kept hk,?_⟩
 ·exact name_of_addr x.apart (abK h1) (abK h2)
 ·have hy:scope.names.lookup y=some .cell\/scope.names.lookup y=some .free:=hy;rcases hy with hy|hy
  ·exact BF hy
  ·exact absurd rfl (S.P7 _ (abK hy))
 ·exact abG (x.above y c (abK h))
 ·have hi:i<vs.length:=by
   unfold start at h2;by_cases hi:i<vs.length
   ·exact hi
   ·rw[acw (by simpa using hi)] at h2;rw[acH] at h2;split at h2<;>cases h2
  have ha:vs[i]? =some v:=by
   unfold start at h2;rw[aa3 (by simpa using hi),aaI] at h2;cases e:vs[i]? with
   |none=>rw[e] at h2;cases h2
   |some a=>rw[e] at h2;cases h2;rfl
  obtain⟨u,hu,rv⟩:=r.get ha;have hp:ps[i]? =some y:=by
   rw[<-S.pre,aeA (by lia)];exact h1
  have ndP:ps.Nodup:=by rw[<-S.pre];exact S.nd.sublist (List.take_sublist _ _)
  refine⟨u,rv,?_⟩;rcases S.par y (aaW hp) with k|k
  ·exact .inl ⟨k,yz ndP hp hu k⟩
  ·obtain⟨c,e⟩:=BF (n:=s.heap.objs.size+1) k;refine .inr ⟨.inl k,c,e,?_⟩;have q:=x.cell y c e;rw[yC ndP hp hu (by show scope.names.lookup y≠_;rw[k];decide)] at q;exact q
 ·exact e0.hok.fresh (abG (x.above y c (abK h)))
 ·unfold start;show _=N.length;rw[aaw,aai,List.length_replicate];lia
def Ut {CX:HU}{f:Addr}{name:Str}{params:Arguments}{dV kV doc pm cdv ct oc:Value}{an od:BBN}
  {osl:Array (BBP)}{sp:Sp}(lk:K.lookup f=some ⟨oc,od,.func (PySem.W.fnOf name qual params body scope dV kV doc pm an cdv ct),osl⟩) (hcd:PySem.W.codeIn K cdv qual=true) (S:bG N ps scope)
  (len:∀vs H Q E,sp vs H Q E->vs.length=ps.length)
  (hbody:∀(A:Around) (outer:BBF) (s:Shared) (H:Hp) (vs:List V) (Q:VK) (E:XK),fE k (A.deeper (envOfC qual scope s.heap.objs.size f cdv))->sp vs H Q E->
   ∃t,xO (vB CX P w K mg base N qual scope f cdv A outer s H E) body t/\t {nx:=fun _ H'=>Q .bQ H',rt:=Q} (start N vs) H):
  j7 P w K mg base CX (k+1) f (PySem.W.fnOf name qual params body scope dV kV doc pm an cdv ct) ps sp:=by
 refine⟨len,fun A outer s H args us vs Q E hr e0 hb r Ot=>?_⟩;have hl:=len _ _ _ _ Ot;have KX:K.In s.heap:=e0.mod.WN.keeps fun b o e=>(e0.bs b o e).1;have lim:s.heap.NoLimit:=e0.mod.nolimit.keeps fun b o e=>(e0.bs b o e).1;have hkind:∀y∈ps.zip us,scope.names.lookup y.1=some .local\/(scope.names.lookup y.1=some .cell/\((cellsFrom (s.heap.objs.size+1) scope.names []).lookup y.1).isSome=true):=fun⟨n,v⟩ hy=>by
  rcases S.par n (aeM hy).1 with q|q
  ·exact .inl q
  ·exact .inr ⟨q,PySem.W.cellsFrom_some _ _ _ (.inl q)⟩
 refine codeAny_call_function hr.depth (KX _ _ lk) rfl S.co S.gen rfl (PySem.W.codeRec_of KX hcd) (hb _ _ _ _ ?_);refine wpAny_newFunctionEnv_cells S.kind hkind fun env he s1 x=>?_;subst he;refine⟨lim.keeps x.toInCall.keep,codeAny_func ?_⟩;obtain⟨t,ht,hq⟩:=hbody A outer s H vs Q E (hr.deeper _) Ot;have I:Inv (vB CX P w K mg base N qual scope f cdv A outer s H E) [] (start N vs) H s1:=Gu S hr.hd e0 hl r x;refine abn (ht [] s1 (start N vs) H _ I hq) (fun fl s' hs=>?_) fun e s' hs=>hs;have fin:∀{σ':St}{H':Hp}{v:V}{u:Value},Inv (vB CX P w K mg base N qual scope f cdv A outer s H E) [] σ' H' s'->RelV v u->Q v H'->CE outer P w H s Q u s':=
  fun {σ' H' v u} J rv q=>⟨v,H',J.os,J.bare,J.base,J.hok,rv,q⟩
 cases fl with
 |ret u=>
  obtain⟨v,σ',H',J,rv,q⟩:=hs;exact fin J rv q
 |next=>
  obtain⟨σ',H',J,q⟩:=hs;exact fin (v:=V.bQ) (u:=Value.none) J rfl q
 |brk=>
  obtain⟨_,_,_,q⟩:=hs;exact False.elim q
 |cont=>
  obtain⟨_,_,_,q⟩:=hs;exact False.elim q
section
variable {X:Cx}{x:Str}{p pos:Pos}{e:Expr}{es:BBC}{t:TA}{id T:String}{r:List V->Hp->VK->Prop}
def tCB (r:List V->Hp->VK->Prop) (t:TA):TE:=fun σ H Q=>t σ H fun vs H1=>r vs H1 Q
def kg (hc:gD X (.builtin id) r) (hg:Gl X x) (hm:X.mg x=none) (hv:bootBuiltins x=some (.builtin id)) (ha:PA X (e::es) t) (hn:x≠"__name__":=by decide) (hdb:BBT x:=by decide)
  (he:starEach (e::es) X.env=(false,eval e X.env)::starEach es X.env:=by rfl) (hpl:(backTo pos (starEach es X.env)).any (·.1)=false:=by rfl):PE X (.Call (.Name x p) (e::es) [] pos) (tCB r t):=by
 intro pins s σ H Q I h;refine abW (mz I hg hm hv ?_ hn hdb);exact acR (dW (ha pos pins s σ H _ I h) fun us s1 ⟨vs,H1,I1,r1,q1⟩=>hc pins s1 σ H1 vs us Q I1 r1 q1) he hpl
def Gv (hc:gD X (.type T) r) (hg:Gl X x) (hm:X.mg x=none) (hv:bootBuiltins x=some (.type T)) (ha:PA X (e::es) t) (hn:x≠"__name__":=by decide) (hdb:BBT x:=by decide)
  (he:starEach (e::es) X.env=(false,eval e X.env)::starEach es X.env:=by rfl) (hpl:(backTo pos (starEach es X.env)).any (·.1)=false:=by rfl):PE X (.Call (.Name x p) (e::es) [] pos) (tCB r t):=by
 intro pins s σ H Q I h;refine abW (mz I hg hm hv ?_ hn hdb);exact ac9 (dW (ha pos pins s σ H _ I h) fun us s1 ⟨vs,H1,I1,r1,q1⟩=>hc pins s1 σ H1 vs us Q I1 r1 q1) he hpl
end
section
variable {κ:Type} [DecidableEq κ]
noncomputable def qo (kvs:List (κ×V)) (k:κ):Option V:=(kvs.find? fun kv=>decide (kv.1=k)).map (·.2)
noncomputable def putK (kvs:List (κ×V)) (k:κ) (v:V):List (κ×V):=
 if(kvs.any fun kv=>decide (kv.1=k))=true then kvs.map (fun kv=>if kv.1=k then(kv.1,v) else kv) else kvs++[(k,v)]
def qY {p:κ×V}{r:List (κ×V)}{k:κ}(e:p.1=k):qo (p::r) k=some p.2:=by simp[qo,abN,e]
def nJ {p:κ×V}{r:List (κ×V)}{k:κ}(e:¬p.1=k):qo (p::r) k=qo r k:=by simp[qo,abN,e]
theorem BG (k:κ):∀kvs:List (κ×V),(kvs.any fun kv=>decide (kv.1=k))=(qo kvs k).isSome
 |[]=>rfl
 |p::r=>by
  rw[acJ];by_cases e:p.1=k
  ·simp only[qY e,aaT e,Bool.true_or,Option.isSome_some]
  ·rw[nJ e,aaS e,aeR];exact BG k r
def nK (kvs:List (κ×V)) (k:κ) (v:V):(putK kvs k v).length<=kvs.length+1:=by
 unfold putK;split
 ·rw[aai];lia
 ·rw[aaw,aaG,adk];lia
def nG.sR {o:Option V}{u:BBP}(r:nG o u):o.isSome=u.isSome:=by
 cases o with
 |none=>cases u with
  |none=>rfl
  |some _=>exact(show False from r).elim
 |some _=>cases u with
  |none=>exact(show False from r).elim
  |some _=>rfl
def KV.val {kvs:List (κ×V)}{vs:List (κ×Value)}(r:KV kvs vs) (k:κ):nG (qo kvs k) (valueAt vs k):=by
 unfold KV at r
 induction r with
 |nil=>exact True.intro
 |@cons p q ps qs h t ih=>
  obtain⟨h1,h2⟩:=h;by_cases e:p.1=k
  ·have e':q.1=k:=h1.symm.trans e;have b:valueAt (q::qs) k=some q.2:=by simp[valueAt,abN,e']
   rw[qY e,b];exact h2
  ·have e':¬q.1=k:=fun z=>e (h1.trans z);have b:valueAt (q::qs) k=valueAt qs k:=by simp[valueAt,abN,e']
   rw[nJ e,b];exact ih
def KV.any {kvs:List (κ×V)}{vs:List (κ×Value)}(r:KV kvs vs) (k:κ):(kvs.any fun kv=>decide (kv.1=k))=vs.any fun kv=>decide (kv.1=k):=by
 unfold KV at r
 induction r with
 |nil=>rfl
 |cons h t ih=>rw[acJ,acJ,ih,h.1]
def KV.repl {kvs:List (κ×V)}{vs:List (κ×Value)}(r:KV kvs vs) (k:κ)(ry:RelV y u):
  KV (kvs.map fun kv=>if kv.1=k then(kv.1,y) else kv) (vs.map fun kv=>if kv.1=k then(kv.1,u) else kv):=by
 unfold KV at r ⊢
 induction r with
 |nil=>exact .nil
 |@cons p q ps qs h t ih=>
  rw[abj,abj];refine .cons ?_ ih;obtain⟨h1,h2⟩:=h;by_cases e:p.1=k
  ·rw[if_pos e,if_pos (h1.symm.trans e)];exact⟨h1,ry⟩
  ·rw[if_neg e,if_neg (fun z=>e (h1.trans z))];exact⟨h1,h2⟩
def KV.put {kvs:List (κ×V)}{vs:List (κ×Value)}(r:KV kvs vs) (k:κ)(ry:RelV y u):KV (putK kvs k y) (stored vs k u):=by
 unfold putK stored;rw[r.any k];by_cases e:(vs.any fun kv=>decide (kv.1=k))=true
 ·rw[if_pos e,if_pos e];exact r.repl k ry
 ·rw[if_neg e,if_neg e];exact Paired.snoc r ⟨rfl,ry⟩
def KV.length {kvs:List (κ×V)}{vs:List (κ×Value)}(r:KV kvs vs):kvs.length=vs.length:=aeg r
end
def Ov {k:Key}(r:RelV (kV k) u):(iN P w).is k u=true:=by
 cases k with
 |inl i=>obtain⟨t,e⟩:=(show ∃t,u=Value.int i t from r);subst e;exact Bw P w i t
 |inr x=>obtain⟨t,e⟩:=(show ∃t,u=Value.str x t from r);subst e;exact Bx P w x t
abbrev KT (H:Hp):List (D×V)->List (D×Addr×Value)->Prop:=Paired fun p q=>p.1=q.1/\Kd H q.2.1 p.1/\RelV p.2 q.2.2
def KT.val (r:KT H kvs xs) (k:D):nG (qo kvs k) ((atKey xs k).map (·.2)):=by
 induction r with
 |nil=>exact True.intro
 |@cons p q ps qs h t ih=>
  obtain⟨h1,_,h2⟩:=h;by_cases e:p.1=k
  ·have e':q.1=k:=h1.symm.trans e;have b:atKey (q::qs) k=some q.2:=by simp[atKey,abN,e']
   rw[qY e,b];exact h2
  ·have e':¬q.1=k:=fun z=>e (h1.trans z);have b:atKey (q::qs) k=atKey qs k:=by simp[atKey,abN,e']
   rw[nJ e,b];exact ih
def KT.repl (r:KT H kvs xs) (k:D)(ry:RelV y u):
  KT H (kvs.map fun kv=>if kv.1=k then(kv.1,y) else kv) (xs.map (putAt k u)):=by
 induction r with
 |nil=>exact .nil
 |@cons p q ps qs h t ih=>
  rw[abj,abj];refine .cons ?_ ih;obtain⟨h1,h2,h3⟩:=h;unfold putAt;by_cases e:p.1=k
  ·rw[if_pos e,if_pos (h1.symm.trans e)];exact⟨h1,h2,ry⟩
  ·rw[if_neg e,if_neg (fun z=>e (h1.trans z))];exact⟨h1,h2,h3⟩
def KT.put (r:KT H kvs xs) (k:D){b:Addr}(hb:Kd H b k) (ry:RelV y u):
  KT H (putK kvs k y) (storedH xs k b u):=by
 have e:(kvs.any fun kv=>decide (kv.1=k))=(atKey xs k).isSome:=by
  rw[BG,(r.val k).sR,Option.isSome_map]
 unfold putK storedH;rw[e];by_cases q:(atKey xs k).isSome=true
 ·rw[if_pos q,if_pos q];exact r.repl k ry
 ·rw[if_neg q,if_neg q];exact Paired.snoc r ⟨rfl,hb,ry⟩
def KT.keeps (r:KT H kvs xs) (ht:∀b ys,H b=some (.tup ys)->H' b=some (.tup ys)):KT H' kvs xs:=
 Paired.By r fun _ _ z=>⟨z.1,z.2.1.tups ht,z.2.2⟩
section
variable {P:Program}{w:World}{H:Hp}{h:Heap}{a:Addr}
def Ow {u:HO}(ok:nF P w H h) (e:Rd H a u):dZ P w H h a u:=e.ok ok
def BH {kvs:List (Key×V)}(ok:nF P w H h) (e:Rd H a (.dK kvs)):kvs.length<=sizeLine/\(a == sysModules)=false/\∃vs,KV kvs vs/\h.DictOf (iN P w) a vs:=
 show dZ P w H h a (.dK kvs) from Ow ok e
def Ox {kvs:List (Key×V)}(ok:nF P w H h) (e:H a=some (.dK kvs)):kvs.length<=sizeLine/\(a == sysModules)=false/\∃vs,KV kvs vs/\h.DictOf (iN P w) a vs:=BH ok (.inl e)
mutual
theorem IK (ok:nF P w H h):∀(d:D){n:Nat}{v:V}{u:Value},Rep H v d->RelV v u->fY n d=true->xN h u (nf d)
 |.bQ,n,_,_,_,_,k=>by simp[fY] at k
 |.lst _,n,_,_,_,_,k=>by simp[fY] at k
 |.bl b,n,_,_,r,q,k=>by cases r;cases q;exact .bool b
 |.int i,n,_,_,r,q,k=>by cases r;obtain⟨t,rfl⟩:=q;exact .int i t
 |.str i,n,_,_,r,q,k=>by cases r;obtain⟨t,rfl⟩:=q;exact .str i t
 |.tup ds,n,_,_,r,q,k=>by
  cases n with
  |zero=>simp[fY] at k
  |succ n=>
   cases r with
   |@tup a vs _ e rs=>
    cases q;obtain⟨_,its,rv,o,h1,h2,m,h3⟩:=(show dZ P w H h a (.tup vs) from ok a _ e)
    exact .tup ⟨o,h1,h2,m,h3⟩ (Es ok ds rs rv k)
theorem Es (ok:nF P w H h):∀(ds:List D){n:Nat}{vs:List V}{us:AAL},bq H vs ds->Vals vs us->ds.all (fY n)=true->kK h us (Oj ds)
 |[],n,_,_,r,q,k=>by cases r;cases q;exact .nil
 |d::ds,n,_,_,r,q,k=>by
  rw[ab2,aaH] at k;cases r with
  |cons r1 r2=>
   cases q with
   |cons q1 q2=>exact .cons (IK ok d r1 q1 k.1) (Es ok ds r2 q2 k.2)
end
def zQ {ks:D}(ok:nF P w H h) (e:Kd H a ks):(lF P w).is h ks a:=by
 obtain⟨d,r,hk,rfl⟩:=e;exact⟨IK ok d r rfl hk,Em d 8 hk⟩
def Et (ok:nF P w H h) (e:Rd H a (.dT kvs)):kvs.length<=sizeLine/\(a == sysModules)=false/\
  ∃xs,KT H kvs xs/\h.DictOfH (lF P w) a xs:=by
 obtain⟨z,y,xs,r,o,es,ep,h1,h2,h3,h4,h5⟩:=(show dZ P w H h a (.dT kvs) from Ow ok e)
 refine⟨z,y,xs,r,o,es,ep,h1,h2,h3,h4,fun x hx=>?_,h5⟩;have all:∀{l:List (D×V)}{m:List (D×Addr×Value)},KT H l m->∀x∈m,(lF P w).is h x.1 x.2.1:=by
  intro l m q
  induction q with
  |nil=>intro x hx;exact nomatch hx
  |@cons p q ps qs hq t ih=>
   intro x hx;rcases aao.mp hx with e|hx
   ·subst e;exact zQ ok (by rw[<-hq.1];exact hq.2.1)
   ·exact ih x hx
 exact all r x hx
def Oz (ok:nF P w H h) (e:H a=some (.dT kvs)):kvs.length<=sizeLine/\(a == sysModules)=false/\
  ∃xs,KT H kvs xs/\h.DictOfH (lF P w) a xs:=Et ok (.inl e)
end
def P8 (y:V) (k:Key):Prop:=y=kV k\/∃b,y= .bl b/\k= .inl (bI b)
def P8.is {P:Program}{w:World}{y:V}{k:Key}{u:Value}(e:P8 y k) (r:RelV y u):(iN P w).is k u=true:=by
 rcases e with rfl|⟨b,rfl,rfl⟩
 ·exact Ov r
 ·cases r;exact aaT rfl
def qZ (H:Hp) (a:Addr) (y:V) (r:Option V):Prop:=
 (∃kvs k,Rd H a (.dK kvs)/\P8 y k/\r=qo kvs k)\/∃kvs k b,Rd H a (.dT kvs)/\y= .ref b/\Kd H b k/\r=qo kvs k
def zR (H:Hp) (a:Addr) (y v:V) (H':Hp):Prop:=
 (∃kvs k,H a=some (.dK kvs)/\P8 y k/\kvs.length<sizeLine/\H'=upd H a (.dK (putK kvs k v)))\/
 ∃kvs k b,H a=some (.dT kvs)/\y= .ref b/\Kd H b k/\kvs.length<sizeLine/\H'=upd H a (.dT (putK kvs k v))
def qZ.t {b:Addr}{k:D}(e:H a=some (.dT kvs)) (eb:Kd H b k):qZ H a (.ref b) (qo kvs k):=.inr ⟨kvs,k,b,.inl e,rfl,eb,rfl⟩
def zR.t {b:Addr}{k:D}{v:V}(e:H a=some (.dT kvs)) (eb:Kd H b k) (hl:kvs.length<sizeLine):
  zR H a (.ref b) v (upd H a (.dT (putK kvs k v))):=.inr ⟨kvs,k,b,e,rfl,eb,hl,rfl⟩
section
variable {X:Cx}{pins:AAG}{σ:St}{H:Hp}{s:Shared}{a:Addr}{y v:V}{u r:Value}{o:Option V}{A:Around}{E:AAE}
def Inv.big (I:Inv X pins σ H s):sysModules<s.heap.objs.size:=by
 have h:mainGlobals<s.heap.objs.size:=(I.mod.glob.keeps I.bk).lt;exact adR (by decide) h
def Gw (hu:A.units+20<cLine) (I:Inv X pins σ H s) (g:qZ H a y (some v)) (ry:RelV y u) (h:∀w' s',Inv X pins σ H s'->RelV v w'->Q w' s'):
  wpAny (model X.prog X.w) A (getItem (.ref a) u) Q E s:=by
 rcases g with⟨kvs,k,e,ey,l⟩|⟨kvs,k,b,e,ey,eb,l⟩
 ·obtain⟨z,hd,vs,rel,dd⟩:=BH I.hok e;obtain⟨w',hw,rw'⟩:=nG.some_of (v:=v) (o:=valueAt vs k) (by rw[l];exact rel.val k);exact wpAny_getItem_of (ey.is ry) dd.mapOf hw (h w' _ (I.tok _) rw')
 ·subst ey;cases(show u=Value.ref b from ry);obtain⟨z,hd,xs,rel,dd⟩:=Et I.hok e;obtain⟨w',hw,rw'⟩:=nG.some_of (v:=v) (o:=(atKey xs k).map (·.2)) (by rw[l];exact rel.val k);obtain⟨p,hp,hp2⟩:=Option.map_eq_some_iff.mp hw;refine wpAny_getItem_heap (k6 hu) (zQ I.hok eb) dd hp ?_;rw[hp2];exact h w' _ (I.tok _) rw'
def L5 (hu:A.units+20<cLine) (I:Inv X pins σ H s) (g:qZ H a y o) (ry:RelV y u) (h:∀s',Inv X pins σ H s'->Q (.bool (!o.isSome)) s'):
  wpAny (model X.prog X.w) A (compareOp .NotIn u (.ref a)) Q E s:=by
 rcases g with⟨kvs,k,e,ey,l⟩|⟨kvs,k,b,e,ey,eb,l⟩
 ·obtain⟨z,hd,vs,rel,dd⟩:=BH I.hok e;refine wpAny_notIn_of (ey.is ry) hd dd.mapOf ?_;rw[<-(rel.val k).sR,<-l];exact h _ (I.tok _)
 ·subst ey;cases(show u=Value.ref b from ry);obtain⟨z,hd,xs,rel,dd⟩:=Et I.hok e;refine wpAny_notIn_heap (k6 hu) (zQ I.hok eb) hd dd ?_;have q:=(rel.val k).sR;rw[Option.isSome_map] at q;rw[<-q,<-l];exact h _ (I.tok _)
def zS {h':Heap}{ob:HO}(I:Inv X pins σ H s) (mu:Tz (H a)) (hs:Heap.SameBut a s.heap h') (he:∃q,h'.get? a=some q) (new:dZ X.prog X.w (upd H a ob) h' a ob):
  Inv X pins σ (upd H a ob) {s with heap:=h',toks:=t'}:=
 I.write (x:=a) (e:=a) mu (.inl rfl) (fun b q hb z=>(hs.2 b hb).trans z) he new
def IL {h':Heap}{kvs:List (Key×V)}{vs:List (Key×Value)}(z:kvs.length<=sizeLine) (hd:(a == sysModules)=false) (rel:KV kvs vs) (dd:h'.DictOf (iN P w) a vs):
  dZ P w H' h' a (.dK kvs):=⟨z,hd,vs,rel,dd⟩
def Gx {Q:Unit->Shared->Prop}(hu:A.units+20<cLine) (I:Inv X pins σ H s) (g:zR H a y v H') (ry:RelV y u) (rv:RelV v r) (h:∀s',Inv X pins σ H' s'->Q () s'):
  wpAny (model X.prog X.w) A (setItem (.ref a) u r) Q E s:=by
 rcases g with⟨kvs,k,e,ey,l,eH⟩|⟨kvs,k,b,e,ey,eb,l,eH⟩
 ·subst eH;obtain⟨z,hd,vs,rel,dd⟩:=Ox I.hok e;have hz:vs.length<=sizeLine:=by rw[<-rel.length];exact z
  have hl:(putK kvs k v).length<=sizeLine:=by have:=nK kvs k v;lia
  refine wpAny_setItem_pairs (hsz:=hz) (ey.is ry) dd fun h' P9 hs=>h _ ?_;have he:∃q,h'.get? a=some q:=let⟨q,_,_,hq,_⟩:=P9;⟨q,hq⟩
  exact zS I (by rw[e];exact True.intro) hs he (IL hl hd (rel.put k rv) P9)
 ·subst ey eH;cases(show u=Value.ref b from ry);obtain⟨z,hd,xs,rel,dd⟩:=Oz I.hok e;have hz:xs.length<=sizeLine:=by rw[<-aeg rel];exact z
  have hl:(putK kvs k v).length<=sizeLine:=by have:=nK kvs k v;lia
  refine wpAny_setItem_heap (hsz:=hz) (k6 hu) (zQ I.hok eb) dd fun h' P9 hs=>h _ ?_;obtain⟨q,es,ep,hq,h2,h3,h4,_,h5⟩:=P9;refine zS I (by rw[e];exact True.intro) hs ⟨q,hq⟩ ⟨hl,hd,_,(rel.put k eb rv).keeps fun c ys ec=>?_,q,es,ep,hq,h2,h3,h4,h5⟩;rw[aP (Tv ec e (fun z=>nomatch z))];exact ec
end
section
variable {X:Cx}{pins:AAG}{σ:St}{H:Hp}{s:Shared}{a:Addr}{kvs:List (Key×V)}{A:Around}{E:AAE}
def Uu (I:Inv X pins σ H s) (e:Rd H a (.dK kvs)) (h:∀t s',Inv X pins σ H s'->Q (.int kvs.length t) s'):wpAny (model X.prog X.w) A (call (.builtin "len") [.ref a]) Q E s:=by
 obtain⟨z,hd,vs,rel,dd⟩:=BH I.hok e;refine call_len_dict hd dd (by rw[<-rel.length];rw[abC] at z;lia) ?_;rw[<-rel.length];exact h _ _ (I.tok _)
end
def Uv (i:Expr):Prop:=∀ov iv,subscripted i false ov iv=operate [ov,iv] (getItem ov iv)
def L6 {s:Shared}{env:Env}{value slice:Expr}{T id:String}
  (hl:typeLookup (.type T) "__getitem__" =pure (some (.builtin id))) (hs:Uv slice)
  (h:wpAny (model prog w) A (eval value env) (fun o s₁=>wpAny (model prog w) A (eval slice env) (fun i s₂=>s₂.TypeIs o T/\wpAny (model prog w) A (getItem o i) Q E s₂) E s₁) E s):
  wpAny (model prog w) A (eval (.Subscript value slice pos) env) Q E s:=by
 refine Subscript_ (abn h (fun o s₁ h₁=>abn h₁ (fun i s₂ h₂=>?_) fun _ _ x=>x) fun _ _ x=>x);obtain⟨hT,h₂⟩:=h₂;unfold subscriptTail;refine aab ?_;rw[getitemInPython_of_ne hT.not_modules];refine aab (wpAny_specialOf hT hl ?_);have fin:wpAny (model prog w) A (subscripted slice false o i) (fun r s₃=>wpAny (model prog w) A (letTemporaryGo value o r >>= fun _=>pure r) Q E s₃) E s₂:=by
  rw[hs o i];exact wpAny_operating (abn h₂ (fun r s₃ h₃=>aab (wpAny_letTemporaryGo (wpAny_pure h₃))) fun _ _ x=>x)
 first
  |exact wpAny_pure (aab fin)
  |exact aab (wpAny_pure (aab fin))
  |exact aab fin
def BI {s:Shared}{o:Option V}(I:Inv X pins σ H s) (g:qZ H a y o):s.TypeIs (.ref a) "dict":=by
 rcases g with⟨kvs,k,e,_,_⟩|⟨kvs,k,b,e,_,_,_⟩
 ·obtain⟨_,_,vs,_,dd⟩:=BH I.hok e;exact dd.typeIs
 ·obtain⟨_,_,xs,_,dd⟩:=Et I.hok e;exact dd.typeIs
def Uw (td ty:TE):TE:=fun σ H Q=>td σ H fun x H1=>ty σ H1 fun y H2=>∃a v,x= .ref a/\qZ H2 a y (some v)/\Q v H2
def Eu (ty td:TE):TE:=fun σ H Q=>ty σ H fun y H1=>td σ H1 fun x H2=>∃a o,x= .ref a/\qZ H2 a y o/\Q (.bl (!o.isSome)) H2
def Ux (td ty tv:TE):TS:=fun D σ H=>tv σ H fun v H1=>td σ H1 fun x H2=>ty σ H2 fun y H3=>∃a H4,x= .ref a/\zR H3 a y v H4/\D.nx σ H4
section
variable {X:Cx}{o i value:Expr}{pos pos':Pos}{td ty tv:TE}
def zT (hu:X.A.units+20<cLine) (ho:PE X o td) (hi:PE X i ty) (hs:Uv i):PE X (.Subscript o i pos) (Uw td ty):=by
 intro pins s σ H Q I h;refine L6 PySem.F.slot_dict_getitem.lookup hs (dW (ho pins s σ H _ I h) fun u s1 ⟨x,H1,I1,rx,q1⟩=>dW (hi pins s1 σ H1 _ I1 q1) fun iv s2 hh=>?_);obtain⟨y,H2,I2,ry,a,v,ex,g,q2⟩:=hh;subst ex;obtain rfl:u=Value.ref a:=rx;exact⟨BI I2 g,Gw hu I2 g ry fun w' s3 I3 rw'=>⟨v,H2,I3,rw',q2⟩⟩
def Gy (hu:X.A.units+20<cLine) (hi:PE X i ty) (ho:PE X o td):PC X .NotIn i o (Eu ty td):=by
 intro pins s σ H Q I h;refine dW (hi pins s σ H _ I h) fun iv s1 ⟨y,H1,I1,ry,q1⟩=>dW (ho pins s1 σ H1 _ I1 q1) fun u s2 hh=>?_;obtain⟨x,H2,I2,rx,a,ov,ex,g,q2⟩:=hh;subst ex;obtain rfl:u=Value.ref a:=rx;exact L5 hu I2 g ry fun s3 I3=>⟨.bl (!ov.isSome),H2,I3,rfl,q2⟩
def zU (hu:X.A.units+20<cLine) (ho:PE X o td) (hi:PE X i ty) (hv:PE X value tv) (hs:swapsWith value (some (.Subscript o i pos')) pos.line X.env=pure false):
  PS X (.Assign [.Subscript o i pos'] value pos) (Ux td ty tv):=by
 intro pins s σ H D I h;refine wpAny_Assign_Subscript (dW (hv pins s σ H _ I h) fun r s1 ⟨v,H1,I1,rv,q1⟩=>dW (ho pins s1 σ H1 _ I1 q1) fun u s2 ⟨x,H2,I2,rx,q2⟩=>dW (hi pins s2 σ H2 _ I2 q2) fun iv s3 hh=>?_) hs;obtain⟨y,H3,I3,ry,a,H4,ex,g,q3⟩:=hh;subst ex;obtain rfl:u=Value.ref a:=rx;exact Gx hu I3 g ry rv fun s4 I4=>⟨σ,H4,I4,q3⟩
end
def IM (h:Heap) (hb:sysModules<h.objs.size):dZ P w H (h.push {cls:=.type "dict",data:=.dict #[]}) h.objs.size (.dK []):=
 ⟨aaM _,acf.mpr (abJ (aaF hb)),[],.nil,Heap.DictOf.new h⟩
def IP (h:Heap) (hb:sysModules<h.objs.size):dZ P w H (h.push {cls:=.type "dict",data:=.dict #[]}) h.objs.size (.dT []):=
 ⟨aaM _,acf.mpr (abJ (aaF hb)),[],.nil,_,#[],0,aaB _ rfl,⟨rfl,rfl,rfl⟩,rfl,rfl,abp⟩
def Qa:TE:=fun _ H Q=>∀p,H p=none->Q (.ref p) (upd H p (.dT []))
section
variable {X:Cx}{pos:Pos}
def IQ:PE X (.Dict [] [] pos) Qa:=fun pins s σ H Q I h=>
 wpAny_Dict_empty ⟨.ref s.heap.objs.size,_,I.laid (a:=s.heap.objs.size) (o:=.dT []) (t':=s.toks) (fun _ _ q=>aac _ q) (aaj _) (IP s.heap I.big),rfl,h _ (I.hok.fresh (aaj _))⟩
end
def vC:List (TE×TE)->St->Hp->(List (V×V)->Hp->Prop)->Prop
 |[],_,H,Q=>Q [] H
 |(tk,tv)::r,σ,H,Q=>tk σ H fun x H1=>tv σ H1 fun y H2=>vC r σ H2 fun ps H3=>Q ((x,y)::ps) H3
abbrev VV:List (V×V)->List (Value×Value)->Prop:=Paired fun p q=>RelV p.1 q.1/\RelV p.2 q.2
def Uy (X:Cx) (pos:Pos) (keys:List (BBL)) (values:BBC) (L7:List (TE×TE)):Prop:=
 ∀(pins:AAG) (s:Shared) (σ:St) (H:Hp) (Q:List (V×V)->Hp->Prop),Inv X pins σ H s->vC L7 σ H Q->
  wpAny (model X.prog X.w) X.A (evalPairs (pairTrees keys values X.env pos)) (fun vs s'=>∃ps H',Inv X pins σ H' s'/\VV ps vs/\Q ps H') X.xe s
def L8 :Uy X pos [] [] []:=fun pins s σ H Q I h=>pairTrees_nil_walk ⟨[],H,I,.nil,h⟩
def IS {k v:Expr}{ks:List (BBL)}{vs:BBC}{tk tv:TE}(hk:PE X k tk) (hv:PE X v tv) (hr:Uy X pos ks vs L7):
  Uy X pos (some k::ks) (v::vs) ((tk,tv)::L7):=fun pins s σ H Q I h=>
 pairTrees_cons_walk (dW (hk pins s σ H _ I h) fun u s1 ⟨x,H1,I1,rx,q1⟩=>dW (hv pins s1 σ H1 _ I1 q1) fun w2 s2 ⟨y,H2,I2,ry,q2⟩=>
  dW (hr pins s2 σ H2 _ I2 q2) fun ws s3 ⟨ps,H3,I3,rel,q3⟩=>⟨(x,y)::ps,H3,I3,.cons ⟨rx,ry⟩ rel,q3⟩)
def nL (kvs more:List (Key×V)):List (Key×V):=more.foldl (fun acc kv=>putK acc kv.1 kv.2) kvs
def KV.merge:∀{more:List (Key×V)}{rs:List (Key×Value)}{kvs:List (Key×V)}{vs:List (Key×Value)},KV more rs->KV kvs vs->KV (nL kvs more) (merged vs rs):=by
 intro more rs kvs vs r;unfold KV at r
 induction r generalizing kvs vs with
 |nil=>intro q;exact q
 |@cons p q ps qs h t ih=>
  intro r0;have e:KV (putK kvs p.1 p.2) (stored vs q.1 q.2):=by
   have:=r0.put p.1 h.2;rw[<-h.1];exact this
  exact ih e
theorem pQ:∀(more kvs:List (Key×V)),(nL kvs more).length<=kvs.length+more.length
 |[],kvs=>by show kvs.length<=kvs.length+0;lia
 |p::r,kvs=>by
  have h1:=pQ r (putK kvs p.1 p.2);have h2:=nK kvs p.1 p.2;show(nL (putK kvs p.1 p.2) r).length<=_;rw[aaG];lia
theorem vD {P:Program}{w:World}:∀{kvs:List (Key×V)}{ws:List (Value×Value)},VV (kvs.map fun kv=>(kV kv.1,kv.2)) ws->∃rs,Carries (iN P w) ws rs/\KV kvs rs
 |[],_,r=>by rw[List.map_nil] at r;cases r;exact⟨[],True.intro,.nil⟩
 |p::kvs,_,r=>by
  rw[abj] at r;cases r with
  |@cons a b as bs h t=>
   obtain⟨rs,c,q⟩:=vD (P:=P) (w:=w) t;obtain⟨b1,b2⟩:=b;exact⟨(p.1,b2)::rs,⟨Ov h.1,rfl,c⟩,.cons ⟨rfl,h.2⟩ q⟩
def Uz (L7:List (TE×TE)):TE:=fun σ H Q=>∀p,H p=none->vC L7 σ (upd H p (.dK [])) fun ps H2=>H2 p=some (.dK [])/\∃kvs:List (Key×V),ps=kvs.map (fun kv=>(kV kv.1,kv.2))/\kvs.length<=15/\Q (.ref p) (upd H2 p (.dK (nL [] kvs)))
def Ma {keys:List (BBL)}{values:BBC}(h:Uy X pos keys values L7) (hall:keys.all (·.isSome)=true) (hl:keys.length=values.length) (h0:keys≠[])
  (YE:keys.length<=15):PE X (.Dict keys values pos) (Uz L7):=by
 intro pins s σ H Q I q;have hn:=I.hok.fresh (aaj s.heap.objs.size);have I1:=I.laid (a:=s.heap.objs.size) (o:=.dK []) (h':=s.heap.push {cls:=.type "dict",data:=.dict #[]}) (t':=s.toks) (fun _ _ q=>aac _ q) (aaj _) (IM s.heap I.big);refine wpAny_Dict_walk (knd:=iN X.prog X.w) hall hl h0 YE (dW (h pins _ σ _ _ I1 (q _ hn)) fun ws s2 hh=>?_);obtain⟨ps,H2,I2,rel,e,kvs,ep,lk,q2⟩:=hh;subst ep;obtain⟨rs,c,rk⟩:=vD (P:=X.prog) (w:=X.w) rel;obtain⟨z,hd,WT,r0,dd⟩:=Ox I2.hok e;cases r0;refine⟨rs,c,dd,fun h' P9 hs=>⟨.ref s.heap.objs.size,_,?_,rfl,q2⟩⟩;have hz:(nL [] kvs).length<=sizeLine:=by
  have h1:=pQ kvs [];rw[adk] at h1;rw[abC];lia
 have he:∃q,h'.get? s.heap.objs.size=some q:=let⟨q,_,_,hq,_⟩:=P9;⟨q,hq⟩
 exact zS I2 (by rw[e];exact True.intro) hs he (IL hz hd (rk.merge .nil) P9)
end L2
namespace HT
open PySem PyProof.Rows
variable {Q:AAE}{lo hi:BBM}
section
open PySem.SeqAt
open PySem.AutoSeq1 (wpAny_loadPart')
open PySem.MeetsSeq PySem.MeetsSeq2 PySem.MeetsSeq3
end
section
variable {prog:Program}{w:World}{A:Around}{E:AAE}{s:Shared}
def Mb {t b:Addr}{vs ws:AAL}(ht:IsTup s.heap t vs.toArray) (hb:IsTup s.heap b ws.toArray) (hv:vs≠[])
  (h1:ws=[]->Q (.ref t) s) (h2:ws≠[]->Q (.ref s.heap.objs.size) {s with heap:=s.heap.push {cls:=.type "tuple",data:=.seq (vs++ws).toArray}})
  (hsz:vs.length+ws.length<=sizeLine):wpAny (model prog w) A (binaryOp .Add (.ref t) (.ref b)) Q E s:=by
 obtain⟨⟨cls,dd,data,sl⟩,ho,hc,n,hd⟩:=id ht;obtain⟨⟨YF,dd2,data2,sl2⟩,ho2,hc2,n2,hd2⟩:=id hb;simp only at hc hd hc2 hd2;subst hc hd hc2 hd2;have e:vs.toArray++ws.toArray=(vs++ws).toArray:=by simp
 by_cases hw:ws=[]
 ·exact concat_meets ⟨_,ho,rfl⟩ ⟨_,ho2,rfl⟩ aeB seq_tuple_add adG adu (ado _ _)
   (tuple_addW1 t b vs.toArray ws.toArray n n2 dd dd2 sl sl2 (by simpa using hv) (by simp[hw])) ⟨ho,ho2,h1 hw⟩
 ·refine concat_meets ⟨_,ho,rfl⟩ ⟨_,ho2,rfl⟩ aeB seq_tuple_add adG adu (ado _ _)
   (tuple_addW2 t b vs.toArray ws.toArray n n2 dd dd2 sl sl2 (by simpa using hv) (by simpa using hw) (by rw[aad,aad];exact hsz)) ⟨ho,ho2,?_⟩
  rw[e];exact h2 hw
noncomputable def fy (n d:Nat):BBM->Nat
 |none=>d
 |some v=>if v<0 then(v+(n:Int)).toNat else min v.toNat n
def BJ (n d:Nat):fy n d none=d:=rfl
def Ew (n d k:Nat):fy n d (some (k:Int))=min k n:=by
 show(if(k:Int)<0 then((k:Int)+(n:Int)).toNat else min (k:Int).toNat n)=min k n;rw[if_neg (by lia),aen]
def Qc (n d:Nat) (hd:d<=n) (o:BBM):fy n d o<=n:=by
 cases o with
 |none=>exact hd
 |some v=>
  show(if v<0 then(v+(n:Int)).toNat else min v.toNat n)<=n;by_cases hv:v<0
  ·rw[if_pos hv];lia
  ·rw[if_neg hv];exact Nat.min_le_right _ _
def Ex (v:Int) (n d:Nat):(if v<0 then max (v+(n:Int)) 0 else min v (n:Int))=((fy n d (some v):Nat):Int):=by
 show(if v<0 then max (v+(n:Int)) 0 else min v (n:Int))=(((if v<0 then(v+(n:Int)).toNat else min v.toNat n):Nat):Int);by_cases hv:v<0
 ·simp only[if_pos hv];lia
 ·simp only[if_neg hv];lia
def Dl (lo hi:BBM) (n:Nat):Builtin.Slice.sliceAdjust lo hi 1 (n:Int)=(((fy n 0 lo:Nat):Int),((fy n n hi:Nat):Int)):=by
 have h1:¬((1:Int)<0):=by lia
 unfold Builtin.Slice.sliceAdjust;simp only[h1,acu];refine Prod.ext ?_ ?_
 ·cases lo with
  |none=>rfl
  |some v=>exact Ex v n 0
 ·cases hi with
  |none=>rfl
  |some v=>exact Ex v n n
def Dm (i j:Nat):Builtin.Slice.slicePlaces (i:Int) (j:Int) 1=j-i:=by
 unfold Builtin.Slice.slicePlaces;have h1:(1:Int) > 0:=by lia
 simp only[h1,if_true,Int.ediv_one];split<;>lia
def qp {v:Value}{o:BBM}{Q:BBM->Shared->Prop}(p:IsPart v o) (h:Q o s):wpAny (model prog w) A (Builtin.Slice.slicePartIndex v) Q E s:=by
 cases p with
 |none=>exact ad7 h
 |int i t=>exact slicePart_int h
def lG {sl:Addr}{vl vu:Value}{n:Nat}{Q:Int×Int×Nat->Shared->Prop}(hs:s.heap.IsSliceOf sl vl vu .none) (pl:IsPart vl lo) (pu:IsPart vu hi)
  (h:Q (((fy n 0 lo:Nat):Int),1,fy n n hi-fy n 0 lo) s):wpAny (model prog w) A (Builtin.Slice.sliceApplied (.ref sl) (pure (n:Int))) Q E s:=by
 obtain⟨os,hos,hcs,hds⟩:=id hs;unfold Builtin.Slice.sliceApplied Builtin.Slice.sliceFields;refine aab (aab (adH hos hds (x:=vl) rfl (aab (adH hos hds (x:=vu) rfl (aab (adH hos hds (x:=.none) rfl (wpAny_pure ?_)))))));refine aab (ad7 ?_);show wpAny _ _ (if((1:Int) == 0)=true then _ else _) _ _ s;rw[if_neg (by decide)];refine aab (qp pl (aab (qp pu (aab (wpAny_pure ?_)))));show wpAny _ _ (match Builtin.Slice.sliceAdjust lo hi 1 (n:Int) with|(lo,hi)=>pure (lo,(1:Int),Builtin.Slice.slicePlaces lo hi 1)) _ _ s;rw[Dl lo hi n];show wpAny _ _ (pure (((fy n 0 lo:Nat):Int),(1:Int),Builtin.Slice.slicePlaces ((fy n 0 lo:Nat):Int) ((fy n n hi:Nat):Int) 1)) _ _ s;rw[Dm];exact wpAny_pure h
def IT (xs:AAK) (i k:Nat):((List.range k).filterMap fun(m:Nat)=>xs[((i:Int)+(m:Int)*1).toNat]?).toArray=((xs.toList.drop i).take k).toArray:=by
 have e:(fun(m:Nat)=>xs[((i:Int)+(m:Int)*1).toNat]?)=fun m=>xs[i+m]?:=by
  funext m;have:((i:Int)+(m:Int)*1).toNat=i+m:=by lia
  rw[this]
 rw[e];have:=pick_run xs i k;rw[List.filterMap_map] at this;have e2:((fun x=>xs[x]?) ∘ fun x=>i+x)=fun m=>xs[i+m]?:=rfl;rw[e2] at this;rw[this]
def q8 {t sl:Addr}{items:AAK}{vl vu:Value}(ht:IsTup s.heap t items) (hs:s.heap.IsSliceOf sl vl vu .none) (pl:IsPart vl lo) (pu:IsPart vu hi)
  (hw:¬(fy items.size 0 lo=0/\fy items.size items.size hi=items.size))
  (h:Q (.ref s.heap.objs.size) {s with heap:=s.heap.push {cls:=.type "tuple",data:=.seq ((items.toList.drop (fy items.size 0 lo)).take (fy items.size items.size hi-fy items.size 0 lo)).toArray}})
  (hsz:items.size<=sizeLine):wpAny (model prog w) A (getItem (.ref t) (.ref sl)) Q E s:=by
 have q9:sizeOk (.seq ((items.toList.drop (fy items.size 0 lo)).take (fy items.size items.size hi-fy items.size 0 lo)).toArray):=by
  show((items.toList.drop (fy items.size 0 lo)).take (fy items.size items.size hi-fy items.size 0 lo)).toArray.size<=sizeLine;rw[aad,abQ,abr,aaL];lia
 have hj:fy items.size items.size hi<=items.size:=Qc _ _ (aaj _) hi;obtain⟨os,hos,hcs,hds⟩:=id hs;have UA:s.TypeIs (.ref sl) "slice":=⟨os,hos,hcs⟩
 unfold getItem
 try with_reducible refine abq ?_
 first|refine aab (wpAny_pure ?_)|skip
 refine aab (aeo ht.typeIs (by decide) ?_);refine aab (abX (name:=Str.ofString "__getitem__") ht.typeIs aaX
  (abR aaX ht.typeIs entry_tuple_getitem ?_ (args_tuple_getitem _ _)))
 show wpAny _ _ (Builtin.Tuple.tupleItemsOf (.ref t) >>= _) _ _ s;refine aab (tupleItemsOf_ ht ?_);refine aab (adp UA ?_);rw[if_pos (by decide)];refine aab (lG hs pl pu ?_);have hno:¬((((fy items.size 0 lo:Nat):Int) == 0 && (1:Int) == 1 && (fy items.size items.size hi-fy items.size 0 lo) == items.size)=true):=by
  intro q;rw[aaH,aaH] at q;have q1:((fy items.size 0 lo:Nat):Int)=0:=eq_of_beq q.1.1;have q2:fy items.size items.size hi-fy items.size 0 lo=items.size:=eq_of_beq q.2;exact hw ⟨by lia,by lia⟩
 show wpAny _ _ (if(((fy items.size 0 lo:Nat):Int) == 0 && (1:Int) == 1 && (fy items.size items.size hi-fy items.size 0 lo) == items.size)=true then _ else _) _ _ s;rw[if_neg hno,IT]
 first
  |exact aab (m:=Builtin.Tuple.tupleExact _) (abi (wpAny_pure ⟨_,rfl,wpAny_pure h⟩) q9)
  |exact aab (m:=Builtin.Tuple.tupleExact _) (abi (aab (wpAny_pure (wpAny_pure ⟨_,rfl,wpAny_pure h⟩))) q9)
  |exact aab (aab (m:=Builtin.Tuple.tupleExact _) (abi (wpAny_pure (wpAny_pure ⟨_,rfl,wpAny_pure h⟩)) q9))
  |exact aab (aab (m:=Builtin.Tuple.tupleExact _) (abi (wpAny_pure ⟨_,rfl,wpAny_pure h⟩) q9))
end
end HT
namespace L2
open PySem PySem.Spec PyProof.Rows
variable {xs:List V}{n:Nat}{pins:AAG}{its its':AAL}
abbrev TO:=St->Hp->(BBM->Hp->Prop)->Prop
def PO (X:Cx) (e:BBL) (t:TO):Prop:=
 ∀(pins:AAG) (s:Shared) (σ:St) (H:Hp) (Q:BBM->Hp->Prop),Inv X pins σ H s->t σ H Q->
  wpAny (model X.prog X.w) X.A (evalPart e X.env) (fun u s'=>∃o H',Inv X pins σ H' s'/\IsPart u o/\Q o H') X.xe s
def Mc:TO:=fun _ H Q=>Q none H
def OA (t:TE):TO:=fun σ H Q=>t σ H fun x H1=>∃i,x= .int i/\Q (some i) H1
section
variable {X:Cx}{e:Expr}{te:TE}{lo hi:BBL}{tl th:TO}{pos p2:Pos}
def Me:PO X none Mc:=by
 intro pins s σ H Q I h;rw[evalPart_none];exact wpAny_pure ⟨none,H,I,.none,h⟩
def Ey (h:PE X e te):PO X (some e) (OA te):=by
 intro pins s σ H Q I hw;rw[evalPart_some];refine dW (h pins s σ H _ I hw) fun u s1 hh=>?_;obtain⟨x,H1,I1,r1,q1⟩:=hh;obtain⟨i,rfl,q⟩:=q1;obtain⟨t,rfl⟩:=r1;exact⟨some i,H1,I1,.int i t,q⟩
def UB (X:Cx) (r:V->BBM->BBM->Hp->VK->Prop):Prop:=
 ∀(pins:AAG) (s:Shared) (σ:St) (H:Hp) (x:V) (v vl vu:Value) (lo hi:BBM) (sl:Addr) (Q:VK),Inv X pins σ H s->RelV x v->s.heap.IsSliceOf sl vl vu .none->IsPart vl lo->IsPart vu hi->r x lo hi H Q->
  ∃T id,typeLookup (.type T) "__getitem__" =pure (some (.builtin id))/\s.TypeIs v T/\wpAny (model X.prog X.w) X.A (getItem v (.ref sl)) (EP X pins σ Q) X.xe s
def tSl (r:V->BBM->BBM->Hp->VK->Prop) (te:TE) (tl th:TO):TE:=fun σ H Q=>te σ H fun x H1=>tl σ H1 fun l H2=>th σ H2 fun u H3=>r x l u H3 Q
def BK {r:V->BBM->BBM->Hp->VK->Prop}(hr:UB X r) (he:PE X e te) (hl:PO X lo tl) (hu:PO X hi th):PE X (.Subscript e (.Slice lo hi none p2) pos) (tSl r te tl th):=by
 intro pins s σ H Q I h;refine Subscript_ (dW (he pins s σ H _ I h) fun v s1 hh=>?_);obtain⟨x,H1,I1,r1,q1⟩:=hh;refine wpAny_Slice (dW (hl pins s1 σ H1 _ I1 q1) fun vl s2 ⟨l,H2,I2,pl,q2⟩=>dW (hu pins s2 σ H2 _ I2 q2) fun vu s3 hh=>?_);obtain⟨u,H3,I3,pu,q3⟩:=hh;rw[evalPart_none];refine wpAny_pure ?_;have I4:Inv X pins σ H3 {s3 with heap:=s3.heap.push {cls:=.type "slice",data:=.fields #[vl,vu,.none]}}:=I3.kept (t':=s3.toks) fun b ob q=>aac _ q;obtain⟨T,id,hT,ht,hg⟩:=hr pins {s3 with heap:=s3.heap.push {cls:=.type "slice",data:=.fields #[vl,vu,.none]}} σ H3 x v vl vu l u s3.heap.objs.size Q I4 r1 (Heap.IsSliceOf.new ..) pl pu q3;show wpAny (model X.prog X.w) X.A (subscriptTail e (.Slice lo hi none p2) v (.ref s3.heap.objs.size)) (EP X pins σ Q) X.xe {s3 with heap:=s3.heap.push {cls:=.type "slice",data:=.fields #[vl,vu,.none]}};exact tail_any (ops:=[.ref s3.heap.objs.size,v]) ht hT hg (by with_unfolding_all rfl)
noncomputable def xU (xs:List V) (lo hi:BBM):List V:=(xs.drop (HT.fy xs.length 0 lo)).take (HT.fy xs.length xs.length hi-HT.fy xs.length 0 lo)
def uD (xs:List V) (lo hi:BBM):(xU xs lo hi).length<=xs.length:=by
 unfold xU;rw[abQ,abr];lia
def YG (K:AAD):V->BBM->BBM->Hp->VK->Prop:=fun x lo hi H Q=>∃a xs,x= .ref a/\yt K H a xs/\
 ¬(HT.fy xs.length 0 lo=0/\HT.fy xs.length xs.length hi=xs.length)/\∀p,H p=none->Q (.ref p) (upd H p (.tup (xU xs lo hi)))
def Qd:UB X (YG X.K):=by
 intro pins s σ H x v vl vu lo hi sl Q I rx hs pl pu h;obtain⟨a,xs,rfl,hx,hw,q⟩:=h;cases rx;obtain⟨its,r,ht,hz⟩:=I.tuple hx;have hlen:its.toArray.size=xs.length:=by rw[aad];exact r.length.symm
 refine⟨"tuple",_,aaX.lookup,ht.typeIs,?_⟩;refine HT.q8 ht hs pl pu (by rw[hlen];exact hw) ?_ (by rw[hlen];exact hz);rw[hlen];refine⟨.ref s.heap.objs.size,_,I.laid (t':=s.toks) (o:=.tup (xU xs lo hi)) (fun b ob q=>aac _ q) (aaj _) ?_,rfl,q _ (I.hok.fresh (aaj _))⟩;exact⟨aaC (uD xs lo hi) hz,_,(r.drop (HT.fy xs.length 0 lo)).take (HT.fy xs.length xs.length hi-HT.fy xs.length 0 lo),IsTup.new _ _⟩
def UC (K:AAD):R2:=fun x y H Q=>∃a b xs ys,x= .ref a/\y= .ref b/\yt K H a xs/\yt K H b ys/\xs≠[]/\xs.length+ys.length<=sizeLine/\
 (ys=[]->Q (.ref a) H)/\(ys≠[]->∀p,H p=none->Q (.ref p) (upd H p (.tup (xs++ys))))
def Vals.zV {us:AAL}(r:Vals xs us):us=[]↔xs=[]:=by
 cases r with
 |nil=>simp
 |cons _ _=>simp
def Mf:uA X (binaryOp .Add) (UC X.K):=by
 intro pins s σ H x y v u Q I rx ry h;obtain⟨a,b,xs,ys,rfl,rfl,ha,hb,hx,hz,q1,q2⟩:=h;cases rx;cases ry;obtain⟨its,r1,p1,_⟩:=I.tuple ha;obtain⟨its2,r2,p2,_⟩:=I.tuple hb;refine HT.Mb p1 p2 (fun z=>hx (r1.zV.mp z)) (fun z=>⟨.ref a,H,I,rfl,q1 (r2.zV.mp z)⟩) (fun z=>?_) (by rw[<-r1.length,<-r2.length];exact hz);refine⟨.ref s.heap.objs.size,_,I.laid (t':=s.toks) (o:=.tup (xs++ys)) (fun b ob q=>aac _ q) (aaj _) ?_,rfl,q2 (fun w=>z (r2.zV.mpr w)) _ (I.hok.fresh (aaj _))⟩;exact⟨by rw[aaw];exact hz,_,r1.append r2,IsTup.new _ _⟩
end
noncomputable def Dn (n:Nat) (i:Int):Option Nat:=if 0<=i then(if i<n then some i.toNat else none) else if -(n:Int)<=i then some (i+n).toNat else none
def dX {α:Type}(xs:List α) (i:Int):Option α:=(Dn xs.length i).bind fun j=>xs[j]?
def Ez {i:Int}{j:Nat}(h:Dn n i=some j):seqIndex? i n=some j/\j<n/\-(n:Int)<=i/\i<n:=by
 unfold Dn at h;by_cases h0:0<=i
 ·rw[if_pos h0] at h;by_cases h1:i<n
  ·rw[if_pos h1] at h;have e:i.toNat=j:=aaV h;exact⟨by rw[seqIndex_of h0 h1,e],by lia,by lia,h1⟩
  ·rw[if_neg h1] at h;cases h
 ·rw[if_neg h0] at h;by_cases h1:-(n:Int)<=i
  ·rw[if_pos h1] at h;have e:(i+n).toNat=j:=aaV h;exact⟨by rw[seqIndex_neg (by lia) h1,e],by lia,h1,by lia⟩
  ·rw[if_neg h1] at h;cases h
def zW {α:Type}{xs:List α}{i:Int}{v:α}(h:dX xs i=some v):∃j,seqIndex? i xs.length=some j/\xs[j]? =some v/\j<xs.length/\-(xs.length:Int)<=i/\i<xs.length:=by
 unfold dX at h;cases e:Dn xs.length i with
 |none=>rw[e] at h;cases h
 |some j=>
  rw[e] at h;obtain⟨h1,h2,h3,h4⟩:=Ez e;exact⟨j,h1,h,h2,h3,h4⟩
def zX {α:Type}{xs:List α}{j:Nat}{v:α}(h:xs[j]? =some v):dX xs (j:Int)=some v:=by
 have hj:j<xs.length:=(aau.mp h).1;have e:Dn xs.length (j:Int)=some j:=by
  unfold Dn;rw[if_pos (by lia),if_pos (by lia)];simp
 unfold dX;rw[e];exact h
def pA (b:Expr):Prop:=∀o i,subscripted b false o i=operate [o,i] (getItem o i)
def IU (X:Cx) (r:R2):Prop:=
 ∀(value slice:Expr) (pins:AAG) (s:Shared) (σ:St) (H:Hp) (x y:V) (v u:Value) (Q:VK),Inv X pins σ H s->RelV x v->RelV y u->r x y H Q->
  subscripted slice false v u=operate [v,u] (getItem v u)->wpAny (model X.prog X.w) X.A (subscriptTail value slice v u) (EP X pins σ Q) X.xe s
def YH (X:Cx) (id:String) (r:V->List V->Hp->VK->Prop):Prop:=
 ∀(pins:AAG) (s:Shared) (σ:St) (H:Hp) (x:V) (xs:List V) (v:Value) (us:AAL) (Q:VK),Inv X pins σ H s->RelV x v->Vals xs us->r x xs H Q->
  wpAny (model X.prog X.w) X.A (call (.builtin id) (v::us)) (EP X pins σ Q) X.xe s
section
variable {X:Cx}{a b:Expr}{ta tb:TE}{pos:Pos}
def IU.or {r r':R2}(h:IU X r) (h':IU X r'):IU X (fun x y H Q=>r x y H Q\/r' x y H Q):=by
 intro value slice pins s σ H x y v u Q I rx ry q hs;rcases q with q|q
 ·exact h value slice pins s σ H x y v u Q I rx ry q hs
 ·exact h' value slice pins s σ H x y v u Q I rx ry q hs
def BL {r:R2}(hr:IU X r) (ha:PE X a ta) (hb:PE X b tb) (hs:pA b):PE X (.Subscript a b pos) (Oo r ta tb):=by
 intro pins s σ H Q I h;exact Subscript_ (PK ha hb I h fun v u s2 x y H2 I2 rx ry q=>hr a b pins s2 σ H2 x y v u Q I2 rx ry q (hs _ _))
def UD (K:AAD):R2:=fun x y H Q=>∃p xs i v,x= .ref p/\y= .int i/\lE K H p xs/\dX xs i=some v/\Q v H
def UE (K:AAD):R2:=fun x y H Q=>∃p xs i v,x= .ref p/\y= .int i/\yt K H p xs/\dX xs i=some v/\Q v H
def UG:R2:=fun x y H Q=>∃z i c,x= .str z/\y= .int i/\z.length<=sizeLine/\dX z.cps.toList i=some c/\Q (.str ⟨#[c]⟩) H
def EA:IU X (UD X.K):=by
 intro value slice pins s σ H x y v u Q I rx ry h hs;obtain⟨p,xs,i,z,rfl,rfl,hq,he,q⟩:=h;cases rx;obtain⟨t,rfl⟩:=ry;obtain⟨its,r,pl,hz⟩:=I.list hq;obtain⟨j,h1,h2,h3,h4,h5⟩:=zW he;obtain⟨w,ew,rw'⟩:=r.get h2;have hl:=r.length;have hn:=sP;have fin:EP X pins σ Q w s:=⟨z,H,I,rw',q⟩
 by_cases h0:0<=i
 ·have hj:i.toNat=j:=by
   rw[seqIndex_of h0 h5] at h1;exact aaV h1
  exact item_listR pl.isList h0 (by lia) (by rw[hj];simpa using ew) fin hs
 ·have hj:(i+(its.toArray.size:Int)).toNat=j:=by
   rw[seqIndex_neg (by lia) h4] at h1;rw[aad,<-hl];exact aaV h1
  exact subscriptTail_builtinR (x:=w) pl.isList.typeIs aep.lookup
   (wpAny_getItem_list_neg (Q:=fun r s'=>r=w/\EP X pins σ Q r s') pl.isList (by lia) (by rw[aad]<;>lia) (by lia) (by rw[hj];simpa using ew) ⟨rfl,fin⟩) hs
def IV:IU X (UE X.K):=by
 intro value slice pins s σ H x y v u Q I rx ry h hs;obtain⟨p,xs,i,z,rfl,rfl,hq,he,q⟩:=h;cases rx;obtain⟨t,rfl⟩:=ry;obtain⟨its,r,pl,hz⟩:=I.tuple hq;obtain⟨j,h1,h2,h3,h4,h5⟩:=zW he;obtain⟨w,ew,rw'⟩:=r.get h2;have hl:=r.length;have hn:=sP;have fin:EP X pins σ Q w s:=⟨z,H,I,rw',q⟩
 exact subscriptTail_builtinR (x:=w) pl.typeIs slot_tuple_getitem.lookup
  (getItem_tuple (j:=j) (Q:=fun r s'=>r=w/\EP X pins σ Q r s') pl (by lia) (by lia) (by rw[aad,<-hl];exact h1) (by simpa using ew) ⟨rfl,fin⟩) hs
def IW:IU X UG:=by
 intro value slice pins s σ H x y v u Q I rx ry h hs;obtain⟨z,i,c,rfl,rfl,hz,he,q⟩:=h;obtain⟨t,rfl⟩:=rx;obtain⟨t',rfl⟩:=ry;obtain⟨j,h1,h2,h3,h4,h5⟩:=zW he;have hl:z.cps.toList.length=z.length:=by simp[Str.length]
 rw[hl] at h1 h4 h5;have hn:=sP;exact tail_any (typeIs_str s z t) slot_str_getitem.lookup (getItem_str (c:=c) (by
  have e1:decide (i < -(2 ^ 63:Int))=false:=aaS (by lia);have e2:decide (i≥2 ^ 63)=false:=aaS (by lia);rw[e1,e2,aeS]) (by rw[h1];simpa using h2) ⟨.str ⟨#[c]⟩,H,I.tok _,⟨_,rfl⟩,q⟩) hs
def rIx (K:AAD):R2:=fun x y H Q=>UD K x y H Q\/UE K x y H Q\/UG x y H Q
def zY:IU X (rIx X.K):=EA.or (IV.or IW)
def Dp (its:AAL) (n j:Nat) (u:Value):Obj.mapSeq (·.setIfInBounds j u) {cls:=.type "list",data:=.seq its.toArray n}={cls:=.type "list",data:=.seq (its.set j u).toArray n}:=by
 simp[Obj.mapSeq]
def Inv.lst {pins:AAG}{σ:St}{H:Hp}{s:Shared}{p:Addr}{xs:List V}(I:Inv X pins σ H s) (h:H p=some (.lst xs)):
  ∃(its:AAL) (n:Nat),Vals xs its/\s.heap.get? p=some {cls:=.type "list",data:=.seq its.toArray n}/\xs.length<=sizeLine:=by
 obtain⟨z,its,n,r,e⟩:=I.hok p _ h;exact⟨its,n,r,e,z⟩
def Inv.Qe {σ:St}{H:Hp}{s:Shared}{p:Addr}{ys:List V}{n':Nat}{f:Obj->Obj}(I:Inv X pins σ H s) (h:H p=some (.lst xs))
  (ho:s.heap.get? p=some {cls:=.type "list",data:=.seq its.toArray n}) (hf:f {cls:=.type "list",data:=.seq its.toArray n}={cls:=.type "list",data:=.seq its'.toArray n'}) (r:Vals ys its') (hz:ys.length<=sizeLine) (t:Nat):
  Inv X pins σ (upd H p (.lst ys)) {s with heap:=s.heap.update p f,toks:=t}:=by
 have e:(s.heap.update p f).get? p=some {cls:=.type "list",data:=.seq its'.toArray n'}:=by
  rw[ac6 f ho (by rw[hf]<;>rfl),hf]
 refine I.write (x:=p) (e:=p) (by rw[h];trivial) (.inl rfl) (fun b u hb q=>(ab0 _ _ (abJ hb)).trans q) ⟨_,e⟩ ?_;exact⟨hz,its',n',r,e⟩
def UH:V->V->V->Hp->(Hp->Prop)->Prop:=fun o i v H Q=>∃p xs k j,o= .ref p/\i= .int k/\H p=some (.lst xs)/\Dn xs.length k=some j/\Q (upd H p (.lst (xs.set j v)))
def set_list:TZ X UH:=by
 intro pins s σ H o i v ov iv u Q I ro ri rv h;obtain⟨p,xs,k,j,rfl,rfl,hp,hj,q⟩:=h;cases ro;obtain⟨t,rfl⟩:=ri;obtain⟨its,n,r,ho,hz⟩:=I.lst hp;obtain⟨h1,h2,h3,h4⟩:=Ez hj;have hl:=r.length;have hn:=sP;have I':Inv X pins σ (upd H p (.lst (xs.set j v))) {s with heap:=s.heap.update p (Obj.mapSeq (·.setIfInBounds j u))}:=
  I.Qe hp ho (Dp its n j u) (r.set rv j) (by rw[ab6];exact hz) s.toks
 by_cases h0:0<=k
 ·have hk:k.toNat=j:=by
   rw[seqIndex_of h0 h4] at h1;exact aaV h1
  exact PySem.W.ki_setAt ho h0 (by lia) (by rw[aad,<-hl];exact h4) (by rw[hk];exact⟨_,I',q⟩)
 ·have hk:(k+(its.toArray.size:Int)).toNat=j:=by
   rw[seqIndex_neg (by lia) h3] at h1;rw[aad,<-hl];exact aaV h1
  exact PySem.W.ki_setBack ho (by lia) (by rw[aad,<-hl];exact h3) (by lia) (by rw[hk];exact⟨_,I',q⟩)
def zZ (lo hi:BBM) (n:Nat):(sliceBounds lo hi none n).1=((HT.fy n 0 lo:Nat):Int)/\(sliceBounds lo hi none n).2.1=((HT.fy n n hi:Nat):Int)/\(sliceBounds lo hi none n).2.2=1:=by
 refine⟨?_,?_,rfl⟩
 ·cases lo with
  |none=>simp[sliceBounds,HT.fy]
  |some i=>
   simp only[sliceBounds,HT.fy,Option.getD_none,show(1:Int) > 0 by decide,if_true];by_cases h:i<0
   ·simp only[h,if_true]<;>lia
   ·simp only[h,acu]<;>lia
 ·cases hi with
  |none=>simp[sliceBounds,HT.fy]
  |some i=>
   simp only[sliceBounds,HT.fy,Option.getD_none,show(1:Int) > 0 by decide,if_true];by_cases h:i<0
   ·simp only[h,if_true]<;>lia
   ·simp only[h,acu]<;>lia
def xV (its:AAL) (lo hi:BBM):slicePick its.toArray lo hi none=((its.drop (HT.fy its.length 0 lo)).take (HT.fy its.length its.length hi-HT.fy its.length 0 lo)).toArray:=by
 obtain⟨h1,h2,h3⟩:=zZ lo hi its.toArray.size;unfold slicePick;rw[h1,h2,h3];simp only[sliceRange_one,pick_run,aad]<;>rfl
def YI (K:AAD):V->BBM->BBM->Hp->VK->Prop:=fun x lo hi H Q=>∃a xs,x= .ref a/\lE K H a xs/\∀p,H p=none->Q (.ref p) (upd H p (.lst (xU xs lo hi)))
def EB:UB X (YI X.K):=by
 intro pins s σ H x v vl vu lo hi sl Q I rx hs pl pu h;obtain⟨a,xs,rfl,hx,q⟩:=h;cases rx;obtain⟨its,r,ht,hz⟩:=I.list hx;have hlen:=r.length;refine⟨"list",_,aep.lookup,ht.isList.typeIs,?_⟩;refine wpAny_getItem_list_slice ht.isList hs pl pu .none (by simp) ?_ (by rw[aad]<;>lia);rw[xV,<-hlen];refine⟨.ref s.heap.objs.size,_,I.laid (t':=s.toks) (o:=.lst (xU xs lo hi)) (fun b ob q=>aac _ q) (aaj _) ?_,rfl,q _ (I.hok.fresh (aaj _))⟩;exact⟨aaC (uD xs lo hi) hz,_,0,(r.drop (HT.fy xs.length 0 lo)).take (HT.fy xs.length xs.length hi-HT.fy xs.length 0 lo),aaB _ rfl⟩
def jP:gD X (.builtin "len") (fun xs H Q=>∃p ys,xs=[.ref p]/\(lE X.K H p ys\/yt X.K H p ys)/\Q (.int ys.length) H):=by
 intro pins s σ H xs us Q I r h;obtain⟨p,ys,rfl,hq,q⟩:=h;obtain⟨u,rfl,rx⟩:=vals1 r;cases rx;have hn:=sP;rcases hq with hq|hq
 ·obtain⟨its,r',pl,hz⟩:=I.list hq;have hlen:=r'.length;exact Calls.call_len_list pl.isList (by simp only[aad]<;>lia) ⟨.int ys.length,H,I.tok _,⟨s.toks+1,by rw[aad,hlen]⟩,q⟩
 ·obtain⟨its,r',pl,hz⟩:=I.tuple hq;have hlen:=r'.length;exact len_tuple pl (by simp only[aad]<;>lia) ⟨.int ys.length,H,I.tok _,⟨s.toks+1,by rw[aad,hlen]⟩,q⟩
def rq:gD X (.builtin "len") (fun xs H Q=>∃z,xs=[.str z]/\z.length<=sizeLine/\Q (.int z.length) H):=by
 intro pins s σ H xs us Q I r h;obtain⟨z,rfl,hz,q⟩:=h;obtain⟨u,rfl,t,rfl⟩:=vals1 r;have hn:=sP;exact len_str (by lia) ⟨.int z.length,H,I.tok _,⟨_,rfl⟩,q⟩
def rz:gD X (.type "list") (fun xs H Q=>∃p ys,xs=[.ref p]/\(lE X.K H p ys\/yt X.K H p ys)/\∀l,H l=none->Q (.ref l) (upd H l (.lst ys))):=by
 intro pins s σ H xs us Q I r h;obtain⟨p,ys,rfl,hq,q⟩:=h;obtain⟨u,rfl,rx⟩:=vals1 r;cases rx;have fin:∀(its:AAL),Vals ys its->ys.length<=sizeLine->∀(h':Heap) (c':Nat),(∀b o',s.heap.get? b=some o'->h'.get? b=some o')->
   h'.get? s.heap.objs.size=some {cls:=.type "list",dict:=none,data:=.seq its.toArray c',slots:=#[]}->EP X pins σ Q (.ref s.heap.objs.size) {s with heap:=h'}:=fun its r' hz h' c' kp e=>
  ⟨.ref s.heap.objs.size,_,I.laid (t':=s.toks) kp (aaj _) (show dZ X.prog X.w _ h' _ (.lst ys) from⟨hz,its,c',r',e⟩),rfl,q _ (I.hok.fresh (aaj _))⟩
 rcases hq with hq|hq
 ·obtain⟨its,r',pl,hz⟩:=I.list hq;have hlen:=r'.length;obtain⟨o,ho,hc,n,hd⟩:=pl.isList;exact call_list_seq p (.inl rfl) ho hc hd (fun h' c' kp e=>fin its r' hz h' c' kp e) (by simp only[aad]<;>lia)
 ·obtain⟨its,r',pl,hz⟩:=I.tuple hq;have hlen:=r'.length;obtain⟨o,ho,hc,n,hd⟩:=pl;exact call_list_seq p (.inr rfl) ho hc hd (fun h' c' kp e=>fin its r' hz h' c' kp e) (by simp only[aad]<;>lia)
def pR:gD X (.type "tuple") (fun xs H Q=>∃p ys,xs=[.ref p]/\((lE X.K H p ys/\∀l,H l=none->Q (.ref l) (upd H l (.tup ys)))\/(yt X.K H p ys/\Q (.ref p) H))):=by
 intro pins s σ H xs us Q I r h;obtain⟨p,ys,rfl,h⟩:=h;obtain⟨u,rfl,rx⟩:=vals1 r;cases rx;rcases h with⟨hq,q⟩|⟨hq,q⟩
 ·obtain⟨its,r',pl,hz⟩:=I.list hq;have hlen:=r'.length;refine call_tuple_list pl.isList (fun h' kp=>?_) (by simp only[aad]<;>lia);have I1:Inv X pins σ H {s with heap:=h'}:=I.kept (t':=s.toks) kp;have I2:Inv X pins σ (upd H h'.objs.size (.tup ys)) {s with heap:=h'.push {cls:=.type "tuple",data:=.seq its.toArray}}:=
   I1.laid (t':=s.toks) (fun b o e=>aac _ e) (aaj _) (show dZ X.prog X.w _ _ _ (.tup ys) from⟨hz,its,r',IsTup.new _ _⟩)
  exact⟨.ref h'.objs.size,_,I2,rfl,q _ (I1.hok.fresh (aaj _))⟩
 ·obtain⟨its,r',pl,hz⟩:=I.tuple hq;exact call_tuple_same pl ⟨.ref p,H,I,rfl,q⟩
def tyV (K:AAD) (T:String) (x:V) (H:Hp):Prop:=match x with
 |.str _=>T="str"
 |.int _=>T="int"
 |.ref p=>(T="list"/\∃xs,lE K H p xs)\/(T="tuple"/\∃o,K.lookup p=some o/\o.cls= .type "tuple"/\o.dict=none)\/
   (T="dict"/\((∃kvs,H p=some (.dK kvs))\/∃kvs,H p=some (.dT kvs)))\/(T="set"/\∃S n,H p=some (.set S n))
 |_=>False
def Qg {σ:St}{H:Hp}{s:Shared}{T:String}{x:V}{v:Value}(I:Inv X pins σ H s) (r:RelV x v) (ty:tyV X.K T x H):
  s.TypeIs v T/\∀a,v= .ref a->∃ob,s.heap.get? a=some ob/\ob.dict=none:=by
 cases x with
 |str z=>
  obtain⟨t,rfl⟩:=r;cases(show T="str" from ty);exact⟨typeIs_str s z t,fun _ e=>nomatch e⟩
 |int i=>
  obtain⟨t,rfl⟩:=r;cases(show T="int" from ty);exact⟨typeIs_int s i t,fun _ e=>nomatch e⟩
 |ref p=>
  cases r;rcases ty with⟨rfl,xs,hq⟩|⟨rfl,o,hk,hc,hd⟩|⟨rfl,hk⟩|⟨rfl,S,n,hk⟩
  ·obtain⟨its,_,pl,_⟩:=I.list hq;refine⟨pl.isList.typeIs,fun a e=>?_⟩;cases e;obtain⟨o,n,e,c,hd,_⟩:=pl;exact⟨o,e,hd⟩
  ·refine⟨⟨o,I.zI p o hk,hc⟩,fun a e=>?_⟩;cases e;exact⟨o,I.zI _ o hk,hd⟩
  ·have z:∃o,s.heap.get? p=some o/\o.ExactDict:=by
    rcases hk with⟨kvs,hk⟩|⟨kvs,hk⟩
    ·obtain⟨_,_,_,_,o,_,_,e,ex,_⟩:=I.hok p _ hk;exact⟨o,e,ex⟩
    ·obtain⟨_,_,_,_,o,_,_,e,ex,_⟩:=I.hok p _ hk;exact⟨o,e,ex⟩
   obtain⟨o,e,ex⟩:=z;refine⟨⟨o,e,ex.1⟩,fun a e2=>?_⟩;cases e2;exact⟨o,e,ex.2.1⟩
  ·obtain⟨o,_,_,_,e,ex,_⟩:=I.hok p _ hk;refine⟨⟨o,e,ex.1⟩,fun a e2=>?_⟩;cases e2;exact⟨o,e,ex.2.1⟩
 |_=>exact False.elim ty
def tBM (K:AAD) (T:String) (r:V->List V->Hp->VK->Prop) (to:TE) (t:TA):TE:=fun σ H Q=>to σ H fun x H1=>tyV K T x H1/\t σ H1 fun xs H2=>r x xs H2 Q
variable {o e:Expr}{es:BBC}{to:TE}{t:TA}{name:Str}{apos cpos:Pos}{T id:String}{r:V->List V->Hp->VK->Prop}
def OB (pa:PlainAttrs T) (slot:Slot T name id) (hty:typeOf (.builtin id)=pure (.type "method_descriptor")) (hm:YH X id r) (ho:PE X o to) (ha:PA X (e::es) t)
  (hbase:attributeBase o name X.env (eval o X.env)=eval o X.env:=by rfl)
  (hfew:((backTo cpos (starEach (e::es) X.env)).all (fun x=>!x.1) && (backToKw cpos (keywordEach [] X.env)).all (fun x=>x.1.isSome)
   && decide ((e::es).length+([]:BBI).length+(if([]:BBI).isEmpty then 0 else 1)<30))=true:=by rfl)
  (hline:(apos.endLine == cpos.line)=true:=by rfl) (hs:starEach (e::es) X.env=(false,eval e X.env)::starEach es X.env:=by rfl) (hplain:(backTo cpos (starEach es X.env)).any (·.1)=false:=by rfl):
  PE X (.Call (.Attribute o name apos) (e::es) [] cpos) (tBM X.K T r to t):=by
 intro pins s σ H Q I h;refine wpAny_Call_method_late hbase hfew hline rfl (dW (ho pins s σ H _ I h) fun v s1 hh=>?_);obtain⟨x,H1,I1,r1,ty,q1⟩:=hh;obtain⟨h1,h2⟩:=Qg I1 r1 ty;refine⟨T,id,pa,slot,hty,h1,h2,?_⟩;have hA:=ha cpos pins s1 σ H1 _ I1 q1;rw[hs] at hA ⊢;refine Calls.callWith_builtin (by show(false || (backTo cpos (starEach es X.env)).any (·.1))=false;rw[hplain]<;>rfl) (Calls.evalArgs_plain ?_);exact dW hA fun us s2 ⟨vs,H2,I2,r2,q2⟩=>hm pins s2 σ H2 x vs v us Q I2 r1 r2 q2
end
def MtM (X:Cx) (id:String) (r:V->List V->Hp->VK->Prop):Prop:=
 ∀(pins:AAG) (s:Shared) (σ:St) (H:Hp) (x:V) (xs:List V) (v:Value) (us:AAL) (Q:VK),Inv X pins σ H s->RelV x v->Vals xs us->r x xs H Q->
  wpAny (model X.prog X.w) X.A (call (.builtin id) (v::us)) (EP X pins σ Q) X.xe s
theorem Vals.one:∀{x:V}{us:AAL},Vals [x] us->∃u,us=[u]/\RelV x u
 |_,_,.cons r .nil=>⟨_,rfl,r⟩
section
variable {X:Cx}{pins:AAG}{σ:St}{H:Hp}{s:Shared}{l:Addr}{xs ys:List V}
def Inv.YJ {f:Array Value->Array Value}{t':Nat}(I:Inv X pins σ H s) (hH:H l=some (.lst xs))
  (e:s.heap.get? l=some {cls:=.type "list",data:=.seq its.toArray n}) (hf:f its.toArray=its'.toArray) (hv:Vals ys its') (hz:ys.length<=sizeLine):
  Inv X pins σ (upd H l (.lst ys)) {s with heap:=s.heap.update l (Obj.mapSeq f),toks:=t'}:=by
 have q:=PySem.IsL.update e f;rw[hf] at q;refine I.write (x:=l) (e:=l) (by rw[hH];exact trivial) (.inl rfl) (fun b' u hb hu=>(ab0 s.heap (Obj.mapSeq f) (abJ hb)).trans hu) ⟨_,q⟩ ?_;exact⟨hz,its',_,hv,q⟩
def Inv.YK {t':Nat}(I:Inv X pins σ H s) (hv:Vals ys its) (hz:ys.length<=sizeLine):
  Inv X pins σ (upd H s.heap.objs.size (.lst ys)) {s with heap:=s.heap.push {cls:=.type "list",data:=.seq its.toArray},toks:=t'}:=
 I.laid (fun _ _ q=>aac _ q) (aaj _) ⟨hz,its,0,hv,aaB _ rfl⟩
def Inv.fresh (I:Inv X pins σ H s):H s.heap.objs.size=none:=I.hok.fresh (aaj _)
def Inv.IX (I:Inv X pins σ H s) (hH:H l=some (.lst xs)):xs.length<=sizeLine/\∃(its:AAL) (n:Nat),Vals xs its/\xs.length=its.length/\s.heap.get? l=some {cls:=.type "list",data:=.seq its.toArray n}:=by
 obtain⟨z,its,n,r,e⟩:=I.hok l _ hH;exact⟨z,its,n,r,r.length,e⟩
end
section
variable {X:Cx}
def EC:V->List V->Hp->VK->Prop:=fun x vs H Q=>∃l xs y,x= .ref l/\vs=[y]/\H l=some (.lst xs)/\xs.length<sizeLine/\Q .bQ (upd H l (.lst (xs++[y])))
def eO:MtM X "list.append" EC:=by
 intro pins s σ H x vs v us Q I rx rv h;obtain⟨l,xs,y,rfl,rfl,hH,hz,q⟩:=h;cases rx;obtain⟨u,rfl,ru⟩:=rv.one;obtain⟨z,its,n,r,hl,e⟩:=I.IX hH;refine call_meets F.slot_list_append ⟨_,e,rfl⟩ F.entry_list_append (F.args_list_append_2 _ _) (PySem.list_append l its.toArray n u (by rw[aad];lia)) ⟨e,?_⟩;refine⟨.bQ,_,I.YJ (its':=its++[u]) hH e (by simp) (r.append (.cons ru .nil)) ?_,rfl,q⟩;rw[aaw,ab4];lia
end
end L2
namespace Att
open PySem PySem.W PySem.Calls PyProof.Rows
def uT {P:Params}{h:Heap}:∀(ns:BBD) (vs:AAL),WellAll P h vs (ns.map WData.int)->IntsAre vs ns:=by
 intro ns
 induction ns with
 |nil=>
  intro vs w;rw[List.map_nil] at w;cases w;exact .nil
 |cons n ns ih=>
  intro vs w;rw[abj] at w;cases w with
  |cons a b=>
   cases a;exact .cons _ _ (ih _ b)
def Gz {l:OpenLaw}{n:Nat}(hn:l.most=some n){P:Params}{h:Heap}{args:List WData}{vals:AAL}
  (hpre:l.row.toRowW.claim.pre args=true) (hwl:WellAll P h vals args):
  ∃a vs ns,vals=[Value.ref a]/\args=[WData.list (ns.map WData.int)]/\h.get? a=some {cls:=.type "list",data:=.seq vs.toArray}/\IntsAre vs ns/\ns.length<=n:=by
 have hsh:WShape.hasAll [] args [.list .int]=true:=(pre_splitW hpre).1;have hc:l.pre.holds [] {args:=args}=true:=(pre_splitW hpre).2;obtain⟨d,r,rfl,h1,h2⟩:=hasAllW_cons hsh;obtain rfl:=hasAllW_nil h2;obtain⟨xs,rfl,h3⟩:=hasW_list h1;obtain⟨ns,rfl⟩:=items_int h3;have hlen:ns.length<=n:=by
  unfold OpenLaw.pre at hc;have h4:(WTm.not (.lt (.lit (.int (n:Int))) (.len (.arg 0)))).holds [] {args:=[.list (ns.map .int)]}=true:=by
   have h4:=(holds_andW hc).1;rw[hn] at h4;exact h4
  have h5:=condW_of h4 (w_not (w_lt w_lit (w_len_list (w_arg rfl))));rw[aai] at h5;refine Nat.le_of_not_lt fun q=>?_;have q':(n:Int)<((ns.length:Nat):Int):=by lia
  first
   |(rw[aaT q'] at h5;exact absurd h5 (by decide))
   |(simp at h5;lia)
 cases hwl with
 |cons w1 w2=>
  cases w2;cases w1 with
  |list ho hall=>exact⟨_,_,ns,rfl,rfl,ho,uT ns _ hall,hlen⟩
def GC (l:OpenLaw) (args:List WData):l.row.toRowW.claim.post args (.bool true) args=true:=
 postW_of (r:=l.row.toRowW) (X:=(true == true))
  (show WShape.has [] (.bool true) .bool=true by first|rfl|decide|simp[WShape.has,WShape.arms,WShape.armsAll])
  (show(WTm.eq .res (.lit (.bool true))).value [] {args:=args,res:=some (.bool true),after:=args}=some (.bool (true == true)) from w_eq_bool (w_res rfl) w_lit) rfl
def BN {l:OpenLaw}{n:Nat}{q:Program}{loose:BBB}{XP:(Str->BBP)->Heap->Prop}{YP:World->Heap->Prop}{d:DefRec}
  (hn:l.most=some n) (hdf:d.params.defaults=[])
  (call:∀(w:World) (s₀ s₁:Shared) (mg mb:AAF) (fa:Addr) (o:Obj) (pm cd doc:Value) (a:Addr) (vs:AAL) (ns:BBD),
   Ground q loose [] XP w s₀ mg mb s₁.heap->YP w s₁.heap->
   s₁.heap.get? fa=some o->o.data= .func (docDef d.name d.params d.body d.scope pm cd doc)->s₁.heap.CodeRec cd d.name->mg d.name=some (.ref fa)->
   s₁.heap.get? a=some {cls:=.type "list",data:=.seq vs.toArray}->IntsAre vs ns->ns.length<=n->s₁.gens=#[]->
   codeAny (model l.prog w) callerA (.call (.ref fa) ⟨[.ref a],[]⟩) (fun r s'=>r= .ok (.ret (.bool true))/\OldK s₁.heap s'.heap/\s'.os=s₁.os/\AllBare s'.gens) s₁):
  WalkO q loose XP YP l.row.toRowW d [] (fun f vs=>PySem.call f vs):=by
 intro w s₀ s₁ mg mb G Y fa o pm cd doc dV kV ho hd hcd hD hmg hg args vals as hpre hlay hrd hwl hlo;obtain rfl:dV= .none:=Dflts.none hD hdf;obtain rfl:kV= .none:=Dflts.noKw hD;obtain⟨a,vs,ns,rfl,rfl,hobj,hints,hlen⟩:=Gz hn hpre hwl;refine enter_call (ac5 (call w s₀ s₁ mg mb fa o pm cd doc a vs ns G Y ho (fd_plain hd) hcd hmg hobj hints hlen hg) fun r s' hq=>?_);obtain⟨rfl,h2,h3,h4⟩:=hq;exact⟨.inl ⟨.bool true,.bool true,[],rfl,fun _=>rfl,.bool true,GC l _,fun _=>⟨List.Pairwise.nil,fun _ hm=>(nomatch hm)⟩⟩,h2,h3,h4⟩
end Att
namespace L2
open PySem PySem.Spec PyProof.Rows
variable {P:Program}{w:World}{K:AAD}{k:Nat}{fd:FuncData}{x qual:Str}{X:Cx}{st:Stmt}{ps bE:BBB}{H:Hp}{tc:TT}{pins:AAG}{σ:St}{cap:BBJ}{scope:Scope}{cl:List (Str×Addr)}{elt iter:Expr}{ifs:BBC}{pos pos2 px:Pos}{wi:TI}{te:TE}{use:Option (Value->Sem Unit)}{Qf:AAE}
theorem yD:∀{vs:AAL}{ns:BBD},IntsAre vs ns->Vals (ns.map V.int) vs
 |_,_,.nil=>.nil
 |_,_,.cons n t h=>.cons ⟨t,rfl⟩ (yD h)
def Mg (H:Hp):Prop:=∀b,H b=none\/∃o xs,H b=some (.jh o (.lst xs))
def IY {mg mb:AAF}{CX:HU}{fa a:Addr}{sp:Sp}{s₁:Shared}{vs:AAL}{ns:BBD}
  (KX:K.In s₁.heap) (hns:s₁.heap.Ns mainGlobals mg) (hb:s₁.heap.Ns builtinsNs mb) (hbb:∀x:Str,x≠"__name__"->mb x=bootBuiltins x) (hlim:s₁.heap.NoLimit) (hg:s₁.gens=#[])
  (ha:s₁.heap.get? a=some {cls:=.type "list",data:=.seq vs.toArray}) (hi:IntsAre vs ns) (hl:ns.length<=sizeLine) (hr:fE k callerA)
  (F:∀base:Heap,K.In base->base.Ns mainGlobals mg->j7 P w K mg base CX k fa fd [x] sp) (hbind:∀(s:Shared) (u:Value),BindsTo s fd ⟨[u],[]⟩ [(x,u)])
  (Ot:∀H:Hp,Mg H->lE K H a (ns.map V.int)->sp [.ref a] H (fun v _=>v= .bl true) fun _ _ _=>False)
  (YL:∀H e s',CX [] H s₁ (fun _ _ _=>False) e s'->False):
  codeAny (model P w) callerA (.call (.ref fa) ⟨[.ref a],[]⟩) (fun r s'=>r= .ok (.ret (.bool true))/\OldK s₁.heap s'.heap/\s'.os=s₁.os/\AllBare s'.gens) s₁:=by
 have rv:=yD hi;have lenV:=hi.length;have core:∀H:Hp,Mg H->lE K H a (ns.map V.int)->nF P w H s₁.heap->(∀b,H b≠none->b=a)->(H a≠none->K.lookup a=none)->
   codeAny (model P w) callerA (.call (.ref fa) ⟨[.ref a],[]⟩) (fun r s'=>r= .ok (.ret (.bool true))/\OldK s₁.heap s'.heap/\s'.os=s₁.os/\AllBare s'.gens) s₁:=by
  intro H hO hS hok hA hK;have ED:∀{b:Addr}{o:Obj},s₁.heap.get? b=some o->H b=none->(zH s₁.heap H).get? b=some o:=fun e n=>Ih e n;have Us:∀{b:Addr}{o:Obj}{es:Array DictEntry}{ep:Nat},s₁.heap.get? b=some o->o.data= .dict es ep->H b=none:=fun {b o es ep} e d=>by
   cases q:H b with
   |none=>rfl
   |some u=>
    have e':b=a:=hA b (by rw[q];simp);subst e';rw[ha] at e;cases e;have d':Data.seq vs.toArray _=Data.dict es ep:=d;cases d'
  have WU:∀{b:Addr}{m:AAF},s₁.heap.Ns b m->(zH s₁.heap H).Ns b m:=fun {b m} ⟨o,es,ep,e,d,r⟩=>⟨o,es,ep,ED e (Us e d),d,r⟩
  have hKb:K.In (zH s₁.heap H):=fun b o e=>ED (KX b o e) (by
   cases q:H b with
   |none=>rfl
   |some u=>
    have e':b=a:=hA b (by rw[q];simp);subst e';rw[hK (by rw[q];simp)] at e;cases e)
  have hM:Mod K mg (zH s₁.heap H):=⟨hKb,WU hns,⟨mb,WU hb,hbb⟩,let⟨mc,h1,h2⟩:=hlim;⟨mc,WU h1,h2⟩⟩
  have e0:Dk P w K mg (zH s₁.heap H) callerA [] s₁ H:=⟨rfl,hM,fun b o e=>LN e,Nat.le_of_eq (Gh _ _),trivial,fun b hb=>absurd (show b∈([]:BBE) from hb) (by simp),hok,.of_eq hg⟩
  refine ac5 ((F _ hKb (WU hns)).run callerA [] s₁ H ⟨[.ref a],[]⟩ [.ref a] [.ref a] _ _ hr e0 (hbind s₁ (.ref a)) (.cons rfl .nil) (Ot H hO hS)) fun r s' h=>?_;cases r with
  |error e=>exact(YL H e s' h).elim
  |ok fl=>
   cases fl with
   |next=>exact False.elim h
   |brk=>exact False.elim h
   |cont=>exact False.elim h
   |ret u=>
    obtain⟨v,H',os,bare,un,YM,r',q⟩:=h;have q':v= .bl true:=q;subst q';obtain rfl:u=Value.bool true:=r';refine⟨rfl,OldK.of_keep fun b o e=>?_,os,bare⟩;cases q:H b with
    |none=>exact un.keep b o e q (by intro z;exact absurd (show b∈([]:BBE) from z) (by simp)) (by simp)
    |some u=>
     rcases hO b with z|⟨ob,xs,z⟩
     ·rw[q] at z;cases z
     ·have z2:=un.xS b ob _ z;obtain⟨e1,_⟩:=hok b _ z;obtain⟨e2,_⟩:=YM b _ z2;rw[e] at e1;cases e1;exact e2
 cases hk:K.lookup a with
 |some o=>
  have e:=KX a o hk;rw[ha] at e;cases e;refine core (fun _=>none) (fun _=>.inl rfl) (.inr ⟨_,vs.toArray,_,hk,rfl,rfl,rfl,by rw[aad,lenV];exact hl,by simpa using rv⟩) (fun b u z=>by have z':(none:Option HO)=some u:=z;cases z') (fun b z=>absurd rfl z) fun z=>absurd rfl z
 |none=>
  refine core (fun b=>if b=a then some (.jh {cls:=.type "list",data:=.seq vs.toArray} (.lst (ns.map V.int))) else none) (fun b=>?_) (.inl (.inr ⟨{cls:=.type "list",data:=.seq vs.toArray},if_pos rfl⟩)) (fun b u z=>?_) (fun b z=>?_) fun _=>hk
  ·by_cases hb:b=a
   ·exact .inr ⟨_,_,if_pos hb⟩
   ·exact .inl (if_neg hb)
  ·by_cases hb:b=a
   ·have z':=(if_pos hb).symm.trans z;cases z';subst hb;exact⟨ha,by rw[aai];exact hl,vs,_,rv,ha⟩
   ·have z':=(if_neg hb).symm.trans z;cases z'
  ·by_cases hb:b=a
   ·exact hb
   ·exact absurd (if_neg hb) z
noncomputable abbrev KOf {K:AAD}{h:Heap}(_:K.In h):PySem.W.Frag:=K
def Mh {l:PySem.W.OpenLaw}{n:Nat}{q:Program}{loose:BBB}{XP:(Str->BBP)->Heap->Prop}{YP:World->Heap->Prop}{d:DefRec}{K:Params->PySem.W.Frag}{CX:World->HU}{sp:World->Sp}
  (hn:l.most=some n) (hn2:n<=sizeLine) (hdf:d.params.defaults=[]) (hr:fE k callerA)
  (hY:∀(w:World) (h:Heap),YP w h->(K w.params).In h)
  (F:∀(w:World) (mg:AAF) (fa:Addr) (h:Heap),(K w.params).In h->h.Ns mainGlobals mg->mg d.name=some (.ref fa)->
   ∃fd:FuncData,(∀(s:Shared) (u:Value),BindsTo s fd ⟨[u],[]⟩ [(x,u)])/\
    ∀base:Heap,(K w.params).In base->base.Ns mainGlobals mg->j7 l.prog w (K w.params) mg base (CX w) k fa fd [x] (sp w))
  (Ot:∀(w:World) (H:Hp) (a:Addr) (ns:BBD),ns.length<=n->Mg H->lE (K w.params) H a (ns.map V.int)->sp w [.ref a] H (fun v _=>v= .bl true) fun _ _ _=>False)
  (YL:∀(w:World) (H:Hp) (s:Shared) (e:Value) (s':Shared),CX w [] H s (fun _ _ _=>False) e s'->False):
  PySem.W.WalkO q loose XP YP l.row.toRowW d [] (fun f vs=>PySem.call f vs):=by
 refine Att.BN hn hdf fun w s₀ s₁ mg mb fa o pm cd doc a vs ns G Y ho hd hcd hmg hobj hints hlen hg=>?_;have KX:=hY w _ Y;obtain⟨fd,hb,hF⟩:=F w mg fa _ KX G.T.g hmg;exact IY KX G.T.g G.T.b G.T.builtins G.T.nolimit hg hobj hints (aaC hlen hn2) hr hF hb (fun H hO hS=>Ot w H a ns hlen hO hS) fun H e s'=>YL w H s₁ e s'
noncomputable def kN (s:Stmt):Arguments:=match s with
 |.FunctionDef _ a _ _ _ _ _ _ _ _=>a
 |_=>{posonlyargs:=[],args:=[],vararg:=none,kwonlyargs:=[],kw_defaults:=[],kwarg:=none,defaults:=[]}
noncomputable def e8 (s:Stmt):BBH:=match s with
 |.FunctionDef _ _ b _ _ _ _ _ _ _=>b
 |_=>[]
noncomputable def aQ (s:Stmt):Scope:=match s with
 |.FunctionDef _ _ _ _ _ _ sc _ _ _=>sc
 |_=>{kind:=.function,names:=[],isGenerator:=false,isCoroutine:=false}
noncomputable abbrev yE:HU:=fun _ _ _ _ _ _=>False
noncomputable abbrev E0:XK:=fun _ _ _=>False
def EE :Passes yE X E0:=fun _ _ _ _ _ _ _ h=>h.elim
structure Lz (K:AAD) (x qual:Str) (st:Stmt) (f:Addr) (fd:FuncData):Prop where
 ex:∃(oc:Value) (od:BBN) (kV doc pm:Value) (an:BBN) (cdv ct:Value) (osl:Array (BBP)),
  fd=PySem.W.fnOf x qual (kN st) (e8 st) (aQ st) .none kV doc pm an cdv ct/\K.lookup f=some ⟨oc,od,.func fd,osl⟩/\PySem.W.codeIn K cdv qual=true
 kp:PySem.W.keepIn K (.ref f)=true
section
variable {P:Program}{w:World}{K:AAD}{mg:AAF}{base:Heap}
def Lz.ok {f:Addr}{N:BBB}{sp:Sp}(F:Lz K x qual st f fd) (S:bG N ps (aQ st)) (len:∀vs H Q E,sp vs H Q E->vs.length=ps.length)
  (hbody:∀(cdv:Value) (A:Around) (outer:BBF) (s:Shared) (H:Hp) (vs:List V) (Q:VK) (E:XK),fE k (A.deeper (envOfC qual (aQ st) s.heap.objs.size f cdv))->sp vs H Q E->
   ∃t,xO (vB yE P w K mg base N qual (aQ st) f cdv A outer s H E).LS (e8 st) t/\t {nx:=fun _ H'=>Q .bQ H',rt:=Q} (start N vs) H):j7 P w K mg base yE (k+1) f fd ps sp:=by
 obtain⟨oc,od,kV,doc,pm,an,cdv,ct,osl,rfl,lk,hcd⟩:=F.ex;refine Ut lk hcd S len fun A outer s H vs Q E hr Ot=>?_;obtain⟨t,h,q⟩:=hbody cdv A outer s H vs Q E hr Ot;exact⟨t,h.LS,q⟩
def Lz.binds {f:Addr}(F:Lz K x qual st f fd)
  (h:∀(kV doc pm:Value) (an:BBN) (cdv ct:Value) (us:AAL),us.length=ps.length->bindArgs (PySem.W.fnOf x qual (kN st) (e8 st) (aQ st) .none kV doc pm an cdv ct) ⟨us,[]⟩=pure (ps.zip us)):Binds K fd ps []:=by
 obtain⟨oc,od,kV,doc,pm,an,cdv,ct,osl,rfl,lk,hcd⟩:=F.ex;exact .all (h kV doc pm an cdv ct)
def IZ {f:Addr}{oc:Value}{od an:BBN}{osl:Array (BBP)}{kV doc pm cdv ct:Value}(l:K.lookup f=some ⟨oc,od,.func (PySem.W.fnOf x qual (kN st) (e8 st) (aQ st) .none kV doc pm an cdv ct),osl⟩)
  (c:PySem.W.codeIn K cdv qual=true) (k:PySem.W.keepIn K (.ref f)=true):Lz K x qual st f (PySem.W.fnOf x qual (kN st) (e8 st) (aQ st) .none kV doc pm an cdv ct):=⟨⟨oc,od,kV,doc,pm,an,cdv,ct,osl,rfl,l,c⟩,k⟩
end
def nM {A:Around}(hr:fE k A):A.units+20<cLine:=acm (Nat.add_le_add_left (by decide:20<=64) _) hr.units
section
variable {X:Cx}
def GF:gD X (.builtin "len") (fun xs H Q=>∃a kvs,xs=[V.ref a]/\H a=some (.dK kvs)/\Q (.int kvs.length) H):=by
 intro pins s σ H xs us Q I r h;obtain⟨a,kvs,rfl,ha,q⟩:=h;obtain⟨u,rfl,ru⟩:=vals1 r;cases ru;exact Uu I (.inl ha) fun t s' I'=>⟨.int kvs.length,H,I',⟨t,rfl⟩,q⟩
end
def z5 {A B:Prop}(h:B):if false=true then A else B:=by
 rw[if_neg aeb];exact h
def z7 {A B:Prop}(h:A):if true=true then A else B:=by
 rw[if_pos rfl];exact h
def nF.UI {h:Heap}{a:Addr}{o:HO}(x:nF P w H h) (hn:H a=none) (new:dZ P w (upd H a o) h a o):nF P w (upd H a o) h:=fun b u e=>by
 by_cases hb:b=a
 ·subst hb;rw[aO] at e;cases e;exact new
 ·rw[aP hb] at e;exact(x b u e).stay (fun c v _ q=>q) (fun c q=>by rw[aP (bJ q hn)];exact q) fun c xs q=>by rw[aP (bJ q hn)];exact q
noncomputable def cg (X:Cx) (N':BBB) (scope:Scope) (cl:List (Str×Addr)) (C:Addr) (s:Shared) (H:Hp) (fp:BBE):Cx:=
 {X with N:=N',s₀:=s,H₀:=H,env:=compEnvC scope cl C X.env,outer:=X.stack,stack:=X.stack,ex:=fp,fn:=fun _=>false,pn:=[],xe:=fun _ _=>False}
noncomputable def cL (cap:BBJ) (σ:St):St:=cap.map fun i=>(σ[i]?).join
structure dz (X:Cx) (x:Str) (bE:BBB) (cap:BBJ) (scope:Scope) (cl:List (Str×Addr)):Prop where
 clos:closureFor scope X.env=pure cl
 kh:∀y∈scope.names,y.2≠.cell
 kind:scope.kind= .function
 names:∀y∈scope.names,y.2= .local->scope.names.lookup y.1=some .local
 loc:scope.names.lookup x=some .local
 cells:∀n c,cl.lookup n=some c->X.env.cells.lookup n=some c
 has:∀n,((relabel scope X.env).names.lookup n=some .cell\/(relabel scope X.env).names.lookup n=some .free)->∃c,cl.lookup n=some c
 nd:(x::bE).Nodup
 len:cap.length=bE.length
 slot:∀(j:Nat) n,bE[j]? =some n->∃i:Nat,cap[j]? =some i/\X.N[i]? =some n/\qj X.env.scope n
 vis:∀n,n∈bE->((relabel scope X.env).names.lookup n=some .cell\/(relabel scope X.env).names.lookup n=some .free)/\(∃c,cl.lookup n=some c)/\X.env.scope.names.lookup n≠some .local
def SD (wi:TI) (cap:BBJ) (tc:TT) (te:TE):TE:=fun σ H Q=>wi σ H fun J H1=>∃W:Nat->Nat->List V->Hp->Prop,(∃m,W 0 m [] H1)/\∀i m ys H,W i m ys H->ys.length<sizeLine/\
  ((J.stop i H/\∀p,H p=none->Q (.ref p) (upd H p (.lst ys)))\/
   (J.go i H/\∀x H',J.PD i H x H'->tc (some x::cL cap σ) H' fun b H2=>if b=true then te (some x::cL cap σ) H2 fun y H3=>∃m',m' < m/\W (i+1) m' (ys++[y]) H3 else ∃m',m' < m/\W (i+1) m' ys H2))
def Qh:TT:=fun _ H Q=>Q true H
def LA (X:Cx) (ifs:BBC) (tc:TT):Prop:=
 ∀(pins:AAG) (s:Shared) (σ:St) (H:Hp) (Q:Bool->Hp->Prop),Inv X pins σ H s->tc σ H Q->
  wpAny (model X.prog X.w) X.A (forIn ifs true fun c r=>if r=true then do let ok <-isTrue c X.env (eval c X.env);pure (ForInStep.yield ok) else pure (ForInStep.yield r)) (TP X pins σ Q) X.xe s
def EF :LA X [] Qh:=fun pins s σ H Q I h=>wpAny_tests_nil ⟨H,I,h⟩
def Mi {c:Expr}(h:PT X c tc):LA X [c] tc:=fun pins s σ H Q I q=>wpAny_tests_one (h pins s σ H Q I q)
def Qi (ys:AAL) (y:Value):({cls:=.type "list",data:=.seq (ys.toArray.push y) (ys.length+1)}:Obj)={cls:=.type "list",data:=.seq (ys++[y]).toArray (ys++[y]).length}:=by
 rw[aaw,ab4,List.push_toArray]
def I0 {s s4:Shared}{C:Addr}{fp:BBE}{m':AAF}
  (I:Inv X pins σ H s) (T:dz X x bE cap scope cl) (hfp:∀b∈fp,qk X pins H b) (hfo:∀b∈fp,∃o,s.heap.get? b=some o)
  (hC:s.heap.objs.size<=C) (hns:s4.heap.Ns C m') (hos:s4.os=s.os) (hg:s4.gens=s.gens)
  (kept:∀b o,s.heap.get? b=some o->s4.heap.get? b=some o):
  Inv (cg X (x::bE) scope cl C s H fp) [] (none::cL cap σ) H s4:=by
 have fr:∀b,s.heap.objs.size<=b->H b=none:=fun b hb=>I.hok.fresh hb;refine⟨⟨I.ok.mod,T.kind,I.ok.glob,I.ok.blt,hC,fun y z c h1 h2=>I.ok.inj y z c (T.cells _ _ h1) (T.cells _ _ h2),fun y hy=>T.has y hy,fun y c h=>(by cases h),I.ok.hd,I.ok.frames,.inl rfl,fun b hb=>⟨?_,fun y c e z=>?_⟩,I.bs,aaC I.ok.Gi I.sz,fun b o e hb=>?_,fun b hb z=>?_,I.stack,I.zJ⟩,
  hos,by rw[hg];exact I.bare,Un.kept kept,⟨m',hns,fun i y v h1 h2 h3=>?_⟩,fun y c h=>?_,fr C hC,fun y c h=>I.kM y c (T.cells _ _ h),fun p hp=>?_,I.hok.kept kept,?_⟩
 ·obtain⟨o,e⟩:=hfo b hb;exact aaF (aas (aap e) hC)
 ·exact(hfp b hb).2.2.2.2.1 y c (T.cells _ _ e) z
 ·rcases(hfp b hb).2.2.2.1 with z|z
  ·exact I.ok.BA b o e z
  ·exact absurd (aas (aap e) (aaC I.ok.Gi z)) (abS _)
 ·rcases aao.mp (I.vA b z) with q|q
  ·exact(hfp b hb).2.1 q
  ·exact(hfp b hb).2.2.1 q
 ·cases i with
  |zero=>cases h2
  |succ j=>
   have h1:bE[j]? =some y:=by simpa[cg] using h1
   have h2:(cL cap σ)[j]? =some (some v):=by simpa using h2
   obtain⟨i,e1,e2,e3⟩:=T.slot j y h1;have e4:σ[i]? =some (some v):=by
    unfold cL at h2;rw[aaI,e1] at h2;have h2:some ((σ[i]?).join)=some (some v):=h2;have h2:=aaV h2;cases q:σ[i]? with
    |none=>rw[q] at h2;cases h2
    |some o=>rw[q] at h2;cases h2;rfl
   obtain⟨m,hn,hl⟩:=I.loc;obtain⟨u,r,l⟩:=hl i y v e2 e4 e3;obtain⟨k1,⟨c,hc⟩,k3⟩:=T.vis y (aaW h1);refine⟨u,r,.inr ⟨k1,c,hc,?_⟩⟩;rcases l with⟨hk,_⟩|⟨hk,c',hc',z⟩
   ·exact absurd hk k3
   ·rw[T.cells _ _ hc] at hc';cases hc';obtain⟨o,ho,hd⟩:=z;exact⟨o,kept _ _ ho,hd⟩
 ·obtain⟨v,o,ho,hd⟩:=I.cell y c (T.cells _ _ h);exact⟨v,o,kept _ _ ho,hd⟩
 ·exact absurd (show p∈([]:AAG) from hp) (by simp)
 ·show(none::cL cap σ).length=(x::bE).length;simp[cL,T.len]
def sS (P:Program) (w:World) (A:Around) (env:Env) (R:Result->Shared->Prop):Value->Shared->Prop:=notedBy (model P w) A env fun e s'=>R (.error e) s'
theorem Aa {A:Around}{R:Result->Shared->Prop}{s:Shared}{tg:Expr}{it acc:Value}{env:Env}(J:Nat->Shared->Prop)
  (turn:∀n s,J n s->wpAny (model P w) A (pyNext it) (fun r s1=>match r with
   |none=>R (.ok .next) s1
   |some v=>wpAny (model P w) A (letOwnedTupleGo tg it v) (fun _ s1=>wpAny (model P w) A (assign tg env v) (fun _ s2=>
     wpAny (model P w) A (forIn ifs true fun c r=>if r=true then do let ok <-isTrue c env (eval c env);pure (ForInStep.yield ok) else pure (ForInStep.yield r)) (fun ok s3=>
      if ok=true then wpAny (model P w) A (eval elt env) (fun x s4=>wpAny (model P w) A (call (.builtin "list.append") [acc,x]) (fun _ s5=>∃m,m<n/\J m s5) (sS P w A env R) s4) (sS P w A env R) s3
      else ∃m,m<n/\J m s3) (sS P w A env R) s2) (sS P w A env R) s1) (sS P w A env R) s1) (sS P w A env R) s)
  (n:Nat) (h:J n s):codeAny (model P w) A (.compLoop (.ListComp elt [⟨tg,iter,ifs,0⟩] scope pos) 0 it acc env) R s:=by
 refine codeAny_loop rfl J (fun n s hJ=>?_) n h;show wpAny _ A ((compTurn (.ListComp elt [⟨tg,iter,ifs,0⟩] scope pos) 0 it acc env).onRaise (fun x=>do noteFrame x env;theTreesLotGoes x)) _ _ s;refine wpAny_noted ?_;rw[compTurn_list];refine aab (wpAny_standAt (aab (abn (turn n s hJ) (fun r s1 k1=>?_) fun _ _ z=>z)));cases r with
 |none=>exact wpAny_pure k1
 |some v=>
  refine aab (abn k1 (fun _ s1 k1=>?_) fun _ _ z=>z);refine aab (abn k1 (fun _ s2 k2=>aab (abn k2 (fun ok s3 k3=>?_) fun _ _ z=>z)) fun _ _ z=>z);cases ok with
  |false=>exact wpAny_pure ⟨rfl,k3⟩
  |true=>exact aab (aab (abn k3 (fun x s4 k4=>aab (abn k4 (fun _ s5 k5=>wpAny_pure (wpAny_pure ⟨rfl,k5⟩)) fun _ _ z=>z)) fun _ _ z=>z))
inductive CompI (Y:Cx) (Z:St->Prop) (tn:Nat->Heap->Prop) (fp:BBE) (D:Addr) (W:Nat->Nat->List V->Hp->Prop) (n:Nat) (s':Shared):Prop
 |mk (i:Nat) (ys:List V) (us:AAL) (H':Hp) (z:St) (hz:Z z) (I:Inv Y [] z H' s') (st:tn i s'.heap) (fr:∀b∈fp,H' b=none) (d:H' D=none) (a:s'.heap.get? D=some {cls:=.type "list",data:=.seq us.toArray us.length}) (v:Vals ys us) (w:W i n ys H')
def uE {tg:Expr}{N:BBB}{s:Shared}{z0:St}{Q:VK}{Z:St->Prop}{pt:V->Hp->St->Prop}{R:It->Hp->Prop}
    (T:dz X x bE cap scope cl) (hc:X.calm=true) (hi:PI X tg iter wi)
    (ht:∀C s H fp,LA (cg X N scope cl C s H fp) ifs tc) (he:∀C s H fp,PE (cg X N scope cl C s H fp) elt te)
    (hs:∀x,foldedSetIterable iter X.env x=pure x) (I:Inv X pins σ H s) (h:wi σ H R)
    (hR:∀J H1,R J H1->∃W:Nat->Nat->List V->Hp->Prop,(∃m,W 0 m [] H1)/\∀i m ys H,W i m ys H->ys.length<sizeLine/\
      ((J.stop i H/\∀p,H p=none->Q (.ref p) (upd H p (.lst ys)))\/
       (J.go i H/\∀x H',J.PD i H x H'->∃z,pt x H' z/\tc z H' fun b H2=>if b=true then te z H2 fun y H3=>∃m',m' < m/\W (i+1) m' (ys++[y]) H3 else ∃m',m' < m/\W (i+1) m' ys H2)))
    (hZ:Z z0) (hI:∀{s s4:Shared}{H:Hp}{C:Addr}{fp:BBE}{m':AAF},Inv X pins σ H s->(∀b∈fp,qk X pins H b)->(∀b∈fp,∃o,s.heap.get? b=some o)->s.heap.objs.size<=C->s4.heap.Ns C m'->s4.os=s.os->s4.gens=s.gens->(∀b o,s.heap.get? b=some o->s4.heap.get? b=some o)->Inv (cg X N scope cl C s H fp) [] z0 H s4)
    (hG:∀{Y:Cx}{C:Addr}{z z':St}{xv:V}{H:Hp},Y.N=N->Y.env=compEnvC scope cl C X.env->Y.K=X.K->Y.calm=true->Z z->pt xv H z'->Z z'/\∃g,PG Y tg g/\g xv z H fun σ' H'=>σ'=z'/\H'=H)
    (hend:∀(D C:Addr) (s7:Shared) (H6:Hp) (ys:List V),Inv X pins σ (upd H6 D (.lst ys)) s7->(∃m,s7.heap.Ns C m)->qk X pins (upd H6 D (.lst ys)) C->Q (.ref D) (upd H6 D (.lst ys))->compPost (model X.prog X.w) X.A X.xe use Qf (.ref D) C (.ok .next) s7):
    wpAny (model X.prog X.w) X.A (comprehension (.ListComp elt [⟨tg,iter,ifs,0⟩] scope pos) scope X.env pos2 (newList []) false (eval iter X.env) use) Qf X.xe s:=by
  refine wpAny_comprehension_free (use:=use) rfl hs T.clos T.kind T.names (dW (hi pins s σ H _ I h) fun v s1 h1=>dW h1 fun itv s2 h2=>abu fun ng=>?_);obtain⟨it,fp,tn,J,H2,rfl,I2,Mj,st2,f2,hJ⟩:=h2;obtain⟨W,⟨m0,w0⟩,turn⟩:=hR J H2 hJ;refine ng (abi (wpAny_newFunctionEnv T.kh (by intro y hy;simp at hy) (fun h4 Ml Ja=>?_) T.kind));clear ng;dsimp only at Ml Ja ⊢;generalize YN:s2.heap.push {cls:=.type "list",dict:=none,data:=.seq ([]:AAL).toArray}=H3 at Ml Ja ⊢;have eC:H3.objs.size=s2.heap.objs.size+1:=by rw[<-YN,acB]
  generalize eC':H3.objs.size=C at eC Ml Ja ⊢;generalize eD:s2.heap.objs.size=D at eC ⊢;have UJ:C=D+1:=eC;have hDC:D≠C:=by rw[UJ];exact aaF (acD D)
  have hC:s2.heap.objs.size<=C:=by rw[eD,UJ];exact acj D
  have hD:s2.heap.objs.size<=D:=by rw[eD];exact aaj D
  have kept:∀b o,s2.heap.get? b=some o->h4.get? b=some o:=fun b o e=>Ja.extBut b o (aaF (aas (aap e) hC)) (aac _ (YN▸aac _ e));have hacc:h4.get? D=some {cls:=.type "list",data:=.seq ([]:AAL).toArray ([]:AAL).length}:=Ja.extBut _ _ hDC (aac _ (YN▸eD▸aaB _ rfl));have fo2:∀b∈fp,∃o,s2.heap.get? b=some o:=fun b hb=>let⟨o,e,_⟩:=Mj.obj _ _ st2 b hb;⟨o,e⟩
  have hDf:D∉fp:=fun hb=>by
    obtain⟨o,e⟩:=fo2 D hb;exact absurd (aas (aap e) hD) (abS _)
  have st4:tn 0 h4:=Mj.keep _ _ _ st2 fun b _ o e=>kept b o e;have key:∀s5:Shared,s5={s2 with heap:=h4,toks:=s2.toks+([]:List (Str×Value)).length}->
      codeAny (model X.prog X.w) X.A (.compLoop (.ListComp elt [⟨tg,iter,ifs,0⟩] scope pos) 0 (.ref it) (.ref D) (compEnvC scope cl C X.env)) (compPost (model X.prog X.w) X.A X.xe use Qf (.ref D) C) s5:=by
    rintro s5 rfl;have I4:Inv (cg X N scope cl C s2 H2 fp) [] z0 H2 {s2 with heap:=h4,toks:=s2.toks+([]:List (Str×Value)).length}:=
      hI (s4:={s2 with heap:=h4,toks:=s2.toks+([]:List (Str×Value)).length}) I2 f2 fo2 hC Ml rfl rfl kept
    generalize hY:cg X N scope cl C s2 H2 fp=Y at I4;have fD:∀{H':Hp},H' D=none->qk Y [] H' D:=fun {H'} hn=>by
      subst hY;refine⟨hn,hDC,fun z=>(aao.mp (I2.vA D z)).elim (fun q=>absurd (aas (q▸I2.lt) hD) (abS _)) fun q=>I2.TJ hD q,.inr hD,fun y c e z=>?_,fun p hp=>absurd (show p∈([]:AAG) from hp) (by simp)⟩;obtain⟨v,q⟩:=I2.cell y c (T.cells _ _ e);exact absurd (aas q.lt (by rw[z];exact hD)) (abS _)
    have YO:fp=Y.ex:=hY▸rfl;have pnY:Y.pn++([]:AAG)=[]:=hY▸rfl;have fF:∀{H':Hp},(∀b∈fp,H' b=none)->∀b∈fp,qk Y [] H' b:=fun {H'} hn b hb=>by
      have q:=I4.ok.TH b (YO▸hb);exact⟨hn b hb,fun z=>q.1 z,I4.ok.C5 b (YO▸hb),.inl (YO▸hb),fun y c e z=>q.2 y c e z,fun p hp=>absurd (pnY▸hp) (by simp)⟩
    have eA:Y.A=X.A:=hY▸rfl;have eP:Y.prog=X.prog:=hY▸rfl;have eW:Y.w=X.w:=hY▸rfl;have eK:Y.K=X.K:=hY▸rfl;have eE:Y.env=compEnvC scope cl C X.env:=hY▸rfl;have eX:Y.xe=fun _ _=>False:=hY▸rfl;have eN:Y.N=N:=hY▸rfl;have UK:Y.calm=true:=hY▸hc;have htY:LA Y ifs tc:=hY▸ht _ _ _ _;have heY:PE Y elt te:=hY▸he _ _ _ _;have Dq:∀(E':AAE) (e:Value) (s':Shared),Y.xe e s'->E' e s':=fun E' e s' z=>by rw[eX] at z;exact z.elim
    refine Aa (CompI Y Z tn fp D W) ?_ m0
      ⟨0,[],[],H2,z0,hZ,I4,st4,fun b hb=>(f2 b hb).1,I2.hok.fresh hD,hacc,.nil,w0⟩
    rintro n s6 ⟨i,ys,us,H6,z6,hz6,I6,st6,fr6,d6,a6,v6,w6⟩;refine abu fun ng=>?_;have hul:us.length=ys.length:=v6.length.symm;obtain⟨hz,UL⟩:=turn i n ys H6 w6;have YQ:∀{H':Hp},(∀b∈fp,H' b=none)->∀b∈fp,qk Y ([]++ql [D] s6.heap) H' b:=fun {H'} hn b hb=>by
      obtain⟨f0,f1,f2',f3,f4,f5⟩:=fF hn b hb;refine⟨f0,f1,f2',f3,f4,fun p hp z=>?_⟩;rcases aav.mp hp with q'|q'
      . exact f5 p (acy _ q') z
      . rcases aav.mp q' with q'|q'
        . exact absurd q' (by simp)
        . have:=(yu q').1
          rw[aam.mp this] at z;exact hDf (z▸hb)
    rcases UL with⟨stop,qn⟩|⟨go,step⟩
    . have YR:=I6.pinned (fp:=[D]) (fun b hb=>by rw[aam.mp hb];exact fD d6) (fun b hb=>by rw[aam.mp hb];exact⟨_,a6,fun v z=>by cases z⟩)
      have q:=Mj.done Y eP eW eK UK i _ s6 z6 H6 (notedBy (model X.prog X.w) X.A (compEnvC scope cl C X.env) fun e s'=>compPost (model X.prog X.w) X.A X.xe use Qf (.ref D) C (.error e) s') YR (YQ fr6) st6 stop;rw[eA] at q;refine ng (dW q fun r s7 hh=>?_);obtain⟨hr,I7⟩:=hh;subst hr;have a7:s7.heap.get? D=_:=(I7.pin (D,{cls:=.type "list",data:=.seq us.toArray us.length}) (aaP _ (aaP _ (gz (aam.mpr rfl) a6)))).1;obtain⟨m7,OC,_⟩:=I7.loc;rw[eE] at OC;have UM:H6 D=none:=d6;have hCn:H6 C=none:=by have:=I7.free;rw[eE] at this;exact this
      have YS:nF X.prog X.w H6 s7.heap:=by have q:=I7.hok;rw[eP,eW] at q;exact q
      have new:dZ X.prog X.w (upd H6 D (.lst ys)) s7.heap D (.lst ys):=⟨abG hz,us,us.length,v6,a7⟩
      have u7:Un (frs X.stack) fp H2 H6 s2.heap s7.heap:=by have:=I7.base;rw[<-hY] at this;exact this
      have neD:∀b o,s2.heap.get? b=some o->b≠D:=fun b o e=>aaF (aas (aap e) hD);have u8:Un (frs X.stack) fp H2 (upd H6 D (.lst ys)) s2.heap s7.heap:=
        ⟨u7.keep,u7.slot,fun b o e n hx=>by rw[aP (neD b o e)];exact u7.free b o e n hx,u7.there,
         fun b xs e=>by have z:=u7.tups b xs e;rw[aP (bJ z UM)];exact z,fun b o u e=>by have z:=u7.xS b o u e;rw[aP (bJ z UM)];exact z,
         fun b ps e=>by obtain⟨more,z⟩:=u7.zG b ps e;exact⟨more,by rw[aP (bJ z UM)];exact z⟩⟩
      have os7:s7.os=s2.os:=by have:=I7.os;rw[<-hY] at this;exact this
      have I9:Inv X pins σ (upd H6 D (.lst ys)) s7:=I2.TN (ch:=fp) os7 u8 (YS.UI UM new) I7.bare fun b hb=>⟨(f2 b hb).2.2.2.1,(f2 b hb).2.1,(f2 b hb).2.2.2.2.1,(f2 b hb).2.2.2.2.2⟩
      exact hend D C s7 H6 ys I9 ⟨m7,OC⟩ (I2.Iv hC (by rw[aP (abJ hDC)];exact hCn)) (qn D UM)
    . have YR:=I6.pinned (fp:=[D]) (fun b hb=>by rw[aam.mp hb];exact fD d6) (fun b hb=>by rw[aam.mp hb];exact⟨_,a6,fun v z=>by cases z⟩)
      have q:=Mj.item Y eP eW eK UK i _ s6 z6 H6 (notedBy (model X.prog X.w) X.A (compEnvC scope cl C X.env) fun e s'=>compPost (model X.prog X.w) X.A X.xe use Qf (.ref D) C (.error e) s') YR (YQ fr6) st6 go;rw[eA] at q;refine ng (dW q fun r s6' hh=>abu fun ng=>?_);obtain⟨u,hr,h7⟩:=hh;subst hr;refine ng (dW h7 fun _ s7 hh=>abu fun ng=>?_);obtain⟨xv,H8,I8,r8,y8,YT,fr8⟩:=hh;have I8':=I8.pinned (YQ fr8) (Mj.obj _ _ YT);obtain⟨z8,p8,stp⟩:=step xv _ y8;obtain⟨hz8,g,hgY,gx⟩:=hG eN eE eK UK hz6 p8;have qa:=hgY _ s7 z6 H8 xv u (fun σ' H'=>σ'=z8/\H'=H8) I8' r8 gx;rw[eP,eW,eA,eE] at qa;refine ng (abn qa (fun _ s9 h9=>abu fun ng=>?_) (Dq _));obtain⟨UN,H9,I9,e9,e9'⟩:=h9;subst e9 e9';have qt:=htY _ s9 _ _ _ I9 stp;rw[eP,eW,eA,eE] at qt;refine ng (abn qt (fun ok s10 h10=>?_) (Dq _));obtain⟨H10,I10,WV⟩:=h10;have back:∀{s':Shared}{H':Hp},Inv Y (([]++ql [D] s6.heap)++ql fp s7.heap) UN H' s'->Inv Y [] UN H' s'/\tn (i+1) s'.heap/\(∀b∈fp,H' b=none)/\H' D=none/\s'.heap.get? D=some {cls:=.type "list",data:=.seq us.toArray us.length}:=fun {s' H'} J=>by
        refine⟨J.nI.nI,Mj.keep _ _ _ YT fun b hb o e=>(J.pin (b,o) (aaP _ (aaP _ (gz hb e)))).1,fun b hb=>?_,?_,?_⟩
        . obtain⟨o,e,d⟩:=Mj.obj _ _ YT b hb
          exact(J.pin (b,o) (aaP _ (aaP _ (gz hb e)))).2.1
        . exact(J.pin (D,_) (aaP _ (acy _ (aaP _ (gz (aam.mpr rfl) a6))))).2.1
        . exact(J.pin (D,_) (aaP _ (acy _ (aaP _ (gz (aam.mpr rfl) a6))))).1
      cases ok with
      |false=>
        rw[if_neg (by decide)] at WV ⊢;obtain⟨m',hm,w10⟩:=WV;obtain⟨b1,b2,b3,b4,b5⟩:=back I10;exact⟨m',hm,i+1,ys,us,H10,UN,hz8,b1,b2,b3,b4,b5,v6,w10⟩
      |true=>
        rw[if_pos rfl] at WV ⊢;have qe:=heY _ s10 _ _ _ I10 WV;rw[eP,eW,eA,eE] at qe;refine abn qe (fun y YU h11=>?_) (Dq _);obtain⟨yv,H11,I11,r11,m',hm,w11⟩:=h11;obtain⟨b1,b2,b3,b4,b5⟩:=back I11;refine append_at (hsz:=by rw[aad,hul];exact abG hz) b5 fun h12 YV YW=>?_;have k12:∀b o,b≠D->YU.heap.get? b=some o->h12.get? b=some o:=fun b o hb e=>YV.extBut b o hb e;obtain⟨g0,g1,g2,g3,g4,g5⟩:=fD b4;have I12:Inv Y [] UN H11 {YU with heap:=h12}:=b1.turned (t':=YU.toks) k12 g0 g1 g3 g4 g5;refine⟨m',hm,i+1,ys++[yv],us++[y],H11,UN,hz8,I12,Mj.keep _ _ _ b2 fun b hb o e=>k12 b o (fun z=>hDf (z▸hb)) e,b3,b4,YW.trans (congrArg some (Qi us y)),v6.append (.cons r11 .nil),w11⟩
  exact codeAny_compStart_list (key _ rfl) (Mj.self _ 0 _ _ _ st4 (key _ rfl))
def vE {s:Shared}{Q:VK}
  (T:dz X x bE cap scope cl) (hc:X.calm=true) (hi:PI X (.Name x px) iter wi)
  (ht:∀C s H fp,LA (cg X (x::bE) scope cl C s H fp) ifs tc) (he:∀C s H fp,PE (cg X (x::bE) scope cl C s H fp) elt te)
  (hs:∀x,foldedSetIterable iter X.env x=pure x) (I:Inv X pins σ H s) (h:SD wi cap tc te σ H Q)
  (hend:∀(D C:Addr) (s7:Shared) (H6:Hp) (ys:List V),Inv X pins σ (upd H6 D (.lst ys)) s7->(∃m,s7.heap.Ns C m)->qk X pins (upd H6 D (.lst ys)) C->Q (.ref D) (upd H6 D (.lst ys))->compPost (model X.prog X.w) X.A X.xe use Qf (.ref D) C (.ok .next) s7):
  wpAny (model X.prog X.w) X.A (comprehension (.ListComp elt [⟨.Name x px,iter,ifs,0⟩] scope pos) scope X.env pos2 (newList []) false (eval iter X.env) use) Qf X.xe s:=
 uE (N:=x::bE) (z0:=none::cL cap σ) (Z:=fun z=>∃o,z=o::cL cap σ) (pt:=fun v _ z=>z=some v::cL cap σ) T hc hi ht he hs I h
  (fun J H1 ⟨W,w0,t⟩=>⟨W,w0,fun i m ys H w=>⟨(t i m ys H w).1,(t i m ys H w).2.imp id fun⟨g,k⟩=>⟨g,fun v H' y=>⟨_,rfl,k v H' y⟩⟩⟩⟩) ⟨none,rfl⟩ (fun I2=>I0 I2 T)
  (by
   rintro Y C _ _ xv H eN eE _ _ ⟨o,rfl⟩ rfl;exact⟨⟨_,rfl⟩,BD 0,vd (by rw[eN];exact T.nd) (by rw[eN];rfl) (by rw[eE];exact .inl (ab7 T.loc)) (.inr (by rw[eE];exact ab7 T.loc)),rfl,rfl⟩) hend
def vF 
  (T:dz X x bE cap scope cl) (hc:X.calm=true) (hi:PI X (.Name x px) iter wi)
  (ht:∀C s H fp,LA (cg X (x::bE) scope cl C s H fp) ifs tc) (he:∀C s H fp,PE (cg X (x::bE) scope cl C s H fp) elt te)
  (hs:∀x,foldedSetIterable iter X.env x=pure x:=by intro _;rfl):
  PE X (.ListComp elt [⟨.Name x px,iter,ifs,0⟩] scope pos) (SD wi cap tc te):=by
 intro pins s σ H Q I h;rw[eval_ListComp];refine vE T hc hi ht he hs I h ?_;rintro p C s7 H6 ys I9 ⟨m7,OC⟩ ⟨g0,g1,g2,g3,g4,g5⟩ q;exact⟨m7,OC,fun h' hs'=>⟨.ref p,_,I9.turned (t':=s7.toks) (fun b o hb e=>hs'.extBut b o hb e) g0 g1 g3 g4 g5,rfl,q⟩⟩
def Jb {i:Nat}{y:Str}{py spos:Pos}
  (T:dz X x bE cap scope cl) (hc:X.calm=true) (hi:PI X (.Name x px) iter wi)
  (ht:∀C s H fp,LA (cg X (x::bE) scope cl C s H fp) ifs tc) (he:∀C s H fp,PE (cg X (x::bE) scope cl C s H fp) elt te)
  (hs:∀x,foldedSetIterable iter X.env x=pure x) (hN:X.N.Nodup) (hy:X.N[i]? =some y) (hx:Loc X.env.scope y)
  (hsw:swapsWith (.ListComp elt [⟨.Name x px,iter,ifs,0⟩] scope pos) (some (.Name y py)) spos.line X.env=pure true) (hf:X.fn y=true\/X.env.scope.names.lookup y=some .local):
  PS X (.Assign [.Name y py] (.ListComp elt [⟨.Name x px,iter,ifs,0⟩] scope pos) spos) (LX (SD wi cap tc te) (BD i)):=by
 intro pins s σ H D I h;rw[exec_Assign_Name_used _ _ _ _ hsw];refine aab (wpAny_standAt (aab ?_));show wpAny _ X.A (do let _ <-comprehension (.ListComp elt [⟨.Name x px,iter,ifs,0⟩] scope pos) scope X.env _ (newList []) false (eval iter X.env) (some (assign (.Name y py) X.env))) _ _ s;refine aab (abn (vE (Qf:=fun _ s'=>SP X pins D .next s') T hc hi ht he hs I h ?_) (fun _ s' hq=>wpAny_pure (wpAny_pure hq)) fun _ _ e=>e);rintro p C s7 H6 ys I9 ⟨m7,OC⟩ ⟨g0,g1,g2,g3,g4,g5⟩ q;refine wpAny_assign_Name (yr I9 hN hy hx (v:=.ref p) (show RelV (.ref p) (.ref p) from rfl) (fun s8 I8 hh=>?_) hf);obtain⟨a,hsb,ha⟩:=hh;have hne:C≠a:=ha.elim (fun z=>by rw[z];exact g1) fun z=>abJ (g4 _ _ z);refine⟨m7,OC.sameBut hsb hne,fun h' hs'=>?_⟩;exact⟨_,_,I8.turned (t':=s8.toks) (fun b o hb e=>hs'.extBut b o hb e) g0 g1 g3 g4 g5,q⟩
noncomputable def YX (z:Str):It:=⟨fun i _=>i<z.cps.size,fun i H x H'=>H'=H/\∃c,z.cps[i]? =some c/\x= .str ⟨#[c]⟩,fun i _=>z.cps.size<=i⟩
def Jc (z:Str) (it:Addr) (t:Tok) (ty:String) (hW:∀A':Around,A'.handled=none->Walks P w A' it [it] [it] z.cps.size (SignAt z) fun i h=>h.IsStrIter it ty z t i)
  (hself:∀(A:Around) (i:Nat) (s:Shared) (Q:AAE) (E:AAE),s.heap.IsStrIter it ty z t i->Q (.ref it) s->wpAny (model P w) A (pyIter (.ref it)) Q E s):
  Turn P w K (.Name x px) (YX z) [it] it (fun i h=>i<=z.cps.size/\h.IsStrIter it ty z t i) where
 mem:=by simp
 obj:=fun i h st b hb=>by
  obtain rfl:b=it:=by simpa using hb
  obtain⟨o,e,c,d⟩:=st.2;exact⟨o,e,fun v q=>by rw[d] at q;cases q⟩
 keep:=fun i h h' st k=>by
  obtain⟨o,e,r⟩:=st.2;exact⟨st.1,o,k it (by simp) o e,r⟩
 item:=by
  intro X hP hw hK hc i pins s σ H E I hf st hg;subst hP hw hK;obtain⟨f0,f1,f2,f3,f4,f5⟩:=hf it (by simp);refine(hW X.A (I.ok.hd hc)).item i s _ _ hg st.2 fun v h' tk hv st' kk=>?_;obtain⟨c,u,hc',rfl⟩:=hv;exact⟨_,rfl,wpAny_pure ⟨.str ⟨#[c]⟩,H,I.turned (fun b o hb e=>kk b o (by simpa using hb) e) f0 f1 f3 f4 f5,⟨u,rfl⟩,⟨rfl,c,hc',rfl⟩,⟨hg,st'⟩,fun b hb=>(hf b hb).1⟩⟩
 done:=by
  intro X hP hw hK hc i pins s σ H E I hf st hg;subst hP hw hK;obtain⟨f0,f1,f2,f3,f4,f5⟩:=hf it (by simp);obtain⟨s1,s2⟩:=st;have e:i=z.cps.size:=Nat.le_antisymm s1 hg;subst e;exact(hW X.A (I.ok.hd hc)).done s _ _ s2 fun h' tk kk=>⟨rfl,I.turned (fun b o hb e=>kk b o (by simpa using hb) e) f0 f1 f3 f4 f5⟩
 self:=fun A i s Q E st h=>hself A i s Q E st.2 h
def YY (tl:TE):TI:=fun σ H R=>tl σ H fun x H1=>∃z,x= .str z/\R (YX z) H1
def Qj {l:Expr}{tl:TE}(hl:PE X l tl):PI X (.Name x px) l (YY tl):=by
 intro pins s σ H R I h;refine dW (hl pins s σ H _ I h) fun v s1 hh=>?_;obtain⟨y,H1,I1,r1,q1⟩:=hh;obtain⟨z,rfl,q⟩:=q1;obtain⟨t,rfl⟩:=r1;refine wpAny_pyIter_strU ?_;have hst:∀ty,strIterType z=ty->(s1.heap.push {cls:=.type (strIterType z),data:=.fields #[.str z t,.int 0 0]}).IsStrIter s1.heap.objs.size ty z t 0:=fun ty e=>⟨_,aaB _ rfl,by rw[<-e],rfl⟩
 have go:∀ty,strIterType z=ty->(∀A':Around,A'.handled=none->Walks X.prog X.w A' s1.heap.objs.size [s1.heap.objs.size] [s1.heap.objs.size] z.cps.size (SignAt z) fun i h=>h.IsStrIter s1.heap.objs.size ty z t i)->
   (∀(A:Around) (i:Nat) (s:Shared) (Q:AAE) (E:AAE),s.heap.IsStrIter s1.heap.objs.size ty z t i->Q (.ref s1.heap.objs.size) s->wpAny (model X.prog X.w) A (pyIter (.ref s1.heap.objs.size)) Q E s)->
   Yv X pins σ (.Name x px) R (.ref s1.heap.objs.size) {s1 with heap:=s1.heap.push {cls:=.type (strIterType z),data:=.fields #[.str z t,.int 0 0]}}:=fun ty e hW hself=>by
  refine⟨s1.heap.objs.size,[s1.heap.objs.size],_,_,H1,rfl,I1.kept (t':=s1.toks) fun b o e=>aac _ e,Jc z _ t ty hW hself,⟨aaM _,hst ty e⟩,fun b hb=>?_,q⟩;obtain rfl:b=s1.heap.objs.size:=by simpa using hb
  exact I1.Iv (aaj _) (I1.hok.fresh (aaj _))
 cases ha:z.cps.all (· < 128)
 ·exact go "str_iterator" (by simp[strIterType,ha]) (fun A' hA=>Walks.strWide hA _ z t) fun A i s Q E st h=>wpAny_pyIter_striter_wide st h
 ·exact go "str_ascii_iterator" (by simp[strIterType,ha]) (fun A' hA=>Walks.strAscii hA _ z t) fun A i s Q E st h=>wpAny_pyIter_striter_ascii st h
def BO {bs:List Bool}:∀{us:AAL},Vals (bs.map V.bl) us->us=bs.map Value.bool:=by
 induction bs with
 |nil=>intro us r;cases r;rfl
 |cons b bs ih=>
  intro us r;cases r with
  |cons r1 r2=>
   cases r1;rw[ih r2];rfl
def Ds (bs:List Bool):((List.range bs.length).all fun i=>(bs[i]?).getD true)=bs.all id:=by
 rw[abO,aa1,aa1];constructor
 ·intro h b hb;obtain⟨i,hi,rfl⟩:=List.mem_iff_getElem.mp hb;have:=h i (aa6.mpr hi)
  simpa[hi] using this
 ·intro h i hi;have hi:=aa6.mp hi;simp only[aal hi,acg];exact h _ (ab3 hi)
def Dt (bs:List Bool):((List.range bs.length).any fun i=>(bs[i]?).getD false)=bs.any id:=by
 rw[abO,aaU,aaU];constructor
 ·rintro⟨i,hi,h⟩;have hi:=aa6.mp hi;simp only[aal hi,acg] at h;exact⟨_,ab3 hi,h⟩
 ·rintro⟨b,hb,h⟩;obtain⟨i,hi,rfl⟩:=List.mem_iff_getElem.mp hb;exact⟨i,aa6.mpr hi,by simpa[hi] using h⟩
def GG (hc:X.calm=true):gD X (.builtin "all") (fun xs H Q=>∃(p:Addr) (bs:List Bool),xs=[.ref p]/\lE X.K H p (bs.map V.bl)/\Q (.bl (bs.all id)) H):=by
 intro pins s σ H xs us Q I r h;obtain⟨p,bs,rfl,hp,q⟩:=h;obtain⟨u,rfl,ru⟩:=vals1 r;cases ru;obtain⟨its,rv,pl,hz⟩:=I.list hp;obtain rfl:=BO rv;have hlt:p<s.heap.objs.size:=by obtain⟨_,e,_⟩:=pl.isList;exact aap e
 refine call_all_walk (ady pl.isList ?_);refine⟨s.heap.objs.size,[s.heap.objs.size,p],[s.heap.objs.size],_,_,_,fun i=>(bs[i]?).getD true,rfl,Walks.list (A:=X.A.in1) (I.ok.hd hc) _ p (aaF hlt) _,
  ⟨⟨_,aaB _ rfl,rfl,rfl⟩,pl.isList.push _⟩,fun i v s' Q' E' hP hQ=>?_,fun h' tk hk=>?_⟩
 ·have hP:(bs.map Value.bool)[i]? =some v:=by simpa using hP
  rw[aaI] at hP;cases e:bs[i]? with
  |none=>rw[e] at hP;cases hP
  |some b=>
   rw[e] at hP;cases hP;simp only[e,acg] at hQ;exact acd hQ
 ·have e:((List.range (bs.map Value.bool).toArray.size).all fun i=>(bs[i]?).getD true)=bs.all id:=by
   rw[aad,aai];exact Ds bs
  rw[e];exact⟨.bl (bs.all id),H,I.kept (t':=tk) fun b o e=>hk b o (fun hm=>by rw[aam.mp hm] at e;exact abS _ (aap e)) (aac _ e),rfl,q⟩
def GH (hc:X.calm=true):gD X (.builtin "any") (fun xs H Q=>∃(p:Addr) (bs:List Bool),xs=[.ref p]/\lE X.K H p (bs.map V.bl)/\Q (.bl (bs.any id)) H):=by
 intro pins s σ H xs us Q I r h;obtain⟨p,bs,rfl,hp,q⟩:=h;obtain⟨u,rfl,ru⟩:=vals1 r;cases ru;obtain⟨its,rv,pl,hz⟩:=I.list hp;obtain rfl:=BO rv;have hlt:p<s.heap.objs.size:=by obtain⟨_,e,_⟩:=pl.isList;exact aap e
 refine call_any_walk (ady pl.isList ?_);refine⟨s.heap.objs.size,[s.heap.objs.size,p],[s.heap.objs.size],_,_,_,fun i=>(bs[i]?).getD false,rfl,Walks.list (A:=X.A.in1) (I.ok.hd hc) _ p (aaF hlt) _,
  ⟨⟨_,aaB _ rfl,rfl,rfl⟩,pl.isList.push _⟩,fun i v s' Q' E' hP hQ=>?_,fun h' tk hk=>?_⟩
 ·have hP:(bs.map Value.bool)[i]? =some v:=by simpa using hP
  rw[aaI] at hP;cases e:bs[i]? with
  |none=>rw[e] at hP;cases hP
  |some b=>
   rw[e] at hP;cases hP;simp only[e,acg] at hQ;exact acd hQ
 ·have e:((List.range (bs.map Value.bool).toArray.size).any fun i=>(bs[i]?).getD false)=bs.any id:=by
   rw[aad,aai];exact Dt bs
  rw[e];exact⟨.bl (bs.any id),H,I.kept (t':=tk) fun b o e=>hk b o (fun hm=>by rw[aam.mp hm] at e;exact abS _ (aap e)) (aac _ e),rfl,q⟩
def YZ:V->BBM->BBM->Hp->VK->Prop:=fun x lo hi H Q=>∃z,x= .str z/\z.length<=sizeLine/\((Txt.slice z lo hi).length<=z.length->Q (.str (Txt.slice z lo hi)) H)
def Qk :UB X YZ:=by
 intro pins s σ H x v vl vu lo hi sl Q I rx hs pl pu h;obtain⟨z,rfl,hz,q⟩:=h;obtain⟨t,rfl⟩:=rx;have q:=q (adS z _ _);refine⟨"str",_,F.slot_str_getitem.lookup,typeIs_str _ _ _,?_⟩;cases pl with
 |none=>
  cases pu with
  |none=>exact acI (l:=none) (u:=none) (st:=none) hs rfl (adT ⟨aaC (adS z _ _) hz,fun t' k=>⟨V.str (Txt.slice z none none),H,I.tok k,⟨t',rfl⟩,q⟩⟩)
  |int j u=>exact acI (l:=none) (u:=some (j,u)) (st:=none) hs rfl (adT ⟨aaC (adS z _ _) hz,fun t' k=>⟨V.str (Txt.slice z none (some j)),H,I.tok k,⟨t',rfl⟩,q⟩⟩)
 |int i u'=>
  cases pu with
  |none=>exact acI (l:=some (i,u')) (u:=none) (st:=none) hs rfl (adT ⟨aaC (adS z _ _) hz,fun t' k=>⟨V.str (Txt.slice z (some i) none),H,I.tok k,⟨t',rfl⟩,q⟩⟩)
  |int j u=>exact acI (l:=some (i,u')) (u:=some (j,u)) (st:=none) hs rfl (adT ⟨aaC (adS z _ _) hz,fun t' k=>⟨V.str (Txt.slice z (some i) (some j)),H,I.tok k,⟨t',rfl⟩,q⟩⟩)
theorem bq.length {H:Hp}:∀{vs:List V}{ds:List D},bq H vs ds->vs.length=ds.length
 |_,_,.nil=>rfl
 |_,_,.cons _ rs=>congrArg Nat.succ (bq.length rs)
theorem bq.get {H:Hp}:∀{vs:List V}{ds:List D}{i:Nat}{d:D},bq H vs ds->ds[i]? =some d->∃v,vs[i]? =some v/\Rep H v d
 |_,_,_,_,.nil,e=>by simp at e
 |_,_,0,_,.cons r _,e=>by simp at e;subst e;exact⟨_,rfl,r⟩
 |_,_,i+1,_,.cons _ rs,e=>by
  obtain⟨v,h1,h2⟩:=bq.get (i:=i) rs (by simpa using e);exact⟨v,by simpa using h1,h2⟩
theorem bq.append {H:Hp}:∀{vs ws:List V}{ds es:List D},bq H vs ds->bq H ws es->bq H (vs++ws) (ds++es)
 |_,_,_,_,.nil,s=>s
 |_,_,_,_,.cons r rs,s=>.cons r (bq.append rs s)
theorem bq.take {H:Hp}:∀{vs:List V}{ds:List D}(n:Nat),bq H vs ds->bq H (vs.take n) (ds.take n)
 |_,_,0,_=>.nil
 |_,_,_+1,.nil=>.nil
 |_,_,n+1,.cons r rs=>.cons r (bq.take n rs)
theorem bq.drop {H:Hp}:∀{vs:List V}{ds:List D}(n:Nat),bq H vs ds->bq H (vs.drop n) (ds.drop n)
 |_,_,0,rs=>rs
 |_,_,_+1,.nil=>.nil
 |_,_,n+1,.cons _ rs=>bq.drop n rs
noncomputable def Ql:D->String
 |.bQ=>"NoneType" | .bl _=>"bool" | .int _=>"int" | .str _=>"str" | .tup _=>"tuple" | .lst _=>"list"
open PySem.W in
noncomputable def gH (T U:String):Option Bool:=if(Value.type T == Value.type U)=true then some true else if kitMeta U=true then(fastBuiltinMro T).map (·.contains (Value.type U)) else none
noncomputable def Jd:D->Bool
 |.tup _=>true
 |_=>false
noncomputable def Je:D->Bool
 |.lst _=>true
 |_=>false
noncomputable def Jf:D->Bool
 |.str _=>true
 |_=>false
noncomputable def Jg:D->Bool
 |.bl _=>true
 |_=>false
noncomputable def Jh:D->Bool
 |.int _=>true
 |.bl _=>true
 |_=>false
def Mm (d:D):PySem.W.kitOne K (.type (Ql d)) (.type "tuple")=some (Jd d):=by
 cases d with
 |bQ=>exact(show gH "NoneType" "tuple" =some false by decide +kernel)
 |bl b=>exact(show gH "bool" "tuple" =some false by decide +kernel)
 |int i=>exact(show gH "int" "tuple" =some false by decide +kernel)
 |str z=>exact(show gH "str" "tuple" =some false by decide +kernel)
 |tup ds=>exact(show gH "tuple" "tuple" =some true by decide +kernel)
 |lst ds=>exact(show gH "list" "tuple" =some false by decide +kernel)
def Mn (d:D):PySem.W.kitOne K (.type (Ql d)) (.type "list")=some (Je d):=by
 cases d with
 |bQ=>exact(show gH "NoneType" "list" =some false by decide +kernel)
 |bl b=>exact(show gH "bool" "list" =some false by decide +kernel)
 |int i=>exact(show gH "int" "list" =some false by decide +kernel)
 |str z=>exact(show gH "str" "list" =some false by decide +kernel)
 |tup ds=>exact(show gH "tuple" "list" =some false by decide +kernel)
 |lst ds=>exact(show gH "list" "list" =some true by decide +kernel)
def Ji (d:D):PySem.W.kitOne K (.type (Ql d)) (.type "str")=some (Jf d):=by
 cases d with
 |bQ=>exact(show gH "NoneType" "str" =some false by decide +kernel)
 |bl b=>exact(show gH "bool" "str" =some false by decide +kernel)
 |int i=>exact(show gH "int" "str" =some false by decide +kernel)
 |str z=>exact(show gH "str" "str" =some true by decide +kernel)
 |tup ds=>exact(show gH "tuple" "str" =some false by decide +kernel)
 |lst ds=>exact(show gH "list" "str" =some false by decide +kernel)
def Qm (d:D):PySem.W.kitOne K (.type (Ql d)) (.type "bool")=some (Jg d):=by
 cases d with
 |bQ=>exact(show gH "NoneType" "bool" =some false by decide +kernel)
 |bl b=>exact(show gH "bool" "bool" =some true by decide +kernel)
 |int i=>exact(show gH "int" "bool" =some false by decide +kernel)
 |str z=>exact(show gH "str" "bool" =some false by decide +kernel)
 |tup ds=>exact(show gH "tuple" "bool" =some false by decide +kernel)
 |lst ds=>exact(show gH "list" "bool" =some false by decide +kernel)
def Mp (d:D):PySem.W.kitOne K (.type (Ql d)) (.type "int")=some (Jh d):=by
 cases d with
 |bQ=>exact(show gH "NoneType" "int" =some false by decide +kernel)
 |bl b=>exact(show gH "bool" "int" =some true by decide +kernel)
 |int i=>exact(show gH "int" "int" =some true by decide +kernel)
 |str z=>exact(show gH "str" "int" =some false by decide +kernel)
 |tup ds=>exact(show gH "tuple" "int" =some false by decide +kernel)
 |lst ds=>exact(show gH "list" "int" =some false by decide +kernel)
end L2
end
section
namespace HT
open PySem PySem.Spec PyProof.Rows
section
variable {prog:Program}{w:World}{A:Around}{E:AAE}{s:Shared}
def GJ {t sl:Addr}{items:AAK}{vl vu:Value}{lo hi:BBM}{Q:AAE}(ht:IsTup s.heap t items) (hs:s.heap.IsSliceOf sl vl vu .none) (pl:IsPart vl lo) (pu:IsPart vu hi)
  (hw:fy items.size 0 lo=0/\fy items.size items.size hi=items.size) (h:Q (.ref t) s):wpAny (model prog w) A (getItem (.ref t) (.ref sl)) Q E s:=by
 obtain⟨os,hos,hcs,hds⟩:=id hs;have UA:s.TypeIs (.ref sl) "slice":=⟨os,hos,hcs⟩
 unfold getItem
 try with_reducible refine abq ?_
 first|refine aab (wpAny_pure ?_)|skip
 refine aab (aeo ht.typeIs (by decide) ?_);refine aab (abX (name:=Str.ofString "__getitem__") ht.typeIs aaX
  (abR aaX ht.typeIs entry_tuple_getitem ?_ (args_tuple_getitem _ _)))
 show wpAny _ _ (Builtin.Tuple.tupleItemsOf (.ref t) >>= _) _ _ s;refine aab (tupleItemsOf_ ht ?_);refine aab (adp UA ?_);rw[if_pos (by decide)];refine aab (lG hs pl pu ?_);have hyes:(((fy items.size 0 lo:Nat):Int) == 0 && (1:Int) == 1 && (fy items.size items.size hi-fy items.size 0 lo) == items.size)=true:=by
  rw[hw.1,hw.2];simp
 show wpAny _ _ (if(((fy items.size 0 lo:Nat):Int) == 0 && (1:Int) == 1 && (fy items.size items.size hi-fy items.size 0 lo) == items.size)=true then _ else _) _ _ s;rw[if_pos hyes];have hex:∀{α:Type}{k:Bool->Sem α}{Q':α->Shared->Prop}{E':AAE}{A':Around},wpAny (model prog w) A' (k true) Q' E' s->wpAny (model prog w) A' (Builtin.Tuple.tupleIsExact (.ref t) >>= k) Q' E' s:=fun {α k Q' E' A'} hk=>by
  refine aab ?_;unfold Builtin.Tuple.tupleIsExact;exact aab (adp ht.typeIs (wpAny_pure hk))
 first
  |(refine hex ?_;exact adb (wpAny_pure ⟨_,rfl,wpAny_pure h⟩))
  |(refine hex ?_;refine aab (adb ?_);exact wpAny_pure ⟨_,rfl,wpAny_pure h⟩)
end
end HT
end
section
namespace L2
open PySem PySem.Spec PyProof.Rows
variable {H F1 H1 F' H' H0 F0:Hp}{ds es:List D}{scope:Scope}{X:Cx}{x:Str}{K:AAD}{a p ca cb:Addr}{ns:BBD}{κ α β:Type}{k:Bool}{i n:Nat}{o:HO}{B:Base}{S S' S0:SS}{σ:St}{u:U}{Q E:AAE}{T:String}{op:CmpOp}{q1 q2 q:GT}{r ifs:BBC}{y:V}{xs vs:List V}{tg iter elt:Expr}{gi:GI}{us ws:List U}{cap:BBJ}{g:GD}{cl:List (Str×Addr)}{bE:BBB}{A:Around}{eV bR:AAL}{kvs:List (Key×V)}{prog:Program}{yc:List (Str×GD)}{its:AAK}
section

def Rep.jN {v:V}(r:Rep H v (.tup ds)):∃a vs,v= .ref a/\H a=some (.tup vs)/\bq H vs ds:=by
 cases r with
 |tup e rs=>exact⟨_,_,rfl,e,rs⟩
noncomputable def cutD (ds:List D) (lo hi:BBM):List D:=(ds.drop (HT.fy ds.length 0 lo)).take (HT.fy ds.length ds.length hi-HT.fy ds.length 0 lo)
def bq.dX {H:Hp}{vs:List V}{ds:List D}{i:Int}{d:D}(r:bq H vs ds) (h:L2.dX ds i=some d):∃v,L2.dX vs i=some v/\Rep H v d:=by
 have hl:=r.length;unfold L2.dX at h ⊢;rw[hl];cases e:Dn ds.length i with
 |none=>rw[e] at h;cases h
 |some j=>
  rw[e] at h;exact r.get h
end
def BP {env:Env}{n:Str}{k:NameKind}(h:(relabel scope env).names.lookup n=some k):(n,k)∈(relabel scope env).names:=abK h
def Du (h1:∀y∈scope.names,y.2≠.free) (h2:∀y∈scope.names,y.2≠.cell) (h3:scope.kind= .function) (h4:∀y∈scope.names,y.2= .local->scope.names.lookup y.1=some .local) (h5:scope.names.lookup x=some .local):
  dz X x [] [] scope []:=by
 refine⟨closureFor_none h1,h2,h3,h4,h5,fun n c h=>(by cases h),fun n h=>?_,by simp,rfl,fun j n h=>(by simp at h),fun n h=>(by simp at h)⟩;have no:∀k,(k=NameKind.cell\/k=NameKind.free)->(relabel scope X.env).names.lookup n≠some k:=fun k hk e=>by
  have m:=BP e;unfold relabel at m;obtain⟨⟨n',k'⟩,hm,q⟩:=aaD.mp m;have z:(k' == NameKind.free)=false:=by simpa using h1 _ hm
  simp only[z,ad6,acu] at q;have q2:k'=k:=by
   have:=congrArg Prod.snd q
   simpa using this
  rcases hk with rfl|rfl
  ·exact h2 _ hm q2
  ·exact h1 _ hm q2
 rcases h with h|h
 ·exact absurd h (no _ (.inl rfl))
 ·exact absurd h (no _ (.inr rfl))
mutual
def EG (n:Nat):D->Prop
 |.str z=>z.length<=n
 |.tup ds=>ds.length<=n/\Fits n ds
 |.lst ds=>ds.length<=n/\Fits n ds
 |.bQ=>True
 |.bl _=>True
 |.int _=>True
def Fits (n:Nat):List D->Prop
 |[]=>True
 |d::ds=>EG n d/\Fits n ds
end
noncomputable def nN (d:D) (l m:Int):Bool:=match d with
 |.int i=>decide (l<=i) && decide (i<=m)
 |_=>false
theorem lookup_some {α:Type}:∀{l:List (Str×α)}{n:Str},n∈l.map (·.1)->∃c,l.lookup n=some c
 |[],_,h=>by simp at h
 |(m,c)::l,n,h=>by
  rw[ach];cases e:n == m with
  |true=>exact⟨c,rfl⟩
  |false=>
   rcases aao.mp h with h|h
   ·have h:n=m:=h;rw[h,aeC] at e;cases e
   ·exact lookup_some h
mutual
noncomputable def toPy:D->PyData
 |.bQ=>.none
 |.bl b=>.bool b
 |.int i=>.int i
 |.str z=>.str z
 |.tup ds=>.tuple (fc ds)
 |.lst ds=>.list (fc ds)
noncomputable def fc:List D->List PyData
 |[]=>[]
 |d::ds=>toPy d::fc ds
end
mutual
theorem uF:∀d:D,(toPy d).hasDict=false
 |.bQ=>rfl
 |.bl _=>rfl
 |.int _=>rfl
 |.str _=>rfl
 |.tup ds=>mD ds
 |.lst ds=>mD ds
theorem mD:∀ds:List D,PyData.hasDictAll (fc ds)=false
 |[]=>rfl
 |d::ds=>by
  show((toPy d).hasDict || PyData.hasDictAll (fc ds))=false;rw[uF d,mD ds];rfl
end
inductive MO where
 |lst (ds:List D)
 |dct (kvs:List (Key×D))
 |Dv (kvs:List (D×D))
 |ins (C:Addr) (kvs:List (Str×D))
 |gap (es:List (D ⊕ Addr))
 |lat (c:Addr) (ds:List D)
 |gU (c:Addr) (kvs:List (D×D))
 |Dy (C:Addr) (kvs:List (Str×(D ⊕ Addr)))
inductive U where
 |t (d:D)|m (o:MO)|b (o:MO)|v (i:Nat)|s (ns:BBD)|f (a:Addr)|x (C:Addr) (kvs:List (Str×D))
abbrev AAA (d:D):Option U:=some (.t d)
abbrev AAB (d:List D):Option U:=some (.m (.lst d))
abbrev AAC (i:Int):Option U:=some (.t (.int i))
abbrev SS:=List (Option U)
def Sub (F H:Hp):Prop:=∀a o,F a=some o->H a=some o
def ff {κ:Type}(F:Hp) (p:κ×V) (q:κ×D):Prop:=p.1=q.1/\Rep F p.2 q.2
def Ab (F:Hp) (v:V) (C:Addr) (kvs:List (Str×D)):Prop:=∃a dx fs,v= .ref a/\F a=some (.Tu C dx fs)/\F dx=some (.own a)/\Paired (ff F) fs kvs
def Ac (F:Hp) (v:V):D ⊕ Addr->Prop
 |.inl d=>Rep F v d
 |.inr c=>v= .ref c
def GK (F:Hp) (p:Str×V) (q:Str×(D ⊕ Addr)):Prop:=p.1=q.1/\Ac F p.2 q.2
def At (F H:Hp) (a:Addr):MO->Prop
 |.lst ds=>∃vs,H a=some (.lst vs)/\bq F vs ds
 |.dct kvs=>∃ws,H a=some (.dK ws)/\Paired (ff F) ws kvs
 |.Dv kvs=>∃ws,H a=some (.dT ws)/\Paired (ff F) ws kvs
 |.ins C kvs=>∃ws,(∃dx,H a=some (.ins C dx ws))/\Paired (ff F) ws kvs
 |.gap es=>∃vs,H a=some (.lst vs)/\Paired (Ac F) vs es
 |.lat c ds=>∃vs,(a=c/\H a=some (.lst vs))/\bq F vs ds
 |.gU c kvs=>∃ws,(a=c/\H a=some (.dT ws))/\Paired (ff F) ws kvs
 |.Dy C kvs=>∃ws,(∃dx,H a=some (.ins C dx ws))/\Paired (GK F) ws kvs
noncomputable def fh:U->Bool
 |.m _=>true
 |.b _=>true
 |_=>false
def cF (S:SS) (σ:St) (a:Addr):Prop:=∃(i:Nat) (u:U),S[i]? =some (some u)/\fh u=true/\σ[i]? =some (some (.ref a))
def Mq (K:AAD) (H:Hp) (a:Addr) (ns:BBD):Prop:=
 (∃o,H a=some (.jh o (.lst (ns.map V.int))))\/∃(o:Obj) (its:AAK) (n:Nat),K.lookup a=some o/\o.cls= .type "list"/\o.dict=none/\o.data= .seq its n/\its.size<=sizeLine/\Vals (ns.map V.int) its.toList
theorem Mq.sq :Mq K H a ns->lE K H a (ns.map V.int)
 |.inl h=>.inl (.inr h)
 |.inr h=>.inr h
def BQ (K:AAD) (F H:Hp) (v:V):U->Prop
 |.t d=>Rep F v d
 |.m o=>∃a,v= .ref a/\F a=none/\At F H a o
 |.b o=>∃a,v= .ref a/\F a=none/\At F H a o
 |.v _=>False
 |.s ns=>∃a,v= .ref a/\Mq K H a ns
 |.f a=>v= .ref a
 |.x C k=>Ab F v C k
structure Ext (M:Addr->Prop) (F H F' H':Hp):Prop where
 le:∀b o,F b=some o->F' b=some o
 keep:∀b o,H b=some o->¬M b->H' b=some o
 j6:∀b o,H b=some o->¬M b->F b=none->F' b=none
 there:∀b o,H b=some o->∃o',H' b=some o'
 jh:∀b o u,H b=some (.jh o u)->H' b=some (.jh o u)
structure Base where
 P:List (BBN)
 F:Hp
 H:Hp
def Base.M (B:Base) (a:Addr):Prop:=some a∈B.P
structure Rel (K:AAD) (B:Base) (S:SS) (σ:St) (F H:Hp):Prop where
 sub:Sub F H
 len:S.length=σ.length
 rep:∀(i:Nat) u,S[i]? =some (some u)->∃v,σ[i]? =some (some v)/\BQ K F H v u
 EH:∀(i j:Nat) u w a,S[i]? =some (some u)->fh u=true->S[j]? =some (some w)->fh w=true->σ[i]? =some (some (.ref a))->σ[j]? =some (some (.ref a))->i=j
 own:∀(i:Nat) o a,S[i]? =some (some (.m o))->σ[i]? =some (some (.ref a))->B.H a=none
 bor:∀(i:Nat) o a,S[i]? =some (some (.b o))->σ[i]? =some (some (.ref a))->B.M a
 par:∀(i:Nat) a,B.P[i]? =some (some a)->σ[i]? =some (some (.ref a))/\∃o,S[i]? =some (some (.b o))
 ext:Ext B.M B.F B.H F H
structure Step (S S':SS) (σ:St) (F H F' H':Hp):Prop where
 ext:Ext (cF S σ) F H F' H'
 mu:∀a,cF S' σ a->cF S σ a
 slots:∀(i:Nat) u,S[i]? =some (some u)->∃u',S'[i]? =some (some u')
def Ext.refl (M:Addr->Prop) (F H:Hp):Ext M F H F H:=⟨fun _ _ h=>h,fun _ _ h _=>h,fun _ _ _ _ h=>h,fun _ o h=>⟨o,h⟩,fun _ _ _ h=>h⟩
def Ext.trans {M M':Addr->Prop}{F F2 H2:Hp}(x:Ext M F H F1 H1) (y:Ext M' F1 H1 F2 H2) (s:∀b,M' b->M b\/H b=none):Ext M F H F2 H2 where
 le:=fun b o h=>y.le b o (x.le b o h)
 keep:=fun b o h n=>y.keep b o (x.keep b o h n) fun q=>(s b q).elim n fun z=>by rw[h] at z;cases z
 j6:=fun b o h n f=>y.j6 b o (x.keep b o h n) (fun q=>(s b q).elim n fun z=>by rw[h] at z;cases z) (x.j6 b o h n f)
 there:=fun b o h=>let⟨o',h'⟩:=x.there b o h;y.there b o' h'
 jh:=fun b o u h=>y.jh b o u (x.jh b o u h)
def Step.refl (S:SS) (σ:St) (F H:Hp):Step S S σ F H F H:=⟨Ext.refl _ _ _,fun _ h=>h,fun _ u h=>⟨u,h⟩⟩
def Step.trans {S S1 S2:SS}{σ:St}{F H F1 H1 F2 H2:Hp}(x:Step S S1 σ F H F1 H1) (y:Step S1 S2 σ F1 H1 F2 H2):Step S S2 σ F H F2 H2:=
 ⟨x.ext.trans y.ext fun b q=>.inl (x.mu b q),fun a q=>x.mu a (y.mu a q),fun i u h=>let⟨u',h'⟩:=x.slots i u h;y.slots i u' h'⟩
mutual
theorem Rep.le {F F':Hp}(g:∀b o,F b=some o->F' b=some o):∀{v:V}{d:D},Rep F v d->Rep F' v d
 |_,_,.bQ=>.bQ
 |_,_,.bl b=>.bl b
 |_,_,.int i=>.int i
 |_,_,.str z=>.str z
 |_,_,.tup e r=>.tup (g _ _ e) (bq.le g r)
 |_,_,.lst e r=>.lst (e.imp (g _ _) fun⟨o,h⟩=>⟨o,g _ _ h⟩) (bq.le g r)
theorem bq.le {F F':Hp}(g:∀b o,F b=some o->F' b=some o):∀{vs:List V}{ds:List D},bq F vs ds->bq F' vs ds
 |_,_,.nil=>.nil
 |_,_,.cons r rs=>.cons (Rep.le g r) (bq.le g rs)
end
def nO {κ:Type}{F:Hp}(g:∀b o,F b=some o->F' b=some o){ws:List (κ×V)}{kvs:List (κ×D)}(r:Paired (ff F) ws kvs):Paired (ff F') ws kvs:=
 Paired.By r fun _ _ z=>⟨z.1,z.2.le g⟩
theorem Ab.le {F:Hp}(g:∀b o,F b=some o->F' b=some o){v:V}{C:Addr}{k:List (Str×D)}:Ab F v C k->Ab F' v C k
 |⟨a,dx,fs,e,h1,h2,h3⟩=>⟨a,dx,fs,e,g _ _ h1,g _ _ h2,nO g h3⟩
theorem Ac.le {F F':Hp}(g:∀b o,F b=some o->F' b=some o){v:V}:∀{e:D ⊕ Addr},Ac F v e->Ac F' v e
 |.inl _,h=>Rep.le g h
 |.inr _,h=>h
theorem At.le {F F' H H':Hp}{a:Addr}(g:∀b o,F b=some o->F' b=some o) (k:∀o,H a=some o->H' a=some o):∀{o:MO},At F H a o->At F' H' a o
 |.lst _,⟨vs,e,r⟩=>⟨vs,k _ e,r.le g⟩
 |.dct _,⟨ws,e,r⟩=>⟨ws,k _ e,nO g r⟩
 |.Dv _,⟨ws,e,r⟩=>⟨ws,k _ e,nO g r⟩
 |.ins _ _,⟨ws,⟨dx,e⟩,r⟩=>⟨ws,⟨dx,k _ e⟩,nO g r⟩
 |.gap _,⟨ws,e,r⟩=>⟨ws,k _ e,Paired.By r fun _ _ z=>z.le g⟩
 |.lat _ _,⟨vs,⟨q,e⟩,r⟩=>⟨vs,⟨q,k _ e⟩,r.le g⟩
 |.gU _ _,⟨ws,⟨q,e⟩,r⟩=>⟨ws,⟨q,k _ e⟩,nO g r⟩
 |.Dy _ _,⟨ws,⟨dx,e⟩,r⟩=>⟨ws,⟨dx,k _ e⟩,Paired.By r fun _ _ z=>⟨z.1,z.2.le g⟩⟩
theorem At.has {F:Hp}:∀{o:MO},At F H a o->∃u,H a=some u
 |.lst _,⟨_,e,_⟩=>⟨_,e⟩
 |.dct _,⟨_,e,_⟩=>⟨_,e⟩
 |.Dv _,⟨_,e,_⟩=>⟨_,e⟩
 |.ins _ _,⟨_,⟨_,e⟩,_⟩=>⟨_,e⟩
 |.gap _,⟨_,e,_⟩=>⟨_,e⟩
 |.lat _ _,⟨_,⟨_,e⟩,_⟩=>⟨_,e⟩
 |.gU _ _,⟨_,⟨_,e⟩,_⟩=>⟨_,e⟩
 |.Dy _ _,⟨_,⟨_,e⟩,_⟩=>⟨_,e⟩
def gW (K:AAD) (B:Base) (S:SS) (σ:St) (H0 F H:Hp) (v:V):U->Prop
 |.t d=>Rep F v d
 |.m o=>∃a,v= .ref a/\H0 a=none/\F a=none/\At F H a o/\¬cF S σ a/\B.H a=none
 |.v i=>σ[i]? =some (some v)/\∃u,S[i]? =some (some u)
 |.b _=>False
 |.s ns=>∃a,v= .ref a/\Mq K H a ns
 |.f a=>v= .ref a
 |.x C k=>Ab F v C k
def PE.imp {e:Expr}{t t':TE}(h:PE X e t) (k:∀σ H Q,t' σ H Q->t σ H Q):PE X e t':=fun pins s σ H Q I q=>h pins s σ H Q I (k σ H Q q)
def PT.imp {e:Expr}{t t':TT}(h:PT X e t) (k:∀σ H Q,t' σ H Q->t σ H Q):PT X e t':=fun pins s σ H Q I q=>h pins s σ H Q I (k σ H Q q)
def PW.imp {e:Expr}{t t':TT}(h:PW X e t) (k:∀σ H Q,t' σ H Q->t σ H Q):PW X e t':=fun w pins s σ H Q I q=>h w pins s σ H Q I (k σ H Q q)
def PA.imp {e:BBC}{t t':TA}(h:PA X e t) (k:∀σ H Q,t' σ H Q->t σ H Q):PA X e t':=fun p pins s σ H Q I q=>h p pins s σ H Q I (k σ H Q q)
def PS.imp {e:Stmt}{t t':TS}(h:PS X e t) (k:∀D σ H,t' D σ H->t D σ H):PS X e t':=fun pins s σ H Q I q=>h pins s σ H Q I (k Q σ H q)
def xO.imp {e:BBH}{t t':TS}(h:xO X e t) (k:∀D σ H,t' D σ H->t D σ H):xO X e t':=fun pins s σ H Q I q=>h pins s σ H Q I (k Q σ H q)
def PE.orelse {e:Expr}{t:TE}(h:∀σ H Q,t σ H Q->∃t',PE X e t'/\t' σ H Q):PE X e t:=fun pins s σ H Q I q=>let⟨_,h1,h2⟩:=h σ H Q q;h1 pins s σ H Q I h2
def PS.orelse {e:Stmt}{t:TS}(h:∀D σ H,t D σ H->∃t',PS X e t'/\t' D σ H):PS X e t:=fun pins s σ H Q I q=>let⟨_,h1,h2⟩:=h Q σ H q;h1 pins s σ H Q I h2
abbrev GE:=SS->Option (U×SS)
abbrev GD:=SS->Option (D×SS)
abbrev GT:=SS->Option (Bool×SS)
abbrev GA:=SS->Option (List D×SS)
inductive Out where
 |nx (S:SS)|rt (u:U) (S:SS)|bk (S:SS)|ct (S:SS)
abbrev GS:=SS->Option Out
inductive tE (K:AAD) (B:Base) (g:GE) (σ:St) (H:Hp) (Q:VK):Prop
 |mk (S:SS) (F:Hp) (u:U) (S':SS) (R:Rel K B S σ F H) (hg:g S=some (u,S')) (q:∀v F' H',Rel K B S' σ F' H'->Step S S' σ F H F' H'->gW K B S' σ H F' H' v u->Q v H')
inductive tD (K:AAD) (B:Base) (g:GD) (σ:St) (H:Hp) (Q:VK):Prop
 |mk (S:SS) (F:Hp) (d:D) (S':SS) (R:Rel K B S σ F H) (hg:g S=some (d,S')) (q:∀v F' H',Rel K B S' σ F' H'->Step S S' σ F H F' H'->Rep F' v d->Q v H')
inductive tQ (K:AAD) (B:Base) (g:GT) (σ:St) (H:Hp) (Q:Bool->Hp->Prop):Prop
 |mk (S:SS) (F:Hp) (b:Bool) (S':SS) (R:Rel K B S σ F H) (hg:g S=some (b,S')) (q:∀F' H',Rel K B S' σ F' H'->Step S S' σ F H F' H'->Q b H')
inductive tAs (K:AAD) (B:Base) (g:GA) (σ:St) (H:Hp) (Q:List V->Hp->Prop):Prop
 |mk (S:SS) (F:Hp) (ds:List D) (S':SS) (R:Rel K B S σ F H) (hg:g S=some (ds,S')) (q:∀vs F' H',Rel K B S' σ F' H'->Step S S' σ F H F' H'->bq F' vs ds->Q vs H')
def yF (K:AAD) (B:Base) (F:Hp) (D:Ends):Out->Prop
 |.nx S=>∀σ' F' H',Rel K B S σ' F' H'->(∀b o,F b=some o->F' b=some o)->D.nx σ' H'
 |.bk S=>∀σ' F' H',Rel K B S σ' F' H'->(∀b o,F b=some o->F' b=some o)->D.bk σ' H'
 |.ct S=>∀σ' F' H',Rel K B S σ' F' H'->(∀b o,F b=some o->F' b=some o)->D.ct σ' H'
 |.rt u S=>∀v σ' F' H',Rel K B S σ' F' H'->(∀b o,F b=some o->F' b=some o)->gW K B S σ' B.H F' H' v u->D.rt v H'
inductive tO (K:AAD) (B:Base) (g:GS) (D:Ends) (σ:St) (H:Hp):Prop
 |mk (S:SS) (F:Hp) (o:Out) (R:Rel K B S σ F H) (hg:g S=some o) (q:yF K B F D o)
structure JE (X:Cx) (e:Expr) (g:GE):Prop where
 h:∀B,PE X e (tE X.K B g)
structure JD (X:Cx) (e:Expr) (g:GD):Prop where
 h:∀B,PE X e (tD X.K B g)
structure JT (X:Cx) (e:Expr) (g:GT):Prop where
 h:∀B,PT X e (tQ X.K B g)
structure JW (X:Cx) (e:Expr) (g:GT):Prop where
 h:∀B,PW X e (tQ X.K B g)
structure JA (X:Cx) (es:BBC) (g:GA):Prop where
 h:∀B,PA X es (tAs X.K B g)
structure JS (X:Cx) (st:Stmt) (g:GS):Prop where
 h:∀B,PS X st (tO X.K B g)
structure JB (X:Cx) (st:BBH) (g:GS):Prop where
 h:∀B,xO X st (tO X.K B g)
noncomputable def fz:U->SS->Option (D×SS)
 |.t d,S=>some (d,S)
 |.m (.lst ds),S=>some (.lst ds,S)
 |.v i,S=>match S[i]? with
  |some (some (.t d))=>some (d,S)
  |some (some (.m (.lst ds)))=>some (.lst ds,S.set i (some (.t (.lst ds))))
  |_=>none
 |_,_=>none
def get_set {α:Type}{l:List α}{j:Nat}{x y:α}(h:(l.set i x)[j]? =some y):(i=j/\x=y/\i<l.length)\/(i≠j/\l[j]? =some y):=by
 by_cases e:i=j
 ·subst e;by_cases hl:i<l.length
  ·rw[abl hl] at h;exact .inl ⟨rfl,aaV h,hl⟩
  ·rw[abF (by simpa using hl)] at h;cases h
 ·rw[aaJ e] at h;exact .inr ⟨e,h⟩
def Sub.jh {F:Hp}(s:Sub F H) (h:H a=some o):Sub (upd F a o) H:=fun b u e=>by
 by_cases hb:b=a
 ·subst hb;rw[aO] at e;cases e;exact h
 ·rw[aP hb] at e;exact s b u e
def Sub.fresh {F:Hp}(s:Sub F H) (h:H p=Option.none):F p=Option.none:=by
 cases e:F p with
 |none=>rfl
 |some o=>have q:=s p o e;rw[h] at q;cases q
def fU {F:Hp}(h:F a=none):∀b u,F b=some u->upd F a o b=some u:=fun b u e=>by rw[aP (bJ e h)];exact e
theorem Mq.le (k:∀b o u,H b=some (.jh o u)->H' b=some (.jh o u)):Mq K H a ns->Mq K H' a ns
 |.inl ⟨o,h⟩=>.inl ⟨o,k _ _ _ h⟩
 |.inr h=>.inr h
theorem BQ.le {K:AAD}{F F' H H':Hp}{v:V}(g:∀b o,F b=some o->F' b=some o) (kf:∀b o u,H b=some (.jh o u)->H' b=some (.jh o u)):∀{u:U},BQ K F H v u->(∀a,fh u=true->v= .ref a->(∀o,H a=some o->H' a=some o)/\F' a=none)->BQ K F' H' v u
 |.t _,h,_=>Rep.le g h
 |.m _,⟨a,e,_,h⟩,k=>let⟨k1,k2⟩:=k a rfl e;⟨a,e,k2,h.le g k1⟩
 |.b _,⟨a,e,_,h⟩,k=>let⟨k1,k2⟩:=k a rfl e;⟨a,e,k2,h.le g k1⟩
 |.v _,h,_=>h
 |.s _,⟨a,e,h⟩,_=>⟨a,e,h.le kf⟩
 |.f _,h,_=>h
 |.x _ _,h,_=>Ab.le g h
def Jj {F:Hp}{v:V}{d:D}(R:Rel K B S σ F H) (st:Step S0 S σ F0 H0 F H) (r:gW K B S σ H0 F H v u) (e:fz u S=some (d,S')):
  ∃F',Rel K B S' σ F' H/\Step S0 S' σ F0 H0 F' H/\Rep F' v d:=by
 cases u with
 |t d'=>cases e;exact⟨F,R,st,r⟩
 |b o=>cases r
 |s o=>cases e
 |f o=>cases e
 |x cx kx=>cases e
 |m o=>
  cases o with
  |dct kvs=>cases e
  |Dv kvs=>cases e
  |ins C kvs=>cases e
  |gap _=>cases e
  |lat _ _=>cases e
  |gU _ _=>cases e
  |Dy _ _=>cases e
  |lst ds=>
   cases e;obtain⟨a,rfl,h0,hf,⟨vs,ha,rs⟩,nm,hB⟩:=r;have g:=fU (o:=.lst vs) hf;refine⟨upd F a (.lst vs),⟨R.sub.jh ha,R.len,fun i u h=>?_,R.EH,R.own,R.bor,R.par,?_⟩,⟨⟨fun b o h=>g b o (st.ext.le b o h),st.ext.keep,fun b o h n f=>?_,st.ext.there,st.ext.jh⟩,st.mu,st.slots⟩,.lst (.inl aO) (rs.le g)⟩
   ·obtain⟨w,h1,h2⟩:=R.rep i u h;refine⟨w,h1,h2.le g (fun _ _ _ z=>z) fun c hm hc=>⟨fun o q=>q,?_⟩⟩;have hca:c≠a:=fun z=>nm ⟨i,u,h,hm,by rw[h1,hc,z]⟩;rw[aP hca];cases u with
    |m o=>obtain⟨c',e',f',_⟩:=h2;rw[hc] at e';cases e';exact f'
    |b o=>obtain⟨c',e',f',_⟩:=h2;rw[hc] at e';cases e';exact f'
    |t d=>cases hm
    |v j=>cases hm
    |s j=>cases hm
    |f j=>cases hm
    |x cx kx=>cases hm
   ·exact⟨fun b o h=>g b o (R.ext.le b o h),R.ext.keep,fun b o h n f=>by rw[aP (fun z=>by rw[z,hB] at h;cases h)];exact R.ext.j6 b o h n f,R.ext.there,R.ext.jh⟩
   ·rw[aP (fun z=>by rw[z,h0] at h;cases h)];exact st.ext.j6 b o h n f
 |v i=>
  obtain⟨hv,u,hu⟩:=r;unfold fz at e;simp only[hu] at e;cases u with
  |t d'=>
   cases e;obtain⟨w,h1,h2⟩:=R.rep i _ hu;rw[hv] at h1;cases h1;exact⟨F,R,st,h2⟩
  |b o=>cases e
  |v j=>cases e
  |s j=>cases e
  |f j=>cases e
  |x cx kx=>cases e
  |m o=>
   cases o with
   |dct kvs=>cases e
   |Dv kvs=>cases e
   |ins C kvs=>cases e
   |gap _=>cases e
   |lat _ _=>cases e
   |gU _ _=>cases e
   |Dy _ _=>cases e
   |lst ds=>
    cases e;obtain⟨w,h1,a,rfl,hf,⟨vs,ha,rs⟩⟩:=R.rep i _ hu;have hiv:σ[i]? =some (some (.ref a)):=h1;rw[hv] at h1;cases h1;have hB:=R.own i _ a hu hiv;have g:=fU (o:=.lst vs) hf;have back:∀j w,(S.set i (AAA (.lst ds)))[j]? =some (some w)->fh w=true->i≠j/\S[j]? =some (some w):=fun j w h hm=>by
     rcases get_set h with⟨_,q,_⟩|q
     ·cases q;cases hm
     ·exact q
    have mu:∀c,cF (S.set i (AAA (.lst ds))) σ c->cF S σ c:=fun c ⟨j,w,h,hm,z⟩=>⟨j,w,(back j w h hm).2,hm,z⟩
    refine⟨upd F a (.lst vs),⟨R.sub.jh ha,by rw[ab6];exact R.len,fun j u h=>?_,fun j k u w c h1 m1 h2 m2=>R.EH j k u w c (back j u h1 m1).2 m1 (back k w h2 m2).2 m2,fun j o c h=>R.own j o c (back j _ h rfl).2,fun j o c h=>R.bor j o c (back j _ h rfl).2,fun j c h=>?_,?_⟩,
     ⟨⟨fun b o h=>g b o (st.ext.le b o h),st.ext.keep,fun b o h n f=>?_,st.ext.there,st.ext.jh⟩,fun c q=>st.mu c (mu c q),fun j u h=>?_⟩,.lst (.inl aO) (rs.le g)⟩
    ·rcases get_set h with⟨rfl,q,_⟩|⟨ne,q⟩
     ·cases q;exact⟨.ref a,hiv,.lst (.inl aO) (rs.le g)⟩
     ·obtain⟨w,h1,h2⟩:=R.rep j u q;refine⟨w,h1,h2.le g (fun _ _ _ z=>z) fun c hm hc=>⟨fun o q=>q,?_⟩⟩;have hca:c≠a:=fun z=>ne (R.EH i j _ u a hu rfl q hm hiv (by rw[h1,hc,z]));rw[aP hca];cases u with
      |m o=>obtain⟨c',e',f',_⟩:=h2;rw[hc] at e';cases e';exact f'
      |b o=>obtain⟨c',e',f',_⟩:=h2;rw[hc] at e';cases e';exact f'
      |t d=>cases hm
      |v j=>cases hm
      |s j=>cases hm
      |f j=>cases hm
      |x cx kx=>cases hm
    ·obtain⟨h1,o,h2⟩:=R.par j c h;refine⟨h1,o,?_⟩;have ne:i≠j:=fun z=>by subst z;rw[hu] at h2;cases h2
     rw[aaJ ne];exact h2
    ·exact⟨fun b o h=>g b o (R.ext.le b o h),R.ext.keep,fun b o h n f=>by rw[aP (fun z=>by rw[z,hB] at h;cases h)];exact R.ext.j6 b o h n f,R.ext.there,R.ext.jh⟩
    ·have hb:b≠a:=fun z=>n (st.mu b ⟨i,_,hu,rfl,by rw[z];exact hiv⟩);rw[aP hb];exact st.ext.j6 b o h n f
    ·obtain⟨u',h'⟩:=st.slots j u h;by_cases hj:i=j
     ·subst hj;exact⟨.t (.lst ds),abl (aau.mp h').1⟩
     ·exact⟨u',by rw[aaJ hj];exact h'⟩
def eF (g:GE):GD:=fun S=>(g S).bind fun p=>fz p.1 p.2
def JE.d {X:Cx}{e:Expr}{g:GE}(h:JE X e g):JD X e (eF g):=⟨fun B=>(h.h B).imp fun σ H Q hh=>by
 obtain⟨S,F,d,S',R,hg,q⟩:=hh;unfold eF at hg;cases e1:g S with
 |none=>rw[e1] at hg;cases hg
 |some p=>
  obtain⟨u,S1⟩:=p;rw[e1] at hg;refine⟨S,F,u,S1,R,e1,fun v F1 H1 R1 st1 r1=>?_⟩;obtain⟨F2,R2,st2,r2⟩:=Jj R1 st1 r1 hg;exact q v F2 H1 R2 st2 r2⟩
noncomputable def eT (g:GD):GE:=fun S=>(g S).map fun p=>(.t p.1,p.2)
def JD.e {X:Cx}{e:Expr}{g:GD}(h:JD X e g):JE X e (eT g):=⟨fun B=>(h.h B).imp fun σ H Q hh=>by
 obtain⟨S,F,u,S',R,hg,q⟩:=hh;unfold eT at hg;cases e1:g S with
 |none=>rw[e1] at hg;cases hg
 |some p=>
  obtain⟨d,S1⟩:=p;rw[e1] at hg;cases hg;exact⟨S,F,d,S1,R,e1,fun v F1 H1 R1 st1 r1=>q v F1 H1 R1 st1 r1⟩⟩
structure fV (F H F' H':Hp):Prop where
 le:∀b o,F b=some o->F' b=some o
 same:∀b o,H b=some o->H' b=some o
 j6:∀b o,H b=some o->F b=none->F' b=none
def fV.refl (F H:Hp):fV F H F H:=⟨fun _ _ h=>h,fun _ _ h=>h,fun _ _ _ h=>h⟩
def fV.step {F:Hp}(n:fV F H F' H'):Step S S σ F H F' H':=
 ⟨⟨n.le,fun b o h _=>n.same b o h,fun b o h _ f=>n.j6 b o h f,fun b o h=>⟨o,n.same b o h⟩,fun b o u h=>n.same b _ h⟩,fun _ h=>h,fun _ u h=>⟨u,h⟩⟩
def fV.obj {F:Hp}(h:H p=none) (o:HO):fV F H F (upd H p o):=
 ⟨fun _ _ q=>q,fun b u q=>by rw[aP (bJ q h)];exact q,fun _ _ _ q=>q⟩
def Sub.same {F:Hp}(s:Sub F H) (k:∀b o,H b=some o->H' b=some o):Sub F H':=fun a o e=>k a o (s a o e)
def Sub.vG {F:Hp}(s:Sub F H) (h:H p=none):Sub (upd F p o) (upd H p o):=fun b u e=>by
 by_cases hb:b=p
 ·subst hb;rw[aO] at e;cases e;exact aO
 ·rw[aP hb] at e;have q:=s b u e;rw[aP (bJ q h)];exact q
def fV.root {F:Hp}(s:Sub F H) (h:H p=none) (o:HO):fV F H (upd F p o) (upd H p o):=
 ⟨fU (s.fresh h),fun b u q=>by rw[aP (bJ q h)];exact q,fun b u q f=>by rw[aP (bJ q h)];exact f⟩
def Rel.has {K:AAD}{B:Base}{S:SS}{σ:St}{F H:Hp}(R:Rel K B S σ F H){a:Addr}(m:cF S σ a):∃o,H a=some o:=by
 obtain⟨i,u,h,hm,hv⟩:=m;obtain⟨v,h1,h2⟩:=R.rep i u h;rw[hv] at h1;cases h1;cases u with
 |t d=>cases hm
 |v j=>cases hm
 |s j=>cases hm
 |f j=>cases hm
 |x cx kx=>cases hm
 |m o=>obtain⟨b,e,_,h⟩:=h2;cases e;exact h.has
 |b o=>obtain⟨b,e,_,h⟩:=h2;cases e;exact h.has
def Rel.new {F:Hp}(R:Rel K B S σ F H) (n:fV F H F' H') (s:Sub F' H'):Rel K B S σ F' H' where
 sub:=s
 len:=R.len
 rep:=fun i u h=>by
  obtain⟨v,h1,h2⟩:=R.rep i u h;refine⟨v,h1,h2.le n.le (fun b o u z=>n.same b _ z) fun a hm ha=>⟨fun o q=>n.same a o q,?_⟩⟩;obtain⟨o,ho⟩:=R.has ⟨i,u,h,hm,by rw[h1,ha]⟩;refine n.j6 a o ho ?_;cases u with
  |t d=>cases hm
  |v j=>cases hm
  |s j=>cases hm
  |f j=>cases hm
  |x cx kx=>cases hm
  |m o=>obtain⟨b,e,f,_⟩:=h2;rw[ha] at e;cases e;exact f
  |b o=>obtain⟨b,e,f,_⟩:=h2;rw[ha] at e;cases e;exact f
 EH:=R.EH
 own:=R.own
 bor:=R.bor
 par:=R.par
 ext:=⟨fun b o h=>n.le b o (R.ext.le b o h),fun b o h m=>n.same b o (R.ext.keep b o h m),fun b o h m f=>n.j6 b o (R.ext.keep b o h m) (R.ext.j6 b o h m f),fun b o h=>let⟨o',h'⟩:=R.ext.there b o h;⟨o',n.same b o' h'⟩,fun b o u h=>n.same b _ (R.ext.jh b o u h)⟩
def vH (H0 F H:Hp) (v:V):U->Prop
 |.t d=>Rep F v d
 |.m o=>∃a,v= .ref a/\H0 a=none/\F a=none/\At F H a o
 |_=>False
def none_of (t:∀b o,H b=some o->∃o',H' b=some o') (h:H' a=none):H a=none:=by
 cases e:H a with
 |none=>rfl
 |some o=>obtain⟨o',h'⟩:=t a o e;rw[h] at h';cases h'
def vH.Ad {F:Hp}{v:V}(R:Rel K B S σ F1 H1) (st:Step S0 S σ F0 H0 F1 H1) (r:vH H1 F H v u):gW K B S σ H0 F H v u:=by
 cases u with
 |t d=>exact r
 |b o=>cases r
 |v i=>cases r
 |s i=>cases r
 |f i=>cases r
 |x cx kx=>cases r
 |m o=>
  obtain⟨a,e,h0,f,h⟩:=r;refine⟨a,e,none_of st.ext.there h0,f,h,fun m=>?_,none_of R.ext.there h0⟩;obtain⟨o,ho⟩:=R.has m;rw[h0] at ho;cases ho
inductive rP (f:List D->Option U) (xs:List V) (H:Hp) (Q:VK):Prop
 |mk (F:Hp) (ds:List D) (u:U) (s:Sub F H) (r:bq F xs ds) (hf:f ds=some u) (q:∀v F' H',fV F H F' H'->Sub F' H'->vH H F' H' v u->Q v H')
noncomputable def pS:D->Bool
 |.tup _=>false
 |.lst _=>false
 |_=>true
noncomputable def toV:D->V
 |.bl b=>.bl b
 |.int i=>.int i
 |.str z=>.str z
 |_=>.bQ
theorem BR {F:Hp}:∀{d:D},pS d=true->Rep F (toV d) d
 |.bQ,_=>.bQ
 |.bl b,_=>.bl b
 |.int i,_=>.int i
 |.str z,_=>.str z
 |.tup _,h=>by cases h
 |.lst _,h=>by cases h
noncomputable def aB (i:Nat):GE:=fun S=>match S[i]? with
 |some (some (.t d))=>some (.t d,S)
 |some (some (.s d))=>some (.s d,S)|some (some (.f d))=>some (.f d,S)|some (some (.x C k))=>some (.x C k,S)
 |some (some _)=>some (.v i,S)
 |_=>none
noncomputable def eC (d:D):GD:=fun S=>some (d,S)
noncomputable def aF:GA:=fun S=>some ([],S)
noncomputable def ah (g:GD) (ga:GA):GA:=fun S=>(g S).bind fun p=>(ga p.2).map fun q=>(p.1::q.1,q.2)
noncomputable def eP (f:List D->Option U) (ga:GA):GE:=fun S=>(ga S).bind fun p=>(f p.1).map fun u=>(u,p.2)
section
variable {X:Cx}{a b e:Expr}{es:BBC}{pos p:Pos}{x:Str}{g ga gb:GD}{gA:GA}{f:List D->Option U}
def bh (i:Nat) (hN:X.N[i]? =some x:=by rfl) (hv:qj X.env.scope x:=by first|exact Or.inl rfl|exact Or.inr (Or.inl rfl)|exact Or.inr (Or.inr rfl)) (hd:BBT x:=by decide)
  (hcd:BBU x:=by decide):JE X (.Name x pos) (aB i):=⟨fun B=>(bZ hN hv hd hcd).imp fun σ H Q hh=>by
 obtain⟨S,F,u,S',R,hg,q⟩:=hh;unfold aB at hg;cases hs:S[i]? with
 |none=>rw[hs] at hg;cases hg
 |some o=>
  cases o with
  |none=>rw[hs] at hg;cases hg
  |some w=>
   rw[hs] at hg;obtain⟨v,h1,h2⟩:=R.rep i w hs;refine⟨v,h1,?_⟩;cases w with
   |t d=>cases hg;exact q v F H R (Step.refl ..) h2
   |m o=>cases hg;exact q v F H R (Step.refl ..) ⟨h1,_,hs⟩
   |b o=>cases hg;exact q v F H R (Step.refl ..) ⟨h1,_,hs⟩
   |s j=>cases hg;exact q v F H R (Step.refl ..) h2
   |f j=>cases hg;exact q v F H R (Step.refl ..) h2
   |x cx kx=>cases hg;exact q v F H R (Step.refl ..) h2
   |v j=>cases hg;exact q v F H R (Step.refl ..) ⟨h1,_,hs⟩⟩
def Mr {d:D}(hf:pS d=true) (h:PE X e (tC (toV d))):JD X e (eC d):=⟨fun B=>h.imp fun σ H Q hh=>by
 obtain⟨S,F,u,S',R,hg,q⟩:=hh;cases hg;exact q _ F H R (Step.refl ..) (BR hf)⟩
def aG {i j}:JD X (.Constant (.int i) j pos) (eC (.int i)):=Mr rfl Ij
def kO {i j}:JD X (.Constant (.bool i) j pos) (eC (.bl i)):=Mr rfl TQ
def aV {i j}:JD X (.Constant (.str i) j pos) (eC (.str i)):=Mr rfl Ik
def aJ:JA X [] aF:=⟨fun B=>k7.imp fun σ H Q hh=>by
 obtain⟨S,F,u,S',R,hg,q⟩:=hh;cases hg;exact q [] F H R (Step.refl ..) .nil⟩
def aj {α β:Type}{o:Option α}{f:α->Option β}{y:β}(h:o.bind f=some y):∃z,o=some z/\f z=some y:=by
 cases o with
 |none=>cases h
 |some z=>exact⟨z,rfl,h⟩
def au {α β:Type}{o:Option α}{f:α->β}{y:β}(h:o.map f=some y):∃z,o=some z/\f z=y:=by
 cases o with
 |none=>cases h
 |some z=>exact⟨z,rfl,aaV h⟩
def ao (h:JD X e g) (hr:JA X es gA) (hs:starEach (e::es) X.env=(false,eval e X.env)::starEach es X.env:=by rfl):JA X (e::es) (ah g gA):=
 ⟨fun B=>(gj (h.h B) (hr.h B) hs).imp fun σ H Q hh=>by
 obtain⟨S,F,u,S',R,hg,q⟩:=hh;obtain⟨⟨d,S1⟩,h1,hg⟩:=aj hg;obtain⟨⟨ds,S2⟩,h2,hg⟩:=au hg;cases hg;exact⟨S,F,d,S1,R,h1,fun v F1 H1 R1 st1 r1=>⟨S1,F1,ds,S2,R1,h2,fun vs F2 H2 R2 st2 r2=>q _ F2 H2 R2 (st1.trans st2) (.cons (r1.le st2.ext.le) r2)⟩⟩⟩
def mF {Q:VK}{r:List V->Hp->VK->Prop}(hr:∀vs H1 Q1,rP f vs H1 Q1->r vs H1 Q1) (h:tE K B (eP f gA) σ H Q):tAs K B gA σ H fun vs H1=>r vs H1 Q:=by
 obtain⟨S,F,u,S',R,hg,q⟩:=h;obtain⟨⟨ds,S1⟩,h1,hg⟩:=aj hg;obtain⟨u',h2,hg⟩:=au hg;cases hg;exact⟨S,F,ds,S1,R,h1,fun vs F1 H1 R1 st1 r1=>hr _ _ _ ⟨F1,ds,_,R1.sub,r1,h2,fun v F2 H2 n s2 r2=>q v F2 H2 (R1.new n s2) (st1.trans n.step) (r2.Ad R1 st1)⟩⟩
def iX {id:String}(hc:gD X (.builtin id) (rP f)) (hg:Gl X x) (hm:X.mg x=none) (hv:bootBuiltins x=some (.builtin id)) (ha:JA X (e::es) gA) (hn:x≠"__name__":=by decide) (hdb:BBT x:=by decide)
  (he:starEach (e::es) X.env=(false,eval e X.env)::starEach es X.env:=by rfl) (hpl:(backTo pos (starEach es X.env)).any (·.1)=false:=by rfl):JE X (.Call (.Name x p) (e::es) [] pos) (eP f gA):=
 ⟨fun B=>(kg hc hg hm hv (ha.h B) hn hdb he hpl).imp fun σ H Q h=>mF (fun _ _ _ z=>z) h⟩
def gX (hc:gD X (.type T) (rP f)) (hg:Gl X x) (hm:X.mg x=none) (hv:bootBuiltins x=some (.type T)) (ha:JA X (e::es) gA) (hn:x≠"__name__":=by decide) (hdb:BBT x:=by decide)
  (he:starEach (e::es) X.env=(false,eval e X.env)::starEach es X.env:=by rfl) (hpl:(backTo pos (starEach es X.env)).any (·.1)=false:=by rfl):JE X (.Call (.Name x p) (e::es) [] pos) (eP f gA):=
 ⟨fun B=>(Gv hc hg hm hv (ha.h B) hn hdb he hpl).imp fun σ H Q h=>mF (fun _ _ _ z=>z) h⟩
abbrev xP (X:Cx) (o:Value->Value->Sem Value) (f:List D->Option U):Prop:=uA X o (fun x y H Q=>rP f [x,y] H Q)
def rA {Q:VK}(h:tE K B (eP f (ah ga (ah gb aF))) σ H Q):Oo (fun x y H Q=>rP f [x,y] H Q) (tD K B ga) (tD K B gb) σ H Q:=by
 obtain⟨S,F,u,S',R,hg,q⟩:=h;obtain⟨⟨ds,S1⟩,h1,hg⟩:=aj hg;obtain⟨u',h2,hg⟩:=au hg;cases hg;obtain⟨⟨d1,T1⟩,k1,h1⟩:=aj h1;obtain⟨⟨ds2,T2⟩,k2,h1⟩:=au h1;cases h1;obtain⟨⟨d2,T3⟩,k3,k2⟩:=aj k2;obtain⟨⟨ds3,T4⟩,k4,k2⟩:=au k2;cases k2;cases k4;exact⟨S,F,d1,T1,R,k1,fun v1 F1 H1 R1 st1 r1=>⟨T1,F1,d2,_,R1,k3,fun v2 F2 H2 R2 st2 r2=>⟨F2,_,_,R2.sub,.cons (r1.le st2.ext.le) (.cons r2 .nil),h2,fun v F3 H3 n s3 r3=>q v F3 H3 (R2.new n s3) ((st1.trans st2).trans n.step) (r3.Ad R2 (st1.trans st2))⟩⟩⟩
def bu {op:Operator}(ho:xP X (binaryOp op) f) (ha:JD X a ga) (hb:JD X b gb):JE X (.BinOp a op b pos) (eP f (ah ga (ah gb aF))):=
 ⟨fun B=>(Ub ho (ha.h B) (hb.h B)).imp fun σ H Q h=>rA h⟩
def qu (ho:xP X (compareOp op) f) (ha:JD X a ga) (hb:JD X b gb) (hm:behindInMarks op b=false:=by first|exact C9 _|rfl):JE X (.Compare a [op] [b] pos) (eP f (ah ga (ah gb aF))):=
 ⟨fun B=>(Ep ho (ha.h B) (hb.h B) hm).imp fun σ H Q h=>rA h⟩
def Jk {op:UnaryOp}(ho:Ua X (unaryOp op) (fun x H Q=>rP f [x] H Q)) (ha:JD X a ga):JE X (.UnaryOp op a pos) (eP f (ah ga aF)):=
 ⟨fun B=>(Uc ho (ha.h B)).imp fun σ H Q h=>by
 obtain⟨S,F,u,S',R,hg,q⟩:=h;obtain⟨⟨ds,S1⟩,h1,hg⟩:=aj hg;obtain⟨u',h2,hg⟩:=au hg;cases hg;obtain⟨⟨d1,T1⟩,k1,h1⟩:=aj h1;obtain⟨⟨ds2,T2⟩,k2,h1⟩:=au h1;cases h1;cases k2;exact⟨S,F,d1,_,R,k1,fun v1 F1 H1 R1 st1 r1=>⟨F1,_,_,R1.sub,.cons r1 .nil,h2,fun v F3 H3 n s3 r3=>q v F3 H3 (R1.new n s3) (st1.trans n.step) (r3.Ad R1 st1)⟩⟩⟩
def pT (hr:IU X (fun x y H Q=>rP f [x,y] H Q)) (ha:JD X a ga) (hb:JD X b gb) (hs:pA b):JE X (.Subscript a b pos) (eP f (ah ga (ah gb aF))):=
 ⟨fun B=>(BL hr (ha.h B) (hb.h B) hs).imp fun σ H Q h=>rA h⟩
noncomputable def dB:List D->Option U:=fun ds=>if ds.length<=100000 then AAA (.tup ds) else none
noncomputable def fW:List D->Option U:=fun ds=>if ds.length<=100000 then AAB ds else none
def jQ (h:n<=100000):n<=sizeLine:=aaC h (by decide)
end
section
variable {X:Cx}{a b c e:Expr}{es:BBC}{pos p:Pos}{g ga gb:GD}{gA:GA}{f:List D->Option U}
def bK {x1}(h:JA X es gA):JE X (.Tuple es x1 pos) (eP dB gA):=
 ⟨fun B=>(P6 (h.h B)).imp fun σ H Q z=>mF (r:=fun xs H1 Q=>xs.length<=sizeLine/\∀p,H1 p=none->Q (.ref p) (upd H1 p (.tup xs))) (fun vs H1 Q1 hh=>by
 obtain⟨F,ds,u,sb,rs,hf,q⟩:=hh;unfold dB at hf;split at hf
 ·rename_i hl;cases hf;refine⟨by rw[rs.length];exact jQ hl,fun p hp=>?_⟩;exact q _ _ _ (fV.root sb hp _) (sb.vG hp) (.tup aO (rs.le (fU (sb.fresh hp))))
 ·cases hf) z⟩
def cE (h:JA X es gA):JE X (.List es pos) (eP fW gA):=
 ⟨fun B=>(IF (h.h B)).imp fun σ H Q z=>mF (r:=fun xs H1 Q=>xs.length<=sizeLine/\∀p,H1 p=none->Q (.ref p) (upd H1 p (.lst xs))) (fun vs H1 Q1 hh=>by
 obtain⟨F,ds,u,sb,rs,hf,q⟩:=hh;unfold fW at hf;split at hf
 ·rename_i hl;cases hf;refine⟨by rw[rs.length];exact jQ hl,fun p hp=>?_⟩;exact q _ F _ (fV.obj hp _) (sb.same (fV.obj (F:=F) hp _).same) ⟨p,rfl,hp,sb.fresh hp,vs,aO,rs⟩
 ·cases hf) z⟩
noncomputable def qB (g:GD):GT:=fun S=>(g S).bind fun p=>match p.1 with
 |.bl k=>some (k,p.2)
 |_=>none
noncomputable def k8 (g:GT):GT:=fun S=>(g S).map fun p=>(!p.1,p.2)
noncomputable def Ae (g h:GT):GT:=fun S=>(g S).bind fun p=>if p.1 then h p.2 else some (false,p.2)
noncomputable def EI (g h:GT):GT:=fun S=>(g S).bind fun p=>if p.1 then some (true,p.2) else h p.2
noncomputable def eQ (g:GT):GD:=fun S=>(g S).map fun p=>(.bl p.1,p.2)
def jR (h:qB g S=some (k,S')):g S=some (.bl k,S'):=by
 obtain⟨⟨d,S1⟩,h1,h⟩:=aj h;cases d<;>cases h
 exact h1
def ji {F:Hp}{v:V}(r:Rep F v (.bl k)):v= .bl k:=by cases r;rfl
def gm {F:Hp}{v:V}{i:Int}(r:Rep F v (.int i)):v= .int i:=by cases r;rfl
def EJ {F:Hp}{v:V}{i:Str}(r:Rep F v (.str i)):v= .str i:=by cases r;rfl
def gY (h:JD X e g) (he:∀whole,isTrue e X.env whole=(do let v <-whole;standAt e.pos;holding [v] (truthy v)):=by intro _;rfl):JT X e (qB g):=
 ⟨fun B=>(Po (h.h B) he).imp fun σ H Q ⟨S,F,k,S',R,hg,q⟩=>⟨S,F,.bl k,S',R,jR hg,fun v F' H' R' st r=>⟨k,ji r,q F' H' R' st⟩⟩⟩
def UO {gE:GE}{Q:VK}(h:tD K B (eF gE) σ H Q):tE K B gE σ H Q:=by
 obtain⟨S,F,d,S',R,hg,q⟩:=h;obtain⟨⟨u,S1⟩,h1,hg⟩:=aj hg;refine⟨S,F,u,S1,R,h1,fun v F1 H1 R1 st1 r1=>?_⟩;obtain⟨F2,R2,st2,r2⟩:=Jj R1 st1 r1 hg;exact q v F2 H1 R2 st2 r2
def bV (ho:xP X (compareOp op) f) (ha:JD X a ga) (hb:JD X b gb) (hm:behindInMarks op b=false:=by first|exact C9 _|rfl):JT X (.Compare a [op] [b] pos) (qB (eF (eP f (ah ga (ah gb aF))))):=
 ⟨fun B=>(ve ho (ha.h B) (hb.h B) hm).imp fun σ H Q ⟨S,F,k,S',R,hg,q⟩=>rA (UO ⟨S,F,.bl k,S',R,jR hg,fun v F' H' R' st r=>⟨k,ji r,q F' H' R' st⟩⟩)⟩
def jk (h:JT X a q1):JT X (.UnaryOp .Not a pos) (k8 q1):=
 ⟨fun B=>(Pp (h.h B)).imp fun σ H Q hh=>by
 obtain⟨S,F,k,S',R,hg,q⟩:=hh;obtain⟨⟨d,S1⟩,h1,hg⟩:=au hg;cases hg;exact⟨S,F,d,_,R,h1,fun F' H' R' st=>q F' H' R' st⟩⟩
def ki (h:JT X a q1):JW X (.BoolOp .And [a] pos) q1:=⟨fun B=>pw_and1 (h.h B)⟩
def gZ (h:JT X a q1):JW X (.BoolOp .Or [a] pos) q1:=⟨fun B=>pw_or1 (h.h B)⟩
def vI (h:JT X a q1) (hr:JW X (.BoolOp .And (b::r) pos) q2):JW X (.BoolOp .And (a::b::r) pos) (Ae q1 q2):=
 ⟨fun B=>(pw_and (h.h B) (hr.h B)).imp fun σ H Q hh=>by
 obtain⟨S,F,k,S',R,hg,q⟩:=hh;obtain⟨⟨d,S1⟩,h1,hg⟩:=aj hg;refine⟨S,F,d,S1,R,h1,fun F1 H1 R1 st1=>?_⟩;cases d with
 |true=>exact z7 ⟨S1,F1,k,S',R1,hg,fun F2 H2 R2 st2=>q F2 H2 R2 (st1.trans st2)⟩
 |false=>cases hg;exact z5 (q F1 H1 R1 st1)⟩
def pU (h:JT X a q1) (hr:JW X (.BoolOp .Or (b::r) pos) q2):JW X (.BoolOp .Or (a::b::r) pos) (EI q1 q2):=
 ⟨fun B=>(pw_or (h.h B) (hr.h B)).imp fun σ H Q hh=>by
 obtain⟨S,F,k,S',R,hg,q⟩:=hh;obtain⟨⟨d,S1⟩,h1,hg⟩:=aj hg;refine⟨S,F,d,S1,R,h1,fun F1 H1 R1 st1=>?_⟩;cases d with
 |false=>exact z5 ⟨S1,F1,k,S',R1,hg,fun F2 H2 R2 st2=>q F2 H2 R2 (st1.trans st2)⟩
 |true=>cases hg;exact z7 (q F1 H1 R1 st1)⟩
def JW.t (h:JW X e q1):JT X e q1:=⟨fun B=>(h.h B).pt⟩
def Qn {op}(h:JD X a g):JD X (.BoolOp op [a] pos) (eQ (qB g)):=⟨fun B=>(Pq (h.h B)).imp fun σ H Q hh=>by
 obtain⟨S,F,k,S',R,hg,q⟩:=hh;obtain⟨⟨d,S1⟩,h1,hg⟩:=au hg;cases hg;exact⟨S,F,.bl d,_,R,jR h1,q⟩⟩
def Qo (h:JD X a g) (hr:JD X (.BoolOp .And (b::r) pos) (eQ q2)):JD X (.BoolOp .And (a::b::r) pos) (eQ (Ae (qB g) q2)):=
 ⟨fun B=>(Pr (h.h B) (hr.h B)).imp fun σ H Q hh=>by
 obtain⟨S,F,k,S',R,hg,q⟩:=hh;obtain⟨⟨d,S1⟩,h1,hg⟩:=au hg;cases hg;obtain⟨⟨d1,S2⟩,h1,h2⟩:=aj h1;refine⟨S,F,.bl d1,S2,R,jR h1,fun v F1 H1 R1 st1 r1=>⟨d1,ji r1,?_⟩⟩;cases d1 with
 |true=>
  have h2:q2 S2=some (d,S1):=h2;exact z7 ⟨S2,F1,.bl d,S1,R1,by show(q2 S2).map _=_;rw[h2];rfl,fun v F2 H2 R2 st2 r2=>q v F2 H2 R2 (st1.trans st2) r2⟩
 |false=>cases h2;exact z5 (q _ F1 H1 R1 st1 (.bl false))⟩
def Jl (h:JD X a g):JD X (.UnaryOp .Not a pos) (eQ (k8 (qB g))):=⟨fun B=>(Pu (h.h B)).imp fun σ H Q hh=>by
 obtain⟨S,F,k,S',R,hg,q⟩:=hh;obtain⟨⟨d,S1⟩,h1,hg⟩:=au hg;cases hg;obtain⟨⟨d1,S2⟩,h3,h2⟩:=au h1;cases h2;exact⟨S,F,.bl d1,_,R,jR h3,fun v F1 H1 R1 st1 r1=>⟨d1,ji r1,q _ F1 H1 R1 st1 (.bl _)⟩⟩⟩
noncomputable def WW (q:GT) (g h:GE):GE:=fun S=>(q S).bind fun p=>if p.1 then g p.2 else h p.2
theorem gW.weak {F:Hp}{v:V}(t:∀b o,H0 b=some o->∃o',H1 b=some o'):∀{u:U},gW K B S σ H1 F H v u->gW K B S σ H0 F H v u
 |.t _,h=>h
 |.s _,h=>h
 |.f _,h=>h
 |.x _ _,h=>h
 |.m _,⟨a,e,h0,h⟩=>⟨a,e,none_of t h0,h⟩
 |.v _,h=>h
 |.b _,h=>h
def OD {g1 g2:GE}(hc:JT X c q1) (ha:JE X a g1) (hb:JE X b g2):JE X (.IfExp c a b pos) (WW q1 g1 g2):=
 ⟨fun B=>(Im (hc.h B) (ha.h B) (hb.h B)).imp fun σ H Q hh=>by
 obtain⟨S,F,u,S',R,hg,q⟩:=hh;obtain⟨⟨d,S1⟩,h1,hg⟩:=aj hg;refine⟨S,F,d,S1,R,h1,fun F1 H1 R1 st1=>?_⟩;cases d with
 |true=>exact z7 ⟨S1,F1,u,S',R1,hg,fun v F2 H2 R2 st2 r2=>q v F2 H2 R2 (st1.trans st2) (r2.weak st1.ext.there)⟩
 |false=>exact z5 ⟨S1,F1,u,S',R1,hg,fun v F2 H2 R2 st2 r2=>q v F2 H2 R2 (st1.trans st2) (r2.weak st1.ext.there)⟩⟩
end
def bW {α:Type}{c:Prop}{i:Decidable c}{x w:α}(h:(@ite _ c i (some x) none)=some w):c/\x=w:=by
 by_cases hc:c
 ·rw[if_pos hc] at h;exact⟨hc,aaV h⟩
 ·rw[if_neg hc] at h;cases h
def cG {α:Type}{c:Prop}{i:Decidable c}{x:Option α}{w:α}(h:(@ite _ c i x none)=some w):c/\x=some w:=by
 by_cases hc:c
 ·rw[if_pos hc] at h;exact⟨hc,h⟩
 ·rw[if_neg hc] at h;cases h
def Jm {F:Hp}{x:V}(r:bq F [x] ds):∃d,ds=[d]/\Rep F x d:=by
 cases r with
 |cons r rs=>cases rs;exact⟨_,rfl,r⟩
def vJ {F:Hp}{x:V}(r:bq F [x,y] ds):∃d e,ds=[d,e]/\Rep F x d/\Rep F y e:=by
 cases r with
 |cons r rs=>obtain⟨e,rfl,r2⟩:=Jm rs;exact⟨_,e,rfl,r,r2⟩
noncomputable def xQ (C:Int->Int->Bool) (h:Int->Int->D):List D->Option U
 |[.int i,.int j]=>if C i j then some (.t (h i j)) else none
 |_=>none
section
variable {X:Cx}
def m9 {o:Value->Value->Sem Value}{C:Int->Int->Bool}{h:Int->Int->D}{r:R2}(hr:uA X o r) (k:∀i j H Q,C i j=true->Q (toV (h i j)) H->r (.int i) (.int j) H Q) (hf:∀i j,pS (h i j)=true):xP X o (xQ C h):=by
 intro pins s σ H x y v u Q I rx ry ⟨F,ds,w,sb,rs,hw,q⟩;obtain⟨d,e,rfl,r1,r2⟩:=vJ rs;cases r1<;>cases r2<;>try (simp[xQ] at hw;done)
 rename_i i j;obtain⟨hc,rfl⟩:=bW hw;exact hr pins s σ H _ _ v u Q I rx ry (k i j H Q hc (q _ F H (fV.refl ..) sb (BR (hf i j))))
abbrev vK:=xQ (fun _ _=>true) fun i j=>.int (i-j)
abbrev UP:=xQ (fun _ _=>true) fun i j=>.bl (decide (i<j))
abbrev WX:=xQ (fun _ _=>true) fun i j=>.bl (decide (j<i))
abbrev fGe:=xQ (fun _ _=>true) fun i j=>.bl (decide (j<=i))
abbrev Jo:=xQ (fun _ j=>decide (0<j) && decide (j<1073741824)) fun i j=>.int (i / j)
abbrev vL:=xQ (fun _ j=>decide (0<j)) fun i j=>.int (i % j)
abbrev UQ:=xQ (fun i j=>decide (0<=j) && (decide (j<=1000) && decide (i.natAbs<2 ^ 64))) fun i j=>.int (i ^ j.toNat)
def iO:xP X (binaryOp .Sub) vK:=m9 PR (fun i j H Q _ q=>⟨i,j,rfl,rfl,q⟩) fun _ _=>rfl
def Af:xP X (compareOp .Lt) UP:=m9 Uh (fun i j H Q _ q=>⟨i,j,rfl,rfl,q⟩) fun _ _=>rfl
def Dz:xP X (compareOp .Gt) WX:=m9 Ui (fun i j H Q _ q=>⟨i,j,rfl,rfl,q⟩) fun _ _=>rfl
def Qp:xP X (compareOp .GtE) fGe:=m9 Uj (fun i j H Q _ q=>⟨i,j,rfl,rfl,q⟩) fun _ _=>rfl
def vf:xP X (binaryOp .FloorDiv) Jo:=m9 L0 (fun i j H Q c q=>⟨i,j,rfl,rfl,by simpa[Ud] using c,q⟩) fun _ _=>rfl
def iP:xP X (binaryOp .Mod) vL:=m9 PV (fun i j H Q c q=>⟨i,j,rfl,rfl,by simpa using c,q⟩) fun _ _=>rfl
def Mt:xP X (binaryOp .Pow) UQ:=m9 PX (fun i j H Q c q=>⟨i,j,rfl,rfl,by
 simp only[aaH,aaY] at c;exact⟨c.1,Int.le_trans c.2.1 (by decide),c.2.2⟩,q⟩) fun _ _=>rfl
def Sub.jN {F:Hp}{v:V}(s:Sub F H) (r:Rep F v (.tup ds)):∃a vs,v= .ref a/\F a=some (.tup vs)/\Rd H a (.tup vs)/\bq F vs ds:=by
 cases r with
 |tup e rs=>exact⟨_,_,rfl,e,Rd.of (s _ _ e),rs⟩
def Sub.gF {F:Hp}{v:V}(s:Sub F H) (r:Rep F v (.lst ds)):∃a vs,v= .ref a/\Rd F a (.lst vs)/\Rd H a (.lst vs)/\bq F vs ds:=by
 cases r with
 |lst e rs=>exact⟨_,_,rfl,e,e.imp (s _ _) fun⟨o,h⟩=>⟨o,s _ _ h⟩,rs⟩
def _root_.L2.Rd.IX {pins:AAG}{s:Shared}(I:Inv X pins σ H s){l:Addr}(h:Rd H l (.lst xs)):
  xs.length<=sizeLine/\∃its n,Vals xs its/\xs.length=its.length/\s.heap.get? l=some {cls:=.type "list",data:=.seq its.toArray n}:=by
 obtain⟨z,its,n,r,e⟩:=(h.ok I.hok:dZ X.prog X.w H s.heap l (.lst xs))
 exact⟨z,its,n,r,r.length,e⟩
noncomputable def fG:List D->Option U
 |[.int i,.int j]=>some (.t (.int (i+j)))
 |[.str i,.str j]=>if i.length+j.length<=100000 then some (.t (.str (i++j))) else none
 |[.tup i,.tup j]=>if i.length+j.length<=100000 then some (.t (.tup (i++j))) else none
 |[.lst i,.lst j]=>if i.length+j.length<=100000 then some (.m (.lst (i++j))) else none
 |_=>none
def cA:xP X (binaryOp .Add) fG:=by
 intro pins s σ H x y v u Q I rx ry ⟨F,ds,w,sb,rs,hw,q⟩;obtain⟨d,e,rfl,r1,r2⟩:=vJ rs;cases d<;>cases e<;>try (cases hw;done)
 ·rename_i i j;cases hw;cases r1;cases r2;exact PN pins s σ H _ _ v u Q I rx ry ⟨i,j,rfl,rfl,q _ F H (fV.refl ..) sb (.int _)⟩
 ·rename_i i j;obtain⟨hl,rfl⟩:=bW hw;cases r1;cases r2;exact Dc pins s σ H _ _ v u Q I rx ry ⟨i,j,rfl,rfl,jQ hl,q _ F H (fV.refl ..) sb (.str _)⟩
 ·rename_i i j;obtain⟨hl,rfl⟩:=bW hw;have rb2:=r2;have rb1:=r1;obtain⟨a,xs,rfl,fa,ha,nh⟩:=sb.jN r1;obtain⟨b,ys,rfl,fb,hb,LB⟩:=sb.jN r2;by_cases hx:xs=[]
  ·subst hx;cases nh;cases rx;cases ry;obtain⟨its,r1',p1,_⟩:=I.tuple (.inl ha);obtain⟨its2,r2',p2,_⟩:=I.tuple (.inl hb);cases r1';obtain⟨⟨cls,dd,data,sl⟩,ho,hc,n,hd⟩:=id p1;obtain⟨⟨YF,dd2,data2,sl2⟩,ho2,hc2,n2,hd2⟩:=id p2;simp only at hc hd hc2 hd2;subst hc hd hc2 hd2;exact concat_meets ⟨_,ho,rfl⟩ ⟨_,ho2,rfl⟩ aeB seq_tuple_add adG adu (ado _ _)
    (tuple_addW0 a b _ _ n n2 dd dd2 sl sl2 (by simp)) ⟨ho,ho2,⟨.ref b,H,I,rfl,q _ F H (fV.refl ..) sb rb2⟩⟩
  ·refine Mf pins s σ H (.ref a) (.ref b) v u Q I rx ry ⟨a,b,xs,ys,rfl,rfl,.inl ha,.inl hb,hx,?_,fun hy=>?_,fun hy p hp=>?_⟩
   ·rw[nh.length,LB.length];exact jQ hl
   ·subst hy;cases LB;exact q _ F H (fV.refl ..) sb (by show Rep F (.ref a) (.tup (i++[]));rw[ab5];exact rb1)
   ·exact q _ _ _ (fV.root sb hp _) (sb.vG hp) (.tup aO ((nh.append LB).le (fU (sb.fresh hp))))
 ·rename_i i j;obtain⟨hl,rfl⟩:=bW hw;obtain⟨a,xs,rfl,fa,ha,nh⟩:=sb.gF r1;obtain⟨b,ys,rfl,fb,hb,LB⟩:=sb.gF r2;cases rx;cases ry;obtain⟨z,its,n,r,hl1,e⟩:=Rd.IX I ha;obtain⟨z2,its2,n2,r2,hl2,e2⟩:=Rd.IX I hb;have hlen:xs.length+ys.length<=sizeLine:=by rw[nh.length,LB.length];exact jQ hl
  refine PySem.P.add_list e e2 ?_ (by rw[aad,aad];lia);have ea:its.toArray++its2.toArray=(its++its2).toArray:=by simp
  rw[ea];have hp:H s.heap.objs.size=none:=I.fresh;refine⟨.ref _,_,I.YK (t':=s.toks) (r.append r2) (by rw[aaw];lia),rfl,?_⟩;exact q _ F _ (fV.obj hp _) (sb.same (fV.obj (F:=F) hp _).same) ⟨_,rfl,hp,sb.fresh hp,_,aO,nh.append LB⟩
def vN:List D->Option U:=xQ (fun i j=>(decide (-(2 ^ 64)<i) && decide (i<2 ^ 64)) || (decide (-(2 ^ 64)<j) && decide (j<2 ^ 64))) fun i j=>.int (i*j)
def jS:xP X (binaryOp .Mult) vN:=m9 PU (fun i j H Q c q=>⟨i,j,rfl,rfl,by
 simp only[Bool.or_eq_true,aaH,aaY] at c;exact c,q⟩) fun _ _=>rfl
noncomputable def GL:List D->Option U
 |[.int i]=>some (.t (.int (-i)))
 |_=>none
def Ag:Ua X (unaryOp .USub) (fun x H Q=>rP GL [x] H Q):=by
 intro pins s σ H x v Q I rx ⟨F,ds,w,sb,rs,hw,q⟩;obtain⟨d,rfl,r1⟩:=Jm rs;cases r1<;>try (cases hw;done)
 rename_i i;cases hw;exact P1 pins s σ H _ v Q I rx ⟨i,rfl,q _ F H (fV.refl ..) sb (.int _)⟩
def DA:List D->Option U
 |[.tup ds,.int i]=>(dX ds i).map .t
 |[.lst ds,.int i]=>(dX ds i).map .t
 |[.str z,.int i]=>if z.length<=100000 then(dX z.cps.toList i).map fun c=>.t (.str ⟨#[c]⟩) else none
 |_=>none
def xW:IU X (fun x y H Q=>rP DA [x,y] H Q):=by
 intro value slice pins s σ H x y v u Q I rx ry ⟨F,ds,w,sb,rs,hw,q⟩ hsb;obtain⟨d,e,rfl,r1,r2⟩:=vJ rs;cases d<;>cases e<;>try (cases hw;done)
 ·rename_i z i;obtain⟨hl,hw⟩:=cG hw;obtain⟨c,hc,hw⟩:=au hw;subst hw;cases r1;cases r2;exact IW value slice pins s σ H _ _ v u Q I rx ry ⟨z,i,c,rfl,rfl,jQ hl,hc,q _ F H (fV.refl ..) sb (.str _)⟩ hsb
 ·rename_i ds i;obtain⟨c,hc,hw⟩:=au (show(dX ds i).map U.t=some w from hw);subst hw;obtain⟨a,xs,rfl,fa,ha,nh⟩:=sb.jN r1;cases r2;obtain⟨w',h1,h2⟩:=nh.dX hc;exact IV value slice pins s σ H _ _ v u Q I rx ry ⟨a,xs,i,w',rfl,rfl,.inl ha,h1,q _ F H (fV.refl ..) sb h2⟩ hsb
 ·rename_i ds i;obtain⟨c,hc,hw⟩:=au (show(dX ds i).map U.t=some w from hw);subst hw;obtain⟨a,xs,rfl,fa,ha,nh⟩:=sb.gF r1;cases r2;obtain⟨w',h1,h2⟩:=nh.dX hc;exact EA value slice pins s σ H _ _ v u Q I rx ry ⟨a,xs,i,w',rfl,rfl,.inl ha,h1,q _ F H (fV.refl ..) sb h2⟩ hsb
noncomputable def GO:List D->Option U
 |[.tup ds]=>some (.t (.int ds.length))
 |[.lst ds]=>some (.t (.int ds.length))
 |[.str z]=>if z.length<=100000 then some (.t (.int z.length)) else none
 |_=>none
def GP:gD X (.builtin "len") (rP GO):=by
 intro pins s σ H xs us Q I r ⟨F,ds,w,sb,rs,hw,q⟩
 match xs,ds,rs with
 |[],[],_=>exact absurd hw (by simp[GO])
 |[x],_,rs=>
  obtain⟨d,rfl,r1⟩:=Jm rs;cases d<;>try (cases hw;done)
  ·rename_i z;obtain⟨hl,rfl⟩:=bW hw;cases r1;exact rq pins s σ H _ us Q I r ⟨z,rfl,jQ hl,q _ F H (fV.refl ..) sb (.int _)⟩
  ·cases hw;obtain⟨a,xs,rfl,fa,ha,nh⟩:=sb.jN r1;exact jP pins s σ H _ us Q I r ⟨a,xs,rfl,.inr (.inl ha),by rw[nh.length];exact q _ F H (fV.refl ..) sb (.int _)⟩
  ·cases hw;obtain⟨a,xs,rfl,fa,ha,nh⟩:=sb.gF r1;exact jP pins s σ H _ us Q I r ⟨a,xs,rfl,.inl (.inl ha),by rw[nh.length];exact q _ F H (fV.refl ..) sb (.int _)⟩
 |_::_::_,[],rs=>cases rs
 |_::_::_,[_],rs=>cases rs with|cons _ rs=>cases rs
 |_::_::_,_::_::_,_=>exact absurd hw (by simp[GO])
end
noncomputable def nP (i:Nat) (u:U) (S:SS):Option SS:=match S[i]? with
 |some (some (.b _))=>none
 |some _=>some (S.set i (some u))
 |none=>none
def sU (h:nP i u S=some S'):S'=S.set i (some u)/\i<S.length/\∀o,S[i]?≠some (some (.b o)):=by
 unfold nP at h;cases e:S[i]? with
 |none=>rw[e] at h;cases h
 |some w=>
  have hl:i<S.length:=(aau.mp e).1;rw[e] at h;cases w with
  |none=>cases h;exact⟨rfl,hl,fun o z=>by cases z⟩
  |some w=>
   cases w with
   |b o=>cases h
   |t d=>cases h;exact⟨rfl,hl,fun o z=>by cases z⟩
   |m d=>cases h;exact⟨rfl,hl,fun o z=>by cases z⟩
   |v d=>cases h;exact⟨rfl,hl,fun o z=>by cases z⟩
   |s d=>cases h;exact⟨rfl,hl,fun o z=>by cases z⟩
   |f d=>cases h;exact⟨rfl,hl,fun o z=>by cases z⟩
   |x cx kx=>cases h;exact⟨rfl,hl,fun o z=>by cases z⟩
def OE (B:Base) (S:SS) (σ:St) (F H:Hp) (v:V):U->Prop
 |.t d=>Rep F v d
 |.m o=>∃a,v= .ref a/\F a=none/\At F H a o/\¬cF S σ a/\B.H a=none
 |.x C k=>Ab F v C k
 |_=>False
def Rel.put {F:Hp}{v:V}(R:Rel K B S σ F H) (h:nP i u S=some S') (p:OE B S σ F H v u):Rel K B S' (σ.set i (some v)) F H:=by
 obtain⟨rfl,hl,nb⟩:=sU h;have hl':i<σ.length:=by rw[<-R.len];exact hl
 have out:∀{j:Nat},i≠j->(σ.set i (some v))[j]? =σ[j]?:=fun ne=>aaJ ne;have GQ:(σ.set i (some v))[i]? =some (some v):=abl hl';have OF:∀j w a,i≠j->S[j]? =some (some w)->fh w=true->fh u=true->σ[j]? =some (some (.ref a))->v≠.ref a:=fun j w a ne hj hm hu hv z=>by
  cases u with
  |t d=>cases hu
  |v k=>cases hu
  |s k=>cases hu
  |f k=>cases hu
  |x cx kx=>cases hu
  |b o=>exact p
  |m o=>
   obtain⟨c,e,_,_,nm,_⟩:=p;rw[z] at e;cases e;exact nm ⟨j,w,hj,hm,hv⟩
 refine⟨R.sub,by rw[ab6,ab6];exact R.len,fun j w hj=>?_,fun j k w1 w2 a h1 m1 h2 m2 v1 v2=>?_,fun j o a hj hv=>?_,fun j o a hj hv=>?_,fun j a hj=>?_,R.ext⟩
 ·rcases get_set hj with⟨rfl,q,_⟩|⟨ne,q⟩
  ·cases q;refine⟨v,GQ,?_⟩;cases u with
   |t d=>exact p
   |m o=>obtain⟨a,e,f,h,_⟩:=p;exact⟨a,e,f,h⟩
   |b o=>cases p
   |v k=>cases p
   |s k=>cases p
   |f k=>cases p
   |x cx kx=>exact p
  ·rw[out ne];exact R.rep j w q
 ·rcases get_set h1 with⟨rfl,q1,_⟩|⟨ne1,q1⟩
  ·rcases get_set h2 with⟨rfl,q2,_⟩|⟨ne2,q2⟩
   ·rfl
   ·cases q1;rw[GQ] at v1;rw[out ne2] at v2;cases v1;exact absurd rfl (OF k w2 a ne2 q2 m2 m1 v2)
  ·rcases get_set h2 with⟨rfl,q2,_⟩|⟨ne2,q2⟩
   ·cases q2;rw[GQ] at v2;rw[out ne1] at v1;cases v2;exact absurd rfl (OF j w1 a ne1 q1 m1 m2 v1)
   ·rw[out ne1] at v1;rw[out ne2] at v2;exact R.EH j k w1 w2 a q1 m1 q2 m2 v1 v2
 ·rcases get_set hj with⟨rfl,q,_⟩|⟨ne,q⟩
  ·cases q;rw[GQ] at hv;cases hv;obtain⟨c,e,_,_,_,hB⟩:=p;cases e;exact hB
  ·rw[out ne] at hv;exact R.own j o a q hv
 ·rcases get_set hj with⟨rfl,q,_⟩|⟨ne,q⟩
  ·cases q;cases p
  ·rw[out ne] at hv;exact R.bor j o a q hv
 ·obtain⟨h1,o,h2⟩:=R.par j a hj;have ne:i≠j:=fun z=>by subst z;exact nb o h2
  exact⟨by rw[out ne];exact h1,o,by rw[aaJ ne];exact h2⟩
noncomputable def gB:GS:=fun S=>some (.nx S)
noncomputable def aU (a b:GS):GS:=fun S=>(a S).bind fun o=>match o with
 |.nx S1=>b S1
 |o=>some o
def cD (i:Nat) (g:GE):GS:=fun S=>(g S).bind fun p=>match p.1 with
 |.m o=>(nP i (.m o) p.2).map .nx
 |u=>(fz u p.2).bind fun q=>(nP i (.t q.1) q.2).map .nx
noncomputable def nq (g:GE):GS:=fun S=>(g S).map fun p=>.nx p.2
noncomputable def dI (g:GE):GS:=fun S=>(g S).bind fun p=>match p.1 with
 |.v i=>match p.2[i]? with
  |some (some (.t d))=>some (.rt (.t d) p.2)
  |some (some (.m o))=>some (.rt (.m o) (p.2.set i none))
  |_=>none
 |.s _=>none
 |.f _=>none
 |.x _ _=>none
 |u=>some (.rt u p.2)
noncomputable def qw (q:GT) (a b:GS):GS:=fun S=>(q S).bind fun p=>if p.1 then a p.2 else b p.2
theorem yF.mono {F:Hp}{D:Ends}(g:∀b o,F b=some o->F1 b=some o):∀{o:Out},yF K B F D o->yF K B F1 D o
 |.nx _,h=>fun σ' F' H' R le=>h σ' F' H' R fun b o z=>le b o (g b o z)
 |.bk _,h=>fun σ' F' H' R le=>h σ' F' H' R fun b o z=>le b o (g b o z)
 |.ct _,h=>fun σ' F' H' R le=>h σ' F' H' R fun b o z=>le b o (g b o z)
 |.rt _ _,h=>fun v σ' F' H' R le=>h v σ' F' H' R fun b o z=>le b o (g b o z)
section
variable {X:Cx}{a b c e:Expr}{pos p:Pos}{x:Str}{st:Stmt}{rest b1 b2 body:BBH}{g:GE}{s1 s2:GS}{q1:GT}
def cB:JB X [] gB:=⟨fun B=>LU.imp fun D σ H ⟨S,F,o,R,h,k⟩=>by cases h;exact k σ F H R fun _ _ z=>z⟩
def aI (h1:JS X st s1) (h2:JB X rest s2):JB X (st::rest) (aU s1 s2):=⟨fun B=>(qX (h1.h B) (h2.h B)).imp fun D σ H hh=>by
 obtain⟨S,F,o,R,h,k⟩:=hh;obtain⟨o1,e1,h⟩:=aj h;refine⟨S,F,o1,R,e1,?_⟩;cases o1 with
 |nx S1=>exact fun σ' F' H' R' le=>⟨S1,F',o,R',h,k.mono le⟩
 |rt u S1=>cases h;exact k
 |bk S1=>cases h;exact k
 |ct S1=>cases h;exact k⟩
def aX (h1:JS X st s1):JB X [st] s1:=⟨fun B=>Eo (h1.h B)⟩
def gW.put {F:Hp}{v:V}{o:MO}(r:gW K B S σ H0 F H v (.m o)):OE B S σ F H v (.m o):=by
 obtain⟨a,e,_,f,h,n,hB⟩:=r;exact⟨a,e,f,h,n,hB⟩
def EK {D:Ends}(h:tO K B (cD i g) D σ H):LX (tE K B g) (BD i) D σ H:=by
 obtain⟨S,F,o,R,h,k⟩:=h;obtain⟨⟨u,S1⟩,h1,h⟩:=aj h;refine⟨S,F,u,S1,R,h1,fun v F1 H1 R1 st1 r1=>?_⟩;have go:(∀o',u≠.m o')->(fz u S1).bind (fun q=>(nP i (.t q.1) q.2).map Out.nx)=some o->D.nx (σ.set i (some v)) H1:=fun _ h=>by
  obtain⟨⟨d,S2⟩,h2,h⟩:=aj h;obtain⟨S3,h3,h⟩:=au h;subst h;obtain⟨F2,R2,st2,r2⟩:=Jj R1 st1 r1 h2;exact k _ F2 H1 (R2.put h3 r2) st2.ext.le
 cases u with
 |m o'=>
  obtain⟨S3,h3,h⟩:=au (show(nP i (.m o') S1).map Out.nx=some o from h);subst h;exact k _ F1 H1 (R1.put h3 r1.put) st1.ext.le
 |t d=>exact go (fun _ z=>by cases z) h
 |b d=>exact go (fun _ z=>by cases z) h
 |s d=>exact go (fun _ z=>by cases z) h
 |f d=>exact go (fun _ z=>by cases z) h
 |x cx kx=>exact go (fun _ z=>by cases z) h
 |v d=>exact go (fun _ z=>by cases z) h
def Qq {pos':Pos}(hN:X.N.Nodup) (hi:X.N[i]? =some x) (hx:Loc X.env.scope x) (he:JE X e g) (hs:swapsWith e (some (.Name x pos')) pos.line X.env=pure false:=by rfl)
  (hf:X.fn x=true\/X.env.scope.names.lookup x=some .local:=by first|exact .inl rfl|exact .inr rfl|assumption):JS X (.Assign [.Name x pos'] e pos) (cD i g):=
 ⟨fun B=>(Ir hN hi hx (he.h B) hs hf).imp fun D σ H h=>EK h⟩
def iQ (he:JE X e g) (hs:swapsWith e none pos.line X.env=pure false:=by rfl):JS X (.Expr e pos) (nq g):=⟨fun B=>(LV (he.h B) hs).imp fun D σ H hh=>by
 obtain⟨S,F,o,R,h,k⟩:=hh;obtain⟨⟨u,S1⟩,h1,h⟩:=au h;subst h;exact⟨S,F,u,S1,R,h1,fun v F1 H1 R1 st1 r1=>k σ F1 H1 R1 st1.ext.le⟩⟩
def Rel.drop {F:Hp}{o:MO}(R:Rel K B S σ F H) (h:S[i]? =some (some (.m o))):Rel K B (S.set i none) σ F H:=by
 have back:∀{j w},(S.set i none)[j]? =some (some w)->i≠j/\S[j]? =some (some w):=fun {j w} z=>by
  rcases get_set z with⟨_,q,_⟩|q
  ·cases q
  ·exact q
 refine⟨R.sub,by rw[ab6];exact R.len,fun j w z=>R.rep j w (back z).2,fun j k w1 w2 a h1 m1 h2 m2=>R.EH j k w1 w2 a (back h1).2 m1 (back h2).2 m2,fun j o a z=>R.own j o a (back z).2,fun j o a z=>R.bor j o a (back z).2,fun j a z=>?_,R.ext⟩;obtain⟨k1,o',k2⟩:=R.par j a z;have ne:i≠j:=fun z=>by subst z;rw[h] at k2;cases k2
 exact⟨k1,o',by rw[aaJ ne];exact k2⟩
def bF (he:JE X e g):JS X (.Return (some e) pos) (dI g):=⟨fun B=>(Pw (he.h B)).imp fun D σ H hh=>by
 obtain⟨S,F,o,R,h,k⟩:=hh;obtain⟨⟨u,S1⟩,h1,h⟩:=aj h;refine⟨S,F,u,S1,R,h1,fun v F1 H1 R1 st1 r1=>?_⟩;cases u with
 |t d=>cases h;exact k v σ F1 H1 R1 st1.ext.le r1
 |b d=>cases h;cases r1
 |s d=>cases h
 |f d=>cases h
 |x cx kx=>cases h
 |m o'=>cases h;exact k v σ F1 H1 R1 st1.ext.le (by obtain⟨a,e,h0,f,h,n,hB⟩:=r1;exact⟨a,e,hB,f,h,n,hB⟩)
 |v i=>
  obtain⟨hv,w,hw⟩:=r1;dsimp only at h;rw[hw] at h;obtain⟨v',z1,z2⟩:=R1.rep i w hw;rw[hv] at z1;cases z1;cases w with
  |t d=>cases h;exact k v σ F1 H1 R1 st1.ext.le z2
  |b d=>cases h
  |v d=>cases h
  |s d=>cases h
  |f d=>cases h
  |x cx kx=>cases h
  |m o'=>
   cases h;obtain⟨a,rfl,f,ha⟩:=z2;have hB:=R1.own i o' a hw hv;refine k _ σ F1 H1 (R1.drop hw) st1.ext.le ⟨a,rfl,hB,f,ha,fun hh=>?_,hB⟩;obtain⟨j,w,z,hm,hj⟩:=hh;rcases get_set z with⟨_,q,_⟩|⟨ne,q⟩
   ·cases q
   ·exact ne (R1.EH i j _ w a hw rfl q hm hv hj)⟩
def dD (hc:JT X c q1) (ha:JB X b1 s1) (hb:JB X b2 s2):JS X (.If c b1 b2 pos) (qw q1 s1 s2):=⟨fun B=>(TY (hc.h B) (ha.h B) (hb.h B)).imp fun D σ H hh=>by
 obtain⟨S,F,o,R,h,k⟩:=hh;obtain⟨⟨d,S1⟩,h1,h⟩:=aj h;refine⟨S,F,d,S1,R,h1,fun F1 H1 R1 st1=>?_⟩;cases d with
 |true=>exact z7 ⟨S1,F1,o,R1,h,k.mono st1.ext.le⟩
 |false=>exact z5 ⟨S1,F1,o,R1,h,k.mono st1.ext.le⟩⟩
abbrev GB:=D->SS->Option SS
inductive tBd (K:AAD) (B:Base) (bd:GB) (v:V) (σ:St) (H:Hp) (Q:St->Hp->Prop):Prop
 |mk (S:SS) (F:Hp) (d:D) (S':SS) (R:Rel K B S σ F H) (r:Rep F v d) (hg:bd d S=some S') (q:∀σ',Rel K B S' σ' F H->Q σ' H)
structure JG (X:Cx) (tg:Expr) (bd:GB):Prop where
 h:∀B,PG X tg (tBd X.K B bd)
abbrev GBs:=List D->SS->Option SS
def PG.imp {t t':TG}(h:PG X tg t) (k:∀v σ H Q,t' v σ H Q->t v σ H Q):PG X tg t':=fun pins s σ H v u Q I r q=>h pins s σ H v u Q I r (k v σ H Q q)
def bName (i:Nat):GB:=fun d S=>nP i (.t d) S
def Mu (hN:X.N.Nodup) (hi:X.N[i]? =some x) (hx:Loc X.env.scope x) (hf:X.fn x=true\/X.env.scope.names.lookup x=some .local:=by first|exact .inl rfl|exact .inr rfl|assumption):JG X (.Name x pos) (bName i):=
 ⟨fun B=>(vd hN hi hx hf).imp fun v σ H Q ⟨S,F,d,S',R,r,h,k⟩=>k _ (R.put h r)⟩
noncomputable def Y0:GBs:=fun ds S=>match ds with
 |[]=>some S
 |_=>none
def Walk (J:It) (F:Hp) (ds:List D):Prop:=∀F' H',(∀b o,F b=some o->F' b=some o)->Sub F' H'->∀i,(∀d,ds[i]? =some d->J.go i H'/\∀x H2,J.PD i H' x H2->H2=H'/\Rep F' x d)/\(ds.length<=i->J.stop i H')
abbrev GI:=SS->Option (List D×SS)
inductive Y3 (K:AAD) (B:Base) (gi:GI) (σ:St) (H:Hp) (Q:It->Hp->Prop):Prop
 |mk (S:SS) (F:Hp) (ds:List D) (S':SS) (R:Rel K B S σ F H) (hg:gi S=some (ds,S')) (q:∀J F' H',Rel K B S' σ F' H'->Step S S' σ F H F' H'->Walk J F' ds->Q J H')
structure JI (X:Cx) (tg e:Expr) (gi:GI):Prop where
 h:∀B,PI X tg e (Y3 X.K B gi)
def PI.orelse {wi:TI}(h:∀σ H R,wi σ H R->∃wi',PI X tg e wi'/\wi' σ H R):PI X tg e wi:=fun pins s σ H R I q=>let⟨_,h1,h2⟩:=h σ H R q;h1 pins s σ H R I h2
noncomputable def Qs (g:GD):GI:=fun S=>(g S).bind fun p=>match p.1 with
 |.tup ds=>some (ds,p.2)
 |.lst ds=>some (ds,p.2)
 |_=>none
noncomputable def iY (g:GD):GI:=fun S=>(g S).bind fun p=>match p.1 with
 |.tup ds=>some (ds,p.2)
 |.lst ds=>some (ds,p.2)
 |.str z=>some (z.cps.toList.map fun c=>.str ⟨#[c]⟩,p.2)
 |_=>none
def yG {F:Hp}{a:Addr}(fa:Rd F a (.lst vs)) (rs:bq F vs ds):Walk (Yw K a) F ds:=fun F' H' le sb i=>by
 have ha:lE K H' a vs:=.inl (fa.imp (fun z=>sb a _ (le _ _ z)) fun⟨o,z⟩=>⟨o,sb a _ (le _ _ z)⟩);refine⟨fun d hd=>?_,fun hl=>⟨vs,ha,by rw[rs.length];exact hl⟩⟩;obtain⟨v,h1,h2⟩:=rs.get hd;refine⟨⟨vs,v,ha,h1⟩,fun x H2 y=>⟨y.1,?_⟩⟩;have:=y.2 vs ha;rw[h1] at this;cases this;exact h2.le le
def BS {F:Hp}{a:Addr}(fa:F a=some (.tup vs)) (rs:bq F vs ds):Walk (Yx K a) F ds:=fun F' H' le sb i=>by
 have ha:yt K H' a vs:=.inl (Rd.of (sb a _ (le _ _ fa)));refine⟨fun d hd=>?_,fun hl=>⟨vs,ha,by rw[rs.length];exact hl⟩⟩;obtain⟨v,h1,h2⟩:=rs.get hd;refine⟨⟨vs,v,ha,h1⟩,fun x H2 y=>⟨y.1,?_⟩⟩;have:=y.2 vs ha;rw[h1] at this;cases this;exact h2.le le
def Jp {F:Hp}{z:Str}:Walk (YX z) F (z.cps.toList.map fun c=>.str ⟨#[c]⟩):=fun F' H' le sb i=>by
 refine⟨fun d hd=>?_,fun hl=>(show z.cps.size<=i by simpa using hl)⟩;rw[aaI] at hd;obtain⟨c,hc,rfl⟩:=au hd;have hc':z.cps[i]? =some c:=by rw[<-abM];exact hc
 refine⟨(Array.getElem?_eq_some_iff.mp hc').1,fun x H2 y=>⟨y.1,?_⟩⟩;obtain⟨c2,k1,rfl⟩:=y.2;rw[hc'] at k1;cases k1;exact .str _
def Qt {gd:GD}(h:JD X e gd):JI X tg e (Qs gd):=⟨fun B=>PI.orelse fun σ H R0 hh=>by
 obtain⟨S,F,ds,S',R,hg,k⟩:=hh;obtain⟨⟨d,S1⟩,h1,hg⟩:=aj hg;cases d<;>try (cases hg)
 ·refine⟨_,IA (h.h B),S,F,_,_,R,h1,fun v F1 H1 R1 st1 r1=>?_⟩;obtain⟨a,vs,rfl,fa,ha,rs⟩:=R1.sub.jN r1;exact⟨a,rfl,⟨vs,.inl ha⟩,k _ F1 H1 R1 st1 (BS fa rs)⟩
 ·refine⟨_,zM (h.h B),S,F,_,_,R,h1,fun v F1 H1 R1 st1 r1=>?_⟩;obtain⟨a,vs,rfl,fa,ha,rs⟩:=R1.sub.gF r1;exact⟨a,rfl,⟨vs,.inl ha⟩,k _ F1 H1 R1 st1 (yG fa rs)⟩⟩
def dJ {gd:GD}(h:JD X e gd):JI X (.Name x pos) e (iY gd):=⟨fun B=>PI.orelse fun σ H R0 hh=>by
 obtain⟨S,F,ds,S',R,hg,k⟩:=hh;obtain⟨⟨d,S1⟩,h1,hg⟩:=aj hg;cases d<;>try (cases hg)
 ·refine⟨_,Qj (h.h B),S,F,_,_,R,h1,fun v F1 H1 R1 st1 r1=>?_⟩;exact⟨_,EJ r1,k _ F1 H1 R1 st1 Jp⟩
 ·refine⟨_,IA (h.h B),S,F,_,_,R,h1,fun v F1 H1 R1 st1 r1=>?_⟩;obtain⟨a,vs,rfl,fa,ha,rs⟩:=R1.sub.jN r1;exact⟨a,rfl,⟨vs,.inl ha⟩,k _ F1 H1 R1 st1 (BS fa rs)⟩
 ·refine⟨_,zM (h.h B),S,F,_,_,R,h1,fun v F1 H1 R1 st1 r1=>?_⟩;obtain⟨a,vs,rfl,fa,ha,rs⟩:=R1.sub.gF r1;exact⟨a,rfl,⟨vs,.inl ha⟩,k _ F1 H1 R1 st1 (yG fa rs)⟩⟩
noncomputable def qV (lo:Int) (n:Nat):List D:=(List.range n).map fun(k:Nat)=>D.int (lo+(k:Int))
def rB (gA:GA):GI:=fun S=>(gA S).bind fun p=>match p.1 with
 |[.int j]=>if j<1000000/\-1000000<j then some (qV 0 j.toNat,p.2) else none
 |_=>none
def Jq {F:Hp}{lo:Int}:Walk (WS lo n) F (qV lo n):=fun F' H' le sb i=>by
 refine⟨fun d hd=>?_,fun hl=>(show n<=i by simpa[qV] using hl)⟩;unfold qV at hd;rw[aaI] at hd;obtain⟨c,hc,rfl⟩:=au hd;obtain⟨hl,e⟩:=aau.mp hc;rw[List.getElem_range] at e;subst e;refine⟨show i<n by simpa using hl,fun x H2 y=>⟨y.1,?_⟩⟩;rw[y.2];exact .int _
def pB {gA:GA}(hg:Gl X "range") (hm:X.mg "range" =none) (ha:JA X [a] gA) (hs:starEach [a] X.env=[(false,eval a X.env)]:=by rfl):JI X tg (.Call (.Name "range" p) [a] [] pos) (rB gA):=
 ⟨fun B=>PI.orelse fun σ H R0 hh=>by
 obtain⟨S,F,ds,S',R,hg',k⟩:=hh;obtain⟨⟨d,S1⟩,h1,hg'⟩:=aj hg';refine⟨_,Gm hg hm (ha.h B) hs,S,F,d,S1,R,h1,fun vs F1 H1 R1 st1 r1=>?_⟩;dsimp only at hg';split at hg'
 ·split at hg'
  ·rename_i j hj;cases hg';cases r1 with
   |cons r rs=>
    cases rs;exact⟨j,by rw[gm r],by lia,by lia,k _ F1 H1 R1 st1 Jq⟩
  ·cases hg'
 ·cases hg'⟩
noncomputable def loop (bd:GB) (body:GS):List D->SS->Option Out
 |[],S=>some (.nx S)
 |d::ds,S=>(bd d S).bind fun S1=>(body S1).bind fun o=>match o with
  |.nx S2=>loop bd body ds S2
  |.ct S2=>loop bd body ds S2
  |.bk S2=>some (.nx S2)
  |.rt u S2=>some (.rt u S2)
def mG (bd:GB) (gi:GI) (body:GS):GS:=fun S=>(gi S).bind fun p=>loop bd body p.1 p.2
def jl {bd:GB}(hp:PassesOwn (model X.prog X.w) X.A X.env X.xe) (hc:X.calm=true) (hi:JI X tg iter gi) (hg:JG X tg bd) (hb:JB X body s1) (hs:∀x,foldedSetIterable iter X.env x=pure x:=by intro _;rfl):
  JS X (.For tg iter body [] pos) (mG bd gi s1):=⟨fun B=>(PF hp hc (hi.h B) (hg.h B) (hb.h B) hs).imp fun D σ H hh=>by
 obtain⟨S,F,o,R,h,k⟩:=hh;obtain⟨⟨ds,S1⟩,h1,h⟩:=aj h;refine⟨S,F,ds,S1,R,h1,fun J F1 H1 R1 st1 w=>?_⟩;refine⟨fun i m σ' H'=>∃S' F',Rel X.K B S' σ' F' H'/\(∀b o,F1 b=some o->F' b=some o)/\i<=ds.length/\m=ds.length-i/\loop bd s1 (ds.drop i) S'=some o,⟨_,S1,F1,R1,fun _ _ z=>z,aaM _,rfl,h⟩,?_⟩;rintro i m σ' H' ⟨S',F',R',le,hl,rfl,dO⟩;have w':=w F' H' le R'.sub i;by_cases hlt:i<ds.length
 ·have hd:ds[i]? =some ds[i]:=aal hlt;obtain⟨go,yl⟩:=w'.1 _ hd;rw[abv hlt] at dO;obtain⟨S2,e2,dO⟩:=aj dO;obtain⟨o2,e3,dO⟩:=aj dO;refine .inr ⟨go,_,fun σ2 H2 n=>⟨ds.length-(i+1),by lia,n⟩,fun x H2 y=>?_⟩;obtain⟨rfl,rx⟩:=yl x H2 y;refine⟨S',F',_,S2,R',rx,e2,fun σ3 R3=>⟨S2,F',o2,R3,e3,?_⟩⟩;cases o2 with
  |nx S3=>exact fun Jr F4 H4 R4 DB=>⟨S3,F4,R4,fun b o z=>DB b o (le b o z),hlt,rfl,dO⟩
  |ct S3=>exact fun Jr F4 H4 R4 DB=>⟨S3,F4,R4,fun b o z=>DB b o (le b o z),hlt,rfl,dO⟩
  |bk S3=>cases dO;exact fun Jr F4 H4 R4 DB=>k Jr F4 H4 R4 fun b o z=>DB b o (le b o (st1.ext.le b o z))
  |rt u S3=>cases dO;exact fun v Jr F4 H4 R4 DB=>k v Jr F4 H4 R4 fun b o z=>DB b o (le b o (st1.ext.le b o z))
 ·have e:i=ds.length:=by lia
  subst e;rw[adM] at dO;cases dO;exact .inl ⟨w'.2 (aaj _),k σ' F' H' R' fun b o z=>le b o (st1.ext.le b o z)⟩⟩
noncomputable def pW (q:GT) (body:GS):Nat->SS->Option Out
 |0,_=>none
 |n+1,S=>(q S).bind fun p=>if p.1 then(body p.2).bind fun o=>match o with
  |.nx S2=>pW q body n S2
  |.ct S2=>pW q body n S2
  |.bk S2=>some (.nx S2)
  |.rt u S2=>some (.rt u S2)
 else some (.nx p.2)
def DC (fuel:Nat) (q:GT) (body:GS):GS:=fun S=>pW q body fuel S
def Js {fuel:Nat}(hp:PassesOwn (model X.prog X.w) X.A X.env X.xe) (hc:JT X c q1) (hb:JB X body s1):JS X (.While c body [] pos) (DC fuel q1 s1):=⟨fun B=>(Iu hp (hc.h B) (hb.h B)).imp fun D σ H hh=>by
 obtain⟨S,F,o,R,h,k⟩:=hh;refine⟨fun m σ' H'=>∃S' F',Rel X.K B S' σ' F' H'/\(∀b o,F b=some o->F' b=some o)/\pW q1 s1 m S'=some o,⟨fuel,S,F,R,fun _ _ z=>z,h⟩,?_⟩;rintro m σ' H' ⟨S',F',R',le,h⟩;cases m with
 |zero=>cases h
 |succ m=>
  obtain⟨⟨d,S1⟩,h1,h⟩:=aj h;refine⟨S',F',d,S1,R',h1,fun F1 H1 R1 st1=>?_⟩;cases d with
  |false=>
   cases h;exact z5 (k σ' F1 H1 R1 fun b o z=>st1.ext.le b o (le b o z))
  |true=>
   obtain⟨o2,e3,h⟩:=aj (show(s1 S1).bind _=some o from h);refine z7 ⟨_,fun σ2 H2 n=>⟨m,acD m,n⟩,S1,F1,o2,R1,e3,?_⟩;have WY:∀b o,F b=some o->F1 b=some o:=fun b o z=>st1.ext.le b o (le b o z);cases o2 with
   |nx S3=>exact fun Jr F4 H4 R4 DB=>⟨S3,F4,R4,fun b o z=>DB b o (WY b o z),h⟩
   |ct S3=>exact fun Jr F4 H4 R4 DB=>⟨S3,F4,R4,fun b o z=>DB b o (WY b o z),h⟩
   |bk S3=>cases h;exact fun Jr F4 H4 R4 DB=>k Jr F4 H4 R4 fun b o z=>DB b o (WY b o z)
   |rt u S3=>cases h;exact fun v Jr F4 H4 R4 DB=>k v Jr F4 H4 R4 fun b o z=>DB b o (WY b o z)⟩
end
noncomputable def SE:U->MO->Option U
 |.m _,o=>some (.m o)
 |.b _,o=>some (.b o)
 |_,_=>none
noncomputable def Qu:U->Option MO
 |.m o=>some o
 |.b o=>some o
 |_=>none
noncomputable def qx (S:SS) (i:Nat) (f:MO->Option (D×MO)):Option (D×SS):=match S[i]? with
 |some (some (.m o))=>(f o).map fun r=>(r.1,S.set i (some (.m r.2)))
 |some (some (.b o))=>(f o).map fun r=>(r.1,S.set i (some (.b r.2)))
 |_=>none
def At.UR {F:Hp}{o:MO}{ob:Obj}{u:HO}(h:At F H a o):H a≠some (.jh ob u):=fun z=>by
 cases o with
 |lst ds=>obtain⟨vs,e,_⟩:=h;rw[z] at e;cases e
 |dct ds=>obtain⟨vs,e,_⟩:=h;rw[z] at e;cases e
 |Dv ds=>obtain⟨vs,e,_⟩:=h;rw[z] at e;cases e
 |ins C ds=>obtain⟨vs,⟨dx,e⟩,_⟩:=h;rw[z] at e;cases e
 |gap ds=>obtain⟨vs,e,_⟩:=h;rw[z] at e;cases e
 |lat c ds=>obtain⟨vs,⟨_,e⟩,_⟩:=h;rw[z] at e;cases e
 |gU c ds=>obtain⟨vs,⟨_,e⟩,_⟩:=h;rw[z] at e;cases e
 |Dy C ds=>obtain⟨vs,⟨dx,e⟩,_⟩:=h;rw[z] at e;cases e
def BQ.cF {F:Hp}{v:V}(r:BQ K F H v u) (hm:fh u=true):∃a o,v= .ref a/\F a=none/\Qu u=some o/\At F H a o:=by
 cases u with
 |t d=>cases hm
 |v d=>cases hm
 |s d=>cases hm
 |f d=>cases hm
 |x cx kx=>cases hm
 |m o=>obtain⟨a,e,f,h⟩:=r;exact⟨a,o,e,f,rfl,h⟩
 |b o=>obtain⟨a,e,f,h⟩:=r;exact⟨a,o,e,f,rfl,h⟩
def Rel.write {F:Hp}{u':U}{ho:HO}{o:MO}(R:Rel K B S σ F H) (hS:S[i]? =some (some u)) (hu:SE u o=some u') (hv:σ[i]? =some (some (.ref a))) (ha:At F (upd H a ho) a o):
  Rel K B (S.set i (some u')) σ F (upd H a ho)/\Step S (S.set i (some u')) σ F H F (upd H a ho):=by
 have hm:fh u=true/\fh u'=true:=by cases u<;>cases hu<;>exact⟨rfl,rfl⟩
 have US:F a=none/\∀b ob w,H b=some (.jh ob w)->b≠a:=by
  obtain⟨v,h1,h2⟩:=R.rep i u hS;rw[hv] at h1;cases h1;obtain⟨b,_,e,f,_,k⟩:=h2.cF hm.1;cases e;exact⟨f,fun b ob w z e=>k.UR (by rw[e] at z;exact z)⟩
 have Qv:=US.1;have SG:∀b ob w,H b=some (.jh ob w)->upd H a ho b=some (.jh ob w):=fun b ob w z=>by rw[aP (US.2 b ob w z)];exact z
 have mAt:L2.cF S σ a:=⟨i,u,hS,hm.1,hv⟩
 have hl:i<S.length:=(aau.mp hS).1;have kb:∀{j w},(S.set i (some u'))[j]? =some (some w)->(i=j/\u'=w)\/(i≠j/\S[j]? =some (some w)):=fun {j w} z=>by
  rcases get_set z with⟨e,q,_⟩|q
  ·exact .inl ⟨e,aaV q⟩
  ·exact .inr q
 have orig:∀{j w},(S.set i (some u'))[j]? =some (some w)->fh w=true->∃w0,S[j]? =some (some w0)/\fh w0=true:=fun {j w} z hw=>by
  rcases kb z with⟨rfl,rfl⟩|⟨_,q⟩
  ·exact⟨u,hS,hm.1⟩
  ·exact⟨w,q,hw⟩
 have keepR:∀b o,b≠a->Rd H b o->Rd (upd H a ho) b o:=fun b o ne r=>by
  rcases r with r|⟨ob,r⟩
  ·exact .inl (by rw[aP ne];exact r)
  ·exact .inr ⟨ob,by rw[aP ne];exact r⟩
 refine⟨⟨fun b o z=>by rw[aP (fun e=>by rw[e,Qv] at z;cases z)];exact R.sub b o z,by rw[ab6];exact R.len,fun j w z=>?_,fun j k w1 w2 c z1 m1 z2 m2=>?_,fun j o' c z hc=>?_,fun j o' c z hc=>?_,fun j c z=>?_,?_⟩,⟨?_,fun c ⟨j,w,z,hw,hc⟩=>?_,fun j w z=>?_⟩⟩
 ·rcases kb z with⟨rfl,rfl⟩|⟨ne,q⟩
  ·refine⟨.ref a,hv,?_⟩;cases u<;>cases hu
   ·exact⟨a,rfl,Qv,ha⟩
   ·exact⟨a,rfl,Qv,ha⟩
  ·obtain⟨v,h1,h2⟩:=R.rep j w q;refine⟨v,h1,?_⟩;by_cases hw:fh w=true
   ·obtain⟨c,o',rfl,f,e,h⟩:=h2.cF hw;have hca:c≠a:=fun z=>ne (R.EH i j u w a hS hm.1 q hw hv (by rw[h1,z]));have h':At F (upd H a ho) c o':=h.le (fun _ _ z=>z) fun o z=>by rw[aP hca];exact z
    cases w<;>cases hw<;>cases e
    ·exact⟨c,rfl,f,h'⟩
    ·exact⟨c,rfl,f,h'⟩
   ·cases w with
    |t d=>exact h2
    |v d=>exact h2
    |s d=>obtain⟨c,e,h⟩:=h2;exact⟨c,e,h.le SG⟩
    |f d=>exact h2
    |x cx kx=>exact h2
    |m o=>exact absurd rfl hw
    |b o=>exact absurd rfl hw
 ·obtain⟨Y4,q1,n1⟩:=orig z1 m1;obtain⟨Y5,q2,n2⟩:=orig z2 m2;exact R.EH j k Y4 Y5 c q1 n1 q2 n2
 ·rcases kb z with⟨rfl,rfl⟩|⟨_,q⟩
  ·cases u<;>cases hu
   exact R.own _ _ c hS hc
  ·exact R.own j o' c q hc
 ·rcases kb z with⟨rfl,rfl⟩|⟨_,q⟩
  ·cases u<;>cases hu
   exact R.bor _ _ c hS hc
  ·exact R.bor j o' c q hc
 ·obtain⟨k1,o',k2⟩:=R.par j c z;refine⟨k1,?_⟩;by_cases e:i=j
  ·subst e;rw[hS] at k2;cases k2;cases hu;exact⟨o,abl hl⟩
  ·exact⟨o',by rw[aaJ e];exact k2⟩
 ·refine⟨R.ext.le,fun b o z n=>?_,R.ext.j6,fun b o z=>?_,fun b o w z=>SG b o w (R.ext.jh b o w z)⟩
  ·have hb:b≠a:=fun e=>by
    subst e;cases u with
    |m o'=>rw[R.own i o' b hS hv] at z;cases z
    |b o'=>exact n (R.bor i o' b hS hv)
    |t d=>cases hu
    |v d=>cases hu
    |s d=>cases hu
    |f d=>cases hu
    |x cx kx=>cases hu
   rw[aP hb];exact R.ext.keep b o z n
  ·by_cases hb:b=a
   ·exact⟨ho,by rw[hb,aO]⟩
   ·rw[aP hb];exact R.ext.there b o z
 ·refine⟨fun _ _ z=>z,fun b o z n=>?_,fun _ _ _ _ z=>z,fun b o z=>?_,SG⟩
  ·rw[aP (fun e=>n (by rw[e];exact mAt))];exact z
  ·by_cases hb:b=a
   ·exact⟨ho,by rw[hb,aO]⟩
   ·exact⟨o,by rw[aP hb];exact z⟩
 ·obtain⟨w0,q,n⟩:=orig z hw;exact⟨j,w0,q,n,hc⟩
 ·by_cases e:i=j
  ·subst e;exact⟨u',abl hl⟩
  ·exact⟨w,by rw[aaJ e];exact z⟩
def lH {f:MO->Option (D×MO)}{d:D}(h:qx S i f=some (d,S')):∃u u' o o',S[i]? =some (some u)/\fh u=true/\Qu u=some o/\f o=some (d,o')/\SE u o'=some u'/\S'=S.set i (some u'):=by
 unfold qx at h;split at h
 ·rename_i o e;obtain⟨⟨d',o'⟩,h1,h⟩:=au h;cases h;exact⟨_,_,o,o',e,rfl,rfl,h1,rfl,rfl⟩
 ·rename_i o e;obtain⟨⟨d',o'⟩,h1,h⟩:=au h;cases h;exact⟨_,_,o,o',e,rfl,rfl,h1,rfl,rfl⟩
 ·cases h
def Y6 (r:V->List V->Hp->VK->Prop) (h:List D->MO->Option (D×MO)):Prop:=
 ∀F H a vs xs ds args res o',Sub F H->H a=some (.lst vs)->F a=none->bq F vs ds->bq F xs args->h args (.lst ds)=some (res,o')->
  ∀Q:VK,(∀rv ho,Rep F rv res->At F (upd H a ho) a o'->Q rv (upd H a ho))->r (.ref a) xs H Q
noncomputable def dP:MO->Bool
 |.lst _=>true
 |_=>false
noncomputable def UT (S:SS) (i:Nat):Bool:=match S[i]? with
 |some (some (.m (.lst _)))=>true
 |some (some (.b (.lst _)))=>true
 |_=>false
def Qw {F:Hp}(R:Rel K B S σ F H) (h:UT S i=true):∃u a vs ds,S[i]? =some (some u)/\fh u=true/\Qu u=some (.lst ds)/\σ[i]? =some (some (.ref a))/\F a=none/\H a=some (.lst vs)/\bq F vs ds:=by
 unfold UT at h;split at h
 ·rename_i ds e;obtain⟨v,k1,a,rfl,f,vs,k2,k3⟩:=R.rep i _ e;exact⟨_,a,vs,ds,e,rfl,rfl,k1,f,k2,k3⟩
 ·rename_i ds e;obtain⟨v,k1,a,rfl,f,vs,k2,k3⟩:=R.rep i _ e;exact⟨_,a,vs,ds,e,rfl,rfl,k1,f,k2,k3⟩
 ·cases h
def eM (i:Nat) (h:List D->MO->Option (D×MO)) (gA:GA):GD:=fun S=>if UT S i then(gA S).bind fun p=>qx p.2 i (h p.1) else none
def Jt {F:Hp}(R:Rel K B S σ F H) (hS:S[i]? =some (some u)) (hm:fh u=true) (hi:Qu u=some (.lst ds)) (hv:σ[i]? =some (some (.ref a))):F a=none/\∃vs,H a=some (.lst vs)/\bq F vs ds:=by
 obtain⟨v,k1,k2⟩:=R.rep i u hS;rw[hv] at k1;cases k1;obtain⟨b,o2,e1,f,e2,k⟩:=k2.cF hm;cases e1;rw[hi] at e2;cases e2;exact⟨f,k⟩
section
variable {X:Cx}{a e:Expr}{es:BBC}{apos cpos px:Pos}{x name:Str}{gA:GA}{id:String}
def jT {r:V->List V->Hp->VK->Prop}{h:List D->MO->Option (D×MO)}(slot:Slot "list" name id) (hty:typeOf (.builtin id)=pure (.type "method_descriptor")) (hm:YH X id r) (hh:Y6 r h) (hl:∀args o,dP o=false->h args o=none) (ha:JA X (e::es) gA)
  (hN:X.N[i]? =some x:=by rfl) (hv:qj X.env.scope x:=by first|exact Or.inl rfl|exact Or.inr (Or.inl rfl)|exact Or.inr (Or.inr rfl))
  (hbase:attributeBase (.Name x px) name X.env (eval (.Name x px) X.env)=eval (.Name x px) X.env:=by rfl)
  (hfew:((backTo cpos (starEach (e::es) X.env)).all (fun x=>!x.1) && (backToKw cpos (keywordEach [] X.env)).all (fun x=>x.1.isSome)
   && decide ((e::es).length+([]:BBI).length+(if([]:BBI).isEmpty then 0 else 1)<30))=true:=by rfl)
  (hline:(apos.endLine == cpos.line)=true:=by rfl) (hs:starEach (e::es) X.env=(false,eval e X.env)::starEach es X.env:=by rfl) (hplain:(backTo cpos (starEach es X.env)).any (·.1)=false:=by rfl)
  (hd:BBT x:=by decide) (hcd:BBU x:=by decide):
  JD X (.Call (.Attribute (.Name x px) name apos) (e::es) [] cpos) (eM i h gA):=
 ⟨fun B=>(OB aeF slot hty hm (bZ hN hv hd hcd) (ha.h B) hbase hfew hline hs hplain).imp fun σ H Q hh=>by
 obtain⟨S,F,d,S',R,hg,q⟩:=hh;unfold eM at hg;split at hg
 ·rename_i hL;obtain⟨⟨args,S1⟩,h1,hg⟩:=aj hg;obtain⟨u,u',o,o',hS,Ju,hio,hf,HV,rfl⟩:=lH hg;obtain⟨u0,a,WT,ds0,_,_,_,hv0,_,hH,_⟩:=Qw R hL;cases o with
  |dct kvs=>rw[hl _ _ rfl] at hf;cases hf
  |Dv kvs=>rw[hl _ _ rfl] at hf;cases hf
  |ins C kvs=>rw[hl _ _ rfl] at hf;cases hf
  |gap _=>rw[hl _ _ rfl] at hf;cases hf
  |lat _ _=>rw[hl _ _ rfl] at hf;cases hf
  |gU _ _=>rw[hl _ _ rfl] at hf;cases hf
  |Dy _ _=>rw[hl _ _ rfl] at hf;cases hf
  |lst ds=>
   refine⟨.ref a,hv0,.inl ⟨rfl,WT,lE.of hH⟩,S,F,args,S1,R,h1,fun xs F1 H1 R1 st1 r1=>?_⟩;obtain⟨hf1,vs,Y7,rs⟩:=Jt R1 hS Ju hio hv0;refine hh F1 H1 a vs xs ds args d o' R1.sub Y7 hf1 rs r1 hf Q fun rv ho rr ha=>?_;obtain⟨R2,st2⟩:=R1.write hS HV hv0 ha;exact q rv F1 _ R2 (st1.trans st2) rr
 ·cases hg⟩
noncomputable def hAppend:List D->MO->Option (D×MO)
 |[d],.lst ds=>if ds.length<100000 then some (.bQ,.lst (ds++[d])) else none
 |_,_=>none
def eU:Y6 EC hAppend:=by
 intro F H a vs xs ds args res o' sb hH fa rs rx hw Q q;unfold hAppend at hw;split at hw
 ·rename_i d ds' e2;cases e2;split at hw
  ·rename_i hl;cases hw;cases rx with
   |cons r rr=>
    cases rr;exact⟨a,vs,_,rfl,rfl,hH,by rw[rs.length];exact aas hl (by decide),q .bQ _ .bQ ⟨_,aO,rs.append (.cons r .nil)⟩⟩
  ·cases hw
 ·cases hw
end
def gW.step {F:Hp}{v:V}(r:gW K B S σ H0 F H v u) (st:Step S S' σ F H F' H'):gW K B S' σ H0 F' H' v u:=by
 cases u with
 |t d=>exact r.le st.ext.le
 |b o=>exact r
 |v i=>obtain⟨h1,u,h2⟩:=r;exact⟨h1,st.slots i u h2⟩
 |s i=>obtain⟨a,e,h⟩:=r;exact⟨a,e,h.le st.ext.jh⟩
 |f i=>exact r
 |x cx kx=>exact Ab.le st.ext.le r
 |m o=>
  obtain⟨a,e,h0,f,h,n,hB⟩:=r;obtain⟨ho,hh⟩:=h.has;exact⟨a,e,h0,st.ext.j6 a ho hh n f,h.le st.ext.le fun o z=>st.ext.keep a o z n,fun m=>n (st.mu a m),hB⟩
abbrev GU:=SS->Option (List U×SS)
inductive tAU (K:AAD) (B:Base) (gu:GU) (σ:St) (H:Hp) (Q:List V->Hp->Prop):Prop
 |mk (S:SS) (F:Hp) (us:List U) (S':SS) (R:Rel K B S σ F H) (hg:gu S=some (us,S')) (q:∀vs F' H',Rel K B S' σ F' H'->Step S S' σ F H F' H'->Paired (fun v u=>gW K B S' σ H F' H' v u) vs us->Q vs H')
structure JU (X:Cx) (es:BBC) (gu:GU):Prop where
 h:∀B,PA X es (tAU X.K B gu)
 len:∀S us S',gu S=some (us,S')->us.length=es.length
noncomputable def bM:GU:=fun S=>some ([],S)
noncomputable def bw (g:GD) (gu:GU):GU:=fun S=>(g S).bind fun p=>(gu p.2).map fun q=>(.t p.1::q.1,q.2)
noncomputable def cI (g:GE) (gu:GU):GU:=fun S=>(g S).bind fun p=>(gu p.2).map fun q=>(p.1::q.1,q.2)
section
variable {X:Cx}{e:Expr}{es:BBC}{g:GD}{ge:GE}{gu:GU}
def aW:JU X [] bM:=⟨fun B=>k7.imp fun σ H Q hh=>by
 obtain⟨S,F,us,S',R,hg,q⟩:=hh;cases hg;exact q [] F H R (Step.refl ..) .nil,fun S us S' h=>by cases h;rfl⟩
def aN (h:JD X e g) (hr:JU X es gu) (hs:starEach (e::es) X.env=(false,eval e X.env)::starEach es X.env:=by rfl):JU X (e::es) (bw g gu):=
 ⟨fun B=>(gj (h.h B) (hr.h B) hs).imp fun σ H Q hh=>by
 obtain⟨S,F,us,S',R,hg,q⟩:=hh;obtain⟨⟨d,S1⟩,h1,hg⟩:=aj hg;obtain⟨⟨Qx,S2⟩,h2,hg⟩:=au hg;cases hg;exact⟨S,F,d,S1,R,h1,fun v F1 H1 R1 st1 r1=>⟨S1,F1,Qx,S2,R1,h2,fun vs F2 H2 R2 st2 r2=>q _ F2 H2 R2 (st1.trans st2) (.cons (r1.le st2.ext.le) (Paired.By r2 fun _ _ z=>z.weak st1.ext.there))⟩⟩,
 fun S us S' hg=>by
  obtain⟨⟨d,S1⟩,h1,hg⟩:=aj hg;obtain⟨⟨Qx,S2⟩,h2,hg⟩:=au hg;cases hg;show Qx.length+1=es.length+1;rw[hr.len _ _ _ h2]⟩
def bB (h:JE X e ge) (hr:JU X es gu) (hs:starEach (e::es) X.env=(false,eval e X.env)::starEach es X.env:=by rfl):JU X (e::es) (cI ge gu):=
 ⟨fun B=>(gj (h.h B) (hr.h B) hs).imp fun σ H Q hh=>by
 obtain⟨S,F,us,S',R,hg,q⟩:=hh;obtain⟨⟨d,S1⟩,h1,hg⟩:=aj hg;obtain⟨⟨Qx,S2⟩,h2,hg⟩:=au hg;cases hg;exact⟨S,F,d,S1,R,h1,fun v F1 H1 R1 st1 r1=>⟨S1,F1,Qx,S2,R1,h2,fun vs F2 H2 R2 st2 r2=>q _ F2 H2 R2 (st1.trans st2) (.cons (r1.step st2) (Paired.By r2 fun _ _ z=>z.weak st1.ext.there))⟩⟩,
 fun S us S' hg=>by
  obtain⟨⟨d,S1⟩,h1,hg⟩:=aj hg;obtain⟨⟨Qx,S2⟩,h2,hg⟩:=au hg;cases hg;show Qx.length+1=es.length+1;rw[hr.len _ _ _ h2]⟩
end
noncomputable def resolve (S:SS):U->Option U
 |.t d=>some (.t d)
 |.v i=>match S[i]? with
  |some (some (.m o))=>some (.b o)
  |some (some (.b o))=>some (.b o)
  |_=>none
 |.m o=>some (.b o)
 |.b _=>none
 |.s ns=>some (.s ns)
 |.f a=>some (.f a)
 |.x C k=>some (.x C k)
def bT (S:SS):List U->Option (List U)
 |[]=>some []
 |u::us=>(resolve S u).bind fun w=>(bT S us).map fun ws=>w::ws
noncomputable def slotsOf:List U->BBJ
 |[]=>[]
 |.v i::us=>i::slotsOf us
 |_::us=>slotsOf us
noncomputable def cC:List U->Nat
 |[]=>0
 |.m _::us=>cC us+1
 |_::us=>cC us
noncomputable def wb:List U->List MO->SS->Option SS
 |[],[],S=>some S
 |.v i::us,o::outs,S=>match S[i]? with
  |some (some (.m _))=>wb us outs (S.set i (some (.m o)))
  |some (some (.b _))=>wb us outs (S.set i (some (.b o)))
  |_=>none
 |.m _::us,_::outs,S=>wb us outs S
 |.t _::us,outs,S=>wb us outs S
 |.s _::us,outs,S=>wb us outs S
 |.f _::us,outs,S=>wb us outs S
 |.x _ _::us,outs,S=>wb us outs S
 |_,_,_=>none
abbrev FM:=List U->Option (U×List MO)
def br (f:FM) (gu:GU):GE:=fun S=>(gu S).bind fun p=>
 if(slotsOf p.1).Nodup/\cC p.1<=1 then(bT p.2 p.1).bind fun us=>(f us).bind fun r=>(wb p.1 r.2 p.2).map fun S2=>(r.1,S2) else none
def GV (K:AAD) (F H:Hp) (v:V):U->Prop
 |.s ns=>∃a,v= .ref a/\Mq K H a ns
 |.f a=>v= .ref a
 |.x C k=>Ab F v C k
 |.t d=>Rep F v d
 |.b o=>∃a,v= .ref a/\F a=none/\At F H a o
 |_=>False
noncomputable def addrs:List V->List U->BBE
 |.ref a::vs,.b _::us=>a::addrs vs us
 |_::vs,_::us=>addrs vs us
 |_,_=>[]
structure Post (F H F' H':Hp) (as:BBE) (outs:List MO):Prop where
 sub:Sub F' H'
 ext:Ext (fun a=>a∈as) F H F' H'
 out:Paired (fun a o=>F' a=none/\At F' H' a o) as outs
def spT (K:AAD) (n:Nat) (f:FM):Sp:=fun vs H Q _=>vs.length=n/\∃F us r outs,Sub F H/\Paired (GV K F H) vs us/\(addrs vs us).Nodup/\f us=some (r,outs)/\∀v F' H',Post F H F' H' (addrs vs us) outs->vH H F' H' v r->Q v H'
section
variable {K:AAD}{B:Base}{S S1 S2:SS}{σ:St}{H0 F H:Hp}
def lI {w:U}(h:resolve S (.v i)=some w):∃u o,S[i]? =some (some u)/\fh u=true/\Qu u=some o/\w= .b o:=by
 unfold resolve at h;dsimp only at h;split at h
 ·rename_i o e;cases h;exact⟨_,o,e,rfl,rfl,rfl⟩
 ·rename_i o e;cases h;exact⟨_,o,e,rfl,rfl,rfl⟩
 ·cases h
theorem pC (R:Rel K B S σ F H):∀{vs:List V}{us ws:List U},Paired (fun v u=>gW K B S σ H0 F H v u) vs us->bT S us=some ws->Paired (GV K F H) vs ws
 |_,_,_,.nil,h=>by cases h;exact .nil
 |_,_,_,@Paired.cons _ _ _ v u vs us r rs,h=>by
  obtain⟨w,h1,h⟩:=aj h;obtain⟨ws,h2,h⟩:=au h;subst h;refine .cons ?_ (pC R rs h2);cases u with
  |t d=>cases h1;exact r
  |s d=>cases h1;exact r
  |f d=>cases h1;exact r
  |x cx kx=>cases h1;exact r
  |b o=>cases h1
  |m o=>cases h1;obtain⟨a,e,_,f,k,_⟩:=r;exact⟨a,e,f,k⟩
  |v i=>
   obtain⟨u,o,hu,hm,hi,rfl⟩:=lI h1;obtain⟨hv,_⟩:=r;obtain⟨v',k1,k2⟩:=R.rep i u hu;rw[hv] at k1;cases k1;obtain⟨a,o2,e,f,e2,k⟩:=k2.cF hm;rw[hi] at e2;cases e2;exact⟨a,e,f,k⟩
def Qy {v:V}{d:D}:addrs (v::vs) (.t d::us)=addrs vs us:=by cases v<;>rfl
def Y8 {v:V}{d:BBD}:addrs (v::vs) (.s d::us)=addrs vs us:=by cases v<;>rfl
def Y9 {v:V}{C:Addr}{k:List (Str×D)}:addrs (v::vs) (.x C k::us)=addrs vs us:=by cases v<;>rfl
def Za {v:V}{d:Addr}:addrs (v::vs) (.f d::us)=addrs vs us:=by cases v<;>rfl
theorem rC (R:Rel K B S σ F H):∀{vs:List V}{us ws:List U},Paired (fun v u=>gW K B S σ H0 F H v u) vs us->bT S us=some ws->∀a∈addrs vs ws,
  (∃i u,i∈slotsOf us/\S[i]? =some (some u)/\fh u=true/\σ[i]? =some (some (.ref a)))\/(0<cC us/\H0 a=none/\B.H a=none/\¬cF S σ a)
 |_,_,_,.nil,h,a,ha=>by cases h;cases ha
 |_,_,_,@Paired.cons _ _ _ v u vs us r rs,h,a,ha=>by
  obtain⟨w,h1,h⟩:=aj h;obtain⟨ws,h2,h⟩:=au h;subst h;have ih:=rC R rs h2;cases u with
  |t d=>
   cases h1;exact ih a (Qy▸ha)
  |s d=>
   cases h1;exact ih a (Y8▸ha)
  |f d=>
   cases h1;exact ih a (Za▸ha)
  |x cx kx=>
   cases h1;exact ih a (Y9▸ha)
  |b o=>cases h1
  |m o=>
   cases h1;obtain⟨c,rfl,k0,f,k,n,hB⟩:=r;rcases aao.mp (show a∈c::addrs vs ws from ha) with rfl|ha
   ·exact .inr ⟨Nat.succ_pos _,k0,hB,n⟩
   ·rcases ih a ha with z|⟨_,z⟩
    ·exact .inl z
    ·exact .inr ⟨Nat.succ_pos _,z⟩
  |v i=>
   obtain⟨u,o,hu,hm,hi,rfl⟩:=lI h1;obtain⟨hv,_⟩:=r;obtain⟨v',k1,k2⟩:=R.rep i u hu;rw[hv] at k1;cases k1;obtain⟨c,o2,rfl,f,e2,k⟩:=k2.cF hm;rcases aao.mp (show a∈c::addrs vs ws from ha) with rfl|ha
   ·exact .inl ⟨i,u,aak,hu,hm,hv⟩
   ·rcases ih a ha with⟨j,w,z,z2⟩|z
    ·exact .inl ⟨j,w,aag _ z,z2⟩
    ·exact .inr z
theorem cM (R:Rel K B S σ F H):∀{vs:List V}{us ws:List U},Paired (fun v u=>gW K B S σ H0 F H v u) vs us->bT S us=some ws->(slotsOf us).Nodup->cC us<=1->(addrs vs ws).Nodup
 |_,_,_,.nil,h,_,_=>by cases h;exact abp
 |_,_,_,@Paired.cons _ _ _ v u vs us r rs,h,nd,fr=>by
  obtain⟨w,h1,h⟩:=aj h;obtain⟨ws,h2,h⟩:=au h;subst h;cases u with
  |t d=>
   cases h1;rw[Qy];exact cM R rs h2 nd fr
  |s d=>
   cases h1;rw[Y8];exact cM R rs h2 nd fr
  |f d=>
   cases h1;rw[Za];exact cM R rs h2 nd fr
  |x cx kx=>
   cases h1;rw[Y9];exact cM R rs h2 nd fr
  |b o=>cases h1
  |m o=>
   cases h1;have fr0:cC us=0:=by have:cC us+1<=1:=fr;lia
   obtain⟨c,rfl,k0,f,k,n,hB⟩:=r;refine abo.mpr ⟨fun hc=>?_,cM R rs h2 nd (by lia)⟩;rcases rC R rs h2 c hc with⟨j,w,_,z1,z2,z3⟩|⟨z,_⟩
   ·exact n ⟨j,w,z1,z2,z3⟩
   ·lia
  |v i=>
   obtain⟨u,o,hu,hm,hi,rfl⟩:=lI h1;obtain⟨hv,_⟩:=r;obtain⟨v',k1,k2⟩:=R.rep i u hu;rw[hv] at k1;cases k1;obtain⟨c,o2,rfl,f,e2,k⟩:=k2.cF hm;obtain⟨Zb,SH⟩:=abo.mp (show(i::slotsOf us).Nodup from nd);refine abo.mpr ⟨fun hc=>?_,cM R rs h2 SH fr⟩;rcases rC R rs h2 c hc with⟨j,w,z0,z1,z2,z3⟩|⟨_,_,_,z⟩
   ·have:=R.EH i j u w c hu hm z1 z2 hv z3;subst this;exact Zb z0
   ·exact z ⟨i,u,hu,hm,hv⟩
theorem mH (R:Rel K B S σ F H) (P:Addr->MO->Prop):∀{vs:List V}{us ws:List U}{outs:List MO}{S1 S2:SS},Paired (fun v u=>gW K B S σ H0 F H v u) vs us->bT S us=some ws->wb us outs S1=some S2->(slotsOf us).Nodup->Paired P (addrs vs ws) outs->
  S2.length=S1.length/\(∀j,j∉slotsOf us->S2[j]? =S1[j]?)/\∀j∈slotsOf us,∃u u' o a,S1[j]? =some (some u)/\SE u o=some u'/\S2[j]? =some (some u')/\σ[j]? =some (some (.ref a))/\P a o
 |_,_,_,_,_,_,.nil,h,hw,_,hp=>by
  cases h;cases hp;cases hw;exact⟨rfl,fun _ _=>rfl,fun j hj=>by cases hj⟩
 |_,_,_,outs,S1,S2,@Paired.cons _ _ _ v u vs us r rs,h,hw,nd,hp=>by
  obtain⟨w,h1,h⟩:=aj h;obtain⟨ws,h2,h⟩:=au h;subst h;cases u with
  |t d=>
   cases h1;rw[Qy] at hp;have ih:=mH R P rs h2 (show wb us outs S1=some S2 by cases outs<;>exact hw) nd hp;exact ih
  |s d=>
   cases h1;rw[Y8] at hp;have ih:=mH R P rs h2 (show wb us outs S1=some S2 by cases outs<;>exact hw) nd hp;exact ih
  |f d=>
   cases h1;rw[Za] at hp;have ih:=mH R P rs h2 (show wb us outs S1=some S2 by cases outs<;>exact hw) nd hp;exact ih
  |x cx kx=>
   cases h1;rw[Y9] at hp;have ih:=mH R P rs h2 (show wb us outs S1=some S2 by cases outs<;>exact hw) nd hp;exact ih
  |b o=>cases h1
  |m o=>
   cases h1;obtain⟨c,rfl,k0,f,k,n,hB⟩:=r;cases hp with
   |cons p1 p2=>
    have ih:=mH R P rs h2 (show wb us _ S1=some S2 from hw) nd p2;exact ih
  |v i=>
   obtain⟨u0,o0,hu,hm,hi,rfl⟩:=lI h1;obtain⟨hv,_⟩:=r;obtain⟨v',k1,k2⟩:=R.rep i u0 hu;rw[hv] at k1;cases k1;obtain⟨c,o2,rfl,f,e2,k⟩:=k2.cF hm;obtain⟨Zb,SH⟩:=abo.mp (show(i::slotsOf us).Nodup from nd);cases hp with
   |@cons _ o _ outs p1 p2=>
    have go:∀u u',S1[i]? =some (some u)->SE u o=some u'->wb us outs (S1.set i (some u'))=some S2->S2.length=S1.length/\(∀j,j∉i::slotsOf us->S2[j]? =S1[j]?)/\∀j∈i::slotsOf us,∃u u' o a,S1[j]? =some (some u)/\SE u o=some u'/\S2[j]? =some (some u')/\σ[j]? =some (some (.ref a))/\P a o:=fun u u' e1 e2 hw=>by
     obtain⟨l,out,GQ⟩:=mH R P rs h2 hw SH p2;refine⟨by rw[l,ab6],fun j hj=>?_,fun j hj=>?_⟩
     ·rw[out j fun z=>hj (aag _ z),aaJ fun z=>hj (by rw[z];exact aak)]
     ·by_cases e:i=j
      ·subst e;exact⟨u,u',o,c,e1,e2,by rw[out i Zb];exact abl (aau.mp e1).1,hv,p1⟩
      ·rcases aao.mp hj with z|z
       ·exact absurd z.symm e
       ·obtain⟨w,w',o',a',q1,q2,q3,q4,q5⟩:=GQ j z;rw[aaJ e] at q1;exact⟨w,w',o',a',q1,q2,q3,q4,q5⟩
    unfold wb at hw;split at hw
    ·rename_i o' e;exact go _ _ e rfl hw
    ·rename_i o' e;exact go _ _ e rfl hw
    ·cases hw
end
def kj {S2:SS}{F:Hp}{outs:List MO}(R:Rel K B S σ F H) (st:Step S0 S σ F0 H0 F H) (rr:Paired (fun v u=>gW K B S σ H0 F H v u) vs us) (hr:bT S us=some ws) (hw:wb us outs S=some S2) (nd:(slotsOf us).Nodup) (p:Post F H F' H' (addrs vs ws) outs):
  Rel K B S2 σ F' H'/\Step S0 S2 σ F0 H0 F' H'/\∀a,cF S2 σ a->cF S σ a:=by
 obtain⟨hl,out,GQ⟩:=mH R (fun a o=>F' a=none/\At F' H' a o) rr hr hw nd p.out;have reM:∀{u:U}{o:MO}{u':U},SE u o=some u'->fh u=true/\fh u'=true/\Qu u'=some o:=fun {u o u'} h=>by cases u<;>cases h<;>exact⟨rfl,rfl,rfl⟩
 have orig:∀{j w},S2[j]? =some (some w)->fh w=true->∃w0,S[j]? =some (some w0)/\fh w0=true:=fun {j w} z hm=>by
  by_cases hj:j∈slotsOf us
  ·obtain⟨u,u',o,a,q1,q2,q3,q4,q5⟩:=GQ j hj;exact⟨u,q1,(reM q2).1⟩
  ·rw[out j hj] at z;exact⟨w,z,hm⟩
 have mu:∀a,cF S2 σ a->cF S σ a:=fun a ⟨j,w,z,hm,hv⟩=>let⟨w0,q,n⟩:=orig z hm;⟨j,w0,q,n,hv⟩
 have C2:=rC R rr hr;refine⟨⟨p.sub,by rw[hl];exact R.len,fun j w z=>?_,fun j k w1 w2 c z1 m1 z2 m2=>?_,fun j o a z hv=>?_,fun j o a z hv=>?_,fun j a z=>?_,?_⟩,⟨⟨?_,?_,?_,?_,fun b o u z=>p.ext.jh b o u (st.ext.jh b o u z)⟩,fun a m=>st.mu a (mu a m),fun j u z=>?_⟩,mu⟩
 ·by_cases hj:j∈slotsOf us
  ·obtain⟨u,u',o,a,q1,q2,q3,q4,q5,q6⟩:=GQ j hj;rw[q3] at z;cases z;refine⟨.ref a,q4,?_⟩;cases u<;>cases q2
   ·exact⟨a,rfl,q5,q6⟩
   ·exact⟨a,rfl,q5,q6⟩
  ·rw[out j hj] at z;obtain⟨v,h1,h2⟩:=R.rep j w z;refine⟨v,h1,h2.le p.ext.le p.ext.jh fun a hm ha=>?_⟩;have hna:a∉addrs vs ws:=fun hc=>by
    rcases C2 a hc with⟨i,u,q0,q1,q2,q3⟩|⟨_,_,_,q⟩
    ·have:=R.EH i j u w a q1 q2 z hm q3 (by rw[h1,ha]);subst this;exact hj q0
    ·exact q ⟨j,w,z,hm,by rw[h1,ha]⟩
   obtain⟨c,o,e,f,_,k⟩:=h2.cF hm;rw[ha] at e;cases e;obtain⟨ho,hh⟩:=k.has;exact⟨fun o q=>p.ext.keep a o q hna,p.ext.j6 a ho hh hna f⟩
 ·obtain⟨Y4,q1,n1⟩:=orig z1 m1;obtain⟨Y5,q2,n2⟩:=orig z2 m2;exact R.EH j k Y4 Y5 c q1 n1 q2 n2
 ·by_cases hj:j∈slotsOf us
  ·obtain⟨u,u',o',a',q1,q2,q3,q4,q5⟩:=GQ j hj;rw[q3] at z;cases z;cases u<;>cases q2
   exact R.own j _ a q1 hv
  ·rw[out j hj] at z;exact R.own j o a z hv
 ·by_cases hj:j∈slotsOf us
  ·obtain⟨u,u',o',a',q1,q2,q3,q4,q5⟩:=GQ j hj;rw[q3] at z;cases z;cases u<;>cases q2
   exact R.bor j _ a q1 hv
  ·rw[out j hj] at z;exact R.bor j o a z hv
 ·obtain⟨k1,o,k2⟩:=R.par j a z;refine⟨k1,?_⟩;by_cases hj:j∈slotsOf us
  ·obtain⟨u,u',o',a',q1,q2,q3,q4,q5⟩:=GQ j hj;rw[k2] at q1;cases q1;cases q2;exact⟨_,q3⟩
  ·exact⟨o,by rw[out j hj];exact k2⟩
 ·refine R.ext.trans p.ext fun b hb=>?_;rcases C2 b hb with⟨i,u,q0,q1,q2,q3⟩|⟨_,_,q,_⟩
  ·cases u with
   |t d=>cases q2
   |v d=>cases q2
   |s d=>cases q2
   |f d=>cases q2
   |x cx kx=>cases q2
   |m o=>exact .inr (R.own i o b q1 q3)
   |b o=>exact .inl (R.bor i o b q1 q3)
  ·exact .inr q
 ·exact fun b o h=>p.ext.le b o (st.ext.le b o h)
 ·intro b o h n;refine p.ext.keep b o (st.ext.keep b o h n) fun hb=>?_;rcases C2 b hb with⟨i,u,q0,q1,q2,q3⟩|⟨_,q,_⟩
  ·exact n (st.mu b ⟨i,u,q1,q2,q3⟩)
  ·rw[h] at q;cases q
 ·intro b o h n f;refine p.ext.j6 b o (st.ext.keep b o h n) (fun hb=>?_) (st.ext.j6 b o h n f);rcases C2 b hb with⟨i,u,q0,q1,q2,q3⟩|⟨_,q,_⟩
  ·exact n (st.mu b ⟨i,u,q1,q2,q3⟩)
  ·rw[h] at q;cases q
 ·intro b o h;obtain⟨o',h'⟩:=st.ext.there b o h;exact p.ext.there b o' h'
 ·obtain⟨u',h'⟩:=st.slots j u z;by_cases hj:j∈slotsOf us
  ·obtain⟨_,u2,_,_,_,_,q3,_⟩:=GQ j hj;exact⟨u2,q3⟩
  ·exact⟨u',by rw[out j hj];exact h'⟩
section
variable {X:Cx}{e:Expr}{es:BBC}{gu:GU}{x:Str}{p pos:Pos}{f:FM}{fa:Addr}{fd:FuncData}{ps:BBB}{k n:Nat}
def Mv (F:j7 X.prog X.w X.K X.mg X.base yE k fa fd ps (spT X.K n f)) (hr:fE k X.A) (hg:Gl X x) (hm:X.mg x=some (.ref fa)) (hk:PySem.W.keepIn X.K (.ref fa)=true) (hb:Binds X.K fd ps []) (ha:JU X (e::es) gu) (hn:(e::es).length=n:=by rfl)
  (hdb:BBT x:=by decide) (he:starEach (e::es) X.env=(false,eval e X.env)::starEach es X.env:=by rfl) (hpl:(backTo pos (starEach es X.env)).any (·.1)=false:=by rfl):
  JE X (.Call (.Name x p) (e::es) [] pos) (br f gu):=⟨fun B=>(Er F hr hg hm hk hb .nil EE (ha.h B) hdb he hpl).imp fun σ H Q hh=>by
 obtain⟨S,F0,u,S',R,hg,q⟩:=hh;obtain⟨⟨us,S1⟩,h1,hg⟩:=aj hg;dsimp only at hg;split at hg
 ·rename_i hc;obtain⟨ws,h2,hg⟩:=aj hg;obtain⟨⟨r,outs⟩,h3,hg⟩:=aj hg;obtain⟨S2,h4,hg⟩:=au hg;cases hg;refine⟨S,F0,us,S1,R,h1,fun vs F1 H1 R1 st1 rr=>?_⟩;show spT X.K n f (vs++[]) H1 Q E0;rw[ab5];have hlen:vs.length=n:=by rw[rr.length,ha.len _ _ _ h1];exact hn
  refine⟨hlen,F1,ws,r,outs,R1.sub,pC R1 rr h2,cM R1 rr h2 hc.1 hc.2,h3,fun v F2 H2 po rn=>?_⟩;obtain⟨R2,st2,mu⟩:=kj R1 st1 rr h2 h4 hc.1 po;refine q v F2 H2 R2 st2 ?_;cases r with
  |t d=>exact rn
  |b o=>cases rn
  |v i=>cases rn
  |s i=>cases rn
  |f i=>cases rn
  |x cx kx=>cases rn
  |m o=>
   obtain⟨a,e,h0,f,h⟩:=rn;refine⟨a,e,none_of st1.ext.there h0,f,h,fun m=>?_,none_of R1.ext.there h0⟩;obtain⟨o',ho⟩:=R1.has (mu a m);rw[h0] at ho;cases ho
 ·cases hg⟩
end
noncomputable def aT:List U->SS->Option (List MO)
 |[],_=>some []
 |.b _::us,some (.b o)::S=>(aT us S).map fun os=>o::os
 |.b _::_,_=>none
 |_::us,_::S=>aT us S
 |_::_,[]=>none
def bL (n:Nat) (g:GS):FM:=fun us=>(g (us.map some++List.replicate (n-us.length) none)).bind fun o=>match o with
 |.rt (.t d) S=>(aT us S).map fun os=>(.t d,os)
 |.rt (.m o) S=>(aT us S).map fun os=>(.m o,os)
 |.nx S=>(aT us S).map fun os=>(.t .bQ,os)
 |_=>none
noncomputable def lent:List V->List U->List (BBN)
 |.ref a::vs,.b _::us=>some a::lent vs us
 |_::vs,_::us=>none::lent vs us
 |_,_=>[]
theorem nQ:∀(vs:List V) (us:List U) (a:Addr),some a∈lent vs us↔a∈addrs vs us
 |[],us,a=>by cases us<;>simp[lent,addrs]
 |v::vs,[],a=>by cases v<;>simp[lent,addrs]
 |v::vs,u::us,a=>by
  have ih:=nQ vs us a;cases v<;>cases u<;>simp[lent,addrs,ih]
theorem BU:∀{vs:List V}{us:List U}{i:Nat}{a:Addr},(lent vs us)[i]? =some (some a)->vs[i]? =some (.ref a)/\∃o,us[i]? =some (.b o)
 |[],us,i,a,h=>by cases us<;>simp[lent] at h
 |v::vs,[],i,a,h=>by cases v<;>simp[lent] at h
 |v::vs,u::us,0,a,h=>by
  cases v<;>cases u<;>simp[lent] at h
  subst h;exact⟨rfl,_,rfl⟩
 |v::vs,u::us,i+1,a,h=>by
  have h':(lent vs us)[i]? =some (some a):=by cases v<;>cases u<;>simpa[lent] using h
  simpa using BU h'
theorem Ah {K:AAD}:∀{F H:Hp}{vs:List V}{us:List U}{i:Nat}{o:MO},Paired (GV K F H) vs us->us[i]? =some (.b o)->∃a,vs[i]? =some (.ref a)/\(lent vs us)[i]? =some (some a)/\F a=none/\At F H a o
 |_,_,_,_,_,_,.nil,h=>by simp at h
 |_,_,_,_,0,o,@Paired.cons _ _ _ v u vs us r rs,h=>by
  simp at h;subst h;obtain⟨a,rfl,f,k⟩:=r;exact⟨a,rfl,rfl,f,k⟩
 |_,_,_,_,i+1,o,@Paired.cons _ _ _ v u vs us r rs,h=>by
  obtain⟨a,h1,h2,h3⟩:=Ah (i:=i) rs (by simpa using h);refine⟨a,by simpa using h1,?_,h3⟩;cases v<;>cases u<;>simpa[lent] using h2
theorem yH:∀{vs:List V}{us:List U}{i j:Nat}{a:Addr},(addrs vs us).Nodup->(lent vs us)[i]? =some (some a)->(lent vs us)[j]? =some (some a)->i=j
 |[],us,i,j,a,_,h,_=>by cases us<;>simp[lent] at h
 |v::vs,[],i,j,a,_,h,_=>by cases v<;>simp[lent] at h
 |v::vs,u::us,i,j,a,nd,h1,h2=>by
  have ih:∀{i j},(addrs vs us).Nodup->(lent vs us)[i]? =some (some a)->(lent vs us)[j]? =some (some a)->i=j:=fun {i j}=>yH (i:=i) (j:=j);by_cases Zd:∃c o,v= .ref c/\u= .b o
  ·obtain⟨c,o,rfl,rfl⟩:=Zd;obtain⟨n1,n2⟩:=abo.mp (show(c::addrs vs us).Nodup from nd);cases i with
   |zero=>
    cases j with
    |zero=>rfl
    |succ j=>
     have e1:c=a:=by simpa[lent] using h1
     have e2:(lent vs us)[j]? =some (some a):=by simpa[lent] using h2
     subst e1;exact absurd ((nQ vs us c).mp (aaW e2)) n1
   |succ i=>
    have e1:(lent vs us)[i]? =some (some a):=by simpa[lent] using h1
    cases j with
    |zero=>
     have e2:c=a:=by simpa[lent] using h2
     subst e2;exact absurd ((nQ vs us c).mp (aaW e1)) n1
    |succ j=>exact congrArg Nat.succ (ih n2 e1 (by simpa[lent] using h2))
  ·have e1:lent (v::vs) (u::us)=none::lent vs us:=by cases v<;>cases u<;>first|rfl|exact absurd ⟨_,_,rfl,rfl⟩ Zd
   have e2:addrs (v::vs) (u::us)=addrs vs us:=by cases v<;>cases u<;>first|rfl|exact absurd ⟨_,_,rfl,rfl⟩ Zd
   rw[e1] at h1 h2;rw[e2] at nd;cases i with
   |zero=>simp at h1
   |succ i=>
    cases j with
    |zero=>simp at h2
    |succ j=>exact congrArg Nat.succ (ih nd (by simpa using h1) (by simpa using h2))
theorem g6 {α β:Type}{P:α->β->Prop}:∀{l:List α}{r:List β}{i:Nat}{y:β},Paired P l r->r[i]? =some y->∃x,l[i]? =some x/\P x y
 |_,_,_,_,.nil,h=>by simp at h
 |_,_,0,_,.cons p _,h=>by simp at h;subst h;exact⟨_,rfl,p⟩
 |_,_,i+1,_,.cons _ ps,h=>by
  obtain⟨x,h1,h2⟩:=g6 (i:=i) ps (by simpa using h);exact⟨x,by simpa using h1,h2⟩
def lJ {F:Hp}(sb:Sub F H) (ar:Paired (GV K F H) vs us) (nd:(addrs vs us).Nodup) (N:BBB) (hN:N.length=n):
  Rel K ⟨lent vs us,F,H⟩ (us.map some++List.replicate (n-us.length) none) (start N vs) F H:=by
 have hl:vs.length=us.length:=ar.length;have gS:∀{i:Nat}{u:U},(us.map some++List.replicate (n-us.length) none)[i]? =some (some u)->us[i]? =some u:=fun {i u} h=>by
  rw[List.getElem?_append] at h;split at h
  ·rw[aaI] at h;obtain⟨w,h1,h2⟩:=au h;cases h2;exact h1
  ·rw[acH] at h;split at h<;>cases h
 have Ze:∀{i:Nat}{v:V},vs[i]? =some v->(start N vs)[i]? =some (some v):=fun {i v} h=>by
  unfold start;have hi:=(aau.mp h).1;rw[aa3 (by simpa using hi),aaI,h];rfl
 have vb:∀{i:Nat}{v w:V},vs[i]? =some v->(start N vs)[i]? =some (some w)->v=w:=fun {i v w} h k=>by
  rw[Ze h] at k;cases k;rfl
 have Mw:∀{i:Nat}{u:U},us[i]? =some u->fh u=true->∃o a,u= .b o/\vs[i]? =some (.ref a)/\(lent vs us)[i]? =some (some a)/\F a=none/\At F H a o:=fun {i u} h hm=>by
  obtain⟨v,h1,h2⟩:=g6 ar h;cases u with
  |t d=>cases hm
  |v d=>cases hm
  |s d=>cases hm
  |f d=>cases hm
  |x cx kx=>cases hm
  |m o=>cases h2
  |b o=>obtain⟨a,k1,k2,k3,k4⟩:=Ah ar h;exact⟨o,a,rfl,k1,k2,k3,k4⟩
 refine⟨sb,?_,fun i u h=>?_,fun i j u w a h1 m1 h2 m2 v1 v2=>?_,fun i o a h hv=>?_,fun i o a h hv=>?_,fun i a h=>?_,Ext.refl ..⟩
 ·unfold start;simp[hl,hN]
 ·obtain⟨v,h1,h2⟩:=g6 ar (gS h);refine⟨v,Ze h1,?_⟩;cases u with
  |t d=>exact h2
  |s d=>exact h2
  |f d=>exact h2
  |x cx kx=>exact h2
  |v d=>cases h2
  |m o=>cases h2
  |b o=>exact h2
 ·obtain⟨_,a1,_,k1,k2,_⟩:=Mw (gS h1) m1;obtain⟨_,a2,_,l1,l2,_⟩:=Mw (gS h2) m2;have e1:=vb k1 v1;have e2:=vb l1 v2;cases e1;cases e2;exact yH nd k2 l2
 ·obtain⟨_,_,e,_⟩:=Mw (gS h) rfl;cases e
 ·obtain⟨_,a1,_,k1,k2,_⟩:=Mw (gS h) rfl;have e1:=vb k1 hv;cases e1;exact aaW k2
 ·obtain⟨k1,o,k2⟩:=BU h;refine⟨Ze k1,o,?_⟩;have hi:=(aau.mp k2).1;rw[aa3 (by simpa using hi),aaI,k2];rfl
def UU {v:V}(hu:¬∃o,u= .b o):addrs (v::vs) (u::us)=addrs vs us/\lent (v::vs) (u::us)=none::lent vs us/\(∀s S os,aT (u::us) (s::S)=some os->aT us S=some os)/\∀os,¬aT (u::us) []=some os:=by
 cases v<;>cases u<;>first|exact⟨rfl,rfl,fun _ _ _ h=>h,fun _ h=>by cases h⟩|exact absurd ⟨_,rfl⟩ hu
theorem Ai {F' H':Hp}:∀{vs:List V}{us:List U}{S:SS}{os:List MO},aT us S=some os->vs.length=us.length->(∀(i:Nat) (o:MO) (a:Addr),(lent vs us)[i]? =some (some a)->S[i]? =some (some (.b o))->F' a=none/\At F' H' a o)->(∀(i:Nat) (o:MO),us[i]? =some (.b o)->∃a,vs[i]? =some (.ref a))->
  Paired (fun a o=>F' a=none/\At F' H' a o) (addrs vs us) os
 |[],[],S,os,h,_,_,_=>by cases S<;>(simp[aT] at h;subst h;exact .nil)
 |[],_::_,_,_,_,l,_,_=>by cases l
 |_::_,[],_,_,_,l,_,_=>by cases l
 |v::vs,u::us,S,os,h,l,k,kb=>by
  have l':vs.length=us.length:=by simpa using l
  have kb':∀(i:Nat) (o:MO),us[i]? =some (.b o)->∃a,vs[i]? =some (.ref a):=fun i o z=>kb (i+1) o z;by_cases hu:∃o,u= .b o
  ·obtain⟨o,rfl⟩:=hu;obtain⟨a,ha⟩:=kb 0 o rfl;have ha:v= .ref a:=by simpa using ha
   subst ha;cases S with
   |nil=>cases h
   |cons s S=>
    cases s with
    |none=>cases h
    |some s=>
     cases s with
     |b o'=>
      obtain⟨os',h1,h2⟩:=au (show(aT us S).map (fun os=>o'::os)=some os from h);subst h2;exact .cons (k 0 o' a rfl rfl) (Ai h1 l' (fun i o a z1 z2=>k (i+1) o a z1 z2) kb')
     |t d=>cases h
     |m d=>cases h
     |v d=>cases h
     |s d=>cases h
     |f d=>cases h
     |x cx kx=>cases h
  ·obtain⟨e2,e1,e3⟩:=UU (v:=v) (vs:=vs) (us:=us) hu;rw[e2];cases S with
   |nil=>exact absurd h (e3.2 os)
   |cons s S=>exact Ai (e3.1 s S os h) l' (fun i o a z1 z2=>k (i+1) o a (by rw[e1];exact z1) z2) kb'
def post_of (ar:Paired (GV K F0 H) vs us) (S':SS) (σ':St) (F' H':Hp) (os:List MO) (R':Rel K ⟨lent vs us,F0,H⟩ S' σ' F' H') (ho':aT us S'=some os):Post F0 H F' H' (addrs vs us) os:=by
 refine⟨R'.sub,⟨R'.ext.le,fun b o z n=>R'.ext.keep b o z fun m=>n ((nQ vs us b).mp m),fun b o z n=>R'.ext.j6 b o z fun m=>n ((nQ vs us b).mp m),R'.ext.there,R'.ext.jh⟩,Ai ho' ar.length (fun i o a z1 z2=>?_) fun i o z=>?_⟩
 ·obtain⟨k1,o2,k2⟩:=R'.par i a z1;obtain⟨v,j1,j2⟩:=R'.rep i _ z2;rw[k1] at j1;cases j1;obtain⟨c,e,f,k⟩:=j2;cases e;exact⟨f,k⟩
 ·obtain⟨a,h1,_⟩:=Ah ar z;exact⟨a,h1⟩
section
variable {P:Program}{w:World}{K:AAD}{mg:AAF}{base:Heap}
def okT {qual:Str}{st:Stmt}{f:Addr}{fd:FuncData}{N ps:BBB}{k:Nat}{fm:FM}{g:GS}(F:Lz K x qual st f fd) (Sc:bG N ps (aQ st))
  (hb:∀(cdv:Value) (A:Around) (outer:BBF) (s:Shared) (H:Hp) (E:XK),fE k (A.deeper (envOfC qual (aQ st) s.heap.objs.size f cdv))->JB (vB yE P w K mg base N qual (aQ st) f cdv A outer s H E).LS (e8 st) g)
  (hf:∀us r,fm us=some r->bL N.length g us=some r):j7 P w K mg base yE (k+1) f fd ps (spT K ps.length fm):=by
 refine F.ok Sc (fun vs H Q E h=>h.1) fun cdv A outer s H vs Q E hr h=>?_;obtain⟨hlen,F0,us,r,outs,sb,ar,nd,hfm,q⟩:=h;have hrun:=hf us (r,outs) hfm;have J:=hb cdv A outer s H E hr;refine⟨_,J.h ⟨lent vs us,F0,H⟩,?_⟩;have R0:=lJ sb ar nd N rfl;obtain⟨o,ho,hrun⟩:=aj hrun;refine⟨_,F0,o,R0,ho,?_⟩;have post:=post_of ar;cases o with
 |bk S'=>cases hrun
 |ct S'=>cases hrun
 |nx S'=>
  obtain⟨os,h1,h2⟩:=au (show(aT us S').map _=some (r,outs) from hrun);cases h2;exact fun σ' F' H' R' le=>q .bQ F' H' (post S' σ' F' H' outs R' h1) .bQ
 |rt u S'=>
  cases u with
  |b o=>cases hrun
  |v i=>cases hrun
  |s i=>cases hrun
  |f i=>cases hrun
  |x cx kx=>cases hrun
  |t d=>
   obtain⟨os,h1,h2⟩:=au (show(aT us S').map _=some (r,outs) from hrun);cases h2;exact fun v σ' F' H' R' le rr=>q v F' H' (post S' σ' F' H' outs R' h1) rr
  |m o=>
   obtain⟨os,h1,h2⟩:=au (show(aT us S').map _=some (r,outs) from hrun);cases h2;exact fun v σ' F' H' R' le rr=>q v F' H' (post S' σ' F' H' outs R' h1) (by obtain⟨a,e,h0,f,h,n,hB⟩:=rr;exact⟨a,e,hB,f,h⟩)
end
noncomputable def sV (S:SS) (i:Nat):Option U:=match S[i]? with
 |some (some (.t d))=>some (.t d)
 |some (some (.s d))=>some (.s d)
 |some (some (.f d))=>some (.f d)
 |some (some (.m _))=>some (.v i)
 |some (some (.b _))=>some (.v i)
 |_=>none
def d8 (S:SS):BBJ->Option (List U)
 |[]=>some []
 |i::cap=>(sV S i).bind fun u=>(d8 S cap).map fun us=>u::us
noncomputable def cj:GT:=fun S=>some (true,S)
def bU (cap:BBJ) (q:GT) (g:GD):List D->SS->List D->Option (List D×SS)
 |[],S,acc=>some (acc,S)
 |d::ds,S,acc=>(d8 S cap).bind fun us=>
  if(slotsOf us).Nodup/\cC us<=1 then(bT S us).bind fun ws=>(q (AAA d::ws.map some)).bind fun p=>
   if p.1 then(g p.2).bind fun r=>(aT (.t d::ws) r.2).bind fun outs=>(wb us outs S).bind fun S'=>bU cap q g ds S' (acc++[r.1])
   else(aT (.t d::ws) p.2).bind fun outs=>(wb us outs S).bind fun S'=>bU cap q g ds S' acc
  else none
def fR (cap:BBJ) (gi:GI) (q:GT) (g:GD):GE:=fun S=>(gi S).bind fun p=>if p.1.length<=100000 then(bU cap q g p.1 p.2 []).map fun r=>(.m (.lst r.1),r.2) else none
structure Qz (X:Cx) (es:BBC) (q:GT):Prop where
 h:∀B,LA X es (tQ X.K B q)
def iR :Qz X [] cj:=⟨fun B pins s σ H Q I ⟨S,F,b,S',R,hg,q⟩=>by cases hg;exact EF pins s σ H Q I (q F H R (Step.refl ..))⟩
def Aj {c:Expr}(h:JT X c q):Qz X [c] q:=⟨fun B=>Mi (h.h B)⟩
theorem Ak {K:AAD}{B:Base}{S:SS}{σ:St}{F H:Hp}(R:Rel K B S σ F H):∀{cap:BBJ}{us:List U},d8 S cap=some us->∃vs:List V,cL cap σ=vs.map some/\Paired (fun v u=>gW K B S σ H F H v u) vs us
 |[],us,h=>by cases h;exact⟨[],rfl,.nil⟩
 |i::cap,us,h=>by
  obtain⟨u,h1,h⟩:=aj h;obtain⟨us',h2,h⟩:=au h;subst h;obtain⟨vs,k1,k2⟩:=Ak R h2;have one:∀w,S[i]? =some (some w)->∃v,σ[i]? =some (some v)/\BQ K F H v w:=R.rep i;unfold sV at h1;have fin:∀v,σ[i]? =some (some v)->gW K B S σ H F H v u->∃vs:List V,cL (i::cap) σ=vs.map some/\Paired (fun v u=>gW K B S σ H F H v u) vs (u::us'):=fun v e r=>
   ⟨v::vs,by show(σ[i]?).join::cL cap σ=_;rw[e,k1];rfl,.cons r k2⟩
  split at h1
  ·rename_i d e;cases h1;obtain⟨v,e1,r⟩:=one _ e;exact fin v e1 r
  ·rename_i d e;cases h1;obtain⟨v,e1,r⟩:=one _ e;exact fin v e1 r
  ·rename_i d e;cases h1;obtain⟨v,e1,r⟩:=one _ e;exact fin v e1 r
  ·rename_i o e;cases h1;obtain⟨v,e1,r⟩:=one _ e;exact fin v e1 ⟨e1,_,e⟩
  ·rename_i o e;cases h1;obtain⟨v,e1,r⟩:=one _ e;exact fin v e1 ⟨e1,_,e⟩
  ·cases h1
def rD {F:Hp}(R:Rel K B S σ F H) (d:D)(h:bT S us=some ws):bT S (.t d::us)=some (.t d::ws):=by
 show(some (U.t d)).bind _=_;show(bT S us).map _=_;rw[h];rfl
inductive OG (K:AAD) (B:Base) (S:SS) (σ:St) (F H F1:Hp) (lp:List D->SS->List D->Option (List D×SS)) (ds:List D) (r:List D×SS) (i m:Nat) (ys:List V) (H':Hp):Prop
 |mk (S2:SS) (F2:Hp) (acc:List D) (R:Rel K B S2 σ F2 H') (st:Step S S2 σ F H F2 H') (le:∀b o,F1 b=some o->F2 b=some o) (ry:bq F2 ys acc) (ha:acc.length<=i) (hl:i<=ds.length) (hm:m=ds.length-i) (e:lp (ds.drop i) S2 acc=some r)
def vO {Q:VK}(h:tE K B (fR cap gi q g) σ H Q):SD (Y3 K B gi) cap (fun σ H Q=>∃B,tQ K B q σ H Q) (fun σ H Q=>∃B,tD K B g σ H Q) σ H Q:=by
 obtain⟨x,_⟩:∃x:Str,True:=⟨"",trivial⟩
 obtain⟨S,F,u,S',R,hg,k⟩:=h;obtain⟨⟨ds,S1⟩,h1,hg⟩:=aj hg;dsimp only at hg;split at hg
 ·rename_i hlen;obtain⟨⟨res,Sf⟩,h2,hg⟩:=au hg;cases hg;refine⟨S,F,ds,S1,R,h1,fun J F1 H1 R1 st1 w=>?_⟩;refine⟨OG K B S σ F H F1 (bU cap q g) ds (res,Sf),
   ⟨_,S1,F1,[],R1,st1,fun _ _ z=>z,.nil,aaj _,aaM _,rfl,h2⟩,?_⟩
  rintro i m ys H' ⟨S2,F2,acc,R2,st2,le,ry,ha,hl,rfl,dO⟩;refine⟨by rw[ry.length];exact acm (aaC ha (aaC hl hlen)) (by decide),?_⟩;have w':=w F2 H' le R2.sub i;by_cases hlt:i<ds.length
  ·have hd:ds[i]? =some ds[i]:=aal hlt;obtain⟨go,yl⟩:=w'.1 _ hd;rw[abv hlt] at dO;refine .inr ⟨go,fun xv H3 y=>?_⟩;obtain⟨rfl,rx⟩:=yl xv H3 y;obtain⟨us,e1,dO⟩:=aj dO
   skip
   split at dO
   ·rename_i hnd;obtain⟨ws,e2,dO⟩:=aj dO;obtain⟨⟨bk,T1⟩,e3,dO⟩:=aj dO;obtain⟨vs,k1,k2⟩:=Ak R2 e1;have rr:Paired (fun v u=>gW K B S2 σ H3 F2 H3 v u) (xv::vs) (.t ds[i]::us):=.cons rx k2;have er:=rD R2 ds[i] e2;have ar:=pC R2 rr er;have nd:=cM R2 rr er hnd.1 hnd.2;have R3:=lJ (n:=ws.length+1) R2.sub ar nd (List.replicate (ws.length+1) x) (by simp);have hvl:vs.length=ws.length:=by have:=ar.length;simpa using this
    have es:start (List.replicate (ws.length+1) x) (xv::vs)=some xv::cL cap σ:=by
     unfold start;rw[k1];simp[hvl]
    have eS:(U.t ds[i]::ws).map some++List.replicate (ws.length+1-(U.t ds[i]::ws).length) none=some (U.t ds[i])::ws.map some:=by simp
    rw[es,eS] at R3;have back:∀(T2:SS) (F3 H4:Hp) (outs:List MO) (S3:SS),Rel K ⟨lent (xv::vs) (U.t ds[i]::ws),F2,H3⟩ T2 (some xv::cL cap σ) F3 H4->aT (U.t ds[i]::ws) T2=some outs->wb us outs S2=some S3->Rel K B S3 σ F3 H4/\Step S S3 σ F H F3 H4/\(∀b o,F2 b=some o->F3 b=some o):=fun T2 F3 H4 outs S3 RT ho hw=>by
     have po:=post_of ar T2 _ F3 H4 outs RT ho;obtain⟨Ra,xX,_⟩:=kj (S0:=S2) (F0:=F2) (H0:=H3) R2 (Step.refl ..) rr er (show wb (U.t ds[i]::us) outs S2=some S3 by cases outs<;>exact hw) hnd.1 po;exact⟨Ra,st2.trans xX,xX.ext.le⟩
    refine⟨_,_,F2,bk,T1,R3,e3,fun F3 H4 OH UW=>?_⟩;cases bk with
    |true=>
     obtain⟨⟨yd,T2⟩,e4,dO⟩:=aj (show(g T1).bind _=_ from dO);obtain⟨outs,e5,dO⟩:=aj dO;obtain⟨S3,e6,dO⟩:=aj dO;refine z7 ⟨_,T1,F3,yd,T2,OH,e4,fun yv F4 H5 UX UY UZ=>?_⟩;obtain⟨Ra,xX,DE⟩:=back T2 F4 H5 outs S3 UX e5 e6;refine⟨ds.length-(i+1),by lia,S3,F4,acc++[yd],Ra,xX,fun b o z=>DE b o (le b o z),(ry.le DE).append (.cons UZ .nil),by simp;lia,hlt,rfl,dO⟩
    |false=>
     obtain⟨outs,e5,dO⟩:=aj (show(aT (U.t ds[i]::ws) T1).bind _=_ from dO);obtain⟨S3,e6,dO⟩:=aj dO;obtain⟨Ra,xX,DE⟩:=back T1 F3 H4 outs S3 OH e5 e6;exact z5 ⟨ds.length-(i+1),by lia,S3,F3,acc,Ra,xX,fun b o z=>DE b o (le b o z),ry.le DE,by lia,hlt,rfl,dO⟩
   ·cases dO
  ·have e:i=ds.length:=by lia
   subst e;rw[adM] at dO;cases dO;refine .inl ⟨w'.2 (aaj _),fun p hp=>?_⟩;have n:=fV.obj (F:=F2) hp (.lst ys);refine k (.ref p) F2 _ (R2.new n (R2.sub.same n.same)) (st2.trans n.step) ⟨p,rfl,none_of st2.ext.there hp,R2.sub.fresh hp,⟨ys,aO,ry⟩,fun m=>?_,none_of R2.ext.there hp⟩;obtain⟨o,ho⟩:=R2.has m;rw[hp] at ho;cases ho
 ·cases hg
def jU {px pos:Pos}(T:dz X x bE cap scope cl) (hc:X.calm=true) (hi:JI X (.Name x px) iter gi)
  (ht:∀C s H fp,Qz (cg X (x::bE) scope cl C s H fp) ifs q) (he:∀C s H fp,JD (cg X (x::bE) scope cl C s H fp) elt g)
  (hs:∀x,foldedSetIterable iter X.env x=pure x:=by intro _;rfl):JE X (.ListComp elt [⟨.Name x px,iter,ifs,0⟩] scope pos) (fR cap gi q g):=⟨fun B=>by
 exact(vF (tc:=fun σ H Q=>∃B,tQ X.K B q σ H Q) (te:=fun σ H Q=>∃B,tD X.K B g σ H Q) T hc (hi.h B) (fun C s H fp pins s' σ H' Q I ⟨B',z⟩=>(ht C s H fp).h B' pins s' σ H' Q I z) (fun C s H fp pins s' σ H' Q I ⟨B',z⟩=>(he C s H fp).h B' pins s' σ H' Q I z) hs).imp fun σ H Q h=>vO h⟩
def Jv {y:Str}{px pos py spos:Pos}(hN:X.N.Nodup) (hy:X.N[i]? =some y) (hx:Loc X.env.scope y) (T:dz X x bE cap scope cl) (hc:X.calm=true) (hi:JI X (.Name x px) iter gi)
  (ht:∀C s H fp,Qz (cg X (x::bE) scope cl C s H fp) ifs q) (he:∀C s H fp,JD (cg X (x::bE) scope cl C s H fp) elt g)
  (hsw:swapsWith (.ListComp elt [⟨.Name x px,iter,ifs,0⟩] scope pos) (some (.Name y py)) spos.line X.env=pure true:=by rfl) (hf:X.fn y=true\/X.env.scope.names.lookup y=some .local:=by first|exact .inl rfl|exact .inr rfl|assumption)
  (hs:∀x,foldedSetIterable iter X.env x=pure x:=by intro _;rfl):JS X (.Assign [.Name y py] (.ListComp elt [⟨.Name x px,iter,ifs,0⟩] scope pos) spos) (cD i (fR cap gi q g)):=⟨fun B=>
 (Jb (tc:=fun σ H Q=>∃B,tQ X.K B q σ H Q) (te:=fun σ H Q=>∃B,tD X.K B g σ H Q) T hc (hi.h B) (fun C s H fp pins s' σ H' Q I ⟨B',z⟩=>(ht C s H fp).h B' pins s' σ H' Q I z) (fun C s H fp pins s' σ H' Q I ⟨B',z⟩=>(he C s H fp).h B' pins s' σ H' Q I z) hs hN hy hx hsw hf).imp fun D σ H h=>vO (EK h)⟩
mutual
noncomputable def gQ:D->D->Bool
 |.bQ,.bQ=>true
 |.bl a,.bl b=>a == b
 |.int a,.int b=>a == b
 |.bl a,.int b=>(if a then 1 else 0) == b
 |.int a,.bl b=>a == (if b then 1 else 0)
 |.str a,.str b=>a == b
 |.tup a,.tup b=>jm a b
 |.lst a,.lst b=>jm a b
 |_,_=>false
noncomputable def jm:List D->List D->Bool
 |[],[]=>true
 |a::as,b::bs=>gQ a b && jm as bs
 |_,_=>false
end
mutual
noncomputable def bA:D->Nat
 |.tup ds=>bf ds+1
 |.lst ds=>bf ds+1
 |_=>0
noncomputable def bf:List D->Nat
 |[]=>0
 |d::ds=>max (bA d) (bf ds)
end
mutual
theorem lK:∀d:D,gQ d d=true
 |.bQ=>rfl
 |.bl a=>by simp[gQ]
 |.int a=>by simp[gQ]
 |.str a=>by simp[gQ]
 |.tup a=>by unfold gQ;exact lM a
 |.lst a=>by unfold gQ;exact lM a
theorem lM:∀ds:List D,jm ds ds=true
 |[]=>rfl
 |d::ds=>by unfold jm;rw[lK d,lM ds];rfl
end
def pX (as bs:List D) (j:Nat):Bool:=match as[j]?,bs[j]? with
 |some a,some b=>gQ a b
 |_,_=>true
def vP (n:Nat) (e:Nat->Bool):(List.range (n+1)).all e=(e 0 && (List.range n).all fun j=>e (j+1)):=by
 rw[List.range_succ_eq_map,ab2,aey];rfl
theorem nR:∀{as bs:List D},as.length≠bs.length->jm as bs=false
 |[],[],h=>absurd rfl h
 |[],_::_,_=>rfl
 |_::_,[],_=>rfl
 |a::as,b::bs,h=>by
  unfold jm;rw[nR (as:=as) (bs:=bs) (fun z=>h (by simp[z])),aeQ]
theorem kq:∀{as bs:List D},as.length=bs.length->(List.range as.length).all (pX as bs)=jm as bs
 |[],[],_=>rfl
 |[],_::_,h=>by cases h
 |_::_,[],h=>by cases h
 |a::as,b::bs,h=>by
  have h':as.length=bs.length:=by simpa using h
  show(List.range (as.length+1)).all _=_;rw[vP];unfold jm;have ih:=kq h';have e:(fun j=>pX (a::as) (b::bs) (j+1))=pX as bs:=by funext j;kernel_rfl
  rw[e,ih];rfl
def Mx {F:Hp}{ws:List V}(h:Rd F a (.lst vs)) (h':Rd F a (.lst ws)):vs=ws:=by
 rcases h with e1|⟨o,e1⟩<;>rcases h' with e2|⟨o',e2⟩<;>(rw[e1] at e2;cases e2)<;>rfl
mutual
theorem Rep.uniq {F:Hp}:∀{v:V}{d e:D},Rep F v d->Rep F v e->d=e
 |_,_,_,.bQ,r=>by cases r;rfl
 |_,_,_,.bl b,r=>by cases r;rfl
 |_,_,_,.int b,r=>by cases r;rfl
 |_,_,_,.str b,r=>by cases r;rfl
 |_,_,_,.tup e1 r1,r=>by
  cases r with
  |tup e2 r2=>rw[e1] at e2;cases e2;rw[bq.uniq r1 r2]
  |lst e2 r2=>rcases e2 with e2|⟨o,e2⟩<;>(rw[e1] at e2;cases e2)
 |_,_,_,.lst e1 r1,r=>by
  cases r with
  |tup e2 r2=>rcases e1 with e1|⟨o,e1⟩<;>(rw[e1] at e2;cases e2)
  |lst e2 r2=>rcases e1 with e1|⟨o,e1⟩<;>rcases e2 with e2|⟨o',e2⟩<;>(rw[e1] at e2;cases e2)<;>rw[bq.uniq r1 r2]
theorem bq.uniq {F:Hp}:∀{vs:List V}{ds es:List D},bq F vs ds->bq F vs es->ds=es
 |_,_,_,.nil,r=>by cases r;rfl
 |_,_,_,.cons r1 s1,r=>by
  cases r with
  |cons r2 s2=>rw[Rep.uniq r1 r2,bq.uniq s1 s2]
end
section
variable {X:Cx}{pins:AAG}{σ:St}{F H:Hp}{s:Shared}
def Sub.isTup (I:Inv X pins σ H s) (sb:Sub F H)(h:F a=some (.tup vs)):∃its:BBG,Vals vs its/\s.heap.IsTuple a its.toArray:=by
 obtain⟨its,rv,p,_⟩:=I.tuple (.inl (Rd.of (sb a _ h)));exact⟨its,rv,p⟩
def Sub.dP (I:Inv X pins σ H s) (sb:Sub F H)(h:Rd F a (.lst vs)):∃its:BBG,Vals vs its/\s.heap.IsList a its.toArray:=by
 obtain⟨its,rv,p,_⟩:=I.list (.inl (h.imp (sb a _) fun⟨o,z⟩=>⟨o,sb a _ z⟩));exact⟨its,rv,p.isList⟩
def iS (A:Around) (s:Shared) (its bR:AAL) (ds es:List D):Prop:=∀j (h1:j<its.toArray.size) (h2:j<bR.toArray.size),SeqAt.EqAt A.in1 s its.toArray[j] bR.toArray[j] (pX ds es j)
def EL {m:Nat}(h:n=m) (e:Nat->Bool):((List.range (min n m)).all e && n == m)=(List.range n).all e:=by
 subst h;simp
def rE (hu:A.units<cLine) (pa:s.heap.IsTuple ca eV.toArray) (pb:s.heap.IsTuple cb bR.toArray) (la:eV.length=ds.length) (lb:bR.length=es.length) (h:iS A s eV bR ds es):
  SeqAt.RcAt A s (.ref ca) (.ref cb) (jm ds es):=by
 have q:=SeqAt.RcAt.tuples (e:=pX ds es) pa pb hu h;rw[aad,aad,la,lb] at q;by_cases hl:ds.length=es.length
 ·rw[EL hl,kq hl] at q;exact q
 ·rw[nR hl];have:(ds.length == es.length)=false:=by simpa using hl
  rw[this,aeQ] at q;exact q
def vQ (hu:A.units<cLine) (pa:s.heap.IsTuple ca eV.toArray) (pb:s.heap.IsTuple cb bR.toArray) (la:eV.length=ds.length) (lb:bR.length=es.length) (h:iS A s eV bR ds es):
  SeqAt.RcNeAt A s (.ref ca) (.ref cb) (!jm ds es):=by
 have q:=SeqAt.RcNeAt.tuples (e:=pX ds es) pa pb hu h;rw[aad,aad,la,lb] at q;by_cases hl:ds.length=es.length
 ·rw[EL hl,kq hl] at q;exact q
 ·rw[nR hl];have:(ds.length == es.length)=false:=by simpa using hl
  rw[this,aeQ] at q;exact q
def uG (hu:A.units<cLine) (pa:s.heap.IsList ca eV.toArray) (pb:s.heap.IsList cb bR.toArray) (la:eV.length=ds.length) (lb:bR.length=es.length) (h:iS A s eV bR ds es):
  SeqAt.RcAt A s (.ref ca) (.ref cb) (jm ds es):=by
 by_cases hl:ds.length=es.length
 ·have q:=SeqAt.RcAt.lists (e:=pX ds es) pa pb (by rw[aad,aad,la,lb];exact hl) hu h;rw[aad,la,kq hl] at q;exact q
 ·rw[nR hl];exact SeqAt.RcAt.lists_lengths pa pb (by rw[aad,aad,la,lb];simpa using hl) hu
def xY (hu:A.units<cLine) (pa:s.heap.IsList ca eV.toArray) (pb:s.heap.IsList cb bR.toArray) (la:eV.length=ds.length) (lb:bR.length=es.length) (h:iS A s eV bR ds es):
  SeqAt.RcNeAt A s (.ref ca) (.ref cb) (!jm ds es):=by
 by_cases hl:ds.length=es.length
 ·have q:=SeqAt.RcNeAt.lists (e:=pX ds es) pa pb (by rw[aad,aad,la,lb];exact hl) hu h;rw[aad,la,kq hl] at q;exact q
 ·rw[nR hl];exact SeqAt.RcNeAt.lists_lengths pa pb (by rw[aad,aad,la,lb];simpa using hl) hu
def dh (l:List α) (j:Nat) (h:j<l.toArray.size):l[j]? =some l.toArray[j]:=by
 have z:j<l.length:=by simpa using h
 simp[z]
mutual
theorem OI (I:Inv X pins σ H s) (sb:Sub F H):∀(d:D){e:D}{A:Around}{x y:V}{u w':Value},Rep F x d->Rep F y e->RelV x u->RelV y w'->A.units+bA d<cLine->SeqAt.EqAt A s u w' (gQ d e):=fun d {e A x y u w'} r1 r2 rx ry hu=>by
 cases r1 with
 |bQ=>
  cases rx;cases r2 with
  |bQ=>cases ry;exact adP _
  |bl b=>cases ry;exact SeqAt.EqAt.none_bool b
  |int b=>obtain⟨tb,rfl⟩:=ry;exact SeqAt.EqAt.none_int b tb
  |str b=>obtain⟨tb,rfl⟩:=ry;exact SeqAt.EqAt.none_str b tb
  |@tup cb nT lN eb rb=>cases ry;obtain⟨bR,kr,pb⟩:=sb.isTup I eb;exact SeqAt.EqAt.none_tuple pb (by lia)
  |@lst cb nT lN eb rb=>cases ry;obtain⟨bR,kr,pb⟩:=sb.dP I eb;exact SeqAt.EqAt.none_list pb (by lia)
 |bl a=>
  cases rx;cases r2 with
  |bQ=>cases ry;exact SeqAt.EqAt.bool_none a
  |bl b=>cases ry;exact adO a b
  |int b=>obtain⟨tb,rfl⟩:=ry;exact adZ a b tb
  |str b=>obtain⟨tb,rfl⟩:=ry;exact ad0 a b tb
  |@tup cb nT lN eb rb=>cases ry;obtain⟨bR,kr,pb⟩:=sb.isTup I eb;exact SeqAt.EqAt.bool_tuple a pb (by lia)
  |@lst cb nT lN eb rb=>cases ry;obtain⟨bR,kr,pb⟩:=sb.dP I eb;exact SeqAt.EqAt.bool_list a pb (by lia)
 |int a=>
  obtain⟨ta,rfl⟩:=rx;cases r2 with
  |bQ=>cases ry;exact SeqAt.EqAt.int_none a ta
  |bl b=>cases ry;exact adY a ta b
  |int b=>obtain⟨tb,rfl⟩:=ry;exact SeqAt.EqAt.int_int a ta b tb
  |str b=>obtain⟨tb,rfl⟩:=ry;exact ad8 a ta b tb
  |@tup cb nT lN eb rb=>cases ry;obtain⟨bR,kr,pb⟩:=sb.isTup I eb;exact SeqAt.EqAt.int_tuple a ta pb (by lia)
  |@lst cb nT lN eb rb=>cases ry;obtain⟨bR,kr,pb⟩:=sb.dP I eb;exact SeqAt.EqAt.int_list a ta pb (by lia)
 |str a=>
  obtain⟨ta,rfl⟩:=rx;cases r2 with
  |bQ=>cases ry;exact SeqAt.EqAt.str_none a ta
  |bl b=>cases ry;exact ad1 a ta b
  |int b=>obtain⟨tb,rfl⟩:=ry;exact ad9 a ta b tb
  |str b=>obtain⟨tb,rfl⟩:=ry;exact SeqAt.EqAt.str_str a ta b tb
  |@tup cb nT lN eb rb=>cases ry;obtain⟨bR,kr,pb⟩:=sb.isTup I eb;exact SeqAt.EqAt.str_tuple a ta pb (by lia)
  |@lst cb nT lN eb rb=>cases ry;obtain⟨bR,kr,pb⟩:=sb.dP I eb;exact SeqAt.EqAt.str_list a ta pb (by lia)
 |@tup ca U0 pN ea ra=>
  cases rx;obtain⟨eV,BV,pa⟩:=sb.isTup I ea;cases r2 with
  |bQ=>cases ry;exact SeqAt.EqAt.tuple_none pa (by lia)
  |bl b=>cases ry;exact SeqAt.EqAt.tuple_bool b pa (by lia)
  |int b=>obtain⟨tb,rfl⟩:=ry;exact SeqAt.EqAt.tuple_int b tb pa (by lia)
  |str b=>obtain⟨tb,rfl⟩:=ry;exact SeqAt.EqAt.tuple_str b tb pa (by lia)
  |@tup cb nT lN eb rb=>cases ry;obtain⟨bR,kr,pb⟩:=sb.isTup I eb;exact(by
   have hd:A.units+(bf pN+1)<cLine:=hu;have items:iS A s eV bR pN lN:=fun j h1 h2=>ku I sb pN (A:=A.in1) ra rb BV kr (by show A.units+1+bf pN<cLine;lia) (dh eV j h1) (dh bR j h2);by_cases hc:ca=cb
   ·subst hc;rw[ea] at eb;cases eb;obtain rfl:=bq.uniq ra rb;show SeqAt.EqAt A s _ _ (jm pN pN);rw[lM];exact adP _
   ·exact aea hc (rE (by lia) pa pb (BV.length.symm.trans ra.length) (kr.length.symm.trans rb.length) items))
  |@lst cb nT lN eb rb=>cases ry;obtain⟨bR,kr,pb⟩:=sb.dP I eb;exact SeqAt.EqAt.tuple_list pa pb (by lia)
 |@lst ca U0 pN ea ra=>
  cases rx;obtain⟨eV,BV,pa⟩:=sb.dP I ea;cases r2 with
  |bQ=>cases ry;exact SeqAt.EqAt.list_none pa (by lia)
  |bl b=>cases ry;exact SeqAt.EqAt.list_bool b pa (by lia)
  |int b=>obtain⟨tb,rfl⟩:=ry;exact SeqAt.EqAt.list_int b tb pa (by lia)
  |str b=>obtain⟨tb,rfl⟩:=ry;exact SeqAt.EqAt.list_str b tb pa (by lia)
  |@tup cb nT lN eb rb=>cases ry;obtain⟨bR,kr,pb⟩:=sb.isTup I eb;exact SeqAt.EqAt.list_tuple pa pb (by lia)
  |@lst cb nT lN eb rb=>cases ry;obtain⟨bR,kr,pb⟩:=sb.dP I eb;exact(by
   have hd:A.units+(bf pN+1)<cLine:=hu;have items:iS A s eV bR pN lN:=fun j h1 h2=>ku I sb pN (A:=A.in1) ra rb BV kr (by show A.units+1+bf pN<cLine;lia) (dh eV j h1) (dh bR j h2);by_cases hc:ca=cb
   ·subst hc;obtain rfl:=Mx ea eb;obtain rfl:=bq.uniq ra rb;show SeqAt.EqAt A s _ _ (jm pN pN);rw[lM];exact adP _
   ·exact aea hc (uG (by lia) pa pb (BV.length.symm.trans ra.length) (kr.length.symm.trans rb.length) items))
theorem ku (I:Inv X pins σ H s) (sb:Sub F H):∀(ds:List D){es:List D}{A:Around}{vs ws:List V}{us us':AAL}{j:Nat}{u w':Value},bq F vs ds->bq F ws es->Vals vs us->Vals ws us'->A.units+bf ds<cLine->us[j]? =some u->us'[j]? =some w'->SeqAt.EqAt A s u w' (pX ds es j):=fun ds {es A vs ws us us' j u w'} r1 r2 v1 v2 hu h1 h2=>by
 cases r1 with
 |nil=>cases v1;simp at h1
 |@cons v d vs ds r rs=>
  cases v1 with
  |cons q qs=>
   cases r2 with
   |nil=>cases v2;simp at h2
   |@cons w e ws es r' rs'=>
    cases v2 with
    |cons q' qs'=>
     have hd:A.units+max (bA d) (bf ds)<cLine:=hu;cases j with
     |zero=>
      simp at h1 h2;subst h1 h2;exact OI I sb d r r' q q' (by lia)
     |succ j=>
      simp at h1 h2;have:=ku I sb ds (A:=A) rs rs' qs qs' (j:=j) (by lia) h1 h2
      simpa[pX] using this
end
def U1 (I:Inv X pins σ H s) (sb:Sub F H){d e:D}{x:V}{u w':Value}(r1:Rep F x d) (r2:Rep F y e) (rx:RelV x u) (ry:RelV y w') (hu:A.units+bA d<cLine):SeqAt.RcAt A s u w' (gQ d e):=by
 cases r1 with
 |bQ=>
  cases rx;cases r2 with
  |bQ=>cases ry;exact SeqAt.RcAt.none_none
  |bl b=>cases ry;exact SeqAt.RcAt.none_bool b
  |int b=>obtain⟨tb,rfl⟩:=ry;exact SeqAt.RcAt.none_int b tb
  |str b=>obtain⟨tb,rfl⟩:=ry;exact SeqAt.RcAt.none_str b tb
  |@tup cb nT lN eb rb=>cases ry;obtain⟨bR,kr,pb⟩:=sb.isTup I eb;exact SeqAt.RcAt.none_tuple pb (by lia)
  |@lst cb nT lN eb rb=>cases ry;obtain⟨bR,kr,pb⟩:=sb.dP I eb;exact SeqAt.RcAt.none_list pb (by lia)
 |bl a=>
  cases rx;cases r2 with
  |bQ=>cases ry;exact SeqAt.RcAt.bool_none a
  |bl b=>cases ry;exact SeqAt.RcAt.bool_bool a b
  |int b=>obtain⟨tb,rfl⟩:=ry;exact SeqAt.RcAt.bool_int a b tb
  |str b=>obtain⟨tb,rfl⟩:=ry;exact SeqAt.RcAt.bool_str a b tb
  |@tup cb nT lN eb rb=>cases ry;obtain⟨bR,kr,pb⟩:=sb.isTup I eb;exact SeqAt.RcAt.bool_tuple a pb (by lia)
  |@lst cb nT lN eb rb=>cases ry;obtain⟨bR,kr,pb⟩:=sb.dP I eb;exact SeqAt.RcAt.bool_list a pb (by lia)
 |int a=>
  obtain⟨ta,rfl⟩:=rx;cases r2 with
  |bQ=>cases ry;exact SeqAt.RcAt.int_none a ta
  |bl b=>cases ry;exact SeqAt.RcAt.int_bool a ta b
  |int b=>obtain⟨tb,rfl⟩:=ry;exact SeqAt.RcAt.int_int a ta b tb
  |str b=>obtain⟨tb,rfl⟩:=ry;exact SeqAt.RcAt.int_str a ta b tb
  |@tup cb nT lN eb rb=>cases ry;obtain⟨bR,kr,pb⟩:=sb.isTup I eb;exact SeqAt.RcAt.int_tuple a ta pb (by lia)
  |@lst cb nT lN eb rb=>cases ry;obtain⟨bR,kr,pb⟩:=sb.dP I eb;exact SeqAt.RcAt.int_list a ta pb (by lia)
 |str a=>
  obtain⟨ta,rfl⟩:=rx;cases r2 with
  |bQ=>cases ry;exact SeqAt.RcAt.str_none a ta
  |bl b=>cases ry;exact SeqAt.RcAt.str_bool a ta b
  |int b=>obtain⟨tb,rfl⟩:=ry;exact SeqAt.RcAt.str_int a ta b tb
  |str b=>obtain⟨tb,rfl⟩:=ry;exact SeqAt.RcAt.str_str a ta b tb
  |@tup cb nT lN eb rb=>cases ry;obtain⟨bR,kr,pb⟩:=sb.isTup I eb;exact SeqAt.RcAt.str_tuple a ta pb (by lia)
  |@lst cb nT lN eb rb=>cases ry;obtain⟨bR,kr,pb⟩:=sb.dP I eb;exact SeqAt.RcAt.str_list a ta pb (by lia)
 |@tup ca U0 pN ea ra=>
  cases rx;obtain⟨eV,BV,pa⟩:=sb.isTup I ea;cases r2 with
  |bQ=>cases ry;exact SeqAt.RcAt.tuple_none pa (by lia)
  |bl b=>cases ry;exact SeqAt.RcAt.tuple_bool b pa (by lia)
  |int b=>obtain⟨tb,rfl⟩:=ry;exact SeqAt.RcAt.tuple_int b tb pa (by lia)
  |str b=>obtain⟨tb,rfl⟩:=ry;exact SeqAt.RcAt.tuple_str b tb pa (by lia)
  |@tup cb nT lN eb rb=>cases ry;obtain⟨bR,kr,pb⟩:=sb.isTup I eb;exact(by
   have hd:A.units+(bf pN+1)<cLine:=hu;have items:iS A s eV bR pN lN:=fun j h1 h2=>ku I sb pN (A:=A.in1) ra rb BV kr (by show A.units+1+bf pN<cLine;lia) (dh eV j h1) (dh bR j h2);exact rE (by lia) pa pb (BV.length.symm.trans ra.length) (kr.length.symm.trans rb.length) items)
  |@lst cb nT lN eb rb=>cases ry;obtain⟨bR,kr,pb⟩:=sb.dP I eb;exact SeqAt.RcAt.tuple_list pa pb (by lia)
 |@lst ca U0 pN ea ra=>
  cases rx;obtain⟨eV,BV,pa⟩:=sb.dP I ea;cases r2 with
  |bQ=>cases ry;exact SeqAt.RcAt.list_none pa (by lia)
  |bl b=>cases ry;exact SeqAt.RcAt.list_bool b pa (by lia)
  |int b=>obtain⟨tb,rfl⟩:=ry;exact SeqAt.RcAt.list_int b tb pa (by lia)
  |str b=>obtain⟨tb,rfl⟩:=ry;exact SeqAt.RcAt.list_str b tb pa (by lia)
  |@tup cb nT lN eb rb=>cases ry;obtain⟨bR,kr,pb⟩:=sb.isTup I eb;exact SeqAt.RcAt.list_tuple pa pb (by lia)
  |@lst cb nT lN eb rb=>cases ry;obtain⟨bR,kr,pb⟩:=sb.dP I eb;exact(by
   have hd:A.units+(bf pN+1)<cLine:=hu;have items:iS A s eV bR pN lN:=fun j h1 h2=>ku I sb pN (A:=A.in1) ra rb BV kr (by show A.units+1+bf pN<cLine;lia) (dh eV j h1) (dh bR j h2);exact uG (by lia) pa pb (BV.length.symm.trans ra.length) (kr.length.symm.trans rb.length) items)
def My (I:Inv X pins σ H s) (sb:Sub F H){d e:D}{x:V}{u w':Value}(r1:Rep F x d) (r2:Rep F y e) (rx:RelV x u) (ry:RelV y w') (hu:A.units+bA d<cLine):SeqAt.RcNeAt A s u w' (!gQ d e):=by
 cases r1 with
 |bQ=>
  cases rx;cases r2 with
  |bQ=>cases ry;exact SeqAt.RcNeAt.none_none
  |bl b=>cases ry;exact SeqAt.RcNeAt.none_bool b
  |int b=>obtain⟨tb,rfl⟩:=ry;exact SeqAt.RcNeAt.none_int b tb
  |str b=>obtain⟨tb,rfl⟩:=ry;exact SeqAt.RcNeAt.none_str b tb
  |@tup cb nT lN eb rb=>cases ry;obtain⟨bR,kr,pb⟩:=sb.isTup I eb;exact SeqAt.RcNeAt.none_tuple pb (by lia)
  |@lst cb nT lN eb rb=>cases ry;obtain⟨bR,kr,pb⟩:=sb.dP I eb;exact SeqAt.RcNeAt.none_list pb (by lia)
 |bl a=>
  cases rx;cases r2 with
  |bQ=>cases ry;exact SeqAt.RcNeAt.bool_none a
  |bl b=>cases ry;exact SeqAt.RcNeAt.bool_bool a b
  |int b=>obtain⟨tb,rfl⟩:=ry;exact SeqAt.RcNeAt.bool_int a b tb
  |str b=>obtain⟨tb,rfl⟩:=ry;exact SeqAt.RcNeAt.bool_str a b tb
  |@tup cb nT lN eb rb=>cases ry;obtain⟨bR,kr,pb⟩:=sb.isTup I eb;exact SeqAt.RcNeAt.bool_tuple a pb (by lia)
  |@lst cb nT lN eb rb=>cases ry;obtain⟨bR,kr,pb⟩:=sb.dP I eb;exact SeqAt.RcNeAt.bool_list a pb (by lia)
 |int a=>
  obtain⟨ta,rfl⟩:=rx;cases r2 with
  |bQ=>cases ry;exact SeqAt.RcNeAt.int_none a ta
  |bl b=>cases ry;exact SeqAt.RcNeAt.int_bool a ta b
  |int b=>obtain⟨tb,rfl⟩:=ry;exact SeqAt.RcNeAt.int_int a ta b tb
  |str b=>obtain⟨tb,rfl⟩:=ry;exact SeqAt.RcNeAt.int_str a ta b tb
  |@tup cb nT lN eb rb=>cases ry;obtain⟨bR,kr,pb⟩:=sb.isTup I eb;exact SeqAt.RcNeAt.int_tuple a ta pb (by lia)
  |@lst cb nT lN eb rb=>cases ry;obtain⟨bR,kr,pb⟩:=sb.dP I eb;exact SeqAt.RcNeAt.int_list a ta pb (by lia)
 |str a=>
  obtain⟨ta,rfl⟩:=rx;cases r2 with
  |bQ=>cases ry;exact SeqAt.RcNeAt.str_none a ta
  |bl b=>cases ry;exact SeqAt.RcNeAt.str_bool a ta b
  |int b=>obtain⟨tb,rfl⟩:=ry;exact SeqAt.RcNeAt.str_int a ta b tb
  |str b=>obtain⟨tb,rfl⟩:=ry;exact SeqAt.RcNeAt.str_str a ta b tb
  |@tup cb nT lN eb rb=>cases ry;obtain⟨bR,kr,pb⟩:=sb.isTup I eb;exact SeqAt.RcNeAt.str_tuple a ta pb (by lia)
  |@lst cb nT lN eb rb=>cases ry;obtain⟨bR,kr,pb⟩:=sb.dP I eb;exact SeqAt.RcNeAt.str_list a ta pb (by lia)
 |@tup ca U0 pN ea ra=>
  cases rx;obtain⟨eV,BV,pa⟩:=sb.isTup I ea;cases r2 with
  |bQ=>cases ry;exact SeqAt.RcNeAt.tuple_none pa (by lia)
  |bl b=>cases ry;exact SeqAt.RcNeAt.tuple_bool b pa (by lia)
  |int b=>obtain⟨tb,rfl⟩:=ry;exact SeqAt.RcNeAt.tuple_int b tb pa (by lia)
  |str b=>obtain⟨tb,rfl⟩:=ry;exact SeqAt.RcNeAt.tuple_str b tb pa (by lia)
  |@tup cb nT lN eb rb=>cases ry;obtain⟨bR,kr,pb⟩:=sb.isTup I eb;exact(by
   have hd:A.units+(bf pN+1)<cLine:=hu;have items:iS A s eV bR pN lN:=fun j h1 h2=>ku I sb pN (A:=A.in1) ra rb BV kr (by show A.units+1+bf pN<cLine;lia) (dh eV j h1) (dh bR j h2);exact vQ (by lia) pa pb (BV.length.symm.trans ra.length) (kr.length.symm.trans rb.length) items)
  |@lst cb nT lN eb rb=>cases ry;obtain⟨bR,kr,pb⟩:=sb.dP I eb;exact SeqAt.RcNeAt.tuple_list pa pb (by lia)
 |@lst ca U0 pN ea ra=>
  cases rx;obtain⟨eV,BV,pa⟩:=sb.dP I ea;cases r2 with
  |bQ=>cases ry;exact SeqAt.RcNeAt.list_none pa (by lia)
  |bl b=>cases ry;exact SeqAt.RcNeAt.list_bool b pa (by lia)
  |int b=>obtain⟨tb,rfl⟩:=ry;exact SeqAt.RcNeAt.list_int b tb pa (by lia)
  |str b=>obtain⟨tb,rfl⟩:=ry;exact SeqAt.RcNeAt.list_str b tb pa (by lia)
  |@tup cb nT lN eb rb=>cases ry;obtain⟨bR,kr,pb⟩:=sb.isTup I eb;exact SeqAt.RcNeAt.list_tuple pa pb (by lia)
  |@lst cb nT lN eb rb=>cases ry;obtain⟨bR,kr,pb⟩:=sb.dP I eb;exact(by
   have hd:A.units+(bf pN+1)<cLine:=hu;have items:iS A s eV bR pN lN:=fun j h1 h2=>ku I sb pN (A:=A.in1) ra rb BV kr (by show A.units+1+bf pN<cLine;lia) (dh eV j h1) (dh bR j h2);exact xY (by lia) pa pb (BV.length.symm.trans ra.length) (kr.length.symm.trans rb.length) items)
def xR:List D->Option U
 |[a,b]=>if bA a<=40 then some (.t (.bl (gQ a b))) else none
 |_=>none
def xZ:List D->Option U
 |[a,b]=>if bA a<=40 then some (.t (.bl (!gQ a b))) else none
 |_=>none
def eZ (hu:X.A.units+64<cLine):xP X (compareOp .Eq) xR:=by
 intro pins s σ H x y v u Q I rx ry ⟨F,ds,w,sb,rs,hw,q⟩;obtain⟨d,e,rfl,r1,r2⟩:=vJ rs;obtain⟨hd,rfl⟩:=bW (show(if bA d<=40 then some (U.t (.bl (gQ d e))) else none)=some w from hw);exact U1 I sb r1 r2 rx ry (by lia) _ _ _ _ ⟨.bl _,H,I,rfl,q _ F H (fV.refl ..) sb (.bl _)⟩
def mJ (hu:X.A.units+64<cLine):xP X (compareOp .NotEq) xZ:=by
 intro pins s σ H x y v u Q I rx ry ⟨F,ds,w,sb,rs,hw,q⟩;obtain⟨d,e,rfl,r1,r2⟩:=vJ rs;obtain⟨hd,rfl⟩:=bW (show(if bA d<=40 then some (U.t (.bl (!gQ d e))) else none)=some w from hw);exact My I sb r1 r2 rx ry (by lia) _ _ _ _ ⟨.bl _,H,I,rfl,q _ F H (fV.refl ..) sb (.bl _)⟩
def inD (x:D) (ds:List D):Bool:=ds.any fun y=>gQ y x
def Jw:List D->Option U
 |[x,.tup ds]=>if bf ds<=40 then some (.t (.bl (inD x ds))) else none
 |[x,.lst ds]=>if bf ds<=40 then some (.t (.bl (inD x ds))) else none
 |[.str i,.str j]=>some (.t (.bl (!(Builtin.Str.occurrences j i 0 j.length 1).isEmpty)))
 |_=>none
def RelV.uniq {v w':V}{u:Value}(a:RelV v u) (b:RelV w' u):v=w':=by
 cases v<;>cases w'<;>simp only[RelV] at a b<;>first
  |rfl
  |(subst a;cases b;done)
  |(subst a;cases b;rfl)
  |(obtain⟨t,rfl⟩:=a;obtain⟨t',e⟩:=b;cases e;done)
  |(obtain⟨t,rfl⟩:=a;obtain⟨t',e⟩:=b;cases e;rfl)
  |(obtain⟨t,rfl⟩:=a;cases b;done)
  |(obtain⟨t,rfl⟩:=b;cases a;done)
open Classical in
def C3 (F:Hp) (d:D) (y:Value):Bool:=if h:∃(v:V) (dd:D),RelV v y/\Rep F v dd then gQ (Classical.choose (acp h)) d else false
def Jx {v:V}{dd d:D}{y:Value}(a:RelV v y) (r:Rep F v dd):C3 F d y=gQ dd d:=by
 unfold C3;have h:∃(v:V) (dd:D),RelV v y/\Rep F v dd:=⟨v,dd,a,r⟩
 rw[dif_pos h];have k:=acp (acp h);have e1:=RelV.uniq k.1 a;have r':Rep F (Classical.choose h) dd:=by rw[e1];exact r
 rw[Rep.uniq k.2 r']
theorem nU (I:Inv X pins σ H s) (sb:Sub F H){A:Around}{x:V}{u:Value}{d:D}(r:Rep F x d) (rx:RelV x u):∀{vs:List V}{ds:List D}{its:AAL},bq F vs ds->Vals vs its->A.units+bf ds<cLine->
  (∀y∈its,SeqAt.EqAt A s y u (C3 F d y))/\its.any (C3 F d)=inD d ds
 |_,_,_,.nil,.nil,_=>⟨(fun y hy=>absurd hy (by simp)),rfl⟩
 |_,_,_,@bq.cons _ v dd vs ds r1 rs,.cons q qs,hu=>by
  have hd:A.units+max (bA dd) (bf ds)<cLine:=hu;obtain⟨h1,h2⟩:=nU I sb (A:=A) r rx rs qs (by lia);refine⟨fun y hy=>?_,?_⟩
  ·rcases aao.mp hy with rfl|hy
   ·rw[Jx q r1];exact OI I sb dd r1 r q rx (by lia)
   ·exact h1 y hy
  ·rw[acJ,h2,Jx q r1];rfl
def vR (hu:X.A.units+64<cLine):xP X (compareOp .In) Jw:=by
 intro pins s σ H x y v u Q I rx ry ⟨F,ds,w,sb,rs,hw,q⟩;obtain⟨d,e,rfl,r1,r2⟩:=vJ rs;cases e with
 |tup ds=>
  obtain⟨hd,rfl⟩:=bW (show(if bf ds<=40 then some (U.t (.bl (inD d ds))) else none)=some w by cases d<;>exact hw);obtain⟨a,vs,rfl,fa,ha,rs⟩:=sb.jN r2;cases ry;obtain⟨its,rv,p⟩:=sb.isTup I fa;obtain⟨h1,h2⟩:=nU I sb (A:=X.A.in1) r1 rx rs rv (by show X.A.units+1+bf ds<cLine;lia);refine SeqAt.in_tupleAt (C3 F d) p (fun y hy=>h1 y (by simpa using hy)) ⟨.bl _,H,I,rfl,?_⟩;rw[show its.toArray.any (C3 F d)=its.any (C3 F d) by simp,h2];exact q _ F H (fV.refl ..) sb (.bl _)
 |lst ds=>
  obtain⟨hd,rfl⟩:=bW (show(if bf ds<=40 then some (U.t (.bl (inD d ds))) else none)=some w by cases d<;>exact hw);obtain⟨a,vs,rfl,fa,ha,rs⟩:=sb.gF r2;cases ry;obtain⟨its,rv,p⟩:=sb.dP I fa;obtain⟨h1,h2⟩:=nU I sb (A:=X.A.in1) r1 rx rs rv (by show X.A.units+1+bf ds<cLine;lia);refine SeqAt.in_listAt (C3 F d) p (fun y hy=>h1 y (by simpa using hy)) ⟨.bl _,H,I,rfl,?_⟩;rw[show its.toArray.any (C3 F d)=its.any (C3 F d) by simp,h2];exact q _ F H (fV.refl ..) sb (.bl _)
 |str j=>
  cases d<;>try (cases hw;done)
  rename_i i;cases hw;cases r1;cases r2;exact Gn pins s σ H _ _ v u Q I rx ry ⟨i,j,rfl,rfl,q _ F H (fV.refl ..) sb (.bl _)⟩
 |bQ=>cases d<;>(cases hw;done)
 |bl b=>cases d<;>(cases hw;done)
 |int b=>cases d<;>(cases hw;done)
end
def DF (T:String) (d:D):Option Bool:=match T with
 | "tuple"=>some (Jd d)
 | "list"=>some (Je d)
 | "str"=>some (Jf d)
 | "bool"=>some (Jg d)
 | "int"=>some (Jh d)
 |_=>none
def Jy {d:D}{b:Bool}(h:DF T d=some b):PySem.W.kitOne K (.type (Ql d)) (.type T)=some b:=by
 unfold DF at h;split at h
 ·cases h;exact Mm d
 ·cases h;exact Mn d
 ·cases h;exact Ji d
 ·cases h;exact Qm d
 ·cases h;exact Mp d
 ·cases h
def uH:List String->D->Option Bool
 |[],_=>some false
 |T::Ts,d=>match DF T d with
  |some true=>some true
  |some false=>uH Ts d
  |none=>none
section
variable {X:Cx}{pins:AAG}{σ:St}{F H:Hp}{s:Shared}
def Mz (I:Inv X pins σ H s) (sb:Sub F H){x:V}{u:Value}{d:D}{c:Value}{b:Bool}(r:Rep F x d) (rx:RelV x u) (e:PySem.W.kitOne X.K (.type (Ql d)) c=some b) (h:∀tk,Q (.bool b) {s with toks:=tk}):
  wpAny (model X.prog X.w) A (call (.builtin "isinstance") [u,c]) Q E s:=by
 cases r with
 |bQ=>cases rx;exact acS PySem.W.kitx_none I.zI True.intro e (fun z=>nomatch z) h
 |bl y=>cases rx;exact acS PySem.W.kitx_bool I.zI True.intro e (fun z=>nomatch z) h
 |int i=>obtain⟨t,rfl⟩:=rx;exact acS PySem.W.kitx_int I.zI True.intro e (fun z=>nomatch z) h
 |str y=>obtain⟨t,rfl⟩:=rx;exact acS PySem.W.kitx_str I.zI True.intro e (fun z=>nomatch z) h
 |tup ea _=>
  cases rx;obtain⟨its,_,o,h1,h2,_⟩:=sb.isTup I ea;exact acS PySem.W.kitx_tuple I.zI ⟨o,h1,h2⟩ e (fun z=>nomatch z) h
 |lst ea _=>
  cases rx;obtain⟨its,_,o,h1,h2,_⟩:=sb.dP I ea;exact acS PySem.W.kitx_list I.zI ⟨o,h1,h2⟩ e (fun z=>nomatch z) h
end
def EM (Ts:List String) (g:GD):GD:=fun S=>(g S).bind fun p=>(uH Ts p.1).map fun b=>(.bl b,p.2)
section
variable {X:Cx}{a b e:Expr}{pos p px:Pos}{x y:Str}{ga:GD}
def GW {d:D}{b:Bool}(h:uH [T] d=some b):DF T d=some b:=by
 unfold uH at h;cases e:DF T d with
 |none=>rw[e] at h;cases h
 |some k=>rw[e] at h;cases k<;>exact h
def lO (hg:Gl X "isinstance") (hm:X.mg "isinstance" =none) (U3:Gl X y) (hm2:X.mg y=none) (hv2:bootBuiltins y=some (.type T)) (ha:JD X a ga) (hn2:y≠"__name__":=by decide) (hd2:BBT y:=by decide)
  (hs:starEach [a,.Name y px] X.env=(false,eval a X.env)::starEach [.Name y px] X.env:=by rfl) (hs2:starEach [.Name y px] X.env=(false,eval (.Name y px) X.env)::starEach [] X.env:=by rfl) (hpl:(backTo pos (starEach [.Name y px] X.env)).any (·.1)=false:=by rfl):
  JD X (.Call (.Name "isinstance" p) [a,.Name y px] [] pos) (EM [T] ga):=⟨fun B=>
 (kg (r:=fun xs H Q=>∃x F d b,xs=[x,.ty T]/\Sub F H/\Rep F x d/\DF T d=some b/\Q (.bl b) H) (fun pins s σ H xs us Q I r hh=>by
   obtain⟨x,F,d,b,e1,sb,rd,hk,q⟩:=hh;subst e1;obtain⟨u,w',rfl,ru,rw'⟩:=vals2 r;cases rw';exact Mz I sb rd ru (Jy hk) fun tk=>⟨.bl b,H,I.tok tk,rfl,q⟩) hg hm PyProof.Rows.Boot.isinstance (gj (ha.h B) (gj (LR (v:=.ty T) U3 hm2 hv2 rfl hn2 hd2) k7 hs2) hs) (by decide) (by decide) hs hpl).imp fun σ H Q hh=>by
 obtain⟨S,F,d,S',R,hg,q⟩:=hh;obtain⟨⟨d1,S1⟩,h1,hg⟩:=aj hg;obtain⟨k,h2,hg⟩:=au hg;cases hg;exact⟨S,F,d1,_,R,h1,fun v F1 H1 R1 st1 r1=>⟨v,F1,d1,k,rfl,R1.sub,r1,GW h2,q _ F1 H1 R1 st1 (.bl k)⟩⟩⟩
noncomputable def kB:List D->Option (List Bool)
 |[]=>some []
 |.bl b::ds=>(kB ds).map fun bs=>b::bs
 |_=>none
theorem nW {F:Hp}:∀{vs:List V}{ds:List D}{bs:List Bool},bq F vs ds->kB ds=some bs->vs=bs.map V.bl
 |_,_,_,.nil,h=>by cases h;rfl
 |_,_,_,@bq.cons _ v d vs ds r rs,h=>by
  cases d<;>try (cases h;done)
  obtain⟨bs,h1,h2⟩:=au (show(kB ds).map _=_ from h);subst h2;rw[ji r,nW rs h1];rfl
def Jz:List D->Option U
 |[.lst ds]=>(kB ds).map fun bs=>.t (.bl (bs.all id))
 |_=>none
def JC:List D->Option U
 |[.lst ds]=>(kB ds).map fun bs=>.t (.bl (bs.any id))
 |_=>none
def rF {P:D->Prop}{F:Hp}{f:List D->Option U}{w':U}(rs:bq F xs ds) (h:f ds=some w') (hn:f []=none) (h2:∀a b r,f (a::b::r)=none):∃x d,xs=[x]/\ds=[d]/\Rep F x d:=by
 cases rs with
 |nil=>rw[hn] at h;cases h
 |cons r rs=>
  cases rs with
  |nil=>exact⟨_,_,rfl,rfl,r⟩
  |cons _ _=>rw[h2] at h;cases h
def GX (hc:X.calm=true):gD X (.builtin "all") (rP Jz):=by
 intro pins s σ H xs us Q I r ⟨F,ds,w,sb,rs,hw,q⟩;obtain⟨x,d,rfl,rfl,r1⟩:=rF (P:=fun _=>True) rs hw rfl (fun d _ _=>by cases d<;>rfl);cases d<;>try (cases hw;done)
 rename_i ds;obtain⟨bs,h1,rfl⟩:=au (show(kB ds).map _=some w from hw);obtain⟨a,vs,rfl,fa,ha,nh⟩:=sb.gF r1;obtain rfl:=nW nh h1;exact GG hc pins s σ H _ us Q I r ⟨a,bs,rfl,.inl ha,q _ F H (fV.refl ..) sb (.bl _)⟩
def GY (hc:X.calm=true):gD X (.builtin "any") (rP JC):=by
 intro pins s σ H xs us Q I r ⟨F,ds,w,sb,rs,hw,q⟩;obtain⟨x,d,rfl,rfl,r1⟩:=rF (P:=fun _=>True) rs hw rfl (fun d _ _=>by cases d<;>rfl);cases d<;>try (cases hw;done)
 rename_i ds;obtain⟨bs,h1,rfl⟩:=au (show(kB ds).map _=some w from hw);obtain⟨a,vs,rfl,fa,ha,nh⟩:=sb.gF r1;obtain rfl:=nW nh h1;exact GH hc pins s σ H _ us Q I r ⟨a,bs,rfl,.inl ha,q _ F H (fV.refl ..) sb (.bl _)⟩
noncomputable def U4:List D->Option U
 |[.int i,.int j,.int k]=>some (.t (.int (if j<i then(if k<j then k else j) else if k<i then k else i)))
 |_=>none
noncomputable def EN:List D->Option U
 |[.int i,.int j]=>some (.t (.int (if j<i then j else i)))
 |_=>none
def DG (hc:X.calm=true):gD X (.builtin "min") (rP EN):=by
 intro pins s σ H xs us Q I r ⟨F,ds,w,sb,rs,hw,q⟩;unfold EN at hw;split at hw
 ·rename_i i j;cases hw;cases rs with
  |cons r1 rs=>cases rs with
   |cons r2 rs=>
    cases rs;rw[gm r1,gm r2] at r;exact Gp hc pins s σ H _ us Q I r ⟨i,j,rfl,q _ F H (fV.refl ..) sb (.int _)⟩
 ·cases hw
noncomputable def BW:List D->Option U
 |[.tup ds]=>some (.m (.lst ds))
 |[.lst ds]=>some (.m (.lst ds))
 |_=>none
noncomputable def g7:List D->Option U
 |[.tup ds]=>some (.t (.tup ds))
 |[.lst ds]=>some (.t (.tup ds))
 |_=>none
def DH:gD X (.type "list") (rP BW):=by
 intro pins s σ H xs us Q I r ⟨F,ds,w,sb,rs,hw,q⟩;obtain⟨x,d,rfl,rfl,r1⟩:=rF (P:=fun _=>True) rs hw rfl (fun d _ _=>by cases d<;>rfl);cases d<;>try (cases hw;done)
 ·cases hw;obtain⟨a,vs,rfl,fa,ha,nh⟩:=sb.jN r1;exact rz pins s σ H _ us Q I r ⟨a,vs,rfl,.inr (.inl ha),fun p hp=>q _ F _ (fV.obj hp _) (sb.same (fV.obj (F:=F) hp _).same) ⟨p,rfl,hp,sb.fresh hp,vs,aO,nh⟩⟩
 ·cases hw;obtain⟨a,vs,rfl,fa,ha,nh⟩:=sb.gF r1;exact rz pins s σ H _ us Q I r ⟨a,vs,rfl,.inl (.inl ha),fun p hp=>q _ F _ (fV.obj hp _) (sb.same (fV.obj (F:=F) hp _).same) ⟨p,rfl,hp,sb.fresh hp,vs,aO,nh⟩⟩
def gG:gD X (.type "tuple") (rP g7):=by
 intro pins s σ H xs us Q I r ⟨F,ds,w,sb,rs,hw,q⟩;obtain⟨x,d,rfl,rfl,r1⟩:=rF (P:=fun _=>True) rs hw rfl (fun d _ _=>by cases d<;>rfl);cases d<;>try (cases hw;done)
 ·cases hw;have r0:=r1;obtain⟨a,vs,rfl,fa,ha,nh⟩:=sb.jN r1;exact pR pins s σ H _ us Q I r ⟨a,vs,rfl,.inr ⟨.inl ha,q _ F H (fV.refl ..) sb r0⟩⟩
 ·cases hw;obtain⟨a,vs,rfl,fa,ha,nh⟩:=sb.gF r1;exact pR pins s σ H _ us Q I r ⟨a,vs,rfl,.inl ⟨.inl ha,fun p hp=>q _ _ _ (fV.root sb hp _) (sb.vG hp) (.tup aO (nh.le (fU (sb.fresh hp))))⟩⟩
end
def qZ.ky {k:Key}(e:H a=some (.dK kvs)) (h:P8 y k):qZ H a y (qo kvs k):=.inl ⟨kvs,k,.inl e,h,rfl⟩
def zR.ky {k:Key}{v:V}(e:H a=some (.dK kvs)) (h:P8 y k) (hl:kvs.length<sizeLine):zR H a y v (upd H a (.dK (putK kvs k v))):=.inl ⟨kvs,k,e,h,hl,rfl⟩
def keyOf:D->Option Key
 |.bl b=>some (.inl (bI b))
 |.int i=>some (.inl i)
 |.str z=>some (.inr z)
 |_=>none
def yI {F:Hp}{v:V}{d:D}{k:Key}(r:Rep F v d) (h:keyOf d=some k):P8 v k:=by
 cases r<;>cases h<;>first|exact .inl rfl|exact .inr ⟨_,rfl,rfl⟩
noncomputable def dF {κ:Type} [DecidableEq κ] (kvs:List (κ×D)) (k:κ):Option D:=(kvs.find? fun kv=>decide (kv.1=k)).map (·.2)
noncomputable def putD {κ:Type} [DecidableEq κ] (kvs:List (κ×D)) (k:κ) (d:D):List (κ×D):=
 if(kvs.any fun kv=>decide (kv.1=k))=true then kvs.map (fun kv=>if kv.1=k then(kv.1,d) else kv) else kvs++[(k,d)]
theorem lP {κ:Type} [DecidableEq κ] {F:Hp}{k:κ}{d:D}:∀{ws:List (κ×V)}{kvs:List (κ×D)},Paired (ff F) ws kvs->dF kvs k=some d->∃v,qo ws k=some v/\Rep F v d
 |_,_,.nil,h=>by cases h
 |_,_,@Paired.cons _ _ _ p q ws kvs r rs,h=>by
  by_cases e:q.1=k
  ·have e':p.1=k:=r.1.trans e;refine⟨p.2,qY e',?_⟩;have:dF (q::kvs) k=some q.2:=by simp[dF,abN,e]
   rw[this] at h;cases h;exact r.2
  ·have e':¬p.1=k:=fun z=>e (r.1.symm.trans z);have:dF (q::kvs) k=dF kvs k:=by simp[dF,abN,e]
   rw[this] at h;obtain⟨v,h1,h2⟩:=lP rs h;exact⟨v,by rw[nJ e'];exact h1,h2⟩
theorem yJ {κ:Type} [DecidableEq κ] {F:Hp}{k:κ}:∀{ws:List (κ×V)}{kvs:List (κ×D)},Paired (ff F) ws kvs->dF kvs k=none->qo ws k=none
 |_,_,.nil,h=>rfl
 |_,_,@Paired.cons _ _ _ p q ws kvs r rs,h=>by
  by_cases e:q.1=k
  ·have:dF (q::kvs) k=some q.2:=by simp[dF,abN,e]
   rw[this] at h;cases h
  ·have e':¬p.1=k:=fun z=>e (r.1.symm.trans z);have:dF (q::kvs) k=dF kvs k:=by simp[dF,abN,e]
   rw[this] at h;rw[nJ e'];exact yJ rs h
theorem BX {κ:Type} [DecidableEq κ] {F:Hp}{k:κ}:∀{ws:List (κ×V)}{kvs:List (κ×D)},Paired (ff F) ws kvs->(ws.any fun kv=>decide (kv.1=k))=(kvs.any fun kv=>decide (kv.1=k))
 |_,_,.nil=>rfl
 |_,_,.cons r rs=>by rw[acJ,acJ,BX rs,r.1]
theorem BY {κ:Type} [DecidableEq κ] {F:Hp}{k:κ}{v:V}{d:D}(r:Rep F v d):∀{ws:List (κ×V)}{kvs:List (κ×D)},Paired (ff F) ws kvs->Paired (ff F) (ws.map fun kv=>if kv.1=k then(kv.1,v) else kv) (kvs.map fun kv=>if kv.1=k then(kv.1,d) else kv)
 |_,_,.nil=>.nil
 |_,_,@Paired.cons _ _ _ p q ws kvs h hs=>by
  refine .cons ?_ (BY r hs);show ff F (if p.1=k then(p.1,v) else p) (if q.1=k then(q.1,d) else q);rw[h.1];by_cases e:q.1=k
  ·rw[if_pos e,if_pos e];exact⟨rfl,r⟩
  ·rw[if_neg e,if_neg e];exact h
theorem uI {α β:Type}{P:α->β->Prop}{x:α}{y:β}(p:P x y):∀{l:List α}{r:List β},Paired P l r->Paired P (l++[x]) (r++[y])
 |_,_,.nil=>.cons p .nil
 |_,_,.cons q qs=>.cons q (uI p qs)
def rG {κ:Type} [DecidableEq κ] {F:Hp}{k:κ}{v:V}{d:D}{ws:List (κ×V)}{kvs:List (κ×D)}(h:Paired (ff F) ws kvs) (r:Rep F v d):Paired (ff F) (putK ws k v) (putD kvs k d):=by
 unfold putK putD;rw[BX h];by_cases e:(kvs.any fun kv=>decide (kv.1=k))=true
 ·rw[if_pos e,if_pos e];exact BY r h
 ·rw[if_neg e,if_neg e];exact uI ⟨rfl,r⟩ h
def Al:D->Option D
 |.tup ds=>if fY 8 (.tup ds)=true then some (nf (.tup ds)) else none
 |_=>none
def nX {F:Hp}{v:V}{d:D}{ks:D}(sb:Sub F H) (r:Rep F v d) (h:Al d=some ks):∃b,v= .ref b/\Kd H b ks:=by
 cases r with
 |@tup a vs ds e rs=>
  obtain⟨h1,h2⟩:=bW (show(if fY 8 (.tup ds)=true then some (nf (.tup ds)) else none)=some ks from h);subst h2;exact⟨a,rfl,_,Rep.le sb (.tup e rs),h1,rfl⟩
 |bQ=>cases h
 |bl _=>cases h
 |int _=>cases h
 |str _=>cases h
 |lst _ _=>cases h
noncomputable def QA:D ⊕ Addr->Option D
 |.inl d=>some d
 |.inr _=>none
def DI {α β:Type}{P:α->β->Prop}{l:List α}{r:List β}{i:Int}{y:β}(p:Paired P l r) (h:dX r i=some y):∃x,dX l i=some x/\P x y:=by
 obtain⟨j,h1,h2⟩:=aj h;obtain⟨x,k1,k2⟩:=g6 p h2;refine⟨x,?_,k2⟩;unfold dX;rw[p.length,h1];exact k1
def rH:U->D->Option D
 |.t (.tup ds),.int i=>dX ds i
 |.t (.lst ds),.int i=>dX ds i
 |.m (.lst ds),.int i=>dX ds i
 |.b (.lst ds),.int i=>dX ds i
 |.s ns,.int i=>(dX ns i).map D.int
 |.m (.dct kvs),k=>(keyOf k).bind (dF kvs)
 |.b (.dct kvs),k=>(keyOf k).bind (dF kvs)
 |.m (.Dv kvs),k=>(Al k).bind (dF kvs)
 |.b (.Dv kvs),k=>(Al k).bind (dF kvs)
 |.m (.gap es),.int i=>(dX es i).bind QA
 |.b (.gap es),.int i=>(dX es i).bind QA
 |_,_=>none
def eG (i:Nat) (gb:GD):GD:=fun S=>match S[i]? with
 |some (some _)=>(gb S).bind fun p=>match p.2[i]? with
  |some (some u)=>(rH u p.1).map fun d=>(d,p.2)
  |_=>none
 |_=>none
def MA (f:α->β){l:List α}{i:Int}{x:α}(h:dX l i=some x):dX (l.map f) i=some (f x):=by
 unfold dX at h ⊢;rw[aai];obtain⟨j,h1,h2⟩:=aj h;rw[h1];show(l.map f)[j]? =_;rw[aaI,h2];rfl
section
variable {X:Cx}{a b c:Expr}{es:BBC}{pos p px:Pos}{x y:Str}{gb:GD}
def QB (hu:X.A.units+20<cLine) (hb:JD X b gb) (hs:pA b:=by first|(intro _ _;rfl)) (hN:X.N[i]? =some x:=by rfl) (hv:qj X.env.scope x:=by first|exact Or.inl rfl|exact Or.inr (Or.inl rfl)|exact Or.inr (Or.inr rfl))
  (hd:BBT x:=by decide) (hcd:BBU x:=by decide):JD X (.Subscript (.Name x px) b pos) (eG i gb):=⟨fun B=>PE.orelse fun σ H Q hh=>by
 obtain⟨S,F,d,S',R,hg,q⟩:=hh;unfold eG at hg;split at hg
 ·rename_i u0 DJ;obtain⟨v0,hv0,_⟩:=R.rep i u0 DJ;obtain⟨⟨k,S1⟩,h1,hg⟩:=aj hg;dsimp only at hg;split at hg
  ·rename_i u hS;obtain⟨d',hr,hg⟩:=au hg;cases hg;have C2:∀F1 H1,Rel X.K B S' σ F1 H1->BQ X.K F1 H1 v0 u:=fun F1 H1 R1=>by
    obtain⟨v,k1,k2⟩:=R1.rep i u hS;rw[hv0] at k1;cases k1;exact k2
   have seq:∀(Y:V->V->Hp->VK->Prop),PE X (.Subscript (.Name x px) b pos) (Oo Y (zK i) (tD X.K B gb))->(∀v F1 H1,Rel X.K B S' σ F1 H1->Step S S' σ F H F1 H1->Rep F1 v k->Y v0 v H1 Q)->∃t',PE X (.Subscript (.Name x px) b pos) t'/\t' σ H Q:=fun Y hY h=>
    ⟨_,hY,v0,hv0,S,F,k,S',R,h1,fun v F1 H1 R1 st1 r1=>h v F1 H1 R1 st1 r1⟩
   have dict:∀kvs,(∀F1 H1,Rel X.K B S' σ F1 H1->∃a ws,v0= .ref a/\H1 a=some (.dK ws)/\Paired (ff F1) ws kvs)->(keyOf k).bind (dF kvs)=some d->∃t',PE X (.Subscript (.Name x px) b pos) t'/\t' σ H Q:=fun kvs hat hr=>by
    obtain⟨kk,e1,e2⟩:=aj hr;refine⟨_,zT hu (bZ hN hv hd hcd) (hb.h B) hs,v0,hv0,S,F,k,S',R,h1,fun v F1 H1 R1 st1 r1=>?_⟩;obtain⟨a,ws,rfl,ha,pr⟩:=hat F1 H1 R1;obtain⟨w',z1,z2⟩:=lP pr e2;exact⟨a,w',rfl,by rw[<-z1];exact qZ.ky ha (yI r1 e1),q w' F1 H1 R1 st1 z2⟩
   have BZ:∀kvs,(∀F1 H1,Rel X.K B S' σ F1 H1->∃a ws,v0= .ref a/\H1 a=some (.dT ws)/\Paired (ff F1) ws kvs)->(Al k).bind (dF kvs)=some d->∃t',PE X (.Subscript (.Name x px) b pos) t'/\t' σ H Q:=fun kvs hat hr=>by
    obtain⟨kk,e1,e2⟩:=aj hr;refine⟨_,zT hu (bZ hN hv hd hcd) (hb.h B) hs,v0,hv0,S,F,k,S',R,h1,fun v F1 H1 R1 st1 r1=>?_⟩;obtain⟨a,ws,rfl,ha,pr⟩:=hat F1 H1 R1;obtain⟨w',z1,z2⟩:=lP pr e2;obtain⟨b',rfl,hb'⟩:=nX R1.sub r1 e1;exact⟨a,w',rfl,by rw[<-z1];exact qZ.t ha hb',q w' F1 H1 R1 st1 z2⟩
   have list:∀ds ii,k= .int ii->dX ds ii=some d->(∀F1 H1,Rel X.K B S' σ F1 H1->∃a vs,v0= .ref a/\(lE X.K H1 a vs\/yt X.K H1 a vs)/\bq F1 vs ds)->∃t',PE X (.Subscript (.Name x px) b pos) t'/\t' σ H Q:=fun ds ii ek hrr hat=>by
    subst ek;refine seq _ (BL zY (bZ hN hv hd hcd) (hb.h B) hs) fun v F1 H1 R1 st1 r1=>?_;obtain⟨a,vs,rfl,ha,rs⟩:=hat F1 H1 R1;obtain⟨w',z1,z2⟩:=rs.dX hrr;rw[gm r1];rcases ha with ha|ha
    ·exact .inl ⟨a,vs,ii,w',rfl,rfl,ha,z1,q w' F1 H1 R1 st1 z2⟩
    ·exact .inr (.inl ⟨a,vs,ii,w',rfl,rfl,ha,z1,q w' F1 H1 R1 st1 z2⟩)
   have gap:∀es ii,k= .int ii->(dX es ii).bind QA=some d->(∀F1 H1,Rel X.K B S' σ F1 H1->∃a vs,v0= .ref a/\H1 a=some (.lst vs)/\Paired (Ac F1) vs es)->∃t',PE X (.Subscript (.Name x px) b pos) t'/\t' σ H Q:=fun es ii ek hrr hat=>by
    subst ek;obtain⟨y,e1,e2⟩:=aj hrr;cases y with
    |inr c=>cases e2
    |inl d'=>
     cases e2;refine seq _ (BL zY (bZ hN hv hd hcd) (hb.h B) hs) fun v F1 H1 R1 st1 r1=>?_;obtain⟨a,vs,rfl,ha,rs⟩:=hat F1 H1 R1;obtain⟨w',z1,z2⟩:=DI rs e1;rw[gm r1];exact .inl ⟨a,vs,ii,w',rfl,rfl,lE.of ha,z1,q w' F1 H1 R1 st1 z2⟩
   unfold rH at hr;split at hr
   ·rename_i ds ii;exact list ds ii rfl hr fun F1 H1 R1=>let⟨a,vs,e1,fa,ha,rs⟩:=R1.sub.jN (C2 F1 H1 R1);⟨a,vs,e1,.inr (.inl ha),rs⟩
   ·rename_i ds ii;exact list ds ii rfl hr fun F1 H1 R1=>let⟨a,vs,e1,fa,ha,rs⟩:=R1.sub.gF (C2 F1 H1 R1);⟨a,vs,e1,.inl (.inl ha),rs⟩
   ·rename_i ds ii;exact list ds ii rfl hr fun F1 H1 R1=>let⟨a,e1,fa,vs,ha,rs⟩:=C2 F1 H1 R1;⟨a,vs,e1,.inl (lE.of ha),rs⟩
   ·rename_i ds ii;exact list ds ii rfl hr fun F1 H1 R1=>let⟨a,e1,fa,vs,ha,rs⟩:=C2 F1 H1 R1;⟨a,vs,e1,.inl (lE.of ha),rs⟩
   ·rename_i ns ii;obtain⟨n,z1,z2⟩:=au hr;subst z2;refine seq _ (BL zY (bZ hN hv hd hcd) (hb.h B) hs) fun v F1 H1 R1 st1 r1=>?_;obtain⟨a,e1,ha⟩:=C2 F1 H1 R1;rw[gm r1];exact .inl ⟨a,ns.map V.int,ii,.int n,e1,rfl,ha.sq,MA V.int z1,q _ F1 H1 R1 st1 (.int n)⟩
   ·rename_i kvs;exact dict kvs (fun F1 H1 R1=>let⟨a,e1,fa,ws,ha,pr⟩:=C2 F1 H1 R1;⟨a,ws,e1,ha,pr⟩) hr
   ·rename_i kvs;exact dict kvs (fun F1 H1 R1=>let⟨a,e1,fa,ws,ha,pr⟩:=C2 F1 H1 R1;⟨a,ws,e1,ha,pr⟩) hr
   ·rename_i kvs;exact BZ kvs (fun F1 H1 R1=>let⟨a,e1,fa,ws,ha,pr⟩:=C2 F1 H1 R1;⟨a,ws,e1,ha,pr⟩) hr
   ·rename_i kvs;exact BZ kvs (fun F1 H1 R1=>let⟨a,e1,fa,ws,ha,pr⟩:=C2 F1 H1 R1;⟨a,ws,e1,ha,pr⟩) hr
   ·rename_i es ii;exact gap es ii rfl hr fun F1 H1 R1=>let⟨a,e1,fa,vs,ha,pr⟩:=C2 F1 H1 R1;⟨a,vs,e1,ha,pr⟩
   ·rename_i es ii;exact gap es ii rfl hr fun F1 H1 R1=>let⟨a,e1,fa,vs,ha,pr⟩:=C2 F1 H1 R1;⟨a,vs,e1,ha,pr⟩
   ·cases hr
  ·cases hg
 ·cases hg⟩
noncomputable def B0:U->Option Nat
 |.t (.tup ds)=>some ds.length
 |.t (.lst ds)=>some ds.length
 |.t (.str z)=>if z.length<=100000 then some z.length else none
 |.m (.lst ds)=>some ds.length
 |.b (.lst ds)=>some ds.length
 |.m (.dct ds)=>some ds.length
 |.b (.dct ds)=>some ds.length
 |.m (.Dv ds)=>some ds.length
 |.b (.Dv ds)=>some ds.length
 |.s ns=>some ns.length
 |_=>none
def rJ (i:Nat):GD:=fun S=>match S[i]? with
 |some (some u)=>(B0 u).map fun n=>(.int (n:Nat),S)
 |_=>none
theorem bX {α β:Type}{P:α->β->Prop}:∀{l:List α}{r:List β},Paired P l r->l.length=r.length
 |_,_,.nil=>rfl
 |_,_,.cons _ ps=>congrArg Nat.succ (bX ps)
def DK {w:World}{K:Type} [DecidableEq K] (knd:HeapKind prog w K) (d:Addr) (hd:(d == sysModules)=false):
  MeetsIn prog w (Builtin.«dict.__len__» ⟨[.ref d],[]⟩) (fun _ R s=>∃xs,s.heap.DictOfH knd d xs/\R (.ok (.ret (.int xs.length s.toks))) {s with toks:=s.toks+1}):=
 .of_wp fun A R s hh=>by
  obtain⟨xs,hm,h⟩:=hh;obtain⟨o,es,ep,ho,hc,hdat,he,his,hn⟩:=hm;show wpAny _ _ (dictSize d >>= _) _ _ s;unfold dictSize;refine aab (aab (wpAny_dictEntries ho hdat (wpAny_pure ?_)));show wpAny _ _ (Builtin.Dict.pendingCount d >>= _) _ _ s;refine aab (wpAny_pendingCount_other hd ?_);refine wpAny_ret_mkInt ?_;rw[Nat.add_zero,size_of_entries he];exact h
def GZ {w:World}{K:Type} [DecidableEq K] {knd:HeapKind prog w K}{s:Shared}{d:Addr}{xs:List (K×Addr×Value)}(hd:(d == sysModules)=false) (hm:s.heap.DictOfH knd d xs) (hfit:(xs.length:Int)<2 ^ 63)
  (h:Q (.int xs.length (s.toks+1)) {s with toks:=s.toks+1+1}):wpAny (model prog w) A (Builtin.«len» ⟨[.ref d],[]⟩) (fun fin s'=>∃r,fin= .done (.ret r)/\Q r s') E s:=by
 unfold Builtin.«len»
 refine aab (m:=oneArg "len" _) (wpAny_pure ?_);refine aab (m:=callSpecial? (.ref d) (Str.ofString "__len__")) (abX (name:=Str.ofString "__len__") hm.typeIs F.slot_dict_len
  (call_meetsIn F.slot_dict_len hm.typeIs F.entry_dict_len (F.args_dict_len_1 _) (DK knd d hd) ⟨xs,hm,?_⟩))
 show wpAny _ _ _ _ _ {s with toks:=s.toks+1};refine aab (abq (wpAny_pure ?_));refine aab (wpAny_letGo ?_);show wpAny _ _ (if((xs.length:Nat):Int)<0 then _ else _) _ _ _;rw[if_neg (by lia)];show wpAny _ _ (if((xs.length:Nat):Int)≥2 ^ 63 then _ else _) _ _ _;rw[if_neg (by lia)];exact aab (wpAny_mkInt (wpAny_pure ⟨_,rfl,h⟩))
def DL:gD X (.builtin "len") (fun xs H Q=>∃a kvs,xs=[V.ref a]/\H a=some (.dT kvs)/\Q (.int kvs.length) H):=by
 intro pins s σ H xs us Q I r h;obtain⟨a,kvs,rfl,ha,q⟩:=h;obtain⟨u,rfl,ru⟩:=vals1 r;cases ru;obtain⟨z,hd,ys,rel,dd⟩:=Oz I.hok ha;have hl:kvs.length=ys.length:=aeg rel;refine Calls.call_function_entry kind_len plain_len entry_len (args_len1 _) (GZ hd dd (by rw[<-hl];rw[abC] at z;lia) ?_);rw[<-hl];exact⟨.int kvs.length,H,I.tok _,⟨_,rfl⟩,q⟩
def k9 (hg:Gl X "len") (hm:X.mg "len" =none) (hN:X.N[i]? =some x:=by rfl) (hv:qj X.env.scope x:=by first|exact Or.inl rfl|exact Or.inr (Or.inl rfl)|exact Or.inr (Or.inr rfl))
  (hd:BBT x:=by decide) (hcd:BBU x:=by decide) (he:starEach [.Name x px] X.env=(false,eval (.Name x px) X.env)::starEach [] X.env:=by rfl) (hpl:(backTo pos (starEach [] X.env)).any (·.1)=false:=by rfl):
  JD X (.Call (.Name "len" p) [.Name x px] [] pos) (rJ i):=⟨fun B=>PE.orelse fun σ H Q hh=>by
 obtain⟨S,F,d,S',R,hg',q⟩:=hh;unfold rJ at hg';split at hg'
 ·rename_i u hS;obtain⟨n,hn,hg'⟩:=au hg';cases hg';obtain⟨v0,hv0,r0⟩:=R.rep i u hS;have fin:=q (.int n) F H R (Step.refl ..) (.int _);have arg:PA X [.Name x px] (Oq (zK i) P5):=gj (bZ hN hv hd hcd) k7 he;have list:∀a vs,v0= .ref a->(lE X.K H a vs\/yt X.K H a vs)->vs.length=n->∃t',PE X (.Call (.Name "len" p) [.Name x px] [] pos) t'/\t' σ H Q:=fun a vs e1 ha hl=>
   ⟨_,kg jP hg hm acC arg (by decide) (by decide) he hpl,v0,hv0,a,vs,by rw[e1],ha,by rw[hl];exact fin⟩
  have dict:∀a ws,v0= .ref a->H a=some (.dK ws)->ws.length=n->∃t',PE X (.Call (.Name "len" p) [.Name x px] [] pos) t'/\t' σ H Q:=fun a vs e1 ha hl=>
   ⟨_,kg GF hg hm acC arg (by decide) (by decide) he hpl,v0,hv0,a,vs,by rw[e1],ha,by rw[hl];exact fin⟩
  have BZ:∀a ws,v0= .ref a->H a=some (.dT ws)->ws.length=n->∃t',PE X (.Call (.Name "len" p) [.Name x px] [] pos) t'/\t' σ H Q:=fun a vs e1 ha hl=>
   ⟨_,kg DL hg hm acC arg (by decide) (by decide) he hpl,v0,hv0,a,vs,by rw[e1],ha,by rw[hl];exact fin⟩
  unfold B0 at hn;split at hn
  ·cases hn;obtain⟨a,vs,e1,fa,ha,rs⟩:=R.sub.jN r0;exact list a vs e1 (.inr (.inl ha)) rs.length
  ·cases hn;obtain⟨a,vs,e1,fa,ha,rs⟩:=R.sub.gF r0;exact list a vs e1 (.inl (.inl ha)) rs.length
  ·rename_i z;obtain⟨hl,rfl⟩:=bW hn;exact⟨_,kg rq hg hm acC arg (by decide) (by decide) he hpl,v0,hv0,z,by rw[EJ r0],jQ hl,fin⟩
  ·cases hn;obtain⟨a,e1,fa,vs,ha,rs⟩:=r0;exact list a vs e1 (.inl (lE.of ha)) rs.length
  ·cases hn;obtain⟨a,e1,fa,vs,ha,rs⟩:=r0;exact list a vs e1 (.inl (lE.of ha)) rs.length
  ·cases hn;obtain⟨a,e1,fa,ws,ha,pr⟩:=r0;exact dict a ws e1 ha (bX pr)
  ·cases hn;obtain⟨a,e1,fa,ws,ha,pr⟩:=r0;exact dict a ws e1 ha (bX pr)
  ·cases hn;obtain⟨a,e1,fa,ws,ha,pr⟩:=r0;exact BZ a ws e1 ha (bX pr)
  ·cases hn;obtain⟨a,e1,fa,ws,ha,pr⟩:=r0;exact BZ a ws e1 ha (bX pr)
  ·cases hn;obtain⟨a,e1,ha⟩:=r0;exact list a _ e1 (.inl ha.sq) (by simp)
  ·cases hn
 ·cases hg'⟩
end
def sW (o:MO) (k d:D):Option MO:=match o with
 |.dct kvs=>(keyOf k).bind fun kk=>if kvs.length<100000 then some (.dct (putD kvs kk d)) else none
 |.Dv kvs=>(Al k).bind fun kk=>if kvs.length<10000000 then some (.Dv (putD kvs kk d)) else none
 |.lst ds=>match k with
  |.int i=>(Dn ds.length i).map fun j=>.lst (ds.set j d)
  |_=>none
 |.gap es=>match k with
  |.int i=>(Dn es.length i).map fun j=>.gap (es.set j (.inl d))
  |_=>none
 |_=>none
theorem vU {α β:Type}{P:α->β->Prop}{x:α}{y:β}(h:P x y):∀{l:List α}{r:List β}(_:Paired P l r) (j:Nat),Paired P (l.set j x) (r.set j y)
 |_,_,.nil,_=>.nil
 |_,_,.cons p ps,0=>.cons h ps
 |_,_,.cons p ps,j+1=>.cons p (vU h ps j)
def Am (i:Nat) (gk gv:GD):GS:=fun S=>(gv S).bind fun p=>match p.2[i]? with
 |some (some _)=>(gk p.2).bind fun r=>(qx r.2 i fun o=>(sW o r.1 p.1).map fun o'=>(.bQ,o')).map fun z=>.nx z.2
 |_=>none
theorem bq.set {F:Hp}{v:V}{d:D}(r:Rep F v d):∀{vs:List V}{ds:List D}(j:Nat),bq F vs ds->bq F (vs.set j v) (ds.set j d)
 |_,_,_,.nil=>.nil
 |_,_,0,.cons _ rs=>.cons r rs
 |_,_,j+1,.cons q rs=>.cons q (bq.set r j rs)
section
variable {X:Cx}{a b c e value k:Expr}{pos p px pos':Pos}{x y:Str}{g gk gv:GD}
def qy (hu:X.A.units+20<cLine) (hk:JD X k gk) (hval:JD X value gv) (hN:X.N[i]? =some x:=by rfl) (hv:qj X.env.scope x:=by first|exact Or.inl rfl|exact Or.inr (Or.inl rfl)|exact Or.inr (Or.inr rfl))
  (hd:BBT x:=by decide) (hcd:BBU x:=by decide)
  (hs:swapsWith value (some (.Subscript (.Name x px) k pos')) pos.line X.env=pure false:=by rfl)
  (hs1:swapsWithSole [.Subscript (.Name x px) k pos'] value pos.line X.env=pure false:=by rfl) (hs2:swappedStores [.Subscript (.Name x px) k pos'] value X.env=pure none:=by rfl)
  (hs3:(assignEach [.Subscript (.Name x px) k pos'] X.env).map (·.2)=[assign (.Subscript (.Name x px) k pos') X.env]:=by rfl)
  (hs4:∀v,assign (.Subscript (.Name x px) k pos') X.env v=(do
   let ov <-holding [v] (eval (.Name x px) X.env)
   let iv <-holding [v,ov] (eval k X.env)
   standAt pos'
   holding [v,ov,iv] (setItem ov iv v)
   release [v,ov,iv] []):=by intro _;rfl):
  JS X (.Assign [.Subscript (.Name x px) k pos'] value pos) (Am i gk gv):=⟨fun B=>PS.orelse fun D σ H hh=>by
 obtain⟨S,F,o,R,hg,q⟩:=hh;obtain⟨⟨d,S1⟩,h1,hg⟩:=aj hg;dsimp only at hg;split at hg
 ·rename_i u0 DJ;obtain⟨⟨kd,S2⟩,h2,hg⟩:=aj hg;obtain⟨⟨nd,S3⟩,h3,hg⟩:=au hg;subst hg;obtain⟨u,u',mo,mo',hS,Ju,hio,hf,HV,rfl⟩:=lH h3;obtain⟨mo2,hw,hf2⟩:=au hf;cases hf2;have hv0:∀F1 H1,Rel X.K B S1 σ F1 H1->∃v,σ[i]? =some (some v):=fun F1 H1 R1=>let⟨v,k1,_⟩:=R1.rep i u0 DJ;⟨v,k1⟩
  cases mo with
  |dct kvs=>
   obtain⟨kk,e1,hw⟩:=aj hw;obtain⟨hl,rfl⟩:=bW hw;refine⟨_,zU hu (bZ hN hv hd hcd) (hk.h B) (hval.h B) hs,S,F,d,S1,R,h1,fun v F1 H1 R1 st1 r1=>?_⟩;obtain⟨v0,hv0⟩:=hv0 F1 H1 R1;refine⟨v0,hv0,S1,F1,kd,S2,R1,h2,fun y F2 H2 R2 st2 r2=>?_⟩;obtain⟨v',k1,k2⟩:=R2.rep i u hS;rw[hv0] at k1;cases k1;obtain⟨a,o2,rfl,fa,eo,k3⟩:=k2.cF Ju;rw[hio] at eo;cases eo;obtain⟨ws,ha,pr⟩:=k3;refine⟨a,_,rfl,zR.ky ha (yI r2 e1) (by rw[bX pr];exact aas hl (by decide)),?_⟩;obtain⟨R3,st3⟩:=R2.write (ho:=.dK (putK ws kk v)) hS HV hv0 ⟨_,aO,rG pr (r1.le st2.ext.le)⟩;exact q σ F2 _ R3 fun b o z=>st2.ext.le b o (st1.ext.le b o z)
  |ins C kvs=>cases hw
  |lat _ _=>cases hw
  |gU _ _=>cases hw
  |Dy _ _=>cases hw
  |Dv kvs=>
   obtain⟨kk,e1,hw⟩:=aj hw;obtain⟨hl,rfl⟩:=bW hw;refine⟨_,zU hu (bZ hN hv hd hcd) (hk.h B) (hval.h B) hs,S,F,d,S1,R,h1,fun v F1 H1 R1 st1 r1=>?_⟩;obtain⟨v0,hv0⟩:=hv0 F1 H1 R1;refine⟨v0,hv0,S1,F1,kd,S2,R1,h2,fun y F2 H2 R2 st2 r2=>?_⟩;obtain⟨v',k1,k2⟩:=R2.rep i u hS;rw[hv0] at k1;cases k1;obtain⟨a,o2,rfl,fa,eo,k3⟩:=k2.cF Ju;rw[hio] at eo;cases eo;obtain⟨ws,ha,pr⟩:=k3;obtain⟨b',rfl,hb'⟩:=nX R2.sub r2 e1;refine⟨a,_,rfl,zR.t ha hb' (by rw[bX pr];exact aas hl (by decide)),?_⟩;obtain⟨R3,st3⟩:=R2.write (ho:=.dT (putK ws kk v)) hS HV hv0 ⟨_,aO,rG pr (r1.le st2.ext.le)⟩;exact q σ F2 _ R3 fun b o z=>st2.ext.le b o (st1.ext.le b o z)
  |lst ds=>
   unfold sW at hw;dsimp only at hw;split at hw
   ·rename_i ii;obtain⟨j,e1,rfl⟩:=au hw;refine⟨_,Iq (hval.h B) (Ip (bZ hN hv hd hcd) (hk.h B) set_list hs4) hs1 hs2 hs3,S,F,d,S1,R,h1,fun v F1 H1 R1 st1 r1=>?_⟩;obtain⟨v0,hv0⟩:=hv0 F1 H1 R1;refine⟨v0,hv0,S1,F1,_,S2,R1,h2,fun y F2 H2 R2 st2 r2=>?_⟩;obtain⟨v',k1,k2⟩:=R2.rep i u hS;rw[hv0] at k1;cases k1;obtain⟨a,o2,rfl,fa,eo,k3⟩:=k2.cF Ju;rw[hio] at eo;cases eo;obtain⟨vs,ha,rs⟩:=k3;rw[gm r2];refine⟨a,vs,_,j,rfl,rfl,ha,by rw[rs.length];exact e1,?_⟩;obtain⟨R3,st3⟩:=R2.write (ho:=.lst (vs.set j v)) hS HV hv0 ⟨_,aO,rs.set (r1.le st2.ext.le) j⟩;exact q σ F2 _ R3 fun b o z=>st2.ext.le b o (st1.ext.le b o z)
   ·cases hw
  |gap ds=>
   unfold sW at hw;dsimp only at hw;split at hw
   ·rename_i ii;obtain⟨j,e1,rfl⟩:=au hw;refine⟨_,Iq (hval.h B) (Ip (bZ hN hv hd hcd) (hk.h B) set_list hs4) hs1 hs2 hs3,S,F,d,S1,R,h1,fun v F1 H1 R1 st1 r1=>?_⟩;obtain⟨v0,hv0⟩:=hv0 F1 H1 R1;refine⟨v0,hv0,S1,F1,_,S2,R1,h2,fun y F2 H2 R2 st2 r2=>?_⟩;obtain⟨v',k1,k2⟩:=R2.rep i u hS;rw[hv0] at k1;cases k1;obtain⟨a,o2,rfl,fa,eo,k3⟩:=k2.cF Ju;rw[hio] at eo;cases eo;obtain⟨vs,ha,rs⟩:=k3;rw[gm r2];refine⟨a,vs,_,j,rfl,rfl,ha,by rw[bX rs];exact e1,?_⟩;obtain⟨R3,st3⟩:=R2.write (ho:=.lst (vs.set j v)) hS HV hv0 ⟨_,aO,vU (show Ac _ v (.inl d) from r1.le st2.ext.le) rs j⟩;exact q σ F2 _ R3 fun b o z=>st2.ext.le b o (st1.ext.le b o z)
   ·cases hw
 ·cases hg⟩
def Rel.Zf {F:Hp}{a:Addr}{o':HO}(R:Rel K B S σ F H) (hn:¬cF S σ a) (hf:F a=none) (hB:B.H a=none) (hh:H a=some o) (hz:∀ob u,o≠.jh ob u):Rel K B S σ F (upd H a o'):=by
 have SG:∀b ob w,H b=some (.jh ob w)->upd H a o' b=some (.jh ob w):=fun b ob w z=>by
  rw[aP (fun e=>by rw[e,hh] at z;cases z;exact hz _ _ rfl)];exact z
 refine⟨fun b u z=>?_,R.len,fun j w z=>?_,R.EH,R.own,R.bor,R.par,⟨R.ext.le,fun b u z n=>?_,R.ext.j6,fun b u z=>?_,fun b ob w z=>SG b ob w (R.ext.jh b ob w z)⟩⟩
 ·have hb:b≠a:=fun e=>by rw[e,hf] at z;cases z
  rw[aP hb];exact R.sub b u z
 ·obtain⟨v,h1,h2⟩:=R.rep j w z;refine⟨v,h1,h2.le (fun _ _ z=>z) SG fun c hm hc=>?_⟩;have hca:c≠a:=fun e=>hn ⟨j,w,z,hm,by rw[h1,hc,e]⟩;obtain⟨c',_,e,f,_⟩:=h2.cF hm;rw[hc] at e;cases e;exact⟨fun o z=>by rw[aP hca];exact z,f⟩
 ·rw[aP (fun e=>by rw[e,hB] at z;cases z)];exact R.ext.keep b u z n
 ·by_cases hb:b=a
  ·exact⟨o',by rw[hb,aO]⟩
  ·rw[aP hb];exact R.ext.there b u z
noncomputable def nY:List (Str×GD)->SS->Option (List (Key×D)×SS)
 |[],S=>some ([],S)
 |(z,g)::r,S=>(g S).bind fun p=>(nY r p.2).map fun q=>((.inr z,p.1)::q.1,q.2)
def vV (kvs more:List (Key×D)):List (Key×D):=more.foldl (fun acc kv=>putD acc kv.1 kv.2) kvs
theorem vW {F:Hp}:∀{more:List (Key×V)}{OJ:List (Key×D)}{ws:List (Key×V)}{kvs:List (Key×D)},Paired (ff F) more OJ->Paired (ff F) ws kvs->Paired (ff F) (nL ws more) (vV kvs OJ)
 |_,_,_,_,.nil,h=>h
 |_,_,ws,kvs,@Paired.cons _ _ _ p q _ _ r rs,h=>by
  have e:=rG (k:=q.1) h r.2;show Paired (ff F) (nL (putK ws p.1 p.2) _) (vV (putD kvs q.1 q.2) _);rw[r.1];exact vW rs e
def JF (yc:List (Str×GD)):GE:=fun S=>(nY yc S).map fun p=>(.m (.dct (vV [] p.1)),p.2)
structure WZ (X:Cx) (pos:Pos) (keys:List (BBL)) (values:BBC) (yc:List (Str×GD)):Prop where
 h:∀B,Uy X pos keys values (yc.map fun p=>(tC (.str p.1),tD X.K B p.2))
def MB:WZ X pos [] [] []:=⟨fun B=>L8⟩
def vX {z:Str}{j:Nat}{pk:Pos}{v:Expr}{ks:List (BBL)}{vs:BBC}(hv:JD X v g) (hr:WZ X pos ks vs yc):WZ X pos (some (.Constant (.str z) j pk)::ks) (v::vs) ((z,g)::yc):=⟨fun B=>IS Ik (hv.h B) (hr.h B)⟩
theorem B3 {B:Base}{σ:St}:∀{yc:List (Str×GD)}{S0 S:SS}{F0 H0 F H:Hp}{kvs:List (Key×D)}{S':SS}{Q:List (V×V)->Hp->Prop},Rel X.K B S σ F H->Step S0 S σ F0 H0 F H->nY yc S=some (kvs,S')->
  (∀(ws:List (Key×V)) (F' H':Hp),Rel X.K B S' σ F' H'->Step S0 S' σ F0 H0 F' H'->Paired (ff F') ws kvs->Q (ws.map fun kv=>(kV kv.1,kv.2)) H')->vC (yc.map fun p=>(tC (.str p.1),tD X.K B p.2)) σ H Q
 |[],S0,S,F0,H0,F,H,kvs,S',Q,R,st,h,q=>by cases h;exact q [] F H R st .nil
 |(z,g)::r,S0,S,F0,H0,F,H,kvs,S',Q,R,st,h,q=>by
  obtain⟨⟨d,S1⟩,h1,h⟩:=aj h;obtain⟨⟨acq,S2⟩,h2,h⟩:=au h;cases h;show tC (.str z) σ H fun x H1=>tD X.K B g σ H1 fun y H2=>vC _ σ H2 fun ps H3=>Q ((x,y)::ps) H3;refine⟨S,F,d,S1,R,h1,fun v F1 H1 R1 st1 r1=>?_⟩;refine B3 (S0:=S1) (F0:=F1) (H0:=H1) R1 (Step.refl ..) h2 fun ws F2 H2 R2 st2 pr=>?_;exact q ((.inr z,v)::ws) F2 H2 R2 ((st.trans st1).trans st2) (.cons ⟨rfl,r1.le st2.ext.le⟩ pr)
def MC {keys:List (BBL)}{values:BBC}(h:WZ X pos keys values yc) (hall:keys.all (·.isSome)=true:=by rfl) (hl:keys.length=values.length:=by rfl) (h0:keys≠[]:=by decide) (YE:keys.length<=15:=by decide) (hk:yc.length<=15:=by decide):
  JE X (.Dict keys values pos) (JF yc):=⟨fun B=>(Ma (h.h B) hall hl h0 YE).imp fun σ H Q hh=>by
 obtain⟨S,F,u,S',R,hg,q⟩:=hh;obtain⟨⟨kvs,S1⟩,h1,hg⟩:=au hg;cases hg;intro p hp;have n:=fV.obj (F:=F) hp (.dK []);have hn:¬cF S σ p:=fun m=>by obtain⟨o,ho⟩:=R.has m;rw[hp] at ho;cases ho
 refine B3 (S0:=S) (F0:=F) (H0:=upd H p (.dK [])) (R.new n (R.sub.same n.same)) (Step.refl ..) h1 fun ws F1 H1 R1 st1 pr=>?_;have hp1:H1 p=some (.dK []):=st1.ext.keep p _ aO hn;have hf1:F1 p=none:=st1.ext.j6 p _ aO hn (R.sub.fresh hp);have hn1:¬cF S1 σ p:=fun m=>hn (st1.mu p m);have hB:B.H p=none:=none_of R.ext.there hp;have len:ws.length<=15:=by
  rw[bX pr];have:∀{yc:List (Str×GD)}{S:SS}{kvs:List (Key×D)}{S':SS},nY yc S=some (kvs,S')->kvs.length=yc.length:=fun {yc}=>by
   induction yc with
   |nil=>intro S kvs S' h;cases h;rfl
   |cons p r ih=>
    intro S kvs S' h;obtain⟨⟨d,T1⟩,k1,h⟩:=aj (show(p.2 S).bind _=_ from h);obtain⟨⟨kv2,T2⟩,k2,h⟩:=au h;cases h;show kv2.length+1=r.length+1;rw[ih k2]
  rw[this h1];exact hk
 refine⟨hp1,ws,rfl,len,?_⟩;have R2:=R1.Zf (o':=.dK (nL [] ws)) hn1 hf1 hB hp1 (fun _ _ z=>by cases z);refine q (.ref p) F1 _ R2 ⟨⟨st1.ext.le,fun b o z m=>?_,fun b o z m f=>?_,fun b o z=>?_,fun b ob w z=>?_⟩,st1.mu,st1.slots⟩ ⟨p,rfl,hp,hf1,⟨_,aO,vW pr .nil⟩,hn1,hB⟩
 ·have hb:b≠p:=bJ z hp;rw[aP hb];exact st1.ext.keep b o (by rw[aP hb];exact z) m
 ·have hb:b≠p:=bJ z hp;exact st1.ext.j6 b o (by rw[aP hb];exact z) m f
 ·have hb:b≠p:=bJ z hp;rw[aP hb];exact st1.ext.there b o (by rw[aP hb];exact z)
 ·have hb:b≠p:=bJ z hp;rw[aP hb];exact st1.ext.jh b ob w (by rw[aP hb];exact z)⟩
end
noncomputable def lQ (g:Option GD) (S:SS):Option (BBM×SS):=match g with
 |none=>some (none,S)
 |some g=>(g S).bind fun p=>match p.1 with
  |.int i=>some (some i,p.2)
  |_=>none
inductive tPO (K:AAD) (B:Base) (g:Option GD) (σ:St) (H:Hp) (Q:BBM->Hp->Prop):Prop
 |mk (S:SS) (F:Hp) (o:BBM) (S':SS) (R:Rel K B S σ F H) (hg:lQ g S=some (o,S')) (q:∀F' H',Rel K B S' σ F' H'->Step S S' σ F H F' H'->Q o H')
structure JO (X:Cx) (e:BBL) (g:Option GD):Prop where
 h:∀B,PO X e (tPO X.K B g)
def PO.imp {e:BBL}{t t':TO}(h:PO X e t) (k:∀σ H Q,t' σ H Q->t σ H Q):PO X e t':=fun pins s σ H Q I q=>h pins s σ H Q I (k σ H Q q)
def iT :JO X none none:=⟨fun B=>Me.imp fun σ H Q ⟨S,F,o,S',R,h,q⟩=>by cases h;exact q F H R (Step.refl ..)⟩
def iU {e:Expr}(h:JD X e g):JO X (some e) (some g):=⟨fun B=>(Ey (h.h B)).imp fun σ H Q hh=>by
 obtain⟨S,F,o,S',R,h,q⟩:=hh;obtain⟨⟨d,S1⟩,h1,h⟩:=aj (show(g S).bind _=_ from h);cases d<;>try (cases h)
 exact⟨S,F,_,_,R,h1,fun v F1 H1 R1 st1 r1=>⟨_,gm r1,q F1 H1 R1 st1⟩⟩⟩
def MD (d:D) (lo hi:BBM):Option U:=match d with
 |.tup ds=>some (.t (.tup (cutD ds lo hi)))
 |.lst ds=>some (.m (.lst (cutD ds lo hi)))
 |.str z=>if z.length<=100000 then some (.t (.str (Txt.slice z lo hi))) else none
 |_=>none
def bq.cut {F:Hp}(rs:bq F vs ds) (lo hi:BBM):bq F (xU vs lo hi) (cutD ds lo hi):=by
 unfold xU cutD;rw[rs.length];exact(rs.drop _).take _
def Zg:V->BBM->BBM->Hp->VK->Prop:=fun x lo hi H Q=>∃F d u,Sub F H/\Rep F x d/\MD d lo hi=some u/\∀v F' H',fV F H F' H'->Sub F' H'->vH H F' H' v u->Q v H'
def Zh :UB X Zg:=by
 intro pins s σ H x v vl vu lo hi sl Q I rx hs pl pu ⟨F,d,u,sb,r,hf,q⟩;cases d with
 |tup ds=>
  cases hf;have r0:=r;obtain⟨a,xs,rfl,fa,ha,rs⟩:=sb.jN r;have hl:=rs.length;by_cases hw:HT.fy xs.length 0 lo=0/\HT.fy xs.length xs.length hi=xs.length
  ·cases rx;obtain⟨its,rv,ht,hz⟩:=I.tuple (.inl ha);have hlen:its.toArray.size=xs.length:=by rw[aad];exact rv.length.symm
   refine⟨"tuple",_,aaX.lookup,ht.typeIs,?_⟩;refine HT.GJ ht hs pl pu (by rw[hlen];exact hw) ⟨.ref a,H,I,rfl,q _ F H (fV.refl ..) sb ?_⟩;have e:cutD ds lo hi=ds:=by
    unfold cutD;rw[<-hl,hw.1,hw.2,List.drop_zero,Nat.sub_zero,ab1 (by rw[hl];exact aaj _)]
   show Rep F _ (.tup (cutD ds lo hi));rw[e];exact r0
  ·exact Qd pins s σ H (.ref a) v vl vu lo hi sl Q I rx hs pl pu ⟨a,xs,rfl,.inl ha,hw,fun p hp=>q _ _ _ (fV.root sb hp _) (sb.vG hp) (.tup aO ((rs.cut lo hi).le (fU (sb.fresh hp))))⟩
 |lst ds=>
  cases hf;obtain⟨a,xs,rfl,fa,ha,rs⟩:=sb.gF r;exact EB pins s σ H (.ref a) v vl vu lo hi sl Q I rx hs pl pu ⟨a,xs,rfl,.inl ha,fun p hp=>q _ F _ (fV.obj hp _) (sb.same (fV.obj (F:=F) hp _).same) ⟨p,rfl,hp,sb.fresh hp,_,aO,rs.cut lo hi⟩⟩
 |str z=>
  obtain⟨hl,rfl⟩:=bW hf;cases r;exact Qk pins s σ H _ v vl vu lo hi sl Q I rx hs pl pu ⟨z,rfl,jQ hl,fun _=>q _ F H (fV.refl ..) sb (.str _)⟩
 |bQ=>cases hf
 |bl b=>cases hf
 |int b=>cases hf
def G0 (g:GD) (lo hi:Option GD):GE:=fun S=>(g S).bind fun p=>(lQ lo p.2).bind fun l=>(lQ hi l.2).bind fun h=>(MD p.1 l.1 h.1).map fun u=>(u,h.2)
section
variable {X:Cx}{a b c e:Expr}{lo hi:BBL}{pos p p2 px:Pos}{x y:Str}{g ga:GD}{gA:GA}{gl gh:Option GD}
def gI (he:JD X e g) (hl:JO X lo gl) (hh:JO X hi gh):JE X (.Subscript e (.Slice lo hi none p2) pos) (G0 g gl gh):=⟨fun B=>(BK Zh (he.h B) (hl.h B) (hh.h B)).imp fun σ H Q hh=>by
 obtain⟨S,F,u,S',R,hg,q⟩:=hh;obtain⟨⟨d,S1⟩,h1,hg⟩:=aj hg;obtain⟨⟨l,S2⟩,h2,hg⟩:=aj hg;obtain⟨⟨h,S3⟩,h3,hg⟩:=aj hg;obtain⟨u',h4,hg⟩:=au hg;cases hg;exact⟨S,F,d,S1,R,h1,fun v F1 H1 R1 st1 r1=>⟨S1,F1,l,S2,R1,h2,fun F2 H2 R2 st2=>⟨S2,F2,h,_,R2,h3,fun F3 H3 R3 st3=>⟨F3,d,_,R3.sub,r1.le (fun b o z=>st3.ext.le b o (st2.ext.le b o z)),h4,fun v F4 H4 n s4 r4=>q v F4 H4 (R3.new n s4) (((st1.trans st2).trans st3).trans n.step) (r4.Ad R3 ((st1.trans st2).trans st3))⟩⟩⟩⟩⟩
noncomputable def yf (ns:BBD) (lo hi:BBM):BBD:=(ns.drop (HT.fy ns.length 0 lo)).take (HT.fy ns.length ns.length hi-HT.fy ns.length 0 lo)
def ME (i:Nat) (lo hi:Option GD):GE:=fun S=>match S[i]? with
 |some (some (.s ns))=>(lQ lo S).bind fun l=>(lQ hi l.2).map fun h=>(.m (.lst ((yf ns l.1 h.1).map D.int)),h.2)
 |_=>none
theorem yK {F:Hp}:∀ns:BBD,bq F (ns.map V.int) (ns.map D.int)
 |[]=>.nil
 |n::ns=>.cons (.int n) (yK ns)
def G1 (ns:BBD) (lo hi:BBM):xU (ns.map V.int) lo hi=(yf ns lo hi).map V.int:=by
 unfold xU yf;rw[aai,aei,aej]
def G2 (hl:JO X lo gl) (hh:JO X hi gh) (hN:X.N[i]? =some x:=by rfl) (hv:qj X.env.scope x:=by first|exact Or.inl rfl|exact Or.inr (Or.inl rfl)|exact Or.inr (Or.inr rfl))
  (hd:BBT x:=by decide) (hcd:BBU x:=by decide):JE X (.Subscript (.Name x px) (.Slice lo hi none p2) pos) (ME i gl gh):=⟨fun B=>(BK EB (bZ hN hv hd hcd) (hl.h B) (hh.h B)).imp fun σ H Q hh=>by
 obtain⟨S,F,u,S',R,hg,q⟩:=hh;unfold ME at hg;split at hg
 ·rename_i ns hS;obtain⟨⟨l,S1⟩,h1,hg⟩:=aj hg;obtain⟨⟨h,S2⟩,h2,hg⟩:=au hg;cases hg;obtain⟨v0,hv0,a,rfl,sc⟩:=R.rep i _ hS;refine⟨_,hv0,S,F,l,S1,R,h1,fun F1 H1 R1 st1=>⟨S1,F1,h,_,R1,h2,fun F2 H2 R2 st2=>?_⟩⟩;have sc2:=(sc.le st1.ext.jh).le st2.ext.jh;refine⟨a,_,rfl,sc2.sq,fun p hp=>?_⟩;rw[G1];have n:=fV.obj (F:=F2) hp (.lst ((yf ns l h).map V.int));have st:=st1.trans st2;exact q _ F2 _ (R2.new n (R2.sub.same n.same)) (st.trans n.step) (vH.Ad (u:=.m (.lst ((yf ns l h).map D.int))) R2 st ⟨p,rfl,hp,R2.sub.fresh hp,_,aO,yK _⟩)
 ·cases hg⟩
def LC (d:D):Prop:=(toPy d).showable=true/\(toPy d).depth<=20/\(toPy d).shown.length<=sizeLine
noncomputable instance (d:D):Decidable (LC d):=by unfold LC;infer_instance
def nZ:List D->Option U
 |[d]=>if LC d then some (.t (.str (toPy d).shown)) else none
 |_=>none
mutual
theorem Rep.sX {pins:AAG}{σ:St}{F H:Hp}{s:Shared}(I:Inv X pins σ H s) (sb:Sub F H):∀{v:V}{d:D}{u:Value},Rep F v d->RelV v u->∃as,Reads s.heap u (toPy d) as
 |_,_,_,.bQ,r=>by cases r;exact⟨[],.none⟩
 |_,_,_,.bl b,r=>by cases r;exact⟨[],.bool b⟩
 |_,_,_,.int i,r=>by obtain⟨t,rfl⟩:=r;exact⟨[],.int i t⟩
 |_,_,_,.str z,r=>by obtain⟨t,rfl⟩:=r;exact⟨[],.str z t⟩
 |_,_,_,.tup e rs,r=>by
  cases r;obtain⟨its,rv,p⟩:=sb.isTup I e;obtain⟨as,h⟩:=bq.sX I sb rs rv;obtain⟨o,ho,hc,n,hd⟩:=p;exact⟨as,.tuple ho hc hd (by simpa using h)⟩
 |_,_,_,.lst e rs,r=>by
  cases r;obtain⟨its,rv,p⟩:=sb.dP I e;obtain⟨as,h⟩:=bq.sX I sb rs rv;obtain⟨o,ho,hc,n,hd⟩:=p;exact⟨_::as,.list ho hc hd (by simpa using h)⟩
theorem bq.sX {pins:AAG}{σ:St}{F H:Hp}{s:Shared}(I:Inv X pins σ H s) (sb:Sub F H):∀{vs:List V}{ds:List D}{us:AAL},bq F vs ds->Vals vs us->∃as,ReadsAll s.heap us (fc ds) as
 |_,_,_,.nil,r=>by cases r;exact⟨[],.nil⟩
 |_,_,_,.cons q qs,r=>by
  cases r with
  |cons r rs=>
   obtain⟨as,h⟩:=Rep.sX I sb q r;obtain⟨bs,k⟩:=bq.sX I sb qs rs;exact⟨as++bs,.cons h k⟩
end
def mK (hg:X.A.guards=some []) (hu:X.A.units+64<cLine):gD X (.builtin "repr") (rP nZ):=by
 intro pins s σ H xs us Q I r ⟨F,ds,w,sb,rs,hw,q⟩;obtain⟨x,d,rfl,rfl,r1⟩:=rF (P:=fun _=>True) rs hw rfl (fun d _ _=>rfl);obtain⟨hok,rfl⟩:=bW (show(if LC d then some (U.t (.str (toPy d).shown)) else none)=some w from hw);have fin:=q (.str (toPy d).shown) F H (fV.refl ..) sb (.str _);obtain⟨u,rfl,ru⟩:=vals1 r;obtain⟨h1,h2,h3⟩:=hok;have seq:∀a,x= .ref a->wpAny (model X.prog X.w) X.A (call (.builtin "repr") [u]) (EP X pins σ Q) X.xe s:=fun a e1=>by
  subst e1;cases ru;obtain⟨as,hr⟩:=Rep.sX I sb r1 (u:=.ref a) rfl;exact repr_of_reads' hr h1 (fun z=>by rw[uF] at z;cases z) hg (by lia) (fun _ _ e=>e) (fun h' u tk hk=>⟨.str _,H,I.kept (t':=tk) hk,⟨u,rfl⟩,fin⟩) h3
 cases r1 with
 |bQ=>cases ru;exact PySem.P.repr_of_none ⟨.str _,H,I.tok _,⟨_,rfl⟩,fin⟩
 |bl b=>cases ru;exact PySem.P.repr_of_bool ⟨.str _,H,I.tok _,⟨_,rfl⟩,fin⟩
 |int i=>obtain⟨t,rfl⟩:=ru;exact PySem.P.repr_of_int (by simpa[toPy,PyData.showable] using h1) ⟨.str _,H,I.tok _,⟨_,rfl⟩,fin⟩
 |str z=>obtain⟨t,rfl⟩:=ru;exact PySem.P.repr_of_str ⟨.str _,H,I.tok _,⟨_,rfl⟩,fin⟩ h3
 |tup e rs=>exact seq _ rfl
 |lst e rs=>exact seq _ rfl
def EO {i:Int}{t:Tok}(hg:Gl X x) (hm:X.mg x=some (.int i t)) (hd:BBT x:=by decide):JD X (.Name x pos) (eC (.int i)):=Mr rfl (LQ (v:=.int i) hg hm ⟨t,rfl⟩ hd)
end
def JH {y:Str}{c:Addr}(clos:closureFor scope X.env=pure [(y,c)]) (kh:∀z∈scope.names,z.2≠.cell) (kind:scope.kind= .function) (names:∀z∈scope.names,z.2= .local->scope.names.lookup z.1=some .local)
  (loc:scope.names.lookup x=some .local) (hc:X.env.cells.lookup y=some c) (only:∀z∈scope.names,z.2= .free->z.1=y) (ne:x≠y) (hN:X.N[i]? =some y) (vis:X.env.scope.names.lookup y=some .cell) (rel:(relabel scope X.env).names.lookup y=some .cell):
  dz X x [y] [i] scope [(y,c)]:=by
 have look:∀n c',([(y,c)]:List (Str×Addr)).lookup n=some c'->n=y/\c'=c:=fun n c' h=>by
  rw[ach] at h;cases e:n == y with
  |true=>rw[e] at h;cases h;exact⟨eq_of_beq e,rfl⟩
  |false=>rw[e] at h;cases h
 have self:([(y,c)]:List (Str×Addr)).lookup y=some c:=by rw[ach,aeC]
 refine⟨clos,kh,kind,names,loc,fun n c' h=>?_,fun n h=>?_,?_,rfl,fun j n h=>?_,fun n h=>?_⟩
 ·obtain⟨rfl,rfl⟩:=look n c' h;exact hc
 ·have key:n=y:=by
   have go:∀k,(k=NameKind.cell\/k=NameKind.free)->(relabel scope X.env).names.lookup n=some k->n=y:=fun k hk e=>by
    have m:=abK e;unfold relabel at m;obtain⟨⟨n',k'⟩,hm,q⟩:=aaD.mp m;by_cases hf:k'= .free
    ·have h0:n'=y:=only _ hm hf;have e1:n'=n:=by
      have h1:=congrArg Prod.fst q;dsimp only at h1;split at h1<;>exact h1
     exact e1.symm.trans h0
    ·have z:(k' == NameKind.free)=false:=by simpa using hf
     simp only[z,ad6] at q;have q2:k'=k:=by
      have:=congrArg Prod.snd q
      simpa using this
     rcases hk with rfl|rfl
     ·exact absurd q2 (kh _ hm)
     ·exact absurd q2 hf
   rcases h with h|h
   ·exact go _ (.inl rfl) h
   ·exact go _ (.inr rfl) h
  subst key;exact⟨c,self⟩
 ·simp[ne]
 ·cases j with
  |zero=>cases h;exact⟨i,rfl,hN,.inr (.inl vis)⟩
  |succ j=>simp at h
 ·have e:n=y:=by simpa using h
  subst e;exact⟨.inl rel,⟨c,self⟩,by rw[vis];decide⟩
section
variable {X:Cx}{a b e:Expr}{x y:Str}{k:Nat}
def fH (a:List D) (o:MO) (h:dP o=false):hAppend a o=none:=by
 cases o with
 |lst ds=>cases h
 |dct k=>unfold hAppend;split<;>first|rfl|(rename_i e;cases e)
 |Dv k=>unfold hAppend;split<;>first|rfl|(rename_i e;cases e)
 |ins C k=>unfold hAppend;split<;>first|rfl|(rename_i e;cases e)
 |gap _=>unfold hAppend;split<;>first|rfl|(rename_i e;cases e)
 |lat _ _=>unfold hAppend;split<;>first|rfl|(rename_i e;cases e)
 |gU _ _=>unfold hAppend;split<;>first|rfl|(rename_i e;cases e)
 |Dy _ _=>unfold hAppend;split<;>first|rfl|(rename_i e;cases e)
noncomputable def acv:List D->Option U
 |[.bl a,.bl b]=>some (.t (.bl (a == b)))
 |_=>none
noncomputable def An:List D->Option U
 |[.bl a,.bl b]=>some (.t (.bl (a != b)))
 |_=>none
def G3:xP X (compareOp .IsNot) An:=by
 intro pins s σ H x y v u Q I rx ry ⟨F,ds,w,sb,rs,hw,q⟩;obtain⟨d,e,rfl,r1,r2⟩:=vJ rs;cases d<;>cases e<;>try (cases hw;done)
 cases hw;rw[ji r1] at rx;rw[ji r2] at ry;cases rx;cases ry;exact isnot_bool ⟨.bl _,H,I,rfl,q _ F H (fV.refl ..) sb (.bl _)⟩
end
noncomputable def pY:List D->Option (BBD)
 |[]=>some []
 |.int b::ds=>(pY ds).map fun bs=>b::bs
 |_=>none
theorem qz {F:Hp}:∀{vs:List V}{ds:List D}{bs:BBD},bq F vs ds->pY ds=some bs->vs=bs.map V.int
 |_,_,_,.nil,h=>by cases h;rfl
 |_,_,_,@bq.cons _ v d vs ds r rs,h=>by
  cases d<;>try (cases h;done)
  obtain⟨bs,h1,h2⟩:=au (show(pY ds).map _=_ from h);subst h2;rw[gm r,qz rs h1];rfl
section

noncomputable def eL (led:Bool):Obj:={cls:=.type "set",dict:=none,data:=.set #[] 0 (.fresh 0 0 led)}
end
noncomputable def kP:List D->Option (BBB)
 |[]=>some []
 |.str b::ds=>(kP ds).map fun bs=>b::bs
 |_=>none
theorem qA {F:Hp}:∀{vs:List V}{ds:List D}{bs:BBB},bq F vs ds->kP ds=some bs->vs=bs.map V.str
 |_,_,_,.nil,h=>by cases h;rfl
 |_,_,_,@bq.cons _ v d vs ds r rs,h=>by
  cases d<;>try (cases h;done)
  obtain⟨bs,h1,h2⟩:=au (show(kP ds).map _=_ from h);subst h2;cases r;rw[qA rs h1];rfl
noncomputable def pZ:U->Option (List D)
 |.t (.lst ds)=>some ds
 |.m (.lst ds)=>some ds
 |.b (.lst ds)=>some ds
 |_=>none
def qC (n:Bool) (i:Nat) (g:GD):GD:=fun S=>(g S).bind fun p=>match p.2[i]? with
 |some (some u)=>(pZ u).bind fun ds=>if bf ds<=40 then some (.bl (n != inD p.1 ds),p.2) else none
 |_=>none
section
variable {X:Cx}{a:Expr}{x:Str}{px pos:Pos}{ga:GD}
abbrev MF (X:Cx) (n:Bool):V->V->Hp->VK->Prop:=fun x y H Q=>∃F d ds p vs,y= .ref p/\Sub F H/\Rep F x d/\lE X.K H p vs/\bq F vs ds/\bf ds<=40/\Q (.bl (n != inD d ds)) H
def JJ (hu:X.A.units+64<cLine):uA X (compareOp .In) (MF X false):=by
 rintro pins s σ H x y v u Q I rx ry ⟨F,d,ds,p,vs,rfl,sb,r1,hp,rs,hd,q⟩;cases ry;obtain⟨its,rv,pl,hz⟩:=I.list hp;obtain⟨h1,h2⟩:=nU I sb (A:=X.A.in1) r1 rx rs rv (by show X.A.units+1+bf ds<cLine;lia);refine SeqAt.in_listAt (C3 F d) pl.isList (fun y hy=>h1 y (by simpa using hy)) ⟨.bl _,H,I,rfl,?_⟩;rw[show its.toArray.any (C3 F d)=its.any (C3 F d) by simp,h2]
 simpa using q
def G4 (hu:X.A.units+64<cLine):uA X (compareOp .NotIn) (MF X true):=by
 rintro pins s σ H x y v u Q I rx ry ⟨F,d,ds,p,vs,rfl,sb,r1,hp,rs,hd,q⟩;cases ry;obtain⟨its,rv,pl,hz⟩:=I.list hp;obtain⟨h1,h2⟩:=nU I sb (A:=X.A.in1) r1 rx rs rv (by show X.A.units+1+bf ds<cLine;lia);refine SeqAt.notIn_listAt (C3 F d) pl.isList (fun y hy=>h1 y (by simpa using hy)) ⟨.bl _,H,I,rfl,?_⟩;rw[show its.toArray.any (C3 F d)=its.any (C3 F d) by simp,h2]
 simpa using q
def Ao {n:Bool}{Q:VK}(h:tD X.K B (qC n i ga) σ H Q):Oo (MF X n) (tD X.K B ga) (zK i) σ H Q:=by
 obtain⟨S,F,d,S',R,hg,q⟩:=h;obtain⟨⟨d1,S1⟩,h1,hg⟩:=aj hg;dsimp only at hg;split at hg
 ·rename_i u hS;obtain⟨ds,h2,hg⟩:=aj hg;obtain⟨hd,hg⟩:=bW hg;cases hg;refine⟨S,F,d1,_,R,h1,fun v F1 H1 R1 st1 r1=>?_⟩;obtain⟨v0,hv0,r0⟩:=R1.rep i u hS;have fin:=q (.bl _) F1 H1 R1 st1 (.bl _);have go:∀a vs,v0= .ref a->lE X.K H1 a vs->bq F1 vs ds->zK i σ H1 fun y H2=>MF X n v y H2 Q:=fun a vs e ha rs=>⟨v0,hv0,F1,d1,ds,a,vs,e,R1.sub,r1,ha,rs,hd,fin⟩
  unfold pZ at h2;split at h2
  ·cases h2;obtain⟨a,vs,e1,fa,ha,rs⟩:=R1.sub.gF r0;exact go a vs e1 (.inl ha) rs
  ·cases h2;obtain⟨a,e1,fa,vs,ha,rs⟩:=r0;exact go a vs e1 (lE.of ha) rs
  ·cases h2;obtain⟨a,e1,fa,vs,ha,rs⟩:=r0;exact go a vs e1 (lE.of ha) rs
  ·cases h2
 ·cases hg
def QC (hu:X.A.units+64<cLine) (ha:JD X a ga) (hN:X.N[i]? =some x:=by rfl) (hv:qj X.env.scope x:=by first|exact Or.inl rfl|exact Or.inr (Or.inl rfl)|exact Or.inr (Or.inr rfl)) (hd:BBT x:=by decide) (hcd:BBU x:=by decide)
  (hm:behindInMarks .In (.Name x px)=false:=by with_unfolding_all rfl):JD X (.Compare a [.In] [.Name x px] pos) (qC false i ga):=⟨fun B=>(Ep (JJ hu) (ha.h B) (bZ hN hv hd hcd) hm).imp fun σ H Q h=>Ao h⟩
def QD (hu:X.A.units+64<cLine) (ha:JD X a ga) (hN:X.N[i]? =some x:=by rfl) (hv:qj X.env.scope x:=by first|exact Or.inl rfl|exact Or.inr (Or.inl rfl)|exact Or.inr (Or.inr rfl)) (hd:BBT x:=by decide) (hcd:BBU x:=by decide)
  (hm:behindInMarks .In (.Name x px)=false:=by with_unfolding_all rfl):JT X (.Compare a [.In] [.Name x px] pos) (qB (qC false i ga)):=⟨fun B=>(ve (JJ hu) (ha.h B) (bZ hN hv hd hcd) hm).imp fun σ H Q ⟨S,F,k,S',R,hg,q⟩=>Ao ⟨S,F,.bl k,S',R,jR hg,fun v F' H' R' st r=>⟨k,ji r,q F' H' R' st⟩⟩⟩
def G5 (hu:X.A.units+64<cLine) (ha:JD X a ga) (hN:X.N[i]? =some x:=by rfl) (hv:qj X.env.scope x:=by first|exact Or.inl rfl|exact Or.inr (Or.inl rfl)|exact Or.inr (Or.inr rfl)) (hd:BBT x:=by decide) (hcd:BBU x:=by decide)
  (hm:behindInMarks .NotIn (.Name x px)=false:=by with_unfolding_all rfl):JT X (.Compare a [.NotIn] [.Name x px] pos) (qB (qC true i ga)):=⟨fun B=>(ve (G4 hu) (ha.h B) (bZ hN hv hd hcd) hm).imp fun σ H Q ⟨S,F,k,S',R,hg,q⟩=>Ao ⟨S,F,.bl k,S',R,jR hg,fun v F' H' R' st r=>⟨k,ji r,q F' H' R' st⟩⟩⟩
end
noncomputable def look:U->Option D
 |.t d=>some d
 |.m (.lst ds)=>some (.lst ds)
 |.b (.lst ds)=>some (.lst ds)
 |_=>none
def B4 {F:Hp}{v:V}{e:D}(h:pS e=true) (r:Rep F v e):Rep F' v e:=by
 cases r with
 |bQ=>exact .bQ
 |bl b=>exact .bl b
 |int b=>exact .int b
 |str b=>exact .str b
 |tup _ _=>cases h
 |lst _ _=>cases h
section
variable (S:SS)(i:Nat)(g:GD)
@[simp] theorem Zi (n:Bool):qC n i g S=(g S).bind fun p=>match p.2[i]? with|some (some u)=>(pZ u).bind fun ds=>if bf ds<=40 then some (.bl (n != inD p.1 ds),p.2) else none|_=>none:=rfl
@[simp] theorem U5 (d:D):look (.t d)=some d:=rfl
@[simp] theorem U6 (ds:List D):look (.m (.lst ds))=some (.lst ds):=rfl
@[simp] theorem U7 (ds:List D):look (.b (.lst ds))=some (.lst ds):=rfl
@[simp] theorem SJ (ds:List D):pZ (.t (.lst ds))=some ds:=rfl
@[simp] theorem SK (ds:List D):pZ (.m (.lst ds))=some ds:=rfl
@[simp] theorem SM (ds:List D):pZ (.b (.lst ds))=some ds:=rfl
end
section
variable {X:Cx}{a b c e:Expr}{p:Pos}{x:Str}
def DM (clos:closureFor scope X.env=pure cl) (kh:∀z∈scope.names,z.2≠.cell) (kind:scope.kind= .function) (names:∀z∈scope.names,z.2= .local->scope.names.lookup z.1=some .local)
  (loc:scope.names.lookup x=some .local) (hc:cl.map (fun p=>X.env.cells.lookup p.1)=cl.map (fun p=>some p.2)) (only:∀z∈scope.names,z.2= .free->z.1∈bE) (hcl:cl.map (·.1)=bE.reverse\/cl.map (·.1)=bE) (nd:(x::bE).Nodup)
  (slot:cap.map (fun i=>X.N[i]?)=bE.map some) (vis:bE.map (fun n=>X.env.scope.names.lookup n)=bE.map fun _=>some .cell) (rel:bE.map (fun n=>(relabel scope X.env).names.lookup n)=bE.map fun _=>some .cell):
  dz X x bE cap scope cl:=by
 have all:∀{α β:Type}{f g:α->β}{l:List α},l.map f=l.map g->∀a∈l,f a=g a:=fun {α β f g l} h=>by
  induction l with
  |nil=>intro a m;cases m
  |cons b r ih=>
   intro a m;rw[abj,abj] at h;injection h with h1 h2
   rcases aao.mp m with z|z
   ·rw[z];exact h1
   ·exact ih h2 a z
 have U8:∀n,n∈bE->∃c,cl.lookup n=some c:=fun n hn=>lookup_some (hcl.elim (fun z=>by rw[z];exact adN.mpr hn) fun z=>by rw[z];exact hn);have len:cap.length=bE.length:=by have:=congrArg List.length slot;simpa using this
 refine⟨clos,kh,kind,names,loc,fun n c h=>all hc (n,c) (abK h),fun n h=>?_,nd,len,fun j n h=>?_,fun n h=>⟨.inl (all rel n h),U8 n h,by rw[all vis n h];decide⟩⟩
 ·refine U8 n ?_;have go:∀k,(k=NameKind.cell\/k=NameKind.free)->(relabel scope X.env).names.lookup n=some k->n∈bE:=fun k hk e=>by
   have m:=abK e;unfold relabel at m;obtain⟨⟨n',k'⟩,hm,q⟩:=aaD.mp m;by_cases hf:k'= .free
   ·have h0:n'∈bE:=only _ hm hf;have e1:n'=n:=by
     have h1:=congrArg Prod.fst q;dsimp only at h1;split at h1<;>exact h1
    rw[<-e1];exact h0
   ·have z:(k' == NameKind.free)=false:=by simpa using hf
    simp only[z,ad6] at q;have q2:k'=k:=by
     have:=congrArg Prod.snd q
     simpa using this
    rcases hk with rfl|rfl
    ·exact absurd q2 (kh _ hm)
    ·exact absurd q2 hf
  rcases h with h|h
  ·exact go _ (.inl rfl) h
  ·exact go _ (.inr rfl) h
 ·have e:=congrArg (fun l=>l[j]?) slot;simp only[aaI,h,Option.map_some] at e;cases q:cap[j]? with
  |none=>rw[q] at e;cases e
  |some i=>
   rw[q] at e;exact⟨i,rfl,aaV e,.inr (.inl (all vis n (aaW h)))⟩
end
open AutoSeq1 (wpAny_loadPart')
def MG (k:Bool) (h:Heap) (a:Addr) (its:AAK):Prop:=match k with
 |true=>h.IsList a its
 |false=>h.IsTuple a its
def W0 (k:Bool) (h:Heap) (it a:Addr) (i:Nat):Prop:=match k with
 |true=>h.IsListIter it a i
 |false=>h.IsTupleIter it a i
noncomputable def itN:Bool->String
 |true=>"list_iterator"
 |false=>"tuple_iterator"
def Zj (k:Bool) (a:Addr):Obj:={cls:=.type (itN k),data:=.fields #[.ref a,.int 0 0]}
def MG.at {h h':Heap}(x:MG k h a its) (g:∀o,h.get? a=some o->h'.get? a=some o):MG k h' a its:=by
 cases k<;>exact let⟨o,ho,r⟩:=x;⟨o,g o ho,r⟩
def W0.new (k:Bool) (h:Heap) (a:Addr):W0 k (h.push (Zj k a)) h.objs.size a 0:=by
 cases k<;>exact⟨_,aaB _ rfl,rfl,rfl⟩
section
variable {prog:Program}{w:World}{A:Around}{E:AAE}{s:Shared}
def U9 (h:MG k s.heap a its) (q:Q (.ref s.heap.objs.size) {s with heap:=s.heap.push (Zj k a)}):wpAny (model prog w) A (pyIter (.ref a)) Q E s:=by
 cases k with
 |true=>exact ady h q
 |false=>exact wpAny_pyIter_tuple h q
end
abbrev TupAt (h:Heap) (T:Addr) (vals:AAK):Prop:=h.get? T=some {cls:=.type "tuple",data:=.seq vals}
section
variable {b:Expr}
def WalkN (J:It) (F:Hp) (ds:List D):Prop:=∀F' H',(∀b o,F b=some o->F' b=some o)->Sub F' H'->∀i,(∀d,ds[i]? =some d->J.go i H'/\∀x H2,J.PD i H' x H2->∃F2,fV F' H' F2 H2/\Sub F2 H2/\Rep F2 x d)/\(ds.length<=i->J.stop i H')
inductive Zk (K:AAD) (B:Base) (gi:GI) (σ:St) (H:Hp) (Q:It->Hp->Prop):Prop
 |mk (S:SS) (F:Hp) (ds:List D) (S':SS) (R:Rel K B S σ F H) (hg:gi S=some (ds,S')) (q:∀J F' H',Rel K B S' σ F' H'->Step S S' σ F H F' H'->WalkN J F' ds->Q J H')
end
def MH {F:Hp}{d:D}(R:Rel K B S σ F H) (h:S[i]? =some (some u)) (hl:look u=some d):∃v F1,σ[i]? =some (some v)/\Sub F1 H/\Rep F1 v d/\∀b o,F b=some o->F1 b=some o:=by
 obtain⟨v,hv,r⟩:=R.rep i u h;unfold look at hl;split at hl
 ·cases hl;exact⟨v,F,hv,R.sub,r,fun _ _ z=>z⟩
 ·cases hl;obtain⟨a,rfl,fa,vs,ha,rs⟩:=r;exact⟨_,upd F a (.lst vs),hv,R.sub.jh ha,.lst (.inl aO) (rs.le (fU fa)),fU fa⟩
 ·cases hl;obtain⟨a,rfl,fa,vs,ha,rs⟩:=r;exact⟨_,upd F a (.lst vs),hv,R.sub.jh ha,.lst (.inl aO) (rs.le (fU fa)),fU fa⟩
 ·cases hl
def vY (f:List D->Option U) (i:Nat) (g:GD):GD:=fun S=>match S[i]? with
 |some (some _)=>(g S).bind fun p=>match p.2[i]? with
  |some (some u)=>(look u).bind fun d=>match f [d,p.1] with
   |some (.t e)=>if pS e=true then some (e,p.2) else none
   |_=>none
  |_=>none
 |_=>none
section
variable {X:Cx}{b:Expr}{x y:Str}{px pos:Pos}{f:List D->Option U}{gb:GD}
def JK {Q:VK}(h:tD X.K B (vY f i gb) σ H Q):Oo (fun x y H Q=>rP f [x,y] H Q) (zK i) (tD X.K B gb) σ H Q:=by
 obtain⟨S,F,d,S',R,hg,q⟩:=h;unfold vY at hg;split at hg
 ·rename_i u0 DJ;obtain⟨⟨d1,S1⟩,h1,hg⟩:=aj hg;dsimp only at hg;split at hg
  ·rename_i u hS;obtain⟨dx,h2,hg⟩:=aj hg;split at hg
   ·rename_i e' he';obtain⟨hfl,hg⟩:=bW hg;cases hg;obtain⟨v0,hv0,_⟩:=R.rep i u0 DJ;refine⟨v0,hv0,S,F,d1,_,R,h1,fun v F1 H1 R1 st1 r1=>?_⟩;obtain⟨v1,F2,k1,k2,k3,k4⟩:=MH R1 hS h2;rw[hv0] at k1;cases k1;refine⟨F2,[dx,d1],_,k2,.cons k3 (.cons (r1.le k4) .nil),he',fun v' F' H' n s' r'=>?_⟩;have n':fV F1 H1 F1 H':=⟨fun _ _ z=>z,n.same,fun _ _ _ z=>z⟩
    exact q v' F1 H' (R1.new n' (R1.sub.same n.same)) (st1.trans n'.step) (B4 hfl r')
   ·cases hg
  ·cases hg
 ·cases hg
def MI (ho:xP X (compareOp op) f) (hb:JD X b gb) (hN:X.N[i]? =some x:=by rfl) (hv:qj X.env.scope x:=by first|exact Or.inl rfl|exact Or.inr (Or.inl rfl)|exact Or.inr (Or.inr rfl)) (hd:BBT x:=by decide) (hcd:BBU x:=by decide)
  (hm:behindInMarks op b=false:=by first|exact C9 _|rfl):JT X (.Compare (.Name x px) [op] [b] pos) (qB (vY f i gb)):=⟨fun B=>(ve ho (bZ hN hv hd hcd) (hb.h B) hm).imp fun σ H Q ⟨S,F,k,S',R,hg,q⟩=>JK ⟨S,F,.bl k,S',R,jR hg,fun v F' H' R' st r=>⟨k,ji r,q F' H' R' st⟩⟩⟩
end
section
variable {e k:Expr}
def JL  [DecidableEq κ] {F:Hp}{ws:List (κ×V)}{kvs:List (κ×D)}(pr:Paired (ff F) ws kvs) (k:κ):(qo ws k).isSome=(dF kvs k).isSome:=by
 cases e:dF kvs k with
 |none=>rw[yJ pr e];rfl
 |some d=>obtain⟨v,h,_⟩:=lP pr e;rw[h];rfl
end
noncomputable def B5 (kvs:AAJ) (z:Str):BBM:=(kvs.find? fun p=>decide (p.1=z)).map (·.2)
theorem G6 {F:Hp}:∀zs:BBB,bq F (zs.map V.str) (zs.map D.str)
 |[]=>.nil
 |z::zs=>.cons (.str z) (G6 zs)
theorem vZ:∀zs:BBB,bf (zs.map D.str)=0
 |[]=>rfl
 |z::zs=>by show max (bA (.str z)) (bf (zs.map D.str))=0;rw[vZ zs];rfl
end L2
end
section
namespace HT
open PySem PySem.Spec PyProof.Rows
section
variable {prog:Program}{w:World}{A:Around}{E:AAE}{s:Shared}
def sY {sl:Addr}{vs:Value}{n:Nat}{Q:Int×Int×Nat->Shared->Prop}(hs:s.heap.IsSliceOf sl .none .none vs) (ps:IsPart vs (some (-1)))
  (h:Q ((n:Int)-1,-1,n) s):wpAny (model prog w) A (Builtin.Slice.sliceApplied (.ref sl) (pure (n:Int))) Q E s:=by
 obtain⟨os,hos,hcs,hds⟩:=id hs;unfold Builtin.Slice.sliceApplied Builtin.Slice.sliceFields;refine aab (aab (adH hos hds (x:=.none) rfl (aab (adH hos hds (x:=.none) rfl (aab (adH hos hds (x:=vs) rfl (wpAny_pure ?_)))))));refine aab (qp ps ?_);show wpAny _ _ (if((-1:Int) == 0)=true then _ else _) _ _ s;rw[if_neg (by decide)];refine aab (ad7 (aab (ad7 (aab (wpAny_pure ?_)))));show wpAny _ _ (match Builtin.Slice.sliceAdjust none none (-1) (n:Int) with|(lo,hi)=>pure (lo,(-1:Int),Builtin.Slice.slicePlaces lo hi (-1))) _ _ s;have e:Builtin.Slice.sliceAdjust none none (-1) (n:Int)=((n:Int)-1,-1):=rfl;rw[e];show wpAny _ _ (pure ((n:Int)-1,(-1:Int),Builtin.Slice.slicePlaces ((n:Int)-1) (-1) (-1))) _ _ s;have e2:Builtin.Slice.slicePlaces ((n:Int)-1) (-1) (-1)=n:=by
  unfold Builtin.Slice.slicePlaces;rw[if_neg (by decide)];split
  ·rw[show(- -1:Int)=1 from rfl,Int.ediv_one];lia
  ·lia
 rw[e2];exact wpAny_pure h
def JM (xs:AAK):((List.range xs.size).filterMap fun(m:Nat)=>xs[((xs.size:Int)-1+(m:Int) * -1).toNat]?).toArray=xs.toList.reverse.toArray:=by
 have h1:(List.range xs.size).filterMap (fun(m:Nat)=>xs[((xs.size:Int)-1+(m:Int) * -1).toNat]?)=((List.range xs.size).map fun k=>xs.size-1-k).filterMap (xs[·]?):=by
  rw[List.filterMap_map]
  congr 1
  funext m;show xs[((xs.size:Int)-1+(m:Int) * -1).toNat]? =xs[xs.size-1-m]?
  have:((xs.size:Int)-1+(m:Int) * -1).toNat=xs.size-1-m:=by lia
  rw[this]
 rw[h1,PySem.W.krv_range,List.filterMap_reverse,PySem.W.krv_all]
def rK {t sl:Addr}{items:AAK}{vs:Value}{Q:AAE}(ht:IsTup s.heap t items) (hs:s.heap.IsSliceOf sl .none .none vs) (ps:IsPart vs (some (-1)))
  (h:Q (.ref s.heap.objs.size) {s with heap:=s.heap.push {cls:=.type "tuple",data:=.seq items.toList.reverse.toArray}})
  (hsz:items.size<=sizeLine):wpAny (model prog w) A (getItem (.ref t) (.ref sl)) Q E s:=by
 have q9:sizeOk (.seq items.toList.reverse.toArray):=by
  show items.toList.reverse.toArray.size<=sizeLine;rw[aad,abT,aaL];exact hsz
 obtain⟨os,hos,hcs,hds⟩:=id hs;have UA:s.TypeIs (.ref sl) "slice":=⟨os,hos,hcs⟩
 unfold getItem
 try with_reducible refine abq ?_
 first|refine aab (wpAny_pure ?_)|skip
 refine aab (aeo ht.typeIs (by decide) ?_);refine aab (abX (name:=Str.ofString "__getitem__") ht.typeIs aaX
  (abR aaX ht.typeIs entry_tuple_getitem ?_ (args_tuple_getitem _ _)))
 show wpAny _ _ (Builtin.Tuple.tupleItemsOf (.ref t) >>= _) _ _ s;refine aab (tupleItemsOf_ ht ?_);refine aab (adp UA ?_);rw[if_pos (by decide)];refine aab (sY hs ps ?_);have hno:¬((((items.size:Int)-1) == 0 && (-1:Int) == 1 && items.size == items.size)=true):=by
  intro q;rw[aaH,aaH] at q;exact absurd q.1.2 (by decide)
 show wpAny _ _ (if(((items.size:Int)-1) == 0 && (-1:Int) == 1 && items.size == items.size)=true then _ else _) _ _ s;rw[if_neg hno,JM]
 first
  |exact aab (m:=Builtin.Tuple.tupleExact _) (abi (wpAny_pure ⟨_,rfl,wpAny_pure h⟩) q9)
  |exact aab (m:=Builtin.Tuple.tupleExact _) (abi (aab (wpAny_pure (wpAny_pure ⟨_,rfl,wpAny_pure h⟩))) q9)
  |exact aab (aab (m:=Builtin.Tuple.tupleExact _) (abi (wpAny_pure (wpAny_pure ⟨_,rfl,wpAny_pure h⟩)) q9))
  |exact aab (aab (m:=Builtin.Tuple.tupleExact _) (abi (wpAny_pure ⟨_,rfl,wpAny_pure h⟩) q9))
end
end HT
namespace L2
open PySem PySem.Spec PyProof.Rows
section
variable {X:Cx}{e st:Expr}{te ts:TE}{pos p2:Pos}
def SlV (X:Cx) (r:V->Hp->VK->Prop):Prop:=
 ∀(pins:AAG) (s:Shared) (σ:St) (H:Hp) (x:V) (v vs:Value) (sl:Addr) (Q:VK),Inv X pins σ H s->RelV x v->s.heap.IsSliceOf sl .none .none vs->IsPart vs (some (-1))->r x H Q->
  ∃T id,typeLookup (.type T) "__getitem__" =pure (some (.builtin id))/\s.TypeIs v T/\wpAny (model X.prog X.w) X.A (getItem v (.ref sl)) (EP X pins σ Q) X.xe s
def Zl (r:V->Hp->VK->Prop) (te:TE) (ts:TO):TE:=fun σ H Q=>te σ H fun x H1=>ts σ H1 fun u H3=>u=some (-1)/\r x H3 Q
def G7 {r:V->Hp->VK->Prop}(hr:SlV X r) (he:PE X e te) (hs:PE X st ts):PE X (.Subscript e (.Slice none none (some st) p2) pos) (Zl r te (OA ts)):=by
 intro pins s σ H Q I h;refine Subscript_ (dW (he pins s σ H _ I h) fun v s1 hh=>?_);obtain⟨x,H1,I1,r1,q1⟩:=hh;refine wpAny_Slice ?_;rw[evalPart_none];refine wpAny_pure ?_;refine wpAny_pure ?_;refine dW (Ey hs pins s1 σ H1 _ I1 q1) fun vu s3 hh=>?_;obtain⟨u,H3,I3,pu,q3⟩:=hh;obtain⟨rfl,q3⟩:=q3;have I4:Inv X pins σ H3 {s3 with heap:=s3.heap.push {cls:=.type "slice",data:=.fields #[.none,.none,vu]}}:=I3.kept (t':=s3.toks) fun b ob q=>aac _ q;obtain⟨T,id,hT,ht,hg⟩:=hr pins {s3 with heap:=s3.heap.push {cls:=.type "slice",data:=.fields #[.none,.none,vu]}} σ H3 x v vu s3.heap.objs.size Q I4 r1 (Heap.IsSliceOf.new ..) pu q3;show wpAny (model X.prog X.w) X.A (subscriptTail e (.Slice none none (some st) p2) v (.ref s3.heap.objs.size)) (EP X pins σ Q) X.xe {s3 with heap:=s3.heap.push {cls:=.type "slice",data:=.fields #[.none,.none,vu]}};exact tail_any (ops:=[v,.ref s3.heap.objs.size]) ht hT hg (by with_unfolding_all rfl)
noncomputable def sZ (d:D):Option U:=match d with
 |.tup ds=>some (.t (.tup ds.reverse))
 |.lst ds=>some (.m (.lst ds.reverse))
 |_=>none
theorem bq.rev {F:Hp}:∀{vs:List V}{ds:List D},bq F vs ds->bq F vs.reverse ds.reverse
 |_,_,.nil=>.nil
 |_,_,.cons r rs=>by rw[adz,adz];exact(bq.rev rs).append (.cons r .nil)
def Vals.rev {xs:List V}{us:AAL}(r:Vals xs us):Vals xs.reverse us.reverse:=by
 induction r with
 |nil=>exact .nil
 |cons r _ ih=>rw[adz,adz];exact ih.append (.cons r .nil)
def Va:V->Hp->VK->Prop:=fun x H Q=>∃F d u,Sub F H/\Rep F x d/\sZ d=some u/\∀v F' H',fV F H F' H'->Sub F' H'->vH H F' H' v u->Q v H'
def Vb:SlV X Va:=by
 intro pins s σ H x v vs sl Q I rx hs ps ⟨F,d,u,sb,r,hf,q⟩;cases d with
 |tup ds=>
  cases hf;obtain⟨a,xs,rfl,fa,ha,rs⟩:=sb.jN r;cases rx;obtain⟨its,rv,ht,hz⟩:=I.tuple (.inl ha);have hlen:its.toArray.size=xs.length:=by rw[aad];exact rv.length.symm
  refine⟨"tuple",_,aaX.lookup,ht.typeIs,?_⟩;refine HT.rK ht hs ps ?_ (by rw[hlen];exact hz);refine⟨.ref s.heap.objs.size,_,I.laid (t':=s.toks) (o:=.tup xs.reverse) (fun b ob q=>aac _ q) (aaj _) ?_,rfl,?_⟩
  ·exact⟨by rw[abT];exact hz,_,rv.rev,IsTup.new _ _⟩
  ·have hp:=I.hok.fresh (aaj _);exact q _ _ _ (fV.root sb hp _) (sb.vG hp) (.tup aO (rs.rev.le (fU (sb.fresh hp))))
 |lst ds=>
  cases hf;obtain⟨a,xs,rfl,fa,ha,rs⟩:=sb.gF r;cases rx;obtain⟨its,rv,ht,hz⟩:=I.list (.inl ha);have hlen:=rv.length;refine⟨"list",_,aep.lookup,ht.isList.typeIs,?_⟩;refine wpAny_getItem_list_slice ht.isList hs .none .none ps (by simp) ?_ (by rw[aad]<;>lia);rw[PySem.W.krv_pick];have hp:=I.hok.fresh (aaj _);refine⟨.ref s.heap.objs.size,_,I.laid (t':=s.toks) (o:=.lst xs.reverse) (fun b ob q=>aac _ q) (aaj _) ?_,rfl,?_⟩
  ·exact⟨by rw[abT];exact hz,_,0,rv.rev,aaB _ rfl⟩
  ·exact q _ F _ (fV.obj hp _) (sb.same (fV.obj (F:=F) hp _).same) ⟨_,rfl,hp,sb.fresh hp,_,aO,rs.rev⟩
 |str z=>cases hf
 |bQ=>cases hf
 |bl b=>cases hf
 |int b=>cases hf
def G8 (g gs:GD):GE:=fun S=>(g S).bind fun p=>(gs p.2).bind fun l=>match l.1 with
 |.int i=>if i=-1 then(sZ p.1).map fun u=>(u,l.2) else none
 |_=>none
def DN {g gs:GD}(he:JD X e g) (hs:JD X st gs):JE X (.Subscript e (.Slice none none (some st) p2) pos) (G8 g gs):=⟨fun B=>(G7 Vb (he.h B) (hs.h B)).imp fun σ H Q hh=>by
 obtain⟨S,F,u,S',R,hg,q⟩:=hh;obtain⟨⟨d,S1⟩,h1,hg⟩:=aj hg;obtain⟨⟨l,S2⟩,h2,hg⟩:=aj hg;cases l<;>try (cases hg)
 rename_i i;dsimp only at hg;by_cases hi:i=-1
 ·rw[if_pos hi] at hg;subst hi;obtain⟨u',h4,hg⟩:=au hg;cases hg;exact⟨S,F,d,S1,R,h1,fun v F1 H1 R1 st1 r1=>⟨S1,F1,_,_,R1,h2,fun v2 F2 H2 R2 st2 r2=>⟨_,gm r2,rfl,F2,d,_,R2.sub,r1.le st2.ext.le,h4,fun v F4 H4 n s4 r4=>q v F4 H4 (R2.new n s4) ((st1.trans st2).trans n.step) (r4.Ad R2 (st1.trans st2))⟩⟩⟩
 ·rw[if_neg hi] at hg;cases hg⟩
@[simp] theorem Zm (g gs:GD) (S:SS):G8 g gs S=(g S).bind fun p=>(gs p.2).bind fun l=>match l.1 with
 |.int i=>if i=-1 then(sZ p.1).map fun u=>(u,l.2) else none
 |_=>none:=rfl
end
end L2
namespace HT
open PySem PySem.Spec PyProof.Rows
end HT
namespace L2
open PySem PySem.Spec PyProof.Rows
end L2
end
section
namespace L2
open PySem PySem.Spec PyProof.Rows PySem.Calls
def cU:Slot "set_iterator" "__next__" "set_iterator.__next__":=
 .of (owner:="set_iterator") (n:="__next__") (by rw[typeLookup_type,builtinLookup_eq_fast];kernel_rfl) (by decide +kernel) (by decide +kernel) (by decide +kernel)
  (by first|exact .inl (by decide +kernel)|exact .inr (by decide +kernel)) (by rw[adt];kernel_rfl)
def lR:entryFor table "set_iterator.__next__" =some Builtin.«set_iterator.__next__»:=entryFor_of_tree (by kernel_rfl)
def Aq:entryFor table "set.__iter__" =some Builtin.«frozenset.__iter__»:=entryFor_alias (id':="frozenset.__iter__") (by kernel_rfl) rfl (by decide +kernel) (by kernel_rfl)
def uJ:Manifest.owners.lookup (String.ofList ['r','o','t','a','r','e','t','i','_','t','e','s'].reverse)=some Manifest.sig_set_iterator:=by kernel_rfl
def nu (a:Value):argsOk "set_iterator.__next__" ⟨[a],[]⟩:=by
 unfold argsOk;rw[signature?_of (id:="set_iterator.__next__") (n:=['_','_','t','x','e','n','_','_']) (o:=['r','o','t','a','r','e','t','i','_','t','e','s']) (by kernel_rfl) uJ];kernel_rfl
section
variable {a:Addr}
def nv:Slot "set_iterator" "__iter__" "set_iterator.__iter__":=
 .of (owner:="set_iterator") (n:="__iter__") (by rw[typeLookup_type,builtinLookup_eq_fast];kernel_rfl) (by decide +kernel) (by decide +kernel) (by decide +kernel)
  (by first|exact .inl (by decide +kernel)|exact .inr (by decide +kernel)) (by rw[adt];kernel_rfl)
def tu:entryFor table "set_iterator.__iter__" =some Builtin.«dict_keyiterator.__iter__»:=entryFor_alias (id':="dict_keyiterator.__iter__") (by kernel_rfl) rfl (by decide +kernel) (by kernel_rfl)
def uU (a:Value):argsOk "set_iterator.__iter__" ⟨[a],[]⟩:=by
 unfold argsOk;rw[signature?_of (id:="set_iterator.__iter__") (n:=['_','_','r','e','t','i','_','_']) (o:=['r','o','t','a','r','e','t','i','_','t','e','s']) (by kernel_rfl) uJ];kernel_rfl
end
end L2
end
section
namespace L2
open PySem PySem.Spec PyProof.Rows
variable {X:Cx}{pins:AAG}{σ:St}{H:Hp}{x y0:Str}{bE:BBB}{cap:BBJ}{scope:Scope}{cl:List (Str×Addr)}{elt iter:Expr}{ifs:BBC}{px py pt pos:Pos}{k0:Nat}{Q:VK}{K:AAD}{gi:GI}{q:GT}{g:GD}
structure rL (X:Cx) (x y0:Str) (bE:BBB) (cap:BBJ) (scope:Scope) (cl:List (Str×Addr)):Prop where
 one:dz X x bE cap scope cl
 Vc:scope.names.lookup y0=some .local
 SH:(x::y0::bE).Nodup
def MJ (K:AAD) (wi:TI) (cap:BBJ) (tc:TT) (te:TE):TE:=fun σ H Q=>wi σ H fun J H1=>∃W:Nat->Nat->List V->Hp->Prop,(∃m,W 0 m [] H1)/\∀i m ys H,W i m ys H->ys.length<sizeLine/\
  ((J.stop i H/\∀p,H p=none->Q (.ref p) (upd H p (.lst ys)))\/
   (J.go i H/\∀x H',J.PD i H x H'->∃a x1 x2,x= .ref a/\yt K H' a [x1,x2]/\tc (some x1::some x2::cL cap σ) H' fun b H2=>if b=true then te (some x1::some x2::cL cap σ) H2 fun y H3=>∃m',m' < m/\W (i+1) m' (ys++[y]) H3 else ∃m',m' < m/\W (i+1) m' ys H2))
def G9 {s s4:Shared}{C:Addr}{fp:BBE}{m':AAF}
  (I:Inv X pins σ H s) (T2:rL X x y0 bE cap scope cl) (hfp:∀b∈fp,qk X pins H b) (hfo:∀b∈fp,∃o,s.heap.get? b=some o)
  (hC:s.heap.objs.size<=C) (hns:s4.heap.Ns C m') (hos:s4.os=s.os) (hg:s4.gens=s.gens)
  (kept:∀b o,s.heap.get? b=some o->s4.heap.get? b=some o):
  Inv (cg X (x::y0::bE) scope cl C s H fp) [] (none::none::cL cap σ) H s4:=by
 have T:=T2.one;have fr:∀b,s.heap.objs.size<=b->H b=none:=fun b hb=>I.hok.fresh hb;refine⟨⟨I.ok.mod,T.kind,I.ok.glob,I.ok.blt,hC,fun y z c h1 h2=>I.ok.inj y z c (T.cells _ _ h1) (T.cells _ _ h2),fun y hy=>T.has y hy,fun y c h=>(by cases h),I.ok.hd,I.ok.frames,.inl rfl,fun b hb=>⟨?_,fun y c e z=>?_⟩,I.bs,aaC I.ok.Gi I.sz,fun b o e hb=>?_,fun b hb z=>?_,I.stack,I.zJ⟩,
  hos,by rw[hg];exact I.bare,Un.kept kept,⟨m',hns,fun i y v h1 h2 h3=>?_⟩,fun y c h=>?_,fr C hC,fun y c h=>I.kM y c (T.cells _ _ h),fun p hp=>?_,I.hok.kept kept,?_⟩
 ·obtain⟨o,e⟩:=hfo b hb;exact aaF (aas (aap e) hC)
 ·exact(hfp b hb).2.2.2.2.1 y c (T.cells _ _ e) z
 ·rcases(hfp b hb).2.2.2.1 with z|z
  ·exact I.ok.BA b o e z
  ·exact absurd (aas (aap e) (aaC I.ok.Gi z)) (abS _)
 ·rcases aao.mp (I.vA b z) with q|q
  ·exact(hfp b hb).2.1 q
  ·exact(hfp b hb).2.2.1 q
 ·match i,h1,h2 with
  |0,h1,h2=>cases h2
  |1,h1,h2=>cases h2
  |j+2,h1,h2=>
   have h1:bE[j]? =some y:=by simpa[cg] using h1
   have h2:(cL cap σ)[j]? =some (some v):=by simpa using h2
   obtain⟨i,e1,e2,e3⟩:=T.slot j y h1;have e4:σ[i]? =some (some v):=by
    unfold cL at h2;rw[aaI,e1] at h2;have h2:some ((σ[i]?).join)=some (some v):=h2;have h2:=aaV h2;cases q:σ[i]? with
    |none=>rw[q] at h2;cases h2
    |some o=>rw[q] at h2;cases h2;rfl
   obtain⟨m,hn,hl⟩:=I.loc;obtain⟨u,r,l⟩:=hl i y v e2 e4 e3;obtain⟨k1,⟨c,hc⟩,k3⟩:=T.vis y (aaW h1);refine⟨u,r,.inr ⟨k1,c,hc,?_⟩⟩;rcases l with⟨hk,_⟩|⟨hk,c',hc',z⟩
   ·exact absurd hk k3
   ·rw[T.cells _ _ hc] at hc';cases hc';obtain⟨o,ho,hd⟩:=z;exact⟨o,kept _ _ ho,hd⟩
 ·obtain⟨v,o,ho,hd⟩:=I.cell y c (T.cells _ _ h);exact⟨v,o,kept _ _ ho,hd⟩
 ·exact absurd (show p∈([]:AAG) from hp) (by simp)
 ·show(none::none::cL cap σ).length=(x::y0::bE).length;simp[cL,T.len]
def B6 {wi:TI}{tc:TT}{te:TE}{s:Shared}{use:Option (Value->Sem Unit)}{Qf:AAE}{pos2:Pos}
  (T2:rL X x y0 bE cap scope cl) (hc:X.calm=true) (hi:PI X (.Tuple [.Name x px,.Name y0 py] k0 pt) iter wi)
  (ht:∀C s H fp,LA (cg X (x::y0::bE) scope cl C s H fp) ifs tc) (he:∀C s H fp,PE (cg X (x::y0::bE) scope cl C s H fp) elt te)
  (hs:∀x,foldedSetIterable iter X.env x=pure x) (I:Inv X pins σ H s) (h:MJ X.K wi cap tc te σ H Q)
  (hend:∀(D C:Addr) (s7:Shared) (H6:Hp) (ys:List V),Inv X pins σ (upd H6 D (.lst ys)) s7->(∃m,s7.heap.Ns C m)->qk X pins (upd H6 D (.lst ys)) C->Q (.ref D) (upd H6 D (.lst ys))->compPost (model X.prog X.w) X.A X.xe use Qf (.ref D) C (.ok .next) s7):
  wpAny (model X.prog X.w) X.A (comprehension (.ListComp elt [⟨.Tuple [.Name x px,.Name y0 py] k0 pt,iter,ifs,0⟩] scope pos) scope X.env pos2 (newList []) false (eval iter X.env) use) Qf X.xe s:=
 uE (N:=x::y0::bE) (z0:=none::none::cL cap σ) (Z:=fun z=>∃o o',z=o::o'::cL cap σ) (pt:=fun v H z=>∃a x1 x2,v= .ref a/\yt X.K H a [x1,x2]/\z=some x1::some x2::cL cap σ) T2.one hc hi ht he hs I h
  (fun J H1 ⟨W,w0,t⟩=>⟨W,w0,fun i m ys H w=>⟨(t i m ys H w).1,(t i m ys H w).2.imp id fun⟨g,k⟩=>⟨g,fun v H' y=>let⟨a,x1,x2,e,q,r⟩:=k v H' y;⟨_,⟨a,x1,x2,e,q,rfl⟩,r⟩⟩⟩⟩) ⟨none,none,rfl⟩ (fun I2=>G9 I2 T2)
  (by
   rintro Y C _ _ xv H eN eE eK UK ⟨o,o',rfl⟩ ⟨a,x1,x2,e,q,rfl⟩;exact⟨⟨_,_,rfl⟩,_,Pz UK (BE (vd (i:=0) (by rw[eN];exact T2.SH) (by rw[eN];rfl) (by rw[eE];exact .inl (ab7 T2.one.loc)) (.inr (by rw[eE];exact ab7 T2.one.loc))) (BE (vd (i:=1) (by rw[eN];exact T2.SH) (by rw[eN];rfl) (by rw[eE];exact .inl (ab7 T2.Vc)) (.inr (by rw[eE];exact ab7 T2.Vc))) LW)),a,[x1,x2],e,by rw[eK];exact q,rfl,x1,[x2],rfl,x2,[],rfl,rfl,rfl,rfl⟩) hend
def Hf {wi:TI}{tc:TT}{te:TE}
  (T2:rL X x y0 bE cap scope cl) (hc:X.calm=true) (hi:PI X (.Tuple [.Name x px,.Name y0 py] k0 pt) iter wi)
  (ht:∀C s H fp,LA (cg X (x::y0::bE) scope cl C s H fp) ifs tc) (he:∀C s H fp,PE (cg X (x::y0::bE) scope cl C s H fp) elt te)
  (hs:∀x,foldedSetIterable iter X.env x=pure x:=by intro _;rfl):
  PE X (.ListComp elt [⟨.Tuple [.Name x px,.Name y0 py] k0 pt,iter,ifs,0⟩] scope pos) (MJ X.K wi cap tc te):=by
 intro pins s σ H Q I h;rw[eval_ListComp];refine B6 T2 hc hi ht he hs I h ?_;rintro p C s7 H6 ys I9 ⟨m7,OC⟩ ⟨g0,g1,g2,g3,g4,g5⟩ q;exact⟨m7,OC,fun h' hs'=>⟨.ref p,_,I9.turned (t':=s7.toks) (fun b o hb e=>hs'.extBut b o hb e) g0 g1 g3 g4 g5,rfl,q⟩⟩
def lg (cap:BBJ) (q:GT) (g:GD):List D->SS->List D->Option (List D×SS)
 |[],S,acc=>some (acc,S)
 |.tup [a,b]::ds,S,acc=>(d8 S cap).bind fun us=>
  if(slotsOf us).Nodup/\cC us<=1 then(bT S us).bind fun ws=>(q (AAA a::AAA b::ws.map some)).bind fun p=>
   if p.1 then(g p.2).bind fun r=>(aT (.t a :: .t b::ws) r.2).bind fun outs=>(wb us outs S).bind fun S'=>lg cap q g ds S' (acc++[r.1])
   else(aT (.t a :: .t b::ws) p.2).bind fun outs=>(wb us outs S).bind fun S'=>lg cap q g ds S' acc
  else none
 |_::_,_,_=>none
def tF (cap:BBJ) (gi:GI) (q:GT) (g:GD):GE:=fun S=>(gi S).bind fun p=>if p.1.length<=100000 then(lg cap q g p.1 p.2 []).map fun r=>(.m (.lst r.1),r.2) else none
def JN {F:Hp}{xs:List V}{a b:D}(r:bq F xs [a,b]):∃x1 x2,xs=[x1,x2]/\Rep F x1 a/\Rep F x2 b:=by
 cases r with
 |cons r1 rr=>cases rr with
  |cons r2 rr2=>cases rr2;exact⟨_,_,rfl,r1,r2⟩
def DO {B:Base}(h:tE K B (tF cap gi q g) σ H Q):MJ K (Zk K B gi) cap (fun σ H Q=>∃B,tQ K B q σ H Q) (fun σ H Q=>∃B,tD K B g σ H Q) σ H Q:=by
 obtain⟨x,_⟩:∃x:Str,True:=⟨"",trivial⟩
 obtain⟨S,F,u,S',R,hg,k⟩:=h;obtain⟨⟨ds,S1⟩,h1,hg⟩:=aj hg;dsimp only at hg;split at hg
 ·rename_i hlen;obtain⟨⟨res,Sf⟩,h2,hg⟩:=au hg;cases hg;refine⟨S,F,ds,S1,R,h1,fun J F1 H1 R1 st1 w=>?_⟩;refine⟨OG K B S σ F H F1 (lg cap q g) ds (res,Sf),
   ⟨_,S1,F1,[],R1,st1,fun _ _ z=>z,.nil,aaj _,aaM _,rfl,h2⟩,?_⟩
  rintro i m ys H' ⟨S2,F2,acc,R2,st2,le,ry,ha,hl,rfl,dO⟩;refine⟨by rw[ry.length];exact acm (aaC ha (aaC hl hlen)) (by decide),?_⟩;have w':=w F2 H' le R2.sub i;by_cases hlt:i<ds.length
  ·have hd:ds[i]? =some ds[i]:=aal hlt;obtain⟨go,yl⟩:=w'.1 _ hd;rw[abv hlt] at dO;refine .inr ⟨go,fun xv H3 y=>?_⟩;obtain⟨FN,n3,sb3,rx⟩:=yl xv H3 y;obtain⟨da,db,eab⟩:∃da db,ds[i]= .tup [da,db]:=by
    generalize ds[i]=dd at dO;unfold lg at dO;split at dO
    ·rename_i z;cases z
    ·rename_i z;injection z with z1 z2;exact⟨_,_,z1⟩
    ·cases dO
   have R2:Rel K B S2 σ FN H3:=R2.new n3 sb3;have st2:Step S S2 σ F H FN H3:=st2.trans n3.step;have le:∀b o,F1 b=some o->FN b=some o:=fun b o z=>n3.le b o (le b o z);have ry:=ry.le n3.le;rw[eab] at dO rx;obtain⟨pa,xs2,epa,fpa,hpa,LB⟩:=R2.sub.jN rx;obtain⟨x1,x2,exs,rx1,rx2⟩:=JN LB;subst exs epa;obtain⟨us,e1,dO⟩:=aj (show(d8 S2 cap).bind _=_ from dO);split at dO
   ·rename_i hnd;obtain⟨ws,e2,dO⟩:=aj dO;obtain⟨⟨bk,T1⟩,e3,dO⟩:=aj dO;obtain⟨vs,k1,k2⟩:=Ak R2 e1;have rr:Paired (fun v u=>gW K B S2 σ H3 FN H3 v u) (x1::x2::vs) (.t da :: .t db::us):=.cons rx1 (.cons rx2 k2);have er:=rD R2 da (rD R2 db e2);have ar:=pC R2 rr er;have nd:=cM R2 rr er hnd.1 hnd.2;have R3:=lJ (n:=ws.length+2) R2.sub ar nd (List.replicate (ws.length+2) x) (by simp);have hvl:vs.length=ws.length:=by have:=ar.length;simpa using this
    have es:start (List.replicate (ws.length+2) x) (x1::x2::vs)=some x1::some x2::cL cap σ:=by
     unfold start;rw[k1];simp[hvl]
    have eS:(U.t da::U.t db::ws).map some++List.replicate (ws.length+2-(U.t da::U.t db::ws).length) none=some (U.t da)::some (U.t db)::ws.map some:=by simp
    rw[es,eS] at R3;have back:∀(T2:SS) (F3 H4:Hp) (outs:List MO) (S3:SS),Rel K ⟨lent (x1::x2::vs) (U.t da::U.t db::ws),FN,H3⟩ T2 (some x1::some x2::cL cap σ) F3 H4->aT (U.t da::U.t db::ws) T2=some outs->wb us outs S2=some S3->Rel K B S3 σ F3 H4/\Step S S3 σ F H F3 H4/\(∀b o,FN b=some o->F3 b=some o):=fun T2 F3 H4 outs S3 RT ho hw=>by
     have po:=post_of ar T2 _ F3 H4 outs RT ho;obtain⟨Ra,xX,_⟩:=kj (S0:=S2) (F0:=FN) (H0:=H3) R2 (Step.refl ..) rr er (show wb (U.t da::U.t db::us) outs S2=some S3 by cases outs<;>exact hw) hnd.1 po;exact⟨Ra,st2.trans xX,xX.ext.le⟩
    refine⟨pa,x1,x2,rfl,.inl hpa,_,_,FN,bk,T1,R3,e3,fun F3 H4 OH UW=>?_⟩;cases bk with
    |true=>
     obtain⟨⟨yd,T2⟩,e4,dO⟩:=aj (show(g T1).bind _=_ from dO);obtain⟨outs,e5,dO⟩:=aj dO;obtain⟨S3,e6,dO⟩:=aj dO;refine z7 ⟨_,T1,F3,yd,T2,OH,e4,fun yv F4 H5 UX UY UZ=>?_⟩;obtain⟨Ra,xX,DE⟩:=back T2 F4 H5 outs S3 UX e5 e6;refine⟨ds.length-(i+1),by lia,S3,F4,acc++[yd],Ra,xX,fun b o z=>DE b o (le b o z),(ry.le DE).append (.cons UZ .nil),by simp;lia,hlt,rfl,dO⟩
    |false=>
     obtain⟨outs,e5,dO⟩:=aj (show(aT (U.t da::U.t db::ws) T1).bind _=_ from dO);obtain⟨S3,e6,dO⟩:=aj dO;obtain⟨Ra,xX,DE⟩:=back T1 F3 H4 outs S3 OH e5 e6;exact z5 ⟨ds.length-(i+1),by lia,S3,F3,acc,Ra,xX,fun b o z=>DE b o (le b o z),ry.le DE,by lia,hlt,rfl,dO⟩
   ·cases dO
  ·have e:i=ds.length:=by lia
   subst e;rw[adM] at dO;cases dO;refine .inl ⟨w'.2 (aaj _),fun p hp=>?_⟩;have n:=fV.obj (F:=F2) hp (.lst ys);refine k (.ref p) F2 _ (R2.new n (R2.sub.same n.same)) (st2.trans n.step) ⟨p,rfl,none_of st2.ext.there hp,R2.sub.fresh hp,⟨ys,aO,ry⟩,fun m=>?_,none_of R2.ext.there hp⟩;obtain⟨o,ho⟩:=R2.has m;rw[hp] at ho;cases ho
 ·cases hg
def Walk.n {J:It}{F:Hp}{ds:List D}(w:Walk J F ds):WalkN J F ds:=fun F' H' le sb i=>⟨fun d hd=>⟨((w F' H' le sb i).1 d hd).1,fun x H2 y=>by
 obtain⟨rfl,r⟩:=((w F' H' le sb i).1 d hd).2 x H2 y;exact⟨F',fV.refl ..,sb,r⟩⟩,(w F' H' le sb i).2⟩
def Hg {B:Base}(h:tE K B (tF cap gi q g) σ H Q):MJ K (Y3 K B gi) cap (fun σ H Q=>∃B,tQ K B q σ H Q) (fun σ H Q=>∃B,tD K B g σ H Q) σ H Q:=
 let⟨S,F,ds,S1,R,hg,k⟩:=DO h;⟨S,F,ds,S1,R,hg,fun J F1 H1 R1 st w=>k J F1 H1 R1 st w.n⟩
def JP (T:rL X x y0 bE cap scope cl) (hc:X.calm=true) (hi:JI X (.Tuple [.Name x px,.Name y0 py] k0 pt) iter gi)
  (ht:∀C s H fp,Qz (cg X (x::y0::bE) scope cl C s H fp) ifs q) (he:∀C s H fp,JD (cg X (x::y0::bE) scope cl C s H fp) elt g)
  (hs:∀x,foldedSetIterable iter X.env x=pure x:=by intro _;rfl):JE X (.ListComp elt [⟨.Tuple [.Name x px,.Name y0 py] k0 pt,iter,ifs,0⟩] scope pos) (tF cap gi q g):=⟨fun B=>
 (Hf (tc:=fun σ H Q=>∃B,tQ X.K B q σ H Q) (te:=fun σ H Q=>∃B,tD X.K B g σ H Q) T hc (hi.h B) (fun C s H fp pins s' σ H' Q I ⟨B',z⟩=>(ht C s H fp).h B' pins s' σ H' Q I z) (fun C s H fp pins s' σ H' Q I ⟨B',z⟩=>(he C s H fp).h B' pins s' σ H' Q I z) hs).imp fun σ H Q h=>Hg h⟩
end L2
end
section
namespace L2
open PySem PySem.Spec PyProof.Rows PySem.Calls
end L2
end
section
namespace L2
open PySem PySem.Spec PyProof.Rows
noncomputable def uK (i:Nat) (gu:GU):GU:=fun S=>(gu S).map fun p=>(.v i::p.1,p.2)
end L2
end
section
namespace L2
open PySem PySem.Spec PyProof.Rows PySem.Calls
end L2
end
section
namespace L2
open PySem PySem.Spec PyProof.Rows
variable {xs:Array Nat}{j:Nat}{es:Array (Int×Value)}{t':SetTable}{prog:Program}{ns ns':BBD}{a:Addr}
abbrev GN:=Addr->SS->List (List D)->Option (SS×List (List D))
def kC (xs:Array Nat):Prop:=xs.toList.Pairwise (· < ·)
def vg (h:kC xs){i:Nat}(hij:i<j) (hj:j<xs.size):xs.getD i 0<xs.getD j 0:=by
 have:=(acz.mp h) i j (by simpa using adR hij hj) (by simpa using hj) hij;rw[ade,ade] at this;rw[aaR,aaR,aaK hj,aaK (adR hij hj)];exact this
def Bl (xs:Array Nat) (j p:Nat):Prop:=p<=xs.size/\(∀i,i<p->xs.getD i 0<j)/\∀i,p<=i->i<xs.size->j<=xs.getD i 0
theorem v7 (xs:Array Nat) (j:Nat) (h:kC xs):∀(fuel lo hi:Nat),hi-lo<=fuel->lo<=hi->hi<=xs.size->(∀i,i<lo->xs.getD i 0<j)->(∀i,hi<=i->i<xs.size->j<=xs.getD i 0)->Bl xs j (SetTable.below.go xs j fuel lo hi)
 |0,lo,hi,hf,hl,hs,a,b=>by
  have:lo=hi:=by lia
  subst this;exact⟨hs,a,b⟩
 |fuel+1,lo,hi,hf,hl,hs,a,b=>by
  have eg:SetTable.below.go xs j (fuel+1) lo hi=if lo<hi then(if xs.getD ((lo+hi) / 2) j<j then SetTable.below.go xs j fuel ((lo+hi) / 2+1) hi else SetTable.below.go xs j fuel lo ((lo+hi) / 2)) else lo:=rfl
  rw[eg];by_cases c:lo<hi
  ·rw[if_pos c];have hm:(lo+hi) / 2<hi:=by lia
   have hm2:lo<=(lo+hi) / 2:=by lia
   have e:xs.getD ((lo+hi) / 2) j=xs.getD ((lo+hi) / 2) 0:=by
    rw[aaR,aaR,aaK (by lia)];rfl
   rw[e];by_cases d:xs.getD ((lo+hi) / 2) 0<j
   ·rw[if_pos d];refine v7 xs j h fuel _ hi (by lia) (by lia) hs (fun i hi'=>?_) b;by_cases q:i=(lo+hi) / 2
    ·rw[q];exact d
    ·have:=vg h (i:=i) (j:=(lo+hi) / 2) (by lia) (by lia);lia
   ·rw[if_neg d];refine v7 xs j h fuel lo _ (by lia) (by lia) (by lia) a (fun i hi' hs'=>?_);by_cases q:i=(lo+hi) / 2
    ·rw[q];lia
    ·have:=vg h (i:=(lo+hi) / 2) (j:=i) (by lia) hs';lia
  ·rw[if_neg c];have:lo=hi:=by lia
   subst this;exact⟨hs,a,b⟩
def v8 (h:kC xs) (j:Nat):Bl xs j (SetTable.below xs j):=
 v7 xs j h xs.size 0 xs.size (by lia) (by lia) (aaj _) (fun i h=>by lia) (fun i h1 h2=>by lia)
def getD_list (xs:Array Nat) (i:Nat):xs.getD i 0=xs.toList.getD i 0:=by
 rw[aaR,aaE,abM]
def B7 (h:kC xs)(hn:xs[SetTable.below xs j]?≠some j):kC (SetTable.insertAt xs (SetTable.below xs j) j):=by
 obtain⟨p1,p2,p3⟩:=v8 h j;generalize SetTable.below xs j=p at *;have e:(SetTable.insertAt xs p j).toList=xs.toList.take p++j::xs.toList.drop p:=by
  unfold SetTable.insertAt;simp[ab1]
 unfold kC;rw[e,adU];have ht:∀a∈xs.toList.take p,a<j:=fun a ha=>by
  obtain⟨i,hi⟩:=List.getElem?_of_mem ha;have hl:=(aau.mp hi).1;rw[abQ] at hl;rw[aeA (by lia)] at hi;have:=p2 i (by lia);rw[getD_list,aaE,hi] at this;exact this
 have hd:∀a∈xs.toList.drop p,j<a:=fun a ha=>by
  obtain⟨i,hi⟩:=List.getElem?_of_mem ha;rw[List.getElem?_drop] at hi;have hl:p+i<xs.size:=by simpa using(aau.mp hi).1
  have ge:=p3 (p+i) (by lia) hl;rw[getD_list,aaE,hi] at ge;have ge:j<=a:=ge;have ne:a≠j:=fun q=>by
   subst q;by_cases z:i=0
   ·subst z;rw[Nat.add_zero,abM] at hi;exact hn hi
   ·have:=vg h (i:=p) (j:=p+i) (by lia) hl;rw[getD_list,getD_list,aaE,aaE,hi] at this;have q:=p3 p (aaj _) (by lia);rw[getD_list,aaE] at q;simp only[acg] at this;lia
  lia
 refine⟨h.sublist (List.take_sublist _ _),List.pairwise_cons.mpr ⟨hd,h.sublist (List.drop_sublist _ _)⟩,fun a ha b hb=>?_⟩;rcases aao.mp hb with rfl|hb
 ·exact ht a ha
 ·exact adR (ht a ha) (hd b hb)
def DP (n:Nat):kC (Array.range n):=by
 unfold kC;rw[Array.toList_range];exact List.pairwise_lt_range
def MK {t:SetTable}(h:∀i,t.slot j≠.live i):t.place[SetTable.below t.place j]?≠some j:=fun e=>by
 refine h (SetTable.below t.place j) ?_;unfold SetTable.slot;simp only[e,aeC,if_true]
theorem v9 (t:SetTable) (hashAt:Nat->Int) (hh:Int):∀(fuel:Nat) (p:SetTable.Probe) (j:Nat) (dm:Option Nat),(∀d,p.dummy=some d->t.slot d= .dummy)->SetTable.probe.go t hashAt hh fuel p=some (.empty j dm)->t.slot j= .empty/\∀d,dm=some d->t.slot d= .dummy
 |0,p,j,dm,hp,e=>by cases e
 |fuel+1,p,j,dm,hp,e=>by
  unfold SetTable.probe.go at e;cases q:t.slot p.j with
  |empty=>
   rw[q] at e;injection e with e
   injection e with e1 e2
   subst e1 e2;exact⟨q,hp⟩
  |dummy=>
   rw[q] at e;refine v9 t hashAt hh fuel _ j dm (fun d hd=>?_) e;have:(t.advance {p with dummy:=some p.j}).dummy=some p.j:=by
    unfold SetTable.advance;split
    ·rfl
    ·rfl
   rw[this] at hd;cases hd;exact q
  |live i=>
   rw[q] at e;dsimp only at e;split at e
   ·cases e
   ·refine v9 t hashAt hh fuel _ j dm (fun d hd=>hp d ?_) e;have:(t.advance p).dummy=p.dummy:=by
     unfold SetTable.advance;split
     ·rfl
     ·rfl
    rw[<-this];exact hd
def ML {t:SetTable}{hh:Int}{b:Bool}(e:t.freeSlot hh=some (j,b)):t.place[SetTable.below t.place j]?≠some j:=by
 unfold SetTable.freeSlot at e;split at e
 ·rename_i j' dm q;obtain⟨s1,s2⟩:=v9 t _ hh _ _ j' dm (fun d hd=>by cases hd) q;injection e with e
  injection e with e1 e2
  subst e1;refine MK fun i=>?_;cases dm with
  |none=>rw[show(Option.getD none j':Nat)=j' from rfl,s1];intro z;cases z
  |some d=>rw[show(Option.getD (some d) j':Nat)=d from rfl,s2 d rfl];intro z;cases z
 ·cases e
def mL (t:SetTable) (n:Nat):kC (t.standIn n).place:=DP n
def MM {t:SetTable}{n:Nat}(h:kC t.place):kC (t.orStandIn n).place:=by
 unfold SetTable.orStandIn;split
 ·exact h
 ·exact mL t n
def QE {t:SetTable}{n:Nat}:(t.orStandIn n).led=t.led:=by
 unfold SetTable.orStandIn;split<;>rfl
def JQ {t:SetTable}{hh:Int}{x:Value}(h:kC t.place):kC (layNew t es hh x).2.1.place/\(layNew t es hh x).2.1.led=t.led:=by
 unfold layNew;split
 ·rename_i j b e;refine⟨MM ?_,QE⟩;exact B7 h (ML e)
 ·exact⟨mL _ _,rfl⟩
def Hh {mask finger moves:Nat}{led plain:Bool}{hs:Array Int}{o:Array Nat}(e:SetTable.laid mask finger moves led plain hs=some (t',o)):kC t'.place/\t'.led=led:=by
 unfold SetTable.laid at e;obtain⟨owner,_,e⟩:=aj e;injection e with e
 injection e with e1 e2
 subst e1;refine⟨?_,rfl⟩;unfold kC;show List.Pairwise _ (List.map _ (List.filterMap _ (List.range (mask+1))));rw[abY,List.pairwise_filterMap];refine List.pairwise_lt_range.imp fun {a b} hab c hc d hd=>?_;obtain⟨q1,_,rfl⟩:=au hc;obtain⟨q2,_,rfl⟩:=au hd;exact hab
def DQ {t:SetTable}{wanted:Nat}:kC (relayAll t es wanted).2.1.place/\(relayAll t es wanted).2.1.led=t.led:=by
 unfold relayAll;split
 ·rename_i t' o e;dsimp only;split
  ·exact Hh e
  ·exact⟨mL _ _,rfl⟩
 ·exact⟨mL _ _,rfl⟩
def DR (h:kC xs){i:Nat}(hi:i<xs.size):SetTable.below xs (xs.getD i 0+1)=i+1:=by
 obtain⟨p1,p2,p3⟩:=v8 h (xs.getD i 0+1);generalize SetTable.below xs (xs.getD i 0+1)=p at *;have a:¬p<=i:=fun q=>by
  have:=p3 i q hi;lia
 have b:¬i+1<p:=fun q=>by
  have:=p2 (i+1) q;have:=vg h (i:=i) (j:=i+1) (by lia) (by lia);lia
 lia
def B8 (h:kC xs):SetTable.below xs 0=0:=by
 obtain⟨p1,p2,p3⟩:=v8 h 0;generalize SetTable.below xs 0=p at *;apply abu;intro q;have:=p2 0 (by lia);lia
noncomputable def qR (w:World):Bool:=w.params.followText "set-order"
noncomputable def intOf:Value->Int
 |.int i _=>i
 |_=>0
structure OL (prog:Program) (w:World) (es:Array (Int×Value)) (t:SetTable) (ns:BBD):Prop where
 el:ElemsOf (intKind prog w) es.toList
 perm:(es.toList.map fun e=>intOf e.2).Perm ns
 few:es.size<scanBound
 fits:t.fits es.size=true
 rise:kC t.place
 led:t.led=!qR w
def lT (prog:Program) (w:World) (h:Heap) (a:Addr) (ns:BBD):Prop:=∃o es ep t,h.get? a=some o/\o.ExactSet/\o.data= .set es ep t/\OL prog w es t ns
def intKind_is {w:World}{k:Int}{v:Value}(h:(intKind prog w).is k v=true):intOf v=k:=by
 obtain⟨t,rfl⟩:=aem h;rfl
def OL.mem {w:World}{t:SetTable}(h:OL prog w es t ns) (k:Int):k∈ns↔∃e∈es.toList,(intKind prog w).is k e.2=true:=by
 rw[<-h.perm.mem_iff,aaD];constructor
 ·rintro⟨e,he,rfl⟩;obtain⟨⟨k,hk,_⟩,_⟩:=h.el e he;rw[intKind_is hk];exact⟨e,he,hk⟩
 ·rintro⟨e,he,hk⟩;exact⟨e,he,intKind_is hk⟩
section
variable {prog:Program}{w:World}{A:Around}{E:AAE}{s:Shared}
def wc {h:Heap}{o:Obj}{ep:Nat}{t:SetTable}(ho:h.get? a=some o) (hex:o.ExactSet) (hd:o.data= .set es ep t)
  {es':Array (Int×Value)}(I:OL prog w es' t' ns'):
  (h.update a (Obj.putSet es' t')).get? a=some {o with data:=.set es' (ep+1) t'}/\lT prog w (h.update a (Obj.putSet es' t')) a ns':=by
 have hg:(h.update a (Obj.putSet es' t')).get? a=some {o with data:=.set es' (ep+1) t'}:=by
  have:=ac6 (Obj.putSet es' t') ho (by rw[putSet_of es' t' hd];rfl);rw[putSet_of es' t' hd] at this;exact this
 exact⟨hg,_,es',ep+1,t',hg,hex,rfl,I⟩
def B9 {g:Bool->Sem Unit}(hg:∀(b:Bool) (s₁:Shared) (Q':Unit->Shared->Prop),Q' () s₁->wpAny (model prog w) A (g b) Q' E s₁)
  {o:Obj}{ep:Nat}{t:SetTable}(ho:s.heap.get? a=some o) (hex:o.ExactSet) (hd:o.data= .set es ep t)
  {es1:Array (Int×Value)}{t2:SetTable}(I:OL prog w es1 t2 ns'){wasDummy:Bool}{R:Option Bool->Shared->Prop}
  (h:∀h',Heap.SameBut a s.heap h'->lT prog w h' a ns'->R (some true) {s with heap:=h'}):
  wpAny (model prog w) A (do
    storeSet a es1 t2
    if(!wasDummy && t2.tooFull)=true then do
      g (relayAll t2 es1 (SetTable.grown es1.size)).2.2
      storeSet a (relayAll t2 es1 (SetTable.grown es1.size)).1 (relayAll t2 es1 (SetTable.grown es1.size)).2.1
      pure (some true)
     else pure (some true)) R E s:=by
 have hb1:=I.few;refine aab (wpAny_storeSet_of ho hd ?_ (aer hb1));obtain⟨JR,hS1⟩:=wc ho hex hd I;have Vd:=abL s.heap a (Obj.putSet es1 t2);split
 ·have hp:=relayAll_perm t2 es1 (SetTable.grown es1.size);have hfr:=relayAll_fits t2 es1 (SetTable.grown es1.size);obtain⟨QF,QG⟩:=DQ (t:=t2) (es:=es1) (wanted:=SetTable.grown es1.size);generalize hRl:relayAll t2 es1 (SetTable.grown es1.size)=Rl at hp hfr QF QG ⊢;obtain⟨es2,t3,aaZ⟩:=Rl;dsimp only at hp hfr QF QG ⊢;have hsz:es2.size=es1.size:=by rw[<-aaL,hp.length_eq,aaL]
  have I2:OL prog w es2 t3 ns':=⟨I.el.perm hp,(hp.map _).trans I.perm,by rw[hsz];exact hb1,hfr,QF,by rw[QG];exact I.led⟩
  refine aab (hg _ _ _ ?_);refine aab (wpAny_storeSet_of JR rfl ?_ (aer I2.few));obtain⟨_,hS2⟩:=wc JR hex rfl I2;exact wpAny_pure (h _ (Vd.trans (abL _ a _)) hS2)
 ·exact wpAny_pure (h _ Vd hS1)
def MN {k:Int}{x:Value}{Q:Bool->Shared->Prop}(hkey:(intKind prog w).is k x=true) (hsc:x.scannable=true) (hS:lT prog w s.heap a ns) (hroom:ns.length+1<scanBound)
  (h:∀h',Heap.SameBut a s.heap h'->lT prog w h' a (if k∈ns then ns else ns++[k])->Q (!decide (k∈ns)) {s with heap:=h'}):
  wpAny (model prog w) A (setAddHashed a x ((intKind prog w).hash k)) Q E s:=by
 obtain⟨o,es,ep,t,ho,hex,hd,I⟩:=hS;have hn:es.size=ns.length:=by rw[<-aaL,<-I.perm.length_eq,aai]
 have hb1:es.size+1<scanBound:=by rw[hn];exact hroom
 unfold setAddHashed setAddHashedIn;refine abq (aab (ac4 ho hd I.fits ?_));dsimp only;rw[byScan_of hsc I.few I.el];simp only[↓reduceIte];unfold setAddByScan;refine aab ?_;refine aab (adb ?_);refine aab (wpAny_setScan_of hkey ho hd I.fits I.el ?_);cases hr:List.findIdx? (fun e=>(intKind prog w).is k e.2) es.toList with
 |some j=>
  dsimp only;obtain⟨hj,hpj,_⟩:=List.findIdx?_eq_some_iff_getElem.mp hr;have Ve:k∈ns:=(I.mem k).mpr ⟨es.toList[j],ab3 hj,hpj⟩;refine wpAny_pure (wpAny_pure ?_);have e:s={s with heap:=s.heap}:=by cases s;rfl
  have:=h s.heap (Heap.SameBut.refl a s.heap) (by rw[if_pos Ve];exact⟨o,es,ep,t,ho,hex,hd,I⟩);rw[aaT Ve] at this;rw[e];exact this
 |none=>
  dsimp only;have Ve:k∉ns:=fun hk=>by
   obtain⟨e,he,hp⟩:=(I.mem k).mp hk;have:=List.findIdx?_eq_none_iff.mp hr e he;rw[hp] at this;exact Bool.noConfusion this
  have hgw:∀(b:Bool){s₁:Shared}{Q':Unit->Shared->Prop},Q' () s₁->wpAny (model prog w) A (match b with|true=>rule "set.scan.the-table-gave-way" | false=>pure ()) Q' E s₁:=
   fun b s₁ Q' hq=>by cases b<;>first|exact wpAny_pure hq|exact adb hq
  have yL:=layNew_perm t es ((intKind prog w).hash k) x;have JV:=layNew_fits t es ((intKind prog w).hash k) x;obtain⟨QF,QG⟩:=JQ (es:=es) (hh:=(intKind prog w).hash k) (x:=x) I.rise;generalize hL:layNew t es ((intKind prog w).hash k) x=L at yL JV QF QG ⊢;obtain⟨es1,t1,wasDummy,gave⟩:=L;dsimp only at yL JV QF QG ⊢;rw[aes] at yL;have I1:OL prog w es1 t1 (ns++[k]):=by
   refine⟨(I.el.push hkey hsc).perm yL,?_,?_,JV,QF,by rw[QG];exact I.led⟩
   ·refine(yL.map _).trans ?_;rw[abV,List.map_singleton,intKind_is hkey];exact I.perm.append (aci _)
   ·rw[<-aaL,yL.length_eq,aaw,aaL];simpa using hb1
  refine aab (hgw _ ?_);have hend:∀h',Heap.SameBut a s.heap h'->lT prog w h' a (ns++[k])->Q true {s with heap:=h'}:=by
   intro h' hsb hS';have:=h h' hsb (by rw[if_neg Ve];exact hS');rw[aaS Ve] at this;exact this
  have off:OL prog w es1 {t1 with plain:=false} (ns++[k]):=⟨I1.el,I1.perm,I1.few,SetTable.fits_plain_off I1.fits,I1.rise,I1.led⟩
  split
  ·refine aab ?_;rw[hashByValue_scannable 8 hsc];refine wpAny_pure ?_;refine B9 (ns':=ns++[k]) ?_ ho hex hd ?_ ?_
   ·intro b s₁ Q' hq;cases b<;>first|exact wpAny_pure hq|exact adb hq
   ·split
    ·exact I1
    ·exact off
   ·intro h' hsb hS';dsimp only;exact wpAny_pure (hend h' hsb hS')
  ·refine aab (wpAny_pure ?_);simp only[↓reduceIte];refine B9 (ns':=ns++[k]) ?_ ho hex hd I1 ?_
   ·intro b s₁ Q' hq;cases b<;>first|exact wpAny_pure hq|exact adb hq
   ·intro h' hsb hS';dsimp only;exact wpAny_pure (hend h' hsb hS')
end
noncomputable def qT (val:Nat->Int):Nat->BBD
 |0=>[]
 |i+1=>if val i∈qT val i then qT val i else qT val i++[val i]
theorem Ar (val:Nat->Int):∀i,(qT val i).length<=i
 |0=>aaj _
 |i+1=>by
  have:=Ar val i;show(if val i∈qT val i then qT val i else qT val i++[val i]).length<=i+1;split
  ·lia
  ·rw[aaw,ab4];lia
theorem JX (val:Nat->Int):∀i,(qT val i).Nodup
 |0=>abp
 |i+1=>by
  have:=JX val i;show(if val i∈qT val i then qT val i else qT val i++[val i]).Nodup;split
  ·exact this
  ·rename_i m;rw[adA];exact⟨this,by simp,fun x hx y hy e=>m (by rw[aam] at hy;rw[<-hy,<-e];exact hx)⟩
theorem ER (val:Nat->Int) (k:Int):∀i,k∈qT val i↔∃j,j<i/\val j=k
 |0=>by simp[qT]
 |i+1=>by
  have ih:=ER val k i;show k∈(if val i∈qT val i then qT val i else qT val i++[val i])↔_;by_cases m:val i∈qT val i
  ·rw[if_pos m,ih];constructor
   ·rintro⟨j,h,e⟩;exact⟨j,by lia,e⟩
   ·rintro⟨j,h,e⟩;by_cases q:j=i
    ·subst q;rw[e] at m;exact ih.mp m
    ·exact⟨j,by lia,e⟩
  ·rw[if_neg m,aav,ih,aam];constructor
   ·rintro(⟨j,h,e⟩|e)
    ·exact⟨j,by lia,e⟩
    ·exact⟨i,by lia,e.symm⟩
   ·rintro⟨j,h,e⟩;by_cases q:j=i
    ·subst q;exact .inr e.symm
    ·exact .inl ⟨j,by lia,e⟩
section
variable {prog:Program}{w:World}{A:Around}{R:Result->Shared->Prop}{I:Addr}{fp wr:BBE}{G:Array GenState->Array GenState->Prop}{n:Nat}{P:Nat->Value->Prop}{St:Nat->Shared->Prop}
def Hi (W:WalksS prog w A.in1 I fp wr G n P St) (S:Addr) (hSf:S∉fp) (val:Nat->Int) (hval:∀i v,P i v->∃t,v= .int (val i) t) (hb:n+1<scanBound):
  ∀(k i:Nat) (s:Shared),n-i=k->i<=n->St i s->lT prog w s.heap S (qT val i)->
   (∀s',Moved (S::wr) G s s'->lT prog w s'.heap S (qT val n)->R (.ok (.ret .none)) s')->
   codeAny (model prog w) A (.builtin "set.update.loop" ⟨[.ref S,.ref I],[]⟩) R s:=by
 have hSw:S∉wr:=fun h=>hSf (W.sub _ h);have hsub:∀b∈wr,b∈S::wr:=fun b hb=>aag _ hb;have keep:∀{i:Nat}{s s':Shared},Moved wr G s s'->lT prog w s.heap S (qT val i)->lT prog w s'.heap S (qT val i):=
  fun hm ⟨o,es,ep,t,ho,rest⟩=>⟨o,es,ep,t,hm.heap S _ hSw ho,rest⟩
 intro k
 induction k with
 |zero=>
  intro i s hk hi hst hS hR;obtain rfl:i=n:=by lia
  refine ab8 F.entry_set_update_loop ?_;rw[acA adv _];show wpAny _ A.in1 (pyNext (.ref I) >>= _) _ _ s;refine aab (W.done s _ _ hst fun s' hm=>?_);show wpAny _ A.in1 (ret Value.none) _ _ s';exact wpAny_pure (hR s' (hm.mono hsub) (keep hm hS))
 |succ k ih=>
  intro i s hk hi hst hS hR;have hlt:i<n:=by lia
  refine ab8 F.entry_set_update_loop ?_;rw[acA adv _];show wpAny _ A.in1 (pyNext (.ref I) >>= _) _ _ s;refine aab (W.item i s _ _ hlt hst fun v s' hP Zn hm=>?_);obtain⟨t,rfl⟩:=hval i v hP;have hS':=keep hm hS;show wpAny _ A.in1 (holding [Value.int (val i) t] (setAdd S (.int (val i) t)) >>= _) _ _ s';refine aab (abq ?_);unfold setAdd;refine abq ?_;have his:(intKind prog w).is (val i) (.int (val i) t)=true:=by show Value.isInt (val i) (.int (val i) t)=true;simp[Value.isInt]
  refine aab ((intKind prog w).pyHash (k:=val i) his ?_);have hroom:(qT val i).length+1<scanBound:=by have:=Ar val i;lia
  refine MN his rfl hS' hroom fun h' hsb Zo=>?_;have Zo:lT prog w h' S (qT val (i+1)):=Zo;refine wpAny_pure ⟨acK adv _,ih (i+1) _ (by lia) hlt (W.frame _ s' _ _ Zn (acj _) fun b hb o e=>?_) Zo fun s'' Zp Zq=>?_⟩
  ·rw[hsb.2 b (fun h:b=S=>hSf (by rw[<-h];exact hb))];exact e
  ·refine hR s'' (Moved.trans W.gtrans ((hm.mono hsub).then_heap (acj _) fun b o hb e=>?_) Zp) Zq;rw[hsb.2 b (fun h:b=S=>hb (by rw[h];exact aak))];exact e
end
section
variable {prog:Program}{w:World}{A:Around}{E:AAE}{s:Shared}
def JY (a:Value){Q₁:AAE}(h:Q₁ (.ref s.heap.objs.size) {s with heap:=s.heap.push (eL (!qR w))}):
  codeAny (model prog w) A (.call (.builtin "set.__new__") ⟨[.type "set",a],[]⟩) (wants Q₁ E) s:=by
 refine codeAny_of_tree ?_;show wpAny _ A.in1 (do checkBuiltinCall "set.__new__" ⟨[.type "set",a],[]⟩;again (.builtin "set.__new__" ⟨[.type "set",a],[]⟩)) _ _ s;refine aab (wpAny_of_eq (F.newCall_set_1 a) (wpAny_pure ⟨acK F.plain_set_new _,ab8 F.entry_set_new ?_⟩));rw[acA F.plain_set_new _];unfold Builtin.«set.__new__» Builtin.Frozenset.newClass
 have hsub:=sub_set_self;obtain⟨hp,g,d,tk,os⟩:=s;dsimp only
 wp_walk
 refine adf (wpAny_pure ?_);dsimp only;simp only[newObj];refine aab (wpAny_alloc (wpAny_pure ?_));exact wpAny_pure h
def Ca:isSubtype (.type "tuple") (.type "set")=pure false:=by rw[adt];kernel_rfl
def Cb:isSubtype (.type "tuple") (.type "frozenset")=pure false:=by rw[adt];kernel_rfl
noncomputable def Vf:Bool->String
 |true=>"list"
 |false=>"tuple"
def MG.seq {k:Bool}{h:Heap}{a:Addr}{its:AAK}(x:MG k h a its):∃o,h.get? a=some o/\o.cls= .type (Vf k)/\∃n,o.data= .seq its n:=by cases k<;>exact x
def QH {k:Bool}(hh:A.handled=none) (I l:Addr) (hne:l≠I) (its:AAK):Walks prog w A I [I,l] [I] its.size (fun i v=>its[i]? =some v) (fun i h=>W0 k h I l i/\MG k h l its):=by
 cases k
 ·exact Walks.tuple hh I l hne its
 ·exact Walks.list hh I l hne its
set_option maxHeartbeats 3200000 in
def yM {k:Bool}{l:Addr}{its:AAL}{Q:AAE}(hh:A.handled=none) (hl:MG k s.heap l its.toArray) (hi:∀(i:Nat) (v:Value),its[i]? =some v->∃t,v=Value.int (ns.getD i 0) t) (hb:its.length+1<scanBound)
  (h:∀(h':Heap) (tk:Nat),lT prog w h' s.heap.objs.size (qT (fun i=>ns.getD i 0) its.length)->
   (∀b o,b<s.heap.objs.size->s.heap.get? b=some o->h'.get? b=some o)->Q (.ref s.heap.objs.size) {s with heap:=h',toks:=tk}):
  wpAny (model prog w) A (call (.type "set") [.ref l]) Q E s:=by
 obtain⟨c,tl,acL⟩:=acE.mro;have hmade:=acE.made;have hsub:=acE.sub;refine wpAny_call (codeAny_of_tree ?_);show wpAny _ _ (callAny (.type "set") _) _ _ _;refine wpAny_pure ⟨Code.quiet_builtin _ (by decide +kernel),ab8 F.entry_type_call ?_⟩;rw[Around.under_plain (weight_type_call_type "set" [.ref l] []) rfl];have h1:=acE.notType;have h2:=acE.canCreate;have hct:=F.typeCall_set_1 (.ref l)
 repeat (any_goals (first|assumption|wp_step))
 refine ac5 (JY (.ref l) (E:=E) (Q₁:=fun obj s₁=>obj= .ref s.heap.objs.size/\s₁={s with heap:=s.heap.push (eL (!qR w))}) ⟨rfl,rfl⟩) fun r s₁ hr=>?_;cases r with
 |error e=>exact hr
 |ok fl=>
  cases fl with
  |ret obj=>
   obtain⟨rfl,rfl⟩:=hr;have hS:(s.heap.push (eL (!qR w))).get? s.heap.objs.size=some (eL (!qR w)):=aaB _ rfl;have hT:Shared.TypeIs {s with heap:=s.heap.push (eL (!qR w))} (.ref s.heap.objs.size) "set":=⟨_,hS,rfl⟩
   have hli:=acE.init.lookup;have hbi:=acE.init.bind (.ref s.heap.objs.size)
   repeat (any_goals (first|assumption|wp_step))
   refine ac5 (codeAny_call_builtin (R:=wants (fun r s₂=>r= .none/\∃h' tk,s₂={s with heap:=h',toks:=tk}/\
     lT prog w h' s.heap.objs.size (qT (fun i=>ns.getD i 0) its.length)/\
     (∀b o,b<s.heap.objs.size->s.heap.get? b=some o->h'.get? b=some o)) E) acE.init.plain F.entry_set_init (check_set_init_1 hT ?_)) fun r₂ s₂ JZ=>?_
   ·obtain⟨ol,Vg,hcl,nl,hdl⟩:=hl.seq;obtain⟨acM,Vh,aa0,QI⟩:=ol;simp only at hcl hdl;subst hcl;subst hdl;have acN:(s.heap.push (eL (!qR w))).get? l=some {cls:=.type (Vf k),dict:=Vh,data:=.seq its.toArray nl,slots:=QI}:=aac _ Vg;have acO:isSubtype (.type (Vf k)) (.type "set")=pure false:=by cases k;exact Ca;exact F.sub_list_set
    have acP:isSubtype (.type (Vf k)) (.type "frozenset")=pure false:=by cases k;exact Cb;exact F.sub_list_frozenset
    have hne:(Value.type (Vf k) == Value.type "dict")=false:=by cases k<;>decide
    have hl1:MG k (s.heap.push (eL (!qR w))) l its.toArray:=hl.at fun o e=>aac _ e;unfold Builtin.«set.__init__» noKeywords Builtin.Frozenset.updateFrom
    generalize hPI:pyIter=PI
    wp_walk
    subst hPI;refine U9 hl1 ?_;refine aab (wpAny_runValue ?_);have hlS:l<s.heap.objs.size:=aap Vg;have hh3:A.in1.in1.in1.handled=none:=by simp[hh]
    have Zr:l≠(s.heap.push (eL (!qR w))).objs.size:=by
     rw[acB];exact aaF (ace hlS)
    have hSf:s.heap.objs.size∉[(s.heap.push (eL (!qR w))).objs.size,l]:=by
     rw[acB];simp only[aao,aam,aaQ,abU,not_or];exact⟨aaF (acD _),aez hlS⟩
    have hb':its.toArray.size+1<scanBound:=by rw[aad];exact hb
    have hval:∀(i:Nat) (v:Value),its.toArray[i]? =some v->∃t,v= .int ((fun i=>ns.getD i 0) i) t:=fun i v hv=>hi i v (by simpa using hv);refine Hi ((QH hh3 _ l Zr its.toArray).toS) s.heap.objs.size
     hSf (fun i=>ns.getD i 0) hval hb' (its.toArray.size-0) 0 _ (by lia) (aaM _)
     ⟨W0.new k _ l,hl1.at fun o e=>aac _ e⟩ ?DJ ?hR
    case DJ=>
     have hget:((s.heap.push (eL (!qR w))).push (Zj k l)).get? s.heap.objs.size=some (eL (!qR w)):=aac _ hS;exact⟨_,_,_,_,hget,⟨rfl,rfl,rfl⟩,rfl,⟨fun e he=>by simp at he,aci _,by show 0<scanBound;unfold scanBound;decide,rfl,List.Pairwise.nil,rfl⟩⟩
    case hR=>
     intro s' hm hS';rw[aad] at hS';obtain⟨h',g',d',tk',os'⟩:=s';have eg:g'=s.gens:=hm.gens;have ed:d'=s.drawn:=hm.drawn;have eo:os'=s.os:=hm.os;subst eg;subst ed;subst eo;show wpAny _ _ _ _ _ _;refine wpAny_pure ?_;show wpAny _ _ (ret Value.none) _ _ _;refine wpAny_pure ⟨rfl,h',tk',rfl,hS',fun b o hb e=>?_⟩;have hb1:b≠s.heap.objs.size:=aaF hb;have hb2:b≠(s.heap.push (eL (!qR w))).objs.size:=by
      rw[acB];exact aaF (ace hb)
     exact hm.heap b o (by simp only[aao,aam,aaQ,abU,not_or];exact⟨hb1,hb2⟩) (aac _ (aac _ e))
   ·cases r₂ with
    |error e=>exact JZ
    |ok Vi=>
     cases Vi with
     |ret r=>
      obtain⟨rfl,h',tk,rfl,hS',hk'⟩:=JZ
      repeat (any_goals (first|assumption|wp_step))
      exact h _ _ hS' hk'
     |_=>exact JZ.elim
  |_=>exact hr.elim
end
end L2
end
section
namespace L2
open PySem PySem.Spec PyProof.Rows PySem.Calls
variable {i n slot:Nat}{f0:Value}{Q:BBP->Shared->Prop}{pl:BBJ}
noncomputable def slotAt (place:Array Nat) (i:Nat):Nat:=if i=0 then 0 else place.getD (i-1) 0+1
def DS {place:Array Nat}(h:kC place)(hi:i<=place.size):SetTable.below place (slotAt place i)=i:=by
 unfold slotAt;split
 ·rename_i e;subst e;exact B8 h
 ·rename_i e;rw[DR h (by lia)];lia
def ES {α:Type}{l:List α}(h:i<l.length):(l[i]::l.eraseIdx i).Perm l:=by
 rw[List.eraseIdx_eq_take_drop_succ];have e:l=l.take i++l[i]::l.drop (i+1):=by rw[List.getElem_cons_drop,List.take_append_drop]
 conv=>rhs;rw[e]
 exact List.perm_middle.symm
theorem ET {α:Type}(f:Nat->Nat):∀(fuel k:Nat) (left:List α) (out:Array α),left.length=fuel->(pickOrder.go f fuel k left out).toList.Perm (out.toList++left)
 |0,k,left,out,h=>by
  have:left=[]:=adw.mp h;subst this;show out.toList.Perm (out.toList++[]);rw[ab5]
 |fuel+1,k,left,out,h=>by
  have hl:f k % left.length<left.length:=aev _ (by lia);show(match left[f k % left.length]? with|some x=>pickOrder.go f fuel (k+1) (left.eraseIdx (f k % left.length)) (out.push x)|none=>out).toList.Perm _;rw[aal hl];refine(ET f fuel (k+1) _ _ (by rw[aek hl];lia)).trans ?_;rw[aes,abZ];refine List.Perm.append (aci _) ?_;show(left[f k % left.length]::left.eraseIdx (f k % left.length)).Perm left;exact ES hl
def Hj {α:Type}(f:Nat->Nat) (xs:Array α):(pickOrder f xs).toList.Perm xs.toList:=by
 have:=ET f xs.size 0 xs.toList #[] (by simp);rw[show(#[]:Array α).toList++xs.toList=xs.toList from rfl] at this;exact this
def J0 (h:Heap) (a:Addr) (es:Array (Int×Value)) (ep:Nat) (t:SetTable):Prop:=∃o,h.get? a=some o/\o.ExactSet/\o.data= .set es ep t
def SN (h:Heap) (I a:Addr) (f0:Value) (i n ep:Nat):Prop:=h.get? I=some {cls:=.type "set_iterator",dict:=none,data:=.fields #[f0,.int i 0,.ref a,.int n 0,.int ep 0],slots:=#[]}
def tG (w:World) (a:Addr) (es:Array (Int×Value)) (ep:Nat):List (Int×Value):=if qR w then(pickOrder (w.params.setOrder a ep) es).toList else es.toList
def yN (w:World) (a:Addr) (es:Array (Int×Value)) (ep:Nat):(tG w a es ep).Perm es.toList:=by
 unfold tG;split
 ·exact Hj _ _
 ·exact aci _
section
variable {prog:Program}{w:World}{A:Around}{E:AAE}{s:Shared}{a I:Addr}{es:Array (Int×Value)}{ep:Nat}{t:SetTable}
def SN.typeIs (h:SN s.heap I a f0 i n ep):s.TypeIs (.ref I) "set_iterator":=⟨_,h,rfl⟩
def Nx (w:World) (t:SetTable) (i:Nat):Option (Value×Nat)->Option (Int×Value)->Prop
 |some (x,j),some e=>x=e.2/\(qR w=true\/j=slotAt t.place (i+1))
 |none,none=>True
 |_,_=>False
theorem QJ (hb:qR w=true):∀z:Option (Int×Value),Nx w t i (z.map fun e=>(e.2,slot)) z
 |none=>trivial
 |some _=>⟨rfl,.inl hb⟩
def J1 {Q:Option (Value×Nat)->Shared->Prop}(hS:J0 s.heap a es ep t) (hf:t.fits es.size=true) (hr:kC t.place) (Hl:t.led=!qR w) (hpl:qR w=true\/(!t.plain && decide (es.size > 1))=false) (hi:i<=es.size) (hsl:qR w=true\/slot=slotAt t.place i)
  (q:∀r,Nx w t i r ((tG w a es ep)[i]?)->Q r s):wpAny (model prog w) A (setNext a slot i ep) Q E s:=by
 obtain⟨o,ho,hex,hd⟩:=hS;have hps:t.place.size=es.size:=by
  unfold SetTable.fits at hf;rw[aaH] at hf
  simpa using hf.1
 unfold setNext;refine aab (ac4 ho hd hf ?_);unfold setsByText;refine aab (aab (adf (wpAny_pure ?_)));refine abH (fun hb=>?_) fun hb=>?_
 ·have hb':qR w=true:=hb;refine abH (fun h=>absurd h (by simp)) fun _=>?_;refine aab ?_;unfold setWalk;refine aab (ac4 ho hd hf ?_);unfold setsByText;refine aab (aab (adf (wpAny_pure ?_)));refine abH (fun _=>?_) fun h=>absurd hb h;refine aab (adf (wpAny_pure ?_));refine wpAny_pure (q _ ?_);unfold tG;rw[if_pos hb',abM];exact QJ hb' _
 ·have hb':qR w=false:=by
   cases e:qR w with
   |false=>rfl
   |true=>exact absurd e hb
  refine abH (fun h=>?_) fun _=>?_
  ·rcases hpl with z|z
   ·rw[hb'] at z;cases z
   ·exact absurd (show(!t.plain && decide (es.size > 1))=true from h) (by rw[z];decide)
  refine aab ?_;refine abn (Q:=fun _ s'=>s'=s) (E:=fun _ _=>False) ?_ (fun _ s' e=>?_) fun _ _ h=>h.elim
  ·show wpAny _ _ (if(!t.led && !es.isEmpty)=true then _ else _) _ _ _;refine abH (fun h=>?_) fun _=>wpAny_pure rfl;rw[Hl,hb'] at h;simp at h
  ·subst e;have es1:slot=slotAt t.place i:=by
    rcases hsl with z|z
    ·rw[hb'] at z;cases z
    ·exact z
   have bl:SetTable.below t.place slot=i:=by rw[es1];exact DS hr (by lia)
   refine wpAny_pure (q _ ?_);rw[bl];unfold tG;rw[hb',if_neg (by decide),abM];by_cases c:i<es.size
   ·rw[aaK c,aaK (by lia:i<t.place.size)];refine⟨rfl,.inr ?_⟩;unfold slotAt;rw[if_neg (by lia),Nat.add_sub_cancel,aaR,aaK (by lia:i<t.place.size)];rfl
   ·rw[Array.getElem?_eq_none (by lia)];trivial
def Zs (w:World) (a I:Addr) (es:Array (Int×Value)) (ep:Nat) (t:SetTable) (i:Nat) (h:Heap):Prop:=∃slot:Nat,SN h I a (.int slot 0) i es.size ep/\J0 h a es ep t/\(qR w=true\/slot=slotAt t.place i)
def OM (hh:A.handled=none) (hoi:SN s.heap I a f0 i n ep) (hQ:∀h',Heap.ExtBut I s.heap h'->Q none {s with heap:=h'}):
  wpAny (model prog w) A.in1 (do
     setField (Value.ref I,([]:AAL)).fst 2 Value.none
     let e <-newExc (Value.type "StopIteration") []
     (raiseNew e:Sem Fin)) (fun fin s'=>∃v,fin=Fin.done (Flow.ret v)/\wpAny (model prog w) A (pure (some v)) Q E s') (fun e s'=>wpAny (model prog w) A (do
         let b <-isInstance e (Value.type "StopIteration")
         if b=true then pure none else throw e) Q E s') s:=by
 refine aab (wpAny_setField hoi rfl (by simp) ?_);refine aab ?_;simp only[newExc,newTuple];refine aab (abi ?_ (by size_fits));refine aab (m:=firstArgMember _ _) (wpAny_of_eq (a:=Value.none) (by first|rfl|(simp only[firstArgMember];rfl)) ?_);refine abi ?_ (by size_fits);simp only[raiseNew];refine aab (wpAny_handled ?_);rw[show A.in1.handled=none from hh];refine aab (wpAny_pure (wpAny_throw ?_));refine aab (adL (T:="StopIteration") (b:=true) ⟨_,aaB _ rfl,rfl⟩ isSubtype_stop ?_);exact wpAny_pure (hQ _ (((abL ..).extBut.push _).push _))
def ON (hh:A.handled=none) (st:Zs w a I es ep t i s.heap) (haI:a≠I) (hf:t.fits es.size=true) (hr:kC t.place) (Hl:t.led=!qR w) (hpl:qR w=true\/(!t.plain && decide (es.size > 1))=false) (hi:i<=es.size)
  (q1:∀e h',(tG w a es ep)[i]? =some e->Zs w a I es ep t (i+1) h'->Heap.SameBut I s.heap h'->Q (some e.2) {s with heap:=h'})
  (q2:∀h',(tG w a es ep)[i]? =none->Heap.ExtBut I s.heap h'->Q none {s with heap:=h'}):wpAny (model prog w) A (pyNext (.ref I)) Q E s:=by
 obtain⟨slot,hit,hS,hsl⟩:=st;obtain⟨o,ho,hex,hd⟩:=id hS;unfold pyNext;refine aab (wpAny_attempt (abX (name:=Str.ofString "__next__") hit.typeIs cU
  (abR cU hit.typeIs lR ?_ (nu _))))
 unfold Builtin.«set_iterator.__next__»
 refine aab (wpAny_pure ?_);refine aab (wpAny_fieldsOf hit rfl ?_);refine aab (ad3 ho hd hf ?_);refine abH (fun h=>absurd h (by simp)) fun _=>?_;show wpAny _ _ (setNext a slot i ep >>= _) _ _ _;refine aab (J1 hS hf hr Hl hpl hi hsl fun r hr=>?_);cases r with
 |none=>
  refine OM hh hit fun h' he=>q2 h' ?_ he;cases e:(tG w a es ep)[i]? with
  |none=>rfl
  |some e'=>rw[e] at hr;exact hr.elim
 |some p=>
  obtain⟨x,j⟩:=p;cases e:(tG w a es ep)[i]? with
  |none=>rw[e] at hr;exact hr.elim
  |some e'=>
   rw[e] at hr;obtain⟨rfl,hj⟩:=hr;refine aab (adq hit (by simp) fun h1 z1 e1=>?_);refine aab (adq z1 (by simp) fun h2 z2 e2=>?_);have e1:Heap.SameBut I s.heap h1:=e1;have e2:Heap.SameBut I h1 h2:=e2;refine wpAny_pure ⟨_,rfl,wpAny_pure ?_⟩;refine q1 e' h2 e ⟨j,z2,⟨o,(e2.2 a haI).trans ((e1.2 a haI).trans ho),hex,hd⟩,hj⟩ (e1.trans e2)
end
section
variable {prog:Program}{w:World}{A:Around}{E:AAE}{s:Shared}{a I T:Addr}{es:Array (Int×Value)}{ep:Nat}{t:SetTable}
def As {src:Source}{Q:Nat->Shared->Prop}(hn:n≠0) (h:∀i d',i<n->Q i {s with drawn:=d'}):wpAny (model prog w) A (choose src n) Q E s:=fun Γ p hΓ=>by
 show Sem.wp _ _ (Sem.choose src n Sem.pure) _ _ _ _;rw[Sem.wp_choose];exact⟨hn,wpAny_pure (h _ _ (aev _ (Nat.pos_of_ne_zero hn))) Γ p hΓ⟩
theorem we {α:Type}:∀(n:Nat) (xs:List α) (s:Shared) (Q:List α->Shared->Prop),xs.length=n->(∀out d',out.Perm xs->Q out {s with drawn:=d'})->wpAny (model prog w) A (drawOrder n xs) Q E s
 |0,xs,s,Q,hl,h=>by
  have:xs=[]:=adw.mp hl;subst this;unfold drawOrder;exact wpAny_pure (h [] s.drawn (aci _))
 |n+1,[],s,Q,hl,h=>by cases hl
 |n+1,x::xs,s,Q,hl,h=>by
  unfold drawOrder;refine aab (As (by simp) fun i d' hi=>?_);rw[aal hi];refine aab (we n ((x::xs).eraseIdx i) {s with drawn:=d'} _ (by rw[aek hi];lia) fun out d2 hp=>?_);exact wpAny_pure (h _ d2 ((List.Perm.cons _ hp).trans (ES hi)))
noncomputable def kQ (pl:BBJ):Array Value:=(pl.map fun(i:Nat)=>rawInt i).toArray
def Zt (a I T:Addr) (es:Array (Int×Value)) (ep:Nat) (t:SetTable) (pl:BBJ) (i:Nat) (h:Heap):Prop:=SN h I a (.ref T) i es.size ep/\TupAt h T (kQ pl)/\J0 h a es ep t
noncomputable def wg (es:Array (Int×Value)) (pl:BBJ):List (Int×Value):=pl.filterMap fun i=>es[i]?
theorem wj {es:Array (Int×Value)}:∀{pl:BBJ},(∀p∈pl,p<es.size)->∀i:Nat,(wg es pl)[i]? =(pl[i]?).bind fun(p:Nat)=>es[p]?
 |[],_,i=>by kernel_rfl
 |p::pl,h,i=>by
  have hp:=h p aak;have e:wg es (p::pl)=es[p]::wg es pl:=by
   show List.filterMap _ (p::pl)=_;rw[adi,aaK hp];rfl
  rw[e];cases i with
  |zero=>simp[hp]
  |succ i=>simpa using wj (es:=es) (pl:=pl) (fun q hq=>h q (aag _ hq)) i
def Ho (h:pl.Perm (List.range es.size)):(wg es pl).Perm es.toList:=by
 have e:wg es (List.range es.size)=es.toList:=by
  apply adB;intro k;rw[wj (fun p hp=>aa6.mp hp) k];by_cases c:k<es.size
  ·rw[List.getElem?_range c,abM];rfl
  ·rw[abF (by rw[abk];lia),abF (by simpa using c)];rfl
 rw[<-e];exact h.filterMap _
def OO (hh:A.handled=none) (st:Zt a I T es ep t pl i s.heap) (haI:a≠I) (hTI:T≠I) (hf:t.fits es.size=true) (hp:pl.Perm (List.range es.size))
  (q1:∀e h',(wg es pl)[i]? =some e->Zt a I T es ep t pl (i+1) h'->Heap.SameBut I s.heap h'->Q (some e.2) {s with heap:=h'})
  (q2:∀h',(wg es pl)[i]? =none->Heap.ExtBut I s.heap h'->Q none {s with heap:=h'}):wpAny (model prog w) A (pyNext (.ref I)) Q E s:=by
 obtain⟨hit,hT,hS⟩:=st;obtain⟨o,ho,hex,hd⟩:=id hS;have lt:∀p∈pl,p<es.size:=fun p h=>aa6.mp (hp.mem_iff.mp h);have og:=wj lt i;unfold pyNext;refine aab (wpAny_attempt (abX (name:=Str.ofString "__next__") hit.typeIs cU
  (abR cU hit.typeIs lR ?_ (nu _))))
 unfold Builtin.«set_iterator.__next__»
 refine aab (wpAny_pure ?_);refine aab (wpAny_fieldsOf hit rfl ?_);refine aab (ad3 ho hd hf ?_);refine abH (fun h=>absurd h (by simp)) fun _=>?_;refine aab (wpAny_seqItems hT rfl ?_);have pg:(kQ pl)[i]? =(pl[i]?).map fun(p:Nat)=>rawInt p:=by
  unfold kQ;rw[acr,aaI]
 show wpAny _ _ (match(kQ pl)[i]? with
  |some (.int place _)=>_
  |some _=>_
  |none=>_) _ _ _
 rw[pg];cases hpi:pl[i]? with
 |none=>
  rw[hpi] at og;refine aab (adq hit (by simp) fun h1 z1 e1=>?_);have e1:Heap.SameBut I s.heap h1:=e1;exact OM (f0:=rawInt 0) (i:=i) (n:=es.size) hh z1 fun h' he=>q2 h' og fun b o hb e=>he b o hb (e1.extBut b o hb e)
 |some p=>
  rw[hpi] at og;have hlt:=lt p (aaW hpi);have og:(wg es pl)[i]? =some es[p]:=by rw[og];exact aaK hlt
  show wpAny _ _ (setNextDrawn a p ep >>= _) _ _ _;refine aab ?_;unfold setNextDrawn;refine aab (ac4 ho hd hf ?_);refine abH (fun h=>absurd h (by simp)) fun _=>?_;rw[aaK hlt];refine wpAny_pure ?_;refine aab (adq hit (by simp) fun h1 z1 e1=>?_);have e1:Heap.SameBut I s.heap h1:=e1;refine wpAny_pure ⟨_,rfl,wpAny_pure ?_⟩;exact q1 es[p] h1 og ⟨z1,(e1.2 T hTI).trans hT,⟨o,(e1.2 a haI).trans ho,hex,hd⟩⟩ e1
def wk {Q:AAE}(st:SN s.heap I a f0 i n ep) (hQ:Q (.ref I) s):wpAny (model prog w) A (pyIter (.ref I)) Q E s:=by
 refine wpAny_pyIter_slot st.typeIs nv (abR nv st.typeIs tu ?_ (uU _));show wpAny _ _ (ret (.ref _)) _ _ s;exact wpAny_pure ⟨_,rfl,"set_iterator",_,st.typeIs,cU.lookup,hQ⟩
def Vj (hh:A.handled=none) (haI:a≠I) (hf:t.fits es.size=true) (hr:kC t.place) (Hl:t.led=!qR w) (hpl:qR w=true\/(!t.plain && decide (es.size > 1))=false):
  Walks prog w A I [I,a] [I] (tG w a es ep).length (fun i v=>∃e,(tG w a es ep)[i]? =some e/\v=e.2) (fun i h=>Zs w a I es ep t i h/\i<=es.size) where
 sub:=fun b hb=>by simp at hb;simp[hb]
 frame:=fun i h h' st k=>by
  obtain⟨⟨slot,h1,⟨o,h2,h3⟩,h4⟩,hi⟩:=st;exact⟨⟨slot,k I (by simp) _ h1,⟨o,k a (by simp) _ h2,h3⟩,h4⟩,hi⟩
 item:=fun i s Q E hi st hQ=>by
  have hl:(tG w a es ep).length=es.size:=by rw[(yN w a es ep).length_eq,aaL]
  refine ON hh st.1 haI hf hr Hl hpl st.2 (fun e h' he st' sb=>?_) (fun h' he _=>?_)
  ·exact hQ e.2 h' s.toks ⟨e,he,rfl⟩ ⟨st',by lia⟩ fun b o hb q=>(sb.2 b (by simpa using hb)).trans q
  ·rw[aal hi] at he;cases he
 done:=fun s Q E st hQ=>by
  refine ON hh st.1 haI hf hr Hl hpl st.2 (fun e h' he st' sb=>?_) (fun h' he xb=>?_)
  ·have:=(aau.mp he).1;lia
  ·exact hQ h' s.toks fun b o hb q=>xb b o (by simpa using hb) q
 self:=fun i s Q E st hQ=>by
  obtain⟨⟨slot,h1,_⟩,_⟩:=st;exact wk h1 hQ
def Vk (hh:A.handled=none) (haI:a≠I) (hTI:T≠I) (hf:t.fits es.size=true) (hp:pl.Perm (List.range es.size)):
  Walks prog w A I [I,a,T] [I] (wg es pl).length (fun i v=>∃e,(wg es pl)[i]? =some e/\v=e.2) (fun i h=>Zt a I T es ep t pl i h) where
 sub:=fun b hb=>by simp at hb;simp[hb]
 frame:=fun i h h' st k=>by
  obtain⟨h1,h2,o,h3,h4⟩:=st;exact⟨k I (by simp) _ h1,k T (by simp) _ h2,o,k a (by simp) _ h3,h4⟩
 item:=fun i s Q E hi st hQ=>by
  refine OO hh st haI hTI hf hp (fun e h' he st' sb=>?_) (fun h' he _=>?_)
  ·exact hQ e.2 h' s.toks ⟨e,he,rfl⟩ st' fun b o hb q=>(sb.2 b (by simpa using hb)).trans q
  ·rw[aal hi] at he;cases he
 done:=fun s Q E st hQ=>by
  refine OO hh st haI hTI hf hp (fun e h' he st' sb=>?_) (fun h' he xb=>?_)
  ·have:=(aau.mp he).1;lia
  ·exact hQ h' s.toks fun b o hb q=>xb b o (by simpa using hb) q
 self:=fun i s Q E st hQ=>wk st.1 hQ
def Vl {ns:BBD}{Q:AAE}(hh:A.handled=none) (hS:lT prog w s.heap a ns)
  (h:∀(I:Addr) (h':Heap) (d':Drawn) (ord:List (Int×Value)) (fp:BBE) (St:Nat->Heap->Prop),(ord.map fun e=>intOf e.2).Perm ns->(∀e∈ord,∃tk,e.2= .int (intOf e.2) tk)->s.heap.objs.size<=I->(∀b∈fp,b=a\/s.heap.objs.size<=b)->
   Walks prog w A I fp [I] ord.length (fun i v=>∃e,ord[i]? =some e/\v=e.2) St->St 0 h'->(∀b o,s.heap.get? b=some o->h'.get? b=some o)->Q (.ref I) {s with heap:=h',drawn:=d'}):
  wpAny (model prog w) A (pyIter (.ref a)) Q E s:=by
 obtain⟨o,es,ep,t,ho,hex,hd,X⟩:=hS;have hT:s.TypeIs (.ref a) "set":=⟨o,ho,hex.1⟩
 have alt:a<s.heap.objs.size:=aap ho;have vals:∀ord:List (Int×Value),ord.Perm es.toList->(ord.map fun e=>intOf e.2).Perm ns/\∀e∈ord,∃tk,e.2= .int (intOf e.2) tk:=fun ord hp=>⟨(hp.map _).trans X.perm,fun e he=>by
  obtain⟨⟨k,hk,_⟩,_⟩:=X.el e (hp.mem_iff.mp he);obtain⟨tk,e'⟩:=aem hk;exact⟨tk,by rw[e'];rfl⟩⟩
 refine wpAny_pyIter_slot hT PySem.F.slot_set_iter (abR PySem.F.slot_set_iter hT Aq ?_ (PySem.F.args_set_iter_1 _));unfold Builtin.«frozenset.__iter__»
 refine aab (wpAny_pure ?_);refine aab ?_;unfold Builtin.Frozenset.sizeOf;refine aab (ad3 ho hd X.fits (wpAny_pure ?_));refine aab ?_;unfold setDrawn;refine aab (ac4 ho hd X.fits ?_);unfold setsByText;refine aab (aab (adf (wpAny_pure (wpAny_pure ?_))));refine abH (fun hc=>?_) fun hc=>?_
 ·refine aab (we es.size (List.range es.size) s _ (by rw[abk]) fun pl d' hp=>?_);refine aab (wpAny_newTuple ?_ (hsz:=by rw[aai,hp.length_eq,abk];exact aer X.few));have JR:(s.heap.push {cls:=.type "tuple",data:=.seq (kQ pl)}).get? a=some o:=aac _ ho;refine aab (wpAny_setEpoch_of (s:={s with heap:=s.heap.push {cls:=.type "tuple",data:=.seq (kQ pl)},drawn:=d'}) JR hd X.fits ?_);have hz:(s.heap.push {cls:=.type "tuple",data:=.seq (kQ pl)}).objs.size=s.heap.objs.size+1:=acB ..;refine aab (abi (wpAny_pure ⟨_,rfl,"set_iterator",_,⟨_,aaB _ rfl,rfl⟩,cU.lookup,?_⟩));obtain⟨v1,v2⟩:=vals _ (Ho hp);refine h _ _ d' (wg es pl) [(s.heap.push {cls:=.type "tuple",data:=.seq (kQ pl)}).objs.size,a,s.heap.objs.size] _ v1 v2 (by rw[hz];exact acj _) (fun b hb=>?_) (Vk (ep:=ep) (t:=t) hh (by rw[hz];exact aaF (ace alt)) (by rw[hz];exact aaF (acD _)) X.fits hp) ⟨aaB _ rfl,aac _ (aaB _ rfl),o,aac _ JR,hex,hd⟩ fun b o e=>aac _ (aac _ e);simp only[aao,aaQ,abU] at hb;rcases hb with rfl|rfl|rfl
  ·exact .inr (by rw[hz];exact acj _)
  ·exact .inl rfl
  ·exact .inr (aaj _)
 ·have hpl:qR w=true\/(!t.plain && decide (es.size > 1))=false:=by
   cases e:qR w with
   |true=>exact .inl rfl
   |false=>
    refine .inr ?_;cases q:(!t.plain && decide (es.size > 1)) with
    |false=>rfl
    |true=>
     refine absurd ?_ hc;show(!qR w && (!t.plain && decide (es.size > 1)))=true;rw[e,q];rfl
  refine aab (wpAny_pure ?_);refine aab (wpAny_setEpoch_of ho hd X.fits ?_);refine aab (abi (wpAny_pure ⟨_,rfl,"set_iterator",_,⟨_,aaB _ rfl,rfl⟩,cU.lookup,?_⟩));obtain⟨v1,v2⟩:=vals _ (yN w a es ep);refine h _ _ s.drawn (tG w a es ep) [s.heap.objs.size,a] _ v1 v2 (aaj _) (fun b hb=>?_) (Vj (ep:=ep) hh (aaF alt) X.fits X.rise X.led hpl) ⟨⟨0,aaB _ rfl,⟨o,aac _ ho,hex,hd⟩,.inr rfl⟩,aaM _⟩ fun b o e=>aac _ e;simp only[aao,aaQ,abU] at hb;rcases hb with rfl|rfl
  ·exact .inr (aaj _)
  ·exact .inl rfl
end
end L2
end
section
namespace L2
open PySem PySem.Spec PyProof.Rows PySem.Calls PyProof.V
variable {ns:BBD}
section
variable {prog:Program}{w:World}{A:Around}{E:AAE}{s:Shared}{a:Addr}
def Vm {Q:Bool->Shared->Prop}(hT:s.TypeIs (.ref a) "set") (h:Q false s):wpAny (model prog w) A (Builtin.List.listLengthHint (.ref a)) Q E s:=by
 unfold Builtin.List.listLengthHint;refine aab (wpAny_specialOf hT PySem.F.slot_set_len.lookup ?_);generalize hid:("set.__len__":String)=id0
 wp_delta
 rw[show splitId id0=some ("set","__len__") from by subst hid;decide +kernel];subst hid;refine aab (adL (T:="set") (b:=true) hT (by rw[adt];kernel_rfl) ?_);refine abH (fun hab=>absurd hab (by decide)) (fun _=>?_);refine abH (fun _=>?_) (fun hab=>absurd (by decide +kernel) hab);refine aab (adp hT ?_);exact wpAny_pure h
theorem Cc:∀{ord:List (Int×Value)},(∀e∈ord,∃tk,e.2= .int (intOf e.2) tk)->IntsAre (ord.map (·.2)) (ord.map fun e=>intOf e.2)
 |[],_=>.nil
 |e::ord,h=>by
  obtain⟨tk,q⟩:=h e aak;have ih:=Cc fun x hx=>h x (aag _ hx);show IntsAre (e.2::ord.map (·.2)) (intOf e.2::ord.map fun e=>intOf e.2);generalize intOf e.2=k at *;rw[q];exact .cons k tk ih
def Hq {ord:List (Int×Value)}{acc:AAK}(h:ItemsOf (fun i v=>∃e,ord[i]? =some e/\v=e.2) acc ord.length):acc.toList=ord.map (·.2):=by
 obtain⟨h1,h2⟩:=h;apply adB;intro i;rw[aaI];by_cases c:i<ord.length
 ·have hv:acc[i]? =some acc[i]:=aaK (by lia);obtain⟨e,e1,e2⟩:=h2 i _ hv;rw[abM,hv,e1,e2];rfl
 ·rw[abF (by rw[aaL];lia),abF (by lia)];rfl
def lT.keep {h h':Heap}(x:lT prog w h a ns) (k:∀o,h.get? a=some o->h'.get? a=some o):lT prog w h' a ns:=by
 obtain⟨o,es,ep,t,h1,r⟩:=x;exact⟨o,es,ep,t,k o h1,r⟩
def MP {R:Result->Shared->Prop}(hh:A.handled=none) (DJ:lT prog w s.heap a ns) (S:Addr) (hSa:S≠a) (res:Value) (c₀:Nat) (hS:s.heap.get? S=some {cls:=.type "list",data:=.seq #[] c₀})
  (hR:∀h' d' tk acc' c',(∀b o,b≠S->s.heap.get? b=some o->h'.get? b=some o)->h'.get? S=some {cls:=.type "list",dict:=none,data:=.seq acc' c',slots:=#[]}->(∃ms,IntsAre acc'.toList ms/\ms.Perm ns)->R (.ok (.ret res)) {s with heap:=h',toks:=tk,drawn:=d'}) (hn:ns.length<=sizeLine):
  wpAny (model prog w) A.in1 (Builtin.List.listExtendWith (.ref S) (.ref a) res)
   (fun fin s'=>match fin with|.done f=>R (.ok f) s'|.again c'=>c'.quiet=true/\codeAny (model prog w) A c' R s') (fun e s'=>R (.error e) s') s:=by
 have Slt:S<s.heap.objs.size:=aap hS;have hT:s.TypeIs (.ref a) "set":=by
  obtain⟨o,es,ep,t,h1,hex,_⟩:=DJ;exact⟨o,h1,hex.1⟩
 unfold Builtin.List.listExtendWith;refine aab (adp (T:="set") hT ?_);have h1:Builtin.List.listSameRef (.ref S) (.ref a)=false:=by simp[Builtin.List.listSameRef,hSa]
 have n1:(Value.type "set" == Value.type "list")=false:=by decide
 have n2:(Value.type "set" == Value.type "tuple")=false:=by decide
 simp only[h1,n1,n2,aeS,ack,acu];refine aab (Vl (A:=A.in1) hh DJ fun I h1 d' ord fp St p1 p2 hI hfp W st hk=>?_);have hSf:S∉fp:=fun m=>by
  rcases hfp S m with z|z
  ·exact hSa z
  ·exact absurd Slt (Nat.not_lt.mpr z)
 have SI:S≠I:=aaF (aas Slt hI);have Vg:ord.length<=sizeLine:=by have:=p1.length_eq;rw[aai] at this;lia
 have key:∀(h:Heap) (c₁ tk:Nat),St 0 h->(∀b o,b≠S->s.heap.get? b=some o->h.get? b=some o)->
   h.get? S=some {cls:=.type "list",data:=.seq #[] c₁}->codeAny (model prog w) A (.builtin "list.extend.loop" ⟨[.ref S,.ref I,res],[]⟩) R {s with heap:=h,toks:=tk,drawn:=d'}:=by
  intro h c₁ tk hst hk wm;refine codeAny_extend_loopS W.toS Vg S hSf res ord.length 0 _ #[] c₁ rfl (aaM _) hst wm (ItemsOf.nil _) fun s' acc' c' hm hS' hacc=>?_;rw[Moved.eq_with hm];refine hR s'.heap d' s'.toks acc' c' (fun b o hb e=>hm.heap b o (fun hmem=>?_) (hk b o hb e)) hS' ⟨_,by rw[Hq hacc];exact Cc p2,p1⟩;rcases aao.mp hmem with e'|hmem
  ·exact hb e'
  ·have bl:=aap e;rw[aam.mp hmem] at bl;exact absurd bl (Nat.not_lt.mpr hI)
 have wm:=hk S _ hS;have hT1:Shared.TypeIs {s with heap:=h1,drawn:=d'} (.ref a) "set":=by
  obtain⟨o,q1,q2⟩:=hT;exact⟨o,hk a o q1,q2⟩
 refine aab (abq (Vm hT1 ?_));refine abH (fun _=>?_) (fun _=>wpAny_pure ⟨acK aew _,key _ c₀ _ st (fun b o _ e=>hk b o e) wm⟩);refine aab (adb ?_);refine aab ?_;show wpAny _ _ (updateSeq S (·.push .none) >>= fun _=>updateSeq S (·.pop)) _ _ _;refine aab (wpAny_updateSeq wm rfl ?_);have OP:=ac6 (Obj.mapSeq (·.push Value.none)) wm rfl;refine wpAny_updateSeq (hz:=by seq_fits) OP rfl ?_;have Vn:=ac6 (Obj.mapSeq (·.pop)) OP rfl;refine wpAny_pure ⟨acK aew _,key _ _ _ ?_ (fun b o hb e=>?_) Vn⟩
 ·refine W.frame 0 _ _ st fun b hb o e=>?_;have hbS:b≠S:=fun h=>hSf (h▸hb);exact(ab0 _ _ (abJ hbS)).trans ((ab0 _ _ (abJ hbS)).trans e)
 ·exact(ab0 _ _ (abJ hb)).trans ((ab0 _ _ (abJ hb)).trans (hk b o e))
def J2 {R:BBG->Shared->Prop}(hh:A.handled=none) (DJ:lT prog w s.heap a ns) (hn:ns.length<=sizeLine)
  (h:∀(h':Heap) (d':Drawn) (tk:Nat) (acc:AAK),(∀b o,s.heap.get? b=some o->h'.get? b=some o)->(∃ms,IntsAre acc.toList ms/\ms.Perm ns)->R acc.toList {s with heap:=h',toks:=tk,drawn:=d'}):
  wpAny (model prog w) A (collect (.ref a)) R E s:=by
 have alt:a<s.heap.objs.size:=by obtain⟨o,es,ep,t,h1,_⟩:=DJ;exact aap h1
 unfold collect;refine aab (wpAny_runValue (ab8 entry_proto_collect' ?_));rw[acA PySem.F.plain_proto_collect _];show wpAny _ A.in1 (newList [] >>= fun l=>again (.builtin "list.__iadd__" ⟨[l,.ref a],[]⟩)) _ _ s;refine aab (abi ?_);refine wpAny_pure ⟨acK aeG _,ab8 entry_list_iadd' ?_⟩;rw[acA aeG _];have wm:(s.heap.push {cls:=.type "list",data:=.seq ([]:AAL).toArray}).get? s.heap.objs.size=some {cls:=.type "list",data:=.seq #[]}:=aaB _ rfl;show wpAny _ A.in1 (Builtin.List.listExtendWith (.ref s.heap.objs.size) (.ref a) (.ref s.heap.objs.size)) _ _ _;have key:=MP (A:=A) (s:={s with heap:=s.heap.push {cls:=.type "list",data:=.seq ([]:AAL).toArray}})
  (R:=fun(q:Result) (s':Shared)=>∃(h':Heap) (d':Drawn) (tk:Nat) (acc':AAK) (c':Nat),q= .ok (.ret (.ref s.heap.objs.size))/\s'={s with heap:=h',toks:=tk,drawn:=d'}/\
   (∀b o,s.heap.get? b=some o->h'.get? b=some o)/\h'.get? s.heap.objs.size=some {cls:=.type "list",dict:=none,data:=.seq acc' c',slots:=#[]}/\∃ms,IntsAre acc'.toList ms/\ms.Perm ns)
  hh (DJ.keep fun o e=>aac _ e) s.heap.objs.size (aez alt) (.ref s.heap.objs.size) 0 wm
  (fun h' d' tk acc' c' hk hS' hacc=>⟨h',d',tk,acc',c',rfl,rfl,fun b o e=>hk b o (aaF (aap e)) (aac _ e),hS',hacc⟩) hn
 refine abn key (fun fin s' x=>?_) fun e s' x=>?_
 ·cases fin with
  |done f=>
   obtain⟨h',d',tk,acc',c',e,rfl,hk,hS',hacc⟩:=x;cases e;show wpAny _ A (load s.heap.objs.size >>= _) _ _ _;refine aab (wpAny_load hS' ?_);exact wpAny_pure (h h' d' tk acc' hk hacc)
  |again c₁=>
   refine⟨x.1,ac5 x.2 fun q s₂ y=>?_⟩;obtain⟨h',d',tk,acc',c',rfl,rfl,hk,hS',hacc⟩:=y;show wpAny _ A (load s.heap.objs.size >>= _) _ _ _;refine aab (wpAny_load hS' ?_);exact wpAny_pure (h h' d' tk acc' hk hacc)
 ·obtain⟨_,_,_,_,_,e',_⟩:=x;cases e'
def MQ {Q:AAE}(hh:A.handled=none) (DJ:lT prog w s.heap a ns) (hn:ns.length<64)
  (h:∀(h1 h':Heap) (d':Drawn) (tk n:Nat) (out:AAK) (ns':BBD),(∀b o,s.heap.get? b=some o->h1.get? b=some o)->(∀b o,h1.get? b=some o->h'.get? b=some o)->IntsAre out.toList ns'->ns'.Perm ns->ns'.Pairwise (·<=·)->
   h'.get? h1.objs.size=some (seqObj "list" out n)->Q (.ref h1.objs.size) {s with heap:=h',toks:=tk,drawn:=d'}):
  wpAny (model prog w) A (call (.builtin "sorted") [.ref a]) Q E s:=by
 refine call_function_entry kind_sorted plain_sorted entry_sorted (args_sorted1 _) ?_;unfold Builtin.«sorted»
 refine aab (m:=checkCount "sorted" 1 1 _) (wpAny_pure ?_);refine aab (J2 (A:=A.in1) hh DJ (aaC (abG hn) (by decide)) fun h' d' tk acc hk hh=>?_);obtain⟨ms,hm,hp⟩:=hh;have hl:acc.toList.length<64:=by rw[hm.length,hp.length_eq];exact hn
 refine aab (adJ ?_ (aaC (abG hl) (by decide)));have Ii:(h'.push (seqObj "list" acc.toList.toArray 0)).get? h'.objs.size=some (seqObj "list" acc.toList.toArray 0):=aaB _ rfl;show wpAny _ _ _ _ _ {s with heap:=h'.push (seqObj "list" acc.toList.toArray 0),toks:=tk,drawn:=d'};refine aab (abq (abR slot_list_sort ⟨_,Ii,rfl⟩ entry_list_sort (list_sort_tree (ns:=ms) Ii hm hl fun out ns' a1 a2 a3=>⟨_,rfl,?_⟩) (args_list_sort _)));refine wpAny_pure ⟨_,rfl,?_⟩;obtain⟨e,he⟩:=sortedHeap_at (out:=out) Ii;exact h _ _ d' tk e out ns' hk (fun b o hb=>by
  have:=aap hb;rw[sortedHeap_old (aaF this) (by rw[size_push'];exact ace this)];exact aac _ hb) a1 (a2.trans hp) a3 he
end
def sortI (ns:BBD):BBD:=(qT (fun i=>ns.getD i 0) ns.length).mergeSort (fun a b=>decide (a<=b))
def sortI_perm (ns:BBD):(sortI ns).Perm (qT (fun i=>ns.getD i 0) ns.length):=List.mergeSort_perm _ _
def lU {k:Int}:k∈sortI ns↔k∈ns:=by
 rw[(sortI_perm ns).mem_iff,ER];constructor
 ·rintro⟨j,hj,rfl⟩;rw[aaE,aal hj];exact ab3 hj
 ·intro h;obtain⟨j,hj,e⟩:=List.getElem_of_mem h;exact⟨j,hj,by rw[aaE,aal hj];exact e⟩
def J3 (ns:BBD):(sortI ns).Nodup:=(sortI_perm ns).nodup_iff.mpr (JX _ _)
def yO (ns:BBD):(sortI ns).Pairwise (·<=·):=by
 have:=List.pairwise_mergeSort (le:=fun a b:Int=>decide (a<=b)) (fun a b c h1 h2=>by simp at *;lia) (fun a b=>by simp;lia) (qT (fun i=>ns.getD i 0) ns.length);exact this.imp fun h=>by simpa using h
def Au:List D->Option U
 |[.tup ds]=>(pY ds).bind fun ns=>if ns.length<64 then some (.m (.lst ((sortI ns).map D.int))) else none
 |[.lst ds]=>(pY ds).bind fun ns=>if ns.length<64 then some (.m (.lst ((sortI ns).map D.int))) else none
 |_=>none
def SqD (d:D) (ns:BBD):Prop:=∃ds,(d= .tup ds\/d= .lst ds)/\pY ds=some ns/\ns.length<64
def DT {d:D}{u:U}(h:Au [d]=some u):∃ns,SqD d ns/\u= .m (.lst ((sortI ns).map D.int)):=by
 have key:∀ds,(pY ds).bind (fun ns=>if ns.length<64 then some (U.m (.lst ((sortI ns).map D.int))) else none)=some u->∃ns,pY ds=some ns/\ns.length<64/\u= .m (.lst ((sortI ns).map D.int)):=by
  intro ds h;obtain⟨zs,h5,h6⟩:=aj h;split at h6
  ·rename_i hl;cases h6;exact⟨zs,h5,hl,rfl⟩
  ·cases h6
 cases d with
 |lst ds=>obtain⟨ns,h1,h2,h3⟩:=key ds h;exact⟨ns,⟨ds,.inr rfl,h1,h2⟩,h3⟩
 |tup ds=>obtain⟨ns,h1,h2,h3⟩:=key ds h;exact⟨ns,⟨ds,.inl rfl,h1,h2⟩,h3⟩
 |_=>cases h
theorem ints_getD:∀{ns:BBD}{its:AAL},Vals (ns.map V.int) its->∀(i:Nat) (v:Value),its[i]? =some v->∃t,v=Value.int (ns.getD i 0) t
 |[],_,r,i,v,h=>by cases r;cases h
 |n::ns,_,r,i,v,h=>by
  cases r with
  |cons q t=>
   obtain⟨t',rfl⟩:=q;cases i with
   |zero=>cases h;exact⟨t',rfl⟩
   |succ i=>exact ints_getD t i v h
def Hr {l:AAL}(h:IntsAre l ns):Vals (ns.map V.int) l:=by
 induction h with
 |nil=>exact .nil
 |cons k tk _ ih=>exact .cons ⟨_,rfl⟩ ih
section
variable {X:Cx}{pins:AAG}{σ:St}{F H:Hp}{s:Shared}{v:V}{u:Value}{d:D}{ns:BBD}{Q:AAE}{E:AAE}
def Hs (hc:X.calm=true) (I:Inv X pins σ H s) (sb:Sub F H) (rd:Rep F v d) (ru:RelV v u) (h:SqD d ns)
  (k:∀h' tk,lT X.prog X.w h' s.heap.objs.size (qT (fun i=>ns.getD i 0) ns.length)->(∀b o,s.heap.get? b=some o->h'.get? b=some o)->Q (.ref s.heap.objs.size) {s with heap:=h',toks:=tk}):
  wpAny (model X.prog X.w) X.A (call (.type "set") [u]) Q E s:=by
 obtain⟨ds,hd,h5,hl⟩:=h;rcases hd with rfl|rfl
 ·obtain⟨a',vs',rfl,fa,nh⟩:=rd.jN;obtain rfl:=qz nh h5;cases ru;obtain⟨its,rv,pl,hz⟩:=I.tuple (.inl (.inl (sb _ _ fa)));have hil:its.length=ns.length:=by have:=rv.length;simpa using this.symm
  refine yM (k:=false) (ns:=ns) (I.ok.hd hc) pl (ints_getD rv) (by rw[hil];unfold scanBound;lia) fun h' tk hS hk=>?_;rw[hil] at hS;exact k h' tk hS fun b o e=>hk b o (aap e) e
 ·obtain⟨a',vs',rfl,fa,hla,nh⟩:=sb.gF rd;obtain rfl:=qz nh h5;cases ru;obtain⟨its,rv,pl,hz⟩:=I.list (.inl hla);have hil:its.length=ns.length:=by have:=rv.length;simpa using this.symm
  refine yM (k:=true) (ns:=ns) (I.ok.hd hc) pl.isList (ints_getD rv) (by rw[hil];unfold scanBound;lia) fun h' tk hS hk=>?_;rw[hil] at hS;exact k h' tk hS fun b o e=>hk b o (aap e) e
def Inv.drawn {h':Heap}{t':Nat}{d':Drawn}(I:Inv X pins σ H s) (k:∀b o,s.heap.get? b=some o->h'.get? b=some o):Inv X pins σ H {s with heap:=h',toks:=t',drawn:=d'}:=
 I.call (g':=s.gens) (ch:=[]) (Un.kept k) (I.hok.kept k) I.bare (fun _ z=>nomatch z)
end
section
variable {X:Cx}{a:Expr}{pos p p1 p2:Pos}{ga:GD}
def Cd (hc:X.calm=true) (Vo:Gl X "sorted") (hm1:X.mg "sorted" =none) (U3:Gl X "set") (hm2:X.mg "set" =none) (ha:JD X a ga)
  (hs1:starEach [.Call (.Name "set" p1) [a] [] p2] X.env=(false,eval (.Call (.Name "set" p1) [a] [] p2) X.env)::starEach [] X.env:=by rfl)
  (hs2:starEach [a] X.env=(false,eval a X.env)::starEach [] X.env:=by rfl):
  JE X (.Call (.Name "sorted" p) [.Call (.Name "set" p1) [a] [] p2] [] pos) (eP Au (ah ga aF)):=⟨fun B=>by
 rintro pins s σ H Q I ⟨S,F,u,S',R,hg,q⟩;obtain⟨⟨dl,S1⟩,h1,hg⟩:=aj hg;obtain⟨w',h2,hg⟩:=au hg;cases hg;obtain⟨⟨d,S2⟩,h3,h1⟩:=aj h1;obtain⟨⟨dr,S3⟩,h4,h1⟩:=au h1;cases h4;cases h1;obtain⟨ns,hsq,rfl⟩:=DT h2;refine abW (mz I Vo hm1 ads ?_ (by decide) (by decide));refine acR ?_ hs1 rfl;rw[hs1];show wpAny _ _ (spliced ((false,eval (.Call (.Name "set" p1) [a] [] p2) X.env)::backTo pos (starEach [] X.env))) _ _ s;refine Calls.spliced_cons ?_;refine abW (mz I U3 hm2 PyProof.Rows.Boot.set ?_ (by decide) (by decide));refine ac9 (dW (gj (ha.h B) k7 hs2 p2 pins s σ H (fun vs H1=>∃v F1,vs=[v]/\Rel X.K B S2 σ F1 H1/\Step S S2 σ F H F1 H1/\Rep F1 v d) I ⟨S,F,_,S2,R,h3,fun v F1 H1 R1 st1 r1=>⟨v,F1,rfl,R1,st1,r1⟩⟩) ?_) hs2 rfl;rintro us s1 ⟨vs,H1,I1,r1,v,F1,rfl,R1,st1,rd⟩;obtain⟨u',rfl,ru⟩:=vals1 r1;refine Hs hc I1 R1.sub rd ru hsq fun h' tk hS hk=>?_;refine Calls.spliced_nil ?_;have hlen:(qT (fun i=>ns.getD i 0) ns.length).length<64:=acm (Ar _ _) hsq.choose_spec.2.2;refine MQ (I1.ok.hd hc) hS hlen fun g1 g2 d' tk2 n out ns' k1 k2 hi hp ho k3=>?_;have he:ns'=sortI ns:=PySem.W.ksm_same (hp.trans (sortI_perm ns).symm) ho (yO ns);subst he;have J:=I1.drawn (h':=g1) (t':=tk2) (d':=d') fun b o e=>k1 b o (hk b o e);have hp:=J.hok.fresh (aaj _);have hv:Vals ((sortI ns).map V.int) out.toList:=Hr hi;have n1:=fV.obj (F:=F1) hp (.lst ((sortI ns).map V.int));have s4:=R1.sub.same n1.same;have hr:∀l:BBD,bq F1 (l.map V.int) (l.map D.int):=fun l=>by
  induction l with
  |nil=>exact .nil
  |cons x l ih=>exact .cons (.int x) ih
 have Vp:((sortI ns).map V.int).length<=sizeLine:=by
  rw[aai,(sortI_perm ns).length_eq];exact aaC (abG hlen) (by decide)
 exact⟨.ref g1.objs.size,_,J.laid (a:=g1.objs.size) (o:=.lst ((sortI ns).map V.int)) (h':=g2) (t':=tk2) k2 (aaj _) ⟨Vp,out.toList,n,hv,by simpa using k3⟩,rfl,
  q _ F1 _ (R1.new n1 s4) (st1.trans n1.step) (vH.Ad (u:=.m (.lst ((sortI ns).map D.int))) R1 st1 ⟨_,rfl,hp,R1.sub.fresh hp,(sortI ns).map V.int,aO,hr _⟩)⟩⟩
end
end L2
end
section
namespace L2
open PySem PySem.Spec PyProof.Rows
section
variable (S:SS)(d e:D)(o:MO)(i j:Nat)(g ga gb gc:GD)(ge:GE)(q q1 q2:GT)(gA:GA)(gu:GU)(a b:GS)(f f':List D->Option U)(fm:FM)(bd:GB)(gi:GI)
@[simp] theorem Zu:aB i S=match S[i]? with|some (some (.t d))=>some (.t d,S)|some (some (.s d))=>some (.s d,S)|some (some (.f d))=>some (.f d,S)|some (some (.x C k))=>some (.x C k,S)|some (some _)=>some (.v i,S)|_=>none:=rfl
@[simp] theorem acU:eC d S=some (d,S):=rfl
@[simp] theorem Zv:aF S=some ([],S):=rfl
@[simp] theorem W2:ah g gA S=(g S).bind fun p=>(gA p.2).map fun q=>(p.1::q.1,q.2):=rfl
@[simp] theorem acV:eP f gA S=(gA S).bind fun p=>(f p.1).map fun u=>(u,p.2):=rfl
@[simp] theorem acW:eF ge S=(ge S).bind fun p=>fz p.1 p.2:=rfl
@[simp] theorem acX:eT g S=(g S).map fun p=>(.t p.1,p.2):=rfl
@[simp] theorem Zw:fz (.t d) S=some (d,S):=rfl
@[simp] theorem Zx (ds:List D):fz (.m (.lst ds)) S=some (.lst ds,S):=rfl
@[simp] theorem Zy:fz (.v i) S=match S[i]? with|some (some (.t d))=>some (d,S)|some (some (.m (.lst ds)))=>some (.lst ds,S.set i (some (.t (.lst ds))))|_=>none:=rfl
@[simp] theorem acY:qB g S=(g S).bind fun p=>match p.1 with|.bl k=>some (k,p.2)|_=>none:=rfl
@[simp] theorem Zz:k8 q S=(q S).map fun p=>(!p.1,p.2):=rfl
@[simp] theorem ZA:Ae q1 q2 S=(q1 S).bind fun p=>if p.1 then q2 p.2 else some (false,p.2):=rfl
@[simp] theorem aa7:EI q1 q2 S=(q1 S).bind fun p=>if p.1 then some (true,p.2) else q2 p.2:=rfl
@[simp] theorem acZ:eQ q S=(q S).map fun p=>(.bl p.1,p.2):=rfl
@[simp] theorem W3:cj S=some (true,S):=rfl
@[simp] theorem aa8 (g1 g2:GE):WW q g1 g2 S=(q S).bind fun p=>if p.1 then g1 p.2 else g2 p.2:=rfl
@[simp] theorem ZC:gB S=some (.nx S):=rfl
@[simp] theorem dc:aU a b S=(a S).bind fun o=>match o with|.nx S1=>b S1|o=>some o:=rfl
@[simp] theorem ZD:cD i ge S=(ge S).bind fun p=>match p.1 with|.m o=>(nP i (.m o) p.2).map .nx|u=>(fz u p.2).bind fun q=>(nP i (.t q.1) q.2).map .nx:=rfl
@[simp] theorem bN (u:U):nP i u S=match S[i]? with|some (some (.b _))=>none|some _=>some (S.set i (some u))|none=>none:=rfl
@[simp] theorem W4:nq ge S=(ge S).map fun p=>.nx p.2:=rfl
@[simp] theorem ZE:dI ge S=(ge S).bind fun p=>match p.1 with
 |.v i=>match p.2[i]? with
  |some (some (.t d))=>some (.rt (.t d) p.2)
  |some (some (.m o))=>some (.rt (.m o) (p.2.set i none))
  |_=>none
 |.s _=>none
 |.f _=>none
 |.x _ _=>none
 |u=>some (.rt u p.2):=rfl
@[simp] theorem aa9:qw q a b S=(q S).bind fun p=>if p.1 then a p.2 else b p.2:=rfl
@[simp] theorem W5:bName i d S=nP i (.t d) S:=rfl
@[simp] theorem ZF:mG bd gi a S=(gi S).bind fun p=>loop bd a p.1 p.2:=rfl
@[simp] theorem ZG:Qs g S=(g S).bind fun p=>match p.1 with|.tup ds=>some (ds,p.2)|.lst ds=>some (ds,p.2)|_=>none:=rfl
@[simp] theorem MR:rB gA S=(gA S).bind fun p=>match p.1 with|[.int j]=>if j<1000000/\-1000000<j then some (qV 0 j.toNat,p.2) else none|_=>none:=rfl
@[simp] theorem QK:loop bd a [] S=some (.nx S):=rfl
@[simp] theorem ZI:bM S=some ([],S):=rfl
@[simp] theorem ZJ:bw g gu S=(g S).bind fun p=>(gu p.2).map fun q=>(.t p.1::q.1,q.2):=rfl
@[simp] theorem ZK:cI ge gu S=(ge S).bind fun p=>(gu p.2).map fun q=>(p.1::q.1,q.2):=rfl
@[simp] theorem W6:br fm gu S=(gu S).bind fun p=>if(slotsOf p.1).Nodup/\cC p.1<=1 then(bT p.2 p.1).bind fun us=>(fm us).bind fun r=>(wb p.1 r.2 p.2).map fun S2=>(r.1,S2) else none:=rfl
@[simp] theorem SO:bT S []=some []:=rfl
@[simp] theorem QL (u:U) (us:List U):bT S (u::us)=(resolve S u).bind fun w=>(bT S us).map fun ws=>w::ws:=rfl
@[simp] theorem W7:resolve S (.t d)=AAA d:=rfl
@[simp] theorem W8:resolve S (.m o)=some (.b o):=rfl
@[simp] theorem W9 (ns:BBD):resolve S (.s ns)=some (.s ns):=rfl
@[simp] theorem Xa:resolve S (.v i)=match S[i]? with|some (some (.m o))=>some (.b o)|some (some (.b o))=>some (.b o)|_=>none:=rfl
@[simp] theorem Vq:slotsOf []=[]:=rfl
@[simp] theorem ZL (us:List U):slotsOf (.t d::us)=slotsOf us:=rfl
@[simp] theorem ZM (us:List U):slotsOf (.m o::us)=slotsOf us:=rfl
@[simp] theorem ZN (ns:BBD) (us:List U):slotsOf (.s ns::us)=slotsOf us:=rfl
@[simp] theorem ZO (us:List U):slotsOf (.v i::us)=i::slotsOf us:=rfl
@[simp] theorem Vr:cC []=0:=rfl
@[simp] theorem ZP (us:List U):cC (.t d::us)=cC us:=rfl
@[simp] theorem ZQ (us:List U):cC (.m o::us)=cC us+1:=rfl
@[simp] theorem ZR (ns:BBD) (us:List U):cC (.s ns::us)=cC us:=rfl
@[simp] theorem ZS (us:List U):cC (.v i::us)=cC us:=rfl
@[simp] theorem Vs:wb [] [] S=some S:=rfl
@[simp] theorem ZT (us:List U) (os:List MO):wb (.t d::us) os S=wb us os S:=by cases os<;>rfl
@[simp] theorem ZU (ns:BBD) (us:List U) (os:List MO):wb (.s ns::us) os S=wb us os S:=by cases os<;>rfl
@[simp] theorem ZV (us:List U) (os:List MO):wb (.m o::us) (o'::os) S=wb us os S:=rfl
@[simp] theorem ZW (us:List U) (os:List MO):wb (.v i::us) (o::os) S=match S[i]? with|some (some (.m _))=>wb us os (S.set i (some (.m o)))|some (some (.b _))=>wb us os (S.set i (some (.b o)))|_=>none:=rfl
@[simp] theorem ZX:eG i gb S=match S[i]? with|some (some _)=>(gb S).bind fun p=>(match p.2[i]? with|some (some u)=>(rH u p.1).map fun d=>(d,p.2)|_=>none)|_=>none:=rfl
@[simp] theorem ZY:rJ i S=match S[i]? with|some (some u)=>(B0 u).map fun n=>(.int (n:Nat),S)|_=>none:=rfl
@[simp] theorem ac0 (h:List D->MO->Option (D×MO)):eM i h gA S=if UT S i then(gA S).bind fun p=>qx p.2 i (h p.1) else none:=rfl
@[simp] theorem ZZ (gk gv:GD):Am i gk gv S=(gv S).bind fun p=>match p.2[i]? with|some (some _)=>(gk p.2).bind fun r=>(qx r.2 i fun o=>(sW o r.1 p.1).map fun o'=>(.bQ,o')).map fun z=>.nx z.2|_=>none:=rfl
@[simp] theorem aba (Ts:List String):EM Ts g S=(g S).bind fun p=>(uH Ts p.1).map fun b=>(.bl b,p.2):=rfl
@[simp] theorem QM (ds:List D) (k:Int):rH (.t (.tup ds)) (.int k)=dX ds k:=rfl
@[simp] theorem QN (ds:List D) (k:Int):rH (.t (.lst ds)) (.int k)=dX ds k:=rfl
@[simp] theorem QO (ds:List D) (k:Int):rH (.m (.lst ds)) (.int k)=dX ds k:=rfl
@[simp] theorem QS (ds:List D) (k:Int):rH (.b (.lst ds)) (.int k)=dX ds k:=rfl
@[simp] theorem QT (kvs:List (Key×D)) (k:D):rH (.b (.dct kvs)) k=(keyOf k).bind (dF kvs):=by cases k<;>rfl
@[simp] theorem SQ (ns:BBD) (k:Int):rH (.s ns) (.int k)=(dX ns k).map D.int:=rfl
@[simp] theorem Xb (k:Int):keyOf (.int k)=some (.inl k):=rfl
@[simp] theorem Xc (k:Str):keyOf (.str k)=some (.inr k):=rfl
@[simp] theorem SR (ds:List D):B0 (.t (.tup ds))=some ds.length:=rfl
@[simp] theorem SV (ds:List D):B0 (.t (.lst ds))=some ds.length:=rfl
@[simp] theorem SW (ds:List D):B0 (.m (.lst ds))=some ds.length:=rfl
@[simp] theorem SX (ds:List D):B0 (.b (.lst ds))=some ds.length:=rfl
@[simp] theorem Vt (ns:BBD):B0 (.s ns)=some ns.length:=rfl
@[simp] theorem abb (C:Int->Int->Bool) (h:Int->Int->D) (x y:Int):xQ C h [.int x,.int y]=if C x y then AAA (h x y) else none:=rfl
@[simp] theorem Vu (x y:Int):fG [.int x,.int y]=AAC (x+y):=rfl
@[simp] theorem Vv (x y:Str):fG [.str x,.str y]=if x.length+y.length<=100000 then AAA (.str (x++y)) else none:=rfl
@[simp] theorem Vw (x y:List D):fG [.tup x,.tup y]=if x.length+y.length<=100000 then AAA (.tup (x++y)) else none:=rfl
@[simp] theorem Vx (x y:List D):fG [.lst x,.lst y]=if x.length+y.length<=100000 then AAB (x++y) else none:=rfl
@[simp] theorem Z0 (x y:Int):vN [.int x,.int y]=if((decide (-(2 ^ 64)<x) && decide (x<2 ^ 64)) || (decide (-(2 ^ 64)<y) && decide (y<2 ^ 64))) then AAC (x*y) else none:=rfl
@[simp] theorem Z1 (x:Int):GL [.int x]=AAC (-x):=rfl
@[simp] theorem Z2 (ds:List D):dB ds=if ds.length<=100000 then AAA (.tup ds) else none:=rfl
@[simp] theorem Z3 (ds:List D):fW ds=if ds.length<=100000 then AAB ds else none:=rfl
@[simp] theorem Xd (ds:List D) (k:Int):DA [.tup ds,.int k]=(dX ds k).map .t:=rfl
@[simp] theorem Xe (ds:List D) (k:Int):DA [.lst ds,.int k]=(dX ds k).map .t:=rfl
@[simp] theorem Vy:xR [d,e]=if bA d<=40 then AAA (.bl (gQ d e)) else none:=rfl
@[simp] theorem abd:xZ [d,e]=if bA d<=40 then AAA (.bl (!gQ d e)) else none:=rfl
@[simp] theorem Xf (x y z:Int):U4 [.int x,.int y,.int z]=AAC (if y<x then(if z<y then z else y) else if z<x then z else x):=rfl
@[simp] theorem Vz (ds:List D):GO [.tup ds]=AAC ds.length:=rfl
@[simp] theorem VA (ds:List D):GO [.lst ds]=AAC ds.length:=rfl
@[simp] theorem SY (ds:List D):BW [.tup ds]=AAB ds:=rfl
@[simp] theorem S5 (ds:List D):BW [.lst ds]=AAB ds:=rfl
@[simp] theorem QU (ds:List D):g7 [.tup ds]=AAA (.tup ds):=rfl
@[simp] theorem QV (ds:List D):g7 [.lst ds]=AAA (.tup ds):=rfl
@[simp] theorem Z4 (ds:List D):Jz [.lst ds]=(kB ds).map fun bs=>.t (.bl (bs.all id)):=rfl
@[simp] theorem Z5 (ds:List D):JC [.lst ds]=(kB ds).map fun bs=>.t (.bl (bs.any id)):=rfl
@[simp] theorem Av:nZ [d]=if LC d then AAA (.str (toPy d).shown) else none:=rfl
@[simp] theorem Xg (x y:Str):gQ (.str x) (.str y)=(x == y):=by kernel_rfl
@[simp] theorem Xh (x y:Int):gQ (.int x) (.int y)=(x == y):=by kernel_rfl
@[simp] theorem Xi (x y:Bool):gQ (.bl x) (.bl y)=(x == y):=by kernel_rfl
@[simp] theorem Xj (x:Str):bA (.str x)=0:=by kernel_rfl
@[simp] theorem Xk (x:Int):bA (.int x)=0:=by kernel_rfl
@[simp] theorem Xl (x:Bool):bA (.bl x)=0:=by kernel_rfl
@[simp] theorem Z6 (h:MO->Option (D×MO)):qx S i h=match S[i]? with|some (some (.m o))=>(h o).map fun r=>(r.1,S.set i (some (.m r.2)))|some (some (.b o))=>(h o).map fun r=>(r.1,S.set i (some (.b r.2)))|_=>none:=rfl
@[simp] theorem abe:UT S i=match S[i]? with|some (some (.m (.lst _)))=>true|some (some (.b (.lst _)))=>true|_=>false:=rfl
@[simp] theorem S6 (kvs:List (Key×D)) (k:D):sW (.dct kvs) k d=(keyOf k).bind fun kk=>if kvs.length<100000 then some (.dct (putD kvs kk d)) else none:=rfl
@[simp] theorem S7 (ds:List D) (k:Int):sW (.lst ds) (.int k) d=(Dn ds.length k).map fun j=>.lst (ds.set j d):=rfl
@[simp] theorem VB (ds:List D):hAppend [d] (.lst ds)=if ds.length<100000 then some (.bQ,.lst (ds++[d])) else none:=rfl
@[simp] theorem Xm (us:List U) (o2:MO):aT (.b o2::us) (some (.b o)::S)=(aT us S).map fun os=>o::os:=rfl
@[simp] theorem EU (us:List U) (x:Option U):aT (.t d::us) (x::S)=aT us S:=by cases x<;>rfl
end
noncomputable def fS:Option U->Bool
 |some (.b _)=>true
 |_=>false
@[simp] theorem abf:fS none=false:=rfl
@[simp] theorem abg (d:D):fS (AAA d)=false:=rfl
@[simp] theorem abh (o:MO):fS (some (.m o))=false:=rfl
def bD (i:Nat) (u:U) (S:SS):nP i u S=(S[i]?).bind fun x=>if fS x then none else some (S.set i (some u)):=by
 unfold nP;cases S[i]? with
 |none=>rfl
 |some x=>cases x with
  |none=>rfl
  |some u=>cases u<;>rfl
end L2
end
section
namespace Sw
open PySem PySem.Spec PyProof.Rows L2
variable {n:Nat}{K:AAD}
@[simp] theorem VC (g:GD) (lo hi:Option GD) (S:SS):G0 g lo hi S=(g S).bind fun p=>(lQ lo p.2).bind fun l=>(lQ hi l.2).bind fun h=>(MD p.1 l.1 h.1).map fun u=>(u,h.2):=rfl
@[simp] theorem Z7 (S:SS):lQ none S=some (none,S):=rfl
@[simp] theorem Z8 (g:GD) (S:SS):lQ (some g) S=(g S).bind fun p=>match p.1 with|.int i=>some (some i,p.2)|_=>none:=rfl
@[simp] theorem MS (ds:List D) (lo hi:BBM):MD (.tup ds) lo hi=AAA (.tup (cutD ds lo hi)):=rfl
@[simp] theorem MT (ds:List D) (lo hi:BBM):MD (.lst ds) lo hi=AAB (cutD ds lo hi):=rfl
@[simp] theorem Xn (z:Str) (lo hi:BBM):MD (.str z) lo hi=if z.length<=100000 then AAA (.str (Txt.slice z lo hi)) else none:=rfl
theorem J4:∀(ts:List D) (S:SS),S.length=ts.length->aT (ts.map U.t) S=some []
 |[],S,_=>by cases S<;>rfl
 |d::ts,[],h=>by cases h
 |d::ts,x::S,h=>by
  show aT (U.t d::ts.map U.t) (x::S)=_;rw[EU];exact J4 ts S (by simpa using h)
theorem OQ (S:SS):∀ts:List D,bT S (ts.map U.t)=some (ts.map U.t)
 |[]=>rfl
 |d::ts=>by
  show(some (U.t d)).bind _=_;rw[OQ S ts];rfl
theorem VD:∀ts:List D,slotsOf (ts.map U.t)=[]
 |[]=>rfl
 |d::ts=>VD ts
theorem VE:∀ts:List D,cC (ts.map U.t)=0
 |[]=>rfl
 |d::ts=>VE ts
theorem QW (S:SS):∀ts:List D,wb (ts.map U.t) [] S=some S
 |[]=>rfl
 |d::ts=>QW S ts
theorem vh {cap:BBJ}{q:GT}{g:GD}{S:SS}{ts:List D}(hc:d8 S cap=some (ts.map U.t)) (p:D->Bool) (f:D->D):∀(ds acc:List D),
  (∀d∈ds,q (AAA d::ts.map fun x=>AAA x)=some (p d,AAA d::ts.map fun x=>AAA x))->(∀d∈ds,p d=true->g (AAA d::ts.map fun x=>AAA x)=some (f d,AAA d::ts.map fun x=>AAA x))->
  bU cap q g ds S acc=some (acc++(ds.filter p).map f,S)
 |[],acc,_,_=>by simp[bU]
 |d::ds,acc,hq,hg=>by
  have em:(ts.map U.t).map some=ts.map fun x=>some (U.t x):=by simp
  have eo:aT (.t d::ts.map U.t) (AAA d::ts.map fun x=>AAA x)=some []:=by rw[EU];exact J4 ts _ (by simp)
  have q0:=hq d (aak);unfold bU;rw[hc];simp only[aah];rw[if_pos ⟨by rw[VD];exact abp,by rw[VE];exact aaM _⟩,OQ];simp only[aah];rw[em,q0];simp only[aah];by_cases hp:p d=true
  ·rw[if_pos hp,hg d aak hp];simp only[aah];rw[eo];simp only[aah];rw[QW];simp only[aah];rw[vh hc p f ds (acc++[f d]) (fun e he=>hq e (aag _ he)) (fun e he=>hg e (aag _ he)),aeH hp];simp
  ·rw[if_neg hp,eo];simp only[aah];rw[QW];simp only[aah];rw[vh hc p f ds acc (fun e he=>hq e (aag _ he)) (fun e he=>hg e (aag _ he)),aeI hp]
def lV {cap:BBJ}{g:GD}{S:SS}{ts:List D}(hc:d8 S cap=some (ts.map U.t)) (f:D->D) (ds acc:List D) (hg:∀d∈ds,g (AAA d::ts.map fun x=>AAA x)=some (f d,AAA d::ts.map fun x=>AAA x)):
  bU cap cj g ds S acc=some (acc++ds.map f,S):=by
 rw[vh hc (fun _=>true) f ds acc (fun _ _=>rfl) (fun d hd _=>hg d hd),List.filter_eq_self.mpr (fun _ _=>rfl)]
@[simp] theorem Xo (cap:BBJ) (gi:GI) (q:GT) (g:GD) (S:SS):fR cap gi q g S=(gi S).bind fun p=>if p.1.length<=100000 then(bU cap q g p.1 p.2 []).map fun r=>(.m (.lst r.1),r.2) else none:=rfl
def dQ (g:GD) (S:SS):iY g S=(g S).bind fun p=>match p.1 with|.tup ds=>some (ds,p.2)|.lst ds=>some (ds,p.2)|.str z=>some (z.cps.toList.map fun c=>.str ⟨#[c]⟩,p.2)|_=>none:=rfl
theorem tH {α:Type}(f:α->Bool):∀ds:List α,kB (ds.map fun d=>.bl (f d))=some (ds.map f)
 |[]=>rfl
 |d::ds=>by simp[kB,tH f ds]
def tK {x:D}{z:Str}(h:gQ (.str z) x=true):x= .str z:=by
 cases x<;>simp[gQ] at h
 rw[h]
mutual
def Sane:D->Prop
 |.int i=>i.natAbs<10 ^ 30
 |.str z=>∀c∈z.cps.toList,c<16 ^ 8
 |.tup ds=>n5 ds
 |.lst ds=>n5 ds
 |.bQ=>True
 |.bl _=>True
def n5:List D->Prop
 |[]=>True
 |d::ds=>Sane d/\n5 ds
end
mutual
noncomputable def wD:D->Nat
 |.bQ=>6
 |.bl _=>6
 |.int _=>40
 |.str z=>10*z.length+2
 |.tup ds=>HW ds+4
 |.lst ds=>HW ds+4
noncomputable def HW:List D->Nat
 |[]=>0
 |d::ds=>wD d+2+HW ds
end
def Ht (s:String):(Str.ofString s).length=s.length:=PySem.ofString_length s
theorem EV:∀(ts:BBB) (k:Nat) (acc:Str),(textFrom k acc ts).length<=acc.length+piled ts
 |[],k,acc=>aaj _
 |t::ts,k,acc=>by
  have ih:=EV ts (k+1) (acc++(if k > 0 then ", " else "":String)++t);have e:(acc++(if k > 0 then ", " else "":String)++t).length<=acc.length+2+t.length:=by
   rw[adK,adK];split
   ·show acc.length+2+t.length<=_;lia
   ·show acc.length+0+t.length<=_;lia
  rw[piled_cons];show(textFrom (k+1) _ ts).length<=_;lia
mutual
theorem shown_le:∀d:D,Sane d->(toPy d).shown.length<=wD d
 |.bQ,_=>by show(Str.ofString "None").length<=6;decide
 |.bl b,_=>by cases b<;>(show(Str.ofString _).length<=6;decide)
 |.int i,h=>by
  show(Str.ofString (toString i)).length<=40;rw[Ht];exact aaC (int_text_length_le10 (k:=30) (by decide) h) (by decide)
 |.str z,h=>PySem.StrLaws.reprText_len z h
 |.tup ds,h=>by
  have k:=tM ds h;show(tupleText (PyData.shownAll (fc ds))).length<=HW ds+4;unfold tupleText;rw[adK,adK];have e1:("(":Str).length=1:=rfl;have e2:((if(PyData.shownAll (fc ds)).length == 1 then ",)" else ")":String):Str).length<=2:=by split<;>decide
  by_cases hn:PyData.shownAll (fc ds)=[]
  ·rw[hn] at e2 ⊢;have e3:(Str.join ", " []).length=0:=rfl;lia
  ·have:=join_length_add _ hn;lia
 |.lst ds,h=>by
  have k:=tM ds h;show(listText (PyData.shownAll (fc ds))).length<=HW ds+4;unfold listText;rw[adK];have e1:=EV (PyData.shownAll (fc ds)) 0 "[";have e2:("[":Str).length=1:=rfl;have e3:("]":Str).length=1:=rfl;lia
theorem tM:∀ds:List D,n5 ds->piled (PyData.shownAll (fc ds))<=HW ds
 |[],_=>aaj _
 |d::ds,h=>by
  show piled ((toPy d).shown::PyData.shownAll (fc ds))<=wD d+2+HW ds;rw[piled_cons];have:=shown_le d h.1;have:=tM ds h.2;lia
end
mutual
theorem uL:∀d:D,Sane d->(toPy d).showable=true
 |.bQ,_=>rfl
 |.bl b,_=>rfl
 |.int i,h=>by
  show decide (i.natAbs.log2<1920)=true;rw[aaY];by_cases hz:i.natAbs=0
  ·rw[hz];decide
  ·exact(aeP hz).mpr (adR h (aas (show(10:Nat) ^ 30<2 ^ 100 by decide) (ab9 (by decide) (by decide))))
 |.str z,_=>rfl
 |.tup ds,h=>by show PyData.showableAll (fc ds)=true;exact mO ds h
 |.lst ds,h=>by show PyData.showableAll (fc ds)=true;exact mO ds h
theorem mO:∀ds:List D,n5 ds->PyData.showableAll (fc ds)=true
 |[],_=>rfl
 |d::ds,h=>by
  show((toPy d).showable && PyData.showableAll (fc ds))=true;rw[uL d h.1,mO ds h.2];rfl
end
mutual
theorem depth_eq:∀d:D,(toPy d).depth=bA d
 |.bQ=>rfl
 |.bl _=>rfl
 |.int _=>rfl
 |.str _=>rfl
 |.tup ds=>by show PyData.depthAll (fc ds)+1=bf ds+1;rw[tN ds]
 |.lst ds=>by show PyData.depthAll (fc ds)+1=bf ds+1;rw[tN ds]
theorem tN:∀ds:List D,PyData.depthAll (fc ds)=bf ds
 |[]=>rfl
 |d::ds=>by show max (toPy d).depth (PyData.depthAll (fc ds))=max (bA d) (bf ds);rw[depth_eq d,tN ds]
end
theorem n5.of:∀{ds:List D},(∀d∈ds,Sane d)->n5 ds
 |[],_=>True.intro
 |d::ds,h=>⟨h d aak,n5.of fun e he=>h e (aag _ he)⟩
def Ce {ds:List D}(h:∀d∈ds,bA d<=n):bf ds<=n:=by
 induction ds with
 |nil=>exact aaM _
 |cons d ds ih=>
  show max (bA d) (bf ds)<=n;have:=h d aak;have:=ih fun e he=>h e (aag _ he);lia
structure Good (n k:Nat) (d:D):Prop where
 g8:Sane d
 w:wD d<=n
 dep:bA d<=k
def Good.mono {k n' k':Nat}{d:D}(h:Good n k d) (a:n<=n') (b:k<=k'):Good n' k' d:=⟨h.g8,aaC h.w a,aaC h.dep b⟩
noncomputable def Aw (n:Nat):FM
 |[.s ns]=>if ns.length<=n then some (.t (.bl true),[]) else none
 |_=>none
def QX {P:Program}{w:World}{mg:AAF}{base:Heap}{f:Addr}{fd:FuncData}{k:Nat}{ps:BBB}{fm:FM}(h:∀us,fm us=none):j7 P w K mg base yE n f fd ps (spT K k fm):=by
 have no:∀vs H Q E,¬spT K k fm vs H Q E:=fun vs H Q E ⟨_,F,us,r,outs,_,_,_,e,_⟩=>by rw[h us] at e;cases e
 exact⟨fun vs H Q E h=>absurd h (no vs H Q E),fun A outer s H args us vs Q E _ _ _ _ h=>absurd h (no vs H Q E)⟩
def QY {H:Hp}{a:Addr}{ns:BBD}{E:XK}(hl:ns.length<=n) (hO:Mg H) (hS:lE K H a (ns.map V.int)):spT K 1 (Aw n) [.ref a] H (fun v _=>v= .bl true) E:=by
 have sc:Mq K H a ns:=by
  rcases hS with(h|h)|h
  ·rcases hO a with z|⟨o,xs,z⟩
   ·rw[h] at z;cases z
   ·rw[h] at z;cases z
  ·exact .inl h
  ·exact .inr h
 exact⟨rfl,fun _=>none,[.s ns],.t (.bl true),[],(fun b o z=>by cases z),.cons ⟨a,rfl,sc⟩ .nil,abp,by simp[Aw,hl],fun v F' H' _ r=>ji r⟩
end Sw
end
section
namespace L2
open PySem PySem.Spec PyProof.Rows
variable {x:Str}{st:Stmt}{od an:BBN}{osl:Array (BBP)}{doc cdv:Value}{N ps:BBB}
section
variable {X:Cx}{e elt iter:Expr}{ifs:BBC}{b:Expr}{g:GE}{gd gb:GD}{gi:GI}{q:GT}{x y:Str}{p pos pos' px py spos:Pos}{k:Nat}{scope:Scope}{cl:List (Str×Addr)}{bE:BBB}{cap:BBJ}
def zs (hN:X.N.Nodup) (i:Nat) (he:JE X e g) (hi:X.N[i]? =some x:=by rfl) (hx:Loc X.env.scope x:=by first|exact Or.inl rfl|exact Or.inr rfl) (hs:swapsWith e (some (.Name x pos')) pos.line X.env=pure false:=by rfl)
  (hf:X.fn x=true\/X.env.scope.names.lookup x=some .local:=by first|exact .inl rfl|exact .inr rfl):JS X (.Assign [.Name x pos'] e pos) (cD i g):=Qq hN hi hx he hs hf
def zg (hN:X.N.Nodup) (i:Nat) (hi:X.N[i]? =some x:=by rfl) (hx:Loc X.env.scope x:=by first|exact Or.inl rfl|exact Or.inr rfl) (hf:X.fn x=true\/X.env.scope.names.lookup x=some .local:=by first|exact .inl rfl|exact .inr rfl):JG X (.Name x pos) (bName i):=Mu hN hi hx hf
def zc (hN:X.N.Nodup) (i:Nat) (T:dz X x bE cap scope cl) (hi:JI X (.Name x px) iter gi) (ht:∀C s H fp,Qz (cg X (x::bE) scope cl C s H fp) ifs q) (he:∀C s H fp,JD (cg X (x::bE) scope cl C s H fp) elt gd)
  (hy:X.N[i]? =some y:=by rfl) (hx:Loc X.env.scope y:=by first|exact Or.inl rfl|exact Or.inr rfl) (hc:X.calm=true:=by rfl)
  (hsw:swapsWith (.ListComp elt [⟨.Name x px,iter,ifs,0⟩] scope pos) (some (.Name y py)) spos.line X.env=pure true:=by rfl) (hf:X.fn y=true\/X.env.scope.names.lookup y=some .local:=by first|exact .inl rfl|exact .inr rfl)
  (hs:∀x,foldedSetIterable iter X.env x=pure x:=by intro _;rfl):JS X (.Assign [.Name y py] (.ListComp elt [⟨.Name x px,iter,ifs,0⟩] scope pos) spos) (cD i (fR cap gi q gd)):=Jv hN hy hx T hc hi ht he hsw hf hs
def ys (hr:fE k X.A) (i:Nat) (hb:JD X b gb) (hs:pA b:=by first|(intro _ _;rfl)) (hN:X.N[i]? =some x:=by rfl) (hv:qj X.env.scope x:=by first|exact Or.inl rfl|exact Or.inr (Or.inl rfl)|exact Or.inr (Or.inr rfl))
  (hd:BBT x:=by decide) (hcd:BBU x:=by decide):JD X (.Subscript (.Name x px) b pos) (eG i gb):=QB (nM hr) hb hs hN hv hd hcd
def jv (i:Nat) (hN:X.N[i]? =some x:=by rfl) (hv:qj X.env.scope x:=by first|exact Or.inl rfl|exact Or.inr (Or.inl rfl)|exact Or.inr (Or.inr rfl)) (hd:BBT x:=by decide)
  (hcd:BBU x:=by decide):JD X (.Name x pos) (eF (aB i)):=(bh i hN hv hd hcd).d
def cp (h1:∀y∈scope.names,y.2≠.free:=by decide) (h2:∀y∈scope.names,y.2≠.cell:=by decide) (h3:scope.kind= .function:=by rfl) (h4:∀y∈scope.names,y.2= .local->scope.names.lookup y.1=some .local:=by decide) (h5:scope.names.lookup x=some .local:=by rfl):
  dz X x [] [] scope []:=Du h1 h2 h3 h4 h5
def cc {c:Addr}(i:Nat) (clos:closureFor scope X.env=pure [(y,c)]:=by rfl) (kh:∀z∈scope.names,z.2≠.cell:=by decide) (kind:scope.kind= .function:=by rfl) (names:∀z∈scope.names,z.2= .local->scope.names.lookup z.1=some .local:=by decide)
  (loc:scope.names.lookup x=some .local:=by rfl) (hc:X.env.cells.lookup y=some c:=by rfl) (only:∀z∈scope.names,z.2= .free->z.1=y:=by decide) (ne:x≠y:=by decide) (hN:X.N[i]? =some y:=by rfl) (vis:X.env.scope.names.lookup y=some .cell:=by rfl) (rel:(relabel scope X.env).names.lookup y=some .cell:=by rfl):
  dz X x [y] [i] scope [(y,c)]:=JH clos kh kind names loc hc only ne hN vis rel
def cs (bE:BBB) (cap:BBJ) (clos:closureFor scope X.env=pure cl:=by rfl) (kh:∀z∈scope.names,z.2≠.cell:=by decide) (kind:scope.kind= .function:=by rfl) (names:∀z∈scope.names,z.2= .local->scope.names.lookup z.1=some .local:=by decide)
  (loc:scope.names.lookup x=some .local:=by rfl) (hc:cl.map (fun p=>X.env.cells.lookup p.1)=cl.map (fun p=>some p.2):=by rfl) (only:∀z∈scope.names,z.2= .free->z.1∈bE:=by decide) (hcl:cl.map (·.1)=bE.reverse\/cl.map (·.1)=bE:=by first|exact Or.inl rfl|exact Or.inr rfl) (nd:(x::bE).Nodup:=by decide)
  (slot:cap.map (fun i=>X.N[i]?)=bE.map some:=by rfl) (vis:bE.map (fun n=>X.env.scope.names.lookup n)=bE.map fun _=>some .cell:=by rfl) (rel:bE.map (fun n=>(relabel scope X.env).names.lookup n)=bE.map fun _=>some .cell:=by rfl):
  dz X x bE cap scope cl:=DM clos kh kind names loc hc only hcl nd slot vis rel
end
section
variable {P:Program}{w:World}{K:AAD}{mg:AAF}{base:Heap}{h:Heap}
structure Df (K:AAD) (mg:AAF) (x:Str) (st:Stmt):Prop where
 ex:∃f fd,Lz K x x st f fd/\mg x=some (.ref f)
def VF {f:Addr}{oc:Value}{kV pm ct:Value}(X:K.In h) (G:h.Ns mainGlobals mg) (a:PySem.W.nsIn K mainGlobals x=some (some (.ref f)))
  (l:K.lookup f=some ⟨oc,od,.func (PySem.W.fnOf x x (kN st) (e8 st) (aQ st) .none kV doc pm an cdv ct),osl⟩) (c:PySem.W.codeIn K cdv x=true) (k:PySem.W.keepIn K (.ref f)=true):Df K mg x st:=
 ⟨_,_,IZ l c k,aeT X G a⟩
structure yg (P:Program) (w:World) (K:AAD) (mg:AAF) (base:Heap) (n:Nat) (x:Str) (ps:BBB) (fm:FM):Prop where
 ex:∃a d,j7 P w K mg base yE n a d ps (spT K ps.length fm)/\Binds K d ps []/\PySem.W.keepIn K (.ref a)=true/\mg x=some (.ref a)
def yg.mono {j k:Nat}{x:Str}{ps:BBB}{fm:FM}(c:yg P w K mg base j x ps fm) (h:j<=k):yg P w K mg base k x ps fm:=
 let⟨a,d,G,r⟩:=c.ex;⟨a,d,G.mono h,r⟩
def Bd (x:Str) (st:Stmt) (ps:BBB):Prop:=∀(kV doc pm:Value) (an:BBN) (cdv ct:Value) (us:AAL),us.length=ps.length->bindArgs (PySem.W.fnOf x x (kN st) (e8 st) (aQ st) .none kV doc pm an cdv ct) ⟨us,[]⟩=pure (ps.zip us)
def sI {sc:Scope}(a:sc.kind= .function:=by rfl) (b:sc.isCoroutine=false:=by rfl) (c:sc.isGenerator=false:=by rfl) (d:N.Nodup:=by decide +kernel) (e:N.take ps.length=ps:=by rfl)
  (f:∀x∈ps,sc.names.lookup x=some .local\/sc.names.lookup x=some .cell:=by decide +kernel) (g:∀y∈sc.names,y.2≠.free:=by decide +kernel):bG N ps sc:=⟨a,b,c,d,e,f,g⟩
def EW {k:Nat}{fm:FM}{g:GS}(D:Df K mg x st) (Sc:bG N ps (aQ st))
  (hf:∀us r,fm us=some r->bL N.length g us=some r)
  (hb:∀(f:Addr) (cdv:Value) (A:Around) (outer:BBF) (s:Shared) (H:Hp) (E:XK),fE k (A.deeper (envOfC x (aQ st) s.heap.objs.size f cdv))->JB (vB yE P w K mg base N x (aQ st) f cdv A outer s H E).LS (e8 st) g)
  (bd:Bd x st ps:=by intro _ _ _ _ _ _ us hl;rcases us with _|⟨_,_|⟨_,_|⟨_,_|⟨_,_|⟨_,_|⟨_,_|⟨_,_⟩⟩⟩⟩⟩⟩⟩<;>first|rfl|cases hl):yg P w K mg base (k+1) x ps fm:=by
 obtain⟨f,fd,F,m⟩:=D.ex;exact⟨f,fd,okT F Sc (hb f) hf,F.binds bd,F.kp,m⟩
end
section
variable {X:Cx}{e:Expr}{es:BBC}{gu:GU}{x:Str}{p pos:Pos}{k j:Nat}{ps:BBB}{fm:FM}
def jc (c:yg X.prog X.w X.K X.mg X.base j x ps fm) (hr:fE k X.A) (ha:JU X (e::es) gu) (hj:j<=k:=by lia) (hg:Gl X x:=by rfl) (hn:(e::es).length=ps.length:=by rfl)
  (hdb:BBT x:=by decide) (he:starEach (e::es) X.env=(false,eval e X.env)::starEach es X.env:=by rfl) (hpl:(backTo pos (starEach es X.env)).any (·.1)=false:=by rfl):
  JE X (.Call (.Name x p) (e::es) [] pos) (br fm gu):=by
 obtain⟨a,d,G,b,kp,m⟩:=c.ex;exact Mv (G.mono hj) hr hg m kp b ha hn hdb he hpl
end
section
variable {P:Program}{w:World}{K:AAD}{mg:AAF}{base:Heap}{h:Heap}{C:Addr}{m q x:Str}{st:Stmt}{ps:BBB}{fm:FM}
def MU {n:Nat}(D:Df K mg x st) (z:∀us,fm us=none) (bd:Bd x st ps:=by intro _ _ _ _ _ _ us hl;rcases us with _|⟨_,_|⟨_,_|⟨_,_|⟨_,_|⟨_,_|⟨_,_|⟨_,_⟩⟩⟩⟩⟩⟩⟩<;>first|rfl|cases hl):yg P w K mg base n x ps fm:=by
 obtain⟨f,fd,F,m⟩:=D.ex;exact⟨f,fd,Sw.QX z,F.binds bd,F.kp,m⟩
structure Ax (K:AAD) (C:Addr) (m q:Str) (st:Stmt):Prop where
 ex:∃f fd,Lz K m q st f fd/\Meth K C m f
def QZ {f:Addr}{oc:Value}{kV pm ct:Value}(a:PySem.W.findIn K (.ref C) m=some (some (.ref f)))
  (l:K.lookup f=some ⟨oc,od,.func (PySem.W.fnOf m q (kN st) (e8 st) (aQ st) .none kV doc pm an cdv ct),osl⟩) (c:PySem.W.codeIn K cdv q=true) (k:PySem.W.keepIn K (.ref f)=true) (y:PySem.W.isFn K (.ref f)=true):Ax K C m q st:=
 ⟨_,_,IZ l c k,a,y,k⟩
def BdM (x q:Str) (st:Stmt) (ps:BBB):Prop:=∀(kV doc pm:Value) (an:BBN) (cdv ct:Value) (us:AAL),us.length=ps.length->bindArgs (PySem.W.fnOf x q (kN st) (e8 st) (aQ st) .none kV doc pm an cdv ct) ⟨us,[]⟩=pure (ps.zip us)
structure S8 (K:AAD) (mg:AAF) (x:Str) (C:Addr):Prop where
 nm:mg x=some (.ref C)
 mks:PySem.W.makesIn K C=true
 kp:PySem.W.keepIn K (.ref C)=true
def Q0 (X:K.In h) (G:h.Ns mainGlobals mg) (a:PySem.W.nsIn K mainGlobals x=some (some (.ref C))) (b:PySem.W.makesIn K C=true) (c:PySem.W.keepIn K (.ref C)=true):S8 K mg x C:=⟨aeT X G a,b,c⟩
end
def Inv.gh {X:Cx}{pins:AAG}{σ σ':St}{H:Hp}{s:Shared}(I:Inv X pins σ H s) (hl:σ'.length=σ.length) (h:∀(i:Nat) x,X.N[i]? =some x->qj X.env.scope x->σ'[i]? =σ[i]?):Inv X pins σ' H s:=
 ⟨I.ok,I.os,I.bare,I.base,let⟨m,a,b⟩:=I.loc;⟨m,a,fun i x v h1 h2 h3=>b i x v h1 (by rw[<-h i x h1 h3];exact h2) h3⟩,I.cell,I.free,I.kM,I.pin,I.hok,by rw[hl];exact I.len⟩
inductive tGh (X:Cx) (t:TS) (D:Ends) (σ:St) (H:Hp):Prop
 |mk (σ':St) (hl:σ'.length=σ.length) (he:∀(i:Nat) x,X.N[i]? =some x->qj X.env.scope x->σ'[i]? =σ[i]?) (q:t D σ' H)
def xO.gh {X:Cx}{st:BBH}{t:TS}(h:xO X st t):xO X st (tGh X t):=fun pins s σ H D I q=>by
 obtain⟨σ',hl,he,q⟩:=q;exact h pins s σ' H D (I.gh hl he) q
def Z9 (K:AAD) (n ng:Nat) (f:FM):Sp:=fun vs H Q _=>vs.length=n/\∃gv F us r outs,gv.length=ng/\Sub F H/\Paired (GV K F H) (vs++gv) us/\(addrs (vs++gv) us).Nodup/\f us=some (r,outs)/\∀v F' H',Post F H F' H' (addrs (vs++gv) us) outs->vH H F' H' v r->Q v H'
def J5 {sc:Scope}{vs gv:List V}(hl:vs.length=ps.length) (hn:ps.length+gv.length<=N.length) (hg:∀x∈(N.drop ps.length).take gv.length,sc.names.lookup x=none):(start N (vs++gv)).length=(start N vs).length/\∀(i:Nat) x,N[i]? =some x->qj sc x->(start N (vs++gv))[i]? =(start N vs)[i]?:=by
 refine⟨by simp only[start,aaw,aai,List.length_replicate];lia,fun i x hN hv=>?_⟩;have hi:=(aau.mp hN).1;unfold start;by_cases h1:i<vs.length
 ·rw[aa3 (by simp;lia),aa3 (by simpa using h1),aaI,aaI,aa3 h1]
 ·by_cases h2:i<vs.length+gv.length
  ·have:x∈(N.drop ps.length).take gv.length:=by
    refine aaW (i:=i-ps.length) ?_;rw[List.getElem?_take,if_pos (by lia),List.getElem?_drop,<-hl,Nat.add_sub_cancel' (by lia)];exact hN
   have:=hg x this;rcases hv with z|z|z<;>(rw[this] at z;cases z)
  ·rw[acw (by simp;lia),acw (by simp;lia),acH,acH,if_pos (by simp;lia),if_pos (by simp;lia)]
section
variable {P:Program}{w:World}{K:AAD}{mg:AAF}{base:Heap}
def aaa {qual:Str}{f:Addr}{fd:FuncData}{k ng:Nat}{fm:FM}{g:GS}(F:Lz K x qual st f fd) (Sc:bG N ps (aQ st)) (hn:ps.length+ng<=N.length) (hgs:∀x∈(N.drop ps.length).take ng,(aQ st).names.lookup x=none)
  (hb:∀(cdv:Value) (A:Around) (outer:BBF) (s:Shared) (H:Hp) (E:XK),fE k (A.deeper (envOfC qual (aQ st) s.heap.objs.size f cdv))->JB (vB yE P w K mg base N qual (aQ st) f cdv A outer s H E).LS (e8 st) g)
  (hf:∀us r,fm us=some r->bL N.length g us=some r):j7 P w K mg base yE (k+1) f fd ps (Z9 K ps.length ng fm):=by
 refine F.ok Sc (fun vs H Q E h=>h.1) fun cdv A outer s H vs Q E hr h=>?_;obtain⟨hlen,gv,F0,us,r,outs,gl,sb,ar,nd,hfm,q⟩:=h;have hrun:=hf us (r,outs) hfm;have J:=hb cdv A outer s H E hr;subst gl;obtain⟨s1,s2⟩:=J5 (sc:=aQ st) hlen hn hgs;refine⟨_,(J.h ⟨lent (vs++gv) us,F0,H⟩).gh,start N (vs++gv),s1,s2,?_⟩;have R0:=lJ sb ar nd N rfl;obtain⟨o,ho,hrun⟩:=aj hrun;refine⟨_,F0,o,R0,ho,?_⟩;have post:=post_of ar;cases o with
 |bk S'=>cases hrun
 |ct S'=>cases hrun
 |nx S'=>
  obtain⟨os,h1,h2⟩:=au (show(aT us S').map _=some (r,outs) from hrun);cases h2;exact fun σ' F' H' R' le=>q .bQ F' H' (post S' σ' F' H' outs R' h1) .bQ
 |rt u S'=>
  cases u with
  |b o=>cases hrun
  |v i=>cases hrun
  |s i=>cases hrun
  |f i=>cases hrun
  |x cx kx=>cases hrun
  |t d=>
   obtain⟨os,h1,h2⟩:=au (show(aT us S').map _=some (r,outs) from hrun);cases h2;exact fun v σ' F' H' R' le rr=>q v F' H' (post S' σ' F' H' outs R' h1) rr
  |m o=>
   obtain⟨os,h1,h2⟩:=au (show(aT us S').map _=some (r,outs) from hrun);cases h2;exact fun v σ' F' H' R' le rr=>q v F' H' (post S' σ' F' H' outs R' h1) (by obtain⟨a,e,h0,f,h,n,hB⟩:=rr;exact⟨a,e,hB,f,h⟩)
end
noncomputable def OR (gu:GU) (gh:BBJ):GU:=fun S=>(gu S).map fun p=>(p.1++gh.map U.v,p.2)
theorem rM {S:SS}:∀{a b ws:List U},bT S (a++b)=some ws->∃w2,bT S b=some w2
 |[],_,ws,h=>⟨ws,h⟩
 |u::a,b,ws,h=>by
  obtain⟨w,h1,h⟩:=aj h;obtain⟨ws',h2,h⟩:=au h;exact rM (a:=a) h2
theorem EX {K:AAD}{B:Base}{S:SS}{σ:St}{H0 F H:Hp}(R:Rel K B S σ F H):∀(gh:BBJ){ws:List U},bT S (gh.map U.v)=some ws->∃gv,gv.length=gh.length/\Paired (fun v u=>gW K B S σ H0 F H v u) gv (gh.map U.v)
 |[],_,_=>⟨[],rfl,.nil⟩
 |i::gh,ws,h=>by
  obtain⟨w,h1,h⟩:=aj h;obtain⟨ws',h2,h⟩:=au h;obtain⟨gv,l,p⟩:=EX R gh h2;obtain⟨u,o,hS,_⟩:=lI h1;obtain⟨v,k1,_⟩:=R.rep i u hS;exact⟨v::gv,congrArg Nat.succ l,.cons ⟨k1,u,hS⟩ p⟩
theorem wu {α β:Type}{P:α->β->Prop}:∀{a c:List α}{b d:List β},Paired P a b->Paired P c d->Paired P (a++c) (b++d)
 |_,_,_,_,.nil,q=>q
 |_,_,_,_,.cons p ps,q=>.cons p (wu ps q)
def ac3 (S:SS) (i:Nat) (k:Int):BBN:=match S[i]? with
 |some (some (.m (.gap es)))=>(dX es k).bind Sum.getRight?
 |some (some (.b (.gap es)))=>(dX es k).bind Sum.getRight?
 |_=>none
noncomputable def VG (c:Addr) (h:List D->MO->Option (D×MO)) (args:List D):MO->Option (D×MO)
 |.lat c' ds=>if c'=c then match h args (.lst ds) with
  |some (d,.lst ds')=>some (d,.lat c ds')
  |_=>none else none
 |_=>none
noncomputable def EY (S:SS) (j:Nat) (c:Addr):Bool:=match S[j]? with
 |some (some (.m (.lat c' _)))=>c' == c
 |some (some (.b (.lat c' _)))=>c' == c
 |_=>false
def J6 {K:AAD}{B:Base}{S:SS}{σ:St}{F H:Hp}{j:Nat}{c:Addr}(R:Rel K B S σ F H) (h:EY S j c=true):σ[j]? =some (some (.ref c))/\∃vs,H c=some (.lst vs):=by
 unfold EY at h;split at h
 ·rename_i c' ds e;obtain⟨v,k1,a,rfl,f,vs,⟨rfl,k2⟩,k3⟩:=R.rep j _ e;cases eq_of_beq h;exact⟨k1,vs,k2⟩
 ·rename_i c' ds e;obtain⟨v,k1,a,rfl,f,vs,⟨rfl,k2⟩,k3⟩:=R.rep j _ e;cases eq_of_beq h;exact⟨k1,vs,k2⟩
 ·cases h
end L2
end
section
namespace L2
open PySem PySem.Spec PyProof.Rows PySem.Calls PyProof.V
def leX (a b:Str):Prop:=¬b.cps.toList<a.cps.toList
noncomputable instance Xp (a b:Str):Decidable (leX a b):=inferInstanceAs (Decidable (¬b.cps.toList<a.cps.toList))
def J7 {a b:Str}(h1:leX a b) (h2:leX b a):a=b:=by
 have:=List.le_antisymm (List.not_lt.mp h1) (List.not_lt.mp h2);obtain⟨⟨x⟩⟩:=a;obtain⟨⟨y⟩⟩:=b;have:x=y:=this;rw[this]
end L2
end
section
namespace L2
open PySem PySem.Spec PyProof.Rows
section
variable {S:SS}{σ:St}
def tR {j:Nat}{u:U}{c a:Addr}(h:cF (S.set j (some u)) (σ.set j (some (.ref c))) a):a=c\/cF S σ a:=by
 obtain⟨i,w,h1,hm,h2⟩:=h;rcases get_set h1 with⟨rfl,_,_⟩|⟨ne,q⟩
 ·rcases get_set h2 with⟨_,z,_⟩|⟨ne,_⟩
  ·cases z;exact .inl rfl
  ·exact absurd rfl ne
 ·rw[aaJ ne] at h2;exact .inr ⟨i,w,q,hm,h2⟩
end
open Classical in
noncomputable def wz (f:Addr->Addr->Option Out):Option Out:=if h:∃r,∀c d,f c d=some r then some (Classical.choose h) else none
def Cf {f:Addr->Addr->Option Out}{r:Out}(h:wz f=some r) (c d:Addr):f c d=some r:=by
 unfold wz at h;split at h
 ·rename_i hx;cases h;exact acp hx c d
 ·cases h
def yP {f:Addr->Addr->Option Out}{r:Out}(h:∀c d,f c d=some r):wz f=some r:=by
 unfold wz;rw[dif_pos ⟨r,h⟩];have:=acp (⟨r,h⟩:∃r,∀c d,f c d=some r) 0 0;rw[h 0 0] at this;exact congrArg some (aaV this).symm
section
variable {σ:St}{i j k:Nat}{x:List D}
def J8 {N:BBB}{sc:Scope}{c d p:Addr}{zj zk:Str}(hj:N[j]? =some zj) (hk:N[k]? =some zk) (lj:sc.names.lookup zj=none) (lk:sc.names.lookup zk=none):
  (((σ.set j (some (.ref c))).set k (some (.ref d))).set i (some (.ref p))).length=(σ.set i (some (V.ref p))).length/\∀(m:Nat) x,N[m]? =some x->qj sc x->(((σ.set j (some (.ref c))).set k (some (.ref d))).set i (some (.ref p)))[m]? =(σ.set i (some (V.ref p)))[m]?:=by
 refine⟨by simp only[ab6],fun m x hm hv=>?_⟩;have nj:j≠m:=fun e=>by
  subst e;rw[hj] at hm;cases hm;rcases hv with z|z|z<;>(rw[lj] at z;cases z)
 have nk:k≠m:=fun e=>by
  subst e;rw[hk] at hm;cases hm;rcases hv with z|z|z<;>(rw[lk] at z;cases z)
 by_cases e:i=m
 ·subst e;by_cases hl:i<σ.length
  ·rw[abl (by simpa using hl),abl hl]
  ·rw[abF (by simpa using hl),abF (by simpa using hl)]
 ·rw[aaJ e,aaJ e,aaJ nk,aaJ nj]
end
section
variable {X:Cx}
def Hu {x y:Int}(hx:0<=x) (hy:0<=y):Builtin.bitOr x y=((x.toNat ||| y.toNat:Nat):Int):=by
 rw[bitOr_and,bitAnd_pp hx hy];have:=nat_or_add_and x.toNat y.toNat;lia
def J9:List D->Option U:=xQ (fun i j=>decide (0<=i) && decide (0<=j)) fun i j=>.int ((i.toNat ||| j.toNat:Nat):Int)
def EZ:xP X (binaryOp .BitOr) J9:=m9 Ug (fun i j H Q c q=>⟨i,j,rfl,rfl,by
 simp only[aaH,aaY] at c;show Q (.int (Builtin.bitOr i j)) H;rw[Hu c.1 c.2];exact q⟩) fun _ _=>rfl
def wA:List D->Option U:=xQ (fun i j=>decide (0<=i) && decide (0<=j)) fun i j=>.int ((i.toNat &&& j.toNat:Nat):Int)
def wB:xP X (binaryOp .BitAnd) wA:=m9 P0 (fun i j H Q c q=>⟨i,j,rfl,rfl,by
 simp only[aaH,aaY] at c;show Q (.int (Builtin.bitAnd i j)) H;rw[bitAnd_pp c.1 c.2];exact q⟩) fun _ _=>rfl
def DU:List D->Option U:=xQ (fun i j=>decide (i=1) && (decide (0<=j) && decide (j<=100000))) fun i j=>.int ((2 ^ j.toNat:Nat):Int)
def Ay:xP X (binaryOp .LShift) DU:=m9 PY (fun i j H Q c q=>by
 simp only[aaH,aaY] at c;obtain⟨rfl,c1,c2⟩:=c;refine⟨1,j,rfl,rfl,⟨c1,by lia,by decide⟩,?_⟩;show Q (.int (1*2 ^ j.toNat)) H;rw[Int.one_mul,two_pow_cast];exact q) fun _ _=>rfl
def Q2:List D->Option U:=xQ (fun i j=>decide (0<=i) && (decide (0<=j))) fun i j=>.int ((i.toNat / 2 ^ j.toNat:Nat):Int)
def MV:xP X (binaryOp .RShift) Q2:=m9 PZ (fun i j H Q c q=>by
 simp only[aaH,aaY] at c;refine⟨i,j,rfl,rfl,c.2,?_⟩;have e:i / 2 ^ j.toNat=((i.toNat / 2 ^ j.toNat:Nat):Int):=by
  obtain⟨n,rfl⟩:=Int.eq_ofNat_of_zero_le c.1;rw[two_pow_cast];rfl
 show Q (.int (i / 2 ^ j.toNat)) H;rw[e];exact q) fun _ _=>rfl
end
end L2
end
section
namespace L2
open PySem PySem.Spec PyProof.Rows PySem.Calls PyProof.V
open PySem.W (KasT kas_asc kas_desc kas_tail3 kas_descPart kas_count kas_place kas_bin kas_sort kas_rev kas_item kas_st kas_cmp kas_runs kasC)
variable {p:Array Nat}{r:Nat}
section
variable {α β:Type}{n:Nat}
noncomputable def iZ (Bp:Nat->Nat->Bool):KasT α->α
 |.ret a=>a
 |.ask i j k=>iZ Bp (k (Bp i j))
def yQ (n:Nat) (R:α->Prop):KasT α->Prop
 |.ret a=>R a
 |.ask i j k=>i<n/\j<n/\∀b,yQ n R (k b)
theorem yQ.go {R:α->Prop}{Bp:Nat->Nat->Bool}:∀{t:KasT α},yQ n R t->R (iZ Bp t)
 |.ret _,h=>h
 |.ask i j k,h=>yQ.go (t:=k (Bp i j)) (h.2.2 _)
theorem yQ.bind {R:α->Prop}{R':β->Prop}{f:α->KasT β}(hf:∀a,R a->yQ n R' (f a)):∀{t:KasT α},yQ n R t->yQ n R' (t.bind f)
 |.ret a,h=>hf a h
 |.ask i j k,h=>⟨h.1,h.2.1,fun b=>yQ.bind hf (t:=k b) (h.2.2 b)⟩
theorem Ka {cmp:Nat->Nat->(Bool->Shared->Prop)->Shared->Prop}{Bp:Nat->Nat->Bool}{R:α->Prop}{G:α->Shared->Prop}(hc:∀i j C s,i<n->j<n->C (Bp i j) s->cmp i j C s):∀{t:KasT α}{s:Shared},yQ n R t->G (iZ Bp t) s->t.kasWp cmp G s
 |.ret _,_,_,g=>g
 |.ask i j k,s,h,g=>hc i j _ s h.1 h.2.1 (Ka hc (t:=k (Bp i j)) (h.2.2 _) g)
def d7 (n:Nat) (p:Array Nat):Prop:=p.toList.Perm (List.range n)
def d7.lt (h:d7 n p) (hn:0<n) (i:Nat):p.getD i 0<n:=by
 by_cases hi:i<p.size
 ·have e:p.getD i 0=p[i]:=by simp[Array.getD,hi]
  rw[e];have:p[i]∈p.toList:=by simp
  exact aa6.mp (h.mem_iff.mp this)
 ·have e:p.getD i 0=0:=by simp[Array.getD,hi]
  rw[e];exact hn
def d7.rev (h:d7 n p) (i j:Nat):d7 n (kas_rev p i j):=(ael.mp (mirror_perm p i j _)).trans h
def d7.bub (h:d7 n p) (i j:Nat):d7 n (bubble p i j):=(ael.mp (bubble_perm p i j)).trans h
theorem Kc {p:Array Nat}(h:d7 n p) (hn:0<n):∀(f m:Nat),yQ n (fun _=>True) (kas_asc p f m)
 |0,_=>trivial
 |f+1,m=>⟨h.lt hn _,h.lt hn _,fun b=>by
   cases b
   ·exact Kc h hn f (m+1)
   ·trivial⟩
theorem Az (hn:0<n):∀(f:Nat) (p:Array Nat) (m q:Nat),d7 n p->yQ n (fun r:Array Nat×Nat×Nat=>d7 n r.1) (kas_desc f p m q)
 |0,p,m,q,h=>h
 |f+1,p,m,q,h=>⟨h.lt hn _,h.lt hn _,fun b=>by
   cases b
   ·refine⟨h.lt hn _,h.lt hn _,fun d=>?_⟩;cases d
    ·exact Az hn f p _ _ h
    ·exact h
   ·show yQ n _ (if q > 0 then _ else _);split
    ·exact Az hn f _ _ _ (h.rev _ _)
    ·exact Az hn f p _ _ h⟩
def E1 (hn:0<n){m:Nat}(h:d7 n p):yQ n (fun r:Nat×Array Nat=>d7 n r.2) (kas_tail3 m r p):=(Kc (h.rev 0 m) hn (r-m) m).bind (R':=fun r:Nat×Array Nat=>d7 n r.2) (f:=fun q=>.ret (q,kas_rev p 0 m)) fun _ _=>h.rev 0 m
def wC (hn:0<n){m:Nat}(h:d7 n p):yQ n (fun r:Nat×Array Nat=>d7 n r.2) (kas_descPart m r p):=(Az hn _ p _ _ h).bind fun a ha=>by
 split
 ·exact E1 hn (ha.rev _ _)
 ·exact E1 hn ha
def MW (hn:0<n)(h:d7 n p):yQ n (fun r:Nat×Array Nat=>d7 n r.2) (kas_count r p):=(Kc h hn _ _).bind fun m _=>by
 split
 ·exact h
 ·split
  ·refine⟨h.lt hn _,h.lt hn _,fun b=>?_⟩;cases b
   ·exact wC hn (h.rev _ _)
   ·exact h
  ·exact wC hn h
theorem AA (hn:0<n){p:Array Nat}(h:d7 n p) (k:Nat):∀(f l r:Nat),yQ n (fun _=>True) (kas_place p k f l r)
 |0,_,_=>trivial
 |f+1,l,r=>by
  unfold kas_place;split
  ·trivial
  ·refine⟨h.lt hn _,h.lt hn _,fun b=>?_⟩;cases b
   ·exact AA hn h k f _ _
   ·exact AA hn h k f _ _
theorem OS (hn:0<n):∀(f:Nat) (p:Array Nat) (k:Nat),d7 n p->yQ n (d7 n) (kas_bin f p k)
 |0,p,k,h=>h
 |f+1,p,k,h=>(AA hn h k _ _ _).bind fun l _=>OS hn f _ _ (h.bub _ _)
def tT (hn:0<n):yQ n (d7 n) (kas_sort n):=(MW hn (p:=(List.range n).toArray) (by show((List.range n).toArray).toList.Perm _;simp)).bind fun a ha=>by
 split
 ·exact OS hn _ _ _ ha
 ·exact ha
end
def kL (ks:BBJ):BBJ:=if ks.length<2 then List.range ks.length else(iZ (fun i j=>decide (ks.getD i 0<ks.getD j 0)) (kas_sort ks.length)).toList
def jY (ks:BBJ):(kL ks).Perm (List.range ks.length):=by
 unfold kL;split
 ·exact aci _
 ·exact(tT (by lia)).go
section
variable {prog:Program}{w:World}{A:Around}{E:AAE}{s:Shared}{a kS:Addr}{vs:AAL}{ks:BBJ}{keys:AAK}{e e1:Nat}{P:PySem.Fin->Shared->Prop}{g0:Heap}
def yR {st:SortSt}{out:AAL}(hk0:∀b o,g0.get? b=some o->s.heap.get? b=some o) (ga:g0.get? a=none) (gk:g0.get? kS=none) (nk:s.heap.get? kS=some (seqObj "list" keys e)) (na:s.heap.get? a=some (seqObj "list" #[] e1)) (hka:kS≠a) (hks:keys.size<64) (Vg:out.length<64)
  (hst:(arrOf st).map (·.2)=out.toArray) (hfl:failedOf st=none)
  (h:∀h' c,(∀b o,g0.get? b=some o->h'.get? b=some o)->h'.get? a=some (seqObj "list" out.toArray c)->P (.done (.ret .none)) {s with heap:=h'}):wpAny (model prog w) A (ksk_tail a false e1 (.ref kS) st) P E s:=by
 have s1:=abL s.heap kS (Obj.mapSeq fun _=>(#[]:AAK));have na1:(s.heap.update kS (Obj.mapSeq fun _=>(#[]:AAK))).get? a=some (seqObj "list" #[] e1):=(s1.2 a hka.symm).trans na;have s2:=abL (s.heap.update kS (Obj.mapSeq fun _=>(#[]:AAK))) a (Obj.mapSeq fun _=>(arrOf st).map (·.2));unfold ksk_tail
 try dsimp only
 refine aab (adg nk rfl ?_ (by rw[abC];lia) (aaM _));refine aab (wpAny_letGo ?_);refine aab (seqEpoch_at na1 rfl ?_);refine aab (adg na1 rfl ?_ (aaM _) (by show((arrOf st).map (·.2)).size<=_;rw[hst,aad,abC];lia));rw[hfl];simp only[bne_self_eq_false,ack,acu];refine wpAny_pure (h _ _ (fun b o z=>?_) (by rw[<-hst];exact adl na1 fun _=>(arrOf st).map (·.2)));have nb1:b≠kS:=fun q=>by rw[q,gk] at z;cases z
 have nb2:b≠a:=fun q=>by rw[q,ga] at z;cases z
 exact(s2.2 b nb2).trans ((s1.2 b nb1).trans (hk0 b o z))
theorem Cg:∀{xs:AAL}{ns:BBD},IntsAre xs ns->∀{i:Nat}{n:Int},ns[i]? =some n->∃t,xs[i]? =some (Value.int n t)
 |_,_,.nil,_,_,h=>by cases h
 |_,_,.cons n t r,0,_,h=>by cases h;exact⟨t,rfl⟩
 |_,_,.cons n t r,i+1,_,h=>Cg r (i:=i) h
def yS (keys:AAK) (vs:AAL) (h:keys.size=vs.length):((List.range vs.length).toArray.map (kas_item (keys.zip vs.toArray)))=keys.zip vs.toArray:=by
 apply acT;intro i;have hz:(keys.zip vs.toArray).size=vs.length:=by rw[Array.size_zip,h,aad,Nat.min_self]
 by_cases hi:i<vs.length
 ·have hi2:i<(keys.zip vs.toArray).size:=by rw[hz];exact hi
  rw[aaK hi2];simp[hi,kas_item,Array.getD];lia
 ·rw[Array.getElem?_eq_none (xs:=keys.zip vs.toArray) (by rw[hz];lia)];simp;lia
def Ke (hk0:∀b o,g0.get? b=some o->s.heap.get? b=some o) (ga:g0.get? a=none) (gk:g0.get? kS=none) (nk:s.heap.get? kS=some (seqObj "list" keys e)) (na:s.heap.get? a=some (seqObj "list" #[] e1)) (hka:kS≠a)
  (hk:IntsAre keys.toList (ks.map fun(k:Nat)=>(k:Int))) (hlen:ks.length=vs.length) (h64:vs.length<64)
  (h:∀h' c,(∀b o,g0.get? b=some o->h'.get? b=some o)->h'.get? a=some (seqObj "list" ((kL ks).map fun i=>vs.getD i Value.none).toArray c)->P (.done (.ret .none)) {s with heap:=h'}):
  wpAny (model prog w) A (ksk_end a false vs.toArray e1 (.ref kS) keys) P E s:=by
 have hsz:keys.size=vs.length:=by
  have h1:=hk.length;rw[aaL,aai] at h1;lia
 have ol:(kL ks).length=vs.length:=by rw[(jY ks).length_eq,abk,hlen]
 unfold ksk_end
 try dsimp only
 simp only[ack,acu];by_cases h2:vs.toArray.size<2
 ·rw[if_pos h2,if_pos h2];refine aab (wpAny_pure ?_);rw[StateT.run_pure];refine aab (wpAny_pure ?_)
  try dsimp only
  refine yR (out:=(kL ks).map fun i=>vs.getD i Value.none) hk0 ga gk nk na hka (by lia) (by rw[aai,ol];exact h64) ?_ rfl h;have e0:kL ks=List.range vs.length:=by unfold kL;rw[if_pos (by rw[hlen];simpa using h2),hlen]
  rw[e0];show(keys.zip vs.toArray).map (·.2)=_;apply acT;intro i;by_cases hi:i<vs.length
  ·simp[hi,hsz]
  ·simp[hi,hsz]
 ·rw[if_neg h2,if_neg h2];rw[aad] at h2;rw[ksk_kind hk (by rw[hsz];lia)];refine aab (wpAny_pure ?_);have hrun:=kas_runs (prog:=prog) (w:=w) (A:=A) (E:=E) (κ:=oneType') (it:=keys.zip vs.toArray) (n:=vs.length) (s:=s) (Q:=fun _ st' s'=>s'=s/\arrOf st'=(iZ (fun i j=>decide (ks.getD i 0<ks.getD j 0)) (kas_sort vs.length)).map (kas_item (keys.zip vs.toArray))/\failedOf st'=none)
   (G:=fun p' s'=>s'=s/\p'=iZ (fun i j=>decide (ks.getD i 0<ks.getD j 0)) (kas_sort vs.length)) (by lia) h64 (fun p' st' s' _ a1 a2 a3=>⟨a3.1,by rw[<-a3.2];exact a1,a2⟩)
   (Ka (n:=vs.length) (R:=d7 vs.length) (fun i j C s' hi hj hC=>by
    have item:∀i,i<vs.length->∃t v,kas_item (keys.zip vs.toArray) i=(Value.int (ks.getD i 0) t,v):=fun i hi=>by
     have hik:i<keys.toList.length:=by rw[aaL,hsz];exact hi
     obtain⟨t,ht⟩:∃t,keys.toList[i]? =some (Value.int (ks.getD i 0) t):=by
      exact Cg hk (by rw[aaI,aaE,aal (by rw[hlen];exact hi)];rfl)
     have hi2:i<(keys.zip vs.toArray).size:=by rw[Array.size_zip,hsz,aad,Nat.min_self];exact hi
     have hk2:i<keys.size:=by rw[hsz];exact hi
     refine⟨t,vs[i],?_⟩;unfold kas_item;have e1:keys[i]=Value.int (ks.getD i 0) t:=by
      rw[abM,aaK hk2] at ht;exact aaV ht
     have e2:(keys.zip vs.toArray).getD i (Value.none,Value.none)=(keys.zip vs.toArray)[i]:=by unfold Array.getD;rw[dif_pos hi2];rfl
     rw[e2];simp[e1]
    obtain⟨t1,v1,q1⟩:=item i hi;obtain⟨t2,v2,q2⟩:=item j hj;unfold kas_cmp;rw[q1,q2,keyLt'_oneType];refine oneLt_int ?_;have:decide (((ks.getD i 0:Nat):Int)<((ks.getD j 0:Nat):Int))=decide (ks.getD i 0<ks.getD j 0):=by simp
    rw[this];exact hC) (tT (by lia)) ⟨rfl,rfl⟩)
  have e0:kas_st oneType' (keys.zip vs.toArray) (List.range vs.length).toArray=SortSt.mk' oneType' (keys.zip vs.toArray) #[] 7 none:=by
   unfold kas_st;rw[yS keys vs hsz]
  rw[e0] at hrun;refine aab (abn hrun ?_ fun _ _ e=>e);rintro⟨⟨⟩,st'⟩ s' ⟨rfl,ha,hf⟩
  try dsimp only
  refine yR (out:=(kL ks).map fun i=>vs.getD i Value.none) hk0 ga gk nk na hka (by lia) (by rw[aai,ol];exact h64) ?_ hf h;have e1:kL ks=(iZ (fun i j=>decide (ks.getD i 0<ks.getD j 0)) (kas_sort vs.length)).toList:=by unfold kL;rw[if_neg (by lia),hlen]
  rw[ha,e1];have good:d7 vs.length (iZ (fun i j=>decide (ks.getD i 0<ks.getD j 0)) (kas_sort vs.length)):=(tT (by lia)).go;generalize iZ (fun i j=>decide (ks.getD i 0<ks.getD j 0)) (kas_sort vs.length)=p at *;apply acT;intro i;by_cases hi:i<p.size
  ·have hpi:p[i]<vs.length:=aa6.mp (good.mem_iff.mp (by simp));simp[hi,kas_item,Array.getD,hpi,hsz]
  ·simp[hi]
end
section
variable {prog:Program}{w:World}{A:Around}{E:AAE}{s:Shared}{a kS l:Addr}{vs:AAL}{ks:BBJ}{e1:Nat}{P:PySem.Fin->Shared->Prop}{g0:Heap}
def AB (g:Heap) (vs:AAL) (ks:BBJ):Prop:=∀(i:Nat) v k,vs[i]? =some v->ks[i]? =some k->∃c its,v= .ref c/\g.IsList c its/\its.size=k/\(k:Int)<2 ^ 63
def Hv (hk0:∀b o,g0.get? b=some o->s.heap.get? b=some o) (ga:g0.get? a=none) (gk:g0.get? kS=none) (nk:s.heap.get? kS=some (seqObj "list" #[] 0)) (na:s.heap.get? a=some (seqObj "list" #[] e1)) (hka:kS≠a) (hlen:ks.length=vs.length) (h64:vs.length<64) (hv:AB g0 vs ks)
  (h:∀h' tk c,(∀b o,g0.get? b=some o->h'.get? b=some o)->h'.get? a=some (seqObj "list" ((kL ks).map fun i=>vs.getD i Value.none).toArray c)->P (.done (.ret .none)) {s with heap:=h',toks:=tk}):
  wpAny (model prog w) A (ksk_rest a (.builtin "len") false vs.toArray e1 (.ref kS)) P E s:=by
 unfold ksk_rest;refine aab (adb ?_)
 first
  |rw[List.forIn_toArray]
  |(rw[<-adn];simp only[List.toList_toArray])
  |rw[<-adn]
 refine aab (ksk_fold (fun i s'=>∃h' tk kA e,s'={s with heap:=h',toks:=tk}/\(∀b o,g0.get? b=some o->h'.get? b=some o)/\h'.get? kS=some (seqObj "list" kA e)/\h'.get? a=some (seqObj "list" #[] e1)/\IntsAre kA.toList ((ks.take i).map fun(k:Nat)=>(k:Int))) vs 0 s
  ⟨s.heap,s.toks,#[],0,rfl,hk0,nk,na,by simpa using IntsAre.nil⟩ ?step ?done)
 case step=>
  rintro j x s' hx ⟨h',tk,kA,e,rfl,k1,k2,k3,hk⟩;simp only[ac8] at hk ⊢;have hj:j<vs.length:=(aau.mp hx).1;obtain⟨k,hkj⟩:∃k,ks[j]? =some k:=⟨_,aal (by lia)⟩
  obtain⟨c,its,rfl,hl,hz,hf⟩:=hv j x k hx hkj;have hz2:kA.size<=vs.length:=by
   have h1:=hk.length;rw[aaL,aai,abQ] at h1;lia
  obtain⟨o,ho,hc⟩:=hl;refine aab (wpAny_attempt (call_len_list (s:={s with heap:=h',toks:=tk}) (items:=its) ⟨o,k1 c o ho,hc⟩ (by rw[hz];exact hf) ?_))
  try dsimp only
  have s1:=abL h' kS (Obj.mapSeq (·.push (.int (its.size:Int) (tk+1))));obtain⟨c2,hc2⟩:∃c2,(h'.update kS (Obj.mapSeq (·.push (.int (its.size:Int) (tk+1))))).get? kS=some (seqObj "list" (kA.push (.int (its.size:Int) (tk+1))) c2):=⟨_,adl k2 (·.push (.int (its.size:Int) (tk+1)))⟩
  have ek:(ks.take (j+1)).map (fun(k:Nat)=>(k:Int))=(ks.take j).map (fun(k:Nat)=>(k:Int))++[(its.size:Int)]:=by rw[List.take_add_one,hkj,hz];simp
  have ea:(kA.push (Value.int (its.size:Int) (tk+1))).toList=kA.toList++[Value.int (its.size:Int) (tk+1)]:=by simp
  refine aab (adg k2 rfl ?_ (by rw[abC];lia) (aaC (Nat.le_of_eq (Array.size_push ..)) (by rw[abC];lia)));refine wpAny_pure ⟨rfl,_,_,kA.push (.int (its.size:Int) (tk+1)),c2,rfl,fun b o z=>?_,hc2,(s1.2 a hka.symm).trans k3,by rw[ea,ek];exact ksk_snoc hk⟩;exact(s1.2 b (fun q=>by rw[q,gk] at z;cases z)).trans (k1 b o z)
 case done=>
  rintro s' ⟨h',tk,kA,e,rfl,k1,k2,k3,hk⟩;have hk':IntsAre kA.toList (ks.map fun(k:Nat)=>(k:Int)):=by
   have e3:ks.take (0+vs.length)=ks:=ab1 (by lia);rw[e3] at hk;exact hk
  try dsimp only
  refine aab (abI k2 rfl ?_);exact Ke k1 ga gk k2 k3 hka hk' hlen h64 fun h3 c a1 a2=>h h3 tk c a1 a2
def Hw {n:Nat}(ho:s.heap.get? a=some (seqObj "list" vs.toArray n)) (hk0:∀b o,g0.get? b=some o->s.heap.get? b=some o) (ga:g0.get? a=none) (hg:g0.objs.size<=s.heap.objs.size) (hlen:ks.length=vs.length) (h64:vs.length<64) (hv:AB g0 vs ks)
  (h:∀h' tk c,(∀b o,g0.get? b=some o->h'.get? b=some o)->h'.get? a=some (seqObj "list" ((kL ks).map fun i=>vs.getD i Value.none).toArray c)->P (.done (.ret .none)) {s with heap:=h',toks:=tk}):
  wpAny (model prog w) A (ksk_tree a (.builtin "len") false) P E s:=by
 have ha:a<s.heap.objs.size:=aap ho;have s1:=abL s.heap a (Obj.mapSeq fun _=>(#[]:AAK));obtain⟨e1,JR⟩:∃e1,(s.heap.update a (Obj.mapSeq fun _=>(#[]:AAK))).get? a=some (seqObj "list" #[] e1):=⟨_,adl ho fun _=>#[]⟩
 have hkS:((s.heap.update a (Obj.mapSeq fun _=>(#[]:AAK))).push (seqObj "tuple" vs.toArray 0)).objs.size=s.heap.objs.size+1:=by rw[size_push',aeD]
 unfold ksk_tree;refine aab (abI ho rfl ?_);refine aab (adg ho rfl ?_ (by rw[aad,abC];lia) (aaM _));refine aab (seqEpoch_at JR rfl ?_);refine aab (wpAny_newTuple ?_ (by show vs.length<=_;rw[abC];lia));refine aab (adJ ?_ (aaM _));refine abq ?_;refine Hv (s:={s with heap:=((s.heap.update a (Obj.mapSeq fun _=>(#[]:AAK))).push (seqObj "tuple" vs.toArray 0)).push (seqObj "list" #[] 0)}) (kS:=((s.heap.update a (Obj.mapSeq fun _=>(#[]:AAK))).push (seqObj "tuple" vs.toArray 0)).objs.size)
  (fun b o z=>?_) ga (ada (by rw[hkS];lia)) (aaB _ rfl) (aac _ (aac _ JR)) (by rw[hkS];exact aez (ace ha)) hlen h64 hv h
 exact aac _ (aac _ ((s1.2 b (fun q=>by rw[q,ga] at z;cases z)).trans (hk0 b o z)))
def MX {Q:AAE}(hl:s.heap.IsList l vs.toArray) (hlen:ks.length=vs.length) (h64:vs.length<64) (hv:AB s.heap vs ks)
  (h:∀D h' tk c,s.heap.objs.size<=D->(∀b o,s.heap.get? b=some o->h'.get? b=some o)->h'.get? D=some (seqObj "list" ((kL ks).map fun i=>vs.getD i Value.none).toArray c)->Q (.ref D) {s with heap:=h',toks:=tk}):
  wpAny (model prog w) A (call (.builtin "sorted") [.ref l] [(Str.ofString "key",.builtin "len")]) Q E s:=by
 refine call_function_entry_kw kind_sorted plain_sorted entry_sorted (ksk_s1 _ _) ?_;unfold Builtin.«sorted»
 refine aab (m:=checkCount "sorted" 1 1 _) (wpAny_pure ?_);refine aab (collect_list hl ?_ (by rw[abC];lia));refine aab (adJ ?_ (by rw[abC];lia));have hsz:((s.heap.push (seqObj "list" #[] 0)).update s.heap.objs.size (Obj.mapSeq (· ++vs.toArray))).objs.size=s.heap.objs.size+1:=by
  rw[aeD,size_push']
 have Ii:(((s.heap.push (seqObj "list" #[] 0)).update s.heap.objs.size (Obj.mapSeq (· ++vs.toArray))).push (seqObj "list" vs.toArray 0)).get? (s.heap.objs.size+1)=some (seqObj "list" vs.toArray 0):=by
  rw[<-hsz];exact aaB _ rfl
 have keep:∀b o,s.heap.get? b=some o->(((s.heap.push (seqObj "list" #[] 0)).update s.heap.objs.size (Obj.mapSeq (· ++vs.toArray))).push (seqObj "list" vs.toArray 0)).get? b=some o:=fun b o q=>by
  have hlt:b<s.heap.objs.size:=aap q;rw[adF _ _ _ (by rw[hsz];exact aaF (ace hlt)),Heap.get?_update_ne _ _ _ _ (aaF hlt),adF _ _ _ (aaF hlt)];exact q
 have fr:s.heap.get? (s.heap.objs.size+1)=none:=ada (acj _);show wpAny _ _ _ _ _ {s with heap:=((s.heap.push (seqObj "list" #[] 0)).update s.heap.objs.size (Obj.mapSeq (· ++vs.toArray))).push (seqObj "list" vs.toArray 0)};rw[hsz];refine aab (abq (wpAny_call_entry_kw slot_list_sort ⟨_,Ii,rfl⟩ entry_list_sort ?body (ksk_l1 _ _)))
 case body=>
  show wpAny (model prog w) A.in1.in1 (Builtin.«list.sort» ⟨[.ref (s.heap.objs.size+1)],[(Str.ofString "key",.builtin "len")]⟩) _ _ _;rw[ksk_t4];refine Hw (g0:=s.heap) (s:={s with heap:=((s.heap.push (seqObj "list" #[] 0)).update s.heap.objs.size (Obj.mapSeq (· ++vs.toArray))).push (seqObj "list" vs.toArray 0)}) Ii keep fr (by rw[size_push',hsz];lia) hlen h64 hv fun h' tk c a1 a2=>⟨_,rfl,?_⟩
  exact wpAny_pure ⟨_,rfl,h _ h' tk c (acj _) a1 a2⟩
end
noncomputable def qb:List D->Option (BBJ)
 |[]=>some []
 |.lst xs::ds=>(qb ds).map fun ks=>xs.length::ks
 |_=>none
def rN (ks:BBJ) (ds:List D):List D:=(kL ks).map fun i=>ds.getD i .bQ
def AD:List D->Option U
 |[.lst ds]=>(qb ds).bind fun ks=>if ds.length<64 then some (.m (.lst (rN ks ds))) else none
 |_=>none
def DV {d:D}{u:U}(h:AD [d]=some u):∃ds ks,d= .lst ds/\qb ds=some ks/\ds.length<64/\u= .m (.lst (rN ks ds)):=by
 cases d with
 |lst ds=>
  obtain⟨ks,h1,h2⟩:=aj (show(qb ds).bind _=some u from h);obtain⟨h3,h4⟩:=bW h2;exact⟨ds,ks,rfl,h1,h3,h4.symm⟩
 |_=>cases h
theorem yT:∀{ds:List D}{ks:BBJ},qb ds=some ks->ks.length=ds.length
 |[],ks,h=>by cases h;rfl
 |d::ds,ks,h=>by
  cases d with
  |lst xs=>
   obtain⟨r,h1,h2⟩:=au (show(qb ds).map _=some ks from h);subst h2;rw[aaG,aaG,yT h1]
  |_=>cases h
theorem E2 {F:Hp}:∀{xs:List V}{ds:List D}{ks:BBJ},bq F xs ds->qb ds=some ks->∀(i:Nat) x k,xs[i]? =some x->ks[i]? =some k->∃a ys,x= .ref a/\Rd F a (.lst ys)/\ys.length=k
 |_,_,_,.nil,h,i,x,k,h1,_=>by cases h1
 |_,_,ks,@bq.cons _ v d vs ds r rs,h,i,x,k,h1,h2=>by
  cases d with
  |lst es=>
   obtain⟨q,g1,g2⟩:=au (show(qb ds).map _=some ks from h);subst g2;cases i with
   |zero=>
    cases h1;cases h2;cases r with
    |lst e rr=>exact⟨_,_,rfl,e,rr.length⟩
   |succ i=>exact E2 rs g1 i x k h1 h2
  |_=>cases h
section
variable {X:Cx}{a:Expr}{pos p p2 kp:Pos}{ga:GD}
theorem tU {F:Hp}{xs:List V}{ds:List D}(r:bq F xs ds):∀is:BBJ,(∀i∈is,i<ds.length)->bq F (is.map fun i=>xs.getD i .bQ) (is.map fun i=>ds.getD i .bQ)
 |[],_=>.nil
 |i::is,h=>by
  have hi:=h i aak;obtain⟨v,h1,h2⟩:=r.get (aal hi);refine .cons ?_ (tU r is fun j hj=>h j (aag _ hj));dsimp only;rw[aaE,aaE,h1,aal hi];exact h2
theorem tV {xs:List V}{us:AAL}(r:Vals xs us):∀is:BBJ,(∀i∈is,i<xs.length)->Vals (is.map fun i=>xs.getD i .bQ) (is.map fun i=>us.getD i Value.none)
 |[],_=>.nil
 |i::is,h=>by
  have hi:=h i aak;obtain⟨v,h1,h2⟩:=r.get (aal hi);refine .cons ?_ (tV r is fun j hj=>h j (aag _ hj));dsimp only;rw[aaE,aaE,h1,aal hi];exact h2
def DW (Vo:Gl X "sorted") (hm1:X.mg "sorted" =none) (U3:Gl X "len") (hm2:X.mg "len" =none) (ha:JD X a ga) (hs2:starEach [a] X.env=(false,eval a X.env)::starEach [] X.env:=by rfl):
  JE X (.Call (.Name "sorted" p) [a] [⟨some (Str.ofString "key"),.Name "len" p2,kp⟩] pos) (eP AD (ah ga aF)):=⟨fun B=>by
 rintro pins s σ H Q I ⟨S,F,u,S',R,hg,q⟩;obtain⟨⟨dl,S1⟩,h1,hg⟩:=aj hg;obtain⟨w',h2,hg⟩:=au hg;cases hg;obtain⟨⟨d,S2⟩,h3,h1⟩:=aj h1;obtain⟨⟨dr,S3⟩,h4,h1⟩:=au h1;cases h4;cases h1;obtain⟨ds,ks,rfl,hks,h64,rfl⟩:=DV h2;have kl:=yT hks;refine abW (mz I Vo hm1 ads ?_ (by decide) (by decide));refine callWith_kw (dW (gj (ha.h B) k7 hs2 pos pins s σ H (fun vs H1=>∃v F1,vs=[v]/\Rel X.K B S2 σ F1 H1/\Step S S2 σ F H F1 H1/\Rep F1 v (.lst ds)) I ⟨S,F,_,S2,R,h3,fun v F1 H1 R1 st1 r1=>⟨v,F1,rfl,R1,st1,r1⟩⟩) ?_) (by rw[hs2];rfl) (by rw[hs2];rfl);rintro us s1 ⟨vs,H1,I1,r1,v,F1,rfl,R1,st1,rd⟩;obtain⟨u',rfl,ru⟩:=vals1 r1;refine kws_cons (mz I1 U3 hm2 acC ?_ (by decide) (by decide));refine kws_nil ?_;obtain⟨a',vs',rfl,fa,hla,nh⟩:=R1.sub.gF rd;cases ru;obtain⟨its,rv,pl,hz⟩:=I1.list (.inl hla);have xl:=nh.length;have il:its.length=vs'.length:=rv.length.symm;refine MX (ks:=ks) (vs:=its) pl.isList (by lia) (by lia) (fun i v k hi hk=>?_) fun D h' tk c hD hk hat=>?_
 ·obtain⟨x,g1,g2⟩:=g6 rv hi;obtain⟨a2,ys,rfl,e1,e2⟩:=E2 nh hks i x k g1 hk;obtain⟨z2,its2,n2,rv2,hl2,ho2⟩:=Rd.IX I1 (e1.imp (R1.sub _ _) fun⟨o,h⟩=>⟨o,R1.sub _ _ h⟩);cases g2;refine⟨a2,its2.toArray,rfl,⟨_,ho2,rfl,n2,rfl⟩,by rw[aad,<-hl2,e2],?_⟩;have:ys.length<=2 ^ 40:=aaC z2 (by decide);lia
 ·have ol:∀i∈kL ks,i<ds.length:=fun i hi=>by rw[<-kl];exact aa6.mp ((jY ks).mem_iff.mp hi)
  have hp:H1 D=none:=I1.hok.fresh hD;have n1:=fV.obj (F:=F1) hp (.lst ((kL ks).map fun i=>vs'.getD i .bQ));have s4:=R1.sub.same n1.same;have Vp:((kL ks).map fun i=>vs'.getD i V.bQ).length<=sizeLine:=by
   rw[aai,(jY ks).length_eq,abk,kl];exact aaC (abG h64) (by decide)
  have hvv:=tV rv (kL ks) fun i hi=>by rw[xl];exact ol i hi
  exact⟨.ref D,_,I1.laid (a:=D) (o:=.lst ((kL ks).map fun i=>vs'.getD i V.bQ)) (h':=h') (t':=tk) hk hD ⟨Vp,_,c,hvv,hat⟩,rfl,
   q _ F1 _ (R1.new n1 s4) (st1.trans n1.step) (vH.Ad (u:=.m (.lst (rN ks ds))) R1 st1 ⟨_,rfl,hp,R1.sub.fresh hp,_,aO,tU nh (kL ks) ol⟩)⟩⟩
end
end L2
end
section
namespace L2
open PySem PySem.Spec PyProof.Rows
variable {S:SS}{i k:Nat}{kvs:List (Str×(D ⊕ Addr))}{K:AAD}{B:Base}{σ:St}{H:Hp}{ds:List D}{Q:VK}{N bE:BBB}{scope:Scope}{elt:Expr}{cl:List (Str×Addr)}{cap:BBJ}{g:GD}{q:GT}
noncomputable def jd (C:Addr) (S:SS) (i:Nat):Option (List (Str×(D ⊕ Addr))):=match S[i]? with
 |some (some (.m (.Dy C' kvs)))=>if C'=C then some kvs else none
 |some (some (.b (.Dy C' kvs)))=>if C'=C then some kvs else none
 |_=>none
def wF {C:Addr}(h:jd C S i=some kvs):∃u,S[i]? =some (some u)/\fh u=true/\Qu u=some (.Dy C kvs):=by
 unfold jd at h;split at h
 ·rename_i C' kvs' e;obtain⟨hc,hk⟩:=cG h;subst hc;cases hk;exact⟨_,e,rfl,rfl⟩
 ·rename_i C' kvs' e;obtain⟨hc,hk⟩:=cG h;subst hc;cases hk;exact⟨_,e,rfl,rfl⟩
 ·cases h
theorem tW {F:Hp}{f:Str}{y:D ⊕ Addr}:∀{ws:List (Str×V)}{kvs:List (Str×(D ⊕ Addr))},Paired (GK F) ws kvs->kvs.lookup f=some y->∃v,ws.lookup f=some v/\Ac F v y
 |_,_,.nil,h=>by cases h
 |_,_,@Paired.cons _ _ _ (k,v) (k',d') ws kvs r rs,h=>by
  obtain⟨e,r⟩:=r;have e:k=k':=e;subst e;rw[ach] at h ⊢;split at h
  ·cases h;exact⟨v,rfl,r⟩
  ·exact tW rs h
theorem yU {F:Hp}{f:Str}:∀{ws:List (Str×V)}{kvs:List (Str×(D ⊕ Addr))},Paired (GK F) ws kvs->kvs.lookup f=none->ws.lookup f=none
 |_,_,.nil,h=>rfl
 |_,_,@Paired.cons _ _ _ (k,v) (k',d') ws kvs r rs,h=>by
  obtain⟨e,r⟩:=r;have e:k=k':=e;subst e;rw[ach] at h ⊢;split at h
  ·cases h
  ·exact yU rs h
noncomputable def Ci (f:Str) (y:D ⊕ Addr):List (Str×(D ⊕ Addr))->List (Str×(D ⊕ Addr))
 |[]=>[(f,y)]
 |(g,x)::r=>if g=f then(g,y)::r else(g,x)::Ci f y r
theorem yV {F:Hp}{f:Str}{v:V}{y:D ⊕ Addr}(r:Ac F v y):∀{ws:List (Str×V)}{kvs:List (Str×(D ⊕ Addr))},Paired (GK F) ws kvs->Paired (GK F) (mC f v ws) (Ci f y kvs)
 |_,_,.nil=>.cons ⟨rfl,r⟩ .nil
 |_,_,@Paired.cons _ _ _ (k,v') (k',d') ws kvs q qs=>by
  obtain⟨e,q⟩:=q;have e:k=k':=e;subst e;unfold mC Ci;split
  ·exact .cons ⟨rfl,r⟩ qs
  ·exact .cons ⟨rfl,q⟩ (yV r qs)
def vj {F:Hp}{C:Addr}(R:Rel K B S σ F H) (h:jd C S i=some kvs):∃a ws dx,σ[i]? =some (some (.ref a))/\H a=some (.ins C dx ws)/\Paired (GK F) ws kvs:=by
 obtain⟨u,hS,hm,hi⟩:=wF h;obtain⟨v,e,r⟩:=R.rep i u hS;obtain⟨a,o,rfl,_,e2,h⟩:=r.cF hm;rw[hi] at e2;cases e2;obtain⟨ws,⟨dx,h1⟩,h2⟩:=h;exact⟨a,ws,dx,e,h1,h2⟩
noncomputable def yW (S:SS) (j:Nat) (c:Addr):Option (List D):=match S[j]? with
 |some (some (.m (.lat c' ds)))=>if c'=c then some ds else none
 |some (some (.b (.lat c' ds)))=>if c'=c then some ds else none
 |_=>none
noncomputable def wG (S:SS) (j:Nat) (c:Addr):Option (List (D×D)):=match S[j]? with
 |some (some (.m (.gU c' ds)))=>if c'=c then some ds else none
 |some (some (.b (.gU c' ds)))=>if c'=c then some ds else none
 |_=>none
section
variable {K:AAD}{B:Base}{S:SS}{σ:St}{F H:Hp}{j:Nat}{c:Addr}
def Cj (R:Rel K B S σ F H) (h:yW S j c=some ds):σ[j]? =some (some (.ref c))/\∃vs,H c=some (.lst vs)/\bq F vs ds:=by
 unfold yW at h;split at h
 ·rename_i c' ds' e;obtain⟨hc,hk⟩:=cG h;subst hc;cases hk;obtain⟨v,k1,a,rfl,f,vs,⟨rfl,k2⟩,k3⟩:=R.rep j _ e;exact⟨k1,vs,k2,k3⟩
 ·rename_i c' ds' e;obtain⟨hc,hk⟩:=cG h;subst hc;cases hk;obtain⟨v,k1,a,rfl,f,vs,⟨rfl,k2⟩,k3⟩:=R.rep j _ e;exact⟨k1,vs,k2,k3⟩
 ·cases h
def wH {kvs:List (D×D)}(R:Rel K B S σ F H) (h:wG S j c=some kvs):σ[j]? =some (some (.ref c))/\∃ws,H c=some (.dT ws)/\Paired (ff F) ws kvs:=by
 unfold wG at h;split at h
 ·rename_i c' ds' e;obtain⟨hc,hk⟩:=cG h;subst hc;cases hk;obtain⟨v,k1,a,rfl,f,vs,⟨rfl,k2⟩,k3⟩:=R.rep j _ e;exact⟨k1,vs,k2,k3⟩
 ·rename_i c' ds' e;obtain⟨hc,hk⟩:=cG h;subst hc;cases hk;obtain⟨v,k1,a,rfl,f,vs,⟨rfl,k2⟩,k3⟩:=R.rep j _ e;exact⟨k1,vs,k2,k3⟩
 ·cases h
end
def yh (C:Addr) (S:SS) (i:Nat) (f:Str):BBN:=(jd C S i).bind fun kvs=>(kvs.lookup f).bind Sum.getRight?
def Ck (C:Addr) (i:Nat) (f:Str):GD:=fun S=>(jd C S i).bind fun kvs=>(kvs.lookup f).bind fun y=>y.getLeft?.map fun d=>(d,S)
def Kf (C:Addr) (i:Nat) (f:Str) (g:GD):GS:=fun S=>(g S).bind fun p=>(jd C p.2 i).bind fun kvs=>if kvs.length<900 then(qx p.2 i fun _=>some (.bQ,.Dy C (Ci f (.inl p.1) kvs))).map fun z=>.nx z.2 else none
def E3 (C:Addr) (i:Nat) (f:Str) (j:Nat):GD:=fun S=>(yh C S i f).bind fun c=>(yW S j c).map fun ds=>(.int ds.length,S)
def Hx (n:Bool) (C:Addr) (i:Nat) (f:Str) (j:Nat) (gk:GD):GD:=fun S=>(gk S).bind fun p=>(yh C p.2 i f).bind fun c=>(wG p.2 j c).bind fun kvs=>(Al p.1).map fun kk=>(.bl (n != (dF kvs kk).isSome),p.2)
def E4 (C:Addr) (i:Nat) (f:Str) (j:Nat) (gk:GD):GD:=fun S=>(yh C S i f).bind fun c=>(gk S).bind fun p=>(wG p.2 j c).bind fun kvs=>(Al p.1).bind fun kk=>(dF kvs kk).map fun d=>(d,p.2)
def VH (c:Addr) (k d:D):MO->Option (D×MO)
 |.gU c' kvs=>if c'=c/\kvs.length<100000 then(Al k).map fun kk=>(.bQ,.gU c (putD kvs kk d)) else none
 |_=>none
def Kg (C:Addr) (i:Nat) (f:Str) (j:Nat) (gk gv:GD):GS:=fun S=>(gv S).bind fun p=>(yh C p.2 i f).bind fun c=>(gk p.2).bind fun r=>(wG r.2 j c).bind fun _=>(qx r.2 j (VH c r.1 p.1)).map fun z=>.nx z.2
def Kh (C:Addr) (i:Nat) (f:Str) (j:Nat) (h:List D->MO->Option (D×MO)) (gA:GA):GD:=fun S=>(yh C S i f).bind fun c=>if EY S j c then(gA S).bind fun p=>qx p.2 j (VG c h p.1) else none
section
variable {X:Cx}{C:Addr}{e value k:Expr}{es:BBC}{x name:Str}{id:String}{px p pos pos' apos spos cpos:Pos}{f:Str}{i:Nat}{g gk gv:GD}{gA:GA}
def pD {F:Hp}{c:Addr}(R:Rel X.K B S σ F H) (h:yh C S i f=some c):∃a ws dx,σ[i]? =some (some (.ref a))/\H a=some (.ins C dx ws)/\ws.lookup f=some (.ref c):=by
 obtain⟨kvs,h1,h⟩:=aj h;obtain⟨y,h2,h⟩:=aj h;obtain⟨a,ws,dx,e1,e2,e3⟩:=vj R h1;obtain⟨v,l1,r1⟩:=tW e3 h2;cases y with
 |inl d=>cases h
 |inr c'=>cases h;exact⟨a,ws,dx,e1,e2,by rw[l1];exact congrArg some r1⟩
def E5 (i:Nat) (c:yw X.K C) (na:eY X.K C f) (hN:X.N[i]? =some x:=by rfl) (hv:qj X.env.scope x:=by first|exact Or.inl rfl|exact Or.inr (Or.inl rfl)|exact Or.inr (Or.inr rfl))
  (hd:BBT x:=by decide) (hcd:BBU x:=by decide) (hb:attributeBase (.Name x px) f X.env (eval (.Name x px) X.env)=eval (.Name x px) X.env:=by rfl):JD X (.Attribute (.Name x px) f pos) (Ck C i f):=
 ⟨fun B=>(qm (bZ hN hv hd hcd) hb).imp fun σ H Q hh=>by
 obtain⟨S,F,d,S',R,hg,q⟩:=hh;obtain⟨kvs,h1,hg⟩:=aj hg;obtain⟨y,h2,hg⟩:=aj hg;obtain⟨d',h3,hg⟩:=au hg;cases hg;obtain⟨a,ws,dx,e1,e2,e3⟩:=vj R h1;obtain⟨v,l1,r1⟩:=tW e3 h2;cases y with
 |inr c=>cases h3
 |inl d0=>cases h3;exact⟨.ref a,e1,a,C,dx,ws,v,rfl,e2,c,na,l1,q v F H R (Step.refl ..) r1⟩⟩
def MY (i:Nat) (c:yw X.K C) (na:eY X.K C f) (hval:JD X value g) (hN:X.N[i]? =some x:=by rfl) (hv:qj X.env.scope x:=by first|exact Or.inl rfl|exact Or.inr (Or.inl rfl)|exact Or.inr (Or.inr rfl))
  (hd:BBT x:=by decide) (hcd:BBU x:=by decide) (hs:swapsWith value (some (.Attribute (.Name x px) f pos')) pos.line X.env=pure false:=by rfl):
  JS X (.Assign [.Attribute (.Name x px) f pos'] value pos) (Kf C i f g):=⟨fun B=>(zO (bZ hN hv hd hcd) (hval.h B) hs).imp fun D σ H hh=>by
 obtain⟨S,F,o,R,hg,q⟩:=hh;obtain⟨⟨d,S1⟩,h1,hg⟩:=aj hg;obtain⟨kvs,h2,hg⟩:=aj hg;obtain⟨hl,hg⟩:=cG hg;obtain⟨⟨dd,S2⟩,h3,hg⟩:=au hg;subst hg;refine⟨S,F,d,S1,R,h1,fun v F1 H1 R1 st1 r1=>?_⟩;obtain⟨a,ws,dx,e1,e2,e3⟩:=vj R1 h2;obtain⟨u,u',o,o',hS,Ju,hio,hf,HV,rfl⟩:=lH h3;cases hf;obtain⟨R3,st3⟩:=R1.write (ho:=.ins C dx (mC f v ws)) hS HV e1 ⟨_,⟨dx,aO⟩,yV (y:=.inl d) r1 e3⟩;exact⟨.ref a,e1,a,C,dx,ws,rfl,e2,c,na,by rw[bX e3];lia,q σ F1 _ R3 st1.ext.le⟩⟩
def E6 (i j:Nat) (c:yw X.K C) (na:eY X.K C f) (hg:Gl X "len") (hm:X.mg "len" =none) (hN:X.N[i]? =some x:=by rfl) (hv:qj X.env.scope x:=by first|exact Or.inl rfl|exact Or.inr (Or.inl rfl)|exact Or.inr (Or.inr rfl))
  (hd:BBT x:=by decide) (hcd:BBU x:=by decide) (hb:attributeBase (.Name x px) f X.env (eval (.Name x px) X.env)=eval (.Name x px) X.env:=by rfl)
  (he:starEach [.Attribute (.Name x px) f apos] X.env=(false,eval (.Attribute (.Name x px) f apos) X.env)::starEach [] X.env:=by rfl) (hpl:(backTo pos (starEach [] X.env)).any (·.1)=false:=by rfl):
  JD X (.Call (.Name "len" p) [.Attribute (.Name x px) f apos] [] pos) (E3 C i f j):=⟨fun B=>(kg jP hg hm acC (gj (qm (bZ hN hv hd hcd) hb) k7 he) (by decide) (by decide) he hpl).imp fun σ H Q hh=>by
 obtain⟨S,F,d,S',R,hg',q⟩:=hh;obtain⟨cc,h1,hg'⟩:=aj hg';obtain⟨ds,h2,hg'⟩:=au hg';cases hg';obtain⟨a,ws,dx,e1,e2,e3⟩:=pD R h1;obtain⟨_,vs,e4,e5⟩:=Cj R h2;exact⟨.ref a,e1,a,C,dx,ws,_,rfl,e2,c,na,e3,cc,vs,rfl,.inl (lE.of e4),by rw[e5.length];exact q _ F H R (Step.refl ..) (.int _)⟩⟩
def MZ {n:Bool}{j:Nat}(c:yw X.K C) (na:eY X.K C f) (h:tD X.K B (Hx n C i f j gk) σ H Q):tD X.K B gk σ H fun y H1=>Um X.K (zK i) f σ H1 fun x H2=>∃a o,x= .ref a/\qZ H2 a y o/\Q (.bl (n != o.isSome)) H2:=by
 obtain⟨S,F,d,S',R,hg,q⟩:=h;obtain⟨⟨d1,S1⟩,h1,hg⟩:=aj hg;obtain⟨cc,h2,hg⟩:=aj hg;obtain⟨kvs,h3,hg⟩:=aj hg;obtain⟨kk,h4,hg⟩:=au hg;cases hg;refine⟨S,F,d1,_,R,h1,fun v F1 H1 R1 st1 r1=>?_⟩;obtain⟨a,ws,dx,e1,e2,e3⟩:=pD R1 h2;obtain⟨_,vs,e4,e5⟩:=wH R1 h3;obtain⟨b,rfl,hb⟩:=nX R1.sub r1 h4;refine⟨.ref a,e1,a,C,dx,ws,_,rfl,e2,c,na,e3,cc,_,rfl,qZ.t e4 hb,?_⟩;rw[JL e5 kk];exact q (.bl _) F1 H1 R1 st1 (.bl _)
def Hy (i j:Nat) (c:yw X.K C) (na:eY X.K C f) (hu:X.A.units+20<cLine) (hk:JD X k gk) (hN:X.N[i]? =some x:=by rfl) (hv:qj X.env.scope x:=by first|exact Or.inl rfl|exact Or.inr (Or.inl rfl)|exact Or.inr (Or.inr rfl)) (hd:BBT x:=by decide) (hcd:BBU x:=by decide)
  (hb:attributeBase (.Name x px) f X.env (eval (.Name x px) X.env)=eval (.Name x px) X.env:=by rfl) (hm:behindInMarks .NotIn (.Attribute (.Name x px) f apos)=false:=by with_unfolding_all rfl):
  JT X (.Compare k [.NotIn] [.Attribute (.Name x px) f apos] pos) (qB (Hx true C i f j gk)):=⟨fun B=>(Pn (Gy hu (hk.h B) (qm (bZ hN hv hd hcd) hb)) hm).imp fun σ H Q hh=>by
 obtain⟨S,F,kk,S',R,hg,q⟩:=hh;have h:tD X.K B (Hx true C i f j gk) σ H (fun v H'=>∃d,v= .bl d/\Q d H'):=⟨S,F,.bl kk,S',R,jR hg,fun v F' H' R' st r=>⟨kk,ji r,q F' H' R' st⟩⟩
 have h2:=MZ c na h
 simpa[tB,Eu] using h2⟩
def M0 (i j:Nat) (c:yw X.K C) (na:eY X.K C f) (hu:X.A.units+20<cLine) (hk:JD X k gk) (hs:pA k:=by first|(intro _ _;rfl)) (hN:X.N[i]? =some x:=by rfl) (hv:qj X.env.scope x:=by first|exact Or.inl rfl|exact Or.inr (Or.inl rfl)|exact Or.inr (Or.inr rfl))
  (hd:BBT x:=by decide) (hcd:BBU x:=by decide) (hb:attributeBase (.Name x px) f X.env (eval (.Name x px) X.env)=eval (.Name x px) X.env:=by rfl):JD X (.Subscript (.Attribute (.Name x px) f apos) k pos) (E4 C i f j gk):=
 ⟨fun B=>(zT hu (qm (bZ hN hv hd hcd) hb) (hk.h B) hs).imp fun σ H Q hh=>by
 obtain⟨S,F,d,S',R,hg,q⟩:=hh;obtain⟨cc,h1,hg⟩:=aj hg;obtain⟨⟨d1,S1⟩,h2,hg⟩:=aj hg;obtain⟨kvs,h3,hg⟩:=aj hg;obtain⟨kk,h4,hg⟩:=aj hg;obtain⟨d2,h5,hg⟩:=au hg;cases hg;obtain⟨a,ws,dx,e1,e2,e3⟩:=pD R h1;refine⟨.ref a,e1,a,C,dx,ws,_,rfl,e2,c,na,e3,S,F,d1,_,R,h2,fun v F1 H1 R1 st1 r1=>?_⟩;obtain⟨_,vs,e4,e5⟩:=wH R1 h3;obtain⟨w',z1,z2⟩:=lP e5 h5;obtain⟨b',rfl,hb'⟩:=nX R1.sub r1 h4;exact⟨cc,w',rfl,by rw[<-z1];exact qZ.t e4 hb',q w' F1 H1 R1 st1 z2⟩⟩
def M1 (i j:Nat) (c:yw X.K C) (na:eY X.K C f) (hu:X.A.units+20<cLine) (hk:JD X k gk) (hval:JD X value gv) (hN:X.N[i]? =some x:=by rfl) (hv:qj X.env.scope x:=by first|exact Or.inl rfl|exact Or.inr (Or.inl rfl)|exact Or.inr (Or.inr rfl))
  (hd:BBT x:=by decide) (hcd:BBU x:=by decide) (hb:attributeBase (.Name x px) f X.env (eval (.Name x px) X.env)=eval (.Name x px) X.env:=by rfl)
  (hs:swapsWith value (some (.Subscript (.Attribute (.Name x px) f apos) k pos')) pos.line X.env=pure false:=by rfl):
  JS X (.Assign [.Subscript (.Attribute (.Name x px) f apos) k pos'] value pos) (Kg C i f j gk gv):=⟨fun B=>(zU hu (qm (bZ hN hv hd hcd) hb) (hk.h B) (hval.h B) hs).imp fun D σ H hh=>by
 obtain⟨S,F,o,R,hg,q⟩:=hh;obtain⟨⟨d,S1⟩,h1,hg⟩:=aj hg;obtain⟨cc,h2,hg⟩:=aj hg;obtain⟨⟨kd,S2⟩,h3,hg⟩:=aj hg;obtain⟨kvs,h4,hg⟩:=aj hg;obtain⟨⟨nd,S3⟩,h5,hg⟩:=au hg;subst hg;obtain⟨u,u',mo,mo',hS,Ju,hio,hf,HV,rfl⟩:=lH h5;refine⟨S,F,d,S1,R,h1,fun v F1 H1 R1 st1 r1=>?_⟩;obtain⟨a,ws,dx,e1,e2,e3⟩:=pD R1 h2;refine⟨.ref a,e1,a,C,dx,ws,_,rfl,e2,c,na,e3,S1,F1,kd,S2,R1,h3,fun y F2 H2 R2 st2 r2=>?_⟩;obtain⟨hv0,_⟩:=wH R2 h4;obtain⟨v',k1,k2⟩:=R2.rep j u hS;rw[hv0] at k1;cases k1;obtain⟨a2,o2,e6,fa,eo,k3⟩:=k2.cF Ju;cases e6;rw[hio] at eo;cases eo;cases mo with
 |gU c' kvs'=>
  obtain⟨⟨rfl,hl⟩,hf⟩:=cG hf;obtain⟨kk,e7,hf⟩:=au hf;cases hf;obtain⟨ws',⟨_,ha⟩,pr⟩:=k3;obtain⟨b',rfl,hb'⟩:=nX R2.sub r2 e7;refine⟨_,_,rfl,zR.t ha hb' (by rw[bX pr];exact aas hl (by decide)),?_⟩;obtain⟨R3,st3⟩:=R2.write (ho:=.dT (putK ws' kk v)) hS HV hv0 ⟨_,⟨rfl,aO⟩,rG pr (r1.le st2.ext.le)⟩;exact q σ F2 _ R3 fun b o z=>st2.ext.le b o (st1.ext.le b o z)
 |_=>cases hf⟩
def M3 (i j:Nat) (c:yw X.K C) (na:eY X.K C f){r:V->List V->Hp->VK->Prop}{h:List D->MO->Option (D×MO)}(slot:Slot "list" name id) (hty:typeOf (.builtin id)=pure (.type "method_descriptor")) (hm:YH X id r) (hh:Y6 r h) (ha:JA X (e::es) gA)
  (hN:X.N[i]? =some x:=by rfl) (hv:qj X.env.scope x:=by first|exact Or.inl rfl|exact Or.inr (Or.inl rfl)|exact Or.inr (Or.inr rfl)) (hb:attributeBase (.Name x px) f X.env (eval (.Name x px) X.env)=eval (.Name x px) X.env:=by rfl)
  (hbase:attributeBase (.Attribute (.Name x px) f spos) name X.env (eval (.Attribute (.Name x px) f spos) X.env)=eval (.Attribute (.Name x px) f spos) X.env:=by rfl)
  (hfew:((backTo cpos (starEach (e::es) X.env)).all (fun x=>!x.1) && (backToKw cpos (keywordEach [] X.env)).all (fun x=>x.1.isSome)
   && decide ((e::es).length+([]:BBI).length+(if([]:BBI).isEmpty then 0 else 1)<30))=true:=by rfl)
  (hline:(apos.endLine == cpos.line)=true:=by rfl) (hs:starEach (e::es) X.env=(false,eval e X.env)::starEach es X.env:=by rfl) (hplain:(backTo cpos (starEach es X.env)).any (·.1)=false:=by rfl)
  (hd:BBT x:=by decide) (hcd:BBU x:=by decide):
  JD X (.Call (.Attribute (.Attribute (.Name x px) f spos) name apos) (e::es) [] cpos) (Kh C i f j h gA):=
 ⟨fun B=>(OB aeF slot hty hm (qm (bZ hN hv hd hcd) hb) (ha.h B) hbase hfew hline hs hplain).imp fun σ H Q hq=>by
 obtain⟨S,F,d,S',R,hg,q⟩:=hq;obtain⟨cc,h0,hg⟩:=aj hg;split at hg
 ·rename_i hL;obtain⟨⟨args,S1⟩,h1,hg⟩:=aj hg;obtain⟨u,u',o,o',hS,Ju,hio,hf,HV,rfl⟩:=lH hg;obtain⟨a,ws,dx,g1,g2,g3⟩:=pD R h0;obtain⟨l1,vs1,l2⟩:=J6 R hL;refine⟨.ref a,g1,a,C,dx,ws,_,rfl,g2,c,na,g3,.inl ⟨rfl,vs1,lE.of l2⟩,S,F,args,S1,R,h1,fun xs F1 H1 R1 st1 r1=>?_⟩;cases o with
  |lat c' ds=>
   obtain⟨rfl,hf⟩:=cG hf;cases hx:h args (.lst ds) with
   |none=>rw[hx] at hf;cases hf
   |some p=>
    rw[hx] at hf;obtain⟨d',o2⟩:=p;cases o2 with
    |lst ds'=>
     cases hf;obtain⟨v,k1,k2⟩:=R1.rep j u hS;rw[l1] at k1;cases k1;obtain⟨b',o2,e1,f,e2,k3⟩:=k2.cF Ju;cases e1;rw[hio] at e2;cases e2;obtain⟨vs,⟨_,Y7⟩,rs⟩:=k3;refine hh F1 H1 _ vs xs ds args _ _ R1.sub Y7 f rs r1 hx Q fun rv ho rr ha=>?_;obtain⟨ws,z1,z2⟩:=ha;obtain⟨R2,st2⟩:=R1.write (ho:=ho) (o:=.lat _ ds') hS HV l1 ⟨ws,⟨rfl,z1⟩,z2⟩;exact q rv F1 _ R2 (st1.trans st2) rr
    |_=>cases hf
  |_=>cases hf
 ·cases hg⟩
end
section
variable {P:Program}{w:World}{K:AAD}{mg:AAF}{base:Heap}{C:Addr}{m q x:Str}{st:Stmt}{ps:BBB}{fm:FM}{ng:Nat}
structure rO (P:Program) (w:World) (K:AAD) (mg:AAF) (base:Heap) (n:Nat) (C:Addr) (m:Str) (ps:BBB) (ng:Nat) (fm:FM):Prop where
 ex:∃a d,j7 P w K mg base yE n a d ps (Z9 K ps.length ng fm)/\Binds K d ps []/\Meth K C m a
def DX {g:GS}(D:Ax K C m q st) (Sc:bG N ps (aQ st))
  (hf:∀us r,fm us=some r->bL N.length g us=some r)
  (hb:∀(f:Addr) (cdv:Value) (A:Around) (outer:BBF) (s:Shared) (H:Hp) (E:XK),fE k (A.deeper (envOfC q (aQ st) s.heap.objs.size f cdv))->JB (vB yE P w K mg base N q (aQ st) f cdv A outer s H E).LS (e8 st) g) (hn:ps.length+ng<=N.length:=by decide) (hgs:∀x∈(N.drop ps.length).take ng,(aQ st).names.lookup x=none:=by decide +kernel)
  (bd:BdM m q st ps:=by intro _ _ _ _ _ _ us hl;rcases us with _|⟨_,_|⟨_,_|⟨_,_|⟨_,_|⟨_,_|⟨_,_|⟨_,_⟩⟩⟩⟩⟩⟩⟩<;>first|rfl|cases hl):rO P w K mg base (k+1) C m ps ng fm:=by
 obtain⟨f,fd,F,m⟩:=D.ex;exact⟨f,fd,aaa F Sc hn hgs (hb f) hf,F.binds bd,m⟩
end
def d9 (C:Addr) (m:Str) (i:Nat) (f:FM) (gu:GU) (gh:BBJ):GE:=fun S=>(jd C S i).bind fun kvs=>if kvs.lookup m=none then br f (OR (uK i gu) gh) S else none
section
variable {X:Cx}{C:Addr}{e:Expr}{es:BBC}{gu:GU}{x m:Str}{px pos apos:Pos}{fm:FM}{ps:BBB}{k j i:Nat}{gh:BBJ}
def M4 {pl:Sem Bool}(i:Nat) (gh:BBJ) (c:yw X.K C) (Cl:rO X.prog X.w X.K X.mg X.base j C m ps gh.length fm) (hr:fE k X.A) (ha:JU X (e::es) gu) (hj:j<=k:=by lia) (hn:(e::es).length+1=ps.length:=by rfl)
  (hN:X.N[i]? =some x:=by rfl) (hv:qj X.env.scope x:=by first|exact Or.inl rfl|exact Or.inr (Or.inl rfl)|exact Or.inr (Or.inr rfl)) (hd:BBT x:=by decide) (hcd:BBU x:=by decide)
  (hst:starEach (e::es) X.env=(false,eval e X.env)::starEach es X.env:=by rfl) (hpl:(backTo pos (starEach es X.env)).any (·.1)=false:=by rfl)
  (ht:eval (.Call (.Attribute (.Name x px) m apos) (e::es) [] pos) X.env=(do
   let ov <-eval (.Name x px) X.env
   standAt apos.atName
   let(f,first) <-holding [ov] (getMethod ov m pl)
   callWith pos f first (backTo pos (starEach (e::es) X.env)) (backToKw pos (keywordEach [] X.env))):=by rfl):
  JE X (.Call (.Attribute (.Name x px) m apos) (e::es) [] pos) (d9 C m i fm gu gh):=by
 obtain⟨fa,fd,G,hb,hm⟩:=Cl.ex;exact⟨fun B=>(L4 (pl:=pl) (bZ hN hv hd hcd) c hm (G.mono hj) hr hb .nil EE (ha.h B) hst hpl ht).imp fun σ H Q hh=>by
 obtain⟨S,F0,u,S',R,hg,q⟩:=hh;obtain⟨kvs,h0,hg⟩:=aj hg;obtain⟨hl,hg⟩:=cG hg;obtain⟨⟨us',S1⟩,h1,hg⟩:=aj hg;obtain⟨⟨us1,S1a⟩,h1a,hq⟩:=au h1;cases hq;obtain⟨⟨us,S1'⟩,Tq,hq⟩:=au h1a;cases hq;obtain⟨u0,hS,_,_⟩:=wF h0;obtain⟨a,ws,dx,e1,e2,e3⟩:=vj R h0;obtain⟨hc,hg⟩:=cG hg;obtain⟨ws',h2,hg⟩:=aj hg;obtain⟨⟨r,outs⟩,h3,hg⟩:=aj hg;obtain⟨S2,h4,hg⟩:=au hg;cases hg;refine⟨.ref a,e1,a,dx,ws,rfl,e2,yU e3 hl,S,F0,us,_,R,Tq,fun vs F1 H1 R1 st1 rr0=>?_⟩;show Z9 X.K ps.length gh.length fm (.ref a::(vs++[])) H1 Q E0;rw[ab5];have hlen:vs.length+1=ps.length:=by rw[rr0.length,ha.len _ _ _ Tq];exact hn
 obtain⟨w2,hw2⟩:=rM h2;obtain⟨gv,gl,gp⟩:=EX (H0:=H) R1 gh hw2;have rr1:Paired (fun v u=>gW X.K B S1' σ H F1 H1 v u) (.ref a::vs) (.v i::us):=.cons ⟨e1,st1.slots i u0 hS⟩ rr0;have rr:=wu rr1 gp;refine⟨hlen,gv,F1,ws',r,outs,gl,R1.sub,pC R1 rr h2,cM R1 rr h2 hc.1 hc.2,h3,fun v F2 H2 po rn=>?_⟩;obtain⟨R2,st2,mu⟩:=kj R1 st1 rr h2 h4 hc.1 po;refine q v F2 H2 R2 st2 ?_;cases r with
 |t d=>exact rn
 |b o=>cases rn
 |v i=>cases rn
 |s i=>cases rn
 |f i=>cases rn
 |x cx kx=>cases rn
 |m o=>
  obtain⟨a,e,h0,f,h⟩:=rn;refine⟨a,e,none_of st1.ext.there h0,f,h,fun m=>?_,none_of R1.ext.there h0⟩;obtain⟨o',ho⟩:=R1.has (mu a m);rw[h0] at ho;cases ho⟩
end
section
variable {X:Cx}{pins:AAG}{σ gv:St}{H:Hp}{s:Shared}{gh:BBB}
def Cx.Ok.other (o:X.Ok):{X with N:=N}.Ok:=⟨o.mod,o.kind,o.glob,o.blt,o.above,o.inj,o.has,o.Pj,o.hd,o.frames,o.stk,o.TH,o.bs,o.Gi,o.BA,o.C5,o.qW,o.LP⟩
def Cx.Ok.back (o:{X with N:=N}.Ok):X.Ok:=⟨o.mod,o.kind,o.glob,o.blt,o.above,o.inj,o.has,o.Pj,o.hd,o.frames,o.stk,o.TH,o.bs,o.Gi,o.BA,o.C5,o.qW,o.LP⟩
def Inv.wide (I:Inv X pins σ H s) (hl:gv.length=gh.length) (hg:∀x∈gh,X.env.scope.names.lookup x=none):Inv {X with N:=X.N++gh} pins (σ++gv) H s:=
 ⟨I.ok.other,I.os,I.bare,I.base,let⟨m,a,b⟩:=I.loc;⟨m,a,fun i x v h1 h2 h3=>by
  have h1:(X.N++gh)[i]? =some x:=h1;have le:=I.len;by_cases hi:i<X.N.length
  ·rw[aa3 hi] at h1;rw[aa3 (by rw[le];exact hi)] at h2;exact b i x v h1 h2 h3
  ·rw[acw (Nat.le_of_not_lt hi)] at h1;have:=hg x (aaW h1);rcases h3 with z|z|z<;>(rw[this] at z;cases z)⟩,I.cell,I.free,I.kM,I.pin,I.hok,by show(σ++gv).length=(X.N++gh).length;rw[aaw,aaw,hl,I.len]⟩
def Inv.slim (I:Inv {X with N:=X.N++gh} pins (σ++gv) H s) (hl:σ.length=X.N.length):Inv X pins σ H s:=
 ⟨I.ok.back,I.os,I.bare,I.base,let⟨m,a,b⟩:=I.loc;⟨m,a,fun i x v h1 h2 h3=>by
  have hi:=(aau.mp h1).1;exact b i x v (by show(X.N++gh)[i]? =_;rw[aa3 hi];exact h1) (by rw[aa3 (by rw[hl];exact hi)];exact h2) h3⟩,I.cell,I.free,I.kM,I.pin,I.hok,hl⟩
def PE.wide {e:Expr}{t:TE}(h:PE {X with N:=X.N++gh} e t) (hg:∀x∈gh,X.env.scope.names.lookup x=none):PE X e (fun σ H Q=>∃gv:St,gv.length=gh.length/\t (σ++gv) H Q):=by
 intro pins s σ H Q I ⟨gv,hl,q⟩;have:=h pins s (σ++gv) H Q (I.wide hl hg) q;exact abn this (fun u s' ⟨v,H',I',r,q⟩=>⟨v,H',I'.slim I.len,r,q⟩) fun _ _ e=>e
end
theorem yX {f:Str×NameKind->Str×NameKind}(hf:∀p,(f p).1=p.1){z:Str}:∀{l:List (Str×NameKind)},l.lookup z=none->(l.map f).lookup z=none
 |[],_=>rfl
 |(a,k)::l,h=>by
  rw[ach] at h;split at h
  ·cases h
  ·rename_i q;rw[abj];have e:=hf (a,k);generalize f (a,k)=p at *;obtain⟨b,k'⟩:=p;cases e;rw[ach,q];exact yX hf h
def AE {env:Env}{z:Str}(h:scope.names.lookup z=none):(relabel scope env).names.lookup z=none:=by
 unfold relabel;exact yX (fun p=>by obtain⟨n,k⟩:=p;dsimp only;split<;>rfl) h
def Cm {X:Cx}{iter:Expr}{x:Str}{px pos:Pos}{gi:GI}(gh:BBB) (gs:BBJ) (T:dz X x bE cap scope cl) (hc:X.calm=true) (hi:JI X (.Name x px) iter gi)
  (he:∀C s H fp,JD (cg X (x::bE++gh) scope cl C s H fp) elt g) (hgl:gs.length=gh.length:=by rfl) (hgh:∀z∈gh,scope.names.lookup z=none:=by decide +kernel)
  (hs:∀x,foldedSetIterable iter X.env x=pure x:=by intro _;rfl):JE X (.ListComp elt [⟨.Name x px,iter,[],0⟩] scope pos) (fR (cap++gs) gi cj g):=⟨fun B=>by
 refine(vF (tc:=Qh) (te:=fun σ H Q=>∃gv:St,gv.length=gh.length/\∃B,tD X.K B g (σ++gv) H Q) T hc (hi.h B) (fun C s H fp=>EF) (fun C s H fp=>PE.wide (X:=cg X (x::bE) scope cl C s H fp) (t:=fun σ H Q=>∃B,tD X.K B g σ H Q) (fun pins s' σ H' Q I ⟨B',z⟩=>(he C s H fp).h B' pins s' σ H' Q I z) (fun z hz=>AE (hgh z hz))) hs).imp fun σ H Q h=>?_;obtain⟨S,F,ds,S1,R,hg,q⟩:=vO h;refine⟨S,F,ds,S1,R,hg,fun J F1 H1 R1 st1 w=>?_⟩;obtain⟨W,w0,w1⟩:=q J F1 H1 R1 st1 w;refine⟨W,w0,fun i m ys H' hW=>?_⟩;obtain⟨l,r⟩:=w1 i m ys H' hW;refine⟨l,r.imp (fun z=>z) fun⟨go,y⟩=>⟨go,fun xv H3 hy=>?_⟩⟩;obtain⟨B',S2,F2,b,S3,R2,hq,k⟩:=y xv H3 hy;cases hq;have k2:=k F2 H3 R2 (Step.refl ..);rw[if_pos rfl] at k2;simp only[Qh,↓reduceIte];refine⟨cL gs σ,by unfold cL;rw[aai];exact hgl,?_⟩;have e:some xv::cL (cap++gs) σ=(some xv::cL cap σ)++cL gs σ:=by unfold cL;rw[abV];rfl
 rw[<-e];exact k2⟩
noncomputable def spI (C:Addr):Sp:=fun vs H Q _=>∃x dx,vs=[.ref x]/\H x=some (.ins C dx [])/\∀c d H',H c=none->H d=none->c≠d->H' x=some (.ins C dx [("basics",.ref c),("numbers",.ref d),("trues",.int 0)])->H' c=some (.lst [])->H' d=some (.dT [])->(∀b o,H b=some o->b≠x->H' b=some o)->Q .bQ H'
structure Q3 (P:Program) (w:World) (K:AAD) (mg:AAF) (base:Heap) (n:Nat) (C:Addr):Prop where
 ex:∃a d,j7 P w K mg base yE n a d ["self"] (spI C)/\Binds K d ["self"] []/\Meth K C "__init__" a
section
variable {X:Cx}{C:Addr}{p1 p2 p3 p4 p5 p6 p7 p8 p9 pa pb pc:Pos}{kk:Nat}
def OT (C:Addr):TS:=fun D σ H=>∃x dx,σ[0]? =some (some (.ref x))/\H x=some (.ins C dx [])/\∀c d H',H c=none->H d=none->c≠d->H' x=some (.ins C dx [("basics",.ref c),("numbers",.ref d),("trues",.int 0)])->H' c=some (.lst [])->H' d=some (.dT [])->(∀b o,H b=some o->b≠x->H' b=some o)->D.nx σ H'
def Kl (c:yw X.K C) (n1:eY X.K C "basics") (n2:eY X.K C "numbers") (n3:eY X.K C "trues") (hN:X.N[0]? =some ("self":Str):=by rfl) (hv:qj X.env.scope ("self":Str):=by first|exact Or.inl rfl|exact Or.inr (Or.inl rfl)|exact Or.inr (Or.inr rfl))
  (s1:swapsWith (.List [] p3) (some (.Attribute (.Name "self" p1) "basics" p2)) p4.line X.env=pure false:=by rfl) (s2:swapsWith (.Dict [] [] p7) (some (.Attribute (.Name "self" p5) "numbers" p6)) p8.line X.env=pure false:=by rfl) (s3:swapsWith (.Constant (.int 0) kk pb) (some (.Attribute (.Name "self" p9) "trues" pa)) pc.line X.env=pure false:=by rfl):
  xO X [.Assign [.Attribute (.Name "self" p1) "basics" p2] (.List [] p3) p4,.Assign [.Attribute (.Name "self" p5) "numbers" p6] (.Dict [] [] p7) p8,.Assign [.Attribute (.Name "self" p9) "trues" pa] (.Constant (.int 0) kk pb) pc] (OT C):=by
 refine(qX (zO (bZ hN hv (by decide) (by decide)) (IF k7) s1) (qX (zO (bZ hN hv (by decide) (by decide)) IQ s2) (Eo (zO (bZ hN hv (by decide) (by decide)) (Ij (i:=0)) s3)))).imp fun D σ H hh=>?_;obtain⟨x,dx,hs,hx,q⟩:=hh;refine⟨by show 0<=_;exact aaM _,fun cc hc=>?_⟩;have Q4:x≠cc:=fun e=>by rw[<-e,hx] at hc;cases hc
 refine⟨.ref x,hs,x,C,dx,[],rfl,by rw[aP Q4];exact hx,c,n1,by decide,?_⟩;intro dd hd;have Q5:x≠dd:=fun e=>by rw[<-e,aO] at hd;cases hd
 rw[aP (abJ Q5)] at hd;have VI:cc≠dd:=fun e=>by rw[<-e,aO] at hd;cases hd
 have hd0:H dd=none:=by rw[aP (abJ VI)] at hd;exact hd
 refine⟨.ref x,hs,x,C,dx,_,rfl,by rw[aP Q5];exact aO,c,n2,by show 1<1000;decide,?_⟩;refine⟨.ref x,hs,x,C,dx,_,rfl,aO,c,n3,by show 2<1000;decide,?_⟩;refine q cc dd _ hc hd0 VI aO ?_ ?_ fun b o z nb=>?_
 ·rw[aP (abJ Q4),aP (abJ Q4),aP VI,aP (abJ Q4)];exact aO
 ·rw[aP (abJ Q5),aP (abJ Q5)];exact aO
 ·have b1:b≠cc:=fun e=>by rw[e,hc] at z;cases z
  have b2:b≠dd:=fun e=>by rw[e,hd0] at z;cases z
  rw[aP nb,aP nb,aP b2,aP nb,aP b1];exact z
end
section
variable {P:Program}{w:World}{K:AAD}{mg:AAF}{base:Heap}{C:Addr}{q:Str}{st:Stmt}
def okI (D:Ax K C "__init__" q st) (Sc:bG ["self"] ["self"] (aQ st))
  (hb:∀(f:Addr) (cdv:Value) (A:Around) (outer:BBF) (s:Shared) (H:Hp) (E:XK),xO (vB yE P w K mg base ["self"] q (aQ st) f cdv A outer s H E).LS (e8 st) (OT C))
  (bd:BdM "__init__" q st ["self"]:=by intro _ _ _ _ _ _ us hl;rcases us with _|⟨_,_|⟨_,_⟩⟩<;>first|rfl|cases hl):Q3 P w K mg base (k+1) C:=by
 obtain⟨f,fd,F,m⟩:=D.ex;refine⟨f,fd,F.ok Sc (fun vs H Q E ⟨x,dx,e,_⟩=>by rw[e];rfl) fun cdv A outer s H vs Q E hr h=>?_,F.binds bd,m⟩;obtain⟨x,dx,rfl,hx,q⟩:=h;exact⟨_,hb f cdv A outer s H E,x,dx,rfl,hx,q⟩
end
def Km (i j k:Nat) (C c d:Addr) (S:SS):Option SS:=
 (nP j (.m (.lat c [])) S).bind fun S1=>(nP k (.m (.gU d [])) S1).bind fun S2=>nP i (.m (.Dy C [("basics",.inr c),("numbers",.inr d),("trues",.inl (.int 0))])) S2
noncomputable def wI (S:SS) (i:Nat):Bool:=match S[i]? with
 |some (some (.m _))=>true
 |_=>false
def M5 (i j k:Nat):Out->Option Out
 |.rt (.t d) S=>if wI S i/\wI S j/\wI S k/\i≠j/\i≠k/\j≠k then some (.rt (.t d) (((S.set i none).set j none).set k none)) else none
 |_=>none
def DY (i j k:Nat) (C:Addr) (gr:GS):GS:=fun S=>wz fun c d=>(Km i j k C c d S).bind fun S1=>(gr S1).bind (M5 i j k)
def wJ (h:wI S i=true):∃o,S[i]? =some (some (.m o)):=by
 unfold wI at h;split at h
 ·rename_i o e;exact⟨o,e⟩
 ·cases h
def M6 {j:Nat}{F:Hp}{D:Ends}{o o1:Out}(h:M5 i j k o1=some o) (q:yF K B F D o):yF K B F D o1:=by
 cases o1 with
 |rt u S1=>
  cases u with
  |t dd=>
   obtain⟨⟨hi,hj,hk,ij,ik,jk'⟩,h⟩:=cG (show(if _ then some (Out.rt (.t dd) (((S1.set i none).set j none).set k none)) else none)=some o from h);cases h;intro v σ' F' H' R le r;obtain⟨oi,ei⟩:=wJ hi;obtain⟨oj,ej⟩:=wJ hj;obtain⟨ok,ek⟩:=wJ hk;have R1:=R.drop ei;have R2:=R1.drop (i:=j) (o:=oj) (by rw[aaJ ij];exact ej);have R3:=R2.drop (i:=k) (o:=ok) (by rw[aaJ jk',aaJ ik];exact ek);exact q v σ' F' H' R3 le r
  |_=>cases h
 |_=>cases h
section
variable {X:Cx}{C:Addr}{rest:BBH}{gr:GS}{i:Nat}{x y:Str}{p pos py spos:Pos}{n m:Nat}
def Cn (j k:Nat){zj zk:Str}(M:S8 X.K X.mg x C) (I:Q3 X.prog X.w X.K X.mg X.base n C) (hr:fE m X.A) (hN:X.N.Nodup) (hy:X.N[i]? =some y) (hx:Loc X.env.scope y) (hb:JB X rest gr) (hn:n+1<=m:=by lia) (hg:Gl X x:=by rfl)
  (hj:X.N[j]? =some zj:=by rfl) (hk:X.N[k]? =some zk:=by rfl) (lj:X.env.scope.names.lookup zj=none:=by rfl) (lk:X.env.scope.names.lookup zk=none:=by rfl) (hdb:BBT x:=by decide)
  (hs:swapsWith (.Call (.Name x p) [] [] pos) (some (.Name y py)) spos.line X.env=pure false:=by rfl) (hf:X.fn y=true\/X.env.scope.names.lookup y=some .local:=by first|exact .inl rfl|exact .inr rfl|assumption):
  JB X (.Assign [.Name y py] (.Call (.Name x p) [] [] pos) spos::rest) (DY i j k C gr):=by
 obtain⟨fa,fd,G,bd,me⟩:=I.ex;exact⟨fun B=>by
 refine(qX (Ir hN hy hx (IJ ⟨M.mks,me.at_,me.fn,M.kp⟩ G (hr.mono hn) hg M.nm bd .nil EE hdb) hs hf) (hb.h B).gh).imp fun D σ H hh=>?_;obtain⟨S,F,o,R,h,q⟩:=hh;have hall:=Cf h;intro xa dx hx hdx ne;refine⟨xa,dx,rfl,aO,fun c d H' hc hd VI a1 a2 a3 a4=>⟨rfl,?_⟩⟩;have Q4:c≠xa:=fun e=>by rw[e,aO] at hc;cases hc
 have Q5:d≠xa:=fun e=>by rw[e,aO] at hd;cases hd
 have old:∀b,b≠xa->upd (upd H dx (.own xa)) xa (.ins C dx []) b=none->H b=none:=fun b nb z=>by
  rw[aP nb] at z;by_cases e:b=dx
  ·subst e;rw[aO] at z;cases z
  ·rw[aP e] at z;exact z
 have hc0:=old c Q4 hc;have hd0:=old d Q5 hd;have keep:∀b o,H b=some o->H' b=some o:=fun b o z=>by
  have b1:b≠xa:=fun e=>by rw[e,hx] at z;cases z
  have b2:b≠dx:=fun e=>by rw[e,hdx] at z;cases z
  exact a4 b o (by rw[aP b1,aP b2];exact z) b1
 have nw:fV F H F H':=⟨fun _ _ z=>z,keep,fun _ _ _ z=>z⟩
 have R1:=R.new nw (R.sub.same nw.same);have fr:∀a,H a=none->F a=none/\¬cF S σ a/\B.H a=none:=fun a z=>⟨R.sub.fresh z,fun mm=>(by obtain⟨o,ho⟩:=R.has mm;rw[z] at ho;cases ho),none_of R.ext.there z⟩
 have hcd:=hall c d;obtain⟨S4,h4,hcd⟩:=aj hcd;obtain⟨o1,b1,b2⟩:=aj hcd;obtain⟨Sa,ha,h4⟩:=aj h4;obtain⟨Sb,hb',h4⟩:=aj h4;have Ra:=R1.put ha (v:=.ref c) ⟨c,rfl,(fr c hc0).1,⟨[],⟨rfl,a2⟩,.nil⟩,(fr c hc0).2.1,(fr c hc0).2.2⟩;have ea:=(sU ha).1;subst ea;have Rb:=Ra.put hb' (v:=.ref d) ⟨d,rfl,(fr d hd0).1,⟨[],⟨rfl,a3⟩,.nil⟩,fun mm=>(tR mm).elim (abJ VI) (fr d hd0).2.1,(fr d hd0).2.2⟩;have eb:=(sU hb').1;subst eb;have Rc:=Rb.put h4 (v:=.ref xa) ⟨xa,rfl,(fr xa hx).1,⟨_,⟨dx,a1⟩,.cons ⟨rfl,rfl⟩ (.cons ⟨rfl,rfl⟩ (.cons ⟨rfl,.int 0⟩ .nil))⟩,fun mm=>(tR mm).elim (abJ Q5) fun mm=>(tR mm).elim (abJ Q4) (fr xa hx).2.1,(fr xa hx).2.2⟩;obtain⟨l,e⟩:=J8 (σ:=σ) (i:=i) (c:=c) (d:=d) (p:=xa) hj hk lj lk;exact⟨_,l,e,S4,F,o1,Rc,b1,M6 b2 q⟩⟩
end
def Co (S:SS) (cap:BBJ):Bool:=match d8 S cap with
 |some us=>(slotsOf us).isEmpty && cC us == 0
 |none=>false
def tX (i:Nat) (cap:BBJ) (q:GT) (g:GD):GE:=fun S=>match S[i]? with
 |some (some (.m (.lst ds)))=>if ds.length<=100000/\Co S cap=true then(bU cap q g ds S []).map fun r=>(.m (.lst r.1),r.2) else none
 |some (some (.b (.lst ds)))=>if ds.length<=100000/\Co S cap=true then(bU cap q g ds S []).map fun r=>(.m (.lst r.1),r.2) else none
 |_=>none
theorem n6 {S S':SS}:∀{us ws:List U}{outs:List MO},slotsOf us=[]->cC us=0->bT S us=some ws->wb us outs S=some S'->S'=S
 |[],_,[],_,_,_,h=>by cases h;rfl
 |[],_,_::_,_,_,_,h=>by cases h
 |u::us,ws,outs,h1,h2,h3,h=>by
  obtain⟨w,e1,h3⟩:=aj h3;obtain⟨ws',e2,h3⟩:=au h3;cases u with
  |t d=>exact n6 (us:=us) (outs:=outs) h1 h2 e2 (by cases outs<;>exact h)
  |m o=>exact absurd h2 (Nat.succ_ne_zero _)
  |b o=>cases e1
  |v j=>cases h1
  |s ns=>exact n6 (us:=us) (outs:=outs) h1 h2 e2 (by cases outs<;>exact h)
  |f a=>exact n6 (us:=us) (outs:=outs) h1 h2 e2 (by cases outs<;>exact h)
  |x cx kx=>exact n6 (us:=us) (outs:=outs) h1 h2 e2 (by cases outs<;>exact h)
def Cp {Sf:SS}{F:Hp}{res:List D}{a:Addr}(R:Rel K B S σ F H) (hi:σ[i]? =some (some (.ref a))) (at':∀F' H',Rel K B S σ F' H'->∃vs,H' a=some (.lst vs)/\bq F' vs ds) (hlen:ds.length<=100000) (hct:Co S cap=true) (h2:bU cap q g ds S []=some (res,Sf))
  (k:∀v F' H',Rel K B Sf σ F' H'->Step S Sf σ F H F' H'->gW K B Sf σ H F' H' v (.m (.lst res))->Q v H'):SD (Iz K (zK i)) cap (fun σ H Q=>∃B,tQ K B q σ H Q) (fun σ H Q=>∃B,tD K B g σ H Q) σ H Q:=by
 obtain⟨x,_⟩:∃x:Str,True:=⟨"",trivial⟩
 obtain⟨us,hus,hsl,hfr⟩:∃us,d8 S cap=some us/\slotsOf us=[]/\cC us=0:=by
  unfold Co at hct;split at hct
  ·rename_i us e;obtain⟨c1,c2⟩:=aaN.mp hct;exact⟨us,e,List.isEmpty_iff.mp c1,eq_of_beq c2⟩
  ·cases hct
 obtain⟨WT,ha0,_⟩:=at' F H R;refine⟨.ref a,hi,a,rfl,⟨WT,lE.of ha0⟩,?_⟩;refine⟨fun j m ys H'=>∃F2 acc,Rel K B S σ F2 H'/\Step S S σ F H F2 H'/\bq F2 ys acc/\acc.length<=j/\j<=ds.length/\m=ds.length-j/\bU cap q g (ds.drop j) S acc=some (res,Sf),
  ⟨_,F,[],R,Step.refl ..,.nil,aaj _,aaM _,rfl,h2⟩,?_⟩
 rintro j m ys H' ⟨F2,acc,R2,st2,ry,hac,hl,rfl,dO⟩;refine⟨by rw[ry.length];exact acm (aaC hac (aaC hl hlen)) (by decide),?_⟩;obtain⟨vs,ha,rs⟩:=at' F2 H' R2;by_cases hlt:j<ds.length
 ·have hd:ds[j]? =some ds[j]:=aal hlt;obtain⟨xv,hx,rx⟩:=rs.get hd;rw[abv hlt] at dO;refine .inr ⟨⟨vs,xv,lE.of ha,hx⟩,fun xv' H3 y=>?_⟩;obtain⟨rfl,y2⟩:=y;have e0:=y2 vs (lE.of ha);rw[hx] at e0;cases e0;obtain⟨us',e1,dO⟩:=aj dO;rw[hus] at e1;cases e1;split at dO
  ·rename_i hnd;obtain⟨ws,e2,dO⟩:=aj dO;obtain⟨⟨bk,T1⟩,e3,dO⟩:=aj dO;obtain⟨Xq,k1,k2⟩:=Ak R2 hus;have rr:Paired (fun v u=>gW K B S σ H3 F2 H3 v u) (xv::Xq) (.t ds[j]::us):=.cons rx k2;have er:=rD R2 ds[j] e2;have ar:=pC R2 rr er;have nd:=cM R2 rr er hnd.1 hnd.2;have R3:=lJ (n:=ws.length+1) R2.sub ar nd (List.replicate (ws.length+1) x) (by simp);have hvl:Xq.length=ws.length:=by have:=ar.length;simpa using this
   have es:start (List.replicate (ws.length+1) x) (xv::Xq)=some xv::cL cap σ:=by
    unfold start;rw[k1];simp[hvl]
   have eS:(U.t ds[j]::ws).map some++List.replicate (ws.length+1-(U.t ds[j]::ws).length) none=some (U.t ds[j])::ws.map some:=by simp
   rw[es,eS] at R3;have back:∀(T2:SS) (F3 H4:Hp) (outs:List MO) (S3:SS),Rel K ⟨lent (xv::Xq) (U.t ds[j]::ws),F2,H3⟩ T2 (some xv::cL cap σ) F3 H4->aT (U.t ds[j]::ws) T2=some outs->wb us outs S=some S3->S3=S/\Rel K B S3 σ F3 H4/\Step S S3 σ F H F3 H4/\(∀b o,F2 b=some o->F3 b=some o):=fun T2 F3 H4 outs S3 RT ho hw=>by
    have po:=post_of ar T2 _ F3 H4 outs RT ho;obtain⟨Ra,xX,_⟩:=kj (S0:=S) (F0:=F2) (H0:=H3) R2 (Step.refl ..) rr er (show wb (U.t ds[j]::us) outs S=some S3 by cases outs<;>exact hw) hnd.1 po;exact⟨n6 hsl hfr e2 hw,Ra,st2.trans xX,xX.ext.le⟩
   refine⟨_,_,F2,bk,T1,R3,e3,fun F3 H4 OH UW=>?_⟩;cases bk with
   |true=>
    obtain⟨⟨yd,T2⟩,e4,dO⟩:=aj (show(g T1).bind _=_ from dO);obtain⟨outs,e5,dO⟩:=aj dO;obtain⟨S3,e6,Q6⟩:=aj dO;refine z7 ⟨_,T1,F3,yd,T2,OH,e4,fun yv F4 H5 UX UY UZ=>?_⟩;obtain⟨rfl,Ra,xX,DE⟩:=back T2 F4 H5 outs S3 UX e5 e6;exact⟨ds.length-(j+1),by lia,F4,acc++[yd],Ra,xX,(ry.le DE).append (.cons UZ .nil),by simp;lia,hlt,rfl,Q6⟩
   |false=>
    obtain⟨outs,e5,dO⟩:=aj (show(aT (U.t ds[j]::ws) T1).bind _=_ from dO);obtain⟨S3,e6,Q6⟩:=aj dO;obtain⟨rfl,Ra,xX,DE⟩:=back T1 F3 H4 outs S3 OH e5 e6;exact z5 ⟨ds.length-(j+1),by lia,F3,acc,Ra,xX,ry.le DE,by lia,hlt,rfl,Q6⟩
  ·cases dO
 ·have e:j=ds.length:=by lia
  subst e;rw[adM] at dO;cases dO;refine .inl ⟨⟨vs,lE.of ha,by rw[rs.length];exact aaj _⟩,fun p hp=>?_⟩;have n:=fV.obj (F:=F2) hp (.lst ys);refine k (.ref p) F2 _ (R2.new n (R2.sub.same n.same)) (st2.trans n.step) ⟨p,rfl,none_of st2.ext.there hp,R2.sub.fresh hp,⟨ys,aO,ry⟩,fun m=>?_,none_of R2.ext.there hp⟩;obtain⟨o,ho⟩:=R2.has m;rw[hp] at ho;cases ho
def Hz (h:tE K B (tX i cap q g) σ H Q):SD (Iz K (zK i)) cap (fun σ H Q=>∃B,tQ K B q σ H Q) (fun σ H Q=>∃B,tD K B g σ H Q) σ H Q:=by
 obtain⟨S,F,u,S',R,hg,k⟩:=h;unfold tX at hg;split at hg
 ·rename_i ds e;obtain⟨⟨hlen,hct⟩,hg⟩:=cG hg;obtain⟨⟨res,Sf⟩,h2,hg⟩:=au hg;cases hg;obtain⟨v,e1,a,rfl,_⟩:=R.rep i _ e;exact Cp R e1 (fun F' H' R'=>by
   obtain⟨v',e2,a',rfl,_,r⟩:=R'.rep i _ e;rw[e1] at e2;cases e2;exact r) hlen hct h2 k
 ·rename_i ds e;obtain⟨⟨hlen,hct⟩,hg⟩:=cG hg;obtain⟨⟨res,Sf⟩,h2,hg⟩:=au hg;cases hg;obtain⟨v,e1,a,rfl,_⟩:=R.rep i _ e;exact Cp R e1 (fun F' H' R'=>by
   obtain⟨v',e2,a',rfl,_,r⟩:=R'.rep i _ e;rw[e1] at e2;cases e2;exact r) hlen hct h2 k
 ·cases hg
def Kn {X:Cx}{ifs:BBC}{x y:Str}{px py pos:Pos}(i:Nat) (T:dz X x bE cap scope cl) (hc:X.calm=true)
  (ht:∀C s H fp,Qz (cg X (x::bE) scope cl C s H fp) ifs q) (he:∀C s H fp,JD (cg X (x::bE) scope cl C s H fp) elt g)
  (hN:X.N[i]? =some y:=by rfl) (hv:qj X.env.scope y:=by first|exact Or.inl rfl|exact Or.inr (Or.inl rfl)|exact Or.inr (Or.inr rfl)) (hd:BBT y:=by decide) (hcd:BBU y:=by decide)
  (hs:∀x,foldedSetIterable (.Name y py) X.env x=pure x:=by intro _;rfl):JE X (.ListComp elt [⟨.Name x px,.Name y py,ifs,0⟩] scope pos) (tX i cap q g):=⟨fun B=>by
 exact(vF (tc:=fun σ H Q=>∃B,tQ X.K B q σ H Q) (te:=fun σ H Q=>∃B,tD X.K B g σ H Q) T hc (zM (bZ hN hv hd hcd)) (fun C s H fp pins s' σ H' Q I ⟨B',z⟩=>(ht C s H fp).h B' pins s' σ H' Q I z) (fun C s H fp pins s' σ H' Q I ⟨B',z⟩=>(he C s H fp).h B' pins s' σ H' Q I z) hs).imp fun σ H Q h=>Hz h⟩
def AF (f:FM) (g:GD) (i:Nat):GD:=fun S=>(g S).bind fun p=>match p.2[i]? with
 |some (some u)=>(look u).bind fun d=>match f [.t p.1,.t d] with
  |some (.t e,[])=>if pS e=true then some (e,p.2) else none
  |_=>none
 |_=>none
def Ko {F:Hp}{u:U}{d d1:D}{v:V}(R:Rel K B S σ F H) (h:S[i]? =some (some u)) (hl:look u=some d) (r1:Rep F v d1):∃w F1,σ[i]? =some (some w)/\Sub F1 H/\Rep F1 w d/\Rep F1 v d1:=by
 obtain⟨w,hv,r⟩:=R.rep i u h;unfold look at hl;split at hl
 ·cases hl;exact⟨_,F,hv,R.sub,r,r1⟩
 ·cases hl;obtain⟨a,rfl,fa,vs,ha,rs⟩:=r;exact⟨_,upd F a (.lst vs),hv,R.sub.jh ha,.lst (.inl aO) (rs.le (fU fa)),r1.le (fU fa)⟩
 ·cases hl;obtain⟨a,rfl,fa,vs,ha,rs⟩:=r;exact⟨_,upd F a (.lst vs),hv,R.sub.jh ha,.lst (.inl aO) (rs.le (fU fa)),r1.le (fU fa)⟩
 ·cases hl
section
variable {X:Cx}{e:Expr}{g:GD}{x y:Str}{p px pos:Pos}{ps:BBB}{k j:Nat}{fm:FM}
def jlk (i:Nat) (c:yg X.prog X.w X.K X.mg X.base j x ps fm) (hr:fE k X.A) (he:JD X e g) (hj:j<=k:=by lia) (hg:Gl X x:=by rfl) (hn:ps.length=2:=by rfl)
  (hN:X.N[i]? =some y:=by rfl) (hv:qj X.env.scope y:=by first|exact Or.inl rfl|exact Or.inr (Or.inl rfl)|exact Or.inr (Or.inr rfl)) (hd:BBT y:=by decide) (hcd:BBU y:=by decide)
  (hdb:BBT x:=by decide) (h1:starEach [e,.Name y px] X.env=(false,eval e X.env)::starEach [.Name y px] X.env:=by rfl) (h2:starEach [.Name y px] X.env=(false,eval (.Name y px) X.env)::starEach [] X.env:=by rfl) (hpl:(backTo pos (starEach [.Name y px] X.env)).any (·.1)=false:=by rfl):
  JD X (.Call (.Name x p) [e,.Name y px] [] pos) (AF fm g i):=by
 obtain⟨a,d,G,b,kp,m⟩:=c.ex;exact⟨fun B=>(Er (G.mono hj) hr hg m kp b .nil EE (gj (he.h B) (gj (bZ hN hv hd hcd) k7 h2) h1) hdb h1 hpl).imp fun σ H Q hh=>by
 obtain⟨S,F,d0,S',R,hg',q⟩:=hh;obtain⟨⟨d1,S1⟩,e1,hg'⟩:=aj hg';dsimp only at hg';split at hg'
 ·rename_i u hS;obtain⟨dl,e2,hg'⟩:=aj hg';split at hg'
  ·rename_i e' he';obtain⟨hfl,hg'⟩:=bW hg';cases hg';refine⟨S,F,d1,_,R,e1,fun v F1 H1 R1 st1 r1=>?_⟩;obtain⟨w2,F3,z1,z2,z3,z4⟩:∃w2 F3,σ[i]? =some (some w2)/\Sub F3 H1/\Rep F3 w2 dl/\Rep F3 v d1:=Ko R1 hS e2 r1;refine⟨w2,z1,?_⟩;show spT X.K ps.length fm ([v,w2]++[]) H1 Q E0;rw[ab5];refine⟨by rw[hn];rfl,F3,[.t d1,.t dl],_,[],z2,.cons z4 (.cons z3 .nil),?_,he',fun v' F' H' po rn=>?_⟩
   ·rw[Qy,Qy];exact abp
   ·have keep:∀b o,H1 b=some o->H' b=some o:=fun b o z=>po.ext.keep b o z (by rw[Qy,Qy];exact aaQ);have n':fV F1 H1 F1 H':=⟨fun _ _ z=>z,keep,fun _ _ _ z=>z⟩
    exact q v' F1 H' (R1.new n' (R1.sub.same n'.same)) (st1.trans n'.step) (B4 hfl rn)
  ·cases hg'
 ·cases hg'⟩
end
end L2
end
section
namespace L2
open PySem PySem.Spec PyProof.Rows PySem.Calls PyProof.V
open PySem.W (KasT kas_asc kas_desc kas_tail3 kas_descPart kas_count kas_place kas_bin kas_sort kas_rev kas_item kas_st kas_cmp kas_runs kasC)
variable {p:Array Nat}{a:Str}{Q:AAE}{xs ys:AAL}{ns ms:BBB}{ks:List (BBB)}
section
variable {n:Nat}(ky:Nat->Nat)
noncomputable def kf (p:Array Nat) (i:Nat):Nat:=ky (p.getD i 0)
noncomputable def klt (i j:Nat):Bool:=decide (ky i<ky j)
def OU (p:Array Nat) (m:Nat):Prop:=∀i j,i<=j->j<m->kf ky p i<=kf ky p j
def NI (p:Array Nat) (m:Nat):Prop:=∀i j,i<=j->j<m->kf ky p j<=kf ky p i
variable {ky}
theorem lW {α β:Type}{Bp:Nat->Nat->Bool}{f:α->KasT β}:∀t:KasT α,iZ Bp (t.bind f)=iZ Bp (f (iZ Bp t))
 |.ret _=>rfl
 |.ask i j k=>lW (k (Bp i j))
def DZ {a b k:Nat}(h:b<=p.size):kf ky (kas_rev p a b) k=if a<=k/\k<b then kf ky p (a+b-1-k) else kf ky p k:=by
 have:=getElem?_mirror_all (xs:=p) (i:=a) (j:=b) h k;unfold kf kas_rev;simp only[aaR,this];split<;>rfl
def Kq {c d k:Nat}(h:c<p.size) (hd:d<=c):kf ky (bubble p c d) k=if k=c-d then kf ky p c else if c-d<k/\k<=c then kf ky p (k-1) else kf ky p k:=by
 have:=getElem?_bubble (xs:=p) h d hd k;unfold kf;simp only[aaR,this];split
 ·rfl
 ·split<;>rfl
def D0 {a b:Nat}(h:b<=p.size) (e:∀i,a<=i->i<b->kf ky p i=kf ky p (b-1)) (k:Nat):kf ky (kas_rev p a b) k=kf ky p k:=by
 rw[DZ h];split
 ·rw[e _ (by lia) (by lia),e k (by lia) (by lia)]
 ·rfl
theorem Kr {p:Array Nat}:∀(f m:Nat),1<=m->OU ky p m->m<=iZ (klt ky) (kas_asc p f m)/\iZ (klt ky) (kas_asc p f m)<=m+f/\OU ky p (iZ (klt ky) (kas_asc p f m))/\(iZ (klt ky) (kas_asc p f m)=m+f\/kf ky p (iZ (klt ky) (kas_asc p f m))<kf ky p (iZ (klt ky) (kas_asc p f m)-1))
 |0,m,_,h=>⟨aaj _,aaj _,h,.inl rfl⟩
 |f+1,m,h1,h=>by
  have e:iZ (klt ky) (kas_asc p (f+1) m)=if kf ky p m<kf ky p (m-1) then m else iZ (klt ky) (kas_asc p f (m+1)):=by
   show iZ (klt ky) (if klt ky (p.getD m 0) (p.getD (m-1) 0)=true then _ else _)=_;unfold klt kf;simp only[aaY];split<;>rfl
  rw[e];split
  ·rename_i c;exact⟨aaj _,by lia,h,.inr c⟩
  ·rename_i c;obtain⟨a1,a2,a3,a4⟩:=Kr f (m+1) (by lia) (fun i j hij hj=>by
    by_cases q:j<m
    ·exact h i j hij q
    ·have:j=m:=by lia
     subst this;by_cases q2:i=j
     ·rw[q2];exact aaj _
     ·have:=h i (j-1) (by lia) (by lia);lia)
   exact⟨by lia,by lia,a3,a4.imp (fun z=>by lia) id⟩
def NI.next {m:Nat}(h:NI ky p m) (h1:1<=m) (c:kf ky p m<=kf ky p (m-1)):NI ky p (m+1):=fun i j hij hj=>by
 by_cases q:j<m
 ·exact h i j hij q
 ·have:j=m:=by lia
  subst this;by_cases q2:i=j
  ·rw[q2];exact aaj _
  ·have:=h i (j-1) (by lia) (by lia);lia
def NI.same {q:Array Nat}{m:Nat}(h:NI ky p m) (e:∀k,kf ky q k=kf ky p k):NI ky q m:=fun i j a b=>by rw[e,e];exact h i j a b
structure Ks (n m:Nat) (r:Array Nat×Nat×Nat):Prop where
 sz:r.1.size=n
 ge:m<=r.2.1
 le:r.2.1<=n
 ni:NI ky r.1 r.2.1
 q:r.2.2+1<=r.2.1
 eqs:∀i,r.2.1-(r.2.2+1)<=i->i<r.2.1->kf ky r.1 i=kf ky r.1 (r.2.1-1)
theorem AG:∀(f:Nat) (p:Array Nat) (m q:Nat),p.size=n->1<=m->m+f<=n->NI ky p m->q+1<=m->(∀i,m-(q+1)<=i->i<m->kf ky p i=kf ky p (m-1))->Ks (ky:=ky) n m (iZ (klt ky) (kas_desc f p m q))
 |0,p,m,q,hs,h1,hf,hn,hq,he=>⟨hs,aaj _,hf,hn,hq,he⟩
 |f+1,p,m,q,hs,h1,hf,hn,hq,he=>by
  have e:iZ (klt ky) (kas_desc (f+1) p m q)=if kf ky p m<kf ky p (m-1) then(if q > 0 then iZ (klt ky) (kas_desc f (kas_rev p (m-(q+1)) m) (m+1) 0) else iZ (klt ky) (kas_desc f p (m+1) 0)) else if kf ky p (m-1)<kf ky p m then(p,m,q) else iZ (klt ky) (kas_desc f p (m+1) (q+1)):=by
   show iZ (klt ky) (if klt ky (p.getD m 0) (p.getD (m-1) 0)=true then _ else _)=_;unfold klt kf;simp only[aaY];split
   ·split<;>rfl
   ·show iZ _ (if decide _=true then _ else _)=_;simp only[aaY];split<;>rfl
  have up:∀{p' q'},Ks (ky:=ky) n (m+1) (iZ (klt ky) (kas_desc f p' (m+1) q'))->Ks (ky:=ky) n m (iZ (klt ky) (kas_desc f p' (m+1) q')):=fun d=>⟨d.sz,Nat.le_of_succ_le d.ge,d.le,d.ni,d.q,d.eqs⟩
  rw[e];have one:∀{p':Array Nat}(i:Nat),m+1-(0+1)<=i->i<m+1->kf ky p' i=kf ky p' (m+1-1):=fun i a b=>by rw[show i=m+1-1 by lia]
  split
  ·rename_i c;split
   ·have es:=D0 (ky:=ky) (p:=p) (a:=m-(q+1)) (b:=m) (by lia) he;exact up (AG f _ (m+1) 0 (by unfold kas_rev;rw[mirror_size];exact hs) (by lia) (by lia) ((hn.next h1 (by lia)).same es) (by lia) one)
   ·exact up (AG f p (m+1) 0 hs (by lia) (by lia) (hn.next h1 (by lia)) (by lia) one)
  ·rename_i c;split
   ·exact⟨hs,aaj _,by show m<=n;lia,hn,hq,he⟩
   ·rename_i c2;refine up (AG f p (m+1) (q+1) hs (by lia) (by lia) (hn.next h1 (by lia)) (by lia) fun i a b=>?_);show _=kf ky p m;by_cases z:i=m
    ·rw[z]
    ·rw[he i (by lia) (by lia)];lia
structure M7 (n:Nat) (r:Nat×Array Nat):Prop where
 ge:1<=r.1
 le:r.1<=n
 sz:r.2.size=n
 s:OU ky r.2 r.1
def E7 {m:Nat}(hs:p.size=n) (h1:1<=m) (hm:m<=n) (hn:NI ky p m):M7 (ky:=ky) n (iZ (klt ky) (kas_tail3 m n p)):=by
 unfold kas_tail3;rw[lW];have hs2:(kas_rev p 0 m).size=n:=by unfold kas_rev;rw[mirror_size];exact hs
 obtain⟨a1,a2,a3,_⟩:=Kr (ky:=ky) (p:=kas_rev p 0 m) (n-m) m h1 (fun i j hij hj=>by
  rw[DZ (by lia),DZ (by lia),if_pos (by lia),if_pos (by lia)];exact hn _ _ (by lia) (by lia))
 exact⟨aaC h1 a1,by show iZ _ _<=n;lia,hs2,a3⟩
def wK {m:Nat}(hs:p.size=n) (hm:m+1<=n) (hn:NI ky p (m+1)):M7 (ky:=ky) n (iZ (klt ky) (kas_descPart m n p)):=by
 unfold kas_descPart;rw[lW];have d:=AG (ky:=ky) (n:=n) (n-(m+1)) p (m+1) 0 hs (by lia) (by lia) hn (by lia) (fun i a b=>by rw[show i=m+1-1 by lia]);generalize iZ (klt ky) (kas_desc (n-(m+1)) p (m+1) 0)=r at d;have g:=d.ge;split
 ·exact E7 (by unfold kas_rev;rw[mirror_size];exact d.sz) (by lia) d.le (d.ni.same (D0 (by rw[d.sz];exact d.le) d.eqs))
 ·exact E7 d.sz (by lia) d.le d.ni
def M8 (hs:p.size=n) (h1:1<=n):M7 (ky:=ky) n (iZ (klt ky) (kas_count n p)):=by
 unfold kas_count;rw[lW];obtain⟨a1,a2,a3,a4⟩:=Kr (ky:=ky) (p:=p) (n-1) 1 (aaj _) (fun i j hij hj=>by rw[show i=j by lia];exact aaj _);generalize iZ (klt ky) (kas_asc p (n-1) 1)=r at a1 a2 a3 a4;by_cases e:r=n
 ·rw[if_pos (by simpa using e)];exact⟨a1,by show r<=n;lia,hs,a3⟩
 ·rw[if_neg (by simpa using e)];have a4:kf ky p r<kf ky p (r-1):=a4.resolve_left (by lia);split
  ·show M7 (ky:=ky) n (iZ (klt ky) (if klt ky (p.getD 0 0) (p.getD (r-1) 0)=true then _ else _));by_cases c:kf ky p 0<kf ky p (r-1)
   ·rw[if_pos (show klt ky _ _=true from aaT c)];exact⟨a1,by show r<=n;lia,hs,a3⟩
   ·rw[if_neg (show ¬klt ky _ _=true by unfold klt;simpa[kf] using c)];have es:=D0 (ky:=ky) (p:=p) (a:=0) (b:=r) (by lia) (fun i _ hi=>by
     have h2:=a3 0 i (by lia) hi;have h3:=a3 i (r-1) (by lia) (by lia);lia)
    have ni:NI ky p r:=fun i j hij hj=>by
     have h2:=a3 0 i (by lia) (by lia);have h3:=a3 j (r-1) (by lia) (by lia);lia
    exact wK (by unfold kas_rev;rw[mirror_size];exact hs) (by lia) ((ni.next a1 (by lia)).same es)
  ·have:r=1:=by lia
   subst this;exact wK hs (by lia) (NI.next (fun i j hij hj=>by rw[show i=j by lia];exact aaj _) (aaj _) (abG a4))
structure VJ (p:Array Nat) (k l r x:Nat):Prop where
 ge:l<=x
 le:x<=r
 lo:∀i,i<x->kf ky p i<=kf ky p k
 hi:∀i,x<=i->i<k->kf ky p k<kf ky p i
theorem AH {p:Array Nat}{k:Nat}(hs:OU ky p k):∀(f l r:Nat),l<=r->r<=k->r-l<=f->(∀i,i<l->kf ky p i<=kf ky p k)->(∀i,r<=i->i<k->kf ky p k<kf ky p i)->VJ (ky:=ky) p k l r (iZ (klt ky) (kas_place p k f l r))
 |0,l,r,hl,hr,hf,lo,hi=>by
  have:l=r:=by lia
  subst this;exact⟨aaj _,aaj _,lo,hi⟩
 |f+1,l,r,hl,hr,hf,lo,hi=>by
  unfold kas_place;split
  ·have:l=r:=by lia
   subst this;exact⟨aaj _,aaj _,lo,hi⟩
  ·show VJ (ky:=ky) p k l r (iZ (klt ky) (if klt ky (p.getD k 0) (p.getD ((l+r) / 2) 0)=true then _ else _));by_cases c:kf ky p k<kf ky p ((l+r) / 2)
   ·rw[if_pos (show klt ky _ _=true from aaT c)];have d:=AH hs f l ((l+r) / 2) (by lia) (by lia) (by lia) lo (fun i a b=>by have:=hs _ _ a b;lia);have:=d.le;exact⟨d.ge,by lia,d.lo,d.hi⟩
   ·rw[if_neg (show ¬klt ky _ _=true by unfold klt;simpa[kf] using c)];have d:=AH hs f ((l+r) / 2+1) r (by lia) hr (by lia) (fun i a=>by have:=hs i ((l+r) / 2) (by lia) (by lia);lia) hi;have:=d.ge;exact⟨by lia,d.le,d.lo,d.hi⟩
theorem OV:∀(f:Nat) (p:Array Nat) (k:Nat),p.size=n->k+f=n->OU ky p k->OU ky (iZ (klt ky) (kas_bin f p k)) n
 |0,p,k,hs,hk,h=>by rw[<-hk];exact h
 |f+1,p,k,hs,hk,h=>by
  unfold kas_bin;rw[lW];have d:=AH (ky:=ky) h k 0 k (aaM _) (aaj _) (by lia) (fun i a=>by lia) (fun i a b=>by lia);generalize iZ (klt ky) (kas_place p k k 0 k)=x at d;have hx:=d.le;refine OV f _ (k+1) (by rw[bubble_size];exact hs) (by lia) fun i j hij hj=>?_;rw[Kq (by lia) (by lia),Kq (by lia) (by lia),show k-(k-x)=x by lia];by_cases i1:i=x
  ·rw[if_pos i1];by_cases j1:j=x
   ·rw[if_pos j1];exact aaj _
   ·rw[if_neg j1,if_pos (by lia)];exact abG (d.hi _ (by lia) (by lia))
  ·rw[if_neg i1];by_cases j1:j=x
   ·rw[if_pos j1,if_neg (by lia)];exact d.lo _ (by lia)
   ·rw[if_neg j1];by_cases j2:x<j/\j<=k
    ·rw[if_pos j2];by_cases i2:x<i/\i<=k
     ·rw[if_pos i2];exact h _ _ (by lia) (by lia)
     ·rw[if_neg i2];exact h _ _ (by lia) (by lia)
    ·rw[if_neg j2,if_neg (by lia)];exact h _ _ (by lia) (by lia)
def Ku (h:1<=n):OU ky (iZ (klt ky) (kas_sort n)) n:=by
 unfold kas_sort;rw[lW];have c:=M8 (ky:=ky) (p:=(List.range n).toArray) (by simp) h;generalize iZ (klt ky) (kas_count n (List.range n).toArray)=r at c;have h1:=c.ge;have h2:=c.le;split
 ·rw[Nat.max_eq_left h1];exact OV (n-r.1) r.2 r.1 c.sz (by lia) c.s
 ·have:r.1=n:=by lia
  rw[<-this];exact c.s
end
noncomputable def qD:BBB->BBB->Bool
 |[],[]=>false
 |[],_::_=>true
 |_::_,[]=>false
 |a::l,b::m=>if a=b then qD l m else decide (a.cps.toList<b.cps.toList)
section
variable {prog:Program}{w:World}{A:Around}{E:AAE}{s:Shared}
def Kv {b:Str}{t u:Tok}(h:Q (.bool (decide (a.cps.toList<b.cps.toList))) s):wpAny (model prog w) A (richCompare .Lt (.str a t) (.str b u)) Q E s:=by
 refine wpAny_richCompare_same (T:="str") rfl rfl F.slot_str_lt ?_;refine abR F.slot_str_lt rfl F.entry_str_lt ?_ (F.args_str_lt_2 _ _);refine wpAny_pure ⟨_,rfl,?_,?_⟩
 ·exact fun z=>by cases z
 ·exact h
theorem wL:∀{xs:AAL}{ns:BBB},StrsAre xs ns->∀{i:Nat}{a:Str},ns[i]? =some a->∃t,xs[i]? =some (.str a t)
 |_,_,.nil,_,_,h=>by cases h
 |_,_,.cons n t r,0,_,h=>by cases h;exact⟨t,rfl⟩
 |_,_,.cons n t r,i+1,_,h=>wL r (i:=i) h
def M9 {l b:Addr}{n n2:Nat}{o1 o2:Obj}(d1:o1.data= .seq xs.toArray n) (d2:o2.data= .seq ys.toArray n2) (hx:StrsAre xs ns) (hy:StrsAre ys ms):∀(k i:Nat),ns.length-i=k->i<=ns.length->i<=ms.length->
  Meets (Builtin.«list.__eq__.loop» {pos:=[.ref l,.ref b,rawInt (i:Nat),rawInt 0]}) fun A R s=>s.heap.get? l=some o1/\s.heap.get? b=some o2/\R (.ok (.ret (.bool (qD (ns.drop i) (ms.drop i))))) s:=by
 intro k
 induction k with
 |zero=>
  intro i hi i1 i2 prog w A R s ⟨h1,h2,h3⟩;have lx:xs.length=ns.length:=hx.length;have ly:ys.length=ms.length:=hy.length;have xn:xs.toArray[((i:Nat):Int).toNat]? =none:=by rw[acr];exact abF (by rw[lx];show _<=i;lia)
  have e:qD (ns.drop i) (ms.drop i)=decide (xs.toArray.size<ys.toArray.size):=by
   rw[List.drop_eq_nil_of_le (show ns.length<=i by lia),aad,aad,lx,ly];cases hd:ms.drop i with
   |nil=>rw[aaS (by have:=List.drop_eq_nil_iff.mp hd;lia)];rfl
   |cons a r=>
    have:i<ms.length:=by have:=congrArg List.length hd;rw[abr,aaG] at this;lia
    rw[aaT (by lia)];rfl
  rw[e] at h3;unfold Builtin.«list.__eq__.loop»
  refine aab (abI h1 d1 ?_);refine aab (abI h2 d2 ?_)
  try dsimp only
  rw[xn];refine aab (abI h1 d1 ?_);refine aab (abI h2 d2 ?_);exact wpAny_pure h3
 |succ k ih=>
  intro i hi i1 i2 prog w A R s ⟨h1,h2,h3⟩;have lx:xs.length=ns.length:=hx.length;have ly:ys.length=ms.length:=hy.length;have ha:ns[i]? =some ns[i]:=aal (by lia);have da:ns.drop i=ns[i]::ns.drop (i+1):=abv (by lia);obtain⟨t,xa⟩:=wL hx ha;have xa:xs.toArray[((i:Nat):Int).toNat]? =some (.str ns[i] t):=by rw[acr];exact xa
  by_cases q:i<ms.length
  ·have hb:ms[i]? =some ms[i]:=aal q;have db:ms.drop i=ms[i]::ms.drop (i+1):=abv q;obtain⟨u,ya⟩:=wL hy hb;have ya:ys.toArray[((i:Nat):Int).toNat]? =some (.str ms[i] u):=by rw[acr];exact ya
   rw[da,db] at h3;unfold qD at h3;unfold Builtin.«list.__eq__.loop»
   refine aab (abI h1 d1 ?_);refine aab (abI h2 d2 ?_)
   try dsimp only
   rw[xa,ya];refine aab (wpAny_eqBool_str ?_);by_cases c:ns[i]=ms[i]
   ·rw[if_pos c] at h3;rw[if_pos (aaT c)];refine wpAny_pure ⟨acK MeetsSeq3.plain_eq_loop _,ab8 MeetsSeq3.entry_eq_loop ?_⟩;exact ih (i+1) (by lia) (by lia) (by lia) prog w _ R s ⟨h1,h2,h3⟩
   ·rw[if_neg c] at h3;rw[if_neg (by simpa using c)];refine aab (abI h1 d1 ?_);refine aab (abI h2 d2 ?_)
    try dsimp only
    rw[xa,ya];refine aab (Kv ?_);exact wpAny_pure h3
  ·have ya:ys.toArray[((i:Nat):Int).toNat]? =none:=by rw[acr];exact abF (by rw[ly];show _<=i;lia)
   have e:qD (ns.drop i) (ms.drop i)=decide (xs.toArray.size<ys.toArray.size):=by
    rw[da,List.drop_eq_nil_of_le (show ms.length<=i by lia),aad,aad,lx,ly,aaS (by lia)];rfl
   rw[e] at h3;unfold Builtin.«list.__eq__.loop»
   refine aab (abI h1 d1 ?_);refine aab (abI h2 d2 ?_)
   try dsimp only
   rw[xa,ya];refine aab (abI h1 d1 ?_);refine aab (abI h2 d2 ?_);exact wpAny_pure h3
def Cq {x y:Addr}(ix:s.heap.IsList x xs.toArray) (iy:s.heap.IsList y ys.toArray) (hx:StrsAre xs ns) (hy:StrsAre ys ms) (hu:A.units<cLine){Q:Bool->Shared->Prop}(h:Q (qD ns ms) s):wpAny (model prog w) A (oneLt' true (.ref x) (.ref y)) Q E s:=by
 obtain⟨o1,h1,c1,n,d1⟩:=ix;obtain⟨o2,h2,c2,n2,d2⟩:=iy;rw[oneLt'_eq,if_pos rfl];refine aab (wpAny_cRoomFor hu ?_);refine aab (wpAny_callSpecialIfBound?_slot (T:="list") ⟨_,h1,c1⟩ F.slot_list_lt ?_);refine call_meets F.slot_list_lt ⟨_,h1,c1⟩ F.entry_list_lt (F.args_list_lt_2 _ _) (S:=fun A R s=>s.heap.get? x=some o1/\s.heap.get? y=some o2/\R (.ok (.ret (.bool (qD ns ms)))) s) ?_ ⟨h1,h2,?_⟩
 ·intro prog w A R s ⟨h1,h2,h3⟩;show wpAny _ _ (slotArgs "__lt__" 1 _ >>= _) _ _ _;refine aab (wpAny_pure ?_);refine aab (adL (T:="list") ⟨_,h2,c2⟩ rfl ?_)
  try dsimp only
  refine wpAny_pure ⟨acK MeetsSeq3.plain_eq_loop _,ab8 MeetsSeq3.entry_eq_loop ?_⟩;exact M9 d1 d2 hx hy _ 0 rfl (aaM _) (aaM _) prog w _ R s ⟨h1,h2,h3⟩
 ·show wpAny _ _ (truthOfDropped (.bool _)) _ _ _;exact wpAny_pure h
end
def Kw {b:Str}(h:a≠b):a.cps.toList<b.cps.toList\/b.cps.toList<a.cps.toList:=by
 by_cases p:a.cps.toList<b.cps.toList
 ·exact .inl p
 ·by_cases q:b.cps.toList<a.cps.toList
  ·exact .inr q
  ·exact absurd (J7 q p) h
theorem AI:∀a:BBB,qD a a=false
 |[]=>rfl
 |a::l=>by unfold qD;rw[if_pos rfl];exact AI l
def wM {b:Str}{l m:BBB}:qD (a::l) (b::m)=true↔(a=b/\qD l m=true)\/a.cps.toList<b.cps.toList:=by
 rw[show qD (a::l) (b::m)=if a=b then qD l m else decide (a.cps.toList<b.cps.toList) from rfl];by_cases h:a=b
 ·subst h;rw[if_pos rfl];exact⟨fun q=>.inl ⟨rfl,q⟩,fun q=>q.elim (·.2) fun q=>absurd q (List.lt_irrefl _)⟩
 ·rw[if_neg h,aec];exact⟨.inr,fun q=>q.elim (fun q=>absurd q.1 h) id⟩
theorem tY:∀{a b c:BBB},qD a b=true->qD b c=true->qD a c=true
 |[],[],_,h,_=>by cases h
 |[],_::_,[],_,k=>by cases k
 |[],_::_,_::_,_,_=>rfl
 |_::_,[],_,h,_=>by cases h
 |_::_,_::_,[],_,k=>by cases k
 |a::l,b::m,c::r,h,k=>by
  rw[wM] at *;rcases h with⟨rfl,h⟩|h
  ·rcases k with⟨rfl,k⟩|k
   ·exact .inl ⟨rfl,tY h k⟩
   ·exact .inr k
  ·rcases k with⟨rfl,k⟩|k
   ·exact .inr h
   ·exact .inr (List.lt_trans h k)
theorem AJ:∀{a b:BBB},qD a b=false->qD b a=false->a=b
 |[],[],_,_=>rfl
 |[],_::_,h,_=>by cases h
 |_::_,[],_,k=>by cases k
 |a::l,b::m,h,k=>by
  by_cases e:a=b
  ·subst e;unfold qD at h k;rw[if_pos rfl] at h k;rw[AJ h k]
  ·rcases Kw e with q|q
   ·rw[wM.mpr (.inr q)] at h;cases h
   ·rw[wM.mpr (.inr q)] at k;cases k
theorem D3 {α:Type}{p q:α->Bool}{a:α}(hq:q a=true) (hp:p a=false):∀{L:List α},(∀x,p x=true->q x=true)->a∈L->L.countP p<L.countP q
 |x::L,h,ha=>by
  rw[List.countP_cons,List.countP_cons];have m:L.countP p<=L.countP q:=List.countP_mono_left fun x _=>h x;rcases aao.mp ha with rfl|ha
  ·rw[hq,hp];simp;lia
  ·have:=D3 hq hp h ha;cases e:p x
   ·cases q x<;>simp<;>lia
   ·rw[h x e];simp;exact this
def HA (ks:List (BBB)) (i:Nat):Nat:=(([]:BBB)::ks).countP fun r=>qD r (ks.getD i [])
def getD_in (ks:List (BBB)) (i:Nat):ks.getD i []∈(([]:BBB)::ks):=by
 rw[aaE];cases h:ks[i]? with
 |none=>exact aak
 |some r=>exact aag _ (aaW h)
def Ky (ks:List (BBB)) (i j:Nat):qD (ks.getD i []) (ks.getD j [])=decide (HA ks i<HA ks j):=by
 cases h:qD (ks.getD i []) (ks.getD j []) with
 |true=>
  rw[aaT];exact D3 (p:=fun r=>qD r (ks.getD i [])) (q:=fun r=>qD r (ks.getD j [])) (a:=ks.getD i []) h (AI _) (fun x hx=>tY hx h) (getD_in ks i)
 |false=>
  rw[aaS];have:HA ks j<=HA ks i:=by
   cases k:qD (ks.getD j []) (ks.getD i []) with
   |true=>exact abG (D3 (p:=fun r=>qD r (ks.getD j [])) (q:=fun r=>qD r (ks.getD i [])) (a:=ks.getD j []) k (AI _) (fun x hx=>tY hx k) (getD_in ks j))
   |false=>unfold HA;rw[AJ h k];exact aaj _
  lia
def lq (ks:List (BBB)):BBJ:=if ks.length<2 then List.range ks.length else(iZ (klt (HA ks)) (kas_sort ks.length)).toList
def jZ (ks:List (BBB)):(lq ks).Perm (List.range ks.length):=by
 unfold lq;split
 ·exact aci _
 ·exact(tT (by lia)).go
def E8 (ks:List (BBB)):((lq ks).map fun i=>ks.getD i []).Pairwise fun a b=>qD b a=false:=by
 have pm:=jZ ks;unfold lq at pm ⊢;split
 ·rename_i h;rw[abY];rcases ks with _|⟨a,_|⟨b,ks⟩⟩
  ·exact List.Pairwise.nil
  ·exact aeJ _ _
  ·exact absurd h (by simp)
 ·rename_i h;rw[if_neg h] at pm;have s:=Ku (ky:=HA ks) (n:=ks.length) (by lia);generalize iZ (klt (HA ks)) (kas_sort ks.length)=p at *;have sz:p.size=ks.length:=by have:=pm.length_eq;rwa [aaL,abk] at this
  rw[abY,acz];intro i j hi hj hij;rw[aaL,sz] at hj;rw[aaL,sz] at hi;have:=s i j (abG hij) hj;unfold kf at this;rw[aaR,aaR,aaK (by lia),aaK (by lia)] at this;rw[Ky,aaS];simp only[acg,ade] at this ⊢;lia
def tZ (ks:List (BBB)):((lq ks).map fun i=>ks.getD i []).Perm ks:=by
 have p:=(jZ ks).map fun i=>ks.getD i [];have e:(List.range ks.length).map (fun i=>ks.getD i [])=ks:=by
  apply adB;intro i;by_cases hi:i<ks.length
  ·simp[hi]
  ·simp[hi]
 rw[e] at p;exact p
def kR (ks:List (BBB)):List (BBB):=(lq ks).map fun i=>ks.getD i []
def wN {a b:List (BBB)}(h:a.Perm b):kR a=kR b:=
 aeE (fun x y _ _ h1 h2=>AJ h2 h1) (E8 a) (E8 b) ((tZ a).trans (h.trans (tZ b).symm))
def mQ (ks:List (BBB)):(kR ks).Perm ks:=tZ ks
section
variable {α:Type}{n:Nat}
theorem Kz {cmp:Nat->Nat->(Bool->Shared->Prop)->Shared->Prop}{Bp:Nat->Nat->Bool}{R:α->Prop}{G:α->Shared->Prop}{s:Shared}(hc:∀i j C,i<n->j<n->C (Bp i j) s->cmp i j C s):∀{t:KasT α},yQ n R t->G (iZ Bp t) s->t.kasWp cmp G s
 |.ret _,_,g=>g
 |.ask i j k,h,g=>hc i j _ h.1 h.2.1 (Kz hc (t:=k (Bp i j)) (h.2.2 _) g)
end
def qc (b:Bool) (g:Heap) (v:Value) (k:BBB):Prop:=if b then ∃a t,v= .str a t/\k=[a] else ∃c xs,v= .ref c/\g.IsList c xs.toArray/\StrsAre xs k
section
variable {prog:Program}{w:World}{A:Around}{E:AAE}{s:Shared}{a l:Addr}{b:Bool}{vs:AAL}{ks:List (BBB)}{P:PySem.Fin->Shared->Prop}{g0:Heap}
def Q7 {x y:Value}{k m:BBB}(hx:qc b s.heap x k) (hy:qc b s.heap y m) (hu:A.units<cLine){Q:Bool->Shared->Prop}(h:Q (qD k m) s):wpAny (model prog w) A (oneLt' true x y) Q E s:=by
 cases b with
 |true=>
  obtain⟨c,t,rfl,rfl⟩:=hx;obtain⟨d,u,rfl,rfl⟩:=hy;have e:qD [c] [d]=decide (c.cps.toList<d.cps.toList):=by
   unfold qD;split
   ·rename_i z;subst z;rw[aaS (List.lt_irrefl _)];rfl
   ·rfl
  rw[e] at h;exact strKind_oneLt prog w A E s _ _ _ _ rfl rfl h
 |false=>
  obtain⟨c,xs,rfl,i1,s1⟩:=hx;obtain⟨d,ys,rfl,i2,s2⟩:=hy;exact Cq i1 i2 s1 s2 hu h
def qc.keep {h h':Heap}{v:Value}{k:BBB}(x:qc b h v k) (e:∀c o,h.get? c=some o->h'.get? c=some o):qc b h' v k:=by
 cases b with
 |true=>exact x
 |false=>
  obtain⟨c,xs,rfl,⟨o,g,r⟩,s⟩:=x;exact⟨c,xs,rfl,⟨o,e _ _ g,r⟩,s⟩
def HB {n:Nat}(ho:s.heap.get? a=some (seqObj "list" vs.toArray n)) (hk0:∀c o,g0.get? c=some o->s.heap.get? c=some o) (ga:g0.get? a=none) (hlen:ks.length=vs.length) (h64:vs.length<64) (hu:A.units<cLine) (hv:∀(i:Nat) v k,vs[i]? =some v->ks[i]? =some k->qc b g0 v k)
  (h:∀h' c,(∀d o,g0.get? d=some o->h'.get? d=some o)->h'.get? a=some (seqObj "list" ((lq ks).map fun i=>vs.getD i Value.none).toArray c)->P (.done (.ret .none)) {s with heap:=h'}):
  wpAny (model prog w) A (Builtin.«list.sort» {pos:=[.ref a]}) P E s:=by
 have ha:a<s.heap.objs.size:=aap ho;have s1:=abL s.heap a (Obj.mapSeq fun _=>(#[]:AAK));obtain⟨e1,JR⟩:∃e1,(s.heap.update a (Obj.mapSeq fun _=>(#[]:AAK))).get? a=some (seqObj "list" #[] e1):=⟨_,adl ho fun _=>#[]⟩
 have ol:(lq ks).length=vs.length:=by rw[(jZ ks).length_eq,abk,hlen]
 rw[list_sort_plain];refine aab (abI ho rfl ?_);refine aab (adg ho rfl ?_ (by rw[aad,abC];lia) (aaM _));refine aab (seqEpoch_at JR rfl ?_);refine aab (wpAny_newTuple ?_ (by show vs.length<=_;rw[abC];lia));refine aab (adJ ?_ (aaM _));refine abq ?_;have na:(((s.heap.update a (Obj.mapSeq fun _=>(#[]:AAK))).push (seqObj "tuple" vs.toArray 0)).push (seqObj "list" #[] 0)).get? a=some (seqObj "list" #[] e1):=aac _ (aac _ JR);have kp:∀c o,g0.get? c=some o->(((s.heap.update a (Obj.mapSeq fun _=>(#[]:AAK))).push (seqObj "tuple" vs.toArray 0)).push (seqObj "list" #[] 0)).get? c=some o:=fun c o z=>aac _ (aac _ ((s1.2 c (fun q=>by rw[q,ga] at z;cases z)).trans (hk0 c o z)));show wpAny _ _ _ _ _ {s with heap:=((s.heap.update a (Obj.mapSeq fun _=>(#[]:AAK))).push (seqObj "tuple" vs.toArray 0)).push (seqObj "list" #[] 0)};generalize ((s.heap.update a (Obj.mapSeq fun _=>(#[]:AAK))).push (seqObj "tuple" vs.toArray 0)).push (seqObj "list" #[] 0)=hB at na kp;have tail:∀(st:SortSt),(arrOf st).map (·.2)=((lq ks).map fun i=>vs.getD i Value.none).toArray->failedOf st=none->wpAny (model prog w) A (do
   let __do_lift <-seqEpoch a
   have touched:Bool:=__do_lift != e1
   Builtin.List.listUpdate (Value.ref a) fun x=>(arrOf st).map (·.2)
   have __do_jp:Unit->Sem PySem.Fin:=fun __r=>
    have __do_jp:=fun __r=>ret Value.none;
    if touched=true then do
     rule "list.sort.modified"
     let __r <-raiseErrorWords "ValueError" "list modified during sort"
     __do_jp __r
    else __do_jp ()
   match failedOf st with
    |some e=>do
     rule "list.sort.comparison-raised"
     let __r <-throw e
     __do_jp __r
    |x=>__do_jp ()) P E {s with heap:=hB}:=by
  intro st hst hfl;have s2:=abL hB a (Obj.mapSeq fun _=>(arrOf st).map (·.2));refine aab (seqEpoch_at na rfl ?_);refine aab (adg na rfl ?_ (aaM _) (by show((arrOf st).map (·.2)).size<=_;rw[hst,aad,aai,ol,abC];lia));rw[hfl];simp only[bne_self_eq_false,ack,acu];refine wpAny_pure (h _ _ (fun c o z=>?_) (by rw[<-hst];exact adl na fun _=>(arrOf st).map (·.2)));exact(s2.2 c (fun q=>by rw[q,ga] at z;cases z)).trans (kp c o z)
 try dsimp only
 by_cases h2:vs.toArray.size<2
 ·rw[if_pos h2];refine aab (wpAny_pure ?_);rw[if_pos h2,StateT.run_pure];refine aab (wpAny_pure ?_);refine tail _ ?_ rfl;have e0:lq ks=List.range vs.length:=by unfold lq;rw[if_pos (by rw[hlen];simpa using h2),hlen]
  rw[e0];show(vs.toArray.zip vs.toArray).map (·.2)=_;apply acT;intro i;by_cases hi:i<vs.length
  ·simp[hi]
  ·simp[hi]
 ·rw[if_neg h2];have h2':2<=vs.length:=by rw[aad] at h2;lia
  have kat:∀(i:Nat) v k,vs[i]? =some v->ks[i]? =some k->qc b hB v k:=fun i v k x y=>(hv i v k x y).keep kp;have aae:∀v∈vs,∃k,qc b g0 v k:=fun v hv'=>by
   obtain⟨i,hi,e⟩:=List.getElem_of_mem hv';exact⟨_,hv i v ks[i] (by rw[aal hi,e]) (aal (by lia))⟩
  refine aab (PySem.W.kas_kind (T:=.type (if b then "str" else "list")) h2' (fun v hv'=>?_) (by cases b<;>rfl) (by cases b<;>rfl) ?_)
  ·obtain⟨k,hk⟩:=aae v hv';have hk:=hk.keep kp;cases b with
   |true=>obtain⟨c,t,rfl,_⟩:=hk;exact fun A Q E s _ h=>wpAny_pure h
   |false=>obtain⟨c,xs,rfl,⟨o,g,r,_⟩,_⟩:=hk;exact fun A Q E s k q=>wpAny_typeOf_ref (k _ _ g) (by rw[r];exact q)
  ·rw[if_neg h2];have hrun:=kas_runs (prog:=prog) (w:=w) (A:=A) (E:=E) (κ:=oneType') (it:=vs.toArray.zip vs.toArray) (n:=vs.length) (s:={s with heap:=hB}) (Q:=fun _ st' s'=>s'={s with heap:=hB}/\arrOf st'=(iZ (klt (HA ks)) (kas_sort vs.length)).map (kas_item (vs.toArray.zip vs.toArray))/\failedOf st'=none)
    (G:=fun p' s'=>s'={s with heap:=hB}/\p'=iZ (klt (HA ks)) (kas_sort vs.length)) h2' h64 (fun p' st' s' _ a1 a2 a3=>⟨a3.1,by rw[<-a3.2];exact a1,a2⟩)
    (Kz (n:=vs.length) (R:=d7 vs.length) (fun i j C hi hj hC=>by
     have item:∀i,i<vs.length->qc b hB (kas_item (vs.toArray.zip vs.toArray) i).1 (ks.getD i []):=fun i hi=>by
      have e:(kas_item (vs.toArray.zip vs.toArray) i).1=vs[i]:=by simp[kas_item,Array.getD,hi]
      rw[e];exact kat i _ _ (aal hi) (by rw[aaE,aal (by lia)];rfl)
     unfold kas_cmp;rw[keyLt'_oneType];refine Q7 (item i hi) (item j hj) hu ?_;rw[Ky];exact hC) (tT (by lia)) ⟨rfl,rfl⟩)
   have e0:kas_st oneType' (vs.toArray.zip vs.toArray) (List.range vs.length).toArray=SortSt.mk' oneType' (vs.toArray.zip vs.toArray) #[] 7 none:=by
    unfold kas_st;rw[yS vs.toArray vs aad]
   rw[e0] at hrun;refine aab (abn hrun ?_ fun _ _ e=>e);rintro⟨⟨⟩,st'⟩ s' ⟨rfl,ha,hf⟩
   try dsimp only
   refine tail st' ?_ hf;have e1:lq ks=(iZ (klt (HA ks)) (kas_sort vs.length)).toList:=by unfold lq;rw[if_neg (by lia),hlen]
   rw[ha,e1];have good:d7 vs.length (iZ (klt (HA ks)) (kas_sort vs.length)):=(tT (by lia)).go;generalize iZ (klt (HA ks)) (kas_sort vs.length)=p at *;apply acT;intro i;by_cases hi:i<p.size
   ·have hpi:p[i]<vs.length:=aa6.mp (good.mem_iff.mp (by simp));simp[hi,kas_item,Array.getD,hpi]
   ·simp[hi]
def Na (hl:s.heap.IsList l vs.toArray) (hlen:ks.length=vs.length) (h64:vs.length<64) (hu:A.units+2<cLine) (hv:∀(i:Nat) v k,vs[i]? =some v->ks[i]? =some k->qc b s.heap v k)
  (h:∀D h' c,s.heap.objs.size<=D->(∀b o,s.heap.get? b=some o->h'.get? b=some o)->h'.get? D=some (seqObj "list" ((lq ks).map fun i=>vs.getD i Value.none).toArray c)->Q (.ref D) {s with heap:=h'}):
  wpAny (model prog w) A (call (.builtin "sorted") [.ref l]) Q E s:=by
 refine call_function_entry kind_sorted plain_sorted entry_sorted (args_sorted1 _) ?_;unfold Builtin.«sorted»
 refine aab (m:=checkCount "sorted" 1 1 _) (wpAny_pure ?_);refine aab (collect_list hl ?_ (by rw[abC];lia));refine aab (adJ ?_ (by rw[abC];lia));have hsz:((s.heap.push (seqObj "list" #[] 0)).update s.heap.objs.size (Obj.mapSeq (· ++vs.toArray))).objs.size=s.heap.objs.size+1:=by
  rw[aeD,size_push']
 have Ii:(((s.heap.push (seqObj "list" #[] 0)).update s.heap.objs.size (Obj.mapSeq (· ++vs.toArray))).push (seqObj "list" vs.toArray 0)).get? (s.heap.objs.size+1)=some (seqObj "list" vs.toArray 0):=by
  rw[<-hsz];exact aaB _ rfl
 have keep:∀b o,s.heap.get? b=some o->(((s.heap.push (seqObj "list" #[] 0)).update s.heap.objs.size (Obj.mapSeq (· ++vs.toArray))).push (seqObj "list" vs.toArray 0)).get? b=some o:=fun b o q=>by
  have hlt:b<s.heap.objs.size:=aap q;rw[adF _ _ _ (by rw[hsz];exact aaF (ace hlt)),Heap.get?_update_ne _ _ _ _ (aaF hlt),adF _ _ _ (aaF hlt)];exact q
 have fr:s.heap.get? (s.heap.objs.size+1)=none:=ada (acj _);show wpAny _ _ _ _ _ {s with heap:=((s.heap.push (seqObj "list" #[] 0)).update s.heap.objs.size (Obj.mapSeq (· ++vs.toArray))).push (seqObj "list" vs.toArray 0)};rw[hsz];refine aab (abq (abR slot_list_sort ⟨_,Ii,rfl⟩ entry_list_sort ?body (args_list_sort _)))
 case body=>
  refine HB (g0:=s.heap) (b:=b) (ks:=ks) Ii keep fr hlen h64 hu hv fun h' c a1 a2=>⟨_,rfl,?_⟩
  exact wpAny_pure ⟨_,rfl,h _ h' c (acj _) a1 a2⟩
end
def wO:List D->Option (List (BBB))
 |[]=>some []
 |.lst xs::ds=>(kP xs).bind fun r=>(wO ds).map fun rs=>r::rs
 |_=>none
def uM (b:Bool) (ds:List D):Option (List (BBB)):=if b then(kP ds).map fun ns=>ns.map fun a=>[a] else wO ds
def Cr (ks:List (BBB)) (ds:List D):List D:=(lq ks).map fun i=>ds.getD i .bQ
def lu (b:Bool):List D->Option U
 |[.lst ds]=>(uM b ds).bind fun ks=>if ds.length<64 then some (.m (.lst (Cr ks ds))) else none
 |_=>none
def D4 {b:Bool}{d:D}{u:U}(h:lu b [d]=some u):∃ds ks,d= .lst ds/\uM b ds=some ks/\ds.length<64/\u= .m (.lst (Cr ks ds)):=by
 cases d with
 |lst ds=>
  obtain⟨ks,h1,h2⟩:=aj (show(uM b ds).bind _=some u from h);obtain⟨h3,h4⟩:=bW h2;exact⟨ds,ks,rfl,h1,h3,h4.symm⟩
 |_=>cases h
theorem wQ:∀{ds:List D}{ns:BBB},kP ds=some ns->ds=ns.map D.str
 |[],ns,h=>by cases h;rfl
 |d::ds,ns,h=>by
  cases d with
  |str a=>
   obtain⟨r,h1,h2⟩:=au (show(kP ds).map _=some ns from h);subst h2;rw[wQ h1];rfl
  |_=>cases h
noncomputable def nC (r:BBB):D:=.lst (r.map D.str)
theorem wR:∀{ds:List D}{ks:List (BBB)},wO ds=some ks->ds=ks.map nC
 |[],ns,h=>by cases h;rfl
 |d::ds,ns,h=>by
  cases d with
  |lst xs=>
   obtain⟨r,h1,h2⟩:=aj (show(kP xs).bind _=some ns from h);obtain⟨rs,h3,h4⟩:=au h2;subst h4;rw[wQ h1,wR h3];rfl
  |_=>cases h
theorem rQ:∀ns:BBB,kP (ns.map D.str)=some ns
 |[]=>rfl
 |a::ns=>by show(kP (ns.map D.str)).map _=_;rw[rQ];rfl
theorem Cs:∀ks:List (BBB),wO (ks.map nC)=some ks
 |[]=>rfl
 |r::ks=>by show(kP (r.map D.str)).bind _=_;rw[rQ,aah,Cs];rfl
def yY (f:BBB->D) (ks:List (BBB)):Cr ks (ks.map f)=(kR ks).map f:=by
 unfold Cr kR;rw[abE];refine acF fun i hi=>?_;have:i<ks.length:=aa6.mp ((jZ ks).mem_iff.mp hi);simp[this]
def nA (ns:BBB):BBB:=(kR (ns.map fun a=>[a])).map fun r=>r.headD ""
def HC (ns:BBB):kR (ns.map fun a=>[a])=(nA ns).map fun a=>[a]:=by
 unfold nA;rw[abE];have:∀r∈kR (ns.map fun a=>[a]),r=[r.headD ""]:=fun r hr=>by
  obtain⟨a,_,rfl⟩:=aaD.mp ((mQ _).mem_iff.mp hr);rfl
 refine(List.map_id _).symm.trans (acF fun r hr=>this r hr)
def wU (ns:BBB):(nA ns).Perm ns:=by
 have:=(mQ (ns.map fun a=>[a])).map fun r=>r.headD "";rw[abE] at this;exact this.trans (List.Perm.of_eq (List.map_id _))
def D5 {a b:BBB}(h:a.Perm b):nA a=nA b:=by unfold nA;rw[wN (h.map _)]
def Nc (h:ns.length<64):lu true [.lst (ns.map D.str)]=AAB ((nA ns).map D.str):=by
 show(uM true (ns.map D.str)).bind _=_;rw[show uM true (ns.map D.str)=(kP (ns.map D.str)).map fun ns=>ns.map fun a=>[a] from rfl,rQ];show(if(ns.map D.str).length<64 then _ else _)=_;rw[if_pos (by rw[aai];exact h)];have e:ns.map D.str=(ns.map fun a=>[a]).map fun r=>.str (r.headD ""):=by rw[abE];rfl
 rw[e,yY,HC,abE];rfl
def E9 (h:ks.length<64):lu false [.lst (ks.map nC)]=AAB ((kR ks).map nC):=by
 show(uM false (ks.map nC)).bind _=_;rw[show uM false (ks.map nC)=wO (ks.map nC) from rfl,Cs];show(if(ks.map nC).length<64 then _ else _)=_;rw[if_pos (by rw[aai];exact h),yY]
def HD {b:Bool}{ds:List D}(h:uM b ds=some ks):ks.length=ds.length:=by
 cases b with
 |true=>
  obtain⟨ns,h1,h2⟩:=au (show(kP ds).map _=some ks from h);subst h2;rw[wQ h1,aai,aai]
 |false=>rw[wR (show wO ds=some ks from h),aai]
theorem wV:∀{ns:BBB}{its:AAL},Vals (ns.map V.str) its->StrsAre its ns
 |[],_,r=>by cases r;exact .nil
 |n::ns,_,r=>by
  cases r with
  |cons q t=>
   obtain⟨t',rfl⟩:=q;exact .cons _ _ (wV t)
section
variable {X:Cx}{a:Expr}{pos p:Pos}{ga:GD}{b:Bool}
def rR (b:Bool) (hu:X.A.units+64<cLine) (Vo:Gl X "sorted") (hm1:X.mg "sorted" =none) (ha:JD X a ga) (hs2:starEach [a] X.env=(false,eval a X.env)::starEach [] X.env:=by rfl):
  JE X (.Call (.Name "sorted" p) [a] [] pos) (eP (lu b) (ah ga aF)):=⟨fun B=>by
 rintro pins s σ H Q I ⟨S,F,u,S',R,hg,q⟩;obtain⟨⟨dl,S1⟩,h1,hg⟩:=aj hg;obtain⟨w',h2,hg⟩:=au hg;cases hg;obtain⟨⟨d,S2⟩,h3,h1⟩:=aj h1;obtain⟨⟨dr,S3⟩,h4,h1⟩:=au h1;cases h4;cases h1;obtain⟨ds,ks,rfl,hks,h64,rfl⟩:=D4 h2;have kl:=HD hks;refine abW (mz I Vo hm1 ads ?_ (by decide) (by decide));refine acR (dW (gj (ha.h B) k7 hs2 pos pins s σ H (fun vs H1=>∃v F1,vs=[v]/\Rel X.K B S2 σ F1 H1/\Step S S2 σ F H F1 H1/\Rep F1 v (.lst ds)) I ⟨S,F,_,S2,R,h3,fun v F1 H1 R1 st1 r1=>⟨v,F1,rfl,R1,st1,r1⟩⟩) ?_) hs2 rfl;rintro us s1 ⟨vs,H1,I1,r1,v,F1,rfl,R1,st1,rd⟩;obtain⟨u',rfl,ru⟩:=vals1 r1;obtain⟨a',vs',rfl,fa,hla,nh⟩:=R1.sub.gF rd;cases ru;obtain⟨its,rv,pl,hz⟩:=I1.list (.inl hla);have xl:=nh.length;have il:its.length=vs'.length:=rv.length.symm;refine Na (b:=b) (ks:=ks) (vs:=its) pl.isList (by lia) (by lia) (by lia) (fun i v k hi hk=>?_) fun D h' c hD hk hat=>?_
 ·obtain⟨x,g1,g2⟩:=g6 rv hi;cases b with
  |true=>
   obtain⟨ns,q1,q2⟩:=au (show(kP ds).map _=some ks from hks);subst q2;obtain rfl:=qA nh q1;rw[aaI] at hk;obtain⟨n,e1,e2⟩:=Option.map_eq_some_iff.mp hk;subst e2;rw[aaI,e1] at g1;cases g1;obtain⟨t,rfl⟩:=g2;exact⟨n,t,rfl,rfl⟩
  |false=>
   have hks:wO ds=some ks:=hks;obtain rfl:=wR hks;obtain⟨y,e1,e2⟩:=nh.get (i:=i) (d:=nC k) (by rw[aaI,hk];rfl);rw[g1] at e1;cases e1;obtain⟨a2,ys,rfl,f2,e3,LB⟩:=R1.sub.gF e2;cases g2;obtain⟨its2,rv2,pl2,hz2⟩:=I1.list (.inl e3);obtain rfl:=qA LB (rQ k);exact⟨a2,its2,rfl,pl2.isList,wV rv2⟩
 ·have ol:∀i∈lq ks,i<ds.length:=fun i hi=>by rw[<-kl];exact aa6.mp ((jZ ks).mem_iff.mp hi)
  have hp:H1 D=none:=I1.hok.fresh hD;have n1:=fV.obj (F:=F1) hp (.lst ((lq ks).map fun i=>vs'.getD i .bQ));have s4:=R1.sub.same n1.same;have Vp:((lq ks).map fun i=>vs'.getD i V.bQ).length<=sizeLine:=by
   rw[aai,(jZ ks).length_eq,abk,kl];exact aaC (abG h64) (by decide)
  have hvv:=tV rv (lq ks) fun i hi=>by rw[xl];exact ol i hi
  exact⟨.ref D,_,I1.laid (a:=D) (o:=.lst ((lq ks).map fun i=>vs'.getD i V.bQ)) (h':=h') (t':=s1.toks) hk hD ⟨Vp,_,c,hvv,hat⟩,rfl,
   q _ F1 _ (R1.new n1 s4) (st1.trans n1.step) (vH.Ad (u:=.m (.lst (Cr ks ds))) R1 st1 ⟨_,rfl,hp,R1.sub.fresh hp,_,aO,tU nh (lq ks) ol⟩)⟩⟩
end
end L2
end
section
namespace L2
open PySem PySem.Spec PyProof.Rows
def Q8 (C:Addr) (i:Nat) (f:Str) (j:Nat) (gk:GD):GD:=fun S=>(yh C S i f).bind fun c=>(gk S).bind fun p=>(yW p.2 j c).bind fun ds=>match p.1 with
 |.int n=>(dX ds n).map fun d=>(d,p.2)
 |_=>none
noncomputable def KA:List D->Option U
 |[.int z]=>some (.t (.int (Builtin.Int.intBits z)))
 |_=>none
section
variable {X:Cx}{C:Addr}{k o:Expr}{x f:Str}{px pos apos cpos:Pos}{gk go:GD}
def Q9 (i j:Nat) (c:yw X.K C) (na:eY X.K C f) (hk:JD X k gk) (hs:pA k:=by first|(intro _ _;rfl)) (hN:X.N[i]? =some x:=by rfl) (hv:qj X.env.scope x:=by first|exact Or.inl rfl|exact Or.inr (Or.inl rfl)|exact Or.inr (Or.inr rfl))
  (hd:BBT x:=by decide) (hcd:BBU x:=by decide) (hb:attributeBase (.Name x px) f X.env (eval (.Name x px) X.env)=eval (.Name x px) X.env:=by rfl):JD X (.Subscript (.Attribute (.Name x px) f apos) k pos) (Q8 C i f j gk):=
 ⟨fun B=>(BL zY (qm (bZ hN hv hd hcd) hb) (hk.h B) hs).imp fun σ H Q hh=>by
 obtain⟨S,F,d,S',R,hg,q⟩:=hh;obtain⟨cc,h1,hg⟩:=aj hg;obtain⟨⟨d1,S1⟩,h2,hg⟩:=aj hg;obtain⟨ds,h3,hg⟩:=aj hg;cases d1 with
 |int n=>
  obtain⟨d2,h5,hg⟩:=au hg;cases hg;obtain⟨a,ws,dx,e1,e2,e3⟩:=pD R h1;refine⟨.ref a,e1,a,C,dx,ws,_,rfl,e2,c,na,e3,S,F,_,_,R,h2,fun v F1 H1 R1 st1 r1=>?_⟩;obtain⟨_,vs,e4,e5⟩:=Cj R1 h3;obtain⟨w',z1,z2⟩:=e5.dX h5;rw[gm r1];exact .inl ⟨cc,vs,n,w',rfl,rfl,lE.of e4,z1,q w' F1 H1 R1 st1 z2⟩
 |_=>cases hg⟩
def Nd (ho:JD X o go) (hb:attributeBase o "bit_length" X.env (eval o X.env)=eval o X.env:=by rfl)
  (hfew:((backTo cpos (starEach [] X.env)).all (fun x=>!x.1) && (backToKw cpos (keywordEach [] X.env)).all (fun x=>x.1.isSome) && decide (([]:BBC).length+([]:BBI).length+(if([]:BBI).isEmpty then 0 else 1)<30))=true:=by rfl)
  (hline:(apos.endLine == cpos.line)=true:=by rfl) (htr:backTo cpos (starEach [] X.env)=[]:=by rfl):
  JE X (.Call (.Attribute o "bit_length" apos) [] [] cpos) (eP KA (ah go aF)):=⟨fun B=>by
 rintro pins s σ H Q I ⟨S,F,u,S',R,hg,q⟩;obtain⟨⟨dl,S1⟩,h1,hg⟩:=aj hg;obtain⟨w,hf,hg⟩:=au hg;cases hg;obtain⟨⟨d1,Sa⟩,k1,h1⟩:=aj h1;obtain⟨⟨dr,Sb⟩,kk,h1⟩:=au h1;cases kk;cases h1;cases d1 with
 |int z=>
  cases hf;refine wpAny_Call_method hb hfew hline PySem.F.plainAttrs_int PySem.F.slot_int_bit_length PySem.F.type_int_bit_length (dW (ho.h B pins s σ H (fun v H1=>∃F1,Rel X.K B Sa σ F1 H1/\Step S Sa σ F H F1 H1/\Rep F1 v (.int z)) I ⟨S,F,_,Sa,R,k1,fun v F1 H1 R1 st1 r1=>⟨F1,R1,st1,r1⟩⟩) ?_);rintro ov s1 ⟨x,H1,I1,rx,F1,R1,st1,r1⟩;cases r1;obtain⟨t,rfl⟩:∃t,ov= .int z t:=rx;refine⟨typeIs_int _ _ _,(fun _ e=>nomatch e),?_⟩;rw[htr];refine Calls.callWith_builtin rfl (wpAny_pure ?_);refine call_int_bit_length ⟨.int _,H1,I1.tok _,⟨_,rfl⟩,q _ F1 H1 R1 st1 (.int _)⟩
 |_=>cases hf⟩
end
end L2
end
section
namespace Sw
open PySem PySem.Spec PyProof.Rows L2
noncomputable def OW:Str:="abcdefghijklmnopqrstuvwxyz"
def Rf (y:Str):Bool:=!(Builtin.Str.occurrences OW y 0 OW.length 1).isEmpty
noncomputable def signs (z:Str):BBB:=z.cps.toList.map fun c=>(⟨#[c]⟩:Str)
def nameB:D->Bool
 |.str z=>decide (1<=z.length) && decide (z.length<=8) && (signs z).all Rf
 |_=>false
end Sw
end
section
namespace L2
open PySem PySem.Spec PyProof.Rows
section
variable (S:SS)(d:D)(i:Nat)(g ga gb gc:GD)(gA:GA)
def kD (cap:BBJ) (gi:GI) (q:GT):fR cap gi q g S=(gi S).bind fun p=>if p.1.length<=100000 then(bU cap q g p.1 p.2 []).map fun r=>(.m (.lst r.1),r.2) else none:=rfl
@[simp] theorem Xr (x y:Int):EN [.int x,.int y]=AAC (if y<x then y else x):=rfl
end
end L2
namespace Sq
open PySem PySem.Spec PyProof.Rows L2 Sw
theorem Fb {bd:GB}{body:GS}:∀(ds:List D) (I:List D->SS->Prop) (S:SS),I ds S->(∀d r S,I (d::r) S->∃S1 S2,bd d S=some S1/\body S1=some (.nx S2)/\I r S2)->∃S',loop bd body ds S=some (.nx S')/\I [] S'
 |[],I,S,h,_=>⟨S,rfl,h⟩
 |d::ds,I,S,h,k=>by
  obtain⟨S1,S2,e1,e2,h2⟩:=k d ds S h;obtain⟨S',e,h'⟩:=Fb ds I S2 h2 k;refine⟨S',?_,h'⟩;show((bd d S).bind fun S1=>(body S1).bind _)=_;rw[e1,aah,e2,aah];exact e
def qE (cap:BBJ) (q:GT) (g:GD) (d:D) (ds:List D) (S:SS) (acc:List D):bU cap q g (d::ds) S acc=(bU cap q g [d] S acc).bind fun r=>bU cap q g ds r.2 r.1:=by
 simp only[bU];cases d8 S cap with
 |none=>rfl
 |some us=>
  simp only[aah];split
  ·cases bT S us with
   |none=>rfl
   |some ws=>
    simp only[aah];cases q (AAA d::ws.map some) with
    |none=>rfl
    |some p=>
     simp only[aah];split
     ·cases g p.2 with
      |none=>rfl
      |some r=>
       simp only[aah];cases aT (.t d::ws) r.2 with
       |none=>rfl
       |some outs=>
        simp only[aah];cases wb us outs S with
        |none=>rfl
        |some S'=>rfl
     ·cases aT (.t d::ws) p.2 with
      |none=>rfl
      |some outs=>
       simp only[aah];cases wb us outs S with
       |none=>rfl
       |some S'=>rfl
  ·rfl
theorem Fc {cap:BBJ}{g:GD}:∀(ds:List D) (I:List D->List D->SS->Prop) (S:SS) (acc:List D),I ds acc S->(∀d r acc S,I (d::r) acc S->∃acc' S',bU cap cj g [d] S acc=some (acc',S')/\I r acc' S')->∃acc' S',bU cap cj g ds S acc=some (acc',S')/\I [] acc' S'
 |[],I,S,acc,h,_=>⟨acc,S,rfl,h⟩
 |d::ds,I,S,acc,h,k=>by
  obtain⟨a1,S1,e1,h1⟩:=k d ds acc S h;obtain⟨a2,S2,e2,h2⟩:=Fc ds I S1 a1 h1 k;exact⟨a2,S2,by rw[qE,e1];exact e2,h2⟩
def Rg {α:Type}{l:List α}{i:Int}{x:α}(h0:0<=i) (h:l[i.toNat]? =some x):dX l i=some x:=by
 have hl:=(aau.mp h).1;unfold dX Dn;rw[if_pos h0,if_pos (by lia)];exact h
def Rh {α:Type}{l:List α}{i:Int}(h0:0<=i) (h1:i<l.length):∃x,dX l i=some x/\l[i.toNat]? =some x:=by
 have h:i.toNat<l.length:=by lia
 exact⟨l[i.toNat],Rg h0 (aal h),aal h⟩
noncomputable abbrev fd (c i l:Int):MO:=.lst [.int c,.int i,.int l]
end Sq
end
section
namespace L2
open PySem PySem.Spec PyProof.Rows
@[simp] theorem aaf (S:SS):Y0 [] S=some S:=rfl
@[simp] theorem VL (z:Str):pS (.str z)=true:=rfl
@[simp] theorem VM (b:Bool):pS (.bl b)=true:=rfl
@[simp] theorem VN (b:Int):pS (.int b)=true:=rfl
@[simp] theorem VC (g:GD) (lo hi:Option GD) (S:SS):G0 g lo hi S=(g S).bind fun p=>(lQ lo p.2).bind fun l=>(lQ hi l.2).bind fun h=>(MD p.1 l.1 h.1).map fun u=>(u,h.2):=rfl
@[simp] theorem S9 (S:SS):lQ none S=some (none,S):=rfl
@[simp] theorem Tc (g:GD) (S:SS):lQ (some g) S=(g S).bind fun p=>match p.1 with|.int i=>some (some i,p.2)|_=>none:=rfl
@[simp] theorem MS (ds:List D) (lo hi:BBM):MD (.tup ds) lo hi=AAA (.tup (cutD ds lo hi)):=rfl
@[simp] theorem MT (ds:List D) (lo hi:BBM):MD (.lst ds) lo hi=AAB (cutD ds lo hi):=rfl
def rS {bd:GB}{body:GS}(ds:List D) (I:Nat->SS->Prop) (S:SS) (h0:I 0 S) (hs:∀j d S,ds[j]? =some d->I j S->∃S1 S2,bd d S=some S1/\body S1=some (.nx S2)/\I (j+1) S2):∃S',loop bd body ds S=some (.nx S')/\I ds.length S':=by
 obtain⟨S',e,j,hr,hj,hI⟩:=Sq.Fb (bd:=bd) (body:=body) ds (fun r S=>∃j,ds.drop j=r/\j<=ds.length/\I j S) S ⟨0,rfl,aaM _,h0⟩ (by
  rintro d r S ⟨j,hr,hj,hI⟩;have hlt:j<ds.length:=by
   have:=congrArg List.length hr;rw[abr,aaG] at this;lia
  rw[abv hlt] at hr;injection hr with h1 h2
  obtain⟨S1,S2,e1,e2,h3⟩:=hs j d S (by rw[aal hlt,h1]) hI;exact⟨S1,S2,e1,e2,j+1,h2,hlt,h3⟩)
 have:j=ds.length:=by
  have:=congrArg List.length hr;rw[abr,adk] at this;lia
 subst this;exact⟨S',e,hI⟩
def Ct {cap:BBJ}{g:GD}(ds:List D) (I:Nat->List D->SS->Prop) (S:SS) (h0:I 0 [] S) (hs:∀j d acc S,ds[j]? =some d->I j acc S->∃x S',bU cap cj g [d] S acc=some (acc++[x],S')/\I (j+1) (acc++[x]) S'):∃acc S',bU cap cj g ds S []=some (acc,S')/\I ds.length acc S':=by
 obtain⟨acc,S',e,j,hr,hj,hI⟩:=Sq.Fc (cap:=cap) (g:=g) ds (fun r acc S=>∃j,ds.drop j=r/\j<=ds.length/\I j acc S) S [] ⟨0,rfl,aaM _,h0⟩ (by
  rintro d r acc S ⟨j,hr,hj,hI⟩;have hlt:j<ds.length:=by
   have:=congrArg List.length hr;rw[abr,aaG] at this;lia
  rw[abv hlt] at hr;injection hr with h1 h2
  obtain⟨x,S',e1,h3⟩:=hs j d acc S (by rw[aal hlt,h1]) hI;exact⟨_,S',e1,j+1,h2,hlt,h3⟩)
 have:j=ds.length:=by
  have:=congrArg List.length hr;rw[abr,adk] at this;lia
 subst this;exact⟨acc,S',e,hI⟩
def vm {n j:Nat}{d:D}(h:(qV 0 n)[j]? =some d):j<n/\d= .int j:=by
 unfold qV at h;rw[aaI] at h;cases e:(List.range n)[j]? with
 |none=>rw[e] at h;cases h
 |some k=>
  rw[e] at h;obtain⟨h1,h2⟩:=aau.mp e;rw[List.getElem_range] at h2;rw[abk] at h1;subst h2;refine⟨h1,?_⟩;have:=aaV h;rw[<-this];show D.int (0+(j:Int))=_;rw[Int.zero_add]
theorem HE (bd:GB) (body:GS) (d:D) (ds:List D) (S:SS):loop bd body (d::ds) S=(bd d S).bind fun S1=>(body S1).bind fun o=>match o with
  |.nx S2=>loop bd body ds S2
  |.ct S2=>loop bd body ds S2
  |.bk S2=>some (.nx S2)
  |.rt u S2=>some (.rt u S2):=rfl
end L2
end
section
namespace Ss
open PySem PySem.Spec PyProof.Rows L2 Sw
variable {z:Str}{bs:BBB}
def D6 (a:D) (r:List D):dX (a::r) 0=some a:=by
 unfold dX Dn;rw[if_pos (by decide),if_pos (by simp only[aaG];lia)];rfl
def AK (x:D) (zs:BBB):Jw [x,.tup (zs.map D.str)]=AAA (.bl (inD x (zs.map D.str))):=by
 have:bf (zs.map D.str)<=40:=by rw[L2.vZ];decide
 cases x<;>simp[Jw,this]
noncomputable def wW:BBB:=["less","same","more"]
noncomputable def BND:BBB:=["each","one"]
def Cu (bs:BBB):D->Bool
 |.tup [a]=>gQ a (.str "any")
 |.tup [a,b]=>if gQ a (.str "name") then nameB b else inD a (wW.map D.str) && (nN b 0 9 || inD b (bs.map D.str))
 |_=>false
noncomputable def LEN:List (Str×Int):=[("yes",1),("no",1),("now",2),("not",2),("both",3),("either",3),("next",2),("till",3),("within",3),("always",2),("some",2),("each",4),("one",4)]
noncomputable def STA:List (Str×Int):=[("yes",1),("no",1),("now",2),("not",1),("both",1),("either",1),("next",1),("till",1),("within",2),("always",1),("some",1),("each",3),("one",3)]
def je (z:Str):Int:=(B5 LEN z).getD 0
def g9 (z:Str):Nat:=((B5 STA z).getD 0).toNat
def dR (z:Str):Bool:=inD (.str z) (BND.map D.str)
noncomputable def qd:BBB:=["yes","no","now","not","both","either","next","till","within","always","some","each","one"]
def AL {kvs:AAJ}(h:z∉kvs.map (·.1)):B5 kvs z=none:=by
 unfold B5;have:kvs.find? (fun p=>decide (p.1=z))=none:=List.find?_eq_none.mpr fun p hp q=>h (by rw[<-aa2 q];exact acG hp);rw[this];rfl
def HF (h:z∉qd):je z=0:=by unfold je;rw[AL (show z∉LEN.map (·.1) from h)];rfl
def Cv (h:je z≠0):z∈qd:=abu fun q=>h (HF q)
structure KC (z:Str):Prop where
 xX:B5 STA z=some ((g9 z:Nat):Int)
 s1:1<=g9 z
 s4:(g9 z:Int)<=je z
 l4:je z<=4
 few:je z-g9 z<=2
def AM:∀z∈qd,KC z:=by
 intro z hz;simp only[qd,aao,aaQ,abU] at hz;rcases hz with rfl|rfl|rfl|rfl|rfl|rfl|rfl|rfl|rfl|rfl|rfl|rfl|rfl<;>exact⟨by decide,by decide,by decide,by decide,by decide⟩
def Cw (ds:List D) (k:Nat):L2.cutD ds (some (k:Int)) none=ds.drop k:=by
 unfold L2.cutD;rw[HT.BJ,HT.Ew];by_cases h:k<=ds.length
 ·rw[Nat.min_eq_left h,ab1 (by rw[abr];lia)]
 ·rw[Nat.min_eq_right (by lia),List.drop_of_length_le (aaj _),List.drop_of_length_le (by lia),List.take_nil]
def dM (bs:BBB) (z:Str) (r:List D):Bool:=
 if je z=(r.length:Int)+1 then
  (match r with
  |[]=>true
  |a::r2=>if z="now" then Cu bs a else if z="within" then nN a 0 5 else if dR z then(match r2 with|b::_=>nameB a && nameB b|[]=>false) else true)
 else false
noncomputable def strOf:D->Str
 |.str z=>z
 |_=>""
def fX (bs:BBB) (z:Str) (r:List D):BBB:=if dR z=true then bs++[strOf (r.getD 1 .bQ)] else bs
def cN (z:Str) (r:List D):List D:=(.str z::r).drop (g9 z)
def gC:Nat->BBB->D->Bool
 |0,_,_=>false
 |n+1,bs,.tup (.str z::r)=>dM bs z r && (cN z r).all (gC n (fX bs z r))
 |_+1,_,_=>false
def wX {r:List D}(h:dM bs z r=true):je z=(r.length:Int)+1/\KC z/\z∈qd:=by
 unfold dM at h;split at h
 ·rename_i c;have:=Cv (z:=z) (by lia);exact⟨c,AM z this,this⟩
 ·cases h
def n8 {d:D}(h:nameB d=true):∃y,d= .str y:=by
 cases d with
 |str z=>exact⟨z,rfl⟩
 |_=>cases h
def n9:Nat->D->List D
 |0,_=>[]
 |n+1,.tup (.str z::r)=>.tup (.str z::r)::(cN z r).flatMap (n9 n)
 |_+1,d=>[d]
def qF {n:Nat}{d:D}(h:gC (n+1) bs d=true):∃z r,d= .tup (.str z::r)/\dM bs z r=true/\∀p∈cN z r,gC n (fX bs z r) p=true:=by
 cases d with
 |tup ds=>
  cases ds with
  |nil=>cases h
  |cons a r=>
   cases a with
   |str z=>
    obtain⟨h1,h2⟩:=aaN.mp (show(dM bs z r && (cN z r).all (gC n (fX bs z r)))=true from h);exact⟨z,r,rfl,h1,fun p hp=>aa1.mp h2 p hp⟩
   |_=>cases h
 |_=>cases h
def oh (n:Nat) (d:D):Nat:=(n9 n d).length
def KD:D->Bool
 |.tup (.str z::_)=>dR z
 |_=>false
def wY (n:Nat) (d:D):Nat:=((n9 n d).filter KD).length
def uV (d:D):Bool:=gC 8 [] d && (decide (oh 8 d<=16) && decide (wY 8 d<=3))
end Ss
end
section
namespace Sd
open PySem PySem.Spec PyProof.Rows L2 Sw Ss
variable {bs:BBB}{z:Str}{r ds:List D}{n room bin c:Nat}{T:MO}{cs:BBD}{a l k a' b':Int}{x1 x2 x3 x4 x8:Option U}{S:SS}{rows:AAJ}{td:D}
@[simp] theorem Xs (yc:List (Str×GD)) (S:SS):JF yc S=(nY yc S).map fun p=>(.m (.dct (vV [] p.1)),p.2):=rfl
@[simp] theorem Nf (S:SS):nY [] S=some ([],S):=rfl
@[simp] theorem LD (z:Str) (g:GD) (r:List (Str×GD)) (S:SS):nY ((z,g)::r) S=(g S).bind fun p=>(nY r p.2).map fun q=>((.inr z,p.1)::q.1,q.2):=rfl
def Fe:je "now" =2/\je "within" =3:=by decide
def wZ (n:Nat) (z:Str) (r:List D):(oh (n+1) (.tup (.str z::r)):Int)=1+(((cN z r).flatMap (n9 n)).length:Int):=by
 unfold oh;show(((.tup (.str z::r):D)::(cN z r).flatMap (n9 n)).length:Int)=_;rw[aaG];push_cast;lia
def AN (n:Nat) (z:Str) (r:List D):(wY (n+1) (.tup (.str z::r)):Int)=(if dR z=true then 1 else 0)+((((cN z r).flatMap (n9 n)).filter KD).length:Int):=by
 unfold wY;show((((.tup (.str z::r):D)::(cN z r).flatMap (n9 n)).filter KD).length:Int)=_;by_cases h:dR z=true
 ·rw[aeH (by exact h),if_pos h,aaG];push_cast;lia
 ·rw[aeI (by exact h),if_neg h];lia
def mR (n:Nat) (bs:BBB) (z:Str) (r:List D):gC (n+1) bs (.tup (.str z::r))=true↔dM bs z r=true/\∀p∈cN z r,gC n (fX bs z r) p=true:=by
 show(dM bs z r && (cN z r).all (gC n (fX bs z r)))=true↔_;rw[aaN,aa1]
def Cy (c:je z=(r.length:Int)+1) (n1:¬z="now") (n2:¬(z="within"/\nN (r.getD 0 .bQ) 0 5=false)) (hb:dR z=false):dM bs z r=true:=by
 unfold dM;rw[if_pos c];cases r with
 |nil=>rfl
 |cons a q=>
  simp only[n1,acu,hb];by_cases k:z="within"
  ·rw[if_pos k];cases w:nN a 0 5 with
   |true=>rfl
   |false=>exact absurd ⟨k,w⟩ n2
  ·rw[if_neg k];rfl
structure Dr (deep:Nat) (bs:BBB) (room:Nat) (bin:Nat) (d:D):Prop where
 fm:gC deep bs d=true
 sz:oh deep d<=room
 bn:wY deep d=bin
 fit:EG 8 d
 dep:bA d<=deep+1
def jO {x:D}{l:List D}{i:Int}(h0:0<=i) (h1:i<l.length):∃y,dX l i=some y/\y∈l:=by
 obtain⟨y,a,b⟩:=Sq.Rh (l:=l) h0 h1;exact⟨y,a,aaW b⟩
def Cz (bs:BBB) (a b:D):Cu bs (.tup [a,b])=if gQ a (.str "name")=true then nameB b else inD a (wW.map D.str) && (nN b 0 9 || inD b (bs.map D.str)):=rfl
def dr0 (sh:dM bs z r=true) (pl:cN z r=[]) (nb:dR z=false) (hr:1<=room) (fit:EG 8 (.tup (.str z::r))) (dep:bA (.tup (.str z::r))<=n+2):Dr (n+1) bs room 0 (.tup (.str z::r)):=by
 have es:=wZ n z r;have eb:=AN n z r;rw[pl] at es eb;rw[nb] at eb;simp at es eb;exact⟨(mR n bs z r).mpr ⟨sh,by rw[pl];simp⟩,by lia,by lia,fit,dep⟩
def Xu {b:Nat}{p:D}(sh:dM bs z r=true) (pl:cN z r=[p]) (h:Dr n (fX bs z r) room b p) (fit:EG 8 (.tup (.str z::r))) (dep:bA (.tup (.str z::r))<=n+2):Dr (n+1) bs (room+1) ((if dR z=true then 1 else 0)+b) (.tup (.str z::r)):=by
 have es:=wZ n z r;have eb:=AN n z r;rw[pl] at es eb;have e1:([p].flatMap (n9 n)).length=oh n p:=by simp[oh]
 have e2:(([p].flatMap (n9 n)).filter KD).length=wY n p:=by simp[wY]
 rw[e1] at es;rw[e2] at eb;have:=h.sz;have:=h.bn;refine⟨(mR n bs z r).mpr ⟨sh,by rw[pl];intro q hq;rw[show q=p by simpa using hq];exact h.fm⟩,by lia,?_,fit,dep⟩;by_cases hb:dR z=true
 ·rw[if_pos hb] at eb ⊢;lia
 ·rw[if_neg hb] at eb ⊢;lia
def dr2 {r1 r2 b1 b2:Nat}{p q:D}(sh:dM bs z r=true) (pl:cN z r=[p,q]) (nb:dR z=false) (h1:Dr n bs r1 b1 p) (h2:Dr n bs r2 b2 q) (fit:EG 8 (.tup (.str z::r))) (dep:bA (.tup (.str z::r))<=n+2):Dr (n+1) bs (r1+r2+1) (b1+b2) (.tup (.str z::r)):=by
 have es:=wZ n z r;have eb:=AN n z r;rw[pl] at es eb;have e1:([p,q].flatMap (n9 n)).length=oh n p+oh n q:=by simp[oh]
 have e2:(([p,q].flatMap (n9 n)).filter KD).length=wY n p+wY n q:=by simp[wY]
 rw[e1] at es;rw[e2,nb] at eb;simp at eb;have:=h1.sz;have:=h1.bn;have:=h2.sz;have:=h2.bn;have ib:fX bs z r=bs:=by unfold fX;rw[if_neg (by rw[nb];simp)]
 refine⟨(mR n bs z r).mpr ⟨sh,by rw[pl,ib];intro x hx;simp at hx;rcases hx with rfl|rfl;exact h1.fm;exact h2.fm⟩,by lia,by lia,fit,dep⟩
def Dr.more {OX b:Nat}{d:D}(h:Dr n bs room b d) (hr:room<=OX):Dr n bs OX b d:=⟨h.fm,aaC h.sz hr,h.bn,h.fit,h.dep⟩
def KG (h:z.length<=8):EG 8 (.str z):=h
def oq (c:je z=(r.length:Int)+1) (n1:z≠"now") (n2:z≠"within") (hb:dR z=false):dM bs z r=true:=Cy c n1 (fun q=>n2 q.1) hb
noncomputable abbrev nn:MO:=.lst [.int 100,.int 100,.int 100]
section

noncomputable def pk (k:Nat):D->D
 |.lst l=>l.getD k .bQ
 |_=>.bQ
end
noncomputable def Xv:BBB:=["now","next","till","within","always","some","each","one"]
noncomputable def OY:BBB:=["yes","no","not","both","either"]
def VO (zs:BBB):D->Bool
 |.tup (a::_)=>inD a (zs.map D.str)
 |_=>false
def D7 (d:D):Bool:=uV d && VO Xv d
def Ng {d:D}(h:uV d=true):∃z r,d= .tup (.str z::r)/\z∈qd:=by
 unfold uV at h;rw[aaH] at h;obtain⟨z,r,e,sh,_⟩:=qF h.1;exact⟨z,r,e,(wX sh).2.2⟩
def KH:D->Bool
 |.tup [a,b]=>Jg b && D7 a
 |_=>false
noncomputable def allB (p:D->Bool):D->Bool
 |.tup ds=>ds.all p
 |_=>false
def Nh:∀z∈qd,inD (.str z) (Xv.map D.str)=!inD (.str z) (OY.map D.str):=by decide +kernel
noncomputable def CA (cs:BBD) (a l:Int):List (Key×D):=[(.inr "cells",.lst (cs.map D.int)),(.inr "at",.int a),(.inr "left",.int l)]
def Ff (cs:BBD) (a l:Int):dF (CA cs a l) (.inr "cells")=some (.lst (cs.map D.int)):=rfl
def Fg (cs:BBD) (a l:Int):dF (CA cs a l) (.inr "at")=some (.int a):=rfl
def CB (cs:BBD) (a l:Int):dF (CA cs a l) (.inr "left")=some (.int l):=rfl
def AO (cs:BBD) (a l x:Int):putD (CA cs a l) (.inr "at") (.int x)=CA cs x l:=rfl
def w4 (cs:BBD) (a l x:Int):putD (CA cs a l) (.inr "left") (.int x)=CA cs a x:=rfl
def CC (cs:BBD) (a l:Int):(CA cs a l).length=3:=rfl
def Fd (n:Nat) (T:MO):Prop:=∃(cs:BBD) (a l:Int),T= .dct (CA cs a l)/\cs.length<=63/\0<=a/\a<=n
def Fd.mono {m:Nat}(h:Fd n T) (k:n<=m):Fd m T:=by
 obtain⟨cs,a,l,e,h1,h2,h3⟩:=h;exact⟨cs,a,l,e,h1,h2,by lia⟩
def fB:GS:=
 (aU (qw (qB (eF (eP WX (ah (eG 0 (eC (.str "left"))) (ah (eC (.int 0)) aF))))) (aU (cD 2 (eP vL (ah (eG 0 (eC (.str "left"))) (ah (eF (aB 1)) aF))))
 (aU (Am 0 (eC (.str "left")) (eF (eP Jo (ah (eG 0 (eC (.str "left"))) (ah (eF (aB 1)) aF)))))
 (dI (aB 2)))) gB)
 (aU (cD 3 (eT (eG 0 (eC (.str "at")))))
 (aU (Am 0 (eC (.str "at")) (eF (eP fG (ah (eF (aB 3)) (ah (eC (.int 1)) aF)))))
 (aU (cD 4 (eP vN (ah (eF (aB 3)) (ah (eF (aB 3)) aF))))
 (aU (qw (qB (eF (eP xZ (ah (eG 0 (eC (.str "cells"))) (ah (eF (eP fW aF)) aF))))) (cD 4 (eP DA (ah (eG 0 (eC (.str "cells"))) (ah (eF (eP vL (ah (eF (aB 3)) (ah (eF (eP GO (ah (eG 0 (eC (.str "cells"))) aF))) aF)))) aF)))) gB)
 (aU (qw (qB (eF (eP fGe (ah (eF (aB 4)) (ah (eF (eP UQ (ah (eC (.int 10)) (ah (eC (.int 18)) aF)))) aF))))) (aU (Am 0 (eC (.str "left")) (eF (eP Jo (ah (eF (aB 4)) (ah (eF (aB 1)) aF)))))
 (dI (eP vL (ah (eF (aB 4)) (ah (eF (aB 1)) aF))))) gB)
 (aU (cD 5 (eP vL (ah (eF (eP vN (ah (eF (eP fG (ah (eF (eP fG (ah (eF (eP vN (ah (eF (eP vL (ah (eF (aB 4)) (ah (eC (.int 1000003)) aF)))) (ah (eC (.int 7)) aF)))) (ah (eF (eP vN (ah (eC (.int 104729)) (ah (eF (aB 3)) aF)))) aF)))) (ah (eC (.int 1)) aF)))) (ah (eC (.int 48271)) aF)))) (ah (eC (.int 999983)) aF))))
 (aU (cD 5 (eP vL (ah (eF (eP vN (ah (eF (eP vL (ah (eF (eP fG (ah (eF (eP vN (ah (eF (aB 5)) (ah (eF (aB 5)) aF)))) (ah (eF (eP vN (ah (eC (.int 7919)) (ah (eF (aB 3)) aF)))) aF)))) (ah (eC (.int 2147483629)) aF)))) (ah (eC (.int 30269)) aF)))) (ah (eC (.int 998244353)) aF))))
 (dI (eP vL (ah (eF (eP Jo (ah (eF (aB 5)) (ah (eC (.int 7)) aF)))) (ah (eF (aB 1)) aF))))))))))))
def bC:FM:=bL 6 fB
def KI:∀us r,bC us=some r->bL 6 fB us=some r:=fun _ _ h=>h
def md1 (x:Int):-18446744073709551616<x % 999983:=by lia
def md2 (x:Int):x % 999983<18446744073709551616:=by lia
def CD (is:BBD):bf (is.map D.int)=0:=by
 induction is with
 |nil=>rfl
 |cons i is ih=>show max 0 (bf (is.map D.int))=0;lia
def CF (is:BBD):gQ (.lst (is.map D.int)) (.lst [])=is.isEmpty:=by cases is<;>rfl
def HG {m:Int}(h:0<l) (m0:0<m) (m1:m<1000000):bC [.b (.dct (CA cs a l)),.t (.int m)]=some (.t (.int (l % m)),[.dct (CA cs a (l / m))]):=by
 have e3:m<1073741824:=by lia
 have n0:¬m=0:=by lia
 simp[bC,bL,fB,CB,w4,CC,h,m0,e3,n0,aT]
def KJ {m c:Int}(h:¬0<l) (m0:0<m) (m1:m<1000000) (a0:0<=a) (a1:a<1000000) (hc:(cs=[]/\c=a*a)\/(cs≠[]/\dX (cs.map D.int) (a % (cs.length:Int))=some (.int c))) (hl:cs.length<=63) (hb:10 ^ 18<=c):
  bC [.b (.dct (CA cs a l)),.t (.int m)]=some (.t (.int (c % m)),[.dct (CA cs (a+1) (c / m))]):=by
 have e3:m<1073741824:=by lia
 have n0:¬m=0:=by lia
 have b1:-18446744073709551616<a:=by lia
 have b2:a<18446744073709551616:=by lia
 have dd:=CD cs;have en:=CF cs;have hb:(1000000000000000000:Int)<=c:=hb;have ee:gQ (.lst []) (.lst [])=true:=rfl;rcases hc with⟨rfl,rfl⟩|⟨hne,hc⟩
 ·simp[bC,bL,fB,CB,Fg,Ff,w4,AO,CC,h,m0,e3,n0,aT,b1,b2,hb,bA,bf,ee]
 ·have en:gQ (.lst (cs.map D.int)) (.lst [])=false:=by rw[en];cases cs with|nil=>exact absurd rfl hne|cons _ _=>rfl
  have l0:0<(cs.length:Int):=by cases cs with|nil=>exact absurd rfl hne|cons _ _=>simp only[aaG];lia
  have l1:(cs.length:Int)<1073741824:=by lia
  have l3:0<cs.length:=by lia
  have l4:cs.length<1073741824:=by lia
  have l2:((cs.map D.int).length:Int)=cs.length:=by rw[aai]
  generalize hx:cs.map D.int=xs at *;simp[bC,bL,fB,CB,Fg,Ff,w4,AO,CC,h,m0,e3,n0,aT,b1,b2,hb,bA,dd,en,l2,l0,l1,l3,l4,hc,hx]
noncomputable def Ri (c a:Int):Int:=((c % 1000003*7+104729*a+1)*48271 % 999983*((c % 1000003*7+104729*a+1)*48271 % 999983)+7919*a) % 2147483629*30269 % 998244353 / 7
def KL {m c:Int}(h:¬0<l) (m0:0<m) (m1:m<1000000) (a0:0<=a) (a1:a<1000000) (hc:(cs=[]/\c=a*a)\/(cs≠[]/\dX (cs.map D.int) (a % (cs.length:Int))=some (.int c))) (hl:cs.length<=63) (hb:¬10 ^ 18<=c):
  bC [.b (.dct (CA cs a l)),.t (.int m)]=some (.t (.int (Ri c a % m)),[.dct (CA cs (a+1) l)]):=by
 have e3:m<1073741824:=by lia
 have n0:¬m=0:=by lia
 have b1:-18446744073709551616<a:=by lia
 have b2:a<18446744073709551616:=by lia
 have dd:=CD cs;have en:=CF cs;have hb:¬(1000000000000000000:Int)<=c:=hb;have ee:gQ (.lst []) (.lst [])=true:=rfl;rcases hc with⟨rfl,rfl⟩|⟨hne,hc⟩
 ·simp[bC,bL,fB,CB,Fg,Ff,w4,AO,CC,h,m0,e3,n0,aT,b1,b2,hb,bA,bf,ee,md1,md2,Ri]
 ·have en:gQ (.lst (cs.map D.int)) (.lst [])=false:=by rw[en];cases cs with|nil=>exact absurd rfl hne|cons _ _=>rfl
  have l0:0<(cs.length:Int):=by cases cs with|nil=>exact absurd rfl hne|cons _ _=>simp only[aaG];lia
  have l1:(cs.length:Int)<1073741824:=by lia
  have l3:0<cs.length:=by lia
  have l4:cs.length<1073741824:=by lia
  have l2:((cs.map D.int).length:Int)=cs.length:=by rw[aai]
  generalize hx:cs.map D.int=xs at *;simp[bC,bL,fB,CB,Fg,Ff,w4,AO,CC,h,m0,e3,n0,aT,b1,b2,hb,bA,dd,en,l2,l0,l1,l3,l4,hc,hx,md1,md2,Ri]
def bO {m:Int}(h:Fd n T) (hn:n<1000000) (m0:0<m) (m1:m<1000000):∃v T',bC [.b T,.t (.int m)]=some (.t (.int v),[T'])/\0<=v/\v<m/\Fd (n+1) T':=by
 obtain⟨cs,a,l,rfl,hl,a0,a1⟩:=h;have r1:∀x:Int,0<=x % m/\x % m<m:=fun x=>⟨aeN _ (by lia),aed _ m0⟩
 by_cases c:0<l
 ·exact⟨_,_,HG c m0 m1,(r1 _).1,(r1 _).2,cs,a,_,rfl,hl,a0,by lia⟩
 ·obtain⟨x,hx⟩:∃x,(cs=[]/\x=a*a)\/(cs≠[]/\dX (cs.map D.int) (a % (cs.length:Int))=some (.int x)):=by
   cases cs with
   |nil=>exact⟨_,.inl ⟨rfl,rfl⟩⟩
   |cons y ys=>
    have l0:(0:Int)<((y::ys).length:Int):=by simp only[aaG];lia
    obtain⟨d,h1,h2⟩:=jO (x:=.bQ) (l:=(y::ys).map D.int) (i:=a % ((y::ys).length:Int)) (aeN _ (by lia)) (by rw[aai];exact aed _ l0);obtain⟨z,_,rfl⟩:=aaD.mp h2;exact⟨z,.inr ⟨by simp,h1⟩⟩
  by_cases hb:10 ^ 18<=x
  ·exact⟨_,_,KJ c m0 m1 a0 (by lia) hx hl hb,(r1 _).1,(r1 _).2,cs,_,_,rfl,hl,by lia,by lia⟩
  ·exact⟨_,_,KL c m0 m1 a0 (by lia) hx hl hb,(r1 _).1,(r1 _).2,cs,_,_,rfl,hl,by lia,by lia⟩
def ou:GS:=
 (dI (JF [("cells",(eF (eP BW (ah (eF (ME 0 none (some (eC (.int 63))))) aF)))),("at",(eC (.int 0))),("left",(eC (.int 0)))]))
def ow:FM:=bL 1 ou
def KN:∀us r,ow us=some r->bL 1 ou us=some r:=fun _ _ h=>h
def Ni (ns:BBD):∃T,ow [.s ns]=some (.m T,[])/\Fd 0 T:=by
 refine⟨.dct (CA (yf ns none (some 63)) 0 0),?_,yf ns none (some 63),0,0,rfl,?_,by decide,by decide⟩
 ·have e:∀l:List D,vV [] [(.inr "cells",.lst l),(.inr "at",.int 0),(.inr "left",.int 0)]=[((.inr "cells":Key),D.lst l),(.inr "at",.int 0),(.inr "left",.int 0)]:=fun l=>rfl;have f:BW [.lst ((yf ns none (some 63)).map D.int)]=AAB ((yf ns none (some 63)).map D.int):=rfl;simp[ow,bL,ou,ME,aT,f,e,CA]
 ·unfold yf;rw[abQ];have:HT.fy ns.length ns.length (some 63)<=63:=by
   show(if(63:Int)<0 then((63:Int)+(ns.length:Int)).toNat else min (63:Int).toNat ns.length)<=63;rw[if_neg (by decide)];exact Nat.min_le_left _ _
  lia
def Nm (z:Str):Prop:=nameB (.str z)=true/\z.length<=8/\Sane (.str z)
noncomputable instance (z:Str):Decidable (Nm z):=by unfold Nm Sane;infer_instance
noncomputable def nD (p:Str×Int):D:=.tup [.str p.1,.int p.2]
def Tb (td:D):Prop:=∃rows:List (Str×Int),td= .tup (rows.map nD)/\rows≠[]/\rows.length<=4/\∀p∈rows,Nm p.1
noncomputable def NA:List (BBB):=[["a","ab","abc","b"],["now","any","name","less"],["x","xxxxxxxx","xxxxxxx","y"]]
def VP:∀l∈NA,l.length=4/\∀z∈l,Nm z:=by decide +kernel
def KO (ds:List D) (k:Nat):L2.cutD ds none (some (k:Int))=ds.take k:=by
 unfold L2.cutD;rw[HT.BJ,HT.Ew,List.drop_zero,Nat.sub_zero];by_cases h:k<=ds.length
 ·rw[Nat.min_eq_left h]
 ·rw[Nat.min_eq_right (by lia),ab1 (aaj _),ab1 (by lia)]
def jV (ak:FM):GS:=
 (aU (cD 1 (eP fW (ah (eF (eP fW (ah (eC (.str "a")) (ah (eC (.str "ab")) (ah (eC (.str "abc")) (ah (eC (.str "b")) aF)))))) (ah (eF (eP fW (ah (eC (.str "now")) (ah (eC (.str "any")) (ah (eC (.str "name")) (ah (eC (.str "less")) aF)))))) (ah (eF (eP fW (ah (eC (.str "x")) (ah (eC (.str "xxxxxxxx")) (ah (eC (.str "xxxxxxx")) (ah (eC (.str "y")) aF)))))) aF)))))
 (aU (cD 2 (eT (eG 1 (eF (br ak (cI (aB 0) (bw (eC (.int 3)) bM)))))))
 (aU (cD 3 (br ak (cI (aB 0) (bw (eC (.int 4)) bM))))
 (aU (cD 2 (G0 (eF (eP fG (ah (eF (G0 (eF (aB 2)) (some (eF (aB 3))) none)) (ah (eF (G0 (eF (aB 2)) none (some (eF (aB 3))))) aF)))) none (some (eF (eP DA (ah (eF (eP fW (ah (eC (.int 1)) (ah (eC (.int 2)) (ah (eC (.int 2)) (ah (eC (.int 3)) aF)))))) (ah (eF (br ak (cI (aB 0) (bw (eC (.int 4)) bM)))) aF)))))))
 (dI (eP g7 (ah (eF (fR [0] (iY (eF (aB 2))) cj (eF (eP dB (ah (eF (aB 0)) (ah (eF (eP DA (ah (eF (eP fW (ah (eC (.int 0)) (ah (eC (.int 1)) (ah (eC (.int 1)) (ah (eC (.int 2)) aF)))))) (ah (eF (br ak (cI (aB 1) (bw (eC (.int 4)) bM)))) aF)))) aF)))))) aF)))))))
def lz:FM:=bL 4 (jV bC)
def HH:∀us r,lz us=some r->bL 4 (jV bC) us=some r:=fun _ _ h=>h
abbrev KP (f:FM):GD:=eF (eP dB (ah (eF (aB 0)) (ah (eF (eP DA (ah (eF (eP fW (ah (eC (.int 0)) (ah (eC (.int 1)) (ah (eC (.int 1)) (ah (eC (.int 2)) aF)))))) (ah (eF (br f (cI (aB 1) (bw (eC (.int 4)) bM)))) aF)))) aF)))
def KQ {f:FM}{T0 T1 T2 T3 T4:MO}{v kk:Int}{nl l2 acc:List D}(p1:f [.b T0,.t (.int 3)]=some (.t (.int v),[T1]))
  (h1:dX [D.lst [.str "a",.str "ab",.str "abc",.str "b"],.lst [.str "now",.str "any",.str "name",.str "less"],.lst [.str "x",.str "xxxxxxxx",.str "xxxxxxx",.str "y"]] v=some (.lst nl))
  (p2:f [.b T1,.t (.int 4)]=some (.t (.int a),[T2])) (p3:f [.b T2,.t (.int 4)]=some (.t (.int k),[T3])) (h2:dX [D.int 1,.int 2,.int 2,.int 3] k=some (.int kk))
  (hl:(L2.cutD nl (some a) none).length+(L2.cutD nl none (some a)).length<=100000) (hc:L2.cutD (L2.cutD nl (some a) none++L2.cutD nl none (some a)) none (some kk)=l2) (hl2:l2.length<=100000)
  (h4:bU [0] cj (KP f) l2 [some (.b T3),AAB [.lst [.str "a",.str "ab",.str "abc",.str "b"],.lst [.str "now",.str "any",.str "name",.str "less"],.lst [.str "x",.str "xxxxxxxx",.str "xxxxxxx",.str "y"]],AAA (.lst l2),AAC a] []=some (acc,[some (.b T4),x1,x2,AAC a])):
  bL 4 (jV f) [.b T0]=some (.t (.tup acc),[T4]):=by
 simp only[KP] at h4;simp[bL,jV,aT,p1,h1,p2,p3,h2,hl,hc,dQ,hl2,h4,g7]
def KR (l:BBB) (hT:Fd n T) (hn:n+l.length<1000000):
  ∃(rows:AAJ) (T':MO),bU [0] cj (KP bC) (l.map D.str) [some (.b T),x1,x2,x3] []=some (rows.map nD,[some (.b T'),x1,x2,x3])/\rows.map (·.1)=l/\Fd (n+l.length) T'/\∀p∈rows,0<=p.2/\p.2<=2:=by
 obtain⟨acc,S',e,T',rows,rfl,rfl,hr,hf,hb⟩:=Ct (cap:=[0]) (g:=KP bC) (l.map D.str)
  (fun j acc S=>∃(T':MO) (rows:AAJ),S=[some (.b T'),x1,x2,x3]/\acc=rows.map nD/\rows.map (·.1)=l.take j/\Fd (n+j) T'/\∀p∈rows,0<=p.2/\p.2<=2)
  [some (.b T),x1,x2,x3] ⟨T,[],rfl,rfl,by simp,hT,by simp⟩ (by
   rintro j d acc S hd ⟨T1,rows,rfl,rfl,hr,hf,hb⟩;rw[aaI] at hd;obtain⟨z,hz,rfl⟩:=au hd;have hj:j<l.length:=(aau.mp hz).1;obtain⟨v,T2,e1,v0,v1,f2⟩:=bO (m:=4) hf (by lia) (by decide) (by decide);obtain⟨y,y1,y2⟩:=jO (x:=.bQ) (l:=[.int 0,.int 1,.int 1,.int 2]) v0 v1;obtain⟨i,rfl,i0,i2⟩:∃i:Int,y= .int i/\0<=i/\i<=2:=by
    simp only[aao,aaQ,abU] at y2;rcases y2 with rfl|rfl|rfl|rfl<;>exact⟨_,rfl,by decide,by decide⟩
   refine⟨nD (z,i),[some (.b T2),x1,x2,x3],?_,T2,rows++[(z,i)],rfl,by simp,?_,f2,fun p hp=>by
    rcases aav.mp hp with q|q
    ·exact hb p q
    ·rw[aam.mp q];exact⟨i0,i2⟩⟩
   ·generalize bC=f at *;simp[bU,d8,sV,aT,KP,e1,y1,nD]
   ·rw[abV,hr,List.take_add_one,hz];rfl)
 rw[aai] at hr hf;exact⟨rows,T',e,by rw[hr,List.take_length],hf,hb⟩
def Tn (td:D):Prop:=∃rows:List (Str×Int),td= .tup (rows.map nD)/\rows.length<=4/\∀p∈rows,0<=p.2/\p.2<=2
def HJ (h:Fd n T) (hn:n<900000):∃td T',lz [.b T]=some (.t td,[T'])/\Tb td/\Fd (n+7) T'/\Tn td:=by
 obtain⟨v,T1,p1,v0,v1,h1⟩:=bO (m:=3) h (by lia) (by decide) (by decide);obtain⟨a,T2,p2,a0,a1,h2⟩:=bO (m:=4) h1 (by lia) (by decide) (by decide);obtain⟨k,T3,p3,k0,k1,h3⟩:=bO (m:=4) h2 (by lia) (by decide) (by decide);obtain⟨nl,g1,g2⟩:=jO (x:=.bQ) (l:=[D.lst [.str "a",.str "ab",.str "abc",.str "b"],.lst [.str "now",.str "any",.str "name",.str "less"],.lst [.str "x",.str "xxxxxxxx",.str "xxxxxxx",.str "y"]]) v0 v1;obtain⟨L,hL,rfl⟩:∃L∈NA,nl= .lst (L.map D.str):=by
  simp only[aao,aaQ,abU] at g2;rcases g2 with rfl|rfl|rfl
  ·exact⟨_,by unfold NA;exact aak,rfl⟩
  ·exact⟨_,by unfold NA;exact aag _ aak,rfl⟩
  ·exact⟨_,by unfold NA;exact aag _ (aag _ aak),rfl⟩
 obtain⟨hl,hz⟩:=VP L hL;obtain⟨kd,q1,q2⟩:=jO (x:=.bQ) (l:=[.int 1,.int 2,.int 2,.int 3]) k0 k1;obtain⟨kk,rfl,kk1,kk3⟩:∃kk:Nat,kd= .int kk/\1<=kk/\kk<=3:=by
  simp only[aao,aaQ,abU] at q2;rcases q2 with rfl|rfl|rfl|rfl
  ·exact⟨1,rfl,by lia,by lia⟩
  ·exact⟨2,rfl,by lia,by lia⟩
  ·exact⟨2,rfl,by lia,by lia⟩
  ·exact⟨3,rfl,by lia,by lia⟩
 obtain⟨b,rfl⟩:∃b:Nat,a=b:=⟨a.toNat,by lia⟩
 have c1:=Cw (L.map D.str) b;have c2:=KO (L.map D.str) b;have c3:=KO ((L.map D.str).drop b++(L.map D.str).take b) kk;have ce:((L.map D.str).drop b++(L.map D.str).take b).take kk=((L.drop b++L.take b).take kk).map D.str:=by
  rw[aei,abV,aej,aei]
 rw[ce] at c3;have ll:(L.drop b++L.take b).length=4:=by rw[aaw,abr,abQ];lia
 have lt:((L.drop b++L.take b).take kk).length=kk:=by rw[abQ,ll];lia
 have hmem:∀z∈(L.drop b++L.take b).take kk,Nm z:=fun z hzz=>by
  rcases aav.mp (adV hzz) with q|q
  ·exact hz z (adW q)
  ·exact hz z (adV q)
 generalize (L.drop b++L.take b).take kk=R at *;obtain⟨rows,T4,e4,r1,h4,hb4⟩:=KR (x1:=AAB [.lst [.str "a",.str "ab",.str "abc",.str "b"],.lst [.str "now",.str "any",.str "name",.str "less"],.lst [.str "x",.str "xxxxxxxx",.str "xxxxxxx",.str "y"]]) (x2:=AAA (.lst (R.map D.str))) (x3:=AAC (b:Int)) R h3 (by lia);refine⟨.tup (rows.map nD),T4,?_,⟨rows,rfl,?_,?_,?_⟩,h4.mono (by lia),rows,rfl,by have:=congrArg List.length r1;rw[aai] at this;lia,hb4⟩
 ·exact KQ (f:=bC) (l2:=R.map D.str) (k:=k) (kk:=(kk:Int)) p1 g1 p2 p3 q1 (by rw[c1,c2,abr,abQ,aai];lia) (by rw[c1,c2,c3]) (by rw[aai];lia) e4
 ·rintro rfl;rw[<-r1] at lt;simp at lt;lia
 ·have:=congrArg List.length r1;rw[aai] at this;lia
 ·intro p hp;exact hmem p.1 (by rw[<-r1];exact acG hp)
def cO (ak:FM):GS:=
 (aU (cD 3 (br ak (cI (aB 0) (bw (eC (.int 8)) bM))))
 (aU (qw (qB (eF (eP xR (ah (eF (aB 3)) (ah (eC (.int 0)) aF))))) (dI (eP dB (ah (eC (.str "any")) aF))) gB)
 (aU (qw (qB (eF (eP UP (ah (eF (aB 3)) (ah (eC (.int 3)) aF))))) (aU (cD 4 (eP fG (ah (eF (fR [] (iY (eF (aB 1))) cj (eG 0 (eC (.int 0))))) (ah (eF (eP fW (ah (eC (.str "zz")) aF))) aF))))
 (dI (eP dB (ah (eC (.str "name")) (ah (eG 4 (eF (br ak (cI (aB 0) (bw (rJ 4) bM))))) aF))))) gB)
 (aU (cD 5 (br ak (cI (aB 0) (bw (eC (.int 4)) bM))))
 (aU (qw (Ae (qB (eF (eP xZ (ah (eF (aB 2)) (ah (eF (eP dB aF)) aF))))) (qB (eF (eP WX (ah (eF (br ak (cI (aB 0) (bw (eC (.int 4)) bM)))) (ah (eC (.int 0)) aF)))))) (cD 5 (eT (eG 2 (eF (br ak (cI (aB 0) (bw (rJ 2) bM))))))) gB)
 (dI (eP dB (ah (eF (eP DA (ah (eF (eP fW (ah (eC (.str "same")) (ah (eC (.str "less")) (ah (eC (.str "more")) aF))))) (ah (eF (eP vL (ah (eF (aB 3)) (ah (eC (.int 3)) aF)))) aF)))) (ah (eF (aB 5)) aF)))))))))
def LF:FM:=bL 6 (cO bC)
def Rj:∀us r,LF us=some r->bL 6 (cO bC) us=some r:=fun _ _ h=>h
noncomputable def oz (rows:AAJ):List D:=(rows.map Prod.fst).map D.str
def rT (rows:AAJ):(oz rows).length=rows.length:=by unfold oz;rw[aai,aai]
noncomputable def VQ (z:Str):Bool:=z.cps.toList.all fun c=>decide (c<16 ^ 8)
def cJ (h:VQ z=true):Sane (.str z):=by
 intro c hc;exact aa2 (aa1.mp h c hc)
def w5 (rows:AAJ):bU [] cj (eG 0 (eC (.int 0))) (rows.map nD) S []=some (oz rows,S):=by
 have e:=lV (cap:=[]) (g:=eG 0 (eC (.int 0))) (S:=S) (ts:=[]) rfl (fun d=>match d with|.tup (a::_)=>a|_=>.bQ) (rows.map nD) [] (by
  intro d hd;obtain⟨p,_,rfl⟩:=aaD.mp hd;simp[nD,D6])
 unfold oz;rw[e,acs,abE,abE];rfl
structure Tw (bs:BBB) (d:D):Prop where
 ok:Cu bs d=true
 fit:EG 8 d
 dep:bA d<=1
 g8:Sane d
 w:wD d<=180
section
variable {f:FM}{T0 T1 T2 T3 T4:MO}{td:D}{bl:List D}{w v x:Int}{nd:D}
def Rk (p1:f [.b T0,.t (.int 8)]=some (.t (.int 0),[T1])):bL 6 (cO f) [.b T0,.t td,.t (.tup bl)]=some (.t (.tup [.str "any"]),[T1]):=by
 simp[bL,cO,aT,p1]
def Nj (p1:f [.b T0,.t (.int 8)]=some (.t (.int w),[T1])) (h0:¬w=0) (h3:w<3) (hr:rows.length<=10) (p2:f [.b T1,.t (.int ((oz rows++[D.str "zz"]).length:Int))]=some (.t (.int v),[T2])) (ha:dX (oz rows++[D.str "zz"]) v=some nd):
  bL 6 (cO f) [.b T0,.t (.tup (rows.map nD)),.t (.tup bl)]=some (.t (.tup [.str "name",nd]),[T2]):=by
 have ec:=fun S=>w5 (S:=S) rows;have l1:(rows.map nD).length<=100000:=by rw[aai];lia
 have l2:(oz rows).length+1<=100000:=by rw[rT];lia
 generalize oz rows=L at *;generalize rows.map nD=R at *;have el:((L++[D.str "zz"]).length:Int)=(L.length:Int)+1:=by rw[aaw];push_cast;rfl
 rw[el] at p2;simp[bL,cO,aT,p1,h0,h3,dQ,l1,ec,l2,p2,ha]
def gt_num (p1:f [.b T0,.t (.int 8)]=some (.t (.int w),[T1])) (h0:¬w=0) (h3:¬w<3) (p2:f [.b T1,.t (.int 4)]=some (.t (.int v),[T2])) (hh:dX [D.str "same",.str "less",.str "more"] (w % 3)=some nd)
  (hb:bl=[]/\T3=T2\/bl≠[]/\∃u,f [.b T2,.t (.int 4)]=some (.t (.int u),[T3])/\¬0<u) (hd:bA (.tup bl)<=40):bL 6 (cO f) [.b T0,.t td,.t (.tup bl)]=some (.t (.tup [nd,.int v]),[T3]):=by
 rcases hb with⟨rfl,rfl⟩|⟨hne,u,p3,hu⟩
 ·have q:gQ (.tup []) (.tup [])=true:=rfl;simp[bL,cO,aT,p1,h0,h3,p2,q,hh,bA,bf]
 ·have q:gQ (.tup bl) (.tup [])=false:=by cases bl with|nil=>exact absurd rfl hne|cons _ _=>rfl
  simp[bL,cO,aT,p1,h0,h3,p2,q,hd,p3,hu,hh]
def Rm {u:Int}{xd:D}(p1:f [.b T0,.t (.int 8)]=some (.t (.int w),[T1])) (h0:¬w=0) (h3:¬w<3) (p2:f [.b T1,.t (.int 4)]=some (.t (.int v),[T2])) (hh:dX [D.str "same",.str "less",.str "more"] (w % 3)=some nd)
  (hne:bl≠[]) (p3:f [.b T2,.t (.int 4)]=some (.t (.int u),[T3])) (hu:0<u) (p4:f [.b T3,.t (.int (bl.length:Int))]=some (.t (.int x),[T4])) (hx:dX bl x=some xd) (hd:bA (.tup bl)<=40):bL 6 (cO f) [.b T0,.t td,.t (.tup bl)]=some (.t (.tup [nd,xd]),[T4]):=by
 have q:gQ (.tup bl) (.tup [])=false:=by cases bl with|nil=>exact absurd rfl hne|cons _ _=>rfl
 simp[bL,cO,aT,p1,h0,h3,p2,q,hd,p3,hu,p4,hx,hh]
end
def CG (h:z.length<=8):wD (.str z)<=82:=by show 10*z.length+2<=82;lia
def VR (h:Fd n T) (hn:n<900000) (ht:Tb td) (hb:bs.length<900) (hs:∀z∈bs,Nm z):
  ∃d T',LF [.b T,.t td,.t (.tup (bs.map D.str))]=some (.t d,[T'])/\Tw bs d/\Fd (n+4) T':=by
 obtain⟨w,T1,p1,w0,w1,h1⟩:=bO (m:=8) h (by lia) (by decide) (by decide);obtain⟨rows,rfl,rne,rl,rn⟩:=ht;by_cases c0:w=0
 ·subst c0;exact⟨_,T1,Rk p1,⟨rfl,⟨(by show 1<=8;lia),(by show 3<=8;lia),True.intro⟩,by decide,⟨cJ (by decide +kernel),True.intro⟩,by decide⟩,h1.mono (by lia)⟩
 ·by_cases c1:w<3
  ·have hl:((oz rows++[D.str "zz"]).length:Int)=rows.length+1:=by rw[aaw,rT];push_cast;rfl
   obtain⟨v,T2,p2,v0,v1,h2⟩:=bO (m:=((oz rows++[D.str "zz"]).length:Int)) h1 (by lia) (by lia) (by lia);obtain⟨nd,a1,a2⟩:=jO (x:=.bQ) v0 v1;obtain⟨z,rfl,nz⟩:∃z,nd= .str z/\Nm z:=by
    rcases aav.mp a2 with q|q
    ·obtain⟨z,hz,rfl⟩:=aaD.mp q;obtain⟨p,hp,rfl⟩:=aaD.mp hz;exact⟨_,rfl,rn p hp⟩
    ·rw[aam] at q;exact⟨"zz",q,by decide +kernel,by decide,cJ (by decide +kernel)⟩
   obtain⟨z1,z2,z3⟩:=nz;refine⟨_,T2,Nj p1 c0 c1 (by lia) p2 a1,⟨?_,⟨(by show 2<=8;lia),(by show 4<=8;lia),z2,True.intro⟩,by show max 0 (max 0 0)+1<=1;lia,⟨cJ (by decide +kernel),z3,True.intro⟩,?_⟩,h2.mono (by lia)⟩
   ·rw[Cz,if_pos (lK _)];exact z1
   ·have:=CG z2;show 42+2+(wD (.str z)+2+0)+4<=180;lia
  ·obtain⟨v,T2,p2,v0,v1,h2⟩:=bO (m:=4) h1 (by lia) (by decide) (by decide);obtain⟨hd,d1,d2⟩:=jO (x:=.bQ) (l:=[.str "same",.str "less",.str "more"]) (i:=w % 3) (aeN _ (by decide)) (aed _ (by decide));have hhd:inD hd (wW.map D.str)=true/\gQ hd (.str "name")=false/\EG 8 hd/\bA hd=0/\Sane hd/\wD hd<=82:=by
    simp only[aao,aaQ,abU] at d2;rcases d2 with rfl|rfl|rfl<;>exact⟨by decide,by decide,(by show _<=8;decide),rfl,cJ (by decide +kernel),by decide⟩
   obtain⟨q1,q2,q3,q4,q5,q6⟩:=hhd;have fin:∀x:D,(nN x 0 9=true\/inD x (bs.map D.str)=true)->EG 8 x->bA x=0->Sane x->wD x<=82->Tw bs (.tup [hd,x]):=fun x h1 h2 h3 h4 h5=>by
    refine⟨?_,⟨(by show 2<=8;lia),q3,h2,True.intro⟩,by show max (bA hd) (max (bA x) 0)+1<=1;rw[q4,h3];decide,⟨q5,h4,True.intro⟩,by show wD hd+2+(wD x+2+0)+4<=180;lia⟩;rw[Cz,q2,q1];rcases h1 with q|q
    ·rw[q];rfl
    ·rw[q];simp
   have dv:bA (.tup (bs.map D.str))<=40:=by show bf (bs.map D.str)+1<=40;rw[L2.vZ];lia
   have hv:Tw bs (.tup [hd,.int v]):=fin _ (.inl (by show(decide (0<=v) && decide (v<=9))=true;simp only[aaH,aaY];lia)) True.intro rfl (by show v.natAbs<10 ^ 30;lia) (by show 40<=82;lia);cases Xw:bs with
   |nil=>
    subst Xw;exact⟨_,T2,gt_num p1 c0 c1 p2 d1 (.inl ⟨rfl,rfl⟩) dv,hv,h2.mono (by lia)⟩
   |cons y ys=>
    rw[<-Xw];have hne:bs.map D.str≠[]:=by rw[Xw];simp
    obtain⟨u,T3,p3,u0,u1,h3⟩:=bO (m:=4) h2 (by lia) (by decide) (by decide);by_cases c3:0<u
    ·have hl0:0<((bs.map D.str).length:Int):=by rw[Xw];simp only[abj,aaG];lia
     obtain⟨x,T4,p4,x0,x1,h4⟩:=bO (m:=((bs.map D.str).length:Int)) h3 (by lia) hl0 (by rw[aai];lia);obtain⟨xd,g1,g2⟩:=jO (x:=.bQ) x0 x1;obtain⟨vs,m1,rfl⟩:=aaD.mp g2;have iv:inD (.str vs) (bs.map D.str)=true:=by
      unfold inD;exact aaU.mpr ⟨.str vs,g2,lK _⟩
     obtain⟨z1,z2,z3⟩:=hs vs m1;exact⟨_,T4,Rm p1 c0 c1 p2 d1 hne p3 c3 p4 g1 dv,fin _ (.inr iv) z2 rfl z3 (CG z2),h4.mono (by lia)⟩
    ·exact⟨_,T3,gt_num p1 c0 c1 p2 d1 (.inr ⟨hne,u,p3,c3⟩) dv,hv,h3.mono (by lia)⟩
def Xx (ak aY aA:FM):GS:=
 (Am 3 (eC (.int 0)) (eF (eP vK (ah (eG 3 (eC (.int 0))) (ah (eC (.int 1)) aF)))))
def Xy (ak aY aA:FM):GS:=
 (cD 5 (eP fW (ah (eC (.str "next")) (ah (eC (.str "not")) (ah (eC (.str "within")) (ah (eC (.str "always")) (ah (eC (.str "some")) (ah (eC (.str "till")) (ah (eC (.str "both")) (ah (eC (.str "either")) (ah (eC (.str "till")) (ah (eC (.str "each")) (ah (eC (.str "one")) (ah (eC (.str "now")) aF))))))))))))))
def Xz (ak aY aA:FM):GS:=
 (cD 6 (eT (eG 5 (eF (br ak (cI (aB 0) (bw (eC (.int 12)) bM)))))))
def LG (ak aY aA:FM):GS:=
 (qw (EI (Ae (qB (eF (eP Jw (ah (eF (aB 6)) (ah (eF (eP dB (ah (eC (.str "each")) (ah (eC (.str "one")) aF)))) aF))))) (qB (eF (eP xR (ah (eG 3 (eC (.int 1))) (ah (eC (.int 0)) aF)))))) (Ae (qB (eF (eP Jw (ah (eF (aB 6)) (ah (eF (eP dB (ah (eC (.str "till")) (ah (eC (.str "both")) (ah (eC (.str "either")) aF))))) aF))))) (qB (eF (eP UP (ah (eG 3 (eC (.int 0))) (ah (eC (.int 2)) aF))))))) (cD 6 (eP DA (ah (eF (eP fW (ah (eC (.str "next")) (ah (eC (.str "some")) (ah (eC (.str "always")) aF))))) (ah (eF (br ak (cI (aB 0) (bw (eC (.int 3)) bM)))) aF)))) gB)
def Nk (ak aY aA:FM):GS:=
 (qw (EI (qB (eF (eP UP (ah (eG 3 (eC (.int 0))) (ah (eC (.int 1)) aF))))) (EI (qB (eF (eP UP (ah (eF (aB 4)) (ah (eC (.int 2)) aF))))) (qB (eF (eP xR (ah (eF (aB 6)) (ah (eC (.str "now")) aF))))))) (dI (eP DA (ah (eF (eP fW (ah (eF (eP dB (ah (eC (.str "yes")) aF))) (ah (eF (eP dB (ah (eC (.str "no")) aF))) (ah (eF (eP dB (ah (eC (.str "now")) (ah (eF (br aY (cI (aB 0) (bw (eF (aB 1)) (bw (eF (aB 2)) bM))))) aF)))) aF))))) (ah (eF (eP EN (ah (eC (.int 2)) (ah (eF (br ak (cI (aB 0) (bw (eC (.int 9)) bM)))) aF)))) aF)))) gB)
def LH (ak aY aA:FM):GS:=
 (qw (qB (eF (eP Jw (ah (eF (aB 6)) (ah (eF (eP dB (ah (eC (.str "each")) (ah (eC (.str "one")) aF)))) aF))))) (aU (Am 3 (eC (.int 1)) (eF (eP vK (ah (eG 3 (eC (.int 1))) (ah (eC (.int 1)) aF)))))
 (aU (cD 7 (fR [] (iY (eF (aB 1))) cj (eG 0 (eC (.int 0)))))
 (aU (cD 8 (eP DA (ah (eF (eP fG (ah (eF (aB 7)) (ah (eF (eP fW (ah (eC (.str "x")) (ah (eC (.str "y")) (ah (eC (.str "x")) aF))))) aF)))) (ah (eF (br ak (cI (aB 0) (bw (eF (eP fG (ah (rJ 7) (ah (eC (.int 3)) aF)))) bM)))) aF))))
 (aU (cD 9 (br aA (cI (aB 0) (bw (eF (aB 1)) (bw (eF (eP fG (ah (eF (aB 2)) (ah (eF (eP dB (ah (eF (aB 8)) aF))) aF)))) (cI (aB 3) (bw (eF (eP vK (ah (eF (aB 4)) (ah (eC (.int 1)) aF)))) bM)))))))
 (dI (eP dB (ah (eF (aB 6)) (ah (eG 7 (eF (br ak (cI (aB 0) (bw (rJ 7) bM))))) (ah (eF (aB 8)) (ah (eF (aB 9)) aF)))))))))) gB)
def OZ (ak aY aA:FM):GS:=
 (qw (qB (eF (eP xR (ah (eF (aB 6)) (ah (eC (.str "within")) aF))))) (dI (eP dB (ah (eF (aB 6)) (ah (eF (eP DA (ah (eF (eP fW (ah (eC (.int 2)) (ah (eC (.int 1)) (ah (eC (.int 3)) (ah (eC (.int 0)) (ah (eC (.int 5)) (ah (eC (.int 2)) aF)))))))) (ah (eF (br ak (cI (aB 0) (bw (eC (.int 6)) bM)))) aF)))) (ah (eF (br aA (cI (aB 0) (bw (eF (aB 1)) (bw (eF (aB 2)) (cI (aB 3) (bw (eF (eP vK (ah (eF (aB 4)) (ah (eC (.int 1)) aF)))) bM))))))) aF))))) gB)
def Td (ak aY aA:FM):GS:=
 (qw (qB (eF (eP Jw (ah (eF (aB 6)) (ah (eF (eP dB (ah (eC (.str "till")) (ah (eC (.str "both")) (ah (eC (.str "either")) aF))))) aF))))) (aU (Am 3 (eC (.int 0)) (eF (eP vK (ah (eG 3 (eC (.int 0))) (ah (eC (.int 1)) aF)))))
 (aU (cD 10 (br aA (cI (aB 0) (bw (eF (aB 1)) (bw (eF (aB 2)) (cI (aB 3) (bw (eF (eP vK (ah (eF (aB 4)) (ah (eC (.int 1)) aF)))) bM)))))))
 (aU (Am 3 (eC (.int 0)) (eF (eP fG (ah (eG 3 (eC (.int 0))) (ah (eC (.int 1)) aF)))))
 (dI (eP dB (ah (eF (aB 6)) (ah (eF (aB 10)) (ah (eF (br aA (cI (aB 0) (bw (eF (aB 1)) (bw (eF (aB 2)) (cI (aB 3) (bw (eF (eP vK (ah (eF (aB 4)) (ah (eC (.int 1)) aF)))) bM))))))) aF)))))))) gB)
def XA (ak aY aA:FM):GS:=
 (dI (eP dB (ah (eF (aB 6)) (ah (eF (br aA (cI (aB 0) (bw (eF (aB 1)) (bw (eF (aB 2)) (cI (aB 3) (bw (eF (eP vK (ah (eF (aB 4)) (ah (eC (.int 1)) aF)))) bM))))))) aF))))
def cY (ak aY aA:FM):GS:=aU (Xx ak aY aA) (aU (Xy ak aY aA) (aU (Xz ak aY aA) (aU (LG ak aY aA) (aU (Nk ak aY aA) (aU (LH ak aY aA) (aU (OZ ak aY aA) (aU (Td ak aY aA) (XA ak aY aA))))))))
def VS (ak aY aA:FM):cY ak aY aA=aU (Xx ak aY aA) (aU (Xy ak aY aA) (aU (Xz ak aY aA) (aU (LG ak aY aA) (aU (Nk ak aY aA) (aU (LH ak aY aA) (aU (OZ ak aY aA) (aU (Td ak aY aA) (XA ak aY aA)))))))):=rfl
noncomputable def HL:BBB:=["next","not","within","always","some","till","both","either","till","each","one","now"]
noncomputable def C4:BBB:=["till","both","either"]
noncomputable abbrev bg (a b:Int):MO:=.lst [.int a,.int b]
section
variable {f1 f2 f3:FM}{T0 T1 T2 T3 T4 T5:MO}{td:D}{bl:List D}{b0 b1 deep:Int}{z:Str}{hl:List D}
abbrev sv (hl:List D) (T:MO) (td:D) (bl:List D) (a b deep:Int) (h:Str):SS:=[some (.b T),AAA td,AAA (.tup bl),some (.b (bg a b)),AAC deep,AAB hl,AAA (.str h),none,none,none,none]
def HX (f1 f2 f3:FM):GS:=aU (Nk f1 f2 f3) (aU (LH f1 f2 f3) (aU (OZ f1 f2 f3) (aU (Td f1 f2 f3) (XA f1 f2 f3))))
def kT (a b:D):dX [a,b] 0=some a/\dX [a,b] 1=some b:=⟨rfl,rfl⟩
def KS:Dn 2 0=some 0/\Dn 2 1=some 1:=⟨rfl,rfl⟩
def rW (z:Str):Jw [.str z,.tup [.str "each",.str "one"]]=AAA (.bl (dR z)):=AK (.str z) BND
def AQ (z:Str):Jw [.str z,.tup [.str "till",.str "both",.str "either"]]=AAA (.bl (inD (.str z) (C4.map D.str))):=AK (.str z) C4
def Fi {v:Int}{h0:Str}(p1:f1 [.b T0,.t (.int 12)]=some (.t (.int v),[T1])) (hh:dX (HL.map D.str) v=some (.str h0))
  (hz:(dR h0=true/\b1=0\/inD (.str h0) (C4.map D.str)=true/\b0-1<2)/\(∃u,f1 [.b T1,.t (.int 3)]=some (.t (.int u),[T2])/\dX [D.str "next",.str "some",.str "always"] u=some (.str z))\/¬(dR h0=true/\b1=0\/inD (.str h0) (C4.map D.str)=true/\b0-1<2)/\z=h0/\T2=T1):
  cY f1 f2 f3 [some (.b T0),AAA td,AAA (.tup bl),some (.b (bg b0 b1)),AAC deep,none,none,none,none,none,none]=HX f1 f2 f3 (sv (HL.map D.str) T2 td bl (b0-1) b1 deep z):=by
 rw[VS];have e0:Xx f1 f2 f3 [some (.b T0),AAA td,AAA (.tup bl),some (.b (bg b0 b1)),AAC deep,none,none,none,none,none,none]=some (.nx [some (.b T0),AAA td,AAA (.tup bl),some (.b (bg (b0-1) b1)),AAC deep,none,none,none,none,none,none]):=by simp[Xx,kT,KS]
 have e1:Xy f1 f2 f3 [some (.b T0),AAA td,AAA (.tup bl),some (.b (bg (b0-1) b1)),AAC deep,none,none,none,none,none,none]=some (.nx [some (.b T0),AAA td,AAA (.tup bl),some (.b (bg (b0-1) b1)),AAC deep,AAB (HL.map D.str),none,none,none,none,none]):=by simp[Xy,HL]
 have e1':∃hl:List D,hl=HL.map D.str:=⟨_,rfl⟩
 obtain⟨hl,ehl⟩:=e1';rw[<-ehl] at hh e1 ⊢;have e2:Xz f1 f2 f3 [some (.b T0),AAA td,AAA (.tup bl),some (.b (bg (b0-1) b1)),AAC deep,AAB hl,none,none,none,none,none]=some (.nx (sv hl T1 td bl (b0-1) b1 deep h0)):=by
  simp[Xz,p1,hh]
 have e3:LG f1 f2 f3 (sv hl T1 td bl (b0-1) b1 deep h0)=some (.nx (sv hl T2 td bl (b0-1) b1 deep z)):=by
  have i1:=rW h0;have i2:=AQ h0;rcases hz with⟨hc,u,p2,hu⟩|⟨hc,rfl,rfl⟩
  ·cases q1:dR h0 with
   |true=>
    rw[q1] at i1;by_cases c1:b1=0
    ·simp[LG,i1,kT,c1,p2,hu]
    ·have q3:inD (.str h0) (C4.map D.str)=true/\b0-1<2:=by rcases hc with h|h;exact absurd h.2 c1;exact h
     rw[q3.1] at i2;simp[LG,i1,i2,kT,c1,p2,hu,q3.2]
   |false=>
    rw[q1] at i1 hc;have q3:inD (.str h0) (C4.map D.str)=true/\b0-1<2:=by rcases hc with h|h;cases h.1;exact h
    rw[q3.1] at i2;simp[LG,i1,i2,kT,p2,hu,q3.2]
  ·cases q1:dR z with
   |true=>
    rw[q1] at i1;have c1:¬b1=0:=fun c=>hc (.inl ⟨q1,c⟩);cases q2:inD (.str z) (C4.map D.str) with
    |true=>
     rw[q2] at i2;have c2:¬b0-1<2:=fun c=>hc (.inr ⟨q2,c⟩);simp[LG,i1,i2,kT,c1,c2]
    |false=>
     rw[q2] at i2;simp[LG,i1,i2,kT,c1]
   |false=>
    rw[q1] at i1;cases q2:inD (.str z) (C4.map D.str) with
    |true=>
     rw[q2] at i2;have c2:¬b0-1<2:=fun c=>hc (.inr ⟨q2,c⟩);simp[LG,i1,i2,kT,c2]
    |false=>
     rw[q2] at i2;simp[LG,i1,i2,kT]
 rw[dc,e0,aah];simp only;rw[dc,e1,aah];simp only;rw[dc,e2,aah];simp only;rw[dc,e3,aah];rfl
def Rn (T:MO) (td:D) (bl:List D) (a b deep:Int) (o:Option Out):Option (U×List MO):=o.bind fun o=>match o with
 |.rt (.t d) S=>(aT [.b T,.t td,.t (.tup bl),.b (bg a b),.t (.int deep)] S).map fun os=>(.t d,os)
 |.rt (.m o) S=>(aT [.b T,.t td,.t (.tup bl),.b (bg a b),.t (.int deep)] S).map fun os=>(.m o,os)
 |.nx S=>(aT [.b T,.t td,.t (.tup bl),.b (bg a b),.t (.int deep)] S).map fun os=>(.t .bQ,os)
 |_=>none
def Ro:bL 11 (cY f1 f2 f3) [.b T0,.t td,.t (.tup bl),.b (bg b0 b1),.t (.int deep)]=Rn T0 td bl b0 b1 deep (cY f1 f2 f3 [some (.b T0),AAA td,AAA (.tup bl),some (.b (bg b0 b1)),AAC deep,none,none,none,none,none,none]):=rfl
def xg {d:D}{T':MO}{b:Int}{r:SS}:Rn T td bl a b deep (some (.rt (.t d) (some (.b T')::AAA td::AAA (.tup bl)::some (.b (bg a' b'))::AAC deep::r)))=some (.t d,[T',bg a' b']):=by
 simp[Rn,aT]
def Nl {b:Int}{LI d:D}(hc:a<1\/deep<2\/z="now") (p1:f2 [.b T2,.t td,.t (.tup bl)]=some (.t LI,[T3])) (p2:f1 [.b T3,.t (.int 9)]=some (.t (.int k),[T4])) (hk:dX [.tup [.str "yes"],.tup [.str "no"],.tup [.str "now",LI]] (if k<2 then k else 2)=some d):
  HX f1 f2 f3 (sv hl T2 td bl a b deep z)=some (.rt (.t d) (sv hl T4 td bl a b deep z)):=by
 have e4:Nk f1 f2 f3 (sv hl T2 td bl a b deep z)=some (.rt (.t d) (sv hl T4 td bl a b deep z)):=by
  by_cases c1:a<1
  ·simp[Nk,kT,c1,p1,p2,hk]
  ·by_cases c2:deep<2
   ·simp[Nk,kT,c1,c2,p1,p2,hk]
   ·have c3:z="now":=by rcases hc with h|h|h;exact absurd h c1;exact absurd h c2;exact h
    subst c3;simp[Nk,kT,c1,c2,p1,p2,hk]
 unfold HX;rw[dc,e4,aah]
def vn {b:Int}(h1:¬a<1) (h2:¬deep<2) (h3:¬z="now"):Nk f1 f2 f3 (sv hl T2 td bl a b deep z)=some (.nx (sv hl T2 td bl a b deep z)):=by
 simp[Nk,kT,h1,h2,h3]
def Rp {b x nx:Int}{xd nd d:D}(h1:¬a<1) (h2:¬deep<2) (h3:¬z="now") (hb:dR z=true) (hr:rows.length<=10)
  (p1:f1 [.b T2,.t (.int ((rows.length:Int)+3))]=some (.t (.int x),[T3])) (hx:dX (oz rows++[.str "x",.str "y",.str "x"]) x=some xd) (hv:bl.length+1<=100000)
  (p2:f3 [.b T3,.t (.tup (rows.map nD)),.t (.tup (bl++[xd])),.b (bg a (b-1)),.t (.int (deep-1))]=some (.t d,[T4,bg a' b'])) (p3:f1 [.b T4,.t (.int (rows.length:Int))]=some (.t (.int nx),[T5])) (hn:dX (oz rows) nx=some nd):
  ∃r,HX f1 f2 f3 (sv hl T2 (.tup (rows.map nD)) bl a b deep z)=some (.rt (.t (.tup [.str z,nd,xd,d])) (some (.b T5)::AAA (.tup (rows.map nD))::AAA (.tup bl)::some (.b (bg a' b'))::AAC deep::r)):=by
 unfold HX;rw[dc,vn h1 h2 h3,aah];simp only;have i1:=rW z;rw[hb] at i1;have ec:=fun S=>w5 (S:=S) rows;have l1:(rows.map nD).length<=100000:=by rw[aai];lia
 have ln:(oz rows).length=rows.length:=rT rows;have l3:rows.length<=99997:=by lia
 have l4:((oz rows).length:Int)=rows.length:=by rw[ln]
 generalize oz rows=L at *;generalize rows.map nD=R at *;rw[dc];simp[LH,kT,KS,i1,dQ,l1,ec,l3,l4,ln,p1,hx,hv,p2,p3,hn]
def HK {b:Int}{kd d:D}(h1:¬a<1) (h2:¬deep<2) (h3:¬z="now") (hb:dR z=false) (hz:z="within")
  (p1:f1 [.b T2,.t (.int 6)]=some (.t (.int k),[T3])) (hk:dX [D.int 2,.int 1,.int 3,.int 0,.int 5,.int 2] k=some kd)
  (p2:f3 [.b T3,.t td,.t (.tup bl),.b (bg a b),.t (.int (deep-1))]=some (.t d,[T4,bg a' b'])):
  HX f1 f2 f3 (sv hl T2 td bl a b deep z)=some (.rt (.t (.tup [.str z,kd,d])) (sv hl T4 td bl a' b' deep z)):=by
 unfold HX;rw[dc,vn h1 h2 h3,aah];simp only;have i1:=rW z;rw[hb] at i1;have e5:LH f1 f2 f3 [some (.b T2),AAA td,AAA (.tup bl),some (.b (bg a b)),AAC deep,AAB hl,AAA (.str z),none,none,none,none]=some (.nx [some (.b T2),AAA td,AAA (.tup bl),some (.b (bg a b)),AAC deep,AAB hl,AAA (.str z),none,none,none,none]):=by simp[LH,i1]
 rw[dc,e5,aah];simp only;rw[dc];simp[OZ,eq_true hz,p1,hk,p2]
def Rq {b:Int}{d e:D}{a2 b2:Int}(h1:¬a<1) (h2:¬deep<2) (h3:¬z="now") (hb:dR z=false) (hz:¬z="within") (ht:inD (.str z) (C4.map D.str)=true)
  (p1:f3 [.b T2,.t td,.t (.tup bl),.b (bg (a-1) b),.t (.int (deep-1))]=some (.t d,[T3,bg a' b'])) (p2:f3 [.b T3,.t td,.t (.tup bl),.b (bg (a'+1) b'),.t (.int (deep-1))]=some (.t e,[T4,bg a2 b2])):
  ∃r,HX f1 f2 f3 (sv hl T2 td bl a b deep z)=some (.rt (.t (.tup [.str z,d,e])) (some (.b T4)::AAA td::AAA (.tup bl)::some (.b (bg a2 b2))::AAC deep::r)):=by
 unfold HX;rw[dc,vn h1 h2 h3,aah];simp only;have i1:=rW z;rw[hb] at i1;have i2:=AQ z;rw[ht] at i2;have e5:LH f1 f2 f3 [some (.b T2),AAA td,AAA (.tup bl),some (.b (bg a b)),AAC deep,AAB hl,AAA (.str z),none,none,none,none]=some (.nx [some (.b T2),AAA td,AAA (.tup bl),some (.b (bg a b)),AAC deep,AAB hl,AAA (.str z),none,none,none,none]):=by simp[LH,i1]
 have e6:OZ f1 f2 f3 [some (.b T2),AAA td,AAA (.tup bl),some (.b (bg a b)),AAC deep,AAB hl,AAA (.str z),none,none,none,none]=some (.nx [some (.b T2),AAA td,AAA (.tup bl),some (.b (bg a b)),AAC deep,AAB hl,AAA (.str z),none,none,none,none]):=by simp[OZ,hz]
 rw[dc,e5,aah];simp only;rw[dc,e6,aah];simp only;rw[dc];simp[Td,kT,KS,i2,p1,p2]
def Rr {b:Int}{d:D}(h1:¬a<1) (h2:¬deep<2) (h3:¬z="now") (hb:dR z=false) (hz:¬z="within") (ht:inD (.str z) (C4.map D.str)=false)
  (p1:f3 [.b T2,.t td,.t (.tup bl),.b (bg a b),.t (.int (deep-1))]=some (.t d,[T3,bg a' b'])):
  HX f1 f2 f3 (sv hl T2 td bl a b deep z)=some (.rt (.t (.tup [.str z,d])) (sv hl T3 td bl a' b' deep z)):=by
 unfold HX;rw[dc,vn h1 h2 h3,aah];simp only;have i1:=rW z;rw[hb] at i1;have i2:=AQ z;rw[ht] at i2;have e5:LH f1 f2 f3 [some (.b T2),AAA td,AAA (.tup bl),some (.b (bg a b)),AAC deep,AAB hl,AAA (.str z),none,none,none,none]=some (.nx [some (.b T2),AAA td,AAA (.tup bl),some (.b (bg a b)),AAC deep,AAB hl,AAA (.str z),none,none,none,none]):=by simp[LH,i1]
 have e6:OZ f1 f2 f3 [some (.b T2),AAA td,AAA (.tup bl),some (.b (bg a b)),AAC deep,AAB hl,AAA (.str z),none,none,none,none]=some (.nx [some (.b T2),AAA td,AAA (.tup bl),some (.b (bg a b)),AAC deep,AAB hl,AAA (.str z),none,none,none,none]):=by simp[OZ,hz]
 have e7:Td f1 f2 f3 [some (.b T2),AAA td,AAA (.tup bl),some (.b (bg a b)),AAC deep,AAB hl,AAA (.str z),none,none,none,none]=some (.nx [some (.b T2),AAA td,AAA (.tup bl),some (.b (bg a b)),AAC deep,AAB hl,AAA (.str z),none,none,none,none]):=by simp[Td,i2]
 rw[dc,e5,aah];simp only;rw[dc,e6,aah];simp only;rw[dc,e7,aah];simp only;simp[XA,p1]
end
structure Dw (deep:Nat) (bs:BBB) (room bin:Nat) (d:D):Prop where
 dr:Dr deep bs room bin d
 g8:Sane d
 w:wD d+2<=450*room
noncomputable def rm (deep:Nat):Nat:=2 ^ deep-1
def KU (n:Nat):1<=rm (n+1):=by
 unfold rm;have:1<=2 ^ n:=aee;rw[acn];lia
def Nn (n:Nat):rm (n+1)=2*rm n+1:=by
 unfold rm;have:1<=2 ^ n:=aee;rw[acn];lia
def jo:Nat->FM
 |0=>fun _=>none
 |j+1=>bL 11 (cY bC LF (jo j))
def Np (j:Nat):∀us r,jo (j+1) us=some r->bL 11 (cY bC LF (jo j)) us=some r:=fun _ _ h=>h
noncomputable def be:Nat->D->Nat
 |n+1,.tup [.str z,a]=>if z="not" then be n a else 0
 |n+1,.tup [.str z,a,b]=>if z="both"\/z="either" then be n a+be n b+1 else 0
 |_,_=>0
def Rt (n:Nat) (z:Str) (a:D):be (n+1) (.tup [.str z,a])<=be n a:=by show(if _ then _ else _)<=_;split<;>lia
def Ru (n:Nat) (z:Str) (a b:D):be (n+1) (.tup [.str z,a,b])<=be n a+be n b+1:=by
 show(if _ then _ else _)<=_;split
 ·exact aaj _
 ·exact aaM _
def VT (f:FM) (deep:Nat):Prop:=∀(T:MO) (n:Nat) (td:D) (bs:BBB) (b0:Int) (b1:Nat),Fd n T->n+8*rm deep<800000->Tb td->bs.length+deep<800->(∀z∈bs,Nm z)->
 ∃(d:D) (T':MO) (a':Int) (bin:Nat),f [.b T,.t td,.t (.tup (bs.map D.str)),.b (bg b0 b1),.t (.int deep)]=some (.t d,[T',bg a' ((b1-bin:Nat):Int)])/\Dw deep bs (rm deep) bin d/\bin<=b1/\Fd (n+8*rm deep) T'/\(1<=b0->0<=a'/\2*(be deep d:Int)+1+a'<=b0)
structure Hd (z:Str):Prop where
 h8:z.length<=8
 sn:Sane (.str z)
 nw:z="now"\/z="within"/\dR z=false/\inD (.str z) (C4.map D.str)=false\/dR z=true/\je z=4/\g9 z=3/\z≠"now"/\z≠"within"\/
  dR z=false/\inD (.str z) (C4.map D.str)=true/\je z=3/\g9 z=1/\z≠"now"/\z≠"within"\/dR z=false/\inD (.str z) (C4.map D.str)=false/\je z=2/\g9 z=1/\z≠"now"/\z≠"within"
def VU:∀z∈HL,Hd z:=by
 intro z hz;unfold HL at hz;simp only[aao,aaQ,abU] at hz;rcases hz with rfl|rfl|rfl|rfl|rfl|rfl|rfl|rfl|rfl|rfl|rfl|rfl
 ·exact⟨by decide,cJ (by decide +kernel),.inr (.inr (.inr (.inr ⟨by decide,by decide,by decide,by decide,by decide,by decide⟩)))⟩
 ·exact⟨by decide,cJ (by decide +kernel),.inr (.inr (.inr (.inr ⟨by decide,by decide,by decide,by decide,by decide,by decide⟩)))⟩
 ·exact⟨by decide,cJ (by decide +kernel),.inr (.inl ⟨rfl,by decide,by decide⟩)⟩
 ·exact⟨by decide,cJ (by decide +kernel),.inr (.inr (.inr (.inr ⟨by decide,by decide,by decide,by decide,by decide,by decide⟩)))⟩
 ·exact⟨by decide,cJ (by decide +kernel),.inr (.inr (.inr (.inr ⟨by decide,by decide,by decide,by decide,by decide,by decide⟩)))⟩
 ·exact⟨by decide,cJ (by decide +kernel),.inr (.inr (.inr (.inl ⟨by decide,by decide,by decide,by decide,by decide,by decide⟩)))⟩
 ·exact⟨by decide,cJ (by decide +kernel),.inr (.inr (.inr (.inl ⟨by decide,by decide,by decide,by decide,by decide,by decide⟩)))⟩
 ·exact⟨by decide,cJ (by decide +kernel),.inr (.inr (.inr (.inl ⟨by decide,by decide,by decide,by decide,by decide,by decide⟩)))⟩
 ·exact⟨by decide,cJ (by decide +kernel),.inr (.inr (.inr (.inl ⟨by decide,by decide,by decide,by decide,by decide,by decide⟩)))⟩
 ·exact⟨by decide,cJ (by decide +kernel),.inr (.inr (.inl ⟨by decide,by decide,by decide,by decide,by decide⟩))⟩
 ·exact⟨by decide,cJ (by decide +kernel),.inr (.inr (.inl ⟨by decide,by decide,by decide,by decide,by decide⟩))⟩
 ·exact⟨by decide,cJ (by decide +kernel),.inl rfl⟩
def AM {f2 f3:FM}{bl:List D}{b0 b1 deep:Int}(h:Fd n T) (hn:n+2<900000):
  ∃z T2,cY bC f2 f3 [some (.b T),AAA td,AAA (.tup bl),some (.b (bg b0 b1)),AAC deep,none,none,none,none,none,none]=HX bC f2 f3 (sv (HL.map D.str) T2 td bl (b0-1) b1 deep z)/\z∈HL/\(dR z=true->b1≠0)/\(inD (.str z) (C4.map D.str)=true->2<=b0-1)/\Fd (n+2) T2:=by
 obtain⟨v,T1,p1,v0,v1,h1⟩:=bO (m:=12) h (by lia) (by decide) (by decide);obtain⟨hd,a1,a2⟩:=jO (x:=.bQ) (l:=HL.map D.str) v0 (by rw[aai];exact v1);obtain⟨h0,hm,rfl⟩:=aaD.mp a2;by_cases c:dR h0=true/\b1=0\/inD (.str h0) (C4.map D.str)=true/\b0-1<2
 ·obtain⟨u,T2,p2,u0,u1,h2⟩:=bO (m:=3) h1 (by lia) (by decide) (by decide);obtain⟨zd,q1,q2⟩:=jO (x:=.bQ) (l:=[D.str "next",.str "some",.str "always"]) u0 u1;obtain⟨z,rfl,zm,zb,zt⟩:∃z,zd= .str z/\z∈HL/\dR z=false/\inD (.str z) (C4.map D.str)=false:=by
   simp only[aao,aaQ,abU] at q2;rcases q2 with rfl|rfl|rfl
   ·exact⟨"next",rfl,by decide,by decide,by decide⟩
   ·exact⟨"some",rfl,by decide,by decide,by decide⟩
   ·exact⟨"always",rfl,by decide,by decide,by decide⟩
  exact⟨z,T2,Fi p1 a1 (.inl ⟨c,u,p2,q1⟩),zm,fun q=>(by rw[zb] at q;cases q),fun q=>(by rw[zt] at q;cases q),h2⟩
 ·exact⟨h0,T1,Fi p1 a1 (.inr ⟨c,rfl,rfl⟩),hm,fun q e=>c (.inl ⟨q,e⟩),fun q=>(by by_cases h:b0-1<2;exact absurd (.inr ⟨q,h⟩) c;lia),h1.mono (by lia)⟩
def Rv {LI d:D}(ht:Tw bs LI) (h:d∈[D.tup [.str "yes"],.tup [.str "no"],.tup [.str "now",LI]]):Dw (n+1) bs (rm (n+1)) 0 d:=by
 have r1:=KU n;simp only[aao,aaQ,abU] at h;rcases h with rfl|rfl|rfl
 ·exact⟨dr0 (oq (by decide) (by decide) (by decide) (by decide)) (by unfold cN;rw[show g9 "yes" =1 by decide];rfl) (by decide) r1 ⟨(by show 1<=8;lia),(by show 3<=8;lia),True.intro⟩ (by show max 0 0+1<=n+2;lia),⟨cJ (by decide +kernel),True.intro⟩,by show 32+2+0+4+2<=_;lia⟩
 ·exact⟨dr0 (oq (by decide) (by decide) (by decide) (by decide)) (by unfold cN;rw[show g9 "no" =1 by decide];rfl) (by decide) r1 ⟨(by show 1<=8;lia),(by show 2<=8;lia),True.intro⟩ (by show max 0 0+1<=n+2;lia),⟨cJ (by decide +kernel),True.intro⟩,by show 22+2+0+4+2<=_;lia⟩
 ·refine⟨dr0 (z:="now") (r:=[LI]) ?_ (by unfold cN;rw[show g9 "now" =2 by decide];rfl) (by decide) r1 ⟨(by show 2<=8;lia),(by show 3<=8;lia),ht.fit,True.intro⟩ (by have:=ht.dep;show max 0 (max (bA LI) 0)+1<=n+2;lia),⟨cJ (by decide +kernel),ht.g8,True.intro⟩,by have:=ht.w;show 32+2+(wD LI+2+0)+4+2<=_;lia⟩;unfold dM;rw[if_pos (by rw[Fe.1];rfl)];simp only[if_true];exact ht.ok
def Rw:∀(deep:Nat),1<=deep->∀(j:Nat),deep<=j->VT (jo j) deep:=by
 intro deep
 induction deep with
 |zero=>intro h;lia
 |succ m ih=>
  intro _ j hj T n td bs b0 b1 hT hn ht hl hs;obtain⟨i,rfl⟩:∃i,j=i+1:=⟨j-1,by lia⟩
  have r0:=KU m;have r1:=Nn m;show ∃d T' a' bin,bL 11 (cY bC LF (jo i)) _=_/\_;rw[Ro];obtain⟨z,T2,e0,zm,zb,zt,h2⟩:=AM (f2:=LF) (f3:=jo i) (td:=td) (bl:=bs.map D.str) (b0:=b0) (b1:=b1) (deep:=((m+1:Nat):Int)) hT (by lia);rw[e0];generalize HL.map D.str=hl;obtain⟨z8,zs,zk⟩:=VU z zm;have zw:=CG z8;by_cases c:b0-1<1\/((m+1:Nat):Int)<2\/z="now"
  ·obtain⟨LI,T3,p1,tw,h3⟩:=VR (bs:=bs) h2 (by lia) ht (by lia) hs;obtain⟨k,T4,p2,k0,k1,h4⟩:=bO (m:=9) h3 (by lia) (by decide) (by decide);obtain⟨d,q1,q2⟩:=jO (x:=.bQ) (l:=[D.tup [.str "yes"],.tup [.str "no"],.tup [.str "now",LI]]) (i:=if k<2 then k else 2) (by split<;>lia) (by show _<(3:Int);split<;>lia);have Ol:be (m+1) d=0:=by
    simp only[aao,aaQ,abU] at q2;rcases q2 with rfl|rfl|rfl
    ·rfl
    ·rfl
    ·exact if_neg (by decide)
   refine⟨d,T4,b0-1,0,?_,Rv tw q2,by lia,h4.mono (by lia),fun _=>by lia⟩;rw[Nl c p1 p2 q1,xg];rfl
  ·have c1:¬b0-1<1:=fun q=>c (.inl q);have c2:¬((m+1:Nat):Int)<2:=fun q=>c (.inr (.inl q));have c3:¬z="now":=fun q=>c (.inr (.inr q));have ed:(((m+1:Nat):Int)-1)=(m:Int):=by lia
   have ih:=ih (by lia) i (by lia);rcases zk with zk|⟨zk,bz,tz⟩|⟨bz,l4,s3,n1,n2⟩|⟨bz,tz,l3,s1,n1,n2⟩|⟨bz,tz,l2,s1,n1,n2⟩
   ·exact absurd zk c3
   ·obtain⟨k,T3,p1,k0,k1,h3⟩:=bO (m:=6) h2 (by lia) (by decide) (by decide);obtain⟨kd,q1,q2⟩:=jO (x:=.bQ) (l:=[D.int 2,.int 1,.int 3,.int 0,.int 5,.int 2]) k0 k1;obtain⟨d,T4,a',bin,g1,g2,g3,g4,g5⟩:=ih T3 (n+2+1) td bs (b0-1) b1 h3 (by lia) ht (by lia) hs;obtain⟨x,rfl,x0,x5⟩:∃x:Int,kd= .int x/\0<=x/\x<=5:=by
     simp only[aao,aaQ,abU] at q2;rcases q2 with rfl|rfl|rfl|rfl|rfl|rfl<;>exact⟨_,rfl,by decide,by decide⟩
    subst zk;have sh:dM bs "within" [.int x,d]=true:=by
     unfold dM;rw[if_pos (by rw[Fe.2];rfl)];simp only[show ¬(("within":Str)="now") by decide,acu,if_true];show(decide (0<=x) && decide (x<=5))=true;simp only[aaH,aaY];lia
    have pl:cN "within" [.int x,d]=[d]:=by unfold cN;rw[show g9 "within" =2 by decide];rfl
    have ib:fX bs "within" [.int x,d]=bs:=by unfold fX;rw[if_neg (by rw[bz];simp)]
    have dr:=Xu (n:=m) (room:=rm m) (b:=bin) (bs:=bs) (z:="within") (r:=[.int x,d]) sh pl (by rw[ib];exact g2.dr) ⟨(by show 3<=8;lia),(by show 6<=8;lia),True.intro,g2.dr.fit,True.intro⟩ (by
     have:=g2.dr.dep;show max 0 (max 0 (max (bA d) 0))+1<=m+2;lia)
    rw[if_neg (by rw[bz];simp),ac8] at dr;refine⟨_,T4,a',bin,?_,⟨dr.more (by lia),⟨zs,(by show x.natAbs<10 ^ 30;lia),g2.g8,True.intro⟩,?_⟩,g3,g4.mono (by lia),fun _=>by have:=g5 (by lia);have hb:be (m+1) (.tup [.str "within",.int x,d])=0:=if_neg (by decide);lia⟩
    ·rw[HK c1 c2 c3 bz rfl p1 q1 (by rw[ed];exact g1),xg]
    ·have:=g2.w;show wD (.str "within")+2+(40+2+(wD d+2+0))+4+2<=_;lia
   ·obtain⟨rows,rfl,rne,rl,rn⟩:=id ht;have b1n:b1≠0:=fun q=>zb bz (by rw[q];rfl);have rp:0<(rows.length:Int):=by cases rows with|nil=>exact absurd rfl rne|cons _ _=>simp only[aaG];lia
    obtain⟨x,T3,p1,x0,x1,h3⟩:=bO (m:=(rows.length:Int)+3) h2 (by lia) (by lia) (by lia);obtain⟨xd,q1,q2⟩:=jO (x:=.bQ) (l:=oz rows++[.str "x",.str "y",.str "x"]) x0 (by rw[aaw,rT];push_cast;exact x1);obtain⟨xs,rfl,xn⟩:∃xs,xd= .str xs/\Nm xs:=by
     rcases aav.mp q2 with q|q
     ·obtain⟨y,hy,rfl⟩:=aaD.mp q;obtain⟨p,hp,rfl⟩:=aaD.mp hy;exact⟨_,rfl,rn p hp⟩
     ·simp only[aao,aaQ,abU] at q;rcases q with rfl|rfl|rfl<;>exact⟨_,rfl,by decide +kernel,by decide,cJ (by decide +kernel)⟩
    obtain⟨d,T4,a',bin,g1,g2,g3,g4,g5⟩:=ih T3 (n+2+1) _ (bs++[xs]) (b0-1) (b1-1) h3 (by lia) ht (by rw[aaw,ab4];lia) (by
     intro y hy;rcases aav.mp hy with q|q
     ·exact hs y q
     ·rw[show y=xs by simpa using q];exact xn)
    obtain⟨y,T5,p3,y0,y1,h5⟩:=bO (m:=(rows.length:Int)) g4 (by lia) rp (by lia);obtain⟨nd,w1,w2⟩:=jO (x:=.bQ) (l:=oz rows) y0 (by rw[rT];exact y1);obtain⟨ns,rfl,nn⟩:∃ns,nd= .str ns/\Nm ns:=by
     obtain⟨y,hy,rfl⟩:=aaD.mp w2;obtain⟨p,hp,rfl⟩:=aaD.mp hy;exact⟨_,rfl,rn p hp⟩
    obtain⟨n1',n2',n3'⟩:=nn;obtain⟨x1',x2',KW⟩:=xn;have ev:(bs++[xs]).map D.str=bs.map D.str++[.str xs]:=by rw[abV];rfl
    have eb1:((b1-1:Nat):Int)=(b1:Int)-1:=by lia
    rw[ev,eb1] at g1;have sh:dM bs z [.str ns,.str xs,d]=true:=by
     unfold dM;rw[if_pos (by rw[l4];rfl)];simp only[n1,n2,acu,bz,if_true,n1',x1'];rfl
    have pl:cN z [.str ns,.str xs,d]=[d]:=by unfold cN;rw[s3];rfl
    have ib:fX bs z [.str ns,.str xs,d]=bs++[xs]:=by unfold fX;rw[if_pos bz];rfl
    have dr:=Xu (n:=m) (room:=rm m) (b:=bin) (bs:=bs) (z:=z) (r:=[.str ns,.str xs,d]) sh pl (by rw[ib];exact g2.dr) ⟨(by show 4<=8;lia),KG z8,KG n2',KG x2',g2.dr.fit,True.intro⟩ (by
     have:=g2.dr.dep;show max 0 (max 0 (max 0 (max (bA d) 0)))+1<=m+2;lia)
    rw[if_pos bz] at dr;refine⟨_,T5,a',1+bin,?_,⟨dr.more (by lia),⟨zs,n3',KW,g2.g8,True.intro⟩,?_⟩,by lia,h5.mono (by lia),fun _=>by have:=g5 (by lia);have hb:be (m+1) (.tup [.str z,.str ns,.str xs,d])=0:=rfl;lia⟩
    ·obtain⟨r,es⟩:=Rp (f1:=bC) (f2:=LF) (f3:=jo i) (hl:=hl) (T2:=T2) (a:=b0-1) (b:=(b1:Int)) (deep:=((m+1:Nat):Int)) (z:=z) (bl:=bs.map D.str) (rows:=rows) c1 c2 c3 bz (by lia) p1 q1 (by rw[aai];lia) (by rw[ed];exact g1) p3 w1;rw[es,xg];have ebb:((b1-1-bin:Nat):Int)=((b1-(1+bin):Nat):Int):=by lia
     rw[ebb]
    ·have:=g2.w;have:=CG n2';have:=CG x2';show wD (.str z)+2+(wD (.str ns)+2+(wD (.str xs)+2+(wD d+2+0)))+4+2<=_;lia
   ·obtain⟨d1,T3,a1,XC,g1,g2,g3,g4,g5⟩:=ih T2 (n+2) td bs (b0-1-1) b1 h2 (by lia) ht (by lia) hs;obtain⟨d2,T4,a2,bi2,k1,k2,k3,k4,k5⟩:=ih T3 (n+2+8*rm m) td bs (a1+1) (b1-XC) g4 (by lia) ht (by lia) hs;have dr:=dr2 (n:=m) (bs:=bs) (z:=z) (r:=[d1,d2]) (oq (by rw[l3];rfl) n1 n2 bz) (by unfold cN;rw[s1];rfl) bz g2.dr k2.dr ⟨(by show 3<=8;lia),KG z8,g2.dr.fit,k2.dr.fit,True.intro⟩ (by
     have:=g2.dr.dep;have:=k2.dr.dep;show max 0 (max (bA d1) (max (bA d2) 0))+1<=m+2;lia)
    refine⟨_,T4,a2,XC+bi2,?_,⟨dr.more (by lia),⟨zs,g2.g8,k2.g8,True.intro⟩,?_⟩,by lia,k4.mono (by lia),fun _=>by have z2:=zt tz;have:=g5 (by lia);have:=k5 (by lia);have:=Ru m z d1 d2;lia⟩
    ·obtain⟨r,es⟩:=Rq (f1:=bC) (f2:=LF) (f3:=jo i) (hl:=hl) (T2:=T2) (a:=b0-1) (b:=(b1:Int)) (deep:=((m+1:Nat):Int)) (z:=z) (bl:=bs.map D.str) (td:=td) c1 c2 c3 bz n2 tz (by rw[ed];exact g1) (by rw[ed];exact k1);rw[es,xg];have ebb:((b1-XC-bi2:Nat):Int)=((b1-(XC+bi2):Nat):Int):=by lia
     rw[ebb]
    ·have:=g2.w;have:=k2.w;show wD (.str z)+2+(wD d1+2+(wD d2+2+0))+4+2<=_;lia
   ·obtain⟨d,T3,a',bin,g1,g2,g3,g4,g5⟩:=ih T2 (n+2) td bs (b0-1) b1 h2 (by lia) ht (by lia) hs;have sh:dM bs z [d]=true:=oq (by rw[l2];rfl) n1 n2 bz;have pl:cN z [d]=[d]:=by unfold cN;rw[s1];rfl
    have ib:fX bs z [d]=bs:=by unfold fX;rw[if_neg (by rw[bz];simp)]
    have dr:=Xu (n:=m) (room:=rm m) (b:=bin) (bs:=bs) (z:=z) (r:=[d]) sh pl (by rw[ib];exact g2.dr) ⟨(by show 2<=8;lia),KG z8,g2.dr.fit,True.intro⟩ (by
     have:=g2.dr.dep;show max 0 (max (bA d) 0)+1<=m+2;lia)
    rw[if_neg (by rw[bz];simp),ac8] at dr;refine⟨_,T3,a',bin,?_,⟨dr.more (by lia),⟨zs,g2.g8,True.intro⟩,?_⟩,g3,g4.mono (by lia),fun _=>by have:=g5 (by lia);have:=Rt m z d;lia⟩
    ·rw[Rr (f1:=bC) (f2:=LF) (f3:=jo i) c1 c2 c3 bz n2 tz (by rw[ed];exact g1),xg]
    ·have:=g2.w;show wD (.str z)+2+(wD d+2+0)+4+2<=_;lia
theorem xh {f g:D->List D}:∀{ps:List D},(∀p∈ps,f p=g p)->ps.flatMap f=ps.flatMap g
 |[],_=>rfl
 |p::ps,h=>by rw[aet,aet,h p aak,xh fun q hq=>h q (aag _ hq)]
theorem yZ:∀{n:Nat}{bs:BBB}{d:D},gC n bs d=true->gC (n+1) bs d=true/\n9 (n+1) d=n9 n d
 |0,_,_,h=>by cases h
 |n+1,bs,d,h=>by
  obtain⟨z,r,rfl,h1,h2⟩:=qF h;have up:=fun p hp=>yZ (h2 p hp);refine⟨(mR (n+1) bs z r).mpr ⟨h1,fun p hp=>(up p hp).1⟩,?_⟩;show(.tup (.str z::r):D)::(cN z r).flatMap (n9 (n+1))= .tup (.str z::r)::(cN z r).flatMap (n9 n);rw[xh fun p hp=>(up p hp).2]
def HM {m:Nat}{d:D}(hm:n<=m) (h:gC n bs d=true):gC m bs d=true/\n9 m d=n9 n d:=by
  induction m with
  | zero => obtain rfl : n = 0 := by lia
            exact⟨h,rfl⟩
  |succ m ih=>
    by_cases e:n=m+1
    . subst e;exact⟨h,rfl⟩
    . obtain⟨a,b⟩:=ih (by lia)
      obtain⟨c,d⟩:=yZ a;exact⟨c,d.trans b⟩
def Dr.say {deep:Nat}{d:D}(h:Dr deep [] room bin d) (h1:deep<=8) (h2:room<=16) (h3:bin<=3):uV d=true:=by
 obtain⟨a,b⟩:=HM h1 h.fm;have s:=h.sz;have n:=h.bn;unfold oh at s;unfold wY at n;unfold uV oh wY;rw[a,b];simp only[Bool.true_and,aaH,aaY];lia
def Nq (h:ds.length<=n) (hf:∀d∈ds,EG n d):EG n (.tup ds):=by
 refine⟨h,?_⟩;clear h
 induction ds with
 |nil=>exact True.intro
 |cons d ds ih=>exact⟨hf d aak,ih fun e he=>hf e (aag _ he)⟩
def AR {k:Nat}(hf:∀d∈ds,bA d<=k):bA (.tup ds)<=k+1:=by
 have:=Ce hf;show bf ds+1<=k+1;lia
structure Bs (d:D):Prop where
 ok:D7 d=true
 fit:EG 8 d
 dep:bA d<=6
 g8:Sane d
 w:wD d<=7200
def Nr {d:D}(h:Dw 4 [] (rm 4) bin d) (hb:bin<=1):∃z r,d= .tup (.str z::r)/\z∈qd/\uV d=true:=by
 have hs:uV d=true:=h.dr.say (by lia) (by decide) (by lia);obtain⟨z,r,e,hz⟩:=Ng hs;exact⟨z,r,e,hz,hs⟩
def Nt (h:Dw 4 [] (rm 4) bin (.tup (.str z::r))) (hb:bin<=1) (hz:z∈qd) (hn:inD (.str z) (OY.map D.str)=false):Bs (.tup (.str z::r)):=by
 have hs:uV (.tup (.str z::r))=true:=h.dr.say (by lia) (by decide) (by lia);refine⟨?_,h.dr.fit,by have:=h.dr.dep;lia,h.g8,by have:=h.w;have:rm 4=15:=(by decide);lia⟩;show(uV _ && inD (.str z) (Xv.map D.str))=true;rw[hs,Nh z hz,hn];rfl
def Nu {d:D}(h:Dw 4 [] (rm 4) bin d) (hb:bin<=1):Bs (.tup [.str "next",d]):=by
 have sh:dM [] "next" [d]=true:=oq (by rw[show je "next" =2 by decide];rfl) (by decide) (by decide) (by decide);have dr:=Xu (n:=4) (room:=rm 4) (b:=bin) (bs:=[]) (z:="next") (r:=[d]) sh (by unfold cN;rw[show g9 "next" =1 by decide];rfl) (by
  have ib:fX [] "next" [d]=[]:=by unfold fX;rw[if_neg (by decide)]
  rw[ib];exact h.dr) ⟨(by show 2<=8;lia),(by show 4<=8;lia),h.dr.fit,True.intro⟩ (by
   have:=h.dr.dep;show max 0 (max (bA d) 0)+1<=4+2;lia)
 rw[if_neg (by decide),ac8] at dr;have hs:uV (.tup [.str "next",d])=true:=dr.say (by lia) (by decide) (by lia);refine⟨?_,dr.fit,by have:=dr.dep;lia,⟨cJ (by decide +kernel),h.g8,True.intro⟩,?_⟩
 ·show(uV _ && inD (.str "next") (Xv.map D.str))=true;rw[hs];decide
 ·have:=h.w;have:rm 4=15:=by decide
  show 42+2+(wD d+2+0)+4<=7200;lia
def cR (ak aA:FM):GS:=
 (aU (cD 4 (br aA (cI (aB 0) (bw (eF (aB 1)) (bw (eF (eP dB aF)) (cI (eP fW (ah (eF (eP fG (ah (eC (.int 1)) (ah (eF (br ak (cI (aB 0) (bw (eC (.int 4)) bM)))) aF)))) (ah (eC (.int 1)) aF))) (bw (eC (.int 4)) bM)))))))
 (aU (qw (qB (eF (eP Jw (ah (eG 4 (eC (.int 0))) (ah (eF (eP dB (ah (eC (.str "yes")) (ah (eC (.str "no")) (ah (eC (.str "not")) (ah (eC (.str "both")) (ah (eC (.str "either")) aF))))))) aF))))) (cD 4 (eP dB (ah (eC (.str "next")) (ah (eF (aB 4)) aF)))) gB)
 (nq (eT (eM 2 hAppend (ah (eF (aB 4)) aF))))))
def cS (ak aA:FM):GS:=
 (nq (eT (eM 6 hAppend (ah (eF (eP dB (ah (eG 2 (eF (br ak (cI (aB 0) (bw (rJ 2) bM))))) (ah (eF (eP WX (ah (eF (br ak (cI (aB 0) (bw (eC (.int 3)) bM)))) (ah (eC (.int 0)) aF)))) aF)))) aF))))
def dG (ak aA:FM):GS:=
 (aU (cD 6 (eP fW aF))
 (aU (mG (bName 7) (rB (ah (eF (br ak (cI (aB 0) (bw (eC (.int 5)) bM)))) aF)) (cS ak aA))
 (nq (eT (eM 5 hAppend (ah (eF (eP g7 (ah (eF (aB 6)) aF))) aF))))))
def as0 (ak aA:FM):GS:=
 (cD 2 (eP fW aF))
def as1 (ak aA:FM):GS:=
 (mG (bName 3) (rB (ah (eF (eP fG (ah (eC (.int 1)) (ah (eF (br ak (cI (aB 0) (bw (eC (.int 4)) bM)))) aF)))) aF)) (cR ak aA))
def as2 (ak aA:FM):GS:=
 (cD 5 (eP fW aF))
def XD (ak aA:FM):GS:=
 (mG (bName 3) (rB (ah (eF (br ak (cI (aB 0) (bw (eC (.int 5)) bM)))) aF)) (dG ak aA))
def O0 (ak aA:FM):GS:=
 (qw (Ae (qB (vY xZ 5 (eF (eP fW aF)))) (qB (eF (eP xR (ah (eF (br ak (cI (aB 0) (bw (eC (.int 2)) bM)))) (ah (eC (.int 0)) aF)))))) (aU (cD 8 (br ak (cI (aB 0) (bw (rJ 5) bM))))
 (nq (eT (eM 5 hAppend (ah (eF (eP fG (ah (eF (G8 (eG 5 (eF (aB 8))) (eF (eP GL (ah (eC (.int 1)) aF))))) (ah (eG 5 (eF (br ak (cI (aB 0) (bw (rJ 5) bM))))) aF)))) aF))))) gB)
def VW (ak aA:FM):GS:=
 (dI (eP g7 (ah (eF (aB 5)) aF)))
def cZ (ak aA:FM):GS:=aU (as0 ak aA) (aU (as1 ak aA) (aU (as2 ak aA) (aU (XD ak aA) (aU (O0 ak aA) (VW ak aA)))))
def VX (ak aA:FM):cZ ak aA=aU (as0 ak aA) (aU (as1 ak aA) (aU (as2 ak aA) (aU (XD ak aA) (aU (O0 ak aA) (VW ak aA))))):=rfl
def anyF:FM:=bL 9 (cZ bC (jo 4))
def Nv:∀us r,anyF us=some r->bL 9 (cZ bC (jo 4)) us=some r:=fun _ _ h=>h
section
variable {f1 f3:FM}{T0 T1 T2:MO}{td:D}{L:List D}{v:Int}{x3 x4 x5 x6 x7 x8:Option U}{z:Str}{r:List D}{a' b':Int}
def Ny (z:Str):Jw [.str z,.tup [.str "yes",.str "no",.str "not",.str "both",.str "either"]]=AAA (.bl (inD (.str z) (OY.map D.str))):=AK (.str z) OY
def Nz (h4:fS x4=false) (p1:f1 [.b T0,.t (.int 4)]=some (.t (.int v),[T1])) (p2:f3 [.b T1,.t td,.t (.tup []),.b (bg (1+v) 1),.t (.int 4)]=some (.t (.tup (.str z::r)),[T2,bg a' b'])) (hl:L.length<100000):
  cR f1 f3 [some (.b T0),AAA td,AAB L,x3,x4,x5,x6,x7,x8]=some (.nx [some (.b T2),AAA td,AAB (L++[if inD (.str z) (OY.map D.str)=true then .tup [.str "next",.tup (.str z::r)] else .tup (.str z::r)]),x3,AAA (if inD (.str z) (OY.map D.str)=true then .tup [.str "next",.tup (.str z::r)] else .tup (.str z::r)),x5,x6,x7,x8]):=by
 have i1:=Ny z;cases q:inD (.str z) (OY.map D.str) with
 |true=>
  rw[q] at i1;simp[cR,-bN,bD,h4,p1,p2,D6,i1,qx,hl]
 |false=>
  rw[q] at i1;simp[cR,-bN,bD,h4,p1,p2,D6,i1,qx,hl]
def NB {bn:List D}{b:D}{u:Int}(p1:f1 [.b T0,.t (.int (L.length:Int))]=some (.t (.int v),[T1])) (hb:dX L v=some b) (p2:f1 [.b T1,.t (.int 3)]=some (.t (.int u),[T2])) (hl:bn.length<100000):
  cS f1 f3 [some (.b T0),AAA td,AAB L,x3,x4,x5,AAB bn,x7,x8]=some (.nx [some (.b T2),AAA td,AAB L,x3,x4,x5,AAB (bn++[.tup [b,.bl (decide (0<u))]]),x7,x8]):=by
 simp[cS,p1,hb,p2,qx,hl]
end
def Th (d:D):Prop:=∃b q,d= .tup [b,.bl q]/\Bs b
def Bn (m:Nat) (d:D):Prop:=∃l,d= .tup l/\l.length<=m/\∀t∈l,Th t
def VY (hT:Fd n T) (hn:n+121*c<700000) (ht:Tb td):∃(L:List D) (T':MO) (x3 x4:Option U),loop (bName 3) (cR bC (jo 4)) (qV 0 c) [some (.b T),AAA td,AAB [],none,none,none,none,none,none]=some (.nx [some (.b T'),AAA td,AAB L,x3,x4,none,none,none,none])/\L.length=c/\(∀b∈L,Bs b)/\fS x3=false/\fS x4=false/\Fd (n+121*c) T':=by
 by_cases c0:c<90000
 ·obtain⟨S',e,L,T',x3,x4,rfl,hl,hb,i3,i4,hf⟩:=rS (bd:=bName 3) (body:=cR bC (jo 4)) (qV 0 c) (fun j S=>∃(L:List D) (T':MO) (x3 x4:Option U),S=[some (.b T'),AAA td,AAB L,x3,x4,none,none,none,none]/\L.length=j/\(∀b∈L,Bs b)/\fS x3=false/\fS x4=false/\Fd (n+121*j) T')
   [some (.b T),AAA td,AAB [],none,none,none,none,none,none] ⟨[],T,none,none,rfl,rfl,(by simp),rfl,rfl,hT⟩ (by
    rintro j d S hd ⟨L,T0,x3,x4,rfl,hl,hb,i3,i4,hf⟩;obtain⟨hj,rfl⟩:=vm hd;have:=ad4 121 (Nat.succ_le_of_lt hj);obtain⟨v,T1,p1,v0,v1,h1⟩:=bO (m:=4) hf (by lia) (by decide) (by decide);obtain⟨d,T2,a',bin,g1,g2,g3,g4,_⟩:=Rw 4 (by lia) 4 (by lia) T1 (n+121*j+1) td [] (1+v) 1 h1 (by rw[show rm 4=15 by decide];lia) ht (by simp only[adk];lia) (by simp);obtain⟨z,r,rfl,hz,hs⟩:=Nr g2 g3;have g1:jo 4 [.b T1,.t td,.t (.tup []),.b (bg (1+v) 1),.t (.int 4)]=some (.t (.tup (.str z::r)),[T2,bg a' ((1-bin:Nat):Int)]):=g1;refine⟨[some (.b T0),AAA td,AAB L,AAC j,x4,none,none,none,none],_,by simp[bName,-bN,bD,i3],Nz i4 p1 g1 (by lia),_,T2,_,_,rfl,by rw[aaw,hl];rfl,?_,rfl,rfl,?_⟩
    ·intro b hbm;rcases aav.mp hbm with q|q
     ·exact hb b q
     ·rw[aam] at q;rw[q];cases qq:inD (.str z) (OY.map D.str) with
      |true=>rw[if_pos rfl];exact Nu g2 g3
      |false=>rw[if_neg (by simp)];exact Nt g2 g3 hz qq
    ·refine g4.mono ?_;rw[show rm 4=15 by decide];lia)
  have rl:(qV 0 c).length=c:=by unfold qV;rw[aai,abk]
  rw[rl] at hl hf;exact⟨L,T',x3,x4,e,hl,hb,i3,i4,hf⟩
 ·lia
def VZ {L:List D}{x5 x7:Option U}(hT:Fd n T) (hn:n+2*c<700000) (hc:c<1000) (hl:0<L.length) (hl2:L.length<1000) (hb:∀b∈L,Bs b) (i7:fS x7=false):
  ∃(bn:List D) (T':MO) (O1:Option U),loop (bName 7) (cS bC (jo 4)) (qV 0 c) [some (.b T),AAA td,AAB L,x3,x4,x5,AAB [],x7,x8]=some (.nx [some (.b T'),AAA td,AAB L,x3,x4,x5,AAB bn,O1,x8])/\bn.length=c/\(∀t∈bn,Th t)/\fS O1=false/\Fd (n+2*c) T':=by
 obtain⟨S',e,bn,T',O1,rfl,XE,hbn,i7',hf⟩:=rS (bd:=bName 7) (body:=cS bC (jo 4)) (qV 0 c) (fun j S=>∃(bn:List D) (T':MO) (x7:Option U),S=[some (.b T'),AAA td,AAB L,x3,x4,x5,AAB bn,x7,x8]/\bn.length=j/\(∀t∈bn,Th t)/\fS x7=false/\Fd (n+2*j) T')
  [some (.b T),AAA td,AAB L,x3,x4,x5,AAB [],x7,x8] ⟨[],T,x7,rfl,rfl,(by simp),i7,hT⟩ (by
   rintro j d S hd ⟨bn,T0,x7,rfl,XE,hbn,i7,hf⟩;obtain⟨hj,rfl⟩:=vm hd;obtain⟨v,T1,p1,v0,v1,h1⟩:=bO (m:=(L.length:Int)) hf (by lia) (by lia) (by lia);obtain⟨b,a1,a2⟩:=jO (x:=.bQ) v0 v1;obtain⟨u,T2,p2,u0,u1,h2⟩:=bO (m:=3) h1 (by lia) (by decide) (by decide);refine⟨[some (.b T0),AAA td,AAB L,x3,x4,x5,AAB bn,AAC j,x8],_,by simp[bName,-bN,bD,i7],NB p1 a1 p2 (by lia),_,T2,_,rfl,by rw[aaw,XE];rfl,?_,rfl,h2.mono (by lia)⟩;intro t V0;rcases aav.mp V0 with q|q
   ·exact hbn t q
   ·rw[aam] at q;exact⟨b,_,q,hb b a2⟩)
 have rl:(qV 0 c).length=c:=by unfold qV;rw[aai,abk]
 rw[rl] at XE hf;exact⟨bn,T',O1,e,XE,hbn,i7',hf⟩
section
variable {f1 f3:FM}{T0 T1 T2:MO}{td:D}{L st bn:List D}{v:Int}{x3 x4 x6 x7 O1 x8:Option U}
def NC (h6:fS x6=false) (p1:f1 [.b T0,.t (.int 5)]=some (.t (.int v),[T1])) (v0:0<=v) (v1:v<5)
  (e:loop (bName 7) (cS f1 f3) (qV 0 v.toNat) [some (.b T1),AAA td,AAB L,x3,x4,AAB st,AAB [],x7,x8]=some (.nx [some (.b T2),AAA td,AAB L,x3,x4,AAB st,AAB bn,O1,x8])) (hl:st.length<100000):
  dG f1 f3 [some (.b T0),AAA td,AAB L,x3,x4,AAB st,x6,x7,x8]=some (.nx [some (.b T2),AAA td,AAB L,x3,x4,AAB (st++[.tup bn]),AAA (.lst bn),O1,x8]):=by
 have c1:v<1000000:=by lia
 have c2:-1000000<v:=by lia
 generalize hr:qV 0 v.toNat=R at *;simp[dG,-bN,bD,h6,p1,c1,c2,hr,mG,e,qx,hl,g7]
end
def V1 {L:List D}(hT:Fd n T) (hn:n+9*c<600000) (hc:c<1000) (hl:0<L.length) (hl2:L.length<1000) (hb:∀b∈L,Bs b) (i3:fS x3=false):
  ∃(st:List D) (T':MO) (KW x6 x7:Option U),loop (bName 3) (dG bC (jo 4)) (qV 0 c) [some (.b T),AAA td,AAB L,x3,x4,AAB [],none,none,x8]=some (.nx [some (.b T'),AAA td,AAB L,KW,x4,AAB st,x6,x7,x8])/\st.length=c/\(∀t∈st,Bn 4 t)/\Fd (n+9*c) T':=by
 obtain⟨S',e,st,T',KW,x6,x7,rfl,hsl,hst,i3',i6,i7,hf⟩:=rS (bd:=bName 3) (body:=dG bC (jo 4)) (qV 0 c) (fun j S=>∃(st:List D) (T':MO) (x3 x6 x7:Option U),S=[some (.b T'),AAA td,AAB L,x3,x4,AAB st,x6,x7,x8]/\st.length=j/\(∀t∈st,Bn 4 t)/\fS x3=false/\fS x6=false/\fS x7=false/\Fd (n+9*j) T')
  [some (.b T),AAA td,AAB L,x3,x4,AAB [],none,none,x8] ⟨[],T,x3,none,none,rfl,rfl,(by simp),i3,rfl,rfl,hT⟩ (by
   rintro j d S hd ⟨st,T0,x3,x6,x7,rfl,hsl,hst,i3,i6,i7,hf⟩;obtain⟨hj,rfl⟩:=vm hd;obtain⟨v,T1,p1,v0,v1,h1⟩:=bO (m:=5) hf (by lia) (by decide) (by decide);obtain⟨bn,T2,O1,e2,b1,b2,i7',h2⟩:=VZ (td:=td) (x3:=AAC j) (x4:=x4) (x5:=AAB st) (x7:=x7) (x8:=x8) (c:=v.toNat) h1 (by lia) (by lia) hl hl2 hb i7;refine⟨[some (.b T0),AAA td,AAB L,AAC j,x4,AAB st,x6,x7,x8],_,by simp[bName,-bN,bD,i3],NC i6 p1 v0 v1 e2 (by lia),_,T2,_,_,_,rfl,by rw[aaw,hsl];rfl,?_,rfl,rfl,i7',h2.mono (by lia)⟩;intro t V0;rcases aav.mp V0 with q|q
   ·exact hst t q
   ·rw[aam] at q;exact⟨bn,q,by lia,b2⟩)
 have rl:(qV 0 c).length=c:=by unfold qV;rw[aai,abk]
 rw[rl] at hsl hf;exact⟨st,T',KW,x6,x7,e,hsl,hst,hf⟩
section
variable {f1 f3:FM}{T0 T1 T2 T3:MO}{td:D}{L st:List D}{v k u:Int}{x3 x4 x6 x7:Option U}{a b:List D}
def KY (hd:bA (.lst st)<=40) (h:st=[]/\T1=T0\/st≠[]/\∃u,f1 [.b T0,.t (.int 2)]=some (.t (.int u),[T1])/\¬u=0):O0 f1 f3 [some (.b T0),AAA td,AAB L,x3,x4,AAB st,x6,x7,none]=some (.nx [some (.b T1),AAA td,AAB L,x3,x4,AAB st,x6,x7,none]):=by
 rcases h with⟨rfl,rfl⟩|⟨hne,u,p1,hu⟩
 ·have q:gQ (.lst []) (.lst [])=true:=rfl;simp[O0,vY,q,bA,bf]
 ·have q:gQ (.lst st) (.lst [])=false:=by cases st with|nil=>exact absurd rfl hne|cons _ _=>rfl
  simp[O0,vY,q,hd,p1,hu]
def ND (hd:bA (.lst st)<=40) (hne:st≠[]) (p1:f1 [.b T0,.t (.int 2)]=some (.t (.int 0),[T1])) (p2:f1 [.b T1,.t (.int (st.length:Int))]=some (.t (.int v),[T2])) (hv:dX st v=some (.tup a)) (p3:f1 [.b T2,.t (.int (st.length:Int))]=some (.t (.int k),[T3])) (hk:dX st k=some (.tup b)) (hl:a.length+b.length<=100000) (hs:st.length<100000):
  O0 f1 f3 [some (.b T0),AAA td,AAB L,x3,x4,AAB st,x6,x7,none]=some (.nx [some (.b T3),AAA td,AAB L,x3,x4,AAB (st++[.tup (a.reverse++b)]),x6,x7,AAC v]):=by
 have q:gQ (.lst st) (.lst [])=false:=by cases st with|nil=>exact absurd rfl hne|cons _ _=>rfl
 have hl':a.reverse.length+b.length<=100000:=by rw[abT];exact hl
 simp[O0,vY,q,hd,p1,p2,hv,p3,hk,sZ,hl,hs,qx]
end
def Th.all {d:D}(h:Th d):KH d=true/\EG 8 d/\bA d<=7/\Sane d/\wD d<=7214:=by
 obtain⟨b,q,rfl,hb⟩:=h;refine⟨?_,⟨(by show 2<=8;lia),hb.fit,True.intro,True.intro⟩,?_,⟨hb.g8,True.intro,True.intro⟩,?_⟩
 ·show(true && D7 b)=true;rw[hb.ok];rfl
 ·have:=hb.dep;show max (bA b) (max 0 0)+1<=7;lia
 ·have:=hb.w;show wD b+2+(6+2+0)+4<=7214;lia
theorem AS {c:Nat}:∀{ds:List D},(∀d∈ds,wD d<=c)->HW ds<=(c+2)*ds.length
 |[],_=>aaM _
 |d::ds,h=>by
  have h1:=h d aak;have h2:=AS fun e he=>h e (aag _ he);show wD d+2+HW ds<=(c+2)*(ds.length+1);rw[Nat.mul_succ];lia
def Bn.all {d:D}(h:Bn 8 d):allB KH d=true/\EG 8 d/\bA d<=8/\Sane d/\wD d<=57732:=by
 obtain⟨l,rfl,hl,ht⟩:=h;have a:=fun t h=>(ht t h).all;refine⟨aa1.mpr fun t h=>(a t h).1,Nq hl fun t h=>(a t h).2.1,AR fun t h=>(a t h).2.2.1,n5.of fun t h=>(a t h).2.2.2.1,?_⟩;have:=AS fun t h=>(a t h).2.2.2.2;have:=ad4 (7214+2) hl;show HW l+4<=57732;lia
def Sn (d:D):Prop:=∃st,d= .tup st/\st.length<=5/\∀b∈st,Bn 8 b
def Bn.mono {m k:Nat}{d:D}(h:Bn m d) (l:m<=k):Bn k d:=by
 obtain⟨x,e,h1,h2⟩:=h;exact⟨x,e,by lia,h2⟩
def Fj {g:GD}{S':SS}{v:Int}(h:g S=some (.int v,S')) (v1:v<1000000) (v0:-1000000<v):rB (ah g aF) S=some (qV 0 v.toNat,S'):=by
 simp[h,v1,v0]
def NF {f1 f3:FM}{T1:MO}{st:List D}{r:SS}(hS:VW f1 f3 S=some (.rt (.t (.tup st)) (some (.b T1)::AAA td::r)))
  (h:cZ f1 f3 [some (.b T),AAA td,none,none,none,none,none,none,none]=VW f1 f3 S):bL 9 (cZ f1 f3) [.b T,.t td]=some (.t (.tup st),[T1]):=by
 show(cZ f1 f3 [some (.b T),AAA td,none,none,none,none,none,none,none]).bind _=_;rw[h,hS];simp[aT]
def Rx (h:Fd n T) (hn:n<500000) (ht:Tb td):∃d T',anyF [.b T,.t td]=some (.t d,[T'])/\Sn d/\Fd (n+600) T':=by
 obtain⟨v,T1,p1,v0,v1,h1⟩:=bO (m:=4) h (by lia) (by decide) (by decide);have hc:(1+v).toNat<=4:=by lia
 obtain⟨L,T2,x3,x4,e1,l1,l2,i3,i4,h2⟩:=VY (td:=td) (c:=(1+v).toNat) h1 (by lia) ht;obtain⟨u,T3,p2,u0,u1,h3⟩:=bO (m:=5) h2 (by lia) (by decide) (by decide);obtain⟨st,T4,KW,x6,x7,e3,s1,s2,h4⟩:=V1 (td:=td) (L:=L) (x3:=x3) (x4:=x4) (x8:=none) (c:=u.toNat) h3 (by lia) (by lia) (by lia) (by lia) l2 i3;have sd:bA (.lst st)<=40:=by
  have:bf st<=8:=Ce fun b hb=>((s2 b hb).mono (by lia)).all.2.2.1;show bf st+1<=40;lia
 have a4:∃(st':List D) (T5:MO) (x8:Option U),O0 bC (jo 4) [some (.b T4),AAA td,AAB L,KW,x4,AAB st,x6,x7,none]=some (.nx [some (.b T5),AAA td,AAB L,KW,x4,AAB st',x6,x7,x8])/\st'.length<=5/\(∀b∈st',Bn 8 b)/\Fd (n+600) T5:=by
  by_cases c:st=[]
  ·exact⟨st,T4,none,KY sd (.inl ⟨c,rfl⟩),by lia,fun b hb=>(s2 b hb).mono (by lia),h4.mono (by lia)⟩
  ·obtain⟨w,T5,p3,w0,w1,h5⟩:=bO (m:=2) h4 (by lia) (by decide) (by decide);by_cases cw:w=0
   ·subst cw;have sl:0<(st.length:Int):=by cases st with|nil=>exact absurd rfl c|cons _ _=>simp only[aaG];lia
    obtain⟨x,T6,p4,y0,y1,h6⟩:=bO (m:=(st.length:Int)) h5 (by lia) sl (by lia);obtain⟨bx,a1,a2⟩:=jO (x:=.bQ) y0 y1;obtain⟨y,T7,p5,z0,z1,h7⟩:=bO (m:=(st.length:Int)) h6 (by lia) sl (by lia);obtain⟨by',b1,b2⟩:=jO (x:=.bQ) z0 z1;obtain⟨la,rfl,la1,la2⟩:=s2 bx a2;obtain⟨lb,rfl,lb1,lb2⟩:=s2 by' b2;refine⟨_,T7,_,ND sd c p3 p4 a1 p5 b1 (by lia) (by lia),by rw[aaw,ab4];lia,?_,h7.mono (by lia)⟩;intro b hb;rcases aav.mp hb with q|q
    ·exact(s2 b q).mono (by lia)
    ·rw[aam] at q;refine⟨_,q,by rw[aaw,abT];lia,fun t V0=>?_⟩;rcases aav.mp V0 with q|q
     ·exact la2 t (adN.mp q)
     ·exact lb2 t q
   ·exact⟨st,T5,none,KY sd (.inr ⟨c,w,p3,cw⟩),by lia,fun b hb=>(s2 b hb).mono (by lia),h5.mono (by lia)⟩
 obtain⟨st',T5,x8,e4,t1,t2,h5⟩:=a4;refine⟨.tup st',T5,?_,⟨st',rfl,t1,t2⟩,h5⟩;refine NF (S:=[some (.b T5),AAA td,AAB L,KW,x4,AAB st',x6,x7,x8]) (r:=[AAB L,KW,x4,AAA (.lst st'),x6,x7,x8]) ?_ ?_
 ·simp[VW,g7]
 ·rw[VX];have e0:as0 bC (jo 4) [some (.b T),AAA td,none,none,none,none,none,none,none]=some (.nx [some (.b T),AAA td,AAB [],none,none,none,none,none,none]):=by simp[as0]
  have e1':as1 bC (jo 4) [some (.b T),AAA td,AAB [],none,none,none,none,none,none]=some (.nx [some (.b T2),AAA td,AAB L,x3,x4,none,none,none,none]):=by
   have er:=Fj (g:=eF (eP fG (ah (eC (.int 1)) (ah (eF (br bC (cI (aB 0) (bw (eC (.int 4)) bM)))) aF)))) (S:=[some (.b T),AAA td,AAB [],none,none,none,none,none,none]) (S':=[some (.b T1),AAA td,AAB [],none,none,none,none,none,none]) (v:=1+v) (by generalize bC=f at *;simp[p1]) (by lia) (by lia);unfold as1;rw[mG,er,aah];exact e1
  have e2:as2 bC (jo 4) [some (.b T2),AAA td,AAB L,x3,x4,none,none,none,none]=some (.nx [some (.b T2),AAA td,AAB L,x3,x4,AAB [],none,none,none]):=by simp[as2]
  have e3':XD bC (jo 4) [some (.b T2),AAA td,AAB L,x3,x4,AAB [],none,none,none]=some (.nx [some (.b T4),AAA td,AAB L,KW,x4,AAB st,x6,x7,none]):=by
   have er:=Fj (g:=eF (br bC (cI (aB 0) (bw (eC (.int 5)) bM)))) (S:=[some (.b T2),AAA td,AAB L,x3,x4,AAB [],none,none,none]) (S':=[some (.b T3),AAA td,AAB L,x3,x4,AAB [],none,none,none]) (v:=u) (by generalize bC=f at *;simp[p2]) (by lia) (by lia);unfold XD;rw[mG,er,aah];exact e3
  rw[dc,e0,aah];simp only;rw[dc,e1',aah];simp only;rw[dc,e2,aah];simp only;rw[dc,e3',aah];simp only;rw[dc,e4,aah]
end Sd
end
section
namespace Sp
open PySem PySem.Spec PyProof.Rows L2 Sw Ss Sd
noncomputable def ONE:BBB:=["not","next","always","some"]
noncomputable def TWO:BBB:=["both","either","till"]
inductive Ts (bs:BBB):D->Prop where
 |any:Ts bs (.tup [.str "any"])
 |name {a:Str}:nameB (.str a)=true->Ts bs (.tup [.str "name",.str a])
 |num {o:Str}{k:Int}:o∈wW->0<=k->k<=9->Ts bs (.tup [.str o,.int k])
 |var {o y:Str}:o∈wW->y∈bs->Ts bs (.tup [.str o,.str y])
inductive Sy:Nat->BBB->D->Prop where
 |leaf {n:Nat}{bs:BBB}{z:Str}:z="yes"\/z="no"->Sy (n+1) bs (.tup [.str z])
 |now {n:Nat}{bs:BBB}{t:D}:Ts bs t->Sy (n+1) bs (.tup [.str "now",t])
 |one {n:Nat}{bs:BBB}{z:Str}{p:D}:z∈ONE->Sy n bs p->Sy (n+1) bs (.tup [.str z,p])
 |two {n:Nat}{bs:BBB}{z:Str}{p q:D}:z∈TWO->Sy n bs p->Sy n bs q->Sy (n+1) bs (.tup [.str z,p,q])
 |XF {n:Nat}{bs:BBB}{k:Int}{p:D}:0<=k->k<=5->Sy n bs p->Sy (n+1) bs (.tup [.str "within",.int k,p])
 |bnd {n:Nat}{bs:BBB}{z a y:Str}{p:D}:z="each"\/z="one"->nameB (.str a)=true->nameB (.str y)=true->Sy n (bs++[y]) p->Sy (n+1) bs (.tup [.str z,.str a,.str y,p])
def Fl {x:D}{zs:BBB}(h:inD x (zs.map D.str)=true):∃z∈zs,x= .str z:=by
 unfold inD at h;rw[List.any_map,aaU] at h;obtain⟨z,hz,e⟩:=h;exact⟨z,hz,tK (show gQ (.str z) x=true from e)⟩
def za {b:D}{m:Int}(h:nN b 0 m=true):∃k,b= .int k/\0<=k/\k<=m:=by
 cases b with
 |int k=>simp only[nN,aaH,aaY] at h;exact⟨k,rfl,h.1,h.2⟩
 |_=>cases h
def Ts.of {bs:BBB}{t:D}(h:Cu bs t=true):Ts bs t:=by
 unfold Cu at h;split at h
 ·rename_i a;have:gQ (.str "any") a=true:=by cases a<;>simp[gQ] at h ⊢;exact h.symm
  rw[tK this];exact .any
 ·rename_i a b;split at h
  ·rename_i c;have:gQ (.str "name") a=true:=by cases a<;>simp[gQ] at c ⊢;exact c.symm
   rw[tK this];obtain⟨y,rfl⟩:=n8 h;exact .name h
  ·obtain⟨h1,h2⟩:=aaN.mp h;obtain⟨o,ho,rfl⟩:=Fl h1;rcases Bool.or_eq_true_iff.mp h2 with q|q
   ·obtain⟨k,rfl,k0,k1⟩:=za q;exact .num ho k0 k1
   ·obtain⟨y,hy,rfl⟩:=Fl q;exact .var ho hy
 ·cases h
def aan {o:Str}(h:o∈wW):o≠"name"/\o≠"any":=by
 simp only[wW,aao,aaQ,abU] at h;rcases h with rfl|rfl|rfl<;>decide
theorem Sy.of:∀{n:Nat}{bs:BBB}{d:D},gC n bs d=true->Sy n bs d
 |0,_,_,h=>by cases h
 |n+1,bs,d,h=>by
  obtain⟨z,r,rfl,hs,hp⟩:=qF h;obtain⟨c,hh,hz⟩:=wX hs;unfold dM at hs;rw[if_pos c] at hs;simp only[qd,aao,aaQ,abU] at hz;have two:∀{k:Nat},je z=(k:Int)+1->r.length=k:=fun e=>by lia
  have l0:r.length=0->r=[]:=List.eq_nil_of_length_eq_zero;have l1:r.length=1->∃a,r=[a]:=fun e=>by match r,e with|[a],_=>exact⟨a,rfl⟩
  have l2:r.length=2->∃a b,r=[a,b]:=fun e=>by match r,e with|[a,b],_=>exact⟨a,b,rfl⟩
  have l3:r.length=3->∃a b p,r=[a,b,p]:=fun e=>by match r,e with|[a,b,p],_=>exact⟨a,b,p,rfl⟩
  rcases hz with rfl|rfl|rfl|rfl|rfl|rfl|rfl|rfl|rfl|rfl|rfl|rfl|rfl
  ·rw[l0 (two (k:=0) (by decide))];exact .leaf (.inl rfl)
  ·rw[l0 (two (k:=0) (by decide))];exact .leaf (.inr rfl)
  ·obtain⟨a,rfl⟩:=l1 (two (k:=1) (by decide));exact .now (.of hs)
  ·obtain⟨a,rfl⟩:=l1 (two (k:=1) (by decide));exact .one (by decide) (Sy.of (hp a (by show a∈[a];simp)))
  ·obtain⟨a,b,rfl⟩:=l2 (two (k:=2) (by decide));exact .two (by decide) (Sy.of (hp a (by show a∈[a,b];simp))) (Sy.of (hp b (by show b∈[a,b];simp)))
  ·obtain⟨a,b,rfl⟩:=l2 (two (k:=2) (by decide));exact .two (by decide) (Sy.of (hp a (by show a∈[a,b];simp))) (Sy.of (hp b (by show b∈[a,b];simp)))
  ·obtain⟨a,rfl⟩:=l1 (two (k:=1) (by decide));exact .one (by decide) (Sy.of (hp a (by show a∈[a];simp)))
  ·obtain⟨a,b,rfl⟩:=l2 (two (k:=2) (by decide));exact .two (by decide) (Sy.of (hp a (by show a∈[a,b];simp))) (Sy.of (hp b (by show b∈[a,b];simp)))
  ·obtain⟨a,b,rfl⟩:=l2 (two (k:=2) (by decide));obtain⟨k,rfl,k0,k1⟩:=za (m:=5) hs;exact .XF k0 k1 (Sy.of (hp b (by show b∈[b];simp)))
  ·obtain⟨a,rfl⟩:=l1 (two (k:=1) (by decide));exact .one (by decide) (Sy.of (hp a (by show a∈[a];simp)))
  ·obtain⟨a,rfl⟩:=l1 (two (k:=1) (by decide));exact .one (by decide) (Sy.of (hp a (by show a∈[a];simp)))
  ·obtain⟨a,b,p,rfl⟩:=l3 (two (k:=3) (by decide));obtain⟨h1,h2⟩:=aaN.mp (show(nameB a && nameB b)=true from hs);obtain⟨x,rfl⟩:=n8 h1;obtain⟨y,rfl⟩:=n8 h2;exact .bnd (.inl rfl) h1 h2 (Sy.of (hp p (by show p∈[p];simp)))
  ·obtain⟨a,b,p,rfl⟩:=l3 (two (k:=3) (by decide));obtain⟨h1,h2⟩:=aaN.mp (show(nameB a && nameB b)=true from hs);obtain⟨x,rfl⟩:=n8 h1;obtain⟨y,rfl⟩:=n8 h2;exact .bnd (.inr rfl) h1 h2 (Sy.of (hp p (by show p∈[p];simp)))
def ze {z:Str}(h:z∈ONE):z="not"\/z="next"\/z="always"\/z="some":=by simpa[ONE] using h
def zf {z:Str}(h:z∈TWO):z="both"\/z="either"\/z="till":=by simpa[TWO] using h
end Sp
end
section
namespace Sp
open PySem PySem.Spec PyProof.Rows L2 Sw Ss
variable {a:D}{n k n2 k2:Nat}
def HN {c:Nat}(h:Rf ⟨#[c]⟩=true):c<16 ^ 8:=by
 obtain⟨i,hi⟩:=(aeK Sw.OW ⟨#[c]⟩).mp h;have:=(aeL Sw.OW c i).mp hi;have k:∀c∈Sw.OW.cps.toList,c<16 ^ 8:=by decide +kernel
 exact k c (aaW this)
def pF {z:Str}(h:nameB (.str z)=true):Sane (.str z)/\z.length<=8:=by
 unfold nameB at h;simp only[aaH,aaY,aa1] at h;exact⟨fun c hc=>HN (h.2 _ (aaD.mpr ⟨c,hc,rfl⟩)),h.1.2⟩
def Wd (z:Str):Prop:=Sane (.str z)/\z.length<=8
def rX (z:Str) (h:(z.cps.toList.all fun c=>decide (c<16 ^ 8))=true) (h8:z.length<=8):Wd z:=⟨fun c hc=>aa2 (aa1.mp h c hc),h8⟩
def good_str {z:Str}(h:Wd z):Good 82 0 (.str z):=⟨h.1,by show 10*z.length+2<=82;have:=h.2;lia,aaj _⟩
def good_int {k:Int}(h0:0<=k) (h9:k<=9):Good 40 0 (.int k):=by
 refine⟨?_,aaj _,aaj _⟩;show k.natAbs<10 ^ 30;have:k.natAbs<=9:=by lia
 exact acm this (by decide)
def zh (h:Good n k a):Good (n+6) (k+1) (.tup [a]):=⟨⟨h.g8,True.intro⟩,by show wD a+2+0+4<=_;have:=h.w;lia,by show max (bA a) 0+1<=_;have:=h.dep;lia⟩
def lX {b:D}(h:Good n k a) (g:Good n2 k2 b):Good (n+n2+8) (max k k2+1) (.tup [a,b]):=⟨⟨h.g8,g.g8,True.intro⟩,by show wD a+2+(wD b+2+0)+4<=_;have:=h.w;have:=g.w;lia,by show max (bA a) (max (bA b) 0)+1<=_;have:=h.dep;have:=g.dep;lia⟩
def zl {b c:D}{n3 k3:Nat}(h:Good n k a) (g:Good n2 k2 b) (j:Good n3 k3 c):Good (n+n2+n3+10) (max k (max k2 k3)+1) (.tup [a,b,c]):=
 ⟨⟨h.g8,g.g8,j.g8,True.intro⟩,by show wD a+2+(wD b+2+(wD c+2+0))+4<=_;have:=h.w;have:=g.w;have:=j.w;lia,by show max (bA a) (max (bA b) (max (bA c) 0))+1<=_;have:=h.dep;have:=g.dep;have:=j.dep;lia⟩
def HP {b c d:D}{n3 k3 n4 k4:Nat}(h:Good n k a) (g:Good n2 k2 b) (j:Good n3 k3 c) (l:Good n4 k4 d):Good (n+n2+n3+n4+12) (max k (max k2 (max k3 k4))+1) (.tup [a,b,c,d]):=
 ⟨⟨h.g8,g.g8,j.g8,l.g8,True.intro⟩,by show wD a+2+(wD b+2+(wD c+2+(wD d+2+0)))+4<=_;have:=h.w;have:=g.w;have:=j.w;have:=l.w;lia,by show max (bA a) (max (bA b) (max (bA c) (max (bA d) 0)))+1<=_;have:=h.dep;have:=g.dep;have:=j.dep;have:=l.dep;lia⟩
def KZ {o:Str}(h:o∈wW):Wd o:=by
 simp only[wW,aao,aaQ,abU] at h;rcases h with rfl|rfl|rfl<;>exact rX _ (by decide +kernel) (by decide)
def Ts.good {bs:BBB}{t:D}(h:Ts bs t) (hw:∀y∈bs,Wd y):Good 172 1 t:=by
 cases h with
 |any=>exact(zh (good_str (rX "any" (by decide +kernel) (by decide)))).mono (by decide) (by decide)
 |name h=>exact(lX (good_str (rX "name" (by decide +kernel) (by decide))) (good_str (pF h))).mono (by decide) (by decide)
 |num a b c=>exact(lX (good_str (KZ a)) (good_int b c)).mono (by decide) (by decide)
 |var a b=>exact(lX (good_str (KZ a)) (good_str (hw _ b))).mono (by decide) (by decide)
def Sy.good {n:Nat}{bs:BBB}{d:D}(h:Sy n bs d) (hw:∀y∈bs,Wd y):Good (400*2 ^ n-300) (n+1) d:=by
 have pw:∀n:Nat,1<=2 ^ n:=fun n=>aee
 induction h with
 |@leaf n bs z h=>have:=pw n;exact(zh (good_str (by rcases h with rfl|rfl<;>exact rX _ (by decide +kernel) (by decide)))).mono (by rw[acn];lia) (by lia)
 |@now n bs t h=>have:=pw n;exact(lX (good_str (rX "now" (by decide +kernel) (by decide))) (h.good hw)).mono (by rw[acn];lia) (by lia)
 |@one n bs z p hz _ ih=>have:=pw n;exact(lX (good_str (by rcases ze hz with rfl|rfl|rfl|rfl<;>exact rX _ (by decide +kernel) (by decide))) (ih hw)).mono (by rw[acn];lia) (by lia)
 |@two n bs z p q hz _ _ i1 i2=>have:=pw n;exact(zl (good_str (by rcases zf hz with rfl|rfl|rfl<;>exact rX _ (by decide +kernel) (by decide))) (i1 hw) (i2 hw)).mono (by rw[acn];lia) (by lia)
 |@XF n bs k p a b _ ih=>have:=pw n;exact(zl (good_str (rX "within" (by decide +kernel) (by decide))) (good_int a (by lia)) (ih hw)).mono (by rw[acn];lia) (by lia)
 |@bnd n bs z a y p hz ha hb _ ih=>
  have:=pw n;exact(HP (good_str (by rcases hz with rfl|rfl<;>exact rX _ (by decide +kernel) (by decide))) (good_str (pF ha)) (good_str (pF hb)) (ih fun w hw'=>by
   rcases aav.mp hw' with q|q
   ·exact hw w q
   ·rw[aam.mp q];exact pF hb)).mono (by rw[acn];lia) (by lia)
end Sp
end
section
namespace T5
open PySem PySem.Spec PyProof.Rows L2 Sw Ss Sd Sp
variable {a l k:Bu}{x y:List Bu}{bs bs':List D}{C c:Addr}{n:Nat}{kvs:List (D×D)}{ks ms:BBJ}{s0 x4:Option U}
mutual
noncomputable def pl:D->Bool
 |.int _=>true
 |.str _=>true
 |.tup ds=>LJ ds
 |_=>false
noncomputable def LJ:List D->Bool
 |[]=>true
 |d::ds=>pl d && LJ ds
end
mutual
theorem O2:∀d:D,pl d=true->nf d=d
 |.int _,_=>rfl
 |.str _,_=>rfl
 |.tup ds,h=>by show D.tup (Oj ds)=_;rw[K0 ds h]
 |.bQ,h=>by cases h
 |.bl _,h=>by cases h
 |.lst _,h=>by cases h
theorem K0:∀ds:List D,LJ ds=true->Oj ds=ds
 |[],_=>rfl
 |d::ds,h=>by
  obtain⟨h1,h2⟩:=aaN.mp (show(pl d && LJ ds)=true from h);show nf d::Oj ds=_;rw[O2 d h1,K0 ds h2]
end
mutual
theorem O3:∀(d:D) (n:Nat),pl d=true->bA d<=n->fY n d=true
 |.int _,n,_,_=>by cases n<;>rfl
 |.str _,n,_,_=>by cases n<;>rfl
 |.tup ds,0,h,hd=>absurd (show bf ds+1<=0 from hd) (by lia)
 |.tup ds,n+1,h,hd=>K1 ds n h (by have:bf ds+1<=n+1:=hd;lia)
 |.bQ,_,h,_=>by cases h
 |.bl _,_,h,_=>by cases h
 |.lst _,_,h,_=>by cases h
theorem K1:∀(ds:List D) (n:Nat),LJ ds=true->bf ds<=n->ds.all (fY n)=true
 |[],_,_,_=>rfl
 |d::ds,n,h,hd=>by
  obtain⟨h1,h2⟩:=aaN.mp (show(pl d && LJ ds)=true from h);have:max (bA d) (bf ds)<=n:=hd;rw[ab2,O3 d n h1 (by lia),K1 ds n h2 (by lia)];rfl
end
mutual
theorem O4:∀a b:D,pl a=true->pl b=true->gQ a b=true->a=b
 |.int x,b,_,hb,h=>by
  cases b with
  |int y=>rw[eq_of_beq (show(x == y)=true from h)]
  |_=>first|(cases h;done)|(cases hb;done)
 |.str x,b,_,hb,h=>by
  cases b with
  |str y=>rw[eq_of_beq (show(x == y)=true from h)]
  |_=>first|(cases h;done)|(cases hb;done)
 |.tup xs,b,ha,hb,h=>by
  cases b with
  |tup ys=>rw[K2 xs ys ha hb h]
  |_=>first|(cases h;done)|(cases hb;done)
 |.bQ,_,h,_,_=>by cases h
 |.bl _,_,h,_,_=>by cases h
 |.lst _,_,h,_,_=>by cases h
theorem K2:∀a b:List D,LJ a=true->LJ b=true->jm a b=true->a=b
 |[],[],_,_,_=>rfl
 |[],_::_,_,_,h=>by cases h
 |_::_,[],_,_,h=>by cases h
 |x::xs,y::ys,ha,hb,h=>by
  obtain⟨a1,a2⟩:=aaN.mp (show(pl x && LJ xs)=true from ha);obtain⟨b1,b2⟩:=aaN.mp (show(pl y && LJ ys)=true from hb);obtain⟨h1,h2⟩:=aaN.mp (show(gQ x y && jm xs ys)=true from h);rw[O4 x y a1 b1 h1,K2 xs ys a2 b2 h2]
end
def Ry {a b:D}(ha:pl a=true) (hb:pl b=true):gQ a b=decide (a=b):=by
 by_cases h:a=b
 ·subst h;rw[lK];simp
 ·rw[aaS h];cases q:gQ a b with
  |false=>rfl
  |true=>exact absurd (O4 a b ha hb q) h
structure Bc (b:D):Prop where
 p:pl b=true
 d:bA b<=8
 t:∃ds,b= .tup ds
def Bc.key {b:D}(h:Bc b):Al b=some b:=by
 obtain⟨ds,rfl⟩:=h.t;show(if fY 8 (.tup ds)=true then some (nf (.tup ds)) else none)=_;rw[if_pos (O3 _ 8 h.p h.d),O2 _ h.p]
noncomputable abbrev Tg:=D×Bool
noncomputable def cH (p:Tg):D:=.tup [p.1,.bl p.2]
def V2 {p q:Tg}(hp:Bc p.1) (hq:Bc q.1):gQ (cH p) (cH q)=decide (p=q):=by
 obtain⟨a,x⟩:=p;obtain⟨b,y⟩:=q;show(gQ a b && ((x == y) && true))=_;rw[Ry hp.p hq.p];by_cases h:a=b<;>by_cases k:x=y<;>simp[h,k]
def Fo {p:Tg}{l:List Tg}(hp:Bc p.1) (hl:∀q∈l,Bc q.1):inD (cH p) (l.map cH)=decide (p∈l):=by
 unfold inD;rw[List.any_map];by_cases h:p∈l
 ·rw[aaT h,aaU];exact⟨p,h,lK _⟩
 ·rw[aaS h,ac2];intro q hq e;have e:gQ (cH q) (cH p)=true:=e;rw[V2 (hl q hq) hp] at e;exact h (aa2 e▸hq)
abbrev Bu:=List Tg
noncomputable def cy (l:Bu):Bool:=l.any fun p=>decide ((p.1,!p.2)∈l)
noncomputable def dY (a b:Bu):Bool:=a.all fun p=>decide (p∈b)
def uW (x y:List Bu):Bool:=x.all fun l=>cy l || y.any fun k=>dY k l
def bY {b:Bu}:dY a b=true↔∀p∈a,p∈b:=by unfold dY;simp
def lY :cy l=true↔∃b,(b,true)∈l/\(b,false)∈l:=by
 unfold cy;rw[aaU];constructor
 ·rintro⟨⟨b,q⟩,h1,h2⟩;have h2:=aa2 h2;cases q
  ·exact⟨b,h2,h1⟩
  ·exact⟨b,h1,h2⟩
 ·rintro⟨b,h1,h2⟩;exact⟨(b,true),h1,aaT h2⟩
def oA {b:Bu}(h:dY a b=true) (hv:cy a=true):cy b=true:=by
 obtain⟨c,h1,h2⟩:=lY.mp hv;exact lY.mpr ⟨c,bY.mp h _ h1,bY.mp h _ h2⟩
def dj {b c:Bu}(h:dY a b=true) (k:dY b c=true):dY a c=true:=bY.mpr fun p hp=>bY.mp k p (bY.mp h p hp)
def fJ :uW x y=true↔∀l∈x,cy l=false->∃k∈y,dY k l=true:=by
 unfold uW;rw[aa1];constructor
 ·intro h l hl hv;have:=h l hl;rw[hv,aeR,aaU] at this;exact this
 ·intro h l hl;cases hv:cy l with
  |true=>rfl
  |false=>rw[aeR,aaU];exact h l hl hv
structure Tr (x r:List Bu):Prop where
 from_:∀k∈r,cy k=false/\∃l∈x,dY k l=true/\dY l k=true
 all:∀l∈x,cy l=false->∃k∈r,dY k l=true
def Tr.sh {r s:List Bu}(h:Tr x r) (k:Tr y s):uW r s=uW x y:=by
 have:uW r s=true↔uW x y=true:=by
  rw[fJ,fJ];constructor
  ·intro q l hl hv;obtain⟨a,ha,h1⟩:=h.all l hl hv;obtain⟨b,hb,h2⟩:=q a ha (h.from_ a ha).1;obtain⟨_,c,hc,_,h3⟩:=k.from_ b hb;exact⟨c,hc,dj h3 (dj h2 h1)⟩
  ·intro q a ha hv;obtain⟨_,l,hl,h1,h2⟩:=h.from_ a ha;have hvl:cy l=false:=by
    cases e:cy l with
    |false=>rfl
    |true=>rw[oA h2 e] at hv;cases hv
   obtain⟨c,hc,h3⟩:=q l hl hvl;have hvc:cy c=false:=by
    cases e:cy c with
    |false=>rfl
    |true=>rw[oA h3 e] at hvl;cases hvl
   obtain⟨b,hb,h4⟩:=k.all c hc hvc;exact⟨b,hb,dj h4 (dj h3 h2)⟩
 cases e1:uW r s<;>cases e2:uW x y
 ·rfl
 ·exact absurd (this.mpr e2) (by rw[e1];simp)
 ·exact absurd (this.mp e1) (by rw[e2];simp)
 ·rfl
noncomputable def ix (bs:List D) (p:Tg):Nat:=2*bs.idxOf p.1+(if p.2 then 0 else 1)
noncomputable def HY:Nat->Nat
 |0=>0
 |n+1=>HY n ||| 2 ^ (2*n)
def oB (bs:List D) (l:Bu):Nat:=l.foldl (fun m p=>m ||| 2 ^ ix bs p) 0
theorem Fp (bs:List D) (k:Nat):∀(l:Bu) (m:Nat),(l.foldl (fun m p=>m ||| 2 ^ ix bs p) m).testBit k=(m.testBit k || l.any fun p=>decide (ix bs p=k))
 |[],m=>by simp
 |p::l,m=>by
  rw[adm,Fp bs k l,Nat.testBit_or,Nat.testBit_two_pow,acJ,Bool.or_assoc]
def uc (bs:List D) (l:Bu) (k:Nat):(oB bs l).testBit k=l.any fun p=>decide (ix bs p=k):=by
 unfold oB;rw[Fp];simp
theorem Fq:∀(n k:Nat),(HY n).testBit k=decide (k % 2=0/\k / 2<n)
 |0,k=>by simp[HY]
 |n+1,k=>by
  show(HY n ||| 2 ^ (2*n)).testBit k=_;rw[Nat.testBit_or,Fq n k,Nat.testBit_two_pow];by_cases h:2*n=k
  ·subst h;simp
  ·rw[aaS h,aeS];by_cases q:k % 2=0<;>simp[q]
   lia
def Ft {a b:D}(ha:a∈bs) (hb:b∈bs) (h:bs.idxOf a=bs.idxOf b):a=b:=by
 have h1:=aef (abP ha);have h2:=aef (abP hb);rw[<-h1,<-h2]
 congr 1
def Rz {p q:Tg}(hp:p.1∈bs) (hq:q.1∈bs) (h:ix bs p=ix bs q):p=q:=by
 obtain⟨a,x⟩:=p;obtain⟨b,y⟩:=q;have hp:a∈bs:=hp;have hq:b∈bs:=hq;have h:2*bs.idxOf a+(if x=true then 0 else 1)=2*bs.idxOf b+(if y=true then 0 else 1):=h;have:x=y:=by
  cases x<;>cases y
  ·rfl
  ·simp at h;lia
  ·simp at h;lia
  ·rfl
 subst this;have:bs.idxOf a=bs.idxOf b:=by lia
 rw[Ft hp hq this]
def xj (hl:∀p∈l,p.1∈bs){p:Tg}(hp:p.1∈bs):(oB bs l).testBit (ix bs p)=decide (p∈l):=by
 rw[uc];by_cases h:p∈l
 ·rw[aaT h,aaU];exact⟨p,h,by simp⟩
 ·rw[aaS h,ac2];intro q hq e;exact h (Rz (hl q hq) hp (aa2 e)▸hq)
def j0 {b:Bu}(ha:∀p∈a,p.1∈bs) (hb:∀p∈b,p.1∈bs):(oB bs a &&& oB bs b=oB bs a)↔dY a b=true:=by
 rw[bY];constructor
 ·intro h p hp;have e:(oB bs a &&& oB bs b).testBit (ix bs p)=(oB bs a).testBit (ix bs p):=by rw[h]
  rw[adX,xj ha (ha p hp),xj hb (ha p hp),aaT hp] at e
  simpa using e
 ·intro h;apply Nat.eq_of_testBit_eq;intro k;rw[adX,uc,uc];cases e:a.any fun p=>decide (ix bs p=k) with
  |false=>rfl
  |true=>
   obtain⟨p,hp,q⟩:=aaU.mp e;rw[Bool.true_and,aaU];exact⟨p,h p hp,q⟩
def Fv (hl:∀p∈l,p.1∈bs):(oB bs l &&& oB bs l / 2 &&& HY bs.length≠0)↔cy l=true:=by
 rw[lY];have bit:∀k,(oB bs l &&& oB bs l / 2 &&& HY bs.length).testBit k=(((oB bs l).testBit k && (oB bs l).testBit (k+1)) && decide (k % 2=0/\k / 2<bs.length)):=fun k=>by
  rw[adX,adX,Fq,Nat.testBit_div_two]
 constructor
 ·intro h;obtain⟨k,hk⟩:=Nat.exists_testBit_of_ne_zero h;rw[bit] at hk;obtain⟨h1,h2⟩:=aaN.mp hk;obtain⟨h3,h4⟩:=aaN.mp h1;have h2:=aa2 h2;rw[uc,aaU] at h3 h4;obtain⟨⟨b,x⟩,hp,e1⟩:=h3;obtain⟨⟨c,y⟩,hq,e2⟩:=h4;have e1:=aa2 e1;have e2:=aa2 e2;unfold ix at e1 e2;dsimp only at e1 e2;have hx:x=true:=by
   cases x with
   |true=>rfl
   |false=>simp at e1;lia
  have hy:y=false:=by
   cases y with
   |false=>rfl
   |true=>simp at e2;lia
  subst hx;subst hy;simp at e1 e2;have:bs.idxOf b=bs.idxOf c:=by lia
  have:=Ft (hl _ hp) (hl _ hq) this;subst this;exact⟨b,hp,hq⟩
 ·rintro⟨b,h1,h2⟩ h;have hb:=hl _ h1;have e:=bit (ix bs (b,true));rw[h,Nat.zero_testBit,xj (p:=(b,true)) hl hb,aaT h1] at e;have e2:ix bs (b,true)+1=ix bs (b,false):=by simp[ix]
  have hl2:bs.idxOf b<bs.length:=abP hb;rw[e2,xj (p:=(b,false)) hl hb,aaT h2] at e;have:ix bs (b,true) % 2=0/\ix bs (b,true) / 2<bs.length:=by
   simp only[ix,if_true];lia
  rw[aaT this] at e;cases e
def fK (aK:Addr):GS:=
 (aU (qw (qB (Hx true aK 0 "numbers" 4 (eF (aB 1)))) (aU (Kg aK 0 "numbers" 4 (eF (aB 1)) (E3 aK 0 "basics" 3))
 (aU (Kf aK 0 "trues" (eF (eP J9 (ah (Ck aK 0 "trues") (ah (eF (eP DU (ah (eC (.int 1)) (ah (eF (eP vN (ah (eC (.int 2)) (ah (E3 aK 0 "basics" 3) aF)))) aF)))) aF)))))
 (nq (eT (Kh aK 0 "basics" 3 hAppend (ah (eF (aB 1)) aF)))))) gB)
 (aU (cD 5 (eP vN (ah (eC (.int 2)) (ah (E4 aK 0 "numbers" 4 (eF (aB 1))) aF))))
 (dI (eP DU (ah (eC (.int 1)) (ah (eF (WW (qB (eF (aB 2))) (aB 5) (eP fG (ah (eF (aB 5)) (ah (eC (.int 1)) aF))))) aF))))))
def jg (C c d:Addr) (n:Nat):MO:=.Dy C [("basics",.inr c),("numbers",.inr d),("trues",.inl (.int (HY n:Nat)))]
noncomputable def gR:Nat->List D->List (D×D)
 |_,[]=>[]
 |k,b::l=>(b,.int (k:Nat))::gR (k+1) l
noncomputable def add (bs:List D) (b:D):List D:=if b∈bs then bs else bs++[b]
theorem lZ (b:D):∀(k:Nat) (bs:List D),dF (gR k bs) b=if b∈bs then some (.int ((k+bs.idxOf b:Nat):Int)) else none
 |_,[]=>rfl
 |k,a::bs=>by
  have ih:=lZ b (k+1) bs;unfold dF at ih ⊢;unfold gR;rw[abN,List.idxOf_cons];by_cases h:a=b
  ·subst h;simp
  ·rw[aaS h,ih];have h':¬b=a:=fun e=>h e.symm;have h2:(a == b)=false:=by simpa using h
   simp only[aao,h',false_or,h2,cond_false];split
   ·congr 3;lia
   ·rfl
theorem xm (b:D):∀(k:Nat) (bs:List D),gR k (bs++[b])=gR k bs++[(b,.int ((k+bs.length:Nat):Int))]
 |k,[]=>rfl
 |k,a::bs=>by
  show(a,D.int (k:Nat))::gR (k+1) (bs++[b])=(a,D.int (k:Nat))::(gR (k+1) bs++_);rw[xm b (k+1) bs,aaG,show k+1+bs.length=k+(bs.length+1) by lia]
def K3 {b:D}{k:Nat}{v:D}(h:b∉bs):putD (gR k bs) b v=gR k bs++[(b,v)]:=by
 unfold putD;rw[if_neg];intro e;rw[aaU] at e;obtain⟨x,hx,e⟩:=e;have e:=aa2 e;have:=lZ b k bs;rw[if_neg h] at this;unfold dF at this;rw[Option.map_eq_none_iff,List.find?_eq_none] at this;exact this x hx (aaT e)
theorem CH:∀(k:Nat) (bs:List D),(gR k bs).length=bs.length
 |_,[]=>rfl
 |k,_::bs=>by show(gR (k+1) bs).length+1=bs.length+1;rw[CH]
section
variable {x y z:D ⊕ Addr}
@[simp] theorem adC:List.lookup ("basics":Str) [("basics",x),("numbers",y),("trues",z)]=some x:=by rfl
@[simp] theorem adD:List.lookup ("numbers":Str) [("basics",x),("numbers",y),("trues",z)]=some y:=by rfl
@[simp] theorem adE:List.lookup ("trues":Str) [("basics",x),("numbers",y),("trues",z)]=some z:=by rfl
@[simp] theorem abw:List.lookup ("of_thing":Str) [(("basics":Str),x),(("numbers":Str),y),(("trues":Str),z)]=none:=by rfl
@[simp] theorem abx:List.lookup ("of_bunch":Str) [(("basics":Str),x),(("numbers":Str),y),(("trues":Str),z)]=none:=by rfl
@[simp] theorem aby:List.lookup ("of_stand":Str) [(("basics":Str),x),(("numbers":Str),y),(("trues":Str),z)]=none:=by rfl
@[simp] theorem abz:List.lookup ("trim":Str) [(("basics":Str),x),(("numbers":Str),y),(("trues":Str),z)]=none:=by rfl
@[simp] theorem abA:List.lookup ("is_void":Str) [(("basics":Str),x),(("numbers":Str),y),(("trues":Str),z)]=none:=by rfl
@[simp] theorem abB {w:D ⊕ Addr}:Ci "trues" w [("basics",x),("numbers",y),("trues",z)]=[(("basics":Str),x),(("numbers":Str),y),(("trues":Str),w)]:=by rfl
end
def LK (C:Addr):FM:=bL 6 (fK C)
def RA (C:Addr):∀us r,LK C us=some r->bL 6 (fK C) us=some r:=fun _ _ h=>h
def K4 (C c d:Addr) (bs:List D):List MO:=[jg C c d bs.length,.lat c bs,.gU d (gR 0 bs)]
def V3 {d:Addr}{b:D}{q:Bool}(hb:Bc b) (hl:bs.length<10000):
  LK C [.b (jg C c d bs.length),.t b,.t (.bl q),.b (.lat c bs),.b (.gU d (gR 0 bs))]=some (.t (.int ((2 ^ ix (add bs b) (b,q):Nat):Int)),K4 C c d (add bs b)):=by
 by_cases h:b∈bs
 ·have e:add bs b=bs:=if_pos h;have hi:bs.idxOf b<bs.length:=abP h;rw[e];have lk:=lZ b 0 bs;rw[if_pos h,ac8] at lk;have a1:(2:Int)*(bs.idxOf b:Nat)<=100000:=by lia
  have a2:(2:Int)*(bs.idxOf b:Nat)+1<=100000:=by lia
  have a3:(0:Int)<=2*(bs.idxOf b:Nat):=by lia
  have a4:(0:Int)<=2*(bs.idxOf b:Nat)+1:=by lia
  have a5:((2:Int)*(bs.idxOf b:Nat)).toNat=2*bs.idxOf b:=by lia
  have a6:((2:Int)*(bs.idxOf b:Nat)+1).toNat=2*bs.idxOf b+1:=by lia
  cases q<;>simp[LK,bL,fK,jg,K4,Hx,yh,jd,wG,hb.key,lk,E4,aT,DU,xQ,ix,a1,a2,a3,a4,a5,a6]
 ·have e:add bs b=bs++[b]:=if_neg h;rw[e];have lk:=lZ b 0 bs;rw[if_neg h] at lk;have lk2:=lZ b 0 (bs++[b]);have hidx:(bs++[b]).idxOf b=bs.length:=by rw[List.idxOf_append,if_neg h];simp
  rw[if_pos (by simp),hidx,ac8,xm,ac8] at lk2;have a1:(2:Int)*(bs.length:Nat)<=100000:=by lia
  have a2:(2:Int)*(bs.length:Nat)+1<=100000:=by lia
  have a3:(0:Int)<=2*(bs.length:Nat):=by lia
  have a4:(0:Int)<=2*(bs.length:Nat)+1:=by lia
  have a5:((2:Int)*(bs.length:Nat)).toNat=2*bs.length:=by lia
  have a6:((2:Int)*(bs.length:Nat)+1).toNat=2*bs.length+1:=by lia
  have nl:=CH 0 bs;have pt:=fun v=>K3 (k:=0) (v:=v) h;have hl':bs.length<100000:=by lia
  have p0:(0:Int)<=2 ^ (2*bs.length):=Int.pow_nonneg (by lia);have p1:((2:Int) ^ (2*bs.length)).toNat=2 ^ (2*bs.length):=by
   have:((2:Int) ^ (2*bs.length))=((2 ^ (2*bs.length):Nat):Int):=by simp
   rw[this,aen]
  cases q<;>simp[LK,bL,fK,jg,K4,Hx,yh,jd,wG,yW,EY,VG,hb.key,lk,lk2,E4,Kg,VH,Kf,Ck,E3,Kh,aT,DU,J9,xQ,ix,a1,a2,a3,a4,a5,a6,hidx,nl,pt,p0,p1,hl',xm,HY,hAppend]
def dH (jq:FM) (aK:Addr):GS:=
 (cD 4 (eP J9 (ah (eF (aB 4)) (ah (eF (d9 aK "of_thing" 0 jq (bw (eG 5 (eC (.int 0))) (bw (eG 5 (eC (.int 1))) bM)) [2,3])) aF))))
def ia (jq:FM) (aK:Addr):GS:=
 (aU (cD 4 (eT (eC (.int 0))))
 (aU (mG (bName 5) (iY (eF (aB 1))) (dH jq aK))
 (dI (aB 4))))
section
variable {C c d:Addr}{S:SS}{n:Nat}{s0 s1:Option U}
def CI (c d:Addr) (n:Nat):List (Str×(D ⊕ Addr)):=[("basics",.inr c),("numbers",.inr d),("trues",.inl (.int (HY n:Nat)))]
def K5:jd C (some (.b (jg C c d n))::S) 0=some (CI c d n):=by simp[jd,jg,CI]
def V4:jd C (s0::some (.b (jg C c d n))::S) 1=some (CI c d n):=by simp[jd,jg,CI]
def aaq:jd C (s0::s1::some (.m (jg C c d n))::S) 2=some (CI c d n):=by simp[jd,jg,CI]
end
def adds (bs:List D) (l:Bu):List D:=l.foldl (fun bs p=>add bs p.1) bs
def RB (C:Addr):FM:=bL 6 (ia (LK C) C)
def RC (C:Addr):∀us r,RB C us=some r->bL 6 (ia (LK C) C) us=some r:=fun _ _ h=>h
def NG {d:Addr}{b t:D}{q:Bool}{m:Nat}(hb:Bc b) (hl:bs.length<10000):
  dH (LK C) C [some (.b (jg C c d bs.length)),AAA t,some (.b (.lat c bs)),some (.b (.gU d (gR 0 bs))),AAC (m:Nat),AAA (cH (b,q))]
   = some (.nx [some (.b (jg C c d (add bs b).length)),AAA t,some (.b (.lat c (add bs b))),some (.b (.gU d (gR 0 (add bs b)))),AAC ((m ||| 2 ^ ix (add bs b) (b,q):Nat):Int),AAA (cH (b,q))]):=by
 have e:=V3 (C:=C) (c:=c) (d:=d) (q:=q) hb hl;have p0:(0:Int)<=2 ^ ix (add bs b) (b,q):=Int.pow_nonneg (by lia);have p1:((2:Int) ^ ix (add bs b) (b,q)).toNat=2 ^ ix (add bs b) (b,q):=by
  have:((2:Int) ^ ix (add bs b) (b,q))=((2 ^ ix (add bs b) (b,q):Nat):Int):=by simp
  rw[this,aen]
 have a0:dX [b,D.bl q] 0=some b:=rfl;have a1:dX [b,D.bl q] 1=some (.bl q):=rfl;simp[dH,d9,a0,a1,K5,CI,OR,uK,cH,e,K4,J9,xQ,p0,p1]
def Fw (bs:List D) (b:D):b∈add bs b:=by unfold add;split<;>simp[*]
def Fx {b x:D}(h:x∈bs):x∈add bs b:=by unfold add;split<;>simp[*]
def RD {b:D}{p:Tg}(h:p.1∈bs):ix (add bs b) p=ix bs p:=by
 unfold add ix;split
 ·rfl
 ·rw[List.idxOf_append,if_pos h]
theorem rY {x:D}:∀(l:Bu){bs:List D},x∈bs->x∈adds bs l
 |[],_,h=>h
 |p::l,bs,h=>rY l (bs:=add bs p.1) (Fx h)
theorem AU {p:Tg}:∀(l:Bu){bs:List D},p.1∈bs->ix (adds bs l) p=ix bs p
 |[],_,h=>rfl
 |q::l,bs,h=>(AU l (bs:=add bs q.1) (Fx h)).trans (RD h)
theorem xq:∀(l:Bu){bs:List D}{p:Tg},p∈l->p.1∈adds bs l
 |q::l,bs,p,h=>by
  rcases aao.mp h with rfl|h
  ·exact rY l (bs:=add bs p.1) (Fw bs p.1)
  ·exact xq l (bs:=add bs q.1) h
def Fy (bs:List D) (b:D):(add bs b).length<=bs.length+1:=by unfold add;split<;>simp
theorem xr:∀(l:Bu) (bs:List D),(adds bs l).length<=bs.length+l.length
 |[],_=>aaj _
 |p::l,bs=>by
  have h1:=xr l (add bs p.1);have h2:=Fy bs p.1;show(adds (add bs p.1) l).length<=bs.length+(l.length+1);lia
theorem Fz {C c d:Addr}{t:D}:∀(l:Bu) (bs:List D) (m:Nat) (x5:Option U),fS x5=false->(∀p∈l,Bc p.1)->bs.length+l.length<10000->
  ∃y,loop (bName 5) (dH (LK C) C) (l.map cH) [some (.b (jg C c d bs.length)),AAA t,some (.b (.lat c bs)),some (.b (.gU d (gR 0 bs))),AAC (m:Nat),x5]
   = some (.nx [some (.b (jg C c d (adds bs l).length)),AAA t,some (.b (.lat c (adds bs l))),some (.b (.gU d (gR 0 (adds bs l)))),AAC ((l.foldl (fun m p=>m ||| 2 ^ ix (adds bs l) p) m:Nat):Int),y])
 |[],bs,m,x5,_,_,_=>⟨x5,rfl⟩
 |(b,q)::l,bs,m,x5,h5,hb,hl=>by
  have hl:bs.length+(l.length+1)<10000:=hl;have h1:=Fy bs b;obtain⟨y,e⟩:=Fz (C:=C) (c:=c) (d:=d) (t:=t) l (add bs b) (m ||| 2 ^ ix (add bs b) (b,q)) (some (.t (cH (b,q)))) rfl (fun p hp=>hb p (aag _ hp)) (by lia);refine⟨y,?_⟩;have tn:=NG (C:=C) (c:=c) (d:=d) (t:=t) (q:=q) (m:=m) (hb (b,q) aak) (show bs.length<10000 by lia);have ea:adds bs ((b,q)::l)=adds (add bs b) l:=rfl;have ei:ix (adds (add bs b) l) (b,q)=ix (add bs b) (b,q):=AU (p:=(b,q)) l (Fw bs b);rw[ea,adm,ei,<-e];show((bName 5 (cH (b,q)) _).bind _)=_;have eb:bName 5 (cH (b,q)) [some (.b (jg C c d bs.length)),AAA t,some (.b (.lat c bs)),some (.b (.gU d (gR 0 bs))),AAC (m:Nat),x5]=some [some (.b (jg C c d bs.length)),AAA t,some (.b (.lat c bs)),some (.b (.gU d (gR 0 bs))),AAC (m:Nat),AAA (cH (b,q))]:=by simp[-bN,bD,h5]
  rw[eb,aah,tn,aah]
def dg (l:Bu):D:=.tup (l.map cH)
def V5 {d:Addr}(hb:∀p∈l,Bc p.1) (hl:bs.length+l.length<10000):
  RB C [.b (jg C c d bs.length),.t (dg l),.b (.lat c bs),.b (.gU d (gR 0 bs))]=some (.t (.int ((oB (adds bs l) l:Nat):Int)),K4 C c d (adds bs l)):=by
 obtain⟨y,e⟩:=Fz (C:=C) (c:=c) (d:=d) (t:=dg l) l bs 0 none rfl hb hl;have e:loop (bName 5) (dH (LK C) C) (l.map cH) [some (.b (jg C c d bs.length)),AAA (dg l),some (.b (.lat c bs)),some (.b (.gU d (gR 0 bs))),AAC 0,none]=_:=e;unfold dg at e ⊢;simp[RB,bL,ia,dQ,e,aT,K4,oB]
def jr (aK:Addr):GS:=
 (dI (eP xZ (ah (eF (eP wA (ah (eF (eP wA (ah (eF (aB 1)) (ah (eF (eP Q2 (ah (eF (aB 1)) (ah (eC (.int 1)) aF)))) aF)))) (ah (Ck aK 0 "trues") aF)))) (ah (eC (.int 0)) aF))))
def fj:GS:=
 (qw (qB (eF (eP xR (ah (eF (eP wA (ah (eF (aB 2)) (ah (eF (aB 0)) aF)))) (ah (eF (aB 2)) aF))))) (dI (eT (eC (.bl true)))) gB)
def ie:GS:=
 (aU (mG (bName 2) (iY (eF (aB 1))) (fj))
 (dI (eT (eC (.bl false)))))
def fZ (kE ju:FM) (aK:Addr):GS:=
 (qw (Ae (k8 (qB (eF (d9 aK "is_void" 0 kE (bw (eF (aB 5)) bM) [2,3])))) (k8 (qB (AF ju (eF (aB 5)) 4)))) (nq (eT (eM 4 hAppend (ah (eF (aB 5)) aF)))) gB)
def mS (kE ju:FM) (aK:Addr):GS:=
 (aU (cD 4 (eP fW aF))
 (aU (mG (bName 5) (iY (eF (eP Au (ah (eF (aB 1)) aF)))) (fZ kE ju aK))
 (dI (aB 4))))
def ig (CJ uX:FM) (aK:Addr):GS:=
 (dI (d9 aK "trim" 0 CJ (bw (eF (fR [0,2,3] (iY (eF (aB 1))) cj (eF (d9 aK "of_bunch" 1 uX (bw (eF (aB 0)) bM) [2,3])))) bM) [2,3]))
def NH (C:Addr):FM:=bL 4 (jr C)
def RE (C:Addr):∀us r,NH C us=some r->bL 4 (jr C) us=some r:=fun _ _ h=>h
def vM (n m:Nat):Bool:=decide (m &&& m / 2 &&& HY n≠0)
def aar (a:Nat):(((a:Nat):Int) == 0)=decide (a=0):=by rw[abO];simp
def V6 {d:Addr}{m:Nat}:
  NH C [.b (jg C c d n),.t (.int (m:Nat)),.b (.lat c bs),.b (.gU d kvs)]=some (.t (.bl (vM n m)),[jg C c d n,.lat c bs,.gU d kvs]):=by
 have h1:(0:Int)<=(m:Nat) / 2:=by lia
 have h2:((m:Int) / 2).toNat=m / 2:=by lia
 simp[NH,bL,jr,Ck,K5,CI,wA,Q2,xQ,aT,vM,h1,h2];exact aar _
noncomputable def AV (m:Nat) (ks:BBJ):Bool:=ks.any fun k=>decide (k &&& m=k)
noncomputable def nats (ks:BBJ):List D:=ks.map fun k=>.int (k:Nat)
def AW:FM:=bL 3 ie
def NJ:∀us r,AW us=some r->bL 3 ie us=some r:=fun _ _ h=>h
theorem CK {m:Nat}{t:D}:∀(ks:BBJ) (x:Option U),fS x=false->∃y,loop (bName 2) fj (nats ks) [AAC (m:Nat),AAA t,x]
  = some (if AV m ks then .rt (.t (.bl true)) [AAC (m:Nat),AAA t,y] else .nx [AAC (m:Nat),AAA t,y])
 |[],x,_=>⟨x,rfl⟩
 |k::ks,x,hx=>by
  obtain⟨y,e⟩:=CK (m:=m) (t:=t) ks (AAC (k:Nat)) rfl;by_cases h:k &&& m=k
  ·refine⟨AAC (k:Nat),?_⟩;have:AV m (k::ks)=true:=by simp[AV,h]
   rw[if_pos this];simp[nats,loop,-bN,bD,hx,fj,wA,xQ,h]
  ·refine⟨y,?_⟩;have:AV m (k::ks)=AV m ks:=by simp[AV,h]
   rw[this,<-e];have h':¬((k &&& m:Nat):Int)=(k:Int):=fun e=>h (Int.ofNat.inj e);simp[nats,loop,-bN,bD,hx,fj,wA,xQ,h']
def RG {m:Nat}:AW [.t (.int (m:Nat)),.t (.lst (nats ks))]=some (.t (.bl (AV m ks)),[]):=by
 obtain⟨y,e⟩:=CK (m:=m) (t:=.lst (nats ks)) ks none rfl;cases h:AV m ks<;>rw[h] at e<;>simp[AW,bL,ie,dQ,e,aT]
def gT (n:Nat):BBJ->BBJ->BBJ
 |[],kept=>kept
 |m::r,kept=>if vM n m=false/\AV m kept=false then gT n r (kept++[m]) else gT n r kept
theorem AX {n k:Nat}:∀(ms kept:BBJ),k∈gT n ms kept->k∈kept\/(k∈ms/\vM n k=false)
 |[],kept,h=>.inl h
 |m::r,kept,h=>by
  unfold gT at h;split at h
  ·rename_i c;rcases AX r _ h with q|q
   ·rcases aav.mp q with q|q
    ·exact .inl q
    ·rw[aam.mp q];exact .inr ⟨aak,c.1⟩
   ·exact .inr ⟨aag _ q.1,q.2⟩
  ·rcases AX r _ h with q|q
   ·exact .inl q
   ·exact .inr ⟨aag _ q.1,q.2⟩
theorem pG {n k:Nat}:∀(ms kept:BBJ),k∈kept->k∈gT n ms kept
 |[],kept,h=>h
 |m::r,kept,h=>by
  unfold gT;split
  ·exact pG r _ (aav.mpr (.inl h))
  ·exact pG r _ h
def mT {m:Nat}:AV m ks=true↔∃k∈ks,k &&& m=k:=by unfold AV;simp
theorem xu {n m:Nat}:∀(ms kept:BBJ),m∈ms->vM n m=false->∃k∈gT n ms kept,k &&& m=k
 |x::r,kept,h,hv=>by
  rcases aao.mp h with rfl|h
  ·unfold gT;split
   ·exact⟨m,pG r _ (aav.mpr (.inr aak)),Nat.and_self m⟩
   ·rename_i c;have:AV m kept=true:=by
     cases e:AV m kept with
     |true=>rfl
     |false=>exact absurd ⟨hv,e⟩ c
    obtain⟨k,hk,e⟩:=mT.mp this;exact⟨k,pG r _ hk,e⟩
  ·unfold gT;split
   ·exact xu r _ h hv
   ·exact xu r _ h hv
def Te (C:Addr):FM:=bL 6 (mS (NH C) AW C)
def tm_run (C:Addr):∀us r,Te C us=some r->bL 6 (mS (NH C) AW C) us=some r:=fun _ _ h=>h
def NK {d:Addr}{m:Nat}{t:D}(hl:ks.length<1000):
  fZ (NH C) AW C [some (.b (jg C c d n)),AAA t,some (.b (.lat c bs)),some (.b (.gU d kvs)),AAB (nats ks),AAC (m:Nat)]
   = some (.nx [some (.b (jg C c d n)),AAA t,some (.b (.lat c bs)),some (.b (.gU d kvs)),AAB (nats (if vM n m=false/\AV m ks=false then ks++[m] else ks)),AAC (m:Nat)]):=by
 have e1:=V6 (C:=C) (c:=c) (d:=d) (n:=n) (m:=m) (bs:=bs) (kvs:=kvs);have e2:=RG (m:=m) (ks:=ks);have hl':(nats ks).length<100000:=by rw[nats,aai];lia
 cases h1:vM n m<;>cases h2:AV m ks<;>rw[h1] at e1<;>rw[h2] at e2<;>simp[fZ,d9,K5,CI,OR,uK,e1,AF,look,e2,pS,hl',hAppend]<;>simp[nats]
theorem FA {C c d:Addr}{n:Nat}{t:D}{bs:List D}{kvs:List (D×D)}:∀(ms ks:BBJ) (x:Option U),fS x=false->ms.length+ks.length<1000->
  ∃y,loop (bName 5) (fZ (NH C) AW C) (nats ms) [some (.b (jg C c d n)),AAA t,some (.b (.lat c bs)),some (.b (.gU d kvs)),AAB (nats ks),x]
   = some (.nx [some (.b (jg C c d n)),AAA t,some (.b (.lat c bs)),some (.b (.gU d kvs)),AAB (nats (gT n ms ks)),y])
 |[],ks,x,_,_=>⟨x,rfl⟩
 |m::ms,ks,x,hx,hl=>by
  have hl:ms.length+1+ks.length<1000:=hl;have tn:=NK (C:=C) (c:=c) (d:=d) (n:=n) (m:=m) (t:=t) (bs:=bs) (kvs:=kvs) (ks:=ks) (by lia);have eb:bName 5 (.int (m:Nat)) [some (.b (jg C c d n)),AAA t,some (.b (.lat c bs)),some (.b (.gU d kvs)),AAB (nats ks),x]=some [some (.b (jg C c d n)),AAA t,some (.b (.lat c bs)),some (.b (.gU d kvs)),AAB (nats ks),AAC (m:Nat)]:=by simp[-bN,bD,hx]
  have hk:gT n (m::ms) ks=gT n ms (if vM n m=false/\AV m ks=false then ks++[m] else ks):=by
   show(if _ then _ else _)=_;split<;>rfl
  have hl2:(if vM n m=false/\AV m ks=false then ks++[m] else ks).length<=ks.length+1:=by split<;>simp
  rw[hk];generalize (if vM n m=false/\AV m ks=false then ks++[m] else ks)=ks' at *;obtain⟨y,e⟩:=FA (C:=C) (c:=c) (d:=d) (n:=n) (t:=t) (bs:=bs) (kvs:=kvs) ms ks' (AAC (m:Nat)) rfl (by lia);refine⟨y,?_⟩;show((bName 5 (.int (m:Nat)) _).bind _)=_;rw[eb,aah,tn,aah];exact e
def HQ (ms:BBJ):BBJ:=(sortI (ms.map Int.ofNat)).map Int.toNat
def FD {k:Nat}:k∈HQ ms↔k∈ms:=by
 unfold HQ;rw[aaD];constructor
 ·rintro⟨z,hz,rfl⟩;obtain⟨a,ha,rfl⟩:=aaD.mp (lU.mp hz);exact ha
 ·intro h;exact⟨(k:Int),lU.mpr (aaD.mpr ⟨k,h,rfl⟩),rfl⟩
def K6 (ms:BBJ):(sortI (ms.map Int.ofNat)).map D.int=nats (HQ ms):=by
 unfold nats HQ;rw[abE];refine acF fun z hz=>?_;obtain⟨a,ha,rfl⟩:=aaD.mp (lU.mp hz);rfl
theorem zo:∀ms:BBJ,pY (nats ms)=some (ms.map Int.ofNat)
 |[]=>rfl
 |m::ms=>by
  have:=zo ms;unfold nats at this ⊢;simp[pY,this]
def FE (ms:BBJ):(HQ ms).length<=ms.length:=by
 unfold HQ;rw[aai,(sortI_perm _).length_eq];have:=Ar (fun i=>(ms.map Int.ofNat).getD i 0) (ms.map Int.ofNat).length;rw[aai] at this ⊢;exact this
def V7 {d:Addr}(hl:ms.length<64):
  Te C [.b (jg C c d n),.t (.lst (nats ms)),.b (.lat c bs),.b (.gU d kvs)]=some (.m (.lst (nats (gT n (HQ ms) []))),[jg C c d n,.lat c bs,.gU d kvs]):=by
 have sl:=FE ms;obtain⟨y,e⟩:=FA (C:=C) (c:=c) (d:=d) (n:=n) (t:=.lst (nats ms)) (bs:=bs) (kvs:=kvs) (HQ ms) [] none rfl (by show _+0<1000;lia);have e:loop (bName 5) (fZ (NH C) AW C) (nats (HQ ms)) [some (.b (jg C c d n)),AAA (.lst (nats ms)),some (.b (.lat c bs)),some (.b (.gU d kvs)),AAB [],none]=_:=e;have hl':(ms.map Int.ofNat).length<64:=by rw[aai];exact hl
 simp[-bN,bD,Te,bL,mS,dQ,Au,zo,hl,K6,e,aT]
def cz (bs:List D) (x:List Bu):List D:=x.foldl adds bs
noncomputable def tot (x:List Bu):Nat:=(x.map List.length).sum
theorem ud {a:D}:∀(x:List Bu){bs:List D},a∈bs->a∈cz bs x
 |[],_,h=>h
 |l::x,bs,h=>ud x (bs:=adds bs l) (rY l h)
theorem xw {p:Tg}:∀(x:List Bu){bs:List D},p.1∈bs->ix (cz bs x) p=ix bs p
 |[],_,h=>rfl
 |l::x,bs,h=>(xw x (bs:=adds bs l) (rY l h)).trans (AU l h)
theorem fL:∀(x:List Bu){bs:List D}{l:Bu}{p:Tg},l∈x->p∈l->p.1∈cz bs x
 |k::x,bs,l,p,h,hp=>by
  rcases aao.mp h with rfl|h
  ·exact ud x (bs:=adds bs l) (xq l hp)
  ·exact fL x (bs:=adds bs k) h hp
theorem ue:∀(x:List Bu) (bs:List D),(cz bs x).length<=bs.length+tot x
 |[],_=>aaj _
 |l::x,bs=>by
  have h1:=ue x (adds bs l);have h2:=xr l bs;have:tot (l::x)=l.length+tot x:=by simp[tot]
  show(cz (adds bs l) x).length<=_;lia
def FF (h:∀p∈l,ix bs' p=ix bs p):oB bs' l=oB bs l:=by
 unfold oB;generalize (0:Nat)=m
 induction l generalizing m with
 |nil=>rfl
 |cons p l ih=>
  rw[adm,adm,h p aak];exact ih (fun q hq=>h q (aag _ hq)) _
def FG (C:Addr):FM:=bL 4 (ig (Te C) (RB C) C)
def RH (C:Addr):∀us r,FG C us=some r->bL 4 (ig (Te C) (RB C) C) us=some r:=fun _ _ h=>h
def cu (x:List Bu):D:=.tup (x.map dg)
def V8 (C:Addr):GD:=eF (d9 C "of_bunch" 1 (RB C) (bw (eF (aB 0)) bM) [2,3])
def RI {d:Addr}{t:D}{acc:List D}(hb:∀p∈l,Bc p.1) (hl:bs.length+l.length<10000):
  bU [0,2,3] cj (V8 C) [dg l] [some (.b (jg C c d bs.length)),AAA t,some (.b (.lat c bs)),some (.b (.gU d (gR 0 bs)))] acc
   = some (acc++[.int ((oB (adds bs l) l:Nat):Int)],[some (.b (jg C c d (adds bs l).length)),AAA t,some (.b (.lat c (adds bs l))),some (.b (.gU d (gR 0 (adds bs l))))]):=by
 have e:=V5 (C:=C) (c:=c) (d:=d) hb hl;simp[bU,d8,sV,cj,V8,d9,V4,CI,OR,uK,e,K4,aT]
theorem FH {C c d:Addr}{t:D}:∀(x:List Bu) (bs acc:List D),(∀l∈x,∀p∈l,Bc p.1)->bs.length+tot x<10000->
  bU [0,2,3] cj (V8 C) (x.map dg) [some (.b (jg C c d bs.length)),AAA t,some (.b (.lat c bs)),some (.b (.gU d (gR 0 bs)))] acc
   = some (acc++nats (x.map (oB (cz bs x))),[some (.b (jg C c d (cz bs x).length)),AAA t,some (.b (.lat c (cz bs x))),some (.b (.gU d (gR 0 (cz bs x))))])
 |[],bs,acc,_,_=>by simp[bU,nats,cz]
 |l::x,bs,acc,hb,hl=>by
  have ht:tot (l::x)=l.length+tot x:=by simp[tot]
  have h2:=xr l bs;rw[abj,Sq.qE,RI (hb l aak) (by lia),aah];show bU [0,2,3] cj (V8 C) (x.map dg) _ _=_;rw[FH x (adds bs l) _ (fun k hk=>hb k (aag _ hk)) (by lia)];have ea:cz bs (l::x)=cz (adds bs l) x:=rfl;rw[ea,abj];have em:oB (cz (adds bs l) x) l=oB (adds bs l) l:=FF fun p hp=>xw x (xq l hp);rw[em];simp[nats]
def pO (bs:List D) (x:List Bu):BBJ:=gT (cz bs x).length (HQ (x.map (oB (cz bs x)))) []
def K7 {d:Addr}(hb:∀l∈x,∀p∈l,Bc p.1) (hl:bs.length+tot x<10000) (hx:x.length<64):
  FG C [.b (jg C c d bs.length),.t (cu x),.b (.lat c bs),.b (.gU d (gR 0 bs))]=some (.m (.lst (nats (pO bs x))),K4 C c d (cz bs x)):=by
 have e:=FH (C:=C) (c:=c) (d:=d) (t:=cu x) x bs [] hb hl;have e2:=V7 (C:=C) (c:=c) (d:=d) (n:=(cz bs x).length) (bs:=cz bs x) (kvs:=gR 0 (cz bs x)) (ms:=x.map (oB (cz bs x))) (by rw[aai];exact hx);have hx':x.length<=100000:=by lia
 unfold cu at e ⊢;unfold V8 at e;simp[FG,bL,ig,d9,K5,CI,OR,uK,kD,dQ,e,e2,hx',aT,K4,pO]
structure Kp (bs:List D) (x:List Bu) (ks:BBJ):Prop where
 from_:∀k∈ks,∃l∈x,k=oB bs l/\cy l=false
 all:∀l∈x,cy l=false->∃k∈ks,k &&& oB bs l=k
def FI (hl:∀p∈l,p.1∈bs):vM bs.length (oB bs l)=cy l:=by
 unfold vM;cases h:cy l with
 |true=>exact aaT ((Fv hl).mpr h)
 |false=>exact aaS fun q=>by rw[(Fv hl).mp q] at h;cases h
def CL :Kp (cz bs x) x (pO bs x):=by
 constructor
 ·intro k hk;rcases AX _ _ hk with q|⟨q,v⟩
  ·cases q
  ·obtain⟨l,hl,rfl⟩:=aaD.mp (FD.mp q);rw[FI fun p hp=>fL x hl hp] at v;exact⟨l,hl,rfl,v⟩
 ·intro l hl hv;exact xu _ _ (FD.mpr (aaD.mpr ⟨l,hl,rfl⟩)) (by rw[FI fun p hp=>fL x hl hp];exact hv)
def Kp.ext (h:Kp bs x ks) (he:∀l∈x,oB bs' l=oB bs l):Kp bs' x ks:=
 ⟨fun k hk=>by obtain⟨l,hl,e,v⟩:=h.from_ k hk;exact⟨l,hl,by rw[he l hl];exact e,v⟩,fun l hl hv=>by rw[he l hl];exact h.all l hl hv⟩
def NL (a b:BBJ):Bool:=a.all fun m=>AV m b
def O5 {a b:BBJ}(hx:∀l∈x,∀p∈l,p.1∈bs) (hy:∀l∈y,∀p∈l,p.1∈bs) (ha:Kp bs x a) (hb:Kp bs y b):NL a b=uW x y:=by
 have:NL a b=true↔uW x y=true:=by
  rw[fJ];unfold NL;rw[aa1];constructor
  ·intro h l hl hv;obtain⟨k1,hk1,e1⟩:=ha.all l hl hv;obtain⟨l1,hl1,rfl,v1⟩:=ha.from_ k1 hk1;obtain⟨k2,hk2,e2⟩:=mT.mp (h _ hk1);obtain⟨l2,hl2,rfl,v2⟩:=hb.from_ k2 hk2;exact⟨l2,hl2,dj ((j0 (hy l2 hl2) (hx l1 hl1)).mp e2) ((j0 (hx l1 hl1) (hx l hl)).mp e1)⟩
  ·intro h m hm;obtain⟨l,hl,rfl,hv⟩:=ha.from_ m hm;obtain⟨k,hk,s⟩:=h l hl hv;have hvk:cy k=false:=by
    cases e:cy k with
    |false=>rfl
    |true=>rw[oA s e] at hv;cases hv
   obtain⟨k2,hk2,e2⟩:=hb.all k hk hvk;obtain⟨l2,hl2,rfl,v2⟩:=hb.from_ k2 hk2;exact mT.mpr ⟨_,hk2,(j0 (hy l2 hl2) (hx l hl)).mpr (dj ((j0 (hy l2 hl2) (hy k hk)).mp e2) s)⟩
 cases e1:NL a b<;>cases e2:uW x y
 ·rfl
 ·exact absurd (this.mpr e2) (by rw[e1];simp)
 ·exact absurd (this.mp e1) (by rw[e2];simp)
 ·rfl
noncomputable def CM:FM:=fun _=>none
def AY (l:Bu):Prop:=∀p∈l,Bc p.1
def D8 {p:Tg}(h:Bc p.1):bA (cH p)<=9:=by
 have:=h.d;show max (bA p.1) (max (bA (.bl p.2)) 0)+1<=9;have:bA (.bl p.2)=0:=rfl;lia
theorem pH:∀{l:Bu},AY l->bf (l.map cH)<=9
 |[],_=>aaM _
 |p::l,h=>by
  have h1:=D8 (h p aak);have h2:=pH (l:=l) fun q hq=>h q (aag _ hq);show max (bA (cH p)) (bf (l.map cH))<=9;lia
theorem zp {cap:BBJ}{q:GT}{t:D}{S:SS}(P:Tg->Bool) (hc:d8 S cap=some [.t t]):∀(l:Bu) (acc:List D),
  (∀p∈l,q [AAA p.1,AAA (.bl p.2),AAA t]=some (P p,[AAA p.1,AAA (.bl p.2),AAA t]))->
  lg cap q (eC (.int 1)) (l.map cH) S acc=some (acc++(l.filter P).map (fun _=>.int 1),S)
 |[],acc,_=>by simp[lg]
 |p::l,acc,hq=>by
  have q0:=hq p aak;have ih:=fun acc=>zp (q:=q) P hc l acc fun p hp=>hq p (aag _ hp);rw[abj];show lg cap q (eC (.int 1)) (.tup [p.1,.bl p.2]::l.map cH) S acc=_;cases h:P p
  ·rw[h] at q0;simp[lg,hc,q0,ih,h,aT]
  ·rw[h] at q0;simp[lg,hc,q0,ih,h,aT]
def K8 {P:Tg->Bool}:gQ (.lst ((l.filter P).map fun _=>.int 1)) (.lst [])=!(l.any P):=by
 cases h:l.filter P with
 |nil=>
  have:l.any P=false:=by
   rw[ac2];intro p hp e;exact absurd (acQ.mpr ⟨hp,e⟩) (by rw[h];exact aaQ)
  rw[this];rfl
 |cons p r=>
  have:p∈l.filter P:=by rw[h];exact aak
  obtain⟨h1,h2⟩:=acQ.mp this;rw[aaU.mpr ⟨p,h1,h2⟩];rfl
def RJ {p:Tg}(hl:AY l) (hp:p∈l):inD (.tup [p.1,.bl (!p.2)]) (l.map cH)=decide ((p.1,!p.2)∈l):=Fo (p:=(p.1,!p.2)) (hl p hp) hl
def HZ (x:List Bu):Prop:=∀l∈x,AY l/\l.length<=1000
def cV {g h:GS}{S S1:SS}(e:g S=some (.nx S1)):aU g h S=h S1:=by
 show(g S).bind _=_;rw[e];rfl
def NN (h:HZ y):bf (y.map dg)<=10:=by
 induction y with
 |nil=>exact aaM _
 |cons l y ih=>
  have h1:=pH (h l aak).1;have h2:=ih fun k hk=>h k (aag _ hk);show max (bf (l.map cH)+1) (bf (y.map dg))<=10;lia
def vo (hk:AY k) (hl:AY l):((k.map cH).all fun z=>inD z (l.map cH))=dY k l:=by
 rw[aey];unfold dY;rw[abO,aa1,aa1];constructor
 ·intro h p hp;rw[<-Fo (hk p hp) hl];exact h p hp
 ·intro h p hp;show inD (cH p) _=true;rw[Fo (hk p hp) hl];exact h p hp
def K9 (r:Bu):bA (.lst (r.map fun _=>(D.int 1)))<=40:=by
 have:bf (r.map fun _=>(D.int 1))<=0:=by
  induction r with
  |nil=>exact aaj _
  |cons p r ih=>show max (bA (.int 1)) _<=0;have:bA (.int 1)=0:=rfl;lia
 show bf _+1<=40;lia
def fM:GS:=
 (qw (qB (qC true 3 (eF (aB 4)))) (nq (eT (eM 3 hAppend (ah (eF (aB 4)) aF)))) gB)
def XG:GS:=
 (cD 3 (eP fW aF))
def XH:GS:=
 (mG (bName 4) (iY (eF (aB 2))) (fM))
def XI:GS:=
 (qw (qB (eF (eP xR (ah (eF (tF [3] (Qs (eF (aB 3))) (qB (qC false 2 (eF (eP dB (ah (eF (aB 0)) (ah (eQ (k8 (qB (eF (aB 1))))) aF)))))) (eC (.int 1)))) (ah (eF (eP fW aF)) aF))))) (nq (eT (eM 1 hAppend (ah (eF (aB 3)) aF)))) gB)
def gJ:GS:=aU (XG) (aU (XH) (XI))
def V9:gJ=aU (XG) (aU (XH) (XI)):=rfl
def fO:GS:=
 (qw (k8 (qB (eF (eP JC (ah (eF (tX 5 [3] cj (eF (eP Jz (ah (eF (fR [1] (iY (eF (aB 0))) cj (qC false 1 (eF (aB 0))))) aF))))) aF))))) (nq (eT (eM 5 hAppend (ah (eF (aB 3)) aF)))) gB)
def XJ:GS:=
 (cD 1 (eP fW aF))
def XM:GS:=
 (mG (bName 2) (iY (eF (aB 0))) (gJ))
def XN:GS:=
 (cD 5 (eP fW aF))
def XO:GS:=
 (mG (bName 3) (iY (eF (eP AD (ah (eF (aB 1)) aF)))) (fO))
def ts4:GS:=
 (dI (aB 5))
def kU:GS:=aU (XJ) (aU (XM) (aU (XN) (aU (XO) (ts4))))
def Wa:kU=aU (XJ) (aU (XM) (aU (XN) (aU (XO) (ts4)))):=rfl
noncomputable def dd:Bu->Bu->Bu
 |acc,[]=>acc
 |acc,p::l=>dd (if p∈acc then acc else acc++[p]) l
theorem La {p:Tg}:∀(l acc:Bu),p∈dd acc l↔p∈acc\/p∈l
 |[],acc=>by simp[dd]
 |q::l,acc=>by
  unfold dd;rw[La l];split
  ·rename_i h;constructor
   ·rintro(h|h)
    ·exact .inl h
    ·exact .inr (aag _ h)
   ·rintro(h'|h')
    ·exact .inl h'
    ·rcases aao.mp h' with rfl|h'
     ·exact .inl h
     ·exact .inr h'
  ·rw[aav,aam,aao,or_assoc]
theorem Lb:∀(l acc:Bu),(dd acc l).length<=acc.length+l.length
 |[],acc=>aaj _
 |q::l,acc=>by
  unfold dd;have:=Lb l (if q∈acc then acc else acc++[q]);have h2:(if q∈acc then acc else acc++[q]).length<=acc.length+1:=by split<;>simp
  rw[aaG];lia
def xx {b:Bu}(h:∀p,p∈a↔p∈b):cy a=cy b:=by
 rw[abO,lY,lY];constructor
 ·rintro⟨c,h1,h2⟩;exact⟨c,(h _).mp h1,(h _).mp h2⟩
 ·rintro⟨c,h1,h2⟩;exact⟨c,(h _).mpr h1,(h _).mpr h2⟩
def uN (l:Bu):Bu:=dd [] l
def pI {p:Tg}:p∈uN l↔p∈l:=by unfold uN;rw[La];simp
def CN (l:Bu):cy (uN l)=cy l:=xx fun _=>pI
def AZ (l:Bu):(uN l).length<=l.length:=by have:=Lb l [];simpa[uN] using this
def Lc (h:AY l):AY (uN l):=fun p hp=>h p (pI.mp hp)
noncomputable def RK (b:Bool) (ds:List D):D:=if b then .lst ds else .tup ds
def vp (b:Bool) (l:Bu):D:=RK b (l.map cH)
def Wb:FM:=bL 6 kU
def RL:∀us r,Wb us=some r->bL 6 kU us=some r:=fun _ _ h=>h
section
variable {s0 s1 s2 x4 x5:Option U}
def NO {acc:Bu}{p:Tg}(ha:AY acc) (hp:Bc p.1) (hn:acc.length<1000):fM [s0,s1,s2,AAB (acc.map cH),AAA (cH p),x5]=some (.nx [s0,s1,s2,AAB ((if p∈acc then acc else acc++[p]).map cH),AAA (cH p),x5]):=by
 have h1:bf (acc.map cH)<=40:=by have:=pH ha;lia
 have h2:=Fo hp ha;have h3:acc.length<100000:=by lia
 by_cases h:p∈acc
 ·rw[aaT h] at h2;simp[fM,qC,pZ,h1,h2,h]
 ·rw[aaS h] at h2;simp[fM,qC,pZ,h1,h2,h,hAppend,h3]
theorem FJ:∀(l acc:Bu) (x4:Option U),AY acc->AY l->acc.length+l.length<1000->fS x4=false->
  ∃y4,fS y4=false/\loop (bName 4) fM (l.map cH) [s0,s1,s2,AAB (acc.map cH),x4,x5]=some (.nx [s0,s1,s2,AAB ((dd acc l).map cH),y4,x5])
 |[],acc,x4,_,_,_,h4=>⟨x4,h4,rfl⟩
 |p::l,acc,x4,ha,hl,hn,h4=>by
  have hn:acc.length+(l.length+1)<1000:=hn;have tn:=NO (s0:=s0) (s1:=s1) (s2:=s2) (x5:=x5) ha (hl p aak) (show acc.length<1000 by lia);have eb:bName 4 (cH p) [s0,s1,s2,AAB (acc.map cH),x4,x5]=some [s0,s1,s2,AAB (acc.map cH),AAA (cH p),x5]:=by simp[-bN,bD,h4]
  have h2:(if p∈acc then acc else acc++[p]).length<=acc.length+1:=by split<;>simp
  have h3:AY (if p∈acc then acc else acc++[p]):=by
   split
   ·exact ha
   ·intro q hq;rcases aav.mp hq with h|h
    ·exact ha q h
    ·rw[aam.mp h];exact hl p aak
  obtain⟨y4,i4,e⟩:=FJ l (if p∈acc then acc else acc++[p]) (AAA (cH p)) h3 (fun q hq=>hl q (aag _ hq)) (by lia) rfl;refine⟨y4,i4,?_⟩;show((bName 4 (cH p) _).bind _)=_;rw[eb,aah,tn,aah];exact e
end
def fT (l:Bu):D:=.lst (l.map cH)
def cP (x:List Bu):List Bu:=(x.filter fun l=>!cy l).map uN
def NP {b:Bool}{R:List Bu}{x3 x5:Option U}(hl:AY l) (hn:l.length<1000) (hR:R.length<1000) (h3:fS x3=false) (h4:fS x4=false):
  ∃y3 y4,fS y3=false/\fS y4=false/\gJ [s0,AAB (R.map fT),AAA (vp b l),x3,x4,x5]=some (.nx [s0,AAB ((if cy l then R else R++[uN l]).map fT),AAA (vp b l),y3,y4,x5]):=by
 rw[V9];have hn':l.length<=100000:=by lia
 have s0':XG [s0,AAB (R.map fT),AAA (vp b l),x3,x4,x5]=some (.nx [s0,AAB (R.map fT),AAA (vp b l),AAB [],x4,x5]):=by simp[-bN,bD,XG,h3]
 obtain⟨y4,i4,e⟩:=FJ (s0:=s0) (s1:=AAB (R.map fT)) (s2:=AAA (vp b l)) (x5:=x5) l [] x4 (fun p hp=>by cases hp) hl (by show 0+l.length<1000;lia) h4;have e:loop (bName 4) fM (l.map cH) [s0,AAB (R.map fT),AAA (vp b l),AAB [],x4,x5]=some (.nx [s0,AAB (R.map fT),AAA (vp b l),AAB ((uN l).map cH),y4,x5]):=e;have s1':XH [s0,AAB (R.map fT),AAA (vp b l),AAB [],x4,x5]=some (.nx [s0,AAB (R.map fT),AAA (vp b l),AAB ((uN l).map cH),y4,x5]):=by
  rw[<-e];cases b<;>simp[XH,dQ,vp,RK]
 rw[cV s0',cV s1'];have gl:=Lc hl;have dl:=pH gl;have e0:=zp (cap:=[3]) (q:=qB (qC false 2 (eF (eP dB (ah (eF (aB 0)) (ah (eQ (k8 (qB (eF (aB 1))))) aF)))))) (t:=.lst ((uN l).map cH)) (S:=[s0,AAB (R.map fT),AAA (vp b l),AAA (.lst ((uN l).map cH)),y4,x5]) (fun p=>decide ((p.1,!p.2)∈uN l)) rfl (uN l) [] (fun p hp=>by
  have h1:bf ((uN l).map cH)<=40:=by lia
  have h2:=RJ gl hp;simp[qC,pZ,h1,h2])
 rw[acs] at e0;generalize hV:(((uN l).filter fun p=>decide ((p.1,!p.2)∈uN l)).map fun _=>(D.int 1))=V at e0;have ev:gQ (.lst V) (.lst [])=!(cy l):=by rw[<-hV,K8,<-CN];rfl
 have dv:bA (.lst V)<=40:=hV▸K9 _;have hd:(uN l).length<=100000:=by have:=AZ l;lia
 have hR':R.length<100000:=by lia
 refine⟨AAA (.lst ((uN l).map cH)),y4,rfl,i4,?_⟩;cases hv:cy l<;>rw[hv] at ev
 ·simp[XI,tF,hd,e0,dv,ev,hAppend,hR'];rfl
 ·simp[XI,tF,hd,e0,dv,ev]
def D9 (l:Bu) (x:List Bu):cP (l::x)=(if cy l then [] else [uN l])++cP x:=by
 unfold cP;rw[List.filter_cons];cases cy l<;>simp
theorem FL {b:Bool}{s0 x5:Option U}:∀(x:List Bu) (R:List Bu) (x2 x3 x4:Option U),HZ x->(∀l∈x,l.length<1000)->R.length+x.length<1000->fS x2=false->fS x3=false->fS x4=false->
  ∃y2 y3 y4,fS y2=false/\fS y3=false/\fS y4=false/\loop (bName 2) gJ (x.map (vp b)) [s0,AAB (R.map fT),x2,x3,x4,x5]=some (.nx [s0,AAB ((R++cP x).map fT),y2,y3,y4,x5])
 |[],R,x2,x3,x4,_,_,_,h2,h3,h4=>⟨x2,x3,x4,h2,h3,h4,by simp[loop,cP]⟩
 |l::x,R,x2,x3,x4,hx,hm,hn,h2,h3,h4=>by
  have hn:R.length+(x.length+1)<1000:=hn;obtain⟨y3,y4,i3,i4,tn⟩:=NP (b:=b) (s0:=s0) (x5:=x5) (hx l aak).1 (hm l aak) (show R.length<1000 by lia) h3 h4;have eb:bName 2 (vp b l) [s0,AAB (R.map fT),x2,x3,x4,x5]=some [s0,AAB (R.map fT),AAA (vp b l),x3,x4,x5]:=by simp[-bN,bD,h2]
  have h2:(if cy l then R else R++[uN l]).length<=R.length+1:=by split<;>simp
  obtain⟨z2,z3,z4,j2,j3,j4,e⟩:=FL (b:=b) (s0:=s0) (x5:=x5) x (if cy l then R else R++[uN l]) (AAA (vp b l)) y3 y4 (fun q hq=>hx q (aag _ hq)) (fun q hq=>hm q (aag _ hq)) (by lia) rfl i3 i4;refine⟨z2,z3,z4,j2,j3,j4,?_⟩;have ea:R++cP (l::x)=(if cy l then R else R++[uN l])++cP x:=by
   rw[D9];cases cy l<;>simp
  rw[ea];show((bName 2 (vp b l) _).bind _)=_;rw[eb,aah,tn,aah];exact e
def kb:List Bu->List Bu->List Bu
 |[],F=>F
 |k::r,F=>kb r (if(F.any fun f=>dY f k) then F else F++[k])
theorem O6 {k:Bu}:∀(r F:List Bu),k∈kb r F->k∈F\/k∈r
 |[],F,h=>.inl h
 |m::r,F,h=>by
  unfold kb at h;rcases O6 r _ h with q|q
  ·split at q
   ·exact .inl q
   ·rcases aav.mp q with q|q
    ·exact .inl q
    ·rw[aam.mp q];exact .inr aak
  ·exact .inr (aag _ q)
theorem A0 {k:Bu}:∀(r F:List Bu),k∈F->k∈kb r F
 |[],F,h=>h
 |m::r,F,h=>by
  unfold kb;refine A0 r _ ?_;split
  ·exact h
  ·exact aav.mpr (.inl h)
def pJ (k:Bu):dY k k=true:=bY.mpr fun _ h=>h
theorem Ld {m:Bu}:∀(r F:List Bu),m∈r->∃k∈kb r F,dY k m=true
 |x::r,F,h=>by
  unfold kb;rcases aao.mp h with rfl|h
  ·split
   ·rename_i c;obtain⟨f,hf,e⟩:=aaU.mp c;exact⟨f,A0 r _ hf,e⟩
   ·exact⟨m,A0 r _ (aav.mpr (.inr aak)),pJ m⟩
  ·exact Ld r _ h
theorem Le:∀(r F:List Bu),(kb r F).length<=F.length+r.length
 |[],F=>aaj _
 |m::r,F=>by
  unfold kb;have:=Le r (if(F.any fun f=>dY f m) then F else F++[m]);have h2:(if(F.any fun f=>dY f m) then F else F++[m]).length<=F.length+1:=by split<;>simp
  rw[aaG];lia
def NQ:GD:=eF (eP Jz (ah (eF (fR [1] (iY (eF (aB 0))) cj (qC false 1 (eF (aB 0))))) aF))
def NR (hk:AY k) (hl:AY l) (hn:k.length<=1000):NQ [AAA (fT k),AAA (fT l)]=some (.bl (dY k l),[AAA (fT k),AAA (fT l)]):=by
 have dl:=pH hl;have e:=lV (cap:=[1]) (g:=qC false 1 (eF (aB 0))) (S:=[AAA (fT k),AAA (fT l)]) (ts:=[fT l]) rfl (fun z=>.bl (inD z (l.map cH))) (k.map cH) [] (fun d hd=>by
  have h1:bf (l.map cH)<=40:=by lia
  simp[qC,pZ,fT,h1])
 rw[acs] at e;have hb:=tH (fun z=>inD z (l.map cH)) (k.map cH);have hs:=vo hk hl;have hn':k.length<=100000:=by lia
 have hs':((k.map cH).map fun z=>inD z (l.map cH)).all id=dY k l:=by rw[<-hs,aey];rfl
 generalize (k.map cH).map (fun z=>(D.bl (inD z (l.map cH))))=Z at e hb;generalize (k.map cH).map (fun z=>(inD z (l.map cH)))=Y at hb hs';unfold fT at e ⊢;simp[NQ,dQ,hn',e,Jz,hb,hs']
def NS {F:List Bu}{s1 s2:Option U}(hl:AY l) (hF:HZ F) (hn:F.length<1000):
  fO [s0,s1,s2,AAA (fT l),x4,AAB (F.map fT)]=some (.nx [s0,s1,s2,AAA (fT l),x4,AAB ((if(F.any fun f=>dY f l) then F else F++[l]).map fT)]):=by
 have e:=lV (cap:=[3]) (g:=NQ) (S:=[s0,s1,s2,AAA (fT l),x4,AAB (F.map fT)]) (ts:=[fT l]) rfl (fun d=>.bl (match d with|.lst es=>es.all fun z=>inD z (l.map cH)|_=>false)) (F.map fT) [] (fun d hd=>by
  obtain⟨k,hk,rfl⟩:=aaD.mp hd;have:=NR (hF k hk).1 hl (hF k hk).2;rw[show [fT l].map (fun x=>some (U.t x))=[AAA (fT l)] from rfl,this,<-vo (hF k hk).1 hl];rfl)
 rw[acs] at e;have hb:=tH (fun d:D=>(match d with|.lst es=>es.all fun z=>inD z (l.map cH)|_=>false)) (F.map fT);have ha:((F.map fT).map (fun d:D=>(match d with|.lst es=>es.all fun z=>inD z (l.map cH)|_=>false))).any id=F.any fun f=>dY f l:=by
  rw[abE,List.any_map];rw[abO,aaU,aaU];constructor
  ·rintro⟨f,hf,e⟩;exact⟨f,hf,by rw[<-vo (hF f hf).1 hl];exact e⟩
  ·rintro⟨f,hf,e⟩;exact⟨f,hf,by show((f.map cH).all _)=true;rw[vo (hF f hf).1 hl];exact e⟩
 generalize (F.map fT).map (fun d:D=>D.bl (match d with|.lst es=>es.all fun z=>inD z (l.map cH)|_=>false))=Z at e hb;generalize (F.map fT).map (fun d:D=>(match d with|.lst es=>es.all fun z=>inD z (l.map cH)|_=>false))=Y at hb ha;have hn':F.length<=100000:=by lia
 have hn2:F.length<100000:=by lia
 unfold NQ at e;have hcap:Co [s0,s1,s2,AAA (fT l),x4,AAB (F.map fT)] [3]=true:=rfl;cases q:F.any fun f=>dY f l<;>rw[q] at ha
 ·simp[fO,tX,hcap,hn',e,JC,hb,ha,hAppend,hn2]
 ·simp[fO,tX,hcap,hn',e,JC,hb,ha]
theorem FO {s0 s1 s2 x4:Option U}:∀(r F:List Bu) (x3:Option U),HZ r->HZ F->F.length+r.length<1000->fS x3=false->
  ∃y3,loop (bName 3) fO (r.map fT) [s0,s1,s2,x3,x4,AAB (F.map fT)]=some (.nx [s0,s1,s2,y3,x4,AAB ((kb r F).map fT)])
 |[],F,x3,_,_,_,_=>⟨x3,rfl⟩
 |k::r,F,x3,hr,hF,hn,h3=>by
  have hn:F.length+(r.length+1)<1000:=hn;have tn:=NS (s0:=s0) (s1:=s1) (s2:=s2) (x4:=x4) (hr k aak).1 hF (by lia);have eb:bName 3 (fT k) [s0,s1,s2,x3,x4,AAB (F.map fT)]=some [s0,s1,s2,AAA (fT k),x4,AAB (F.map fT)]:=by simp[-bN,bD,h3]
  have h2:(if(F.any fun f=>dY f k) then F else F++[k]).length<=F.length+1:=by split<;>simp
  have h4:HZ (if(F.any fun f=>dY f k) then F else F++[k]):=by
   split
   ·exact hF
   ·intro q hq;rcases aav.mp hq with h|h
    ·exact hF q h
    ·rw[aam.mp h];exact hr k aak
  obtain⟨y3,e⟩:=FO (s0:=s0) (s1:=s1) (s2:=s2) (x4:=x4) r (if(F.any fun f=>dY f k) then F else F++[k]) (AAA (fT k)) (fun q hq=>hr q (aag _ hq)) h4 (by lia) rfl;refine⟨y3,?_⟩;show((bName 3 (fT k) _).bind _)=_;rw[eb,aah,tn,aah];exact e
theorem FP:∀r:List Bu,qb (r.map fT)=some (r.map List.length)
 |[]=>rfl
 |k::r=>by
  show(qb (r.map fT)).map _=_;rw[FP r];simp
def pK :k∈cP x↔∃l∈x,cy l=false/\k=uN l:=by
 unfold cP;rw[aaD];constructor
 ·rintro⟨l,hl,rfl⟩;obtain⟨h1,h2⟩:=acQ.mp hl;exact⟨l,h1,by simpa using h2,rfl⟩
 ·rintro⟨l,hl,v,rfl⟩;exact⟨l,acQ.mpr ⟨hl,by rw[v];rfl⟩,rfl⟩
def zq (x:List Bu):(cP x).length<=x.length:=by
 unfold cP;rw[aai];exact List.length_filter_le _ _
end T5
end
section
namespace T6
open PySem PySem.Spec PyProof.Rows L2 Sw Ss Sd Sp T5
variable {bs:List D}
structure Ms (x r:List Bu):Prop where
 tr:Tr x r
 nd:∀k∈r,k.Nodup
 anti:∀a∈r,∀b∈r,dY a b=true->a=b
 rnd:r.Nodup
section
variable {rp:Tg->Str}{G:Tg->Prop}{x y r s:List Bu}{a b:Bu}
def uY (rp:Tg->Str) (k:Bu):BBB:=nA (k.map rp)
def CO (ha:a.Nodup) (hb:b.Nodup) (h1:dY a b=true) (h2:dY b a=true):uY rp a=uY rp b:=
 D5 (((adh ha hb).mpr fun p=>⟨bY.mp h1 p,bY.mp h2 p⟩).map rp)
def FQ (hG:∀p q,G p->G q->rp p=rp q->p=q) (ha:∀p∈a,G p) (hb:∀p∈b,G p) (h:uY rp a=uY rp b):dY a b=true:=by
 have p:(a.map rp).Perm (b.map rp):=(wU _).symm.trans (by unfold uY at h;rw[h];exact wU _);refine bY.mpr fun t ht=>?_;obtain⟨q,hq,e⟩:=aaD.mp (p.mem_iff.mp (acG ht));exact hG q t (hb q hq) (ha t ht) e▸hq
def Ms.within (h:Ms x r) (k:Ms y s) (h1:uW x y=true) (h2:uW y x=true):∀a∈r,∃b∈s,dY a b=true/\dY b a=true:=fun a ha=>by
 have e1:=fJ.mp ((Tr.sh h.tr k.tr).trans h1);have e2:=fJ.mp ((Tr.sh k.tr h.tr).trans h2);obtain⟨b,hb,i1⟩:=e1 a ha (h.tr.from_ a ha).1;obtain⟨c,hc,i2⟩:=e2 b hb (k.tr.from_ b hb).1;have:=h.anti c hc a ha (dj i2 i1);subst this;exact⟨b,hb,i2,i1⟩
def Ms.nodup (hG:∀p q,G p->G q->rp p=rp q->p=q) (h:Ms x r) (hr:∀k∈r,∀p∈k,G p):(r.map (uY rp)).Nodup:=by
 refine abY.mpr (h.rnd.imp_of_mem fun {a b} ha hb n e=>n ?_);exact h.anti a ha b hb (FQ hG (hr a ha) (hr b hb) e)
def Ms.perm (hG:∀p q,G p->G q->rp p=rp q->p=q) (h:Ms x r) (k:Ms y s) (hr:∀k∈r,∀p∈k,G p) (hs:∀k∈s,∀p∈k,G p) (h1:uW x y=true) (h2:uW y x=true):(r.map (uY rp)).Perm (s.map (uY rp)):=by
 refine(adh (h.nodup hG hr) (k.nodup hG hs)).mpr fun n=>?_;rw[aaD,aaD];constructor
 ·rintro⟨a,ha,rfl⟩;obtain⟨b,hb,i1,i2⟩:=h.within k h1 h2 a ha;exact⟨b,hb,CO (k.nd b hb) (h.nd a ha) i2 i1⟩
 ·rintro⟨a,ha,rfl⟩;obtain⟨b,hb,i1,i2⟩:=k.within h h2 h1 a ha;exact⟨b,hb,CO (h.nd b hb) (k.nd a ha) i2 i1⟩
def zu (x y:List Bu):Bool:=uW x y && uW y x
def CP (x:List Bu):zu x x=true:=by
 have:uW x x=true:=fJ.mpr fun l hl _=>⟨l,hl,pJ l⟩
 unfold zu;rw[this];rfl
def CQ (x y:List Bu):zu x y=zu y x:=Bool.and_comm ..
def Ms.key (hG:∀p q,G p->G q->rp p=rp q->p=q) (h:Ms x r) (k:Ms y s) (hr:∀k∈r,∀p∈k,G p) (hs:∀k∈s,∀p∈k,G p):decide (kR (r.map (uY rp))=kR (s.map (uY rp)))=zu x y:=by
 have sh:∀{x y r s},Ms x r->Ms y s->(∀k∈r,∀p∈k,G p)->(∀k∈s,∀p∈k,G p)->kR (r.map (uY rp))=kR (s.map (uY rp))->uW x y=true:=fun {x y r s} h k hr hs e=>by
  rw[<-Tr.sh h.tr k.tr];have p:(r.map (uY rp)).Perm (s.map (uY rp)):=(mQ _).symm.trans (by rw[e];exact mQ _);refine fJ.mpr fun a ha _=>?_;obtain⟨b,hb,e⟩:=aaD.mp (p.mem_iff.mp (acG ha));exact⟨b,hb,FQ hG (hs b hb) (hr a ha) e⟩
 rw[abO,aec];unfold zu;rw[aaH];constructor
 ·intro e;exact⟨sh h k hr hs e,sh k h hs hr e.symm⟩
 ·rintro⟨h1,h2⟩;exact wN (h.perm hG k hr hs h1 h2)
def Ms.sh (h:Ms x r):zu x r=true:=by
 have h1:uW x r=true:=fJ.mpr h.tr.all;have h2:uW r x=true:=fJ.mpr fun k hk _=>let⟨_,l,hl,_,e⟩:=h.tr.from_ k hk;⟨l,hl,e⟩
 unfold zu;rw[h1,h2];rfl
end
def Ea (a:BBJ):Prop:=∀m∈a,∀k∈a,m &&& k=m->m=k
theorem rZ {n:Nat}:∀(ms kept:BBJ),(gT n ms kept).Sublist (kept++ms)
 |[],kept=>by rw[ab5];exact List.Sublist.refl _
 |m::r,kept=>by
  unfold gT;split
  ·have:=rZ (n:=n) r (kept++[m])
   rwa [abZ] at this
  ·exact(rZ (n:=n) r kept).trans ((adI m r).append_left kept)
theorem uf {n:Nat}:∀(ms kept:BBJ),(kept++ms).Pairwise (· < ·)->Ea kept->Ea (gT n ms kept)
 |[],kept,_,h=>h
 |m::r,kept,hp,h=>by
  unfold gT;split
  ·rename_i c;refine uf r (kept++[m]) (by rw[abZ];exact hp) fun a ha b hb e=>?_;have lt:∀k∈kept,k<m:=fun k hk=>(adU.mp hp).2.2 k hk m aak;rcases aav.mp ha with ha|ha<;>rcases aav.mp hb with hb|hb
   ·exact h a ha b hb e
   ·rw[aam.mp hb] at e;have:=mT.mpr ⟨a,ha,e⟩;rw[c.2] at this;cases this
   ·rw[aam.mp ha] at e;have h1:=lt b hb;have h2:m &&& b<=b:=Nat.and_le_right;lia
   ·rw[aam.mp ha,aam.mp hb]
  ·exact uf r kept (hp.sublist ((adI m r).append_left kept)) h
def FT (ms:BBJ):(HQ ms).Pairwise (· < ·):=by
 unfold HQ;rw[abY];have h1:=yO (ms.map Int.ofNat);have h2:=J3 (ms.map Int.ofNat);refine(h1.and h2).imp_of_mem fun {a b} ha hb h=>?_;obtain⟨a',_,rfl⟩:=aaD.mp (lU.mp ha);obtain⟨b',_,rfl⟩:=aaD.mp (lU.mp hb);obtain⟨h1,h2⟩:=h;have h1:(a':Int)<=(b':Int):=h1;have h2:¬(a':Int)=(b':Int):=h2;show a' < b';lia
def Eb (bs:List D) (x:List Bu):(pO bs x).Pairwise (· < ·):=(FT _).sublist (rZ _ [])
def A1 (bs:List D) (x:List Bu):Ea (pO bs x):=uf _ [] (FT _) fun m hm=>nomatch hm
def r9 (a:BBJ):NL a a=true:=by
 unfold NL;rw[aa1];exact fun m hm=>mT.mpr ⟨m,hm,Nat.and_self m⟩
def ks_eq {x y:List Bu}{a b:BBJ}(hx:∀l∈x,∀p∈l,p.1∈bs) (hy:∀l∈y,∀p∈l,p.1∈bs) (ha:Kp bs x a) (hb:Kp bs y b) (aa:Ea a) (ab:Ea b) (oa:a.Pairwise (· < ·)) (ob:b.Pairwise (· < ·)):decide (a=b)=zu x y:=by
 have e1:=O5 hx hy ha hb;have e2:=O5 hy hx hb ha;rw[abO,aec];unfold zu;rw[aaH,<-e1,<-e2];constructor
 ·rintro rfl;exact⟨r9 a,r9 a⟩
 ·rintro⟨h1,h2⟩;have sub:∀{a b:BBJ},Ea a->NL a b=true->NL b a=true->∀m∈a,m∈b:=fun {a b} aa h1 h2 m hm=>by
   unfold NL at h1 h2;rw[aa1] at h1 h2;obtain⟨k,hk,e1⟩:=mT.mp (h1 m hm);obtain⟨j,hj,e2⟩:=mT.mp (h2 k hk);have e3:j &&& m=j:=by rw[<-e2,Nat.and_assoc,e1]
   have:=aa j hj m hm e3;subst this;have:j=k:=by rw[<-e2,Nat.and_comm,e1]
   exact this▸hk
  refine aeE (fun p q _ _ h1 h2=>by lia) oa ob ?_;exact(adh (oa.imp fun h=>aaF h) (ob.imp fun h=>aaF h)).mpr fun m=>⟨sub aa h1 h2 m,sub ab h2 h1 m⟩
noncomputable def tg (bs:List D) (k:Nat):Tg:=(bs.getD (k / 2) .bQ,decide (k % 2=0))
def xy (bs:List D):Nat->Nat->Bu
 |0,_=>[]
 |f+1,m=>if m=0 then [] else tg bs m.log2::xy bs f (m-2 ^ m.log2)
def A2 {m:Nat}(h:m≠0):m-2 ^ m.log2=m % 2 ^ m.log2:=by
 have h1:=Nat.log2_self_le h;have h2:m<2 ^ (m.log2+1):=Nat.lt_log2_self;rw[acn] at h2;rw[Nat.mod_eq_sub_mod h1,Nat.mod_eq_of_lt (by lia)]
theorem A3 {bs:List D}{p:Tg}:∀(f m:Nat),m<2 ^ f->(p∈xy bs f m↔∃k,m.testBit k=true/\p=tg bs k)
 |0,m,h=>by
  have:m=0:=by simpa using h
  subst this;exact⟨fun h=>(nomatch h),fun⟨k,hk,_⟩=>by simp at hk⟩
 |f+1,m,h=>by
  unfold xy;split
  ·rename_i e;subst e;exact⟨fun h=>(nomatch h),fun⟨k,hk,_⟩=>by simp at hk⟩
  ·rename_i e;have top:m.testBit m.log2=true:=Nat.testBit_log2 e;have lt:m.log2<f+1:=(aeP e).mpr h;rw[A2 e,aao,A3 f _ (aas (aev _ (aeO _)) (ab9 (by lia) (by lia)))];constructor
   ·rintro(rfl|⟨k,hk,rfl⟩)
    ·exact⟨_,top,rfl⟩
    ·rw[adx] at hk;exact⟨k,(aaN.mp hk).2,rfl⟩
   ·rintro⟨k,hk,rfl⟩;by_cases q:k=m.log2
    ·subst q;exact .inl rfl
    ·refine .inr ⟨k,?_,rfl⟩;rw[adx,hk,Bool.and_true,aaT];have:k<=m.log2:=by
      apply abu;intro n;have h2:m<2 ^ (m.log2+1):=Nat.lt_log2_self;have:m<2 ^ k:=aas h2 (ab9 (by lia) (by lia));rw[Nat.testBit_lt_two_pow this] at hk;cases hk
     lia
def NT (h:bs.Nodup){i j:Nat}(hi:i<bs.length) (hj:j<bs.length) (e:bs.getD i .bQ=bs.getD j .bQ):i=j:=by
 rw[aaE,aaE,aal hi,aal hj] at e;have e:bs[i]=bs[j]:=e;have ne:=acz.mp h;rcases Nat.lt_trichotomy i j with q|q|q
 ·exact absurd e (ne i j hi hj q)
 ·exact q
 ·exact absurd e.symm (ne j i hj hi q)
def RM (h:bs.Nodup){i j:Nat}(hi:i<2*bs.length) (hj:j<2*bs.length) (e:tg bs i=tg bs j):i=j:=by
 have e1:=NT h (by lia) (by lia) (congrArg Prod.fst e);have e2:decide (i % 2=0)=decide (j % 2=0):=congrArg Prod.snd e;rw[decide_eq_decide] at e2;lia
theorem Lf {bs:List D}(h:bs.Nodup):∀(f m:Nat),m<2 ^ f->f<=2*bs.length->(xy bs f m).Nodup
 |0,m,_,_=>abp
 |f+1,m,hm,hf=>by
  unfold xy;split
  ·exact abp
  ·rename_i e;have lt:m.log2<f+1:=(aeP e).mpr hm;have hm':m % 2 ^ m.log2<2 ^ f:=aas (aev _ (aeO _)) (ab9 (by lia) (by lia));rw[A2 e];refine abo.mpr ⟨fun q=>?_,Lf h f _ hm' (by lia)⟩;obtain⟨k,hk,e2⟩:=(A3 f _ hm').mp q;rw[adx] at hk;have hk:=aa2 (aaN.mp hk).1;have:=RM h (by lia) (by lia) e2;lia
def O7 {p:Tg}(h:p.1∈bs):tg bs (ix bs p)=p:=by
 obtain⟨b,q⟩:=p;have h:b∈bs:=h;have hi:bs.idxOf b<bs.length:=abP h;unfold tg ix;have e:(2*bs.idxOf b+if q=true then 0 else 1) / 2=bs.idxOf b:=by cases q<;>simp<;>lia
 have e2:decide ((2*bs.idxOf b+if q=true then 0 else 1) % 2=0)=q:=by cases q<;>simp<;>lia
 simp only[e,e2];rw[aaE,aal hi,acg,aef hi]
def Wc {p:Tg}(h:p.1∈bs):ix bs p<2*bs.length:=by
 have hi:bs.idxOf p.1<bs.length:=abP h;unfold ix;split<;>lia
def Lg {l:Bu}(h:∀p∈l,p.1∈bs):oB bs l<2 ^ (2*bs.length):=by
 apply Nat.lt_pow_two_of_testBit;intro k hk;rw[uc,ac2];intro p hp e;have:=Wc (h p hp);have:=aa2 e;lia
def FU (bs:List D) (m:Nat):Bu:=xy bs (2*bs.length) m
def oE {l:Bu}(h:∀p∈l,p.1∈bs) (p:Tg):p∈FU bs (oB bs l)↔p∈l:=by
 unfold FU;rw[A3 _ _ (Lg h)];constructor
 ·rintro⟨k,hk,rfl⟩;rw[uc,aaU] at hk;obtain⟨q,hq,e⟩:=hk;rw[<-aa2 e,O7 (h q hq)];exact hq
 ·intro hp;exact⟨ix bs p,by rw[xj h (h p hp)];exact aaT hp,(O7 (h p hp)).symm⟩
def NU {x:List Bu}{a:BBJ}(hn:bs.Nodup) (hx:∀l∈x,∀p∈l,p.1∈bs) (ha:Kp bs x a) (aa:Ea a) (oa:a.Pairwise (· < ·)):Ms x (a.map (FU bs)):=by
 have sub:∀m∈a,∀k∈a,dY (FU bs m) (FU bs k)=true->m=k:=fun m hm k hk e=>by
  obtain⟨l,hl,rfl,_⟩:=ha.from_ m hm;obtain⟨l2,hl2,rfl,_⟩:=ha.from_ k hk;refine aa _ hm _ hk ((j0 (hx l hl) (hx l2 hl2)).mpr (bY.mpr fun p hp=>?_));exact(oE (hx l2 hl2) p).mp (bY.mp e p ((oE (hx l hl) p).mpr hp))
 refine⟨⟨fun k hk=>?_,fun l hl hv=>?_⟩,fun k hk=>?_,fun k hk j hj e=>?_,?_⟩
 ·obtain⟨m,hm,rfl⟩:=aaD.mp hk;obtain⟨l,hl,rfl,v⟩:=ha.from_ m hm;have s:=oE (hx l hl);exact⟨by rw[xx s];exact v,l,hl,bY.mpr fun p hp=>(s p).mp hp,bY.mpr fun p hp=>(s p).mpr hp⟩
 ·obtain⟨m,hm,e⟩:=ha.all l hl hv;obtain⟨l2,hl2,rfl,_⟩:=ha.from_ m hm;exact⟨_,acG hm,bY.mpr fun p hp=>bY.mp ((j0 (hx l2 hl2) (hx l hl)).mp e) p ((oE (hx l2 hl2) p).mp hp)⟩
 ·obtain⟨m,hm,rfl⟩:=aaD.mp hk;obtain⟨l,hl,rfl,_⟩:=ha.from_ m hm;exact Lf hn _ _ (Lg (hx l hl)) (aaj _)
 ·obtain⟨m,hm,rfl⟩:=aaD.mp hk;obtain⟨m2,hm2,rfl⟩:=aaD.mp hj;rw[sub m hm m2 hm2 e]
 ·refine abY.mpr ((oa.imp fun h=>aaF h).imp_of_mem fun {m k} hm hk n e=>n ?_);exact sub m hm k hk (by rw[e];exact pJ _)
end T6
end
section
namespace T5
open PySem PySem.Spec PyProof.Rows L2 Sw Ss Sd Sp
variable {bs:BBB}{n:Nat}
def Gd (b:D):Prop:=Bc b/\(∃n,n<=9/\Sy n [] b)/\Sane b/\wD b<=12500
def LL (l:Bu):Prop:=∀p∈l,Gd p.1
def LL.gb {l:Bu}(h:LL l):AY l:=fun p hp=>(h p hp).1
def GR (N:Nat) (x:List Bu):Prop:=∀l∈x,LL l/\l.length<=N
def GR.mono {N M:Nat}{x:List Bu}(h:GR N x) (k:N<=M):GR M x:=fun l hl=>⟨(h l hl).1,aaC (h l hl).2 k⟩
def We {t:D}(h:Ts bs t):pl t=true/\bA t<=1:=by cases h<;>exact⟨rfl,aaj _⟩
def Lh {d:D}(h:Sy n bs d):pl d=true/\bA d<=n+1:=by
 induction h with
 |leaf h=>exact⟨rfl,by show 1<=_;lia⟩
 |now h=>
  obtain⟨h1,h2⟩:=We h;exact⟨by show(true && (pl _ && true))=true;rw[h1];rfl,by show max 0 (max (bA _) 0)+1<=_;lia⟩
 |one hz _ ih=>exact⟨by show(true && (pl _ && true))=true;rw[ih.1];rfl,by have:=ih.2;show max 0 (max (bA _) 0)+1<=_;lia⟩
 |two hz _ _ i1 i2=>exact⟨by show(true && (pl _ && (pl _ && true)))=true;rw[i1.1,i2.1];rfl,by have:=i1.2;have:=i2.2;show max 0 (max (bA _) (max (bA _) 0))+1<=_;lia⟩
 |XF _ _ _ ih=>exact⟨by show(true && (true && (pl _ && true)))=true;rw[ih.1];rfl,by have:=ih.2;show max 0 (max 0 (max (bA _) 0))+1<=_;lia⟩
 |bnd _ _ _ _ ih=>exact⟨by show(true && (true && (true && (pl _ && true))))=true;rw[ih.1];rfl,by have:=ih.2;show max 0 (max 0 (max 0 (max (bA _) 0)))+1<=_;lia⟩
def Li {d:D}(h:Sy n bs d):∃ds,d= .tup ds:=by cases h<;>exact⟨_,rfl⟩
def O8 {d:D}(h:Sy n [] d) (hn:n<=5):Gd d:=by
 have g:=h.good (fun y hy=>by cases hy);have:2 ^ n<=2 ^ 5:=ab9 (by lia) hn;exact⟨⟨(Lh h).1,by have:=(Lh h).2;lia,Li h⟩,⟨n,by lia,h⟩,g.g8,by have:=g.w;lia⟩
def aat {g h:GS}{S S1:SS}{u:U}(e:g S=some (.rt u S1)):aU g h S=some (.rt u S1):=by
 show(g S).bind _=_;rw[e];rfl
def NV {gA:GA}{S:SS}{j:Int}(e:gA S=some ([.int j],S)) (h3:j<1000000) (h4:-1000000<j):rB gA S=some (qV 0 j.toNat,S):=by
 rw[MR,e,aah];exact if_pos ⟨h3,h4⟩
def ug:GS:=
 (dI (eT (eQ (Ae (qB (EM ["bool"] (eF (aB 0)))) (qB (eF (eP xR (ah (eF (aB 0)) (ah (eF (aB 1)) aF)))))))))
def Lj:FM:=bL 2 ug
def RN:∀us r,Lj us=some r->bL 2 ug us=some r:=fun _ _ h=>h
def Wf (a b:Bool):Lj [.t (.bl a),.t (.bl b)]=some (.t (.bl (a == b)),[]):=by
 have i:DF "bool" (.bl a)=some true:=rfl;simp[Lj,bL,ug,EM,uH,i,aT]
def Wg {b:D}(h:Bs b):Gd b:=by
 have hs:uV b=true:=(aaN.mp h.ok).1;have hf:gC 8 [] b=true:=(aaN.mp hs).1;have sy:=Sy.of hf;exact⟨⟨(Lh sy).1,by have:=h.dep;lia,Li sy⟩,⟨8,by lia,sy⟩,h.g8,by have:=h.w;lia⟩
def Wh {t:D}(h:Th t):∃p:Tg,t=cH p/\Gd p.1:=by
 obtain⟨b,q,rfl,hb⟩:=h;exact⟨(b,q),rfl,Wg hb⟩
theorem A4 {α:Type}{f:α->D}{P:α->Prop}:∀{ds:List D},(∀d∈ds,∃a,d=f a/\P a)->∃l:List α,ds=l.map f/\∀a∈l,P a
 |[],_=>⟨[],rfl,fun _ h=>(by cases h)⟩
 |d::ds,h=>by
  obtain⟨a,rfl,ha⟩:=h d aak;obtain⟨l,rfl,hl⟩:=A4 (f:=f) (P:=P) fun x hx=>h x (aag _ hx);refine⟨a::l,rfl,fun x hx=>?_⟩;rcases aao.mp hx with rfl|hx
  ·exact ha
  ·exact hl x hx
def Wi {d:D}(h:Sn d):∃x:List Bu,d=cu x/\GR 8 x/\x.length<=5:=by
 obtain⟨st,rfl,hl,hb⟩:=h;obtain⟨x,rfl,hx⟩:=A4 (f:=dg) (P:=fun l=>LL l/\l.length<=8) (ds:=st) fun d hd=>by
  obtain⟨ts,rfl,h1,h2⟩:=hb d hd;obtain⟨l,rfl,hl⟩:=A4 (f:=cH) (P:=fun p=>Gd p.1) (ds:=ts) fun t ht=>Wh (h2 t ht);exact⟨l,rfl,hl,by rw[aai] at h1;exact h1⟩
 exact⟨x,rfl,hx,by rw[aai] at hl;exact hl⟩
section

def Lk (ds:List D) (k:Nat):L2.cutD ds (some (k:Int)) none=ds.drop k:=Cw ds k
def A5 (l:Bu) (lo hi:BBM):∃l':Bu,L2.cutD (l.map cH) lo hi=l'.map cH/\(∀p∈l',p∈l)/\l'.length<=l.length:=by
 refine⟨(l.drop (HT.fy l.length 0 lo)).take (HT.fy l.length l.length hi-HT.fy l.length 0 lo),?_,fun p hp=>adW (adV hp),?_⟩
 ·unfold L2.cutD;rw[aei,aej,aai]
 ·rw[abQ,abr];lia
noncomputable def NX:D:=.tup [.str "next",.tup [.str "yes"]]
end
def O9:GR 2 [[(NX,true),(NX,false)]]:=fun l hl=>by
 have g:Gd NX:=O8 (n:=2) (.one (by decide) (.leaf (.inl rfl))) (by lia);rw[aam.mp hl];refine⟨fun p hp=>?_,aaj _⟩;rcases aao.mp hp with rfl|hp
 ·exact g
 ·rw[aam.mp hp];exact g
end T5
end
section
namespace Sd
open L2
def HR (us:List U):jo 0 us=none:=rfl
end Sd
namespace T5
open PySem PySem.Spec PyProof.Rows L2 Sw Ss Sd Sp
def Wj {d:D}(h:Sane d) (hw:wD d<=16000000) (hd:bA d<=20):LC d:=
 ⟨uL d h,by rw[depth_eq];exact hd,aaC (shown_le d h) (aaC hw (by decide))⟩
def NW {l:Bu}{N:Nat}(h:LL l) (hl:l.length<=N):Good (12550*N+4) 10 (dg l):=by
 have ht:∀t∈l.map cH,Sane t/\wD t<=12540/\bA t<=9:=fun t ht=>by
  obtain⟨p,hp,rfl⟩:=aaD.mp ht;obtain⟨hb,_,hs,hw⟩:=h p hp;refine⟨⟨hs,True.intro,True.intro⟩,?_,D8 hb⟩;show wD p.1+2+(wD (.bl p.2)+2+0)+4<=12540;have:wD (.bl p.2)<=20:=by cases p.2<;>decide
  lia
 have w:=AS (c:=12540) fun t h=>(ht t h).2.1;rw[aai] at w;have m:(12540+2)*l.length<=12542*N:=ad4 _ hl;refine⟨n5.of fun t h=>(ht t h).1,?_,AR fun t h=>(ht t h).2.2⟩;show HW (l.map cH)+4<=_;lia
def NY {x:List Bu}(h:GR 32 x) (hl:x.length<=32):Good (401620*x.length+4) 11 (cu x):=by
 have ht:∀t∈x.map dg,Good (12550*32+4) 10 t:=fun t ht=>by
  obtain⟨l,hl,rfl⟩:=aaD.mp ht;exact NW (h l hl).1 (h l hl).2
 have w:=AS (c:=12550*32+4) fun t h=>(ht t h).w;rw[aai] at w;refine⟨n5.of fun t h=>(ht t h).g8,?_,AR fun t h=>(ht t h).dep⟩;show HW (x.map dg)+4<=_;lia
def RO {x:List Bu}{N:Nat}(h:GR N x):tot x<=N*x.length:=by
 induction x with
 |nil=>exact aaM _
 |cons l x ih=>
  have h1:=(h l aak).2;have h2:=ih fun k hk=>h k (aag _ hk);have:tot (l::x)=l.length+tot x:=by simp[tot]
  rw[this,aaG,Nat.mul_succ];lia
def Ll {d:D}(h:LC d):nZ [d]=AAA (.str (toPy d).shown):=by show(if LC d then some (U.t (.str (toPy d).shown)) else none)=_;rw[if_pos h]
end T5
end
section
namespace T6
open PySem PySem.Spec PyProof.Rows L2 Sw Ss Sd Sp T5
variable {bs acc:List D}{n N:Nat}{C c:Addr}{S:SS}{kvs:List (D×D)}{x y r:List Bu}{k:Bu}{s3 x3 x4 x6 x8 x9 x5 x7:Option U}{T:MO}{ns:BBD}{td:D}
def Pa (z:Str):Prop:=∀c∈z.cps.toList,97<=c/\c<=122
mutual
def Lt:D->Prop
 |.int k=>0<=k/\k<=9
 |.str z=>Pa z
 |.bl _=>True
 |.tup ds=>Wk ds
 |_=>False
def Wk:List D->Prop
 |[]=>True
 |d::ds=>Lt d/\Wk ds
end
mutual
noncomputable def enc:D->BBJ
 |.int k=>[48+k.toNat]
 |.str z=>39::(z.cps.toList++[39])
 |.bl b=>if b then [84,114,117,101] else [70,97,108,115,101]
 |.tup ds=>40::xA true ds
 |_=>[]
noncomputable def xA:Bool->List D->BBJ
 |_,[]=>[41]
 |b,a::ds=>enc a++(if ds.isEmpty then(if b then [44,41] else [41]) else 44::32::xA false ds)
end
def RP {c:Nat}(h:97<=c/\c<=122):Builtin.Str.reprChar 39 c=[c]:=by
 have k:∀c∈List.range' 97 26,Builtin.Str.reprChar 39 c=[c]:=by decide +kernel
 exact k c (List.mem_range'_1.mpr (by lia))
theorem zx {f:Nat->BBJ}:∀(l:BBJ) (acc:Array Nat),(l.foldl (fun out c=>out++(f c).toArray) acc).toList=acc.toList++l.flatMap f
 |[],acc=>by simp
 |c::l,acc=>by rw[adm,zx l];simp
theorem zy {f:Nat->BBJ}:∀(l:BBJ),(∀c∈l,f c=[c])->l.flatMap f=l
 |[],_=>rfl
 |c::l,h=>by rw[aet,h c aak,zy l fun x hx=>h x (aag _ hx)];rfl
def N1 {z:Str}(h:Pa z):(reprText z).cps.toList=39::(z.cps.toList++[39]):=by
 have q:reprQuote z=39:=by
  unfold reprQuote;rw[if_neg];have:z.cps.contains 39=false:=by
   rw[Bool.eq_false_iff];intro c;have:=h 39 (by simpa using c);lia
  rw[this];simp
 unfold reprText;rw[q];show(Array.push _ _).toList=_;rw[aes,<-Array.foldl_toList,zx,zy _ fun c hc=>RP (h c hc)];rfl
def N2 {k:Int}(h:0<=k/\k<=9):(Str.ofString (toString k)).cps.toList=[48+k.toNat]:=by
 have:∀n∈List.range 10,(Str.ofString (toString ((n:Nat):Int))).cps.toList=[48+n]:=by decide +kernel
 have:=this k.toNat (aa6.mpr (by lia))
 rwa [ad5 h.1] at this
def kW (a b:Str):(a++b).cps.toList=a.cps.toList++b.cps.toList:=Array.toList_append
mutual
theorem j5:∀(d:D),Lt d->(toPy d).shown.cps.toList=enc d
 |.int k,h=>N2 h
 |.str z,h=>N1 h
 |.bl b,_=>by cases b<;>decide +kernel
 |.tup [],_=>by decide +kernel
 |.tup [a],h=>by
  have e:=j5 a h.1;show(Str.ofString "(" ++(toPy a).shown++Str.ofString ",)").cps.toList=_;rw[kW,kW,e];show [40]++enc a++[44,41]=40::(enc a++[44,41]);simp
 |.tup (a::b::r),h=>by
  have e:=j5 a h.1;have e2:=CS (b::r) h.2 (by simp);show(Str.ofString "(" ++((toPy a).shown++Str.ofString ", " ++Str.join (Str.ofString ", ") (PyData.shownAll (fc (b::r))))++Str.ofString ")").cps.toList=_;rw[kW,kW,kW,kW,e];show [40]++(enc a++[44,32]++_)++[41]=40::(enc a++44::32::xA false (b::r));rw[<-e2];simp
 |.bQ,h=>by cases h
 |.lst _,h=>by cases h
theorem CS:∀(ds:List D),Wk ds->ds≠[]->(Str.join (Str.ofString ", ") (PyData.shownAll (fc ds))).cps.toList++[41]=xA false ds
 |[],_,h=>absurd rfl h
 |[a],h,_=>by
  have e:=j5 a h.1;show(toPy a).shown.cps.toList++[41]=_;rw[e];rfl
 |a::b::r,h,_=>by
  have e:=j5 a h.1;have e2:=CS (b::r) h.2 (by simp);show((toPy a).shown++Str.ofString ", " ++Str.join (Str.ofString ", ") (PyData.shownAll (fc (b::r)))).cps.toList++[41]=enc a++44::32::xA false (b::r);rw[kW,kW,e,<-e2];show enc a++[44,32]++_++[41]=_;simp
end
def Lm {d:D}(h:Lt d):∃c t,enc d=c::t/\c≠41:=by
 cases d with
 |int k=>exact⟨_,_,rfl,by have:0<=k/\k<=9:=h;lia⟩
 |str z=>exact⟨_,_,rfl,by decide⟩
 |bl b=>cases b<;>exact⟨_,_,rfl,by decide⟩
 |tup ds=>exact⟨_,_,rfl,by decide⟩
 |bQ=>cases h
 |lst ds=>cases h
theorem zz:∀{a b r s:BBJ},39∉a->39∉b->a++39::r=b++39::s->a=b/\r=s
 |[],[],_,_,_,_,h=>⟨rfl,(aaO h).2⟩
 |[],x::b,_,_,_,hb,h=>absurd ((aaO h).1▸aak) hb
 |x::a,[],_,_,ha,_,h=>absurd ((aaO h).1▸aak) ha
 |x::a,y::b,_,_,ha,hb,h=>by
  obtain⟨h1,h2⟩:=aaO h;obtain⟨e1,e2⟩:=zz (fun z=>ha (aag _ z)) (fun z=>hb (aag _ z)) h2;exact⟨by rw[h1,e1],e2⟩
mutual
theorem FW:∀(a b:D) (r s:BBJ),Lt a->Lt b->enc a++r=enc b++s->a=b/\r=s
 |.int i,b,r,s,ha,hb,h=>by
  have ha:0<=i/\i<=9:=ha;cases b with
  |int j=>
   have hb:0<=j/\j<=9:=hb;obtain⟨h1,h2⟩:=aaO h;exact⟨by rw[show i=j by lia],h2⟩
  |str z=>have:=(aaO h).1;lia
  |bl q=>cases q<;>(have:=(aaO h).1;lia)
  |tup ds=>have:=(aaO h).1;lia
  |bQ=>cases hb
  |lst ds=>cases hb
 |.str z,b,r,s,ha,hb,h=>by
  cases b with
  |int j=>have hb:0<=j/\j<=9:=hb;have:=(aaO h).1;lia
  |str y=>
   have no:∀{z:Str},Pa z->39∉z.cps.toList:=fun h q=>by have:=h _ q;lia
   have h2:(z.cps.toList++[39])++r=(y.cps.toList++[39])++s:=(aaO h).2;rw[abZ,abZ] at h2;obtain⟨e1,e2⟩:=zz (no ha) (no hb) h2;refine⟨?_,e2⟩;obtain⟨⟨x⟩⟩:=z;obtain⟨⟨y⟩⟩:=y;have:x=y:=e1;rw[this]
  |bl q=>cases q<;>(have:=(aaO h).1;lia)
  |tup ds=>have:=(aaO h).1;lia
  |bQ=>cases hb
  |lst ds=>cases hb
 |.bl p,b,r,s,ha,hb,h=>by
  cases b with
  |int j=>have hb:0<=j/\j<=9:=hb;cases p<;>(have:=(aaO h).1;lia)
  |str y=>cases p<;>(have:=(aaO h).1;lia)
  |bl q=>
   cases p<;>cases q
   ·exact⟨rfl,by simpa[enc] using h⟩
   ·have:=(aaO h).1;lia
   ·have:=(aaO h).1;lia
   ·exact⟨rfl,by simpa[enc] using h⟩
  |tup ds=>cases p<;>(have:=(aaO h).1;lia)
  |bQ=>cases hb
  |lst ds=>cases hb
 |.tup as,b,r,s,ha,hb,h=>by
  cases b with
  |int j=>have hb:0<=j/\j<=9:=hb;have:=(aaO h).1;lia
  |str y=>have:=(aaO h).1;lia
  |bl q=>cases q<;>(have:=(aaO h).1;lia)
  |tup bs=>
   obtain⟨e1,e2⟩:=CT true as bs r s ha hb (aaO h).2;exact⟨by rw[e1],e2⟩
  |bQ=>cases hb
  |lst ds=>cases hb
 |.bQ,_,_,_,h,_,_=>by cases h
 |.lst _,_,_,_,h,_,_=>by cases h
theorem CT:∀(f:Bool) (as bs:List D) (r s:BBJ),Wk as->Wk bs->xA f as++r=xA f bs++s->as=bs/\r=s
 |f,[],[],r,s,_,_,h=>⟨rfl,(aaO h).2⟩
 |f,[],b::bs,r,s,_,hb,h=>by
  obtain⟨c,t,e,n⟩:=Lm hb.1;have h:41::r=(enc b++_)++s:=h;rw[e] at h;exact absurd (aaO h).1.symm n
 |f,a::as,[],r,s,ha,_,h=>by
  obtain⟨c,t,e,n⟩:=Lm ha.1;have h:(enc a++_)++r=41::s:=h;rw[e] at h;exact absurd (aaO h).1 n
 |f,a::as,b::bs,r,s,ha,hb,h=>by
  have h:(enc a++(if as.isEmpty then(if f then [44,41] else [41]) else 44::32::xA false as))++r=(enc b++(if bs.isEmpty then(if f then [44,41] else [41]) else 44::32::xA false bs))++s:=h;rw[abZ,abZ] at h;obtain⟨e1,e2⟩:=FW a b _ _ ha.1 hb.1 h;subst e1;cases as with
  |nil=>
   cases bs with
   |nil=>exact⟨rfl,List.append_cancel_left e2⟩
   |cons b2 bs=>cases f<;>simp at e2
  |cons a2 as=>
   cases bs with
   |nil=>cases f<;>simp at e2
   |cons b2 bs=>
    have e2:44::32::(xA false (a2::as)++r)=44::32::(xA false (b2::bs)++s):=e2;obtain⟨e3,e4⟩:=CT false (a2::as) (b2::bs) r s ha.2 hb.2 (aaO (aaO e2).2).2;exact⟨by rw[e3],e4⟩
end
def se {z:Str}(h:nameB (.str z)=true):Pa z:=by
 unfold nameB at h;simp only[aaH,aaY,aa1] at h;intro c hc;have hl:Rf ⟨#[c]⟩=true:=h.2 _ (aaD.mpr ⟨c,hc,rfl⟩);obtain⟨i,hi⟩:=(aeK Sw.OW ⟨#[c]⟩).mp hl;have:=(aeL Sw.OW c i).mp hi;have k:∀c∈Sw.OW.cps.toList,97<=c/\c<=122:=by decide +kernel
 exact k c (aaW this)
def mU (z:Str) (h:(z.cps.toList.all fun c=>decide (97<=c/\c<=122))=true):Pa z:=fun c hc=>aa2 (aa1.mp h c hc)
def FY {o:Str}(h:o∈wW):Pa o:=by
 simp only[wW,aao,aaQ,abU] at h;rcases h with rfl|rfl|rfl<;>exact mU _ (by decide +kernel)
def Wl {bs:BBB}{t:D}(h:Ts bs t) (hw:∀y∈bs,Pa y):Lt t:=by
 cases h with
 |any=>exact⟨mU "any" (by decide +kernel),True.intro⟩
 |name h=>exact⟨mU "name" (by decide +kernel),se h,True.intro⟩
 |num a b c=>exact⟨FY a,⟨b,c⟩,True.intro⟩
 |var a b=>exact⟨FY a,hw _ b,True.intro⟩
def Wm {bs:BBB}{d:D}(h:Sy n bs d) (hw:∀y∈bs,Pa y):Lt d:=by
 induction h with
 |leaf h=>exact⟨by rcases h with rfl|rfl<;>exact mU _ (by decide +kernel),True.intro⟩
 |now h=>exact⟨mU "now" (by decide +kernel),Wl h hw,True.intro⟩
 |one hz _ ih=>exact⟨by rcases ze hz with rfl|rfl|rfl|rfl<;>exact mU _ (by decide +kernel),ih hw,True.intro⟩
 |two hz _ _ i1 i2=>exact⟨by rcases zf hz with rfl|rfl|rfl<;>exact mU _ (by decide +kernel),i1 hw,i2 hw,True.intro⟩
 |XF a b _ ih=>exact⟨mU "within" (by decide +kernel),⟨a,by lia⟩,ih hw,True.intro⟩
 |bnd hz ha hb _ ih=>exact⟨by rcases hz with rfl|rfl<;>exact mU _ (by decide +kernel),se ha,se hb,ih (fun w hw'=>by
   rcases aav.mp hw' with q|q
   ·exact hw w q
   ·rw[aam.mp q];exact se hb),True.intro⟩
def rp (p:Tg):Str:=(toPy (cH p)).shown
def Wn (p:Tg):Prop:=Gd p.1
def Ec (p q:Tg) (hp:Wn p) (hq:Wn q) (h:rp p=rp q):p=q:=by
 have lt:∀{p:Tg},Wn p->Lt (cH p):=fun {p} h=>by
  obtain⟨n,_,sy⟩:=h.2.1;exact⟨Wm sy fun _ h=>(by cases h),True.intro,True.intro⟩
 have e:enc (cH p)++[]=enc (cH q)++[]:=by rw[<-j5 _ (lt hp),<-j5 _ (lt hq),show(toPy (cH p)).shown=(toPy (cH q)).shown from h]
 have:=(FW _ _ _ _ (lt hp) (lt hq) e).1;obtain⟨a,x⟩:=p;obtain⟨b,y⟩:=q;have:D.tup [a,.bl x]=D.tup [b,.bl y]:=this;simp at this;rw[this.1,this.2]
def cT (aK:Addr):GS:=
 (aU (cD 5 (eP vK (ah (eF (eP KA (ah (eF (aB 1)) aF))) (ah (eC (.int 1)) aF))))
 (aU (nq (eT (eM 4 hAppend (ah (eF (eP dB (ah (Q8 aK 0 "basics" 2 (eF (eP Jo (ah (eF (aB 5)) (ah (eC (.int 2)) aF))))) (ah (eF (eP xR (ah (eF (eP vL (ah (eF (aB 5)) (ah (eC (.int 2)) aF)))) (ah (eC (.int 0)) aF)))) aF)))) aF))))
 (cD 1 (eP vK (ah (eF (aB 1)) (ah (eF (eP DU (ah (eC (.int 1)) (ah (eF (aB 5)) aF)))) aF))))))
def ir (aK:Addr):GS:=
 (aU (cD 4 (eP fW aF))
 (aU (DC 100000 (qB (eF (eP xZ (ah (eF (aB 1)) (ah (eC (.int 0)) aF))))) (cT aK))
 (dI (eP g7 (ah (eF (aB 4)) aF)))))
def iu (uZ:FM) (aK:Addr):GS:=
 (dI (eP g7 (ah (eF (fR [0,2,3] (iY (eF (aB 1))) cj (eF (d9 aK "bunch_of" 1 uZ (bw (eF (aB 0)) bM) [2,3])))) aF)))
def pL (u5 u6 gn:FM) (aK:Addr):GS:=
 (DY 1 2 3 aK (dI (d9 aK "stand_of" 1 u6 (bw (eF (d9 aK "of_stand" 1 gn (bw (eF (aB 0)) bM) [2,3])) bM) [2,3])))
def vq (u5 gn:FM) (aK:Addr):GS:=
 (DY 2 3 4 aK (dI (eP xR (ah (eF (d9 aK "of_stand" 2 gn (bw (eF (aB 0)) bM) [3,4])) (ah (eF (d9 aK "of_stand" 2 gn (bw (eF (aB 1)) bM) [3,4])) aF)))))
def RQ (C:Addr):FM:=bL 6 (ir C)
def RS (C:Addr):∀us r,RQ C us=some r->bL 6 (ir C) us=some r:=fun _ _ h=>h
abbrev bS (C c d:Addr) (n:Nat) (bs:List D) (kvs:List (D×D)) (m:Nat) (acc:List D) (x:Option U):SS:=[some (.b (jg C c d n)),AAC (m:Nat),some (.b (.lat c bs)),some (.b (.gU d kvs)),AAB acc,x]
def nbn:¬("bunch_of":Str)="basics"/\¬("bunch_of":Str)="numbers"/\¬("bunch_of":Str)="trues":=by decide
def nsn:¬("stand_of":Str)="basics"/\¬("stand_of":Str)="numbers"/\¬("stand_of":Str)="trues":=by decide
def Wo {d:Addr}{s0:Option U}:jd C (s0::some (.m (jg C c d n))::S) 1=some (CI c d n):=by simp[jd,jg,CI]
def N3 {d:Addr}{m:Nat}{x:Option U}(hm:m≠0) (hl:m.log2<2*bs.length) (hb:bs.length<10000) (ha:acc.length<90000) (hx:fS x=false):
  cT C (bS C c d n bs kvs m acc x)=some (.nx (bS C c d n bs kvs (m-2 ^ m.log2) (acc++[cH (tg bs m.log2)]) (AAC (m.log2:Nat)))):=by
 have e0:(Builtin.Int.intBits (m:Nat):Nat)=m.log2+1:=by
  unfold Builtin.Int.intBits;rw[if_neg (by simpa using hm)];rfl
 have hi:m.log2 / 2<bs.length:=by lia
 have e1:dX bs ((m.log2:Nat) / 2:Int)=some (bs.getD (m.log2 / 2) .bQ):=zX (j:=m.log2 / 2) (by rw[aaE,aal hi];rfl);have le:=Nat.log2_self_le hm;generalize hk:m.log2=k at *;have e2:((k:Int) % 2 == 0)=decide (k % 2=0):=by rw[abO];simp;lia
 have e3:((m:Int)-2 ^ k)=((m-2 ^ k:Nat):Int):=by rw[Int.ofNat_sub le];simp
 have k1:(k:Int)<=100000:=by lia
 have ha':acc.length<100000:=by lia
 simp[-bN,bD,cT,KA,e0,hx,Q8,yh,K5,CI,yW,e1,e2,DU,xQ,k1,e3,hAppend,ha',tg,cH]
def N4 {d:Addr}(hb:bs.length<10000):∀(f e m:Nat) (acc:List D) (x:Option U),m<2 ^ f->f<=2*bs.length->acc.length+f<90000->fS x=false->
  ∃y,pW (qB (eF (eP xZ (ah (eF (aB 1)) (ah (eC (.int 0)) aF))))) (cT C) (f+1+e) (bS C c d n bs kvs m acc x)=some (.nx (bS C c d n bs kvs 0 (acc++(xy bs f m).map cH) y)):=by
 have stop:∀(e:Nat) (acc:List D) (x:Option U),pW (qB (eF (eP xZ (ah (eF (aB 1)) (ah (eC (.int 0)) aF))))) (cT C) (e+1) (bS C c d n bs kvs 0 acc x)=some (.nx (bS C c d n bs kvs 0 acc x)):=fun e acc x=>by simp[pW,xZ]
 intro f
 induction f with
 |zero=>
  intro e m acc x hm _ _ _;have:m=0:=by simpa using hm
  subst this;refine⟨x,?_⟩;rw[show 0+1+e=e+1 by lia,stop];simp[xy]
 |succ f ih=>
  intro e m acc x hm hf ha hx;unfold xy;by_cases h0:m=0
  ·subst h0;refine⟨x,?_⟩;rw[show f+1+1+e=(f+1+e)+1 by lia,stop];simp
  ·have lt:m.log2<f+1:=(aeP h0).mpr hm;have lm:m-2 ^ m.log2<2 ^ f:=by
    rw[A2 h0];exact aas (aev _ (aeO _)) (ab9 (by lia) (by lia))
   have tn:=N3 (C:=C) (c:=c) (d:=d) (n:=n) (bs:=bs) (kvs:=kvs) (acc:=acc) (x:=x) h0 (by lia) hb (by lia) hx;obtain⟨y,e2⟩:=ih e (m-2 ^ m.log2) (acc++[cH (tg bs m.log2)]) (AAC (m.log2:Nat)) lm (by lia) (by rw[aaw];show acc.length+1+f<90000;lia) rfl;refine⟨y,?_⟩;rw[show f+1+1+e=(f+1+e)+1 by lia,if_neg h0];have q:qB (eF (eP xZ (ah (eF (aB 1)) (ah (eC (.int 0)) aF)))) (bS C c d n bs kvs m acc x)=some (true,bS C c d n bs kvs m acc x):=by simp[xZ,h0]
   unfold pW;rw[q,aah];show(cT C _).bind _=_;rw[tn,aah];show pW _ _ (f+1+e) _=_;rw[e2];simp
def Wq {d:Addr}{m:Nat}(hb:bs.length<10000) (hm:m<2 ^ (2*bs.length)):
  RQ C [.b (jg C c d n),.t (.int (m:Nat)),.b (.lat c bs),.b (.gU d kvs)]=some (.t (dg (FU bs m)),[jg C c d n,.lat c bs,.gU d kvs]):=by
 obtain⟨y,e⟩:=N4 (C:=C) (c:=c) (d:=d) (n:=n) (kvs:=kvs) hb (2*bs.length) (100000-1-2*bs.length) m [] none hm (aaj _) (by show 0+_<_;lia) rfl;rw[show 2*bs.length+1+(100000-1-2*bs.length)=100000 by lia] at e;have e:pW _ _ 100000 [some (.b (jg C c d n)),AAC (m:Nat),some (.b (.lat c bs)),some (.b (.gU d kvs)),AAB [],none]=_:=e;have hl:(FU bs m).length<=100000:=by
  have:∀f m,(xy bs f m).length<=f:=fun f=>by
   induction f with
   |zero=>exact fun _=>aaj _
   |succ f ih=>
    intro m;unfold xy;split
    ·exact aaM _
    ·exact Nat.succ_le_succ (ih _)
  have:=this (2*bs.length) m;unfold FU;lia
 unfold FU at hl;simp[-bN,bD,RQ,bL,ir,DC,e,dg,FU,hl,aT]
def Pb (C:Addr):FM:=bL 4 (iu (RQ C) C)
def RU (C:Addr):∀us r,Pb C us=some r->bL 4 (iu (RQ C) C) us=some r:=fun _ _ h=>h
def Tf (C:Addr):GD:=eF (d9 C "bunch_of" 1 (RQ C) (bw (eF (aB 0)) bM) [2,3])
def RV {d:Addr}{m:Nat}{t:D}(hb:bs.length<10000) (hm:m<2 ^ (2*bs.length)):
  bU [0,2,3] cj (Tf C) [.int (m:Nat)] [some (.b (jg C c d n)),AAA t,some (.b (.lat c bs)),some (.b (.gU d kvs))] acc
   = some (acc++[dg (FU bs m)],[some (.b (jg C c d n)),AAA t,some (.b (.lat c bs)),some (.b (.gU d kvs))]):=by
 have e:=Wq (C:=C) (c:=c) (d:=d) (n:=n) (kvs:=kvs) hb hm;simp[bU,d8,sV,cj,Tf,d9,V4,CI,OR,uK,e,aT,nbn]
theorem FZ {C c d:Addr}{n:Nat}{bs:List D}{kvs:List (D×D)}{t:D}(hb:bs.length<10000):∀(ks:BBJ) (acc:List D),(∀m∈ks,m<2 ^ (2*bs.length))->
  bU [0,2,3] cj (Tf C) (nats ks) [some (.b (jg C c d n)),AAA t,some (.b (.lat c bs)),some (.b (.gU d kvs))] acc
   = some (acc++(ks.map (FU bs)).map dg,[some (.b (jg C c d n)),AAA t,some (.b (.lat c bs)),some (.b (.gU d kvs))])
 |[],acc,_=>by simp[bU,nats]
 |m::ks,acc,h=>by
  show bU [0,2,3] cj (Tf C) (.int (m:Nat)::nats ks) _ _=_;rw[Sq.qE,RV hb (h m aak),aah];show bU [0,2,3] cj (Tf C) (nats ks) _ _=_;rw[FZ hb ks _ fun k hk=>h k (aag _ hk)];simp
def Wr {d:Addr}{ks:BBJ}(hb:bs.length<10000) (h:∀m∈ks,m<2 ^ (2*bs.length)) (hk:ks.length<1000):
  Pb C [.b (jg C c d n),.t (.lst (nats ks)),.b (.lat c bs),.b (.gU d kvs)]=some (.t (cu (ks.map (FU bs))),[jg C c d n,.lat c bs,.gU d kvs]):=by
 have e:=FZ (C:=C) (c:=c) (d:=d) (n:=n) (kvs:=kvs) (t:=.lst (nats ks)) hb ks [] h;unfold Tf at e;have h1:(nats ks).length<=100000:=by unfold nats;rw[aai];lia
 have h2:ks.length<=100000:=by lia
 simp[Pb,bL,iu,kD,dQ,h1,h2,e,aT,cu]
def RW {b:D}(h:bs.Nodup):(add bs b).Nodup:=by
 unfold add;split
 ·exact h
 ·rename_i n;exact adA.mpr ⟨h,abo.mpr ⟨by simp,abp⟩,fun x hx y hy e=>n (by rw[aam.mp hy] at e;exact e▸hx)⟩
theorem F5:∀(l:Bu){bs:List D},bs.Nodup->(adds bs l).Nodup
 |[],_,h=>h
 |p::l,bs,h=>F5 l (bs:=add bs p.1) (RW h)
theorem CU:∀(x:List Bu){bs:List D},bs.Nodup->(cz bs x).Nodup
 |[],_,h=>h
 |l::x,bs,h=>CU x (bs:=adds bs l) (F5 l h)
def pP (x:List Bu):List Bu:=(pO [] x).map (FU (cz [] x))
def uh (x:List Bu):Ms x (pP x):=NU (CU x abp) (fun l hl p hp=>fL x hl hp) CL (A1 [] x) (Eb [] x)
def Ln (bs:List D) (x:List Bu):(pO bs x).length<=x.length:=by
 have h1:=(rZ (n:=(cz bs x).length) (HQ (x.map (oB (cz bs x)))) []).length_le;have h2:=FE (x.map (oB (cz bs x)));rw[aai] at h2;rw[acs] at h1;exact aaC h1 h2
def A6 (C:Addr):FM:=bL 4 (pL CM (Pb C) (FG C) C)
def N5 (C:Addr):∀us r,A6 C us=some r->bL 4 (pL CM (Pb C) (FG C) C) us=some r:=fun _ _ h=>h
def Ed (hx:∀l∈x,∀p∈l,Bc p.1) (lx:x.length<64) (ht:tot x<9000):A6 C [.t (cu x)]=some (.t (cu (pP x)),[]):=by
 have al:(cz [] x).length<=0+tot x:=ue x [];have main:pL CM (Pb C) (FG C) C [AAA (cu x),none,none,none]=some (.rt (.t (cu (pP x))) [AAA (cu x),none,none,none]):=by
  refine yP fun c d=>?_;have e1:=K7 (C:=C) (c:=c) (d:=d) (bs:=[]) (x:=x) hx (by show 0+tot x<10000;lia) lx;have kl:=Ln [] x;have e2:=Wr (C:=C) (c:=c) (d:=d) (n:=(cz [] x).length) (bs:=cz [] x) (kvs:=gR 0 (cz [] x)) (ks:=pO [] x) (by lia) (fun m hm=>by
   obtain⟨l,hl,rfl,_⟩:=(CL (bs:=[]) (x:=x)).from_ m hm;exact Lg fun p hp=>fL x hl hp) (by lia)
  have em:Km 1 2 3 C c d [AAA (cu x),none,none,none]=some [AAA (cu x),some (.m (jg C c d 0)),some (.m (.lat c [])),some (.m (.gU d []))]:=by simp[Km,jg,HY]
  rw[em,aah];have e1:FG C [.b (jg C c d 0),.t (cu x),.b (.lat c []),.b (.gU d [])]=_:=e1;simp[d9,Wo,CI,OR,uK,e1,e2,K4,M5,wI,pP,nsn]
 show((pL CM (Pb C) (FG C) C [AAA (cu x),none,none,none]).bind _)=_;rw[main,aah];rfl
theorem F6:∀(a b:BBJ),jm (nats a) (nats b)=decide (a=b)
 |[],[]=>rfl
 |[],_::_=>rfl
 |_::_,[]=>rfl
 |x::a,y::b=>by
  show(((x:Int) == (y:Int)) && jm (nats a) (nats b))=_;rw[F6 a b];by_cases h:x=y
  ·subst h;simp
  ·have:¬(x:Int)=(y:Int):=by lia
   simp[h,this]
def A7 (C:Addr):FM:=bL 5 (vq CM (FG C) C)
def N6 (C:Addr):∀us r,A7 C us=some r->bL 5 (vq CM (FG C) C) us=some r:=fun _ _ h=>h
def A8 (hx:∀l∈x,∀p∈l,Bc p.1) (hy:∀l∈y,∀p∈l,Bc p.1) (lx:x.length<64) (ly:y.length<64) (ht:tot x+tot y<10000):
  A7 C [.t (cu x),.t (cu y)]=some (.t (.bl (zu x y)),[]):=by
 have al:(cz [] x).length<=0+tot x:=ue x [];have hks:decide (pO [] x=pO (cz [] x) y)=zu x y:=by
  have k1:Kp (cz [] x) x (pO [] x):=CL;have k2:Kp (cz (cz [] x) y) y (pO (cz [] x) y):=CL;have k1':=k1.ext (bs':=cz (cz [] x) y) fun l hl=>FF fun p hp=>xw y (fL x hl hp);exact ks_eq (fun l hl p hp=>ud y (fL x hl hp)) (fun l hl p hp=>fL y hl hp) k1' k2 (A1 _ _) (A1 _ _) (Eb _ _) (Eb _ _)
 have main:vq CM (FG C) C [AAA (cu x),AAA (cu y),none,none,none]=some (.rt (.t (.bl (zu x y))) [AAA (cu x),AAA (cu y),none,none,none]):=by
  refine yP fun c d=>?_;have e1:=K7 (C:=C) (c:=c) (d:=d) (bs:=[]) (x:=x) hx (by show 0+tot x<10000;lia) lx;have e2:=K7 (C:=C) (c:=c) (d:=d) (bs:=cz [] x) (x:=y) hy (by lia) ly;have e3:gQ (.lst (nats (pO [] x))) (.lst (nats (pO (cz [] x) y)))=zu x y:=(F6 _ _).trans hks;have d3:bA (.lst (nats (pO [] x)))<=40:=by
   have:∀ks,bf (nats ks)=0:=fun ks=>by
    induction ks with
    |nil=>rfl
    |cons k ks ih=>show max (bA (.int k)) (bf (nats ks))=0;rw[ih];rfl
   show bf _+1<=40;rw[this];lia
  have em:Km 2 3 4 C c d [AAA (cu x),AAA (cu y),none,none,none]=some [AAA (cu x),AAA (cu y),some (.m (jg C c d 0)),some (.m (.lat c [])),some (.m (.gU d []))]:=by simp[Km,jg,HY]
  rw[em,aah];have e1:FG C [.b (jg C c d 0),.t (cu x),.b (.lat c []),.b (.gU d [])]=_:=e1;simp[d9,aaq,CI,OR,uK,e1,e2,e3,d3,K4,M5,wI]
 show((vq CM (FG C) C [AAA (cu x),AAA (cu y),none,none,none]).bind _)=_;rw[main,aah];rfl
def qG (Ef:FM):GS:=
 (dI (eP (lu false) (ah (eF (fR [] (iY (eF (br Ef (bw (eF (aB 0)) bM)))) cj (eF (eP (lu true) (ah (eF (fR [] (iY (eF (aB 0))) cj (eF (eP nZ (ah (eF (aB 0)) aF))))) aF))))) aF)))
def gw (aC:FM):GS:=
 (qw (qB (eF (eP xZ (ah (eF (fR [] (iY (eF (aB 2))) (EI (k8 (qB (EM ["tuple"] (eF (aB 0))))) (EI (qB (eF (eP xZ (ah (rJ 0) (ah (eC (.int 2)) aF))))) (k8 (qB (EM ["bool"] (eG 0 (eC (.int 1)))))))) (eC (.int 1)))) (ah (eF (eP fW aF)) aF))))) (dI (eT (eC (.bl false)))) gB)
def XQ (aC:FM):GS:=
 (qw (EI (k8 (qB (EM ["tuple"] (eF (aB 0))))) (qB (eF (eP xZ (ah (eF (fR [] (iY (eF (aB 0))) (k8 (qB (EM ["tuple"] (eF (aB 0))))) (eC (.int 1)))) (ah (eF (eP fW aF)) aF)))))) (dI (eT (eC (.bl false)))) gB)
def XR (aC:FM):GS:=
 (mG (bName 2) (iY (eF (aB 0))) (gw aC))
def XS (aC:FM):GS:=
 (cD 3 (fR [] (iY (eF (aB 0))) cj (eF (eP (lu true) (ah (eF (fR [] (iY (eF (aB 0))) cj (eF (eP nZ (ah (eF (aB 0)) aF))))) aF)))))
def it3 (aC:FM):GS:=
 (dI (eP xR (ah (eF (eP (lu false) (ah (eF (aB 3)) aF))) (ah (eF (br aC (bw (eF (aB 1)) bM))) aF))))
def gK (aC:FM):GS:=aU (XQ aC) (aU (XR aC) (aU (XS aC) (it3 aC)))
def it_eq (aC:FM):gK aC=aU (XQ aC) (aU (XR aC) (aU (XS aC) (it3 aC))):=rfl
def qH (r:List Bu):List Bu:=(kL (r.map List.length)).map fun i=>r.getD i []
def N7 (r:List Bu):rN (r.map List.length) (r.map fT)=(qH r).map fT:=by
 have p:=jY (r.map List.length);rw[aai] at p;unfold rN qH;rw[abE];refine acF fun i hi=>?_;have hi:i<r.length:=aa6.mp (p.mem_iff.mp hi);show(r.map fT).getD i .bQ=fT (r.getD i []);simp[hi]
def l5 (r:List Bu):(qH r).Perm r:=by
 have q:=(jY (r.map List.length)).map fun i=>r.getD i [];rw[aai] at q;have e:(List.range r.length).map (fun i=>r.getD i [])=r:=by
  apply adB;intro i;by_cases hi:i<r.length
  ·simp[hi]
  ·simp[hi]
 rw[e] at q;exact q
def N8 (r:List Bu):(qH r).Pairwise fun a b=>a.length<=b.length:=by
 have pm:=jY (r.map List.length);unfold qH;unfold kL at pm ⊢;split
 ·rename_i h;rw[abY];rcases r with _|⟨a,_|⟨b,r⟩⟩
  ·exact List.Pairwise.nil
  ·exact aeJ _ _
  ·exact absurd h (by simp)
 ·rename_i h;rw[if_neg h] at pm;have s:=Ku (ky:=fun i=>(r.map List.length).getD i 0) (n:=(r.map List.length).length) (by lia);have s:OU (fun i=>(r.map List.length).getD i 0) (iZ (fun i j=>decide ((r.map List.length).getD i 0<(r.map List.length).getD j 0)) (PySem.W.kas_sort (r.map List.length).length)) (r.map List.length).length:=s;generalize iZ (fun i j=>decide ((r.map List.length).getD i 0<(r.map List.length).getD j 0)) (PySem.W.kas_sort (r.map List.length).length)=p at *;rw[aai] at pm s;have sz:p.size=r.length:=by have:=pm.length_eq;rwa [aaL,abk] at this
  rw[abY,acz];intro i j hi hj hij;have ii:p.toList[i]<r.length:=aa6.mp (pm.mem_iff.mp (ab3 hi));have jj:p.toList[j]<r.length:=aa6.mp (pm.mem_iff.mp (ab3 hj));rw[aaL,sz] at hj;rw[aaL,sz] at hi;have:=s i j (abG hij) hj;unfold kf at this;rw[aaR,aaR,aaK (by lia),aaK (by lia)] at this;rw[ade] at ii jj;simp[ii,jj] at this ⊢;exact this
def uO (x:List Bu):List Bu:=kb (qH (cP x)) []
def RX (hx:∀l∈x,AY l/\l.length<=900) (hn:x.length<64):Wb [.t (cu x)]=some (.m (.lst ((uO x).map fT)),[]):=by
 have hx':HZ x:=fun l hl=>⟨(hx l hl).1,by have:=(hx l hl).2;lia⟩
 obtain⟨y2,y3,y4,j2,j3,j4,e⟩:=FL (b:=false) (s0:=AAA (cu x)) (x5:=none) x [] none none none hx' (fun l hl=>by have:=(hx l hl).2;lia) (by show 0+x.length<1000;lia) rfl rfl rfl;have l1:=zq x;have es:=N7 (cP x);have ps:=l5 (cP x);have lr:=FP (cP x);have gr:HZ (qH (cP x)):=fun k hk=>by
  obtain⟨l,hl,v,rfl⟩:=pK.mp (ps.mem_iff.mp hk);exact⟨Lc (hx l hl).1,by have:=(hx l hl).2;have:=AZ l;lia⟩
 have ls:=ps.length_eq;obtain⟨z3,e3⟩:=FO (s0:=AAA (cu x)) (s1:=AAA (.lst ((cP x).map fT))) (s2:=y2) (x4:=y4) (qH (cP x)) [] y3 gr (fun k hk=>by cases hk) (by show 0+(qH (cP x)).length<1000;lia) j3;have e:loop (bName 2) gJ (x.map dg) [AAA (cu x),AAB [],none,none,none,none]=some (.nx [AAA (cu x),AAB ((cP x).map fT),y2,y3,y4,none]):=e;have s0:XJ [AAA (cu x),none,none,none,none,none]=some (.nx [AAA (cu x),AAB [],none,none,none,none]):=by simp[-bN,bD,XJ]
 have s1:XM [AAA (cu x),AAB [],none,none,none,none]=some (.nx [AAA (cu x),AAB ((cP x).map fT),y2,y3,y4,none]):=by
  rw[<-e];simp[XM,dQ,cu]
 have s2:XN [AAA (cu x),AAB ((cP x).map fT),y2,y3,y4,none]=some (.nx [AAA (cu x),AAB ((cP x).map fT),y2,y3,y4,AAB []]):=by simp[-bN,bD,XN]
 have h64:(cP x).length<64:=by lia
 have e3:loop (bName 3) fO ((qH (cP x)).map fT) [AAA (cu x),AAA (.lst ((cP x).map fT)),y2,y3,y4,AAB []]=some (.nx [AAA (cu x),AAA (.lst ((cP x).map fT)),y2,z3,y4,AAB ((uO x).map fT)]):=e3;have s3:XO [AAA (cu x),AAB ((cP x).map fT),y2,y3,y4,AAB []]=some (.nx [AAA (cu x),AAA (.lst ((cP x).map fT)),y2,z3,y4,AAB ((uO x).map fT)]):=by
  rw[<-e3];simp[XO,dQ,AD,lr,h64,es]
 show((kU [AAA (cu x),none,none,none,none,none]).bind _)=_;rw[Wa,cV s0,cV s1,cV s2,cV s3];simp[ts4,aT]
theorem Lo:∀(l acc:Bu),acc.Nodup->(dd acc l).Nodup
 |[],acc,h=>h
 |q::l,acc,h=>by
  unfold dd;refine Lo l _ ?_;split
  ·exact h
  ·rename_i n;exact adA.mpr ⟨h,abo.mpr ⟨by simp,abp⟩,fun x hx y hy e=>n (by rw[aam.mp hy] at e;exact e▸hx)⟩
theorem xB:∀{a b:Bu},a.Nodup->(∀p∈a,p∈b)->∃c,b.Perm (a++c)
 |[],b,_,_=>⟨b,aci _⟩
 |p::a,b,hn,hs=>by
  obtain⟨n1,n2⟩:=abo.mp hn;obtain⟨c,h⟩:=xB (b:=b.erase p) n2 fun q hq=>(List.mem_erase_of_ne fun e:q=p=>n1 (e▸hq)).mpr (hs q (aag _ hq));exact⟨c,(List.perm_cons_erase (hs p aak)).trans (h.cons p)⟩
def Lp {a b:Bu}(hn:a.Nodup) (hs:dY a b=true) (hl:b.length<=a.length):dY b a=true:=by
 obtain⟨c,h⟩:=xB hn (bY.mp hs);have e:=h.length_eq;rw[aaw] at e;have:c=[]:=adw.mp (by lia);subst this;rw[ab5] at h;exact bY.mpr fun p hp=>h.mem_iff.mp hp
theorem A9:∀(r F:List Bu),(F++r).Pairwise (fun a b=>a.length<=b.length)->(∀k∈r,k.Nodup)->(∀a∈F,∀b∈F,dY a b=true->a=b)->F.Nodup->(∀a∈kb r F,∀b∈kb r F,dY a b=true->a=b)/\(kb r F).Nodup
 |[],F,_,_,h,n=>⟨h,n⟩
 |k::r,F,hp,hn,h,n=>by
  unfold kb;split
  ·exact A9 r F (hp.sublist ((adI k r).append_left F)) (fun q hq=>hn q (aag _ hq)) h n
  ·rename_i c;have no:∀f∈F,dY f k=false:=fun f hf=>by
    cases e:dY f k with
    |false=>rfl
    |true=>exact absurd (aaU.mpr ⟨f,hf,e⟩) c
   have le:∀f∈F,f.length<=k.length:=fun f hf=>(adU.mp hp).2.2 f hf k aak;refine A9 r (F++[k]) (by rw[abZ];exact hp) (fun q hq=>hn q (aag _ hq)) (fun a ha b hb e=>?_) ?_
   ·rcases aav.mp ha with ha|ha<;>rcases aav.mp hb with hb|hb
    ·exact h a ha b hb e
    ·rw[aam.mp hb,no a ha] at e;cases e
    ·rw[aam.mp ha] at e;have:=Lp (hn k aak) e (le b hb);rw[no b hb] at this;cases this
    ·rw[aam.mp ha,aam.mp hb]
   ·refine adA.mpr ⟨n,abo.mpr ⟨by simp,abp⟩,fun f hf q hq e=>?_⟩;have h2:=no f hf;rw[e,aam.mp hq,pJ] at h2;cases h2
def Eg (h:k∈uO x):∃l∈x,cy l=false/\k=uN l:=by
 rcases O6 _ _ h with q|q
 ·cases q
 ·exact pK.mp ((l5 _).mem_iff.mp q)
def Ba (x:List Bu):Ms x (uO x):=by
 have nd:∀k∈qH (cP x),k.Nodup:=fun k hk=>by
  obtain⟨l,hl,v,rfl⟩:=pK.mp ((l5 _).mem_iff.mp hk);exact Lo l [] abp
 obtain⟨h1,h2⟩:=A9 (qH (cP x)) [] (N8 _) nd (fun a h=>nomatch h) abp;refine⟨⟨fun k hk=>?_,fun l hl hv=>?_⟩,fun k hk=>?_,h1,h2⟩
 ·obtain⟨l,hl,v,rfl⟩:=Eg hk;exact⟨by rw[CN];exact v,l,hl,bY.mpr fun p hp=>pI.mp hp,bY.mpr fun p hp=>pI.mpr hp⟩
 ·obtain⟨k,hk,e⟩:=Ld (qH (cP x)) [] (m:=uN l) ((l5 _).mem_iff.mpr (pK.mpr ⟨l,hl,hv,rfl⟩));exact⟨k,hk,dj e (bY.mpr fun p hp=>pI.mp hp)⟩
 ·obtain⟨l,hl,v,rfl⟩:=Eg hk;exact Lo l [] abp
def N9 (x:List Bu):(uO x).length<=x.length:=by
 have h1:=Le (qH (cP x)) [];have h1:(uO x).length<=0+(qH (cP x)).length:=h1;have h2:=(l5 (cP x)).length_eq;have h3:=zq x;lia
def Ws:D->D
 |.lst es=>nC (nA (es.map fun e=>(toPy e).shown))
 |.tup es=>nC (nA (es.map fun e=>(toPy e).shown))
 |_=>.bQ
def Oa:GD:=eF (eP (lu true) (ah (eF (fR [] (iY (eF (aB 0))) cj (eF (eP nZ (ah (eF (aB 0)) aF))))) aF))
def RY {p:Tg}(h:Gd p.1):LC (cH p):=by
 obtain⟨hb,_,hs,hw⟩:=h;refine Wj ⟨hs,True.intro,True.intro⟩ ?_ (aaC (D8 hb) (by decide));show wD p.1+2+(wD (.bl p.2)+2+0)+4<=16000000;have:wD (.bl p.2)<=20:=by cases p.2<;>decide
 lia
def RZ {b:Bool}(h:LL k) (hl:k.length<64):Oa [AAA (vp b k)]=some (nC (uY rp k),[AAA (vp b k)]):=by
 have e:=lV (cap:=[]) (g:=eF (eP nZ (ah (eF (aB 0)) aF))) (S:=[AAA (vp b k)]) (ts:=[]) rfl (fun d=>.str (toPy d).shown) (k.map cH) [] (fun d hd=>by
  obtain⟨p,hp,rfl⟩:=aaD.mp hd;have:=Ll (RY (h p hp));simp[-Av,this])
 rw[acs] at e;have em:(k.map cH).map (fun d=>D.str (toPy d).shown)=(k.map rp).map D.str:=by rw[abE,abE];rfl
 rw[em] at e;have h2:=Nc (ns:=k.map rp) (by rw[aai];exact hl);have h3:k.length<=100000:=by lia
 generalize (k.map rp).map D.str=Z at e h2;cases b<;>simp[Oa,kD,dQ,vp,RK,h3] at e ⊢<;>simp[e,h2,nC,uY]
def zA {b:Bool}(h:∀k∈r,LL k/\k.length<64):bU [] cj Oa (r.map (vp b)) S []=some ((r.map (uY rp)).map nC,S):=by
 have e:=lV (cap:=[]) (g:=Oa) (S:=S) (ts:=[]) rfl Ws (r.map (vp b)) [] (fun d hd=>by
  obtain⟨k,hk,rfl⟩:=aaD.mp hd;have:=RZ (b:=b) (h k hk).1 (h k hk).2;show Oa [AAA (vp b k)]=_;rw[this];have:Ws (vp b k)=nC (uY rp k):=by
   have em:(k.map cH).map (fun e=>(toPy e).shown)=k.map rp:=by rw[abE];rfl
   cases b<;>(show nC (nA ((k.map cH).map _))=_;rw[em];rfl)
  rw[this];rfl)
 rw[acs] at e;rw[e]
 congr 2
 rw[abE,abE];refine acF fun k hk=>?_;have em:(k.map cH).map (fun e=>(toPy e).shown)=k.map rp:=by rw[abE];rfl
 cases b<;>(show nC (nA ((k.map cH).map _))=_;rw[em];rfl)
def Bq:FM:=bL 1 (qG Wb)
def R5:∀us r,Bq us=some r->bL 1 (qG Wb) us=some r:=fun _ _ h=>h
def oF (r:List Bu):List (BBB):=kR (r.map (uY rp))
structure Gs (x:List Bu):Prop where
 g:∀l∈x,LL l/\l.length<40
 l:x.length<40
def Gs.uO {x:List Bu}(h:Gs x):∀k∈uO x,LL k/\k.length<64:=fun k hk=>by
 obtain⟨l,hl,_,rfl⟩:=Eg hk;exact⟨fun p hp=>(h.g l hl).1 p (pI.mp hp),by have:=(h.g l hl).2;have:=AZ l;lia⟩
def Lq (h:Gs x):Bq [.t (cu x)]=some (.m (.lst ((oF (uO x)).map nC)),[]):=by
 have hl:=h.l;have tl:=N9 x;have e1:=RX (x:=x) (fun l hl=>⟨(h.g l hl).1.gb,by have:=(h.g l hl).2;lia⟩) (by lia);have e2:=zA (b:=true) (S:=[AAA (cu x)]) h.uO;have e2:bU [] cj Oa ((uO x).map fT) [AAA (cu x)] []=_:=e2;have e3:=E9 (ks:=(uO x).map (uY rp)) (by rw[aai];lia);have h3:(uO x).length<=100000:=by lia
 unfold Oa at e2;generalize ((uO x).map (uY rp)).map nC=Z at e2 e3;simp[Bq,bL,qG,kD,dQ,e1,h3,e2,e3,oF,aT]
def Ob:FM:=bL 4 (gK Bq)
def R6:∀us r,Ob us=some r->bL 4 (gK Bq) us=some r:=fun _ _ h=>h
def is_tup (ds:List D):uH ["tuple"] (.tup ds)=some true:=rfl
def Wt (b:Bool):uH ["bool"] (.bl b)=some true:=rfl
def F7 {q:L2.GT}{ds:List D}(h:∀d∈ds,q [AAA d]=some (false,[AAA d])):bU [] q (eC (.int 1)) ds S []=some ([],S):=by
 have e:=vh (cap:=[]) (q:=q) (g:=eC (.int 1)) (S:=S) (ts:=[]) rfl (fun _=>false) (fun d=>d) ds [] h (fun _ _ h=>by cases h);rw[e];simp
def Wu {s2:Option U}(hl:y.length<1000):XQ Bq [AAA (cu y),AAA (cu x),s2,s3]=some (.nx [AAA (cu y),AAA (cu x),s2,s3]):=by
 have e:=F7 (q:=k8 (qB (EM ["tuple"] (eF (aB 0))))) (ds:=y.map dg) (S:=[AAA (cu y),AAA (cu x),s2,s3]) (fun d hd=>by
  obtain⟨k,_,rfl⟩:=aaD.mp hd;simp[EM,is_tup,dg])
 have h1:y.length<=100000:=by lia
 have z0:xZ [.lst [],.lst []]=AAA (.bl false):=rfl;unfold cu at e ⊢;simp[XQ,EM,is_tup,kD,dQ,h1] at e ⊢;simp[e,z0]
def Oc {x:D}{y:D}(hl:k.length<1000):gw Bq [AAA y,AAA x,AAA (dg k),s3]=some (.nx [AAA y,AAA x,AAA (dg k),s3]):=by
 have e:=F7 (q:=EI (k8 (qB (EM ["tuple"] (eF (aB 0))))) (EI (qB (eF (eP xZ (ah (rJ 0) (ah (eC (.int 2)) aF))))) (k8 (qB (EM ["bool"] (eG 0 (eC (.int 1)))))))) (ds:=k.map cH) (S:=[AAA y,AAA x,AAA (dg k),s3]) (fun d hd=>by
  obtain⟨p,_,rfl⟩:=aaD.mp hd;have a1:dX [p.1,D.bl p.2] 1=some (.bl p.2):=rfl;have z2:xZ [.int 2,.int 2]=AAA (.bl false):=rfl;simp[EM,is_tup,Wt,cH,z2,a1])
 have h1:k.length<=100000:=by lia
 have z0:xZ [.lst [],.lst []]=AAA (.bl false):=rfl;unfold dg at e ⊢;simp[gw,kD,dQ,h1] at e ⊢;simp[e,z0]
theorem F8 {x y:D}{s3:Option U}:∀(r:List Bu) (s2:Option U),fS s2=false->(∀k∈r,k.length<1000)->∃y2,loop (bName 2) (gw Bq) (r.map dg) [AAA y,AAA x,s2,s3]=some (.nx [AAA y,AAA x,y2,s3])/\fS y2=false
 |[],s2,h2,_=>⟨s2,rfl,h2⟩
 |k::r,s2,h2,hr=>by
  have tn:=Oc (x:=x) (y:=y) (s3:=s3) (hr k aak);obtain⟨y2,e,i2⟩:=F8 (x:=x) (y:=y) (s3:=s3) r (AAA (dg k)) rfl fun q hq=>hr q (aag _ hq);refine⟨y2,?_,i2⟩;have eb:bName 2 (dg k) [AAA y,AAA x,s2,s3]=some [AAA y,AAA x,AAA (dg k),s3]:=by simp[-bN,bD,h2]
  show((bName 2 (dg k) _).bind _)=_;rw[eb,aah,tn,aah];exact e
theorem Lr:∀(a b:BBB),jm (a.map D.str) (b.map D.str)=decide (a=b)
 |[],[]=>rfl
 |[],_::_=>rfl
 |_::_,[]=>rfl
 |x::a,y::b=>by
  show((x == y) && jm (a.map D.str) (b.map D.str))=_;rw[Lr a b];by_cases h:x=y
  ·subst h;simp
  ·simp[h]
theorem F9:∀(a b:List (BBB)),jm (a.map nC) (b.map nC)=decide (a=b)
 |[],[]=>rfl
 |[],_::_=>rfl
 |_::_,[]=>rfl
 |x::a,y::b=>by
  show(jm (x.map D.str) (y.map D.str) && jm (a.map nC) (b.map nC))=_;rw[F9 a b,Lr];by_cases h:x=y
  ·subst h;simp
  ·simp[h]
def Ls (a:List (BBB)):bA (.lst (a.map nC))<=40:=by
 have t:∀z:BBB,bf (z.map D.str)=0:=fun z=>by
  induction z with
  |nil=>rfl
  |cons c z ih=>show max 0 (bf (z.map D.str))=0;rw[ih];rfl
 have r:bf (a.map nC)<=1:=by
  induction a with
  |nil=>exact aaM _
  |cons z a ih=>show max (bf (z.map D.str)+1) (bf (a.map nC))<=1;rw[t];lia
 show bf _+1<=40;lia
def key_eq (a b:List (BBB)):xR [.lst (a.map nC),.lst (b.map nC)]=AAA (.bl (decide (a=b))):=by
 show(if bA (.lst (a.map nC))<=40 then some (U.t (.bl (jm (a.map nC) (b.map nC)))) else none)=_;rw[if_pos (Ls a),F9]
def Pc (hx:Gs x) (hy:Gs y):Ob [.t (cu y),.t (cu x)]=some (.t (.bl (decide (oF y=oF (uO x)))),[]):=by
 have ly:=hy.l;have s0:=Wu (x:=x) (y:=y) (s2:=none) (s3:=none) (by lia);obtain⟨y2,e1,i2⟩:=F8 (x:=cu x) (y:=cu y) (s3:=none) y none rfl fun k hk=>by have:=(hy.g k hk).2;lia
 have s1:XR Bq [AAA (cu y),AAA (cu x),none,none]=some (.nx [AAA (cu y),AAA (cu x),y2,none]):=by
  rw[<-e1];simp[XR,dQ,cu]
 have e2:=zA (b:=false) (r:=y) (S:=[AAA (cu y),AAA (cu x),y2,none]) fun k hk=>⟨(hy.g k hk).1,by have:=(hy.g k hk).2;lia⟩
 have e2:bU [] cj Oa (y.map dg) [AAA (cu y),AAA (cu x),y2,none] []=_:=e2;have h1:y.length<=100000:=by lia
 have s2:XS Bq [AAA (cu y),AAA (cu x),y2,none]=some (.nx [AAA (cu y),AAA (cu x),y2,AAB ((y.map (uY rp)).map nC)]):=by
  unfold Oa at e2;generalize (y.map (uY rp)).map nC=Z at e2 ⊢;unfold cu at e2 ⊢;simp[-bN,bD,XS,kD,dQ,h1] at e2 ⊢;simp[e2]
 have e3:=E9 (ks:=y.map (uY rp)) (by rw[aai];lia);have e4:=Lq hx;have e5:=key_eq (oF y) (oF (uO x));show((gK Bq [AAA (cu y),AAA (cu x),none,none]).bind _)=_;rw[it_eq,cV s0,cV s1,cV s2];generalize (y.map (uY rp)).map nC=Z at e3;have e3:lu false [.lst Z]=AAB ((oF y).map nC):=e3;generalize (oF y).map nC=Y at e3 e5;generalize (oF (uO x)).map nC=W at e4 e5;simp[it3,e3,e4,e5,aT]
def R7 (h:k∈pP x):∃l∈x,(∀p,p∈k↔p∈l)/\k.length<=l.length:=by
 have nd:=(uh x).nd k h;obtain⟨m,hm,rfl⟩:=aaD.mp h;obtain⟨l,hl,rfl,_⟩:=(CL (bs:=[]) (x:=x)).from_ m hm;have s:=oE fun p hp=>fL (bs:=[]) x hl hp;obtain⟨c,pm⟩:=xB nd fun p hp=>(s p).mp hp;have:=pm.length_eq;rw[aaw] at this;exact⟨l,hl,s,by lia⟩
def Gs.pP {x:List Bu}(h:Gs x):Gs (pP x):=by
 refine⟨fun k hk=>?_,?_⟩
 ·obtain⟨l,hl,s,n⟩:=R7 hk;have:=(h.g l hl).2;exact⟨fun p hp=>(h.g l hl).1 p ((s p).mp hp),by lia⟩
 ·have:=Ln [] x;have:=h.l;show((pO [] x).map _).length<40;rw[aai];lia
def Gs.bc (h:Gs x):∀l∈x,∀p∈l,Bc p.1:=fun l hl p hp=>((h.g l hl).1 p hp).1
def Gs.tot {x:List Bu}(h:Gs x):tot x<=40*x.length:=RO fun l hl=>⟨(h.g l hl).1,by have:=(h.g l hl).2;lia⟩
def Gs.gt (h:Gs x):∀k∈x,∀p∈k,Wn p:=fun k hk p hp=>(h.g k hk).1 p hp
def Gs.XT (h:Gs x):∀k∈T6.uO x,∀p∈k,Wn p:=fun k hk p hp=>(h.uO k hk).1 p hp
def Wv (h:Gs x):decide (oF (T6.pP x)=oF (T6.uO x))=true:=(Ms.key Ec (uh x) (Ba x) h.pP.gt h.XT).trans (CP x)
def Ww (h:Gs x):decide (oF (T6.pP (T6.pP x))=oF (T6.uO x))=true:=(Ms.key Ec (uh (T6.pP x)) (Ba x) h.pP.pP.gt h.XT).trans ((CQ _ _).trans (uh x).sh)
def due (hx:Gs x) (hy:Gs y):decide (oF (T6.uO x)=oF (T6.uO y))=zu x y:=Ms.key Ec (Ba x) (Ba y) hx.XT hy.XT
def Od (h:Tr x r):uW r y=uW x y:=by
 rw[abO,fJ,fJ];constructor
 ·intro q l hl hv;obtain⟨k,hk,e⟩:=h.all l hl hv;obtain⟨c,hc,e2⟩:=q k hk (h.from_ k hk).1;exact⟨c,hc,dj e2 e⟩
 ·intro q k hk hv;obtain⟨_,l,hl,e1,e2⟩:=h.from_ k hk;have hvl:cy l=false:=by
   cases e:cy l with
   |false=>rfl
   |true=>rw[oA e2 e] at hv;cases hv
  obtain⟨c,hc,e3⟩:=q l hl hvl;exact⟨c,hc,dj e3 e2⟩
def Lu (h:Tr x r):uW y r=uW y x:=by
 rw[abO,fJ,fJ];constructor
 ·intro q l hl hv;obtain⟨k,hk,e⟩:=q l hl hv;obtain⟨_,c,hc,_,e2⟩:=h.from_ k hk;exact⟨c,hc,dj e2 e⟩
 ·intro q l hl hv;obtain⟨c,hc,e⟩:=q l hl hv;have hvc:cy c=false:=by
   cases e2:cy c with
   |false=>rfl
   |true=>rw[oA e e2] at hv;cases hv
  obtain⟨k,hk,e2⟩:=h.all c hc hvc;exact⟨k,hk,dj e2 e⟩
def CV (x y:List Bu):zu (T6.pP x) y=zu x y:=by
 unfold zu;rw[Od (uh x).tr,Lu (uh x).tr]
def XU (ak:FM):GS:=
 (cD 1 (eP g7 (ah (eF (fR [0] (iY (eF (G8 (eF (aB 1)) (eF (eP GL (ah (eC (.int 1)) aF)))))) cj (eF (eP fG (ah (eF (G8 (eF (aB 0)) (eF (eP GL (ah (eC (.int 1)) aF))))) (ah (eF (G0 (eF (aB 0)) none (some (eF (br ak (cI (aB 1) (bw (eC (.int 2)) bM))))))) aF)))))) aF)))
def XW (ak:FM):GS:=
 (cD 2 (br ak (cI (aB 0) (bw (eC (.int 5)) bM))))
def R8 (ak:FM):GS:=
 (qw (EI (qB (eF (eP xR (ah (eF (aB 1)) (ah (eF (eP dB aF)) aF))))) (qB (eF (eP xR (ah (eF (aB 2)) (ah (eC (.int 0)) aF)))))) (dI (aB 1)) gB)
def XX (ak:FM):GS:=
 (cD 3 (eT (eG 1 (eF (br ak (cI (aB 0) (bw (rJ 1) bM)))))))
def XY (ak:FM):GS:=
 (cD 4 (eP dB (ah (eC (.str "next")) (ah (eF (eP dB (ah (eC (.str "yes")) aF))) aF))))
def Ti (ak:FM):GS:=
 (qw (qB (eF (eP xR (ah (eF (aB 2)) (ah (eC (.int 1)) aF))))) (dI (eP fG (ah (eF (aB 1)) (ah (eF (eP dB (ah (eF (eP fG (ah (eF (eP dB (ah (eF (eP dB (ah (eF (aB 4)) (ah (eC (.bl true)) aF)))) aF))) (ah (eF (aB 3)) aF)))) (ah (eF (eP dB (ah (eF (eP dB (ah (eF (aB 4)) (ah (eC (.bl true)) aF)))) (ah (eF (eP dB (ah (eF (aB 4)) (ah (eC (.bl false)) aF)))) aF)))) aF)))) aF)))) gB)
def Tj (ak:FM):GS:=
 (qw (qB (eF (eP xR (ah (eF (aB 2)) (ah (eC (.int 2)) aF))))) (dI (eP fG (ah (eF (eP dB (ah (eF (eP fG (ah (eF (aB 3)) (ah (eF (G0 (eF (aB 3)) none (some (eC (.int 2))))) aF)))) aF))) (ah (eF (aB 1)) aF)))) gB)
def To (ak:FM):GS:=
 (qw (qB (eF (eP xR (ah (eF (aB 3)) (ah (eF (eP dB aF)) aF))))) (dI (G0 (eF (aB 1)) (some (eC (.int 1))) none)) gB)
def XZ (ak:FM):GS:=
 (cD 5 (br ak (cI (aB 0) (bw (rJ 3) bM))))
def Wx (ak:FM):GS:=
 (cD 6 (WW (qB (eF (eP xR (ah (eF (aB 2)) (ah (eC (.int 3)) aF))))) (eP dB (ah (eF (eP DA (ah (eG 3 (eF (aB 5))) (ah (eC (.int 0)) aF)))) (ah (eQ (k8 (qB (eF (eP DA (ah (eG 3 (eF (aB 5))) (ah (eC (.int 1)) aF))))))) aF))) (eP dB (ah (eF (aB 4)) (ah (eC (.bl true)) aF)))))
def Oe (ak:FM):GS:=
 (dI (eP fG (ah (eF (G0 (eF (aB 1)) (some (eC (.int 1))) none)) (ah (eF (eP dB (ah (eF (eP fG (ah (eF (eP fG (ah (eF (G0 (eF (aB 3)) none (some (eF (aB 5))))) (ah (eF (eP dB (ah (eF (aB 6)) aF))) aF)))) (ah (eF (G0 (eF (aB 3)) (some (eF (eP fG (ah (eF (aB 5)) (ah (eC (.int 1)) aF))))) none)) aF)))) aF))) aF))))
def gM (ak:FM):GS:=aU (XU ak) (aU (XW ak) (aU (R8 ak) (aU (XX ak) (aU (XY ak) (aU (Ti ak) (aU (Tj ak) (aU (To ak) (aU (XZ ak) (aU (Wx ak) (Oe ak))))))))))
def CW (ak:FM):gM ak=aU (XU ak) (aU (XW ak) (aU (R8 ak) (aU (XX ak) (aU (XY ak) (aU (Ti ak) (aU (Tj ak) (aU (To ak) (aU (XZ ak) (aU (Wx ak) (Oe ak)))))))))):=rfl
def Wy {v:Int}(h0:0<=v) (h1:v<x.length):∃l∈x,dX (x.map dg) v=some (dg l):=by
 have h:v.toNat<x.length:=by lia
 refine⟨x[v.toNat],ab3 h,?_⟩;have:=zX (xs:=x.map dg) (j:=v.toNat) (v:=dg x[v.toNat]) (by rw[aaI,aal h];rfl)
 rwa [ad5 h0] at this
def Wz {l:Bu}{v:Int}(h0:0<=v) (h1:v<l.length):∃p∈l,dX (l.map cH) v=some (cH p):=by
 have h:v.toNat<l.length:=by lia
 refine⟨l[v.toNat],ab3 h,?_⟩;have:=zX (xs:=l.map cH) (j:=v.toNat) (v:=cH l[v.toNat]) (by rw[aaI,aal h];rfl)
 rwa [ad5 h0] at this
section
variable {f:FM}{T T1:MO}{w v:Int}{x:List Bu}{l:Bu}{x2 x3 x4 x5 x6:Option U}
abbrev oS (T:MO) (x:List Bu) (x2 x3 x4 x5 x6:Option U):SS:=[some (.b T),AAA (cu x),x2,x3,x4,x5,x6]
def Ou (y:List Bu) (T:MO) (r:Option Out):Prop:=∃d rest,r=some (.rt (.t (cu y)) (some (.b T)::AAA d::rest))
def Ou.seq {g h:GS}(k:Ou y T (g S)):Ou y T (aU g h S):=by
 obtain⟨d,r,e⟩:=k;exact⟨d,r,aat e⟩
def Tp (f:FM):GD:=eF (eP fG (ah (eF (G8 (eF (aB 0)) (eF (eP GL (ah (eC (.int 1)) aF))))) (ah (eF (G0 (eF (aB 0)) none (some (eF (br f (cI (aB 1) (bw (eC (.int 2)) bM))))))) aF)))
def R9 {s1:Option U}(hl:l.length<=1000) (e:f [.b T,.t (.int 2)]=some (.t (.int v),[T1])):∃l':Bu,(∀p∈l',p∈l)/\l'.length<=2*l.length/\bU [0] cj (Tp f) [dg l] [some (.b T),s1,x2,x3,x4,x5,x6] acc=some (acc++[dg l'],[some (.b T1),s1,x2,x3,x4,x5,x6]):=by
 obtain⟨l',e1,e2,e3⟩:=A5 l none (some v);refine⟨l.reverse++l',fun p hp=>?_,by rw[aaw,abT];lia,?_⟩
 ·rcases aav.mp hp with q|q
  ·exact adN.mp q
  ·exact e2 p q
 ·have h1:l.length+l'.length<=100000:=by lia
  simp[bU,d8,sV,cj,Tp,dg,e,e1,sZ,fG,h1,aT,List.map_reverse]
def o1 (h2:fS x2=false) (e:f [.b T,.t (.int 5)]=some (.t (.int w),[T1])):XW f (oS T x x2 x3 x4 x5 x6)=some (.nx (oS T1 x (AAC w) x3 x4 x5 x6)):=by simp[-bN,bD,XW,h2,e]
def Lv (hx:HZ x):bA (cu x)<=40:=by
 have:=NN hx;show bf (x.map dg)+1<=40;lia
def Se (hl:AY l):bA (dg l)<=40:=by
 have:=pH hl;show bf (l.map cH)+1<=40;lia
def Lw (x:List Bu):gQ (cu x) (.tup [])=x.isEmpty:=by cases x<;>rfl
def Lx (l:Bu):gQ (dg l) (.tup [])=l.isEmpty:=by cases l<;>rfl
def Sg (hx:HZ x) (h:x=[]\/w=0):Ou x T (R8 f (oS T x (AAC w) x3 x4 x5 x6)):=by
 have e:=Lw x;have d:=Lv hx;refine⟨cu x,[AAC w,x3,x4,x5,x6],?_⟩;rcases h with rfl|rfl
 ·simp[R8,e,d]
 ·cases hx:x.isEmpty<;>rw[hx] at e<;>simp[R8,e,d]
def WA (hx:HZ x) (h:x≠[]) (hw:¬w=0):R8 f (oS T x (AAC w) x3 x4 x5 x6)=some (.nx (oS T x (AAC w) x3 x4 x5 x6)):=by
 have e:=Lw x;have d:=Lv hx;have:x.isEmpty=false:=by cases x with|nil=>exact absurd rfl h|cons _ _=>rfl
 rw[this] at e;simp[R8,e,d,hw]
def o3 (h3:fS x3=false) (e:f [.b T,.t (.int x.length)]=some (.t (.int v),[T1])) (ha:dX (x.map dg) v=some (dg l)):XX f (oS T x x2 x3 x4 x5 x6)=some (.nx (oS T1 x x2 (AAA (dg l)) x4 x5 x6)):=by
 unfold oS cu;simp[-bN,bD,XX,h3,e,ha]
def o4 (h4:fS x4=false):XY f (oS T x x2 x3 x4 x5 x6)=some (.nx (oS T x x2 x3 (AAA NX) x5 x6)):=by simp[-bN,bD,XY,h4,NX]
def Sh (hx:x.length<=1000) (hl:l.length<=1000):Ou (x++[(NX,true)::l,[(NX,true),(NX,false)]]) T (Ti f (oS T x (AAC 1) (AAA (dg l)) (AAA NX) x5 x6)):=by
 have h1:1+l.length<=100000:=by lia
 have h2:x.length+2<=100000:=by lia
 have ez:(x++[(NX,true)::l,[(NX,true),(NX,false)]]).map dg=x.map dg++[.tup ([.tup [NX,.bl true]]++l.map cH),.tup [.tup [NX,.bl true],.tup [NX,.bl false]]]:=by rw[abV];rfl
 unfold Ou oS cu;rw[ez];exact⟨.tup (x.map dg),[AAC 1,AAA (dg l),AAA NX,x5,x6],by simp[Ti,dg,fG,h1,h2]⟩
def WB (hw:¬w=1):Ti f (oS T x (AAC w) x3 x4 x5 x6)=some (.nx (oS T x (AAC w) x3 x4 x5 x6)):=by simp[Ti,hw]
def Si (hx:x.length<=1000) (hl:l.length<=1000):∃l':Bu,(∀p∈l',p∈l)/\l'.length<=l.length/\Ou ((l++l')::x) T (Tj f (oS T x (AAC 2) (AAA (dg l)) x4 x5 x6)):=by
 obtain⟨l',e1,e2,e3⟩:=A5 l none (some 2);refine⟨l',e2,e3,?_⟩;have h1:l.length+l'.length<=100000:=by lia
 have h2:1+x.length<=100000:=by lia
 have ez:((l++l')::x).map dg=[.tup (l.map cH++l'.map cH)]++x.map dg:=by rw[abj,dg,abV];rfl
 unfold Ou oS cu;rw[ez];exact⟨.tup (x.map dg),[AAC 2,AAA (dg l),x4,x5,x6],by simp[Tj,dg,fG,e1,h1,h2]⟩
def WC (hw:¬w=2):Tj f (oS T x (AAC w) x3 x4 x5 x6)=some (.nx (oS T x (AAC w) x3 x4 x5 x6)):=by simp[Tj,hw]
def WD (x:List Bu):L2.cutD (x.map dg) (some 1) none=(x.drop 1).map dg:=by rw[aej];exact Lk (x.map dg) 1
def Sj (h:l=[]):Ou (x.drop 1) T (To f (oS T x x2 (AAA (dg l)) x4 x5 x6)):=by
 subst h;have e:=Lx [];have d:bA (dg [])<=40:=by decide
 have c:=WD x;unfold Ou oS cu;refine⟨.tup (x.map dg),[x2,AAA (dg []),x4,x5,x6],?_⟩;generalize (x.drop 1).map dg=Z at c ⊢;simp[To,e,d,c]
def WE (hl:AY l) (h:l≠[]):To f (oS T x x2 (AAA (dg l)) x4 x5 x6)=some (.nx (oS T x x2 (AAA (dg l)) x4 x5 x6)):=by
 have e:=Lx l;have d:=Se hl;have:l.isEmpty=false:=by cases l with|nil=>exact absurd rfl h|cons _ _=>rfl
 rw[this] at e;simp[To,e,d]
def o8 (h5:fS x5=false) (e:f [.b T,.t (.int l.length)]=some (.t (.int v),[T1])):XZ f (oS T x x2 (AAA (dg l)) x4 x5 x6)=some (.nx (oS T1 x x2 (AAA (dg l)) x4 (AAC v) x6)):=by
 unfold dg;simp[-bN,bD,XZ,h5,e]
def o9 {p:Tg}(h6:fS x6=false) (ha:dX (l.map cH) v=some (cH p)):∃q:Tg,(q=(p.1,!p.2)\/q=(NX,true))/\Wx f (oS T x (AAC w) (AAA (dg l)) (AAA NX) (AAC v) x6)=some (.nx (oS T x (AAC w) (AAA (dg l)) (AAA NX) (AAC v) (AAA (cH q)))):=by
 have a0:dX [p.1,D.bl p.2] 0=some p.1:=rfl;have a1:dX [p.1,D.bl p.2] 1=some (.bl p.2):=rfl;unfold dg;by_cases hw:w=3
 ·subst hw;exact⟨_,.inl rfl,by simp[-bN,bD,Wx,h6,ha,cH,DA,a0,a1]⟩
 ·exact⟨_,.inr rfl,by simp[-bN,bD,Wx,h6,hw,cH]⟩
def o10 {q:Tg}(hx:x.length<=1000) (hl:l.length<=1000):∃l1 l2:Bu,(∀p∈l1,p∈l)/\(∀p∈l2,p∈l)/\l1.length<=l.length/\l2.length<=l.length/\Ou (x.drop 1++[l1++q::l2]) T (Oe f (oS T x x2 (AAA (dg l)) x4 (AAC v) (AAA (cH q)))):=by
 obtain⟨l1,e1,m1,n1⟩:=A5 l none (some v);obtain⟨l2,e2,m2,n2⟩:=A5 l (some (v+1)) none;refine⟨l1,l2,m1,m2,n1,n2,?_⟩;have c:=WD x;have hd:(x.drop 1).length<=1000:=by rw[abr];lia
 have h1:l1.length+1<=100000:=by lia
 have h2:l1.length+1+l2.length<=100000:=by lia
 have h3:(x.drop 1).length+1<=100000:=by lia
 have h3':((x.drop 1).map dg).length+1<=100000:=by rw[aai];exact h3
 have ez:(x.drop 1++[l1++q::l2]).map dg=(x.drop 1).map dg++[.tup (l1.map cH++[cH q]++l2.map cH)]:=by
  rw[abV];show _++[dg _]=_;rw[dg,abV,abj];simp
 unfold Ou oS cu;rw[ez];refine⟨.tup (x.map dg),[x2,AAA (dg l),x4,AAC v,AAA (cH q)],?_⟩;generalize (x.drop 1).map dg=Z at c h3' ⊢;simp[Oe,dg,fG,c,e1,e2,h1,h2,h3']
end
def LM:FM:=bL 7 (gM bC)
def Sk:∀us r,LM us=some r->bL 7 (gM bC) us=some r:=fun _ _ h=>h
def xC {T':MO}(h:Ou y T' (gM bC (oS T x none none none none none))):LM [.b T,.t (cu x)]=some (.t (cu y),[T']):=by
 obtain⟨d,r,e⟩:=h;show((gM bC (oS T x none none none none none)).bind _)=_;rw[e];simp[aT]
def Of (hT:Fd n T) (hn:n+x.length<900000) (hx:GR 8 x):
  ∃ys T',bU [0] cj (Tp bC) (x.reverse.map dg) (oS T x none none none none none) []=some (List.map dg ys,oS T' x none none none none none)/\GR 16 ys/\ys.length=x.length/\Fd (n+x.length) T':=by
 obtain⟨acc,S',e,T',ys,rfl,rfl,hg,hl,hf⟩:=Ct (cap:=[0]) (g:=Tp bC) (x.reverse.map dg)
  (fun j acc S=>∃(T':MO) (ys:List Bu),S=oS T' x none none none none none/\acc=ys.map dg/\GR 16 ys/\ys.length=j/\Fd (n+j) T')
  (oS T x none none none none none) ⟨T,[],rfl,rfl,fun l h=>(by cases h),rfl,hT⟩ (by
   rintro j d acc S hd ⟨T1,ys,rfl,rfl,hg,hl,hf⟩;rw[aaI] at hd;obtain⟨l,hz,rfl⟩:=au hd;have hj:j<x.length:=by have:=(aau.mp hz).1;rwa [abT] at this
   obtain⟨v,T2,e1,v0,v1,f2⟩:=bO (m:=2) hf (by lia) (by decide) (by decide);obtain⟨q1,q2⟩:=hx l (adN.mp (aaW hz));obtain⟨l',m1,m2,e2⟩:=R9 (l:=l) (acc:=ys.map dg) (s1:=AAA (cu x)) (x2:=none) (x3:=none) (x4:=none) (x5:=none) (x6:=none) (by lia) e1;refine⟨dg l',_,e2,T2,ys++[l'],rfl,by rw[abV];rfl,fun k hk=>?_,by rw[aaw,ab4,hl],f2⟩;rcases aav.mp hk with q|q
   ·exact hg k q
   ·rw[aam.mp q];exact⟨fun p hp=>q1 p (m1 p hp),by lia⟩)
 rw[aai,abT] at hl hf;exact⟨ys,T',e,hg,hl,hf⟩
def o0 {f:FM}{T1:MO}{ys:List Bu}(hx:x.length<=1000) (hy:ys.length<=1000) (e:bU [0] cj (Tp f) (x.reverse.map dg) (oS T x none none none none none) []=some (ys.map dg,oS T1 x none none none none none)):XU f (oS T x none none none none none)=some (.nx (oS T1 ys none none none none none)):=by
 have h1:x.length<=100000:=by lia
 have h2:ys.length<=100000:=by lia
 have h3:ys.length<100000:=by lia
 unfold Tp oS cu at e;unfold oS cu;rw[List.map_reverse] at e;simp[-bN,bD,XU,dQ,sZ,h1,e,g7,h2,h3]
def Pd:Gd NX:=O8 (n:=2) (.one (by decide) (.leaf (.inl rfl))) (by lia)
def xD (h:GR N x) (hN:N<=39) (hl:x.length<=39):Gs x:=⟨fun l hl=>⟨(h l hl).1,by have:=(h l hl).2;lia⟩,by lia⟩
def Sl (h:GR N x) (hN:N<=39):HZ x:=fun l hl=>⟨(h l hl).1.gb,by have:=(h l hl).2;lia⟩
def Og {l:Bu}(h:GR N x) (hl:LL l) (n:l.length<=N):GR N (l::x):=fun k hk=>by
 rcases aao.mp hk with rfl|q
 ·exact⟨hl,n⟩
 ·exact h k q
def Pe (hT:Fd n T) (hn:n<500000) (hx:GR 8 x) (lx:x.length<=5):∃y T',LM [.b T,.t (cu x)]=some (.t (cu y),[T'])/\Gs y/\Fd (n+20) T':=by
 obtain⟨ys,T1,e0,gy,ly,h1⟩:=Of hT (by lia) hx;obtain⟨w,T2,e1,w0,w1,h2⟩:=bO (m:=5) h1 (by lia) (by decide) (by decide);have s0:=o0 (by lia) (by lia) e0;have s1:=o1 (f:=bC) (x:=ys) (x2:=none) (x3:=none) (x4:=none) (x5:=none) (x6:=none) rfl e1;have gs:=Sl gy (by lia);by_cases c:ys=[]\/w=0
 ·refine⟨ys,T2,xC ?_,xD gy (by lia) (by lia),h2.mono (by lia)⟩;rw[CW,cV s0,cV s1];exact(Sg gs c).seq
 ·have c1:ys≠[]:=fun e=>c (.inl e);have c2:¬w=0:=fun e=>c (.inr e);have s2:=WA (f:=bC) (T:=T2) (x3:=none) (x4:=none) (x5:=none) (x6:=none) gs c1 c2;have pos:0<ys.length:=List.length_pos_iff.mpr c1;obtain⟨v,T3,e3,v0,v1,h3⟩:=bO (m:=(ys.length:Int)) h2 (by lia) (by lia) (by lia);obtain⟨l,hl,a1⟩:=Wy v0 v1;obtain⟨g1,g2⟩:=gy l hl;have s3:=o3 (f:=bC) (x2:=AAC w) (x3:=none) (x4:=none) (x5:=none) (x6:=none) rfl e3 a1;have s4:=o4 (f:=bC) (T:=T3) (x:=ys) (x2:=AAC w) (x3:=AAA (dg l)) (x4:=none) (x5:=none) (x6:=none) rfl;have hd:GR 35 (ys.drop 1):=fun k hk=>by have:=gy k (adW hk);exact⟨this.1,by lia⟩
  have ld:(ys.drop 1).length<=5:=by rw[abr];lia
  by_cases c5:w=1
  ·subst c5;refine⟨ys++[(NX,true)::l,[(NX,true),(NX,false)]],T3,xC ?_,xD (N:=35) (fun k hk=>?_) (by lia) (by rw[aaw];show ys.length+2<=39;lia),h3.mono (by lia)⟩
   ·rw[CW,cV s0,cV s1,cV s2,cV s3,cV s4];exact(Sh (x:=ys) (l:=l) (by lia) (by lia)).seq
   ·rcases aav.mp hk with q|q
    ·exact⟨(gy k q).1,by have:=(gy k q).2;lia⟩
    ·rcases aao.mp q with rfl|q
     ·refine⟨fun p hp=>?_,by rw[aaG];lia⟩;rcases aao.mp hp with rfl|hp
      ·exact Pd
      ·exact g1 p hp
     ·exact⟨(O9 k q).1,by have:=(O9 k q).2;lia⟩
  ·have s5:=WB (f:=bC) (T:=T3) (x:=ys) (x3:=AAA (dg l)) (x4:=AAA NX) (x5:=none) (x6:=none) c5;by_cases c6:w=2
   ·subst c6;obtain⟨l',m1,m2,o⟩:=Si (f:=bC) (T:=T3) (x:=ys) (l:=l) (x4:=AAA NX) (x5:=none) (x6:=none) (by lia) (by lia);refine⟨(l++l')::ys,T3,xC ?_,xD (N:=35) (Og (fun k hk=>⟨(gy k hk).1,by have:=(gy k hk).2;lia⟩) (fun p hp=>?_) (by rw[aaw];lia)) (by lia) (by rw[aaG];lia),h3.mono (by lia)⟩
    ·rw[CW,cV s0,cV s1,cV s2,cV s3,cV s4,cV s5];exact o.seq
    ·rcases aav.mp hp with q|q
     ·exact g1 p q
     ·exact g1 p (m1 p q)
   ·have s6:=WC (f:=bC) (T:=T3) (x:=ys) (x3:=AAA (dg l)) (x4:=AAA NX) (x5:=none) (x6:=none) c6;by_cases c7:l=[]
    ·refine⟨ys.drop 1,T3,xC ?_,xD hd (by lia) (by lia),h3.mono (by lia)⟩;rw[CW,cV s0,cV s1,cV s2,cV s3,cV s4,cV s5,cV s6];exact(Sj c7).seq
    ·have s7:=WE (f:=bC) (T:=T3) (x:=ys) (x2:=AAC w) (x4:=AAA NX) (x5:=none) (x6:=none) g1.gb c7;have lp:0<l.length:=List.length_pos_iff.mpr c7;obtain⟨u,T4,e4,u0,u1,h4⟩:=bO (m:=(l.length:Int)) h3 (by lia) (by lia) (by lia);obtain⟨p,hp,a2⟩:=Wz u0 u1;have s8:=o8 (f:=bC) (x:=ys) (x2:=AAC w) (x4:=AAA NX) (x5:=none) (x6:=none) rfl e4;obtain⟨q,hq,s9⟩:=o9 (f:=bC) (T:=T4) (x:=ys) (w:=w) (x6:=none) rfl a2;obtain⟨l1,l2,m1,m2,n1,n2,o⟩:=o10 (f:=bC) (T:=T4) (x:=ys) (l:=l) (v:=u) (q:=q) (x2:=AAC w) (x4:=AAA NX) (by lia) (by lia);have gq:Gd q.1:=by
      rcases hq with rfl|rfl
      ·exact g1 p hp
      ·exact Pd
     refine⟨ys.drop 1++[l1++q::l2],T4,xC ?_,xD (N:=35) (fun k hk=>?_) (by lia) (by rw[aaw];show(ys.drop 1).length+1<=39;lia),h4.mono (by lia)⟩
     ·rw[CW,cV s0,cV s1,cV s2,cV s3,cV s4,cV s5,cV s6,cV s7,cV s8,cV s9];exact o
     ·rcases aav.mp hk with z|z
      ·exact hd k z
      ·rw[aam.mp z];refine⟨fun t ht=>?_,by rw[aaw,aaG];lia⟩;rcases aav.mp ht with z|z
       ·exact g1 t (m1 t z)
       ·rcases aao.mp z with rfl|z
        ·exact gq
        ·exact g1 t (m2 t z)
def X0 (aH aE aq aL az aZ aD aC aM:FM):GS:=
 (cD 9 (eP xR (ah (eF (br aC (bw (eF (aB 5)) bM))) (ah (eF (br aC (bw (eF (aB 8)) bM))) aF))))
def X3 (aH aE aq aL az aZ aD aC aM:FM):GS:=
 (qw (EI (k8 (qB (eF (br aM (bw (eF (br aZ (bw (eF (aB 5)) (bw (eF (aB 8)) bM)))) (bw (eF (aB 9)) bM)))))) (k8 (qB (eF (br aM (bw (eF (br aZ (bw (eF (aB 8)) (bw (eF (aB 5)) bM)))) (bw (eF (aB 9)) bM))))))) (dI (eT (eC (.bl false)))) gB)
def X4 (aH aE aq aL az aZ aD aC aM:FM):GS:=
 (qw (k8 (qB (eF (br aM (bw (eF (br aZ (bw (eF (aB 7)) (bw (eF (aB 8)) bM)))) (bw (eF (aB 9)) bM)))))) (dI (eT (eC (.bl false)))) gB)
def um (aH aE aq aL az aZ aD aC aM:FM):GS:=aU (X0 aH aE aq aL az aZ aD aC aM) (aU (X3 aH aE aq aL az aZ aD aC aM) (X4 aH aE aq aL az aZ aD aC aM))
def WG (aH aE aq aL az aZ aD aC aM:FM):um aH aE aq aL az aZ aD aC aM=aU (X0 aH aE aq aL az aZ aD aC aM) (aU (X3 aH aE aq aL az aZ aD aC aM) (X4 aH aE aq aL az aZ aD aC aM)):=rfl
def X5 (aH aE aq aL az aZ aD aC aM:FM):GS:=
 (cD 5 (br aq (cI (aB 1) (bw (eF (aB 2)) bM))))
def X6 (aH aE aq aL az aZ aD aC aM:FM):GS:=
 (cD 6 (eP nZ (ah (eF (aB 5)) aF)))
def X7 (aH aE aq aL az aZ aD aC aM:FM):GS:=
 (cD 7 (br aL (bw (eF (aB 5)) bM)))
def X8 (aH aE aq aL az aZ aD aC aM:FM):GS:=
 (qw (EI (k8 (qB (eF (br az (bw (eF (aB 7)) (bw (eF (aB 5)) bM)))))) (EI (k8 (qB (eF (br az (bw (eF (br aL (bw (eF (aB 7)) bM))) (bw (eF (aB 5)) bM)))))) (qB (eF (eP An (ah (eF (br aZ (bw (eF (aB 7)) (bw (eF (aB 5)) bM)))) (ah (eC (.bl true)) aF))))))) (dI (eT (eC (.bl false)))) gB)
def vb4 (aH aE aq aL az aZ aD aC aM:FM):GS:=
 (mG (bName 8) (iY (eF (eP fW (ah (eF (br aD (cI (aB 1) (bw (eF (aB 5)) bM)))) (ah (eF (br aD (cI (aB 1) (bw (eF (aB 5)) bM)))) (ah (eF (aB 3)) (ah (eF (br aL (bw (eF (aB 3)) bM))) aF))))))) (um aH aE aq aL az aZ aD aC aM))
def Yb (aH aE aq aL az aZ aD aC aM:FM):GS:=
 (qw (qB (eF (eP xZ (ah (eF (eP nZ (ah (eF (aB 5)) aF))) (ah (eF (aB 6)) aF))))) (dI (eT (eC (.bl false)))) gB)
def Yc (aH aE aq aL az aZ aD aC aM:FM):GS:=
 (cD 3 (aB 5))
def xE (aH aE aq aL az aZ aD aC aM:FM):GS:=aU (X5 aH aE aq aL az aZ aD aC aM) (aU (X6 aH aE aq aL az aZ aD aC aM) (aU (X7 aH aE aq aL az aZ aD aC aM) (aU (X8 aH aE aq aL az aZ aD aC aM) (aU (vb4 aH aE aq aL az aZ aD aC aM) (aU (Yb aH aE aq aL az aZ aD aC aM) (Yc aH aE aq aL az aZ aD aC aM))))))
def WH (aH aE aq aL az aZ aD aC aM:FM):xE aH aE aq aL az aZ aD aC aM=aU (X5 aH aE aq aL az aZ aD aC aM) (aU (X6 aH aE aq aL az aZ aD aC aM) (aU (X7 aH aE aq aL az aZ aD aC aM) (aU (X8 aH aE aq aL az aZ aD aC aM) (aU (vb4 aH aE aq aL az aZ aD aC aM) (aU (Yb aH aE aq aL az aZ aD aC aM) (Yc aH aE aq aL az aZ aD aC aM)))))):=rfl
def Yd (aH aE aq aL az aZ aD aC aM:FM):GS:=
 (cD 1 (br aH (cI (aB 0) bM)))
def Ye (aH aE aq aL az aZ aD aC aM:FM):GS:=
 (cD 2 (br aE (cI (aB 1) bM)))
def Yg (aH aE aq aL az aZ aD aC aM:FM):GS:=
 (cD 3 (eP dB aF))
def Yh (aH aE aq aL az aZ aD aC aM:FM):GS:=
 (mG (bName 4) (rB (ah (eC (.int 6)) aF)) (xE aH aE aq aL az aZ aD aC aM))
def lw4 (aH aE aq aL az aZ aD aC aM:FM):GS:=
 (dI (eT (eC (.bl true))))
def CY (aH aE aq aL az aZ aD aC aM:FM):GS:=aU (Yd aH aE aq aL az aZ aD aC aM) (aU (Ye aH aE aq aL az aZ aD aC aM) (aU (Yg aH aE aq aL az aZ aD aC aM) (aU (Yh aH aE aq aL az aZ aD aC aM) (lw4 aH aE aq aL az aZ aD aC aM))))
def lw_eq (aH aE aq aL az aZ aD aC aM:FM):CY aH aE aq aL az aZ aD aC aM=aU (Yd aH aE aq aL az aZ aD aC aM) (aU (Ye aH aE aq aL az aZ aD aC aM) (aU (Yg aH aE aq aL az aZ aD aC aM) (aU (Yh aH aE aq aL az aZ aD aC aM) (lw4 aH aE aq aL az aZ aD aC aM)))):=rfl
section
variable {f1 f2 f3 f4 f5 f6 f7 f8 f9:FM}{ns:BBD}{T T1 T2:MO}{td a b c k1 k2:D}{q:Bool}{x3 x4 x5 x6 x7 x8 x9:Option U}{z:Str}
noncomputable abbrev lS (ns:BBD) (T:MO) (td:D) (x3 x4 x5 x6 x7 x8 x9:Option U):SS:=[some (.s ns),some (.m T),AAA td,x3,x4,x5,x6,x7,x8,x9]
def z0 {u v:List D}(h9:fS x9=false) (e1:f8 [.t a]=some (.m (.lst u),[])) (e2:f8 [.t b]=some (.m (.lst v),[])) (e3:xR [.lst u,.lst v]=AAA (.bl q)):X0 f1 f2 f3 f4 f5 f6 f7 f8 f9 (lS ns T td x3 x4 (AAA a) x6 x7 (AAA b) x9)=some (.nx (lS ns T td x3 x4 (AAA a) x6 x7 (AAA b) (AAA (.bl q)))):=by simp[-bN,bD,-Vy,X0,h9,e1,e2,e3]
def z1 (e1:f6 [.t a,.t b]=some (.t (.bl q),[])) (e2:f6 [.t b,.t a]=some (.t (.bl q),[])) (e3:f9 [.t (.bl q),.t (.bl q)]=some (.t (.bl true),[])):X3 f1 f2 f3 f4 f5 f6 f7 f8 f9 (lS ns T td x3 x4 (AAA a) x6 x7 (AAA b) (AAA (.bl q)))=some (.nx (lS ns T td x3 x4 (AAA a) x6 x7 (AAA b) (AAA (.bl q)))):=by simp[X3,e1,e2,e3]
def z2 (e1:f6 [.t c,.t b]=some (.t (.bl q),[])) (e3:f9 [.t (.bl q),.t (.bl q)]=some (.t (.bl true),[])):X4 f1 f2 f3 f4 f5 f6 f7 f8 f9 (lS ns T td x3 x4 x5 x6 (AAA c) (AAA b) (AAA (.bl q)))=some (.nx (lS ns T td x3 x4 x5 x6 (AAA c) (AAA b) (AAA (.bl q)))):=by simp[X4,e1,e3]
def v0 (h5:fS x5=false) (e:f3 [.b T,.t td]=some (.t a,[T1])):X5 f1 f2 f3 f4 f5 f6 f7 f8 f9 (lS ns T td x3 x4 x5 x6 x7 x8 x9)=some (.nx (lS ns T1 td x3 x4 (AAA a) x6 x7 x8 x9)):=by simp[-bN,bD,X5,h5,e]
def v1 (h6:fS x6=false) (e:nZ [a]=AAA (.str z)):X6 f1 f2 f3 f4 f5 f6 f7 f8 f9 (lS ns T td x3 x4 (AAA a) x6 x7 x8 x9)=some (.nx (lS ns T td x3 x4 (AAA a) (AAA (.str z)) x7 x8 x9)):=by simp[-bN,bD,-Av,X6,h6,e]
def v2 (h7:fS x7=false) (e:f4 [.t a]=some (.t c,[])):X7 f1 f2 f3 f4 f5 f6 f7 f8 f9 (lS ns T td x3 x4 (AAA a) x6 x7 x8 x9)=some (.nx (lS ns T td x3 x4 (AAA a) x6 (AAA c) x8 x9)):=by simp[-bN,bD,X7,h7,e]
def v3 (e1:f5 [.t c,.t a]=some (.t (.bl true),[])) (e2:f4 [.t c]=some (.t k1,[])) (e3:f5 [.t k1,.t a]=some (.t (.bl true),[])) (e4:f6 [.t c,.t a]=some (.t (.bl true),[])):X8 f1 f2 f3 f4 f5 f6 f7 f8 f9 (lS ns T td x3 x4 (AAA a) x6 (AAA c) x8 x9)=some (.nx (lS ns T td x3 x4 (AAA a) x6 (AAA c) x8 x9)):=by
 have i:An [.bl true,.bl true]=AAA (.bl false):=rfl;simp[X8,e1,e2,e3,e4,i]
def v4 {S':SS}{w:GS}{l:D}(e1:f7 [.b T,.t a]=some (.t k1,[T1])) (e2:f7 [.b T1,.t a]=some (.t k2,[T2])) (e3:f4 [.t l]=some (.t b,[]))
  (e:loop (bName 8) w [k1,k2,l,b] (lS ns T2 td (AAA l) x4 (AAA a) x6 x7 x8 x9)=some (.nx S')):
  mG (bName 8) (iY (eF (eP fW (ah (eF (br f7 (cI (aB 1) (bw (eF (aB 5)) bM)))) (ah (eF (br f7 (cI (aB 1) (bw (eF (aB 5)) bM)))) (ah (eF (aB 3)) (ah (eF (br f4 (bw (eF (aB 3)) bM))) aF))))))) w (lS ns T td (AAA l) x4 (AAA a) x6 x7 x8 x9)=some (.nx S'):=by
 rw[<-e];simp[dQ,e1,e2,e3]
def v5 (e:nZ [a]=AAA (.str z)):Yb f1 f2 f3 f4 f5 f6 f7 f8 f9 (lS ns T td x3 x4 (AAA a) (AAA (.str z)) x7 x8 x9)=some (.nx (lS ns T td x3 x4 (AAA a) (AAA (.str z)) x7 x8 x9)):=by
 have e2:=lK (.str z);simp[-Av,Yb,e,xZ,bA,e2]
def v6 {l:D}:Yc f1 f2 f3 f4 f5 f6 f7 f8 f9 (lS ns T td (AAA l) x4 (AAA a) x6 x7 x8 x9)=some (.nx (lS ns T td (AAA a) x4 (AAA a) x6 x7 x8 x9)):=by simp[-bN,bD,Yc]
end
abbrev Sm (C:Addr){α:Type}(g:FM->FM->FM->FM->FM->FM->FM->FM->FM->α):α:=g ow Sd.lz anyF (A6 C) Ob (A7 C) LM Bq Lj
def Oh (q:Bool):Lj [.t (.bl q),.t (.bl q)]=some (.t (.bl true),[]):=by
 have:=Wf q q
 rwa [show(q == q)=true by simp] at this
def ask {x8:Option U}(hx:Gs x) (hy:Gs y) (h9:fS x9=false):
  ∃y9,fS y9=false/\Sm C um (lS ns T td x3 x4 (AAA (cu x)) x6 (AAA (cu (pP x))) (AAA (cu y)) x9)=some (.nx (lS ns T td x3 x4 (AAA (cu x)) x6 (AAA (cu (pP x))) (AAA (cu y)) y9)):=by
 have lx:=hx.l;have ly:=hy.l;have lt:=hx.pP.l;have tx:=hx.tot;have ty:=hy.tot;have tt:=hx.pP.tot;have k1:=Lq hx;have k2:=Lq hy;have k3:=key_eq (oF (uO x)) (oF (uO y));rw[due hx hy] at k3;have a1:=A8 (C:=C) hx.bc hy.bc (by lia) (by lia) (by lia);have a2:=A8 (C:=C) hy.bc hx.bc (by lia) (by lia) (by lia);rw[CQ] at a2;have a3:=A8 (C:=C) hx.pP.bc hy.bc (by lia) (by lia) (by lia);rw[CV] at a3;have i:=Oh (zu x y);refine⟨AAA (.bl (zu x y)),rfl,?_⟩;show um _ _ _ _ _ _ _ _ _ _=_;rw[WG,cV (z0 h9 k1 k2 k3),cV (z1 a1 a2 i)];exact z2 a3 i
def So (hx:GR 8 x) (lx:x.length<=5):LC (cu x):=by
 have g:=NY (hx.mono (by lia)) (by lia);have w:=g.w;exact Wj g.g8 (by lia) (aaC g.dep (by decide))
def bu8 {d:D}(h8:fS x8=false):bName 8 d (lS ns T td x3 x4 x5 x6 x7 x8 x9)=some (lS ns T td x3 x4 x5 x6 x7 (AAA d) x9):=by simp[-bN,bD,h8]
theorem asks {C:Addr}{x:List Bu}{ns:BBD}{T:MO}{td:D}{x3 x4 x6:Option U}(hx:Gs x):∀(ys:List (List Bu)) (x8 x9:Option U),(∀y∈ys,Gs y)->fS x8=false->fS x9=false->
  ∃y8 y9,fS y8=false/\fS y9=false/\loop (bName 8) (Sm C um) (ys.map cu) (lS ns T td x3 x4 (AAA (cu x)) x6 (AAA (cu (pP x))) x8 x9)=some (.nx (lS ns T td x3 x4 (AAA (cu x)) x6 (AAA (cu (pP x))) y8 y9))
 |[],x8,x9,_,h8,h9=>⟨x8,x9,h8,h9,rfl⟩
 |y::ys,x8,x9,hy,h8,h9=>by
  obtain⟨y9,i9,e⟩:=ask (C:=C) (ns:=ns) (T:=T) (td:=td) (x3:=x3) (x4:=x4) (x6:=x6) (x8:=AAA (cu y)) hx (hy y aak) h9;obtain⟨z8,z9,j8,j9,e2⟩:=asks (C:=C) (ns:=ns) (T:=T) (td:=td) (x3:=x3) (x4:=x4) (x6:=x6) hx ys (AAA (cu y)) y9 (fun q hq=>hy q (aag _ hq)) rfl i9;refine⟨z8,z9,j8,j9,?_⟩;rw[abj,HE,bu8 h8,aah];rw[show Sm C um (lS ns T td x3 x4 (AAA (cu x)) x6 (AAA (cu (pP x))) (AAA (cu y)) x9)=_ from e,aah];exact e2
def Su {l:List Bu}(hT:Fd n T) (hn:n<300000) (ht:Tb td) (hl:GR 8 l) (ll:l.length<=5)
  (h5:fS x5=false) (h6:fS x6=false) (h7:fS x7=false) (h8:fS x8=false) (h9:fS x9=false):
  ∃T' x y6 y7 y8 y9,fS y6=false/\fS y7=false/\fS y8=false/\fS y9=false/\GR 8 x/\x.length<=5/\Fd (n+700) T'/\
   Sm C xE (lS ns T td (AAA (cu l)) x4 x5 x6 x7 x8 x9)=some (.nx (lS ns T' td (AAA (cu x)) x4 (AAA (cu x)) y6 y7 y8 y9)):=by
 obtain⟨d,T1,e0,sn,h1⟩:=Rx hT (by lia) ht;obtain⟨x,rfl,gx,lx⟩:=Wi sn;have hx:Gs x:=xD gx (by lia) (by lia);have hL:Gs l:=xD hl (by lia) (by lia);have er:=Ll (So gx lx);generalize (toPy (cu x)).shown=z at er;have tx:=hx.tot;have tL:=hL.tot;have lt:=hx.pP.l;have tt:=hx.pP.tot;have e2:=Ed (C:=C) hx.bc (by lia) (by lia);have e3:=Ed (C:=C) hx.pP.bc (by lia) (by lia);have e4:=Ed (C:=C) hL.bc (by lia) (by lia);have i1:=Pc hx hx.pP;rw[Wv hx] at i1;have i2:=Pc hx hx.pP.pP;rw[Ww hx] at i2;have a1:=A8 (C:=C) hx.pP.bc hx.bc (by lia) (by lia) (by lia);rw[CV,CP] at a1;obtain⟨y1,T2,o1,g1,f2⟩:=Pe h1 (by lia) gx lx;obtain⟨y2,T3,o2,g2,f3⟩:=Pe f2 (by lia) gx lx;obtain⟨y8,y9,i8,i9,lp⟩:=asks (C:=C) (ns:=ns) (T:=T3) (td:=td) (x3:=AAA (cu l)) (x4:=x4) (x6:=AAA (.str z)) hx [y1,y2,l,pP l] x8 x9 (fun y hy=>by
  rcases aao.mp hy with rfl|hy
  ·exact g1
  ·rcases aao.mp hy with rfl|hy
   ·exact g2
   ·rcases aao.mp hy with rfl|hy
    ·exact hL
    ·rw[aam.mp hy];exact hL.pP) h8 h9
 refine⟨T3,x,AAA (.str z),AAA (cu (pP x)),y8,y9,rfl,rfl,i8,i9,gx,lx,f3.mono (by lia),?_⟩;show xE _ _ _ _ _ _ _ _ _ _=_;rw[WH,cV (v0 h5 e0),cV (v1 h6 er),cV (v2 h7 e2),cV (v3 i1 e3 i2 a1)];rw[cV (show vb4 _ _ _ _ _ _ _ _ _ _=some (.nx _) from v4 o1 o2 e4 lp)];rw[cV (v5 er)];exact v6
def HS (C:Addr):∀us r,Aw 63 us=some r->bL 10 (Sm C CY) us=some r:=by
 intro us r h;unfold Aw at h;split at h
 ·rename_i ns;obtain⟨hl,rfl⟩:=bW h;obtain⟨T,p1,h1⟩:=Ni ns;obtain⟨td,T1,p2,ht,h2,tn⟩:=HJ h1 (by lia);obtain⟨S',e,T',l,x4,x5,x6,x7,x8,x9,rfl,_⟩:=rS (bd:=bName 4) (body:=Sm C xE) (qV 0 6)
   (fun j S=>∃(T':MO) (l:List Bu) (x4 x5 x6 x7 x8 x9:Option U),S=lS ns T' td (AAA (cu l)) x4 x5 x6 x7 x8 x9/\GR 8 l/\l.length<=5/\fS x4=false/\fS x5=false/\fS x6=false/\fS x7=false/\fS x8=false/\fS x9=false/\Fd (7+700*j) T')
   (lS ns T1 td (AAA (cu [])) none none none none none none) ⟨T1,[],none,none,none,none,none,none,rfl,fun l h=>(by cases h),aaM _,rfl,rfl,rfl,rfl,rfl,rfl,h2.mono (by lia)⟩ (by
    rintro j d S hd ⟨T0,l,x4,x5,x6,x7,x8,x9,rfl,gl,ll,b4,b5,b6,b7,b8,b9,hf⟩;obtain⟨hj,rfl⟩:=vm hd;obtain⟨T2,x,y6,y7,y8,y9,c6,c7,c8,c9,gx,lx,f2,tn⟩:=Su (C:=C) (ns:=ns) (x4:=AAC (j:Int)) hf (by lia) ht gl ll b5 b6 b7 b8 b9;exact⟨lS ns T0 td (AAA (cu l)) (AAC (j:Int)) x5 x6 x7 x8 x9,_,by simp[-bN,bD,b4],tn,T2,x,_,_,y6,y7,y8,y9,rfl,gx,lx,rfl,rfl,c6,c7,c8,c9,f2.mono (by lia)⟩)
  have s0:Yd ow Sd.lz anyF (A6 C) Ob (A7 C) LM Bq Lj [some (.s ns),none,none,none,none,none,none,none,none,none]=some (.nx [some (.s ns),some (.m T),none,none,none,none,none,none,none,none]):=by
   generalize ow=f at *;simp[Yd,p1]
  have s1:Ye ow Sd.lz anyF (A6 C) Ob (A7 C) LM Bq Lj [some (.s ns),some (.m T),none,none,none,none,none,none,none,none]=some (.nx [some (.s ns),some (.m T1),AAA td,none,none,none,none,none,none,none]):=by
   generalize Sd.lz=f at *;simp[Ye,p2]
  have s2:Yg ow Sd.lz anyF (A6 C) Ob (A7 C) LM Bq Lj [some (.s ns),some (.m T1),AAA td,none,none,none,none,none,none,none]=some (.nx (lS ns T1 td (AAA (cu [])) none none none none none none)):=by simp[-bN,bD,Yg,cu]
  have er:rB (ah (eC (.int 6)) aF) (lS ns T1 td (AAA (cu [])) none none none none none none)=some (qV 0 6,lS ns T1 td (AAA (cu [])) none none none none none none):=NV (j:=6) rfl (by lia) (by lia);have s3:Yh ow Sd.lz anyF (A6 C) Ob (A7 C) LM Bq Lj (lS ns T1 td (AAA (cu [])) none none none none none none)=some (.nx (lS ns T' td (AAA (cu l)) x4 x5 x6 x7 x8 x9)):=by
   unfold Yh;rw[mG,er,aah];exact e
  show((Sm C CY) [some (.s ns),none,none,none,none,none,none,none,none,none]).bind _=_;show(CY _ _ _ _ _ _ _ _ _ _).bind _=_;rw[lw_eq,cV s0,cV s1,cV s2,cV s3];simp[lw4,aT]
 ·cases h
end T6
end
namespace K21
open PySem PySem.Spec PyProof.Rows L2 Sw Ss Sd Sp T5 T6
variable {l:PySem.W.OpenLaw}
def top (i:Nat):Stmt:=PySem.Challenge.pw_surewatch_k21_trimmed_and_alike.main.body.getD i (.Pass ⟨0,0,0,0⟩)
noncomputable def WI (s:Stmt) (j:Nat):Stmt:=match s with
 |.ClassDef _ _ _ b _ _ _ _ _ _ _=>b.getD j (.Pass ⟨0,0,0,0⟩)
 |_=>.Pass ⟨0,0,0,0⟩
def oG (i j:Nat):Stmt:=WI (top i) j
structure Zc where
 P:Program
 w:World
 K:PySem.W.Frag
 mg:Str->BBP
 aK:Addr
structure Nb (P:Program) (w:World) (K:AAD) (mg:AAF) (aK:Addr):Prop where
 sf:mg "len" =none
 pM:mg "sorted" =none
 aax:mg "set" =none
 mV:mg "tuple" =none
 WJ:mg "list" =none
 aay:mg "min" =none
 Bb:mg "range" =none
 aaz:mg "all" =none
 aaA:mg "any" =none
 Ga:mg "repr" =none
 jf:mg "isinstance" =none
 Pf:mg "bool" =none
 xF:∃t,mg "NO_THINGS" =some (.int 0 t)
 dU:yw K aK
 gf:PySem.W.findIn K (.ref aK) "basics" =some none
 gO:PySem.W.findIn K (.ref aK) "numbers" =some none
 jW:PySem.W.findIn K (.ref aK) "trues" =some none
abbrev NZ (z:Zc):Prop:=Nb z.P z.w z.K z.mg z.aK
variable {z:Zc}{b:Heap}
abbrev iw:Stmt:=oG 3 0
abbrev l6 (z:Zc):Prop:=Ax z.K z.aK "__init__" "Marks.__init__" iw
abbrev fP (z:Zc) (b:Heap):Prop:=Q3 z.P z.w z.K z.mg b 1 z.aK
abbrev iz:Stmt:=oG 3 1
abbrev l7 (z:Zc):Prop:=Ax z.K z.aK "of_thing" "Marks.of_thing" iz
abbrev iA (z:Zc) (b:Heap):Prop:=rO z.P z.w z.K z.mg b 1 z.aK "of_thing" ["self","basic","truth"] 2 ((LK z.aK))
abbrev iB:Stmt:=oG 3 2
abbrev l8 (z:Zc):Prop:=Ax z.K z.aK "of_bunch" "Marks.of_bunch" iB
abbrev iC (z:Zc) (b:Heap):Prop:=rO z.P z.w z.K z.mg b 2 z.aK "of_bunch" ["self","bunch"] 2 ((RB z.aK))
abbrev iD:Stmt:=oG 3 3
abbrev l9 (z:Zc):Prop:=Ax z.K z.aK "of_stand" "Marks.of_stand" iD
abbrev fQ (z:Zc) (b:Heap):Prop:=rO z.P z.w z.K z.mg b 3 z.aK "of_stand" ["self","stand"] 2 ((FG z.aK))
abbrev jw:Stmt:=oG 3 4
abbrev nB (z:Zc):Prop:=Ax z.K z.aK "is_void" "Marks.is_void" jw
abbrev jx (z:Zc) (b:Heap):Prop:=rO z.P z.w z.K z.mg b 1 z.aK "is_void" ["self","mark"] 2 ((NH z.aK))
abbrev mW:Stmt:=oG 3 5
abbrev sr (z:Zc):Prop:=Ax z.K z.aK "trim" "Marks.trim" mW
abbrev mX (z:Zc) (b:Heap):Prop:=rO z.P z.w z.K z.mg b 2 z.aK "trim" ["self","marks"] 2 ((Te z.aK))
abbrev iE:Stmt:=oG 3 12
abbrev mh (z:Zc):Prop:=Ax z.K z.aK "bunch_of" "Marks.bunch_of" iE
abbrev iF (z:Zc) (b:Heap):Prop:=rO z.P z.w z.K z.mg b 1 z.aK "bunch_of" ["self","mark"] 2 ((RQ z.aK))
abbrev iG:Stmt:=oG 3 13
abbrev mj (z:Zc):Prop:=Ax z.K z.aK "stand_of" "Marks.stand_of" iG
abbrev iH (z:Zc) (b:Heap):Prop:=rO z.P z.w z.K z.mg b 2 z.aK "stand_of" ["self","marks"] 2 ((Pb z.aK))
abbrev iI:Stmt:=top 4
abbrev mq (z:Zc):Prop:=Df z.K z.mg "has_one_within" iI
abbrev iJ (z:Zc) (b:Heap):Prop:=yg z.P z.w z.K z.mg b 1 "has_one_within" ["mark","marks"] AW
abbrev uo:Stmt:=top 6
abbrev zB (z:Zc):Prop:=Df z.K z.mg "trimmed" uo
abbrev uq (z:Zc) (b:Heap):Prop:=yg z.P z.w z.K z.mg b 4 "trimmed" ["stand"] ((A6 z.aK))
abbrev Be:Stmt:=top 7
abbrev Gb (z:Zc):Prop:=Df z.K z.mg "alike" Be
abbrev Bf (z:Zc) (b:Heap):Prop:=yg z.P z.w z.K z.mg b 4 "alike" ["one","other"] ((A7 z.aK))
abbrev oH:Stmt:=top 9
abbrev uP (z:Zc):Prop:=Df z.K z.mg "_law_feed" oH
abbrev oJ (z:Zc) (b:Heap):Prop:=yg z.P z.w z.K z.mg b 1 "_law_feed" ["_law_script"] ow
abbrev oK:Stmt:=top 10
abbrev uQ (z:Zc):Prop:=Df z.K z.mg "_law_draw" oK
abbrev fC (z:Zc) (b:Heap):Prop:=yg z.P z.w z.K z.mg b 1 "_law_draw" ["_law_feed_here","_law_many"] bC
abbrev mY:Stmt:=top 11
abbrev su (z:Zc):Prop:=Df z.K z.mg "_law_table" mY
abbrev mZ (z:Zc) (b:Heap):Prop:=yg z.P z.w z.K z.mg b 2 "_law_table" ["_law_feed_here"] Sd.lz
abbrev oM:Stmt:=top 12
abbrev uR (z:Zc):Prop:=Df z.K z.mg "_law_test" oM
abbrev oN (z:Zc) (b:Heap):Prop:=yg z.P z.w z.K z.mg b 2 "_law_test" ["_law_feed_here","_law_table_here","_law_seen"] LF
abbrev lA:Stmt:=top 13
abbrev qg (z:Zc):Prop:=Df z.K z.mg "_law_saying" lA
abbrev iV (z:Zc) (b:Heap) (j:Nat):Prop:=yg z.P z.w z.K z.mg b (j+2) "_law_saying" ["_law_feed_here","_law_table_here","_law_seen","_law_bag","_law_deep"] (Sd.jo j)
abbrev iK:Stmt:=top 14
abbrev mw (z:Zc):Prop:=Df z.K z.mg "_law_any_stand" iK
abbrev iL (z:Zc) (b:Heap):Prop:=yg z.P z.w z.K z.mg b 7 "_law_any_stand" ["_law_feed_here","_law_table_here"] anyF
abbrev oO:Stmt:=top 15
abbrev uS (z:Zc):Prop:=Df z.K z.mg "_law_trim" oO
abbrev oR (z:Zc) (b:Heap):Prop:=yg z.P z.w z.K z.mg b 1 "_law_trim" ["_law_stand"] Wb
abbrev qI:Stmt:=top 16
abbrev xG (z:Zc):Prop:=Df z.K z.mg "_law_key" qI
abbrev m5 (z:Zc) (b:Heap):Prop:=yg z.P z.w z.K z.mg b 2 "_law_key" ["_law_stand"] Bq
abbrev kF:Stmt:=top 17
abbrev oU (z:Zc):Prop:=Df z.K z.mg "_law_is_told" kF
abbrev kG (z:Zc) (b:Heap):Prop:=yg z.P z.w z.K z.mg b 3 "_law_is_told" ["_law_told","_law_due"] Ob
abbrev ur:Stmt:=top 18
abbrev zC (z:Zc):Prop:=Df z.K z.mg "_law_is" ur
abbrev uu (z:Zc) (b:Heap):Prop:=yg z.P z.w z.K z.mg b 1 "_law_is" ["_law_found","_law_due"] Lj
abbrev m6:Stmt:=top 19
abbrev sA (z:Zc):Prop:=Df z.K z.mg "_law_other" m6
abbrev m8 (z:Zc) (b:Heap):Prop:=yg z.P z.w z.K z.mg b 2 "_law_other" ["_law_feed_here","_law_stand"] LM
abbrev Ge:Stmt:=top 20
abbrev WK (z:Zc):Prop:=Df z.K z.mg "law" Ge
def sC:bG ["self"] ["self"] (aQ iw):=sI
def sD (D:l6 z) (N:NZ z):fP z b:=okI D sC fun _ _ _ _ _ _ _=>Kl N.dU N.gf N.gO N.jW
def kX:bG ["self","basic","truth","%basics","%numbers","bit"] ["self","basic","truth"] (aQ iz):=sI
def sE (D:l7 z) (N:NZ z):iA z b:=
 DX D kX (RA z.aK) fun _ _ _ _ _ _ _ hr=>(aI (dD (Hy 0 4 N.dU N.gO (nM hr) (jv 1)) (aI (M1 0 4 N.dU N.gO (nM hr) (jv 1) (E6 0 3 N.dU N.gf rfl N.sf))
  (aI (MY 0 N.dU N.jW (JE.d (bu EZ (E5 0 N.dU N.jW) (JE.d (bu Ay aG (JE.d (bu jS aG (E6 0 3 N.dU N.gf rfl N.sf))))))))
  (aX (iQ (JD.e (M3 0 3 N.dU (by exact N.gf) aa4 aa5 eO eU (ao (jv 1) aJ))))))) cB)
  (aI (zs kX.nd 5 (bu jS aG (M0 0 4 N.dU N.gO (nM hr) (jv 1) (fun _ _=>rfl))))
  (aX (bF (bu Ay aG (JE.d (OD (gY (jv 2)) (bh 5) (bu cA (jv 5) aG))))))))
def fq:bG ["self","bunch","%basics","%numbers","mark","thing"] ["self","bunch"] (aQ iB):=sI
def sF (D:l8 z) (N:NZ z) (jy:iA z b):iC z b:=
 by obtain⟨Eh,qJ⟩:=N.xF;exact DX D fq (RC z.aK) fun _ _ _ _ _ _ _ hr=>(aI (zs fq.nd 4 (JD.e (EO rfl qJ)))
  (aI (jl abD rfl (dJ (jv 1)) (zg fq.nd 5) (aX (zs fq.nd 4 (bu EZ (jv 4) (JE.d (M4 0 [2,3] N.dU jy hr (aN (ys hr 5 aG) (aN (ys hr 5 aG) aW))))))))
  (aX (bF (bh 4)))))
def sG:bG ["self","stand","%basics","%numbers"] ["self","stand"] (aQ iD):=sI
def sH (D:l9 z) (N:NZ z) (oV:mX z b) (jz:iC z b):fQ z b:=
 DX D sG (RH z.aK) fun _ _ _ _ _ _ _ hr=>(aX (bF (M4 0 [2,3] N.dU oV hr (aN (JE.d (Cm ["%basics","%numbers"] [2,3] (cc 0) rfl (dJ (jv 1)) (fun _ _ _ _=>(JE.d (M4 1 [2,3] N.dU jz hr (aN (jv 0) aW)))))) aW))))
def uv:bG ["self","mark","%basics","%numbers"] ["self","mark"] (aQ jw):=sI
def uw (D:nB z) (N:NZ z):jx z b:=
 DX D uv (RE z.aK) fun _ _ _ _ _ _ _ hr=>(aX (bF (qu (mJ hr.units) (JE.d (bu wB (JE.d (bu wB (jv 1) (JE.d (bu MV (jv 1) aG)))) (E5 0 N.dU N.jW))) aG)))
def lB:bG ["self","marks","%basics","%numbers","kept","mark"] ["self","marks"] (aQ mW):=sI
def yi (D:sr z) (N:NZ z) (kH:jx z b) (jA:iJ z b):mX z b:=
 DX D lB (tm_run z.aK) fun _ _ _ _ _ _ _ hr=>(aI (zs lB.nd 4 (cE aJ))
  (aI (jl abD rfl (dJ (JE.d (Cd rfl rfl N.pM rfl N.aax (jv 1)))) (zg lB.nd 5) (aX (dD (JW.t (vI (jk (gY (JE.d (M4 0 [2,3] N.dU kH hr (aN (jv 5) aW))))) (ki (jk (gY (jlk 4 jA hr (jv 5))))))) (aX (iQ (JD.e (jT (i:=4) aa4 aa5 eO eU fH (ao (jv 5) aJ))))) cB)))
  (aX (bF (bh 4)))))
def fu:bG ["self","mark","%basics","%numbers","things","bit"] ["self","mark"] (aQ iE):=sI
def sJ (D:mh z) (N:NZ z):iF z b:=
 by obtain⟨Eh,qJ⟩:=N.xF;exact DX D fu (RS z.aK) fun _ _ _ _ _ _ _ hr=>(aI (zs fu.nd 4 (cE aJ))
  (aI (Js abD (bV (mJ hr.units) (jv 1) (EO rfl qJ)) (aI (zs fu.nd 5 (bu iO (JE.d (Nd (jv 1))) aG))
  (aI (iQ (JD.e (jT (i:=4) aa4 aa5 eO eU fH (ao (JE.d (bK (ao (Q9 0 2 N.dU N.gf (JE.d (bu vf (jv 5) aG)) (fun _ _=>rfl)) (ao (JE.d (qu (eZ hr.units) (JE.d (bu iP (jv 5) aG)) aG)) aJ)))) aJ))))
  (aX (zs fu.nd 1 (bu iO (jv 1) (JE.d (bu Ay aG (jv 5)))))))))
  (aX (bF (gX gG rfl N.mV abt (ao (jv 4) aJ))))))
def sL:bG ["self","marks","%basics","%numbers"] ["self","marks"] (aQ iG):=sI
def sM (D:mj z) (N:NZ z) (jB:iF z b):iH z b:=
 DX D sL (RU z.aK) fun _ _ _ _ _ _ _ hr=>(aX (bF (gX gG rfl N.mV abt (ao (JE.d (Cm ["%basics","%numbers"] [2,3] (cc 0) rfl (dJ (jv 1)) (fun _ _ _ _=>(JE.d (M4 1 [2,3] N.dU jB hr (aN (jv 0) aW)))))) aJ))))
def kY:bG ["mark","marks","lesser"] ["mark","marks"] (aQ iI):=sI
def sN (D:mq z):iJ z b:=
 EW D kY NJ fun _ _ _ _ _ _ _ hr=>(aI (jl abD rfl (dJ (jv 1)) (zg kY.nd 2) (aX (dD (bV (eZ hr.units) (JE.d (bu wB (jv 2) (jv 0))) (jv 2)) (aX (bF (JD.e kO))) cB)))
  (aX (bF (JD.e kO))))
def xH:bG ["stand","marks","%basics","%numbers"] ["stand"] (aQ uo):=sI
def Ei (D:zB z) (N:NZ z) (dw:fP z b) (jC:iH z b) (cW:fQ z b) (lC:S8 z.K z.mg "Marks" z.aK):uq z b:=
 EW D xH (N5 z.aK) fun _ _ _ _ _ _ _ hr=>(Cn (i:=1) 2 3 lC dw hr xH.nd rfl (by first|exact Or.inl rfl|exact Or.inr rfl) (aX (bF (M4 1 [2,3] N.dU jC hr (aN (JE.d (M4 1 [2,3] N.dU cW hr (aN (jv 0) aW))) aW)))))
def CZ:bG ["one","other","marks","%basics","%numbers"] ["one","other"] (aQ Be):=sI
def Ly (D:Gb z) (N:NZ z) (dw:fP z b) (cW:fQ z b) (lC:S8 z.K z.mg "Marks" z.aK):Bf z b:=
 EW D CZ (N6 z.aK) fun _ _ _ _ _ _ _ hr=>(Cn (i:=2) 3 4 lC dw hr CZ.nd rfl (by first|exact Or.inl rfl|exact Or.inr rfl) (aX (bF (qu (eZ hr.units) (JE.d (M4 2 [3,4] N.dU cW hr (aN (jv 0) aW))) (JE.d (M4 2 [3,4] N.dU cW hr (aN (jv 1) aW)))))))
def Bg:bG ["_law_script"] ["_law_script"] (aQ oH):=sI
def Bh (D:uP z) (N:NZ z):oJ z b:=
 EW D Bg KN fun _ _ _ _ _ _ _ hr=>(aX (bF (MC (hk:=Nat.le_of_ble_eq_true rfl) (vX (JE.d (gX DH rfl N.WJ PyProof.Rows.Boot.list (ao (JE.d (G2 (i:=0) iT (iU aG))) aJ))) (vX aG (vX aG MB))))))
def eu:bG ["_law_feed_here","_law_many","_law_found","_law_at","_law_cell","_law_number"] ["_law_feed_here","_law_many"] (aQ oK):=sI
def Bj (D:uQ z) (N:NZ z):fC z b:=
 EW D eu KI fun _ _ _ _ _ _ _ hr=>(aI (dD (bV Dz (ys hr 0 aV) aG) (aI (zs eu.nd 2 (bu iP (ys hr 0 aV) (jv 1)))
  (aI (qy (i:=0) (nM hr) aV (JE.d (bu vf (ys hr 0 aV) (jv 1))))
  (aX (bF (bh 2))))) cB)
  (aI (zs eu.nd 3 (JD.e (ys hr 0 aV)))
  (aI (qy (i:=0) (nM hr) aV (JE.d (bu cA (jv 3) aG)))
  (aI (zs eu.nd 4 (bu jS (jv 3) (jv 3)))
  (aI (dD (bV (mJ hr.units) (ys hr 0 aV) (JE.d (cE aJ))) (aX (zs eu.nd 4 (pT xW (ys hr 0 aV) (JE.d (bu iP (jv 3) (JE.d (iX GP rfl N.sf acC (ao (ys hr 0 aV) aJ))))) (fun _ _=>rfl)))) cB)
  (aI (dD (bV Qp (jv 4) (JE.d (bu Mt aG aG))) (aI (qy (i:=0) (nM hr) aV (JE.d (bu vf (jv 4) (jv 1))))
  (aX (bF (bu iP (jv 4) (jv 1))))) cB)
  (aI (zs eu.nd 5 (bu iP (JE.d (bu jS (JE.d (bu cA (JE.d (bu cA (JE.d (bu jS (JE.d (bu iP (jv 4) aG)) aG)) (JE.d (bu jS aG (jv 3))))) aG)) aG)) aG))
  (aI (zs eu.nd 5 (bu iP (JE.d (bu jS (JE.d (bu iP (JE.d (bu cA (JE.d (bu jS (jv 5) (jv 5))) (JE.d (bu jS aG (jv 3))))) aG)) aG)) aG))
  (aX (bF (bu iP (JE.d (bu vf (jv 5) aG)) (jv 1))))))))))))
def gg:bG ["_law_feed_here","_law_some","_law_names","_law_at"] ["_law_feed_here"] (aQ mY):=sI
def yj (D:su z) (N:NZ z) (aR:fC z b):mZ z b:=
 EW D gg Sd.HH fun _ _ _ _ _ _ _ hr=>(aI (zs gg.nd 1 (cE (ao (JE.d (cE (ao aV (ao aV (ao aV (ao aV aJ)))))) (ao (JE.d (cE (ao aV (ao aV (ao aV (ao aV aJ)))))) (ao (JE.d (cE (ao aV (ao aV (ao aV (ao aV aJ)))))) aJ)))))
  (aI (zs gg.nd 2 (JD.e (ys hr 1 (JE.d (jc aR hr (bB (bh 0) (aN aG aW)))))))
  (aI (zs gg.nd 3 (jc aR hr (bB (bh 0) (aN aG aW))))
  (aI (zs gg.nd 2 (gI (JE.d (bu cA (JE.d (gI (jv 2) (iU (jv 3)) iT)) (JE.d (gI (jv 2) iT (iU (jv 3)))))) iT (iU (JE.d (pT xW (JE.d (cE (ao aG (ao aG (ao aG (ao aG aJ)))))) (JE.d (jc aR hr (bB (bh 0) (aN aG aW)))) (fun _ _=>rfl))))))
  (aX (bF (gX gG rfl N.mV abt (ao (JE.d (jU (cc 0) rfl (dJ (jv 2)) (fun _ _ _ _=>iR) (fun _ _ _ _=>(JE.d (bK (ao (jv 0) (ao (JE.d (pT xW (JE.d (cE (ao aG (ao aG (ao aG (ao aG aJ)))))) (JE.d (jc aR hr (bB (bh 1) (aN aG aW)))) (fun _ _=>rfl))) aJ))))))) aJ))))))))
def gP:bG ["_law_feed_here","_law_table_here","_law_seen","_law_way","_law_names","_law_number"] ["_law_feed_here","_law_table_here","_law_seen"] (aQ oM):=sI
def Bk (D:uR z) (N:NZ z) (aR:fC z b):oN z b:=
 EW D gP Rj fun _ _ _ _ _ _ _ hr=>(aI (zs gP.nd 3 (jc aR hr (bB (bh 0) (aN aG aW))))
  (aI (dD (bV (eZ hr.units) (jv 3) aG) (aX (bF (bK (ao aV aJ)))) cB)
  (aI (dD (bV Af (jv 3) aG) (aI (zs gP.nd 4 (bu cA (JE.d (jU cp rfl (dJ (jv 1)) (fun _ _ _ _=>iR) (fun _ _ _ _=>(ys hr 0 aG)))) (JE.d (cE (ao aV aJ)))))
  (aX (bF (bK (ao aV (ao (ys hr 4 (JE.d (jc aR hr (bB (bh 0) (aN (k9 (i:=4) rfl N.sf) aW))))) aJ)))))) cB)
  (aI (zs gP.nd 5 (jc aR hr (bB (bh 0) (aN aG aW))))
  (aI (dD (JW.t (vI (bV (mJ hr.units) (jv 2) (JE.d (bK aJ))) (ki (bV Dz (JE.d (jc aR hr (bB (bh 0) (aN aG aW)))) aG)))) (aX (zs gP.nd 5 (JD.e (ys hr 2 (JE.d (jc aR hr (bB (bh 0) (aN (k9 (i:=2) rfl N.sf) aW)))))))) cB)
  (aX (bF (bK (ao (JE.d (pT xW (JE.d (cE (ao aV (ao aV (ao aV aJ))))) (JE.d (bu iP (jv 3) aG)) (fun _ _=>rfl))) (ao (jv 5) aJ))))))))))
def cQ:bG ["_law_feed_here","_law_table_here","_law_seen","_law_bag","_law_deep","_law_heads","_law_head","_law_names","_law_x","_law_inner","_law_first"] ["_law_feed_here","_law_table_here","_law_seen","_law_bag","_law_deep"] (aQ lA):=sI
def xJ {j:Nat}(D:qg z) (N:NZ z) (aR:fC z b) (qK:oN z b) (cX:iV z b j):iV z b (j+1):=
 EW D cQ (Sd.Np j) fun _ _ _ _ _ _ _ hr=>(aI (qy (i:=3) (nM hr) aG (JE.d (bu iO (ys hr 3 aG) aG)))
  (aI (zs cQ.nd 5 (cE (ao aV (ao aV (ao aV (ao aV (ao aV (ao aV (ao aV (ao aV (ao aV (ao aV (ao aV (ao aV aJ))))))))))))))
  (aI (zs cQ.nd 6 (JD.e (ys hr 5 (JE.d (jc aR hr (bB (bh 0) (aN aG aW)))))))
  (aI (dD (JW.t (pU (JW.t (vI (bV (vR hr.units) (jv 6) (JE.d (bK (ao aV (ao aV aJ)))) (by with_unfolding_all rfl)) (ki (bV (eZ hr.units) (ys hr 3 aG) aG)))) (gZ (JW.t (vI (bV (vR hr.units) (jv 6) (JE.d (bK (ao aV (ao aV (ao aV aJ))))) (by with_unfolding_all rfl)) (ki (bV Af (ys hr 3 aG) aG))))))) (aX (zs cQ.nd 6 (pT xW (JE.d (cE (ao aV (ao aV (ao aV aJ))))) (JE.d (jc aR hr (bB (bh 0) (aN aG aW)))) (fun _ _=>rfl)))) cB)
  (aI (dD (JW.t (pU (bV Af (ys hr 3 aG) aG) (pU (bV Af (jv 4) aG) (gZ (bV (eZ hr.units) (jv 6) aV))))) (aX (bF (pT xW (JE.d (cE (ao (JE.d (bK (ao aV aJ))) (ao (JE.d (bK (ao aV aJ))) (ao (JE.d (bK (ao aV (ao (JE.d (jc qK hr (bB (bh 0) (aN (jv 1) (aN (jv 2) aW))))) aJ)))) aJ))))) (JE.d (iX (DG rfl) rfl N.aay PyProof.Rows.Boot.min (ao aG (ao (JE.d (jc aR hr (bB (bh 0) (aN aG aW)))) aJ)))) (fun _ _=>rfl)))) cB)
  (aI (dD (bV (vR hr.units) (jv 6) (JE.d (bK (ao aV (ao aV aJ)))) (by with_unfolding_all rfl)) (aI (qy (i:=3) (nM hr) aG (JE.d (bu iO (ys hr 3 aG) aG)))
  (aI (zc cQ.nd 7 cp (dJ (jv 1)) (fun _ _ _ _=>iR) (fun _ _ _ _=>(ys hr 0 aG)))
  (aI (zs cQ.nd 8 (pT xW (JE.d (bu cA (jv 7) (JE.d (cE (ao aV (ao aV (ao aV aJ))))))) (JE.d (jc aR hr (bB (bh 0) (aN (JE.d (bu cA (k9 (i:=7) rfl N.sf) aG)) aW)))) (fun _ _=>rfl)))
  (aI (zs cQ.nd 9 (jc cX hr (bB (bh 0) (aN (jv 1) (aN (JE.d (bu cA (jv 2) (JE.d (bK (ao (jv 8) aJ))))) (bB (bh 3) (aN (JE.d (bu iO (jv 4) aG)) aW)))))))
  (aX (bF (bK (ao (jv 6) (ao (ys hr 7 (JE.d (jc aR hr (bB (bh 0) (aN (k9 (i:=7) rfl N.sf) aW))))) (ao (jv 8) (ao (jv 9) aJ))))))))))) cB)
  (aI (dD (bV (eZ hr.units) (jv 6) aV) (aX (bF (bK (ao (jv 6) (ao (JE.d (pT xW (JE.d (cE (ao aG (ao aG (ao aG (ao aG (ao aG (ao aG aJ)))))))) (JE.d (jc aR hr (bB (bh 0) (aN aG aW)))) (fun _ _=>rfl))) (ao (JE.d (jc cX hr (bB (bh 0) (aN (jv 1) (aN (jv 2) (bB (bh 3) (aN (JE.d (bu iO (jv 4) aG)) aW))))))) aJ)))))) cB)
  (aI (dD (bV (vR hr.units) (jv 6) (JE.d (bK (ao aV (ao aV (ao aV aJ))))) (by with_unfolding_all rfl)) (aI (qy (i:=3) (nM hr) aG (JE.d (bu iO (ys hr 3 aG) aG)))
  (aI (zs cQ.nd 10 (jc cX hr (bB (bh 0) (aN (jv 1) (aN (jv 2) (bB (bh 3) (aN (JE.d (bu iO (jv 4) aG)) aW)))))))
  (aI (qy (i:=3) (nM hr) aG (JE.d (bu cA (ys hr 3 aG) aG)))
  (aX (bF (bK (ao (jv 6) (ao (jv 10) (ao (JE.d (jc cX hr (bB (bh 0) (aN (jv 1) (aN (jv 2) (bB (bh 3) (aN (JE.d (bu iO (jv 4) aG)) aW))))))) aJ))))))))) cB)
  (aX (bF (bK (ao (jv 6) (ao (JE.d (jc cX hr (bB (bh 0) (aN (jv 1) (aN (jv 2) (bB (bh 3) (aN (JE.d (bu iO (jv 4) aG)) aW))))))) aJ)))))))))))))
def bH:bG ["_law_feed_here","_law_table_here","_law_basics","_law_k","_law_saying_here","_law_stand","_law_bunch","_law_j","_law_at"] ["_law_feed_here","_law_table_here"] (aQ iK):=sI
def sO (D:mw z) (N:NZ z) (aR:fC z b) (cX:iV z b 4):iL z b:=
 EW D bH Nv fun _ _ _ _ _ _ _ hr=>(aI (zs bH.nd 2 (cE aJ))
  (aI (jl abD rfl (pB rfl N.Bb (ao (JE.d (bu cA aG (JE.d (jc aR hr (bB (bh 0) (aN aG aW)))))) aJ)) (zg bH.nd 3) (aI (zs bH.nd 4 (jc cX hr (bB (bh 0) (aN (jv 1) (aN (JE.d (bK aJ)) (bB (cE (ao (JE.d (bu cA aG (JE.d (jc aR hr (bB (bh 0) (aN aG aW)))))) (ao aG aJ))) (aN aG aW)))))))
  (aI (dD (bV (vR hr.units) (ys hr 4 aG) (JE.d (bK (ao aV (ao aV (ao aV (ao aV (ao aV aJ))))))) (by with_unfolding_all rfl)) (aX (zs bH.nd 4 (bK (ao aV (ao (jv 4) aJ))))) cB)
  (aX (iQ (JD.e (jT (i:=2) aa4 aa5 eO eU fH (ao (jv 4) aJ))))))))
  (aI (zs bH.nd 5 (cE aJ))
  (aI (jl abD rfl (pB rfl N.Bb (ao (JE.d (jc aR hr (bB (bh 0) (aN aG aW)))) aJ)) (zg bH.nd 3) (aI (zs bH.nd 6 (cE aJ))
  (aI (jl abD rfl (pB rfl N.Bb (ao (JE.d (jc aR hr (bB (bh 0) (aN aG aW)))) aJ)) (zg bH.nd 7) (aX (iQ (JD.e (jT (i:=6) aa4 aa5 eO eU fH (ao (JE.d (bK (ao (ys hr 2 (JE.d (jc aR hr (bB (bh 0) (aN (k9 (i:=2) rfl N.sf) aW))))) (ao (JE.d (qu Dz (JE.d (jc aR hr (bB (bh 0) (aN aG aW)))) aG)) aJ)))) aJ))))))
  (aX (iQ (JD.e (jT (i:=5) aa4 aa5 eO eU fH (ao (JE.d (gX gG rfl N.mV abt (ao (jv 6) aJ))) aJ))))))))
  (aI (dD (JW.t (vI (MI (i:=5) (mJ hr.units) (JE.d (cE aJ))) (ki (bV (eZ hr.units) (JE.d (jc aR hr (bB (bh 0) (aN aG aW)))) aG)))) (aI (zs bH.nd 8 (jc aR hr (bB (bh 0) (aN (k9 (i:=5) rfl N.sf) aW))))
  (aX (iQ (JD.e (jT (i:=5) aa4 aa5 eO eU fH (ao (JE.d (bu cA (JE.d (DN (ys hr 5 (jv 8)) (JE.d (Jk Ag aG)))) (ys hr 5 (JE.d (jc aR hr (bB (bh 0) (aN (k9 (i:=5) rfl N.sf) aW))))))) aJ)))))) cB)
  (aX (bF (gX gG rfl N.mV abt (ao (jv 5) aJ)))))))))
def eB:bG ["_law_stand","_law_rows","_law_bunch","_law_things","_law_thing","_law_found"] ["_law_stand"] (aQ oO):=sI
def Bm (D:uS z) (N:NZ z):oR z b:=
 EW D eB RL fun _ _ _ _ _ _ _ hr=>(aI (zs eB.nd 1 (cE aJ))
  (aI (jl abD rfl (dJ (jv 0)) (zg eB.nd 2) (aI (zs eB.nd 3 (cE aJ))
  (aI (jl abD rfl (dJ (jv 2)) (zg eB.nd 4) (aX (dD (G5 (i:=3) hr.units (jv 4)) (aX (iQ (JD.e (jT (i:=3) aa4 aa5 eO eU fH (ao (jv 4) aJ))))) cB)))
  (aX (dD (bV (eZ hr.units) (JE.d (JP ⟨(cc 3),rfl,by decide⟩ rfl (Qt (jv 3)) (fun _ _ _ _=>(Aj (QD (i:=2) hr.units (JE.d (bK (ao (jv 0) (ao (Jl (jv 1)) aJ))))))) (fun _ _ _ _=>aG))) (JE.d (cE aJ))) (aX (iQ (JD.e (jT (i:=1) aa4 aa5 eO eU fH (ao (jv 3) aJ))))) cB)))))
  (aI (zs eB.nd 5 (cE aJ))
  (aI (jl abD rfl (dJ (JE.d (DW rfl N.pM rfl N.sf (jv 1)))) (zg eB.nd 3) (aX (dD (jk (gY (JE.d (iX (GY rfl) rfl N.aaA PyProof.Rows.Boot.any (ao (JE.d (Kn 5 (cc 3) rfl (fun _ _ _ _=>iR) (fun _ _ _ _=>(JE.d (iX (GX rfl) rfl N.aaz PyProof.Rows.Boot.all (ao (JE.d (jU (cc 1) rfl (dJ (jv 0)) (fun _ _ _ _=>iR) (fun _ _ _ _=>(QC (i:=1) hr.units (jv 0))))) aJ)))))) aJ))))) (aX (iQ (JD.e (jT (i:=5) aa4 aa5 eO eU fH (ao (jv 3) aJ))))) cB)))
  (aX (bF (bh 5)))))))
def C0:bG ["_law_stand"] ["_law_stand"] (aQ qI):=sI
def C1 (D:xG z) (N:NZ z) (qL:oR z b):m5 z b:=
 EW D C0 R5 fun _ _ _ _ _ _ _ hr=>(aX (bF (rR false hr.units rfl N.pM (JE.d (jU cp rfl (dJ (JE.d (jc qL hr (aN (jv 0) aW)))) (fun _ _ _ _=>iR) (fun _ _ _ _=>(JE.d (rR true hr.units rfl N.pM (JE.d (jU cp rfl (dJ (jv 0)) (fun _ _ _ _=>iR) (fun _ _ _ _=>(JE.d (iX (mK hr.gd hr.units) rfl N.Ga ac1 (ao (jv 0) aJ))))))))))))))
def jD:bG ["_law_told","_law_due","_law_bunch","_law_rows"] ["_law_told","_law_due"] (aQ kF):=sI
def u9 (D:oU z) (N:NZ z) (iM:m5 z b):kG z b:=
 EW D jD R6 fun _ _ _ _ _ _ _ hr=>(aI (dD (JW.t (pU (jk (gY (lO rfl N.jf rfl N.mV abt (jv 0)))) (gZ (bV (mJ hr.units) (JE.d (jU cp rfl (dJ (jv 0)) (fun _ _ _ _=>(Aj (jk (gY (lO rfl N.jf rfl N.mV abt (jv 0)))))) (fun _ _ _ _=>aG))) (JE.d (cE aJ)))))) (aX (bF (JD.e kO))) cB)
  (aI (jl abD rfl (dJ (jv 0)) (zg jD.nd 2) (aX (dD (bV (mJ hr.units) (JE.d (jU cp rfl (dJ (jv 2)) (fun _ _ _ _=>(Aj (JW.t (pU (jk (gY (lO rfl N.jf rfl N.mV abt (jv 0)))) (pU (bV (mJ hr.units) (k9 (i:=0) rfl N.sf) aG) (gZ (jk (gY (lO rfl N.jf rfl N.Pf PyProof.Rows.Boot.bool (ys hr 0 aG)))))))))) (fun _ _ _ _=>aG))) (JE.d (cE aJ))) (aX (bF (JD.e kO))) cB)))
  (aI (zc jD.nd 3 cp (dJ (jv 0)) (fun _ _ _ _=>iR) (fun _ _ _ _=>(JE.d (rR true hr.units rfl N.pM (JE.d (jU cp rfl (dJ (jv 0)) (fun _ _ _ _=>iR) (fun _ _ _ _=>(JE.d (iX (mK hr.gd hr.units) rfl N.Ga ac1 (ao (jv 0) aJ))))))))))
  (aX (bF (qu (eZ hr.units) (JE.d (rR false hr.units rfl N.pM (jv 3))) (JE.d (jc iM hr (aN (jv 1) aW)))))))))
def Ej:bG ["_law_found","_law_due"] ["_law_found","_law_due"] (aQ ur):=sI
def Ek (D:zC z) (N:NZ z):uu z b:=
 EW D Ej RN fun _ _ _ _ _ _ _ hr=>(aX (bF (JD.e (Qo (lO rfl N.jf rfl N.Pf PyProof.Rows.Boot.bool (jv 0)) (Qn (JE.d (qu (eZ hr.units) (jv 0) (jv 1))))))))
def dN:bG ["_law_feed_here","_law_stand","_law_way","_law_bunch","_law_basic","_law_at","_law_thing"] ["_law_feed_here","_law_stand"] (aQ m6):=sI
def ym (D:sA z) (N:NZ z) (aR:fC z b):m8 z b:=
 EW D dN Sk fun _ _ _ _ _ _ _ hr=>(aI (zs dN.nd 1 (gX gG rfl N.mV abt (ao (JE.d (jU (cc 0) rfl (dJ (JE.d (DN (jv 1) (JE.d (Jk Ag aG))))) (fun _ _ _ _=>iR) (fun _ _ _ _=>(JE.d (bu cA (JE.d (DN (jv 0) (JE.d (Jk Ag aG)))) (JE.d (gI (jv 0) iT (iU (JE.d (jc aR hr (bB (bh 1) (aN aG aW)))))))))))) aJ)))
  (aI (zs dN.nd 2 (jc aR hr (bB (bh 0) (aN aG aW))))
  (aI (dD (JW.t (pU (bV (eZ hr.units) (jv 1) (JE.d (bK aJ))) (gZ (bV (eZ hr.units) (jv 2) aG)))) (aX (bF (bh 1))) cB)
  (aI (zs dN.nd 3 (JD.e (ys hr 1 (JE.d (jc aR hr (bB (bh 0) (aN (k9 (i:=1) rfl N.sf) aW)))))))
  (aI (zs dN.nd 4 (bK (ao aV (ao (JE.d (bK (ao aV aJ))) aJ))))
  (aI (dD (bV (eZ hr.units) (jv 2) aG) (aX (bF (bu cA (jv 1) (JE.d (bK (ao (JE.d (bu cA (JE.d (bK (ao (JE.d (bK (ao (jv 4) (ao kO aJ)))) aJ))) (jv 3))) (ao (JE.d (bK (ao (JE.d (bK (ao (jv 4) (ao kO aJ)))) (ao (JE.d (bK (ao (jv 4) (ao kO aJ)))) aJ)))) aJ))))))) cB)
  (aI (dD (bV (eZ hr.units) (jv 2) aG) (aX (bF (bu cA (JE.d (bK (ao (JE.d (bu cA (jv 3) (JE.d (gI (jv 3) iT (iU aG))))) aJ))) (jv 1)))) cB)
  (aI (dD (bV (eZ hr.units) (jv 3) (JE.d (bK aJ))) (aX (bF (gI (jv 1) (iU aG) iT))) cB)
  (aI (zs dN.nd 5 (jc aR hr (bB (bh 0) (aN (k9 (i:=3) rfl N.sf) aW))))
  (aI (zs dN.nd 6 (OD (bV (eZ hr.units) (jv 2) aG) (bK (ao (JE.d (pT xW (ys hr 3 (jv 5)) aG (fun _ _=>rfl))) (ao (Jl (JE.d (pT xW (ys hr 3 (jv 5)) aG (fun _ _=>rfl)))) aJ))) (bK (ao (jv 4) (ao kO aJ)))))
  (aX (bF (bu cA (JE.d (gI (jv 1) (iU aG) iT)) (JE.d (bK (ao (JE.d (bu cA (JE.d (bu cA (JE.d (gI (jv 3) iT (iU (jv 5)))) (JE.d (bK (ao (jv 6) aJ))))) (JE.d (gI (jv 3) (iU (JE.d (bu cA (jv 5) aG))) iT)))) aJ))))))))))))))))
def kI:bG ["_law_script","_law_feed_here","_law_table_here","_law_last","_law_k","_law_stand","_law_kept","_law_told","_law_other_here","_law_due"] ["_law_script"] (aQ Ge):=sI
def Sv {f:Addr}{fd:FuncData}(F:Lz z.K "law" "law" Ge f fd) (N:NZ z) (qM:oJ z b) (oW:mZ z b) (jE:iL z b) (oX:uq z b) (iW:kG z b) (ux:Bf z b) (kZ:m8 z b) (iM:m5 z b) (oY:uu z b):j7 z.P z.w z.K z.mg b yE 8 f fd ["_law_script"] (spT z.K 1 (Aw 63)):=
 okT (g:=T6.CY ow Sd.lz anyF ((A6 z.aK)) Ob ((A7 z.aK)) LM Bq Lj) F kI (fun _ _ _ _ _ _ hr=>(aI (zs kI.nd 1 (jc qM hr (bB (bh 0) aW)))
  (aI (zs kI.nd 2 (jc oW hr (bB (bh 1) aW)))
  (aI (zs kI.nd 3 (bK aJ))
  (aI (jl abD rfl (pB rfl N.Bb (ao aG aJ)) (zg kI.nd 4) (aI (zs kI.nd 5 (jc jE hr (bB (bh 1) (aN (jv 2) aW))))
  (aI (zs kI.nd 6 (iX (mK hr.gd hr.units) rfl N.Ga ac1 (ao (jv 5) aJ)))
  (aI (zs kI.nd 7 (jc oX hr (aN (jv 5) aW)))
  (aI (dD (JW.t (pU (jk (gY (JE.d (jc iW hr (aN (jv 7) (aN (jv 5) aW)))))) (pU (jk (gY (JE.d (jc iW hr (aN (JE.d (jc oX hr (aN (jv 7) aW))) (aN (jv 5) aW)))))) (gZ (bV G3 (JE.d (jc ux hr (aN (jv 7) (aN (jv 5) aW)))) kO))))) (aX (bF (JD.e kO))) cB)
  (aI (jl abD rfl (dJ (JE.d (cE (ao (JE.d (jc kZ hr (bB (bh 1) (aN (jv 5) aW)))) (ao (JE.d (jc kZ hr (bB (bh 1) (aN (jv 5) aW)))) (ao (jv 3) (ao (JE.d (jc oX hr (aN (jv 3) aW))) aJ))))))) (zg kI.nd 8) (aI (zs kI.nd 9 (qu (eZ hr.units) (JE.d (jc iM hr (aN (jv 5) aW))) (JE.d (jc iM hr (aN (jv 8) aW)))))
  (aI (dD (JW.t (pU (jk (gY (JE.d (jc oY hr (aN (JE.d (jc ux hr (aN (jv 5) (aN (jv 8) aW)))) (aN (jv 9) aW)))))) (gZ (jk (gY (JE.d (jc oY hr (aN (JE.d (jc ux hr (aN (jv 8) (aN (jv 5) aW)))) (aN (jv 9) aW))))))))) (aX (bF (JD.e kO))) cB)
  (aX (dD (jk (gY (JE.d (jc oY hr (aN (JE.d (jc ux hr (aN (jv 7) (aN (jv 8) aW)))) (aN (jv 9) aW)))))) (aX (bF (JD.e kO))) cB)))))
  (aI (dD (bV (mJ hr.units) (JE.d (iX (mK hr.gd hr.units) rfl N.Ga ac1 (ao (jv 5) aJ))) (jv 6)) (aX (bF (JD.e kO))) cB)
  (aX (zs kI.nd 3 (bh 5))))))))))
  (aX (bF (JD.e kO)))))))) (HS z.aK)
set_option maxHeartbeats 0 in
def Oi {fa:Addr}(lC:S8 z.K z.mg "Marks" z.aK) (jF:l6 z) (jG:l7 z) (jH:l8 z) (jI:l9 z) (kJ:nB z) (oZ:sr z) (jJ:mh z) (jK:mj z) (jL:mq z) (xK:zB z) (El:Gb z) (qN:uP z) (qO:uQ z) (o7:su z) (qP:uR z) (jX:qg z) (jM:mw z) (qQ:uS z) (uy:xG z) (lD:oU z) (xM:zC z) (pq:sA z) (Sx:WK z) (N:NZ z) (Qv:z.mg "law" =some (.ref fa)):
  ∃fd:FuncData,(∀(s:Shared) (v:Value),BindsTo s fd ⟨[v],[]⟩ [("_law_script",v)])/\∀b:Heap,z.K.In b->b.Ns mainGlobals z.mg->j7 z.P z.w z.K z.mg b yE 8 fa fd ["_law_script"] (spT z.K 1 (Aw 63)):=by
 obtain⟨f,fd,F,m⟩:=Sx.ex;cases Qv.symm.trans m;refine⟨fd,fun s v=>?_,fun b _ _=>?_⟩
 ·obtain⟨_,_,_,_,_,_,_,_,_,rfl,_,_⟩:=F.ex;exact .of_eq rfl
 ·have dw:fP z b:=sD jF N;have jy:iA z b:=sE jG N;have kH:jx z b:=uw kJ N;have jB:iF z b:=sJ jJ N;have jA:iJ z b:=sN jL;have qM:oJ z b:=Bh qN N;have aR:fC z b:=Bj qO N;have qL:oR z b:=Bm qQ N;have oY:uu z b:=Ek xM N;have jz:iC z b:=sF jH N jy;have oV:mX z b:=yi oZ N kH jA;have jC:iH z b:=sM jK N jB;have oW:mZ z b:=yj o7 N aR;have qK:oN z b:=Bk qP N aR;have iM:m5 z b:=C1 uy N qL;have kZ:m8 z b:=ym pq N aR;have cW:fQ z b:=sH jI N oV jz;have iW:kG z b:=u9 lD N iM;have oX:uq z b:=Ei xK N dw jC cW lC;have ux:Bf z b:=Ly El N dw cW lC;have Bo:∀j:Nat,iV z b j:=by
   intro j
   induction j with
   |zero=>exact MU jX (Sd.HR)
   |succ j ih=>exact(xJ jX N aR qK ih).mono (by lia)
  have cX:=(Bo 4)
  have jE:iL z b:=sO jM N aR cX;exact Sv F N qM oW jE oX iW ux kZ iM oY
def all_mk {w:World}{K:AAD}{mg:AAF}{fa aK:Addr}(lC:S8 K mg "Marks" aK) (jF:Ax K aK "__init__" "Marks.__init__" iw) (jG:Ax K aK "of_thing" "Marks.of_thing" iz) (jH:Ax K aK "of_bunch" "Marks.of_bunch" iB) (jI:Ax K aK "of_stand" "Marks.of_stand" iD) (kJ:Ax K aK "is_void" "Marks.is_void" jw) (oZ:Ax K aK "trim" "Marks.trim" mW) (jJ:Ax K aK "bunch_of" "Marks.bunch_of" iE) (jK:Ax K aK "stand_of" "Marks.stand_of" iG) (jL:Df K mg "has_one_within" iI) (xK:Df K mg "trimmed" uo) (El:Df K mg "alike" Be) (qN:Df K mg "_law_feed" oH) (qO:Df K mg "_law_draw" oK) (o7:Df K mg "_law_table" mY) (qP:Df K mg "_law_test" oM) (jX:Df K mg "_law_saying" lA) (jM:Df K mg "_law_any_stand" iK) (qQ:Df K mg "_law_trim" oO) (uy:Df K mg "_law_key" qI) (lD:Df K mg "_law_is_told" kF) (xM:Df K mg "_law_is" ur) (pq:Df K mg "_law_other" m6) (Sx:Df K mg "law" Ge) (N:Nb l.prog w K mg aK) (Qv:mg "law" =some (.ref fa)):
  ∃fd:FuncData,(∀(s:Shared) (v:Value),BindsTo s fd ⟨[v],[]⟩ [("_law_script",v)])/\∀base:Heap,K.In base->base.Ns mainGlobals mg->j7 l.prog w K mg base yE 8 fa fd ["_law_script"] (spT K 1 (Aw 63)):=
 Oi (z:=⟨l.prog,w,K,mg,aK⟩) lC jF jG jH jI kJ oZ jJ jK jL xK El qN qO o7 qP jX jM qQ uy lD xM pq Sx N Qv
def walk {q:Program}{loose:BBB}{XP:(Str->BBP)->Heap->Prop}{YP:World->Heap->Prop}{d:DefRec}{K:Params->PySem.W.Frag}(hn:l.most=some 63) (hdf:d.params.defaults=[])
  (hY:∀(w:World) (h:Heap),YP w h->(K w.params).In h)
  (F:∀(w:World) (mg:AAF) (fa:Addr) (h:Heap),(K w.params).In h->h.Ns mainGlobals mg->mg d.name=some (.ref fa)->
   ∃fd:FuncData,(∀(s:Shared) (u:Value),BindsTo s fd ⟨[u],[]⟩ [("_law_script",u)])/\∀base:Heap,(K w.params).In base->base.Ns mainGlobals mg->j7 l.prog w (K w.params) mg base yE 8 fa fd ["_law_script"] (spT (K w.params) 1 (Aw 63))):
  PySem.W.WalkO q loose XP YP l.row.toRowW d [] (fun f vs=>PySem.call f vs):=
 L2.Mh (n:=63) (k:=8) (x:="_law_script") (CX:=fun _=>yE) (sp:=fun w=>spT (K w.params) 1 (Aw 63)) hn (by decide) hdf ⟨rfl,by decide,by decide,rfl⟩ hY F (fun w H a ns hl hO hS=>QY hl hO hS) fun _ _ _ _ _ z=>z
end K21
open PySem PySem.W PyProof.Rows
noncomputable def PySem.W.Fast.tw7610348478138569286:Nat->Stmt:=K21.top
theorem PySem.W.Fast.te7610348478138569286:K21.top=PySem.W.Fast.tw7610348478138569286:=rfl
def K21.sc:Scope:=PySem.Challenge.pw_surewatch_k21_trimmed_and_alike.main.scope
noncomputable def PySem.W.Fast.tw17126799771656311250:Scope:=K21.sc
theorem PySem.W.Fast.te17126799771656311250:K21.sc=PySem.W.Fast.tw17126799771656311250:=rfl
def K21.pw:Program:={main:={body:=[K21.top 0,K21.top 1,K21.top 2,K21.top 3,K21.top 4,K21.top 5,K21.top 6,K21.top 7,K21.top 8,K21.top 9,K21.top 10,K21.top 11,K21.top 12,K21.top 13,K21.top 14,K21.top 15,K21.top 16,K21.top 17,K21.top 18,K21.top 19,K21.top 20],scope:=K21.sc,futureAnnotations:=false,file:="/claim/cut.py",more:=[]},modules:=[],parses:=[],absent:=[],harvested:=[],given:={argv:=[],stdin:=[],environ:=some [([76,67,95,65,76,76],[67,46,85,84,70,45,56])]}}
def K21.rw:OpenLaw:={prog:=K21.pw,name:=(PySem.Str.ofString "law"),about:=[(PySem.Str.ofString "trimmed")],foot:=12,most:=some 63,bound:=none,writes:=false}
def PySem.W.Fast.tw2253930829750591696:=0
def PySem.W.Fast.tw6308203267253184266:=0
def PySem.W.Fast.tw483436283817726032:=0
def PySem.W.Fast.tw7570846127729426533:=0
def PySem.W.Fast.tw1793197699479257996:=0
def PySem.W.Fast.tw1829361165655831124:=0
def PySem.W.Fast.tw8719352260909179082:=0
def PySem.W.Fast.tw17123566994733335245:=0
def PySem.W.Fast.tw12340747785524083600:=0
def PySem.W.Fast.tw16216340811070453635:=0
def PySem.W.Fast.tw5872317607500106194:=0
def PySem.W.Fast.tw8572387968656190935:=0
def PySem.W.Fast.tw358872768486027281:=0
def PySem.W.Fast.tw9878031548707436612:=0
def PySem.W.Fast.tw12085148395849819032:=0
def PySem.W.Fast.tw7357656000890493952:=0
def PySem.W.Fast.tw2901090480061898430:=0
def PySem.W.Fast.tw10252451348357040588:=0
def PySem.W.Fast.tw15974178471136045648:=0
def PySem.W.Fast.tw8382174878191808761:=0
def PySem.W.Fast.tw852173599615810691:=0
def PySem.W.Fast.tw10557152146568332018:=0
def PySem.W.Fast.tw11033884947173213520:=0
def PySem.W.Fast.tw945997584157857403:=0
def PySem.W.Fast.tw12637553368497273368:=0
def PySem.W.Fast.tw12862024458388141561:=0
def PySem.W.Fast.tw9745109036124384987:=0
def PySem.W.Fast.tw5682059161079642557:=0
def PySem.W.Fast.tw2969428466223898388:=0
def PySem.W.Fast.tw15376122728070547459:=0
def PySem.W.Fast.tw9252094080314890370:=0
def PySem.W.Fast.tw15585436625716431390:=0
def PySem.W.Fast.tw2935676414131470402:=0
def PySem.W.Fast.tw18058848014979804546:=0
def PySem.W.Fast.tw11359754911350719225:=0
def PySem.W.Fast.tw3059240955524629198:=0
def PySem.W.Fast.tw1499841632582952291:=0
def PySem.W.Fast.tw14446944699666623031:=0
def PySem.W.Fast.tw4114055684743949092:=0
def PySem.W.Fast.tw3416491058235973434:=0
def PySem.W.Fast.tw8512954291261851151:=0
def PySem.W.Fast.tw201584620344515758:=0
def PySem.W.Fast.tw4868493179437553703:=0
def PySem.W.Fast.tw7034274370861819567:=0
def PySem.W.Fast.tw11784358311161009906:=0
def PySem.W.Fast.tw9167439837187453661:=0
def PySem.W.Fast.tw6047434862271463891:=0
def PySem.W.Fast.tw6040684326799480348:=0
set_option maxRecDepth 100000 in
set_option maxHeartbeats 0 in
def K21.holds:K21.rw.Holds:=by
 w_on;o_law;k_head;(case hw=>w_witness2)
 k_fill
 refine K21.walk (l:=K21.rw) rfl rfl (fun w h Y=>PySem.W.kIn_of Y) ?F
 case F=>
  intro w mg fa h KX G hmg;refine' K21.all_mk ?lC ?_ ?_ ?_ ?_ ?_ ?_ ?_ ?_ ?_ ?_ ?_ ?_ ?_ ?_ ?_ ?_ ?_ ?_ ?_ ?_ ?_ ?_ ?_ ?_ hmg
  (case lC=>refine' L2.Q0 KX G ?a ?b ?c;(case a=>k_is);(case b=>k_is);(case c=>k_is))
  iterate 8 (refine' L2.QZ ?a ?l ?c ?k ?y;(case a=>k_is);(case l=>k_is);(case c=>k_is);(case k=>k_is);(case y=>k_is))
  iterate 15 (refine' L2.VF KX G ?a ?l ?c ?k;(case a=>k_is);(case l=>k_is);(case c=>k_is);(case k=>k_is))
  refine⟨abm KX G ?_,abm KX G ?_,abm KX G ?_,abm KX G ?_,abm KX G ?_,abm KX G ?_,abm KX G ?_,abm KX G ?_,abm KX G ?_,abm KX G ?_,abm KX G ?_,abm KX G ?_,⟨_,aeT KX G (by k_is)⟩,⟨?_,?_,?_,?_⟩,?_,?_,?_⟩<;>k_is
theorem PySem.Challenge.cw_surewatch_k21_trimmed_and_alike_holds : PySem.Challenge.rw_surewatch_k21_trimmed_and_alike.Holds :=
 K21.holds
