import PyProof.Rows.All
import Wide.All
import OpenK.AllK
import Wide.FinOn
import PyProof.EqAt
import PyProof.EqKinds
import PyProof.TupleCall
import Lean
import PySem.Challenge.RW_surewatch_k43_watchers_of_judges
set_option Elab.async false
set_option linter.all false
set_option maxRecDepth 100000
abbrev AAA:=PySem.W.Frag
abbrev AAB:=PySem.Value->PySem.Shared->Prop
abbrev AAC:=PySem.Str->Option PySem.Value
abbrev AAD:=List (PySem.Addr×PySem.Obj)
abbrev AAE:=Nat->Nat->Nat
abbrev AAF:=List (List Int)
abbrev AAG:=List (PySem.Str×Int)
abbrev AAH:=Array PySem.Value
abbrev AAI:=List PySem.Value
abbrev Zv:=@PySem.wpAny_bind
abbrev Zw:=@List.length_map
abbrev Zx:=@PySem.Heap.get?_push_of_some
abbrev Zy:=@List.getElem?_eq_some_iff
abbrev Zz:=@List.getElem?_eq_getElem
abbrev ZE:=@Option.bind_some
abbrev ZF:=@List.getElem?_map
abbrev ZG:=@List.mem_singleton
abbrev ZI:=@List.mem_cons_of_mem
abbrev ZJ:=@List.mem_cons_self
abbrev ZK:=@List.length_range
abbrev ZL:=@List.size_toArray
abbrev ZM:=@Nat.le_refl
abbrev ZN:=@List.getD_eq_getElem?_getD
abbrev ZO:=@List.mem_of_getElem?
abbrev ZP:=@PySem.Heap.lt_size
abbrev ZQ:=@Nat.lt_of_lt_of_le
abbrev ZR:=@List.mem_append_right
abbrev ZS:=@List.mem_range
abbrev ZT:=@PySem.Heap.get?_push_size
abbrev ZU:=@Option.some.inj
abbrev ZV:=@List.mem_cons
abbrev ZX:=@List.getElem?_range
abbrev ZY:=@Nat.ne_of_lt
abbrev ZZ:=@List.length_append
abbrev Z0:=@List.getElem?_eq_none
abbrev Z1:=@Classical.byContradiction
abbrev Z2:=@List.mem_append
abbrev Z3:=@Nat.zero_le
abbrev Z4:=@List.getElem?_set_ne
abbrev Z5:=@Nat.le_trans
abbrev Z6:=@List.mem_map
abbrev Z7:=@List.getElem?_append_left
abbrev Z8:=@PySem.PassesOwn.never
abbrev Z9:=@List.nil_append
abbrev aaa:=@List.map_append
abbrev aab:=@PyProof.Rows.Boot.tuple
abbrev aac:=@List.mem_append_left
abbrev aad:=@List.getElem?_set_self
abbrev aae:=@List.map_cons
abbrev aaf:=@decide_eq_false
abbrev aag:=@PySem.wpAny_ite_split
abbrev aah:=@PySem.W.mg_none_of
abbrev aai:=@List.drop_eq_getElem_cons
abbrev aaj:=@Array.getElem?_eq_getElem
abbrev aak:=@PyProof.Rows.callWith_type1
abbrev aal:=@PySem.F.slot_list_append
abbrev aam:=@PySem.F.type_list_append
abbrev aan:=@PySem.wpAny_holding
abbrev aao:=@PySem.Heap.get?_update_self
abbrev aap:=@Array.length_toList
abbrev aaq:=@List.map_map
abbrev aar:=@List.append_assoc
abbrev aas:=@PySem.wpAny_mono
abbrev aat:=@PySem.Heap.get?_update_other
abbrev aau:=@List.idxOf_lt_length_of_mem
abbrev aav:=@List.nodup_cons
abbrev aaw:=@List.length_set
abbrev aax:=@List.map_congr_left
abbrev aay:=@PySem.wpAny_setField_rec
abbrev aaz:=@Nat.lt_irrefl
abbrev aaA:=@List.length_singleton
abbrev aaB:=@Int.toNat_natCast
abbrev aaC:=@decide_eq_true
abbrev aaD:=@PySem.Heap.size_push
abbrev aaE:=@PySem.Around.under_plainId
abbrev aaF:=@PySem.wpAny_call_entry
abbrev aaG:=@List.not_mem_nil
abbrev aaH:=@PySem.mem_of_lookup
abbrev aaI:=@PySem.Heap.SameBut.update
abbrev aaJ:=@List.getElem_of_mem
abbrev aaK:=@PySem.wpAny_seqItems
abbrev aaL:=@PySem.wpAny_Call_Name_kw
abbrev aaM:=@Array.getD_eq_getD_getElem?
abbrev aaN:=@Ne.symm
abbrev aaO:=@PySem.wpAny_callSpecial?_slot
abbrev aaP:=@Bool.and_eq_true
abbrev aaQ:=@List.length_cons
abbrev aaR:=@PySem.wpAny_isInstance
abbrev aaS:=@PySem.wpAny_newObj_type
abbrev aaT:=@List.ext_getElem?
abbrev aaU:=@List.replicate_succ
abbrev aaV:=@List.find?_cons
abbrev aaW:=@PySem.codeAny_builtin
abbrev aaX:=@Array.getElem?_toList
abbrev aaY:=@Bool.false_ne_true
abbrev aaZ:=@PySem.wpAny_field
abbrev aa0:=@List.nodup_nil
abbrev aa1:=@PySem.F.slot_dict_setdefault
abbrev aa2:=@beq_eq_false_iff_ne
abbrev aa3:=@List.map_id'
abbrev aa4:=@List.all_cons
abbrev aa5:=@List.nodup_iff_pairwise_ne
abbrev aa6:=@Bool.false_eq_true
abbrev aa7:=@PySem.Calls.spliced_cons
abbrev aa8:=@Nat.lt_of_le_of_lt
abbrev aa9:=@List.singleton_append
abbrev aba:=@List.forIn_cons
abbrev abb:=@List.mem_filter
abbrev abd:=@Nat.le_of_lt
abbrev abe:=@Nat.ne_of_gt
abbrev abf:=@List.length_nil
abbrev abg:=@Nat.lt_trans
abbrev abh:=@PySem.lookup_relabel_local
abbrev abi:=@PySem.wpAny_rule
abbrev abj:=@PySem.F.args_dict_setdefault_3
abbrev abk:=@List.flatten_cons
abbrev abl:=@List.nodup_append
abbrev abm:=@PySem.wpAny_setState_of
abbrev abn:=@PySem.plainId_quiet
abbrev abo:=@PySem.F.entry_dict_setdefault
abbrev abp:=@List.getElem_mem
abbrev abq:=@Int.natCast_nonneg
abbrev abr:=@Int.emod_lt_of_pos
abbrev abt:=@List.getElem_idxOf
abbrev abu:=@Nat.zero_add
abbrev abv:=@PySem.wpAny_passesOwn
abbrev abw:=@Classical.choose_spec
abbrev abx:=@PySem.wpAny_updateSeq
abbrev aby:=@PySem.builtinLookup_eq_fast
abbrev abz:=@List.range_succ
abbrev abA:=@List.any_cons
abbrev abB:=@PySem.F.slot_tuple_iterator_next
abbrev abC:=@decide_eq_true_eq
abbrev abD:=@List.getElem?_of_mem
abbrev abE:=@Nat.le_succ
abbrev abF:=@PySem.isSubtype_type
abbrev abG:=@List.drop_length
abbrev abH:=@PySem.F.called_set
abbrev abI:=@PySem.wpAny_pyIter_tuple
abbrev abJ:=@List.append_nil
abbrev abK:=@Int.emod_nonneg
abbrev abL:=@List.length_mapIdx
abbrev abM:=@or_false
abbrev abN:=@List.find?_cons_of_neg
abbrev abO:=@of_decide_eq_true
abbrev abP:=@PySem.wpAny_truthy_bool
abbrev abQ:=@PySem.Calls.spliced_nil
abbrev abR:=@Nat.lt_succ_of_lt
abbrev abS:=@List.length_replicate
abbrev abT:=@PySem.call_meetsIn
abbrev abU:=@PySem.boot_len
abbrev abV:=@List.forIn_nil
abbrev abW:=@if_false
abbrev abX:=@List.length_take
abbrev abY:=@List.length_drop
abbrev abZ:=@Nat.lt_succ_self
abbrev ab0:=@Option.getD_some
abbrev ab1:=@PySem.wpAny_askSetting
abbrev ab2:=@List.nodup_range
abbrev ab3:=@PySem.Paired.length
abbrev ab4:=@List.getElem?_append_right
abbrev ab5:=@List.filterMap_cons
abbrev ab6:=@PySem.F.plain_extend_loop
abbrev ab7:=@PySem.wpAny_specialOf
abbrev ab8:=@PySem.typeLookup_type
abbrev ab9:=@PySem.F.slot_zip_next
abbrev acd:=@Array.forIn_toList
abbrev ace:=@PySem.codeAny_mono
abbrev acf:=@PySem.F.args_tuple_add_2
abbrev acg:=@PySem.F.slot_list_getattribute
abbrev ach:=@List.eq_of_mem_replicate
abbrev aci:=@PySem.isSubtype_stop
abbrev acj:=@List.Perm.refl
abbrev ack:=@List.getElem?_cons_zero
abbrev acm:=@List.getElem?_replicate
abbrev acn:=@PySem.F.entry_tuple_add
abbrev aco:=@PyProof.Rows.F.plain_set_update_loop
abbrev acp:=@PySem.Value.isInt_shape
abbrev acq:=@PySem.wpAny_pyIter_list
abbrev acr:=@PySem.atKey_none_of_get
abbrev acs:=@List.pairwise_map
abbrev acu:=@PySem.Calls.callWith_builtin
abbrev acv:=@PySem.F.slot_tuple_add
abbrev acw:=@List.pairwise_lt_range
abbrev acy:=@PyProof.Rows.Boot.repr
abbrev acz:=@PySem.wpAny_attempt
abbrev acA:=@PySem.strLen_append
abbrev acB:=@PySem.F.slot_dict_get
abbrev acC:=@PyProof.Rows.Boot.set
abbrev acD:=@List.length_filter_le
abbrev acE:=@PyProof.Rows.Boot.max
abbrev acF:=@PySem.SeqAt.EqAt.bool_bool
abbrev acG:=@PySem.SeqAt.EqAt.same
abbrev acH:=@PySem.wpAny_execs_nil
abbrev acI:=@PyProof.Rows.callWith_builtin1
abbrev acJ:=@PySem.Calls.evalArgs_plain
abbrev acK:=@Option.map_some
abbrev acL:=@PySem.wpAny_typeOf
abbrev acM:=@PySem.SeqAt.EqAt.int_bool
abbrev acN:=@PySem.SeqAt.EqAt.bool_int
abbrev acO:=@PySem.SeqAt.EqAt.bool_str
abbrev acP:=@PySem.SeqAt.EqAt.str_bool
abbrev acQ:=@PySem.wpAny_setEntries_of
abbrev acR:=@Bool.false_and
abbrev acS:=@Bool.and_false
abbrev acT:=@PySem.wpAny_letGo
abbrev acU:=@PySem.SeqAt.EqAt.int_str
abbrev acV:=@PySem.SeqAt.EqAt.str_int
abbrev acW:=@PySem.SeqAt.EqAt.of_refs
abbrev acX:=@List.getElem_range
abbrev acY:=@PySem.wpAny_standAt
abbrev acZ:=@Array.getElem?_eq_some_iff
abbrev ac0:=@PySem.wpAny_onRaise
abbrev ac1:=@List.length_eraseIdx_of_lt
abbrev ac2:=@Int.ofNat_inj
abbrev ac3:=@PySem.wpAny_assign_Name
abbrev ac4:=@PySem.wpAny_pyIter_slot
abbrev ac5:=@PySem.fits_of_scanBound
abbrev ac6:=@List.idxOf_append
abbrev ac7:=@PySem.call_meets
abbrev ac8:=@PySem.F.plain_extend_loop
abbrev ac9:=@PySem.Around.in1_units
abbrev ada:=@List.getElem?_take_of_lt
abbrev adb:=@List.map_nil
abbrev ade:=@PySem.noFill_tuple_add
abbrev adf:=@List.lookup_cons
abbrev adg:=@beq_self_eq_true
abbrev adh:=@Int.ofNat_lt
abbrev adi:=@List.all_eq_true
abbrev adk:=@Nat.sub_self
abbrev adl:=@PySem.F.slot_list_extend
abbrev adm:=@PySem.F.type_list_extend
abbrev adn:=@PySem.F.args_dict_get_3
abbrev ado:=@PySem.F.plainAttrs_dict
abbrev adp:=@PySem.F.plainAttrs_list
abbrev adq:=@List.length_eq_zero_iff
abbrev ads:=@PySem.F.plain_list_iadd
abbrev adt:=@List.filter_cons_of_pos
abbrev adu:=@List.filter_cons_of_neg
abbrev adv:=@List.getElem?_cons_succ
abbrev adw:=@List.of_mem_zip
abbrev adx:=@List.idxOf_cons
abbrev ady:=@Nat.mod_lt
abbrev adz:=@Bool.not_true
abbrev adA:=@Bool.or_false
section
section
namespace L2
open PySem PySem.Spec PyProof.Rows
inductive D where
 | bV | bl (b:Bool) | int (i:Int) | str (z:Str) | tup (ds:List D) | lst (ds:List D)
mutual
noncomputable def D.same:D->D->Bool
 | .bV,.bV=>true
 | .bl a,.bl b=>a == b
 | .int a,.int b=>a == b
 | .str a,.str b=>decide (a=b)
 | .tup a,.tup b=>D.pR a b
 | .lst a,.lst b=>D.pR a b
 | _,_=>false
noncomputable def D.pR:List D->List D->Bool
 | [],[]=>true
 | a :: as,b :: bs=>D.same a b && D.pR as bs
 | _,_=>false
end
mutual
theorem D.same_refl:∀a:D,D.same a a=true
 | .bV=>rfl
 | .bl _=>by simp[D.same]
 | .int _=>by simp[D.same]
 | .str _=>by simp[D.same]
 | .tup a=>by unfold D.same;exact D.oY a
 | .lst a=>by unfold D.same;exact D.oY a
theorem D.oY:∀a:List D,D.pR a a=true
 | []=>rfl
 | a :: as=>by unfold D.pR;rw[D.same_refl a,D.oY as];rfl
end
mutual
theorem D.same_eq:∀{a b:D},D.same a b=true->a=b
 | .bV,b,h=>by cases b <;> simp[D.same] at h ⊢
 | .bl _,b,h=>by cases b <;> simp[D.same] at h ⊢;exact h
 | .int _,b,h=>by cases b <;> simp[D.same] at h ⊢;exact h
 | .str _,b,h=>by cases b <;> simp[D.same] at h ⊢;exact h
 | .tup a,b,h=>by
  cases b with
  | tup b=>unfold D.same at h;rw[D.tR h]
  | _=>simp[D.same] at h
 | .lst a,b,h=>by
  cases b with
  | lst b=>unfold D.same at h;rw[D.tR h]
  | _=>simp[D.same] at h
theorem D.tR:∀{a b:List D},D.pR a b=true->a=b
  | [],b,h=>by cases b <;> simp[D.pR] at h ⊢
  | a :: as, b, h => by
    cases b with
    | nil=>simp[D.pR] at h
    | cons b bs=>
      unfold D.pR at h
      rw[aaP] at h
      rw[D.same_eq h.1,D.tR h.2]
end
noncomputable instance:DecidableEq D:=fun a b=>if h:D.same a b=true then isTrue (D.same_eq h) else isFalse fun e=>h (e▸D.same_refl a)
noncomputable def bI (b:Bool):Int:=if b then 1 else 0
mutual
noncomputable def nf:D->D
 | .bl b=>.int (bI b)
 | .tup ds=>.tup (ID ds)
 | d=>d
noncomputable def ID:List D->List D
 | []=>[]
 | d :: ds=>nf d :: ID ds
end
noncomputable def fJ:Nat->D->Bool
 | _,.bl _=>true
 | _,.int _=>true
 | _,.str _=>true
 | n+1,.tup ds=>ds.all (fJ n)
 | _,_=>false
mutual
theorem BL:∀(d:D) (n:Nat),fJ n d=true->fJ n (nf d)=true
 | .bl _,n,_=>by cases n <;> rfl
 | .int _,n,_=>by cases n <;> rfl
 | .str _,n,_=>by cases n <;> rfl
 | .bV,n,h=>by cases n <;> exact h
 | .lst _,n,h=>by cases n <;> exact h
 | .tup ds,0,h=>by exact h
 | .tup ds,n+1,h=>yF ds n h
theorem yF:∀(ds:List D) (n:Nat),ds.all (fJ n)=true->(ID ds).all (fJ n)=true
 | [],n,_=>rfl
 | d :: ds,n,h=>by
  rw[aa4,aaP] at h
  show((nf d :: ID ds).all (fJ n))=true
  rw[aa4,BL d n h.1,yF ds n h.2]
  rfl
end
mutual
inductive ve (h:Heap):Value->D->Prop
 | bool (b:Bool):ve h (.bool b) (.int (bI b))
 | int (i:Int) (t:Tok):ve h (.int i t) (.int i)
 | str (x:Str) (t:Tok):ve h (.str x t) (.str x)
 | tup {a:Addr}{its:AAI}{ds:List D}(p:h.IsTuple a its.toArray) (r:kH h its ds):ve h (.ref a) (.tup ds)
inductive kH (h:Heap):List Value->List D->Prop
 | nil:kH h [] []
 | cons {u:Value}{d:D}{us:AAI}{ds:List D}(r:ve h u d) (rs:kH h us ds):kH h (u :: us) (d :: ds)
end
mutual
noncomputable def EH (w:World):D->Int
 | .int i=>hashInt i
 | .str x=>hashStr w x
 | .tup ds=>reduceHash (Builtin.Tuple.tupleHashOf (oZ w ds))
 | _=>0
noncomputable def oZ (w:World):List D->List Int
 | []=>[]
 | d :: ds=>EH w d :: oZ w ds
end
mutual
noncomputable def wQ:D->Nat
 | .tup ds=>sX ds+1
 | _=>1
noncomputable def sX:List D->Nat
 | []=>0
 | d :: ds=>wQ d+sX ds
end
theorem kH.length {h:Heap}:∀{us:AAI}{ds:List D},kH h us ds->us.length=ds.length
 | _,_,.nil=>rfl
 | _,_,.cons _ rs=>congrArg Nat.succ (kH.length rs)
mutual
theorem ve.inj {h:Heap}:∀{v:Value}{d e:D},ve h v d->ve h v e->d=e
 | _,_,_,.bool b,r=>by cases r;rfl
 | _,_,_,.int i t,r=>by cases r;rfl
 | _,_,_,.str x t,r=>by cases r;rfl
 | _,_,_,@ve.tup _ a its ds p r,q=>by
  cases q with
  | @tup _ its' ds' p' r'=>
   obtain⟨o,h1,_,n,h2⟩:=p
   obtain⟨o',WR,_,n',h2'⟩:=p'
   rw[h1] at WR
   cases WR
   rw[h2] at h2'
   injection h2' with e1 _
   have e:its=its':=by simpa using congrArg Array.toList e1
   subst e
   rw[kH.inj r r']
theorem kH.inj {h:Heap}:∀{vs:AAI}{ds es:List D},kH h vs ds->kH h vs es->ds=es
 | _,_,_,.nil,r=>by cases r;rfl
 | _,_,_,.cons r1 s1,r=>by
  cases r with
  | cons r2 s2=>rw[ve.inj r1 r2,kH.inj s1 s2]
end
mutual
theorem ve.keeps {h h':Heap}{d:Addr}{o:Obj}{es:Array DictEntry}{ep:Nat}(ho:h.get? d=some o) (hd:o.data= .dict es ep) (hs:Heap.SameBut d h h'):∀{v:Value}{k:D},ve h v k->ve h' v k
 | _,_,.bool b=>.bool b
 | _,_,.int i t=>.int i t
 | _,_,.str x t=>.str x t
 | _,_,@ve.tup _ a its ds p r=>by
  obtain⟨o',h1,h2,n,h3⟩:=p
  have hne:a≠d:=by
   intro z
   subst z
   rw[ho] at h1
   cases h1
   rw[hd] at h3
   cases h3
  exact .tup ⟨o',(hs.2 a hne).trans h1,h2,n,h3⟩ (kH.keeps ho hd hs r)
theorem kH.keeps {h h':Heap}{d:Addr}{o:Obj}{es:Array DictEntry}{ep:Nat}(ho:h.get? d=some o) (hd:o.data= .dict es ep) (hs:Heap.SameBut d h h'):∀{v:AAI}{k:List D},kH h v k->kH h' v k
 | _,_,.nil=>.nil
 | _,_,.cons r1 s1=>.cons (ve.keeps ho hd hs r1) (kH.keeps ho hd hs s1)
end
section
variable {prog:Program}{w:World}{E:AAB}
def rT {A:Around}{s:Shared}{b:Bool}{Q:Int->Shared->Prop}(h:Q (hashInt (bI b)) {s with toks:=s.toks+1}):wpAny (model prog w) A (pyHash (.bool b)) Q E s:=by
 refine PySem.W.pyHash_slot (T:="bool") rfl F.slot_bool_hash F.entry_int_hash (F.args_int_hash_1 _) (beq_builtin_none _) (.inl rfl) ?_
 cases b
 ·exact(show wpAny _ _ (do ret (<-mkInt 0)) _ _ s from Zv (wpAny_mkInt (wpAny_pure ⟨_,_,rfl,h⟩)))
 ·exact(show wpAny _ _ (do ret (<-mkInt 1)) _ _ s from Zv (wpAny_mkInt (wpAny_pure ⟨_,_,rfl,h⟩)))
mutual
theorem yG : ∀ (d : D) {n : Nat} {v : Value} {A : Around} {s : Shared} {Q : Int -> Shared -> Prop}, ve s.heap v d -> fJ n d = true -> A.units + n < cLine -> Q (EH w d) { s with toks := s.toks + wQ d } -> wpAny (model prog w) A (pyHash v) Q E s
  | .int i,n,v,A,s,Q,x,_,_,h=>by
    cases x with
    | int=>exact wpAny_pyHash_int h
    | bool b=>exact rT h
  | .str y,n,v,A,s,Q,x,_,_,h=>by cases x;exact wpAny_pyHash_str h
  | .bV,n,v,A,s,Q,x,_,_,h=>by cases x
  | .bl _,n,v,A,s,Q,x,_,_,h=>by cases x
  | .lst _,n,v,A,s,Q,x,_,_,h=>by cases x
  | .tup ds,n,v,A,s,Q,x,hk,hu,h=>by
    cases n with
    | zero=>simp[fJ] at hk
    | succ n=>
      cases x with
      | @tup a its _ p r=>
        obtain⟨o,hg,hc,m,hd⟩:=p
        refine PySem.W.pyHash_slot (T:="tuple") ⟨_,hg,hc⟩ F.slot_tuple_hash F.entry_tuple_hash (F.args_tuple_hash_1 _) (beq_builtin_none _) (.inr (by omega)) ?_
        show wpAny _ _ (Builtin.Tuple.tupleItemsOf (.ref a) >>= _) _ _ s
        refine Zv (wpAny_tupleItemsOf hg hd ?_)
        refine Zv ?_
        rw[<-acd]
        refine vO ds (n:=n) (A:=A.in1) (b:=#[]) r hk (by rw[ac9];omega) fun b hb=>?_
        show wpAny _ _ (retInt (Builtin.Tuple.tupleHashOf b.toList)) _ _ _
        rw[hb]
        refine Zv (wpAny_mkInt (wpAny_pure ⟨_,_,rfl,?_⟩))
        have e:(#[]:Array Int).toList++oZ w ds=oZ w ds:=by simp
        rw[e]
        exact h
theorem vO:∀(ds:List D){n:Nat}{vs:AAI}{A:Around}{s:Shared}{b:Array Int}{Q:Array Int->Shared->Prop},kH s.heap vs ds->ds.all (fJ n)=true->A.units+n < cLine->
    (∀b',b'.toList=b.toList++oZ w ds->Q b' {s with toks:=s.toks+sX ds})->
    wpAny (model prog w) A (forIn vs b fun x r=>do let h <-pyHash x;pure PUnit.unit;pure (ForInStep.yield (r.push h))) Q E s
  | [],n,_,A,s,b,Q,x,_,_,h=>by cases x;exact wpAny_pure (h b (by simp[oZ]))
  | d :: ds, n, _, A, s, b, Q, x, hk, hu, h => by
    cases x with
    | cons x1 x2=>
      rw[aa4,aaP] at hk
      rw[aba]
      refine Zv (Zv (yG d (n:=n) x1 hk.1 hu ?_))
      refine Zv (wpAny_pure (wpAny_pure ?_))
      refine vO ds (n:=n) x2 hk.2 hu fun b' hb=>?_
      have q:=h b' (by simp[hb,oZ])
      show Q b' {s with toks:=s.toks+wQ d+sX ds}
      rw[Nat.add_assoc]
      exact q
end
end
def wR (n:Nat) (f:Nat->Bool):(List.range (n+1)).all f=(f 0 && (List.range n).all fun j=>f (j+1)):=by
 rw[List.range_succ_eq_map,aa4,List.all_map];rfl
theorem yH:∀ds es:List D,((List.range (min ds.length es.length)).all (fun j=>decide (ds[j]? =es[j]?)) && ds.length == es.length)=decide (ds=es)
  | [],[]=>by simp
  | [],e :: es=>by simp
  | d :: ds,[]=>by simp
  | d :: ds, e :: es => by
    have ih:=yH ds es
    have e1:min (d :: ds).length (e :: es).length=min ds.length es.length+1:=by simp only[aaQ];omega
    rw[e1,wR]
    have e2:(fun j=>decide ((d :: ds)[j+1]? =(e :: es)[j+1]?))=fun j=>decide (ds[j]? =es[j]?):=by funext j;simp
    have e3:((d :: ds).length == (e :: es).length)=(ds.length == es.length):=by simp
    have e4:decide ((d :: ds)[0]? =(e :: es)[0]?)=decide (d=e):=by simp
    have e5:decide (d :: ds=e :: es)=(decide (d=e) && decide (ds=es)):=by
      by_cases a:d=e
      . subst a;by_cases b:ds=es <;> simp[b]
      . simp[a]
    rw[e2,e3,e4,Bool.and_assoc,ih,e5]
def EI {α:Type}(l:List α) (j:Nat) (h:j < l.toArray.size):l[j]? =some l.toArray[j]:=by
 have z:j < l.length:=by simpa using h
 simp[z]
mutual
theorem WS : ∀ (d : D) {e : D} {n : Nat} {A : Around} {s : Shared} {u v : Value}, ve s.heap u d -> ve s.heap v e -> fJ n d = true -> A.units + n < cLine -> SeqAt.EqAt A s u v (decide (d = e))
  | .int i,e,n,A,s,u,v,r1,r2,_,hu=>by
    have di:∀i j:Int,decide (D.int i=D.int j)=(i == j):=fun i j=>by by_cases z:i=j <;> simp[z]
    cases r1 with
    | int _ t=>
      cases r2 with
      | int j t'=>rw[di];exact SeqAt.EqAt.int_int i t j t'
      | bool b=>rw[di];exact acM i t b
      | str x t'=>exact acU i t x t'
      | tup p r=>exact SeqAt.EqAt.int_tuple i t p (by omega)
    | bool a=>
      cases r2 with
      | int j t'=>rw[di];exact acN a j t'
      | bool b=>
        have:(bI a == bI b)=(a == b):=by cases a <;> cases b <;> rfl
        rw[di,this];exact acF a b
      | str x t'=>exact acO a x t'
      | tup p r=>exact SeqAt.EqAt.bool_tuple a p (by omega)
  | .str i, e, n, A, s, u, v, r1, r2, _, hu => by
    cases r1 with
    | str _ t=>
    cases r2 with
    | int j t'=>exact acV i t j t'
    | bool b=>exact acP i t b
    | str x t' => have : decide (D.str i = D.str x) = (i == x) := by by_cases z : i = x <;> simp [z]
                  rw[this];exact SeqAt.EqAt.str_str i t x t'
    | tup p r=>exact SeqAt.EqAt.str_tuple i t p (by omega)
  | .bV,e,n,A,s,u,v,r1,r2,hk,hu=>by cases r1
  | .bl _,e,n,A,s,u,v,r1,r2,hk,hu=>by cases r1
  | .lst _,e,n,A,s,u,v,r1,r2,hk,hu=>by cases r1
  | .tup ds,e,n,A,s,u,v,r1,r2,hk,hu=>by
    cases n with
    | zero=>simp[fJ] at hk
    | succ n=>
    cases r1 with
    | @tup ca fK _ pa ra=>
    cases r2 with
    | int j t'=>exact SeqAt.EqAt.tuple_int j t' pa (by omega)
    | bool b=>exact SeqAt.EqAt.tuple_bool b pa (by omega)
    | str x t'=>exact SeqAt.EqAt.tuple_str x t' pa (by omega)
    | @tup cb bJ es pb rb=>
      have items:∀j (h1:j < fK.toArray.size) (h2:j < bJ.toArray.size),SeqAt.EqAt A.in1 s fK.toArray[j] bJ.toArray[j] (decide (ds[j]? =es[j]?)):=fun j h1 h2=>
        Pj ds (n:=n) (A:=A.in1) ra rb hk (by rw[ac9];omega) (EI fK j h1) (EI bJ j h2)
      by_cases hc:ca=cb
      . subst hc
        have z:=ve.inj (.tup pa ra) (.tup pb rb)
        rw[z,aaC rfl]
        exact acG _
      . have q:=SeqAt.RcAt.tuples (e:=fun j=>decide (ds[j]? =es[j]?)) pa pb (by omega) items
        rw[ZL,ZL,ra.length,rb.length,yH] at q
        have z:decide (D.tup ds=D.tup es)=decide (ds=es):=by by_cases a:ds=es <;> simp[a]
        rw[z]
        exact acW hc q
theorem Pj : ∀ (ds : List D) {es : List D} {n : Nat} {A : Around} {s : Shared} {us vs : List Value} {j : Nat} {u v : Value}, kH s.heap us ds -> kH s.heap vs es -> ds.all (fJ n) = true -> A.units + n < cLine -> us[j]? = some u -> vs[j]? = some v ->
    SeqAt.EqAt A s u v (decide (ds[j]? =es[j]?))
  | [],es,n,A,s,us,vs,j,u,v,r1,r2,hk,hu,h1,h2=>by cases r1;simp at h1
  | d :: ds, es, n, A, s, us, vs, j, u, v, r1, r2, hk, hu, h1, h2 => by
    rw[aa4,aaP] at hk
    cases r1 with
    | cons a as=>
    cases r2 with
    | nil=>simp at h2
    | @cons v' e' vs' es' b bs=>
      cases j with
      | zero=>
        simp only[ack,Option.some.injEq] at h1 h2
        subst h1
        subst h2
        have z:decide ((d :: ds)[0]? =(e' :: es')[0]?)=decide (d=e'):=by simp
        rw[z]
        exact WS d a b hk.1 hu
      | succ j=>
        have z:decide ((d :: ds)[j+1]? =(e' :: es')[j+1]?)=decide (ds[j]? =es'[j]?):=by simp
        rw[z]
        exact Pj ds as bs hk.2 hu (by simpa using h1) (by simpa using h2)
end
section
variable {prog:Program}{w:World}{A:Around}{E:AAB}{s:Shared}
mutual
theorem EJ : ∀ (d : D) {n : Nat} {v : Value} {Q : Bool -> Shared -> Prop}, ve s.heap v d -> fJ n d = true -> Q true s -> wpAny (model prog w) A (eqIsQuiet n v) Q E s
  | .int i,n,v,Q,x,_,h=>by cases x <;> (rw[eqIsQuiet_byValue n rfl];exact wpAny_pure h)
  | .str y,n,v,Q,x,_,h=>by cases x;rw[eqIsQuiet_byValue n rfl];exact wpAny_pure h
  | .bV,n,v,Q,x,_,h=>by cases x
  | .bl _,n,v,Q,x,_,h=>by cases x
  | .lst _,n,v,Q,x,_,h=>by cases x
  | .tup ds,n,v,Q,x,hk,h=>by
    cases n with
    | zero=>simp[fJ] at hk
    | succ n=>
      cases x with
      | @tup a its _ p r=>
        obtain⟨o,hg,hc,m,hd⟩:=p
        have hT:s.TypeIs (.ref a) "tuple":=⟨o,hg,hc⟩
        unfold eqIsQuiet
        refine Zv (ab7 hT F.slot_tuple_eq.lookup ?_)
        show wpAny _ _ (isInstance (.ref a) (.type "tuple") >>= _) _ _ s
        refine Zv (aaR hT isSubtype_tuple_tuple ?_)
        simp only[adz,aa6,abW]
        refine Zv (aaK hg hd ?_)
        refine Zv ?_
        show wpAny _ _ (forIn its.toArray _ _) _ _ s
        rw[<-acd]
        exact vP ds r hk (wpAny_pure h)
theorem vP:∀(ds:List D){n:Nat}{vs:AAI}{Q:Option Bool×Unit->Shared->Prop},kH s.heap vs ds->ds.all (fJ n)=true->Q (none,()) s->
    wpAny (model prog w) A (forIn vs ((none,()):Option Bool×Unit) fun y __s=>do
      let __do_lift <-eqIsQuiet n y
      if(!__do_lift)=true then pure (ForInStep.done (some false,())) else pure (ForInStep.yield (none,()))) Q E s
  | [],n,_,Q,x,_,h=>by cases x;exact wpAny_pure h
  | d :: ds, n, _, Q, x, hk, h => by
    cases x with
    | cons x1 x2=>
      rw[aa4,aaP] at hk
      rw[aba]
      refine Zv (Zv (EJ d x1 hk.1 ?_))
      simp only[adz,aa6,abW]
      refine wpAny_pure ?_
      exact vP ds x2 hk.2 h
end
end
noncomputable def iA (prog:Program) (w:World):HeapKind prog w D where
 is:=fun h k a=>ve h (.ref a) k/\fJ 8 k=true
 hash:=EH w
 draws:=wQ
 room:=fun A=>A.units+8 < cLine
 inj:=fun hx hy=>hx.1.inj hy.1
 keeps:=fun x ho hd hs=>⟨x.1.keeps ho hd hs,x.2⟩
 pyHash:=fun hu hk h=>yG _ hk.1 hk.2 hu h
 eqBool:=fun hu hx hy h=>WS _ hx.1 hy.1 hx.2 hu _ _ _ _ h
 quiet:=fun hk h=>EJ _ hk.1 hk.2 h
def fE {prog:Program}{w:World}{A:Around}(hu:A.units+20 < cLine):(iA prog w).room A.in1:=by
 show A.in1.units+8 < cLine
 rw[ac9]
 omega
end L2
end
namespace L2
open PySem PySem.Spec PyProof.Rows
variable {H H':Hp}{a:Addr}{o:Obj}{u:Value}{P:Program}{w:World}{g':Array GenState}{t' i k:Nat}{ch fp:List Addr}{N ps:List Str}{x qual:Str}{M:Model}{A:Around}{E Q:AAB}{X:Cx}{pins:AAD}{σ:St}{R:V->V->Hp->Prop}{pos pos':Pos}{op:CmpOp}{c tg:Expr}{K:AAA}{es:List Expr}{te:TE}{body:List Stmt}{r:R2}{g:Int->Int->Int}{us:AAI}{y:V}{vs:List V}{base:Heap}{scope:Scope}{kvs:List (D×V)}{xs:List (D×Addr×Value)}{IV:List (TE×TE)}
abbrev Key:=Sum Int Str
noncomputable def tT:Key->Value->Bool
 | .inl k,.bool b=>decide (k=bI b)
 | .inl k,v=>Value.isInt k v
 | .inr x,v=>Value.isStrOf x v
noncomputable def T5 (w:World):Key->Int
 | .inl k=>hashInt k
 | .inr x=>hashStr w x
theorem cH:∀{k:Key}{v:Value},tT k v=true->(∃i t,k=Sum.inl i/\v=Value.int i t)\/(∃b,k=Sum.inl (bI b)/\v=Value.bool b)\/(∃x t,k=Sum.inr x/\v=Value.str x t)
 | .inl i,v,h=>by
  cases v with
  | bool b=>exact .inr (.inl ⟨b,by rw[abO (show decide (i=bI b)=true from h)],rfl⟩)
  | int j t=>obtain⟨t,e⟩:=acp (k:=i) (v:=Value.int j t) h;exact .inl ⟨i,t,rfl,e⟩
  | _=>exact absurd h (by simp[tT,Value.isInt])
 | .inr x,v,h=>by
  obtain⟨t,e⟩:=Value.isStrOf_shape (x:=x) (v:=v) h
  exact .inr (.inr ⟨x,t,rfl,e⟩)
def C2 (i:Int) (t:Tok):tT (.inl i) (.int i t)=true:=by simp[tT,Value.isInt]
def C3 (x:Str) (t:Tok):tT (.inr x) (.str x t)=true:=by simp[tT,Value.isStrOf]
def wU (a b:Int):decide ((Sum.inl a:Key)=Sum.inl b)=(a == b):=by
 by_cases e:a=b
 ·subst e;simp
 ·have h:¬(Sum.inl a:Key)=Sum.inl b:=fun q=>e (Sum.inl.inj q)
  rw[aaf h]
  exact(aa2.mpr e).symm
def L0 (a b:Str):decide ((Sum.inr a:Key)=Sum.inr b)=decide (a=b):=by
 by_cases e:a=b
 ·subst e;simp
 ·have h:¬(Sum.inr a:Key)=Sum.inr b:=fun q=>e (Sum.inr.inj q)
  rw[aaf h,aaf e]
def EK (a:Int) (b:Str):decide ((Sum.inl a:Key)=Sum.inr b)=false:=aaf (fun q=>nomatch q)
def EL (a:Str) (b:Int):decide ((Sum.inr a:Key)=Sum.inl b)=false:=aaf (fun q=>nomatch q)
noncomputable def fQ (prog:Program) (w:World):PySem.KeyKind prog w Key where
  is:=tT
  hash:=T5 w
  inj := fun v a b ha hb => by
    rcases cH ha with⟨i,t,rfl,rfl⟩ | ⟨c,rfl,rfl⟩ | ⟨x,t,rfl,rfl⟩
    . rcases cH hb with⟨j,u,rfl,e⟩ | ⟨c',rfl,e⟩ | ⟨y,u,rfl,e⟩
      . injection e with e1 _;rw[e1]
      . exact nomatch e
      . exact nomatch e
    . rcases cH hb with⟨j,u,rfl,e⟩ | ⟨c',rfl,e⟩ | ⟨y,u,rfl,e⟩
      . exact nomatch e
      . injection e with e1;rw[e1]
      . exact nomatch e
    . rcases cH hb with⟨j,u,rfl,e⟩ | ⟨c',rfl,e⟩ | ⟨y,u,rfl,e⟩
      . exact nomatch e
      . exact nomatch e
      . injection e with e1 _;rw[e1]
  byValue:=fun k v h=>by
    rcases cH h with⟨i,t,rfl,rfl⟩ | ⟨c,rfl,rfl⟩ | ⟨x,t,rfl,rfl⟩ <;> rfl
  pyHash:=fun hv h=>by
    rcases cH hv with⟨i,t,rfl,rfl⟩ | ⟨c,rfl,rfl⟩ | ⟨x,t,rfl,rfl⟩
    . exact wpAny_pyHash_int h
    . exact rT h
    . exact wpAny_pyHash_str h
  eqBool:=fun hu hv h=>by
    rcases cH hu with⟨i,t,rfl,rfl⟩ | ⟨c,rfl,rfl⟩ | ⟨x,t,rfl,rfl⟩
    . rcases cH hv with⟨j,u,rfl,rfl⟩ | ⟨c',rfl,rfl⟩ | ⟨y,u,rfl,rfl⟩
      . rw[wU] at h;exact wpAny_eqBool_int h
      . rw[wU] at h;exact acM i t c' _ _ _ _ h
      . rw[EK] at h;exact acU i t y u _ _ _ _ h
    . rcases cH hv with⟨j,u,rfl,rfl⟩ | ⟨c',rfl,rfl⟩ | ⟨y,u,rfl,rfl⟩
      . rw[wU] at h;exact acN c j u _ _ _ _ h
      . have e:(bI c == bI c')=(c == c'):=by cases c <;> cases c' <;> rfl
        rw[wU,e] at h;exact acF c c' _ _ _ _ h
      . rw[EK] at h;exact acO c y u _ _ _ _ h
    . rcases cH hv with⟨j,u,rfl,rfl⟩ | ⟨c',rfl,rfl⟩ | ⟨y,u,rfl,rfl⟩
      . rw[EL] at h;exact acV x t j u _ _ _ _ h
      . rw[EL] at h;exact acP x t c' _ _ _ _ h
      . rw[L0] at h;exact wpAny_eqBool_str h
  «strs»:=fun k x t v h=>by
    rcases cH h with⟨i,u,rfl,e⟩ | ⟨c,rfl,e⟩ | ⟨y,u,rfl,e⟩
    . exact nomatch e
    . exact nomatch e
    . injection e with e1 _
      subst e1
      cases v <;> rfl
def yJ (prog:Program) (w:World) (i:Int) (t:Tok):(fQ prog w).is (.inl i) (.int i t)=true:=C2 i t
def yK (prog:Program) (w:World) (x:Str) (t:Tok):(fQ prog w).is (.inr x) (.str x t)=true:=C3 x t
inductive V where
 | bV | bl (b:Bool) | int (i:Int) | str (x:Str) | T6 (b:Array UInt8) | flt (b:UInt64) | ref (a:Addr) | ty (n:String)
 deriving DecidableEq
def RelV:V->Value->Prop
 | .bV,u=>u=Value.none
 | .bl b,u=>u=Value.bool b
 | .int i,u=>∃t,u=Value.int i t
 | .str x,u=>∃t,u=Value.str x t
 | .T6 b,u=>∃t,u=Value.bytes b t
 | .flt b,u=>∃t,u=Value.float b t
 | .ref a,u=>u=Value.ref a
 | .ty n,u=>u=Value.type n
abbrev Vals:List V->List Value->Prop:=Paired RelV
def Vals.length {xs:List V}{us:AAI}(r:Vals xs us):xs.length=us.length:=ab3 r
theorem Vals.get:∀{xs:List V}{us:AAI}{i:Nat}{x:V},Vals xs us->xs[i]? =some x->∃u,us[i]? =some u/\RelV x u
 | _,_,_,_,.nil,e=>by simp at e
 | _,_,0,_,.cons r _,e=>by simp at e;subst e;exact⟨_,rfl,r⟩
 | _,_,i+1,x,.cons _ t,e=>by
  obtain⟨u,h1,h2⟩:=Vals.get (i:=i) (x:=x) t (by simpa using e)
  exact⟨u,by simpa using h1,h2⟩
theorem Vals.set {x:V}{u:Value}(r:RelV x u):∀{xs:List V}{us:AAI}(i:Nat),Vals xs us->Vals (xs.set i x) (us.set i u)
 | _,_,_,.nil=>.nil
 | _,_,0,.cons _ t=>.cons r t
 | _,_,i+1,.cons q t=>.cons q (Vals.set r i t)
theorem Vals.append:∀{xs ys:List V}{us ws:AAI},Vals xs us->Vals ys ws->Vals (xs++ys) (us++ws)
 | _,_,_,_,.nil,s=>s
 | _,_,_,_,.cons r t,s=>.cons r (Vals.append t s)
theorem Vals.take:∀{xs:List V}{us:AAI}(n:Nat),Vals xs us->Vals (xs.take n) (us.take n)
 | _,_,0,_=>.nil
 | _,_,_+1,.nil=>.nil
 | _,_,n+1,.cons r t=>.cons r (Vals.take n t)
theorem Vals.drop:∀{xs:List V}{us:AAI}(n:Nat),Vals xs us->Vals (xs.drop n) (us.drop n)
 | _,_,0,r=>r
 | _,_,_+1,.nil=>.nil
 | _,_,n+1,.cons _ t=>Vals.drop n t
def mS:Option V->Option Value->Prop
 | some v,some u=>RelV v u
 | none,none=>True
 | _,_=>False
def KV {κ:Type}:List (κ×V)->List (κ×Value)->Prop:=Paired fun(p:κ×V) (q:κ×Value)=>p.1=q.1/\RelV p.2 q.2
noncomputable def kV:Key->V
 | .inl i=>.int i
 | .inr x=>.str x
inductive HO where
 | lst (xs:List V)
 | tup (xs:List V)
 | dK (kvs:List (Key×V)) | dT (kvs:List (D×V))
 | set (S:Int->Bool) (n:Nat)
 | ins (C dx:Addr) (fs:List (Str×V))
 | own (x:Addr)
 | xd (fs:List (Str×V))
 | met (f x:Addr)
 | gT (lo hi:Int)
 | jw (o:Obj) (u:HO)
 | L1 (ps:AAH)
 | ext (φ:Heap->Prop)
abbrev Hp:=Addr->Option HO
mutual
inductive Rep (H:Hp):V->D->Prop
 | bV:Rep H .bV .bV
 | bl (b:Bool):Rep H (.bl b) (.bl b)
 | int (i:Int):Rep H (.int i) (.int i)
 | str (z:Str):Rep H (.str z) (.str z)
 | tup {a:Addr}{vs:List V}{ds:List D}(e:H a=some (.tup vs)) (r:aX H vs ds):Rep H (.ref a) (.tup ds)
 | lst {a:Addr}{vs:List V}{ds:List D}(e:H a=some (.lst vs)\/∃o,H a=some (.jw o (.lst vs))) (r:aX H vs ds):Rep H (.ref a) (.lst ds)
inductive aX (H:Hp):List V->List D->Prop
 | nil:aX H [] []
 | cons {v:V}{d:D}{vs:List V}{ds:List D}(r:Rep H v d) (rs:aX H vs ds):aX H (v :: vs) (d :: ds)
end
mutual
theorem Rep.tups {H H':Hp}(ht:∀b xs,H b=some (.tup xs)->H' b=some (.tup xs)):∀(d:D){n:Nat}{v:V},Rep H v d->fJ n d=true->Rep H' v d
 | .bV,n,_,_,k=>by simp[fJ] at k
 | .bl b,n,_,r,k=>by cases r;exact .bl b
 | .lst _,n,_,_,k=>by simp[fJ] at k
 | .int i,n,_,r,k=>by cases r;exact .int i
 | .str i,n,_,r,k=>by cases r;exact .str i
 | .tup ds,n,_,r,k=>by
  cases n with
  | zero=>simp[fJ] at k
  | succ n=>
   cases r with
   | @tup a vs _ e rs=>exact .tup (ht _ _ e) (aX.tups ht ds rs k)
theorem aX.tups {H H':Hp}(ht:∀b xs,H b=some (.tup xs)->H' b=some (.tup xs)):∀(ds:List D){n:Nat}{vs:List V},aX H vs ds->ds.all (fJ n)=true->aX H' vs ds
 | [],n,_,r,k=>by cases r;exact .nil
 | d :: ds,n,_,r,k=>by
  rw[aa4,aaP] at k
  cases r with
  | cons r1 r2=>exact .cons (Rep.tups ht d r1 k.1) (aX.tups ht ds r2 k.2)
end
def Kd (H:Hp) (b:Addr) (k:D):Prop:=∃d,Rep H (.ref b) d/\fJ 8 d=true/\nf d=k
def Kd.tups {H H':Hp}{b:Addr}{k:D}(x:Kd H b k) (ht:∀b xs,H b=some (.tup xs)->H' b=some (.tup xs)):Kd H' b k:=by
 obtain⟨d,r,hk,e⟩:=x
 exact⟨d,Rep.tups ht d r hk,hk,e⟩
noncomputable def upd (H:Hp) (a:Addr) (o:HO):Hp:=fun b=>if b=a then some o else H b
def aD {o:HO}:upd H a o a=some o:=by unfold upd;rw[if_pos rfl]
def az {b:Addr}{o:HO}(h:b≠a):upd H a o b=H b:=by unfold upd;rw[if_neg h]
def Lg {b:Addr}{o u:HO}(h:H a=some o) (h':H b=some u) (d:o≠u):a≠b:=by
 intro e;subst e;rw[h] at h';exact d (ZU h')
def aT {b:Addr}{o:HO}(h:H a=some o) (h':H b=none):a≠b:=by
 intro e;subst e;rw[h] at h';cases h'
section
variable (P:Program) (w:World)
def c7 (H:Hp) (h:Heap) (a:Addr):HO->Prop
 | .lst xs=>xs.length<=sizeLine/\∃(its:AAI) (n:Nat),Vals xs its/\h.get? a=some {cls:=.type "list",data:=.seq its.toArray n}
 | .tup xs=>xs.length<=sizeLine/\∃its:List Value,Vals xs its/\IsTup h a its.toArray
 | .dK kvs=>kvs.length<=sizeLine/\(a == sysModules)=false/\∃vs,KV kvs vs/\h.DictOf (fQ P w) a vs
 | .dT kvs=>kvs.length<=sizeLine/\(a == sysModules)=false/\∃xs:List (D×Addr×Value),
   Paired (fun(p:D×V) (q:D×Addr×Value)=>p.1=q.1/\Kd H q.2.1 p.1/\RelV p.2 q.2.2) kvs xs/\
   ∃o es ep,h.get? a=some o/\o.ExactDict/\o.data= .dict es ep/\es.toList=xs.map (entryOfKey (iA P w))/\(xs.map (·.1)).Nodup
 | .set S n=>h.SetOf (intKind P w) a S n
 | .ins C dx fs=>H dx=some (.own a)/\fs.length<=1000/\dx≠a/\h.get? a=some (PySem.W.instObj C dx)/\
   ∃mA,h.Ns1 dx mA/\(∀f,mS (fs.lookup f) (mA f))/\PySem.Within mA (fs.map (·.1))
 | .own _=>∃o,h.get? a=some o
 | .xd fs=>∃mA,h.Ns1 a mA/\∀f,mS (fs.lookup f) (mA f)
 | .gT lo hi=>∃t u v,h.get? a=some {cls:=.type "range",data:=.fields #[.int lo t,.int hi u,.int 1 v]}
 | .jw o u=>h.get? a=some o/\c7 H h a u
 | .L1 ps=>h.get? a=some {cls:=.none,data:=.fields ps}
 | .met f x=>h.get? a=some (PySem.W.methodObj (.ref f) (.ref x))
 | .ext φ=>φ h/\(∃o,h.get? a=some o)/\∀h1 h2:Heap,φ h1->(∀o,h1.get? a=some o->h2.get? a=some o)->φ h2
def mZ (H:Hp) (h:Heap):Prop:=∀a o,H a=some o->c7 P w H h a o
end
section
variable {P:Program}{w:World}{H H':Hp}{h h':Heap}{a:Addr}{o:HO}
def c7.lt (x:c7 P w H h a o):a < h.objs.size:=by
 cases o with
 | lst xs=>obtain⟨_,_,_,_,e⟩:=x;exact ZP e
 | tup xs=>obtain⟨_,_,_,p⟩:=x;exact p.lt
 | dK kvs=>obtain⟨_,_,_,_,o,_,_,e,_⟩:=x;exact ZP e
 | dT kvs=>obtain⟨_,_,_,_,o,_,_,e,_⟩:=x;exact ZP e
 | set S n=>obtain⟨o,_,_,_,e,_⟩:=x;exact ZP e
 | ins C dx fs=>obtain⟨_,_,_,e,_⟩:=x;exact ZP e
 | own y=>obtain⟨_,e⟩:=x;exact ZP e
 | xd fs=>obtain⟨_,⟨_,_,_,e,_⟩,_⟩:=x;exact ZP e
 | gT lo hi=>obtain⟨_,_,_,e⟩:=x;exact ZP e
 | jw ob u=>obtain⟨e,_⟩:=x;exact ZP e
 | L1 ps=>exact ZP (show h.get? a=some _ from x)
 | met f y=>exact ZP (show h.get? a=some _ from x)
 | ext φ=>obtain⟨_,⟨_,e⟩,_⟩:=x;exact ZP e
theorem Paired.C4 {α β:Type}{F G:α->β->Prop}:∀{l₁:List α}{l₂:List β},Paired F l₁ l₂->(∀a b,F a b->G a b)->Paired G l₁ l₂
 | _,_,.nil,_=>.nil
 | _,_,.cons r t,f=>.cons (f _ _ r) (Paired.C4 t f)
def c7.stay (x:c7 P w H h a o) (k:∀b u,(b=a\/H b=some (.own a))->h.get? b=some u->h'.get? b=some u)
  (ho:∀b,H b=some (.own a)->H' b=some (.own a)) (ht:∀b xs,H b=some (.tup xs)->H' b=some (.tup xs)):c7 P w H' h' a o:=by
 induction o with
 | lst xs=>obtain⟨z,its,n,r,e⟩:=x;exact⟨z,its,n,r,k _ _ (.inl rfl) e⟩
 | tup xs=>obtain⟨z,its,r,ob,e,c⟩:=x;exact⟨z,its,r,ob,k _ _ (.inl rfl) e,c⟩
 | dK kvs=>obtain⟨z,y,vs,r,ob,es,ep,e,c⟩:=x;exact⟨z,y,vs,r,ob,es,ep,k _ _ (.inl rfl) e,c⟩
 | dT kvs=>
  obtain⟨z,y,xs,r,ob,es,ep,e,c⟩:=x
  exact⟨z,y,xs,Paired.C4 r fun p q z=>⟨z.1,z.2.1.tups ht,z.2.2⟩,ob,es,ep,k _ _ (.inl rfl) e,c⟩
 | set S n=>obtain⟨ob,es,ep,t,e,c⟩:=x;exact⟨ob,es,ep,t,k _ _ (.inl rfl) e,c⟩
 | ins C dx fs=>
  obtain⟨d,z,ne,e,mA,⟨od,es,ep,e2,c⟩,r⟩:=x
  exact⟨ho _ d,z,ne,k _ _ (.inl rfl) e,mA,⟨od,es,ep,k _ _ (.inr d) e2,c⟩,r⟩
 | own y=>obtain⟨ob,e⟩:=x;exact⟨ob,k _ _ (.inl rfl) e⟩
 | xd fs=>obtain⟨mA,⟨od,es,ep,e,c⟩,r⟩:=x;exact⟨mA,⟨od,es,ep,k _ _ (.inl rfl) e,c⟩,r⟩
 | gT lo hi=>obtain⟨t,u,v,e⟩:=x;exact⟨t,u,v,k _ _ (.inl rfl) e⟩
 | jw ob u ih=>obtain⟨e,q⟩:=x;exact⟨k _ _ (.inl rfl) e,ih q⟩
 | L1 ps=>
  have e:h.get? a=some {cls:=.none,data:=.fields ps}:=x
  show h'.get? a=some {cls:=.none,data:=.fields ps}
  exact k a _ (.inl rfl) e
 | met f y=>
  have e:h.get? a=some (PySem.W.methodObj (.ref f) (.ref y)):=x
  show h'.get? a=some (PySem.W.methodObj (.ref f) (.ref y))
  exact k a _ (.inl rfl) e
 | ext φ=>obtain⟨p,⟨o,e⟩,st⟩:=x;exact⟨st _ _ p fun o q=>k _ _ (.inl rfl) q,⟨o,k _ _ (.inl rfl) e⟩,st⟩
def mZ.lt (x:mZ P w H h) (e:H a=some o):a < h.objs.size:=(x a o e).lt
def mZ.fresh (x:mZ P w H h) (e:h.objs.size<=a):H a=none:=by
 cases q:H a with
 | none=>rfl
 | some u=>exact absurd (ZQ (x.lt q) e) (aaz _)
def mZ.kept (x:mZ P w H h) (k:∀b u,h.get? b=some u->h'.get? b=some u):mZ P w H h':=fun a o e=>
 (x a o e).stay (fun b u _ q=>k b u q) (fun _ q=>q) fun _ _ q=>q
def mZ.laid (x:mZ P w H h) (k:∀b u,h.get? b=some u->h'.get? b=some u) (hp:h.objs.size<=a) (new:c7 P w (upd H a o) h' a o):mZ P w (upd H a o) h':=fun b u e=>by
 have hn:=x.fresh hp
 by_cases hb:b=a
 ·subst hb;rw[aD] at e;cases e;exact new
 ·rw[az hb] at e
  exact(x b u e).stay (fun c v _ q=>k c v q) (fun c q=>by rw[az (aT q hn)];exact q) fun c xs q=>by rw[az (aT q hn)];exact q
end
def Rd (H:Hp) (a:Addr) (u:HO):Prop:=H a=some u\/∃o,H a=some (.jw o u)
def Rd.of {u:HO}(h:H a=some u):Rd H a u:=.inl h
def Rd.ok {h:Heap}{u:HO}(r:Rd H a u) (x:mZ P w H h):c7 P w H h a u:=by
 rcases r with r | ⟨o,r⟩
 ·exact x a u r
 ·obtain⟨_,q⟩:=x a _ r
  exact q
def Pk:Option HO->Prop
 | some (.lst _)=>True
 | some (.dK _)=>True
 | some (.dT _)=>True
 | some (.set _ _)=>True
 | some (.ins _ _ _)=>True
 | some (.ext _)=>True
 | _=>False
section
variable {P:Program}{w:World}{H:Hp}{h h':Heap}{x e:Addr}{o':HO}
def mZ.write (ok : mZ P w H h) (mu : Pk (H x)) (he : e = x \/ H e = some (.own x)) (k : ∀ b u, b ≠ e -> h.get? b = some u -> h'.get? b = some u) (OO : ∃ u, h'.get? e = some u)
    (new:c7 P w (upd H x o') h' x o'):mZ P w (upd H x o') h':=fun b u q=>by
  have Pn:∀c y,H c=some (.own y)->c≠x:=fun c y r z=>by subst z;rw[r] at mu;exact mu
  have T7:∀c xs,H c=some (.tup xs)->c≠x:=fun c xs r z=>by subst z;rw[r] at mu;exact mu
  by_cases hb:b=x
  . subst hb;rw[aD] at q;cases q;exact new
  . rw[az hb] at q
    by_cases L3:b=e
    . have q':H b=some (.own x):=by
        rcases he with z | z
        . exact absurd (L3.trans z) hb
        . rw[L3];exact z
      rw[q] at q';cases q'
      obtain⟨v,hv⟩:=OO
      exact⟨v,by rw[L3];exact hv⟩
    . refine(ok b u q).stay (fun c v hc r=>k c v ?_ r) (fun c r=>by rw[az (Pn c b r)];exact r) fun c xs r=>by rw[az (T7 c xs r)];exact r
      rcases hc with rfl | hc
      . exact L3
      . rintro rfl
        rcases he with z | z
        . exact Pn c b hc z
        . rw[hc] at z;cases z;exact hb rfl
end
structure Un (fs ex:List Addr) (H H':Hp) (h h':Heap):Prop where
 keep:∀b o,h.get? b=some o->H b=none->b∉fs->b∉ex->h'.get? b=some o
 slot:∀b o,h.get? b=some o->H b=none->b∈fs->b∉ex->∃sl,h'.get? b=some {o with slots:=sl}
 free:∀b o,h.get? b=some o->H b=none->b∉ex->H' b=none
 there:∀b o,h.get? b=some o->b∉ex->∃o',h'.get? b=some o'
 tups:∀b xs,H b=some (.tup xs)->H' b=some (.tup xs)
 tU:∀b o u,H b=some (.jw o u)->H' b=some (.jw o u)
 vg:∀b ps,H b=some (.L1 ps)->∃more,H' b=some (.L1 (ps++more))
section
variable {fs fs' ex ex':List Addr}{H H1 H2:Hp}{h h1 h2 h':Heap}{a x e:Addr}{o:HO}
def Un.any (u:Un fs ex H H1 h h1){b:Addr}{ob:Obj}(q:h.get? b=some ob) (n:H b=none) (hx:b∉ex):∃sl,h1.get? b=some {ob with slots:=sl}:=by
 by_cases hb:b∈fs
 ·exact u.slot b ob q n hb hx
 ·exact⟨ob.slots,u.keep b ob q n hb hx⟩
def Un.kept (k:∀b u,h.get? b=some u->h'.get? b=some u):Un fs ex H H h h':=
 ⟨fun b ob q _ _ _=>k b ob q,fun b ob q _ _ _=>⟨ob.slots,k b ob q⟩,fun _ _ _ n _=>n,fun b ob q _=>⟨ob,k b ob q⟩,fun _ _ q=>q,fun _ _ _ q=>q,fun _ ps q=>⟨#[],by rw[q];simp⟩⟩
def Un.refl:Un fs ex H H h h:=Un.kept fun _ _ q=>q
def Un.laid (k:∀b u,h.get? b=some u->h'.get? b=some u) (hp:h.objs.size<=a) (hn:H a=none):Un fs ex H (upd H a o) h h' where
 keep:=fun b u q _ _ _=>k b u q
 slot:=fun b u q _ _ _=>⟨u.slots,k b u q⟩
 free:=fun b u q n _=>by rw[az (ZY (ZQ (ZP q) hp))];exact n
 there:=fun b u q _=>⟨u,k b u q⟩
 tups:=fun b xs q=>by rw[az (aT q hn)];exact q
 tU:=fun b u xs q=>by rw[az (aT q hn)];exact q
 vg:=fun b ps q=>⟨#[],by rw[az (aT q hn),q];simp⟩
def Un.write (mu:Pk (H x)) (he:e=x\/H e=some (.own x)) (k:∀b u,b≠e->h.get? b=some u->h'.get? b=some u) (OO:∃u,h'.get? e=some u):Un fs ex H (upd H x o) h h':=by
 have hx:∀b,H b=none->b≠x:=fun b n z=>by subst z;rw[n] at mu;exact mu
 have hb:∀b,H b=none->b≠e:=fun b n z=>by
  subst z
  rcases he with r | r
  ·exact hx b n r
  ·rw[n] at r;cases r
 have hm:∀b u,H b=some u->¬Pk (some u)->b≠x:=fun b u q nm z=>by subst z;rw[q] at mu;exact nm mu
 refine⟨fun b u q n _ _=>k b u (hb b n) q,fun b u q n _ _=>⟨u.slots,k b u (hb b n) q⟩,fun b u q n _=>by rw[az (hx b n)];exact n,fun b u q _=>?_,
  fun b xs q=>by rw[az (hm b _ q fun z=>z)];exact q,fun b u xs q=>by rw[az (hm b _ q fun z=>z)];exact q,fun b ps q=>⟨#[],by rw[az (hm b _ q fun z=>z),q];simp⟩⟩
 by_cases L3:b=e
 ·subst L3;exact OO
 ·exact⟨u,k b u L3 q⟩
end
noncomputable def Sy (h:Heap) (H:Hp):List Addr:=(List.range h.objs.size).filter fun a=>(H a).isSome
noncomputable def wV (h:Heap) (H:Hp):Heap:=PySem.W.hideAll h (Sy h H)
def C5 (h:Heap) (H:Hp):(wV h H).objs.size=h.objs.size:=PySem.W.hideAll_size _ _
def EM {h:Heap}{b:Addr}(e:h.get? b=some o) (n:H b=none):(wV h H).get? b=some o:=
 PySem.W.hideAll_get _ e fun hm=>by
  have q:(H b).isSome=true:=(abb.mp hm).2
  rw[n] at q;simp at q
def IE {h:Heap}{b:Addr}(e:(wV h H).get? b=some o):h.get? b=some o/\H b=none:=by
 have e':h.get? b=some o:=PySem.W.of_hideAll (Sy h H) e
 refine⟨e',?_⟩
 cases q:H b with
 | none=>rfl
 | some x=>
  have hm:b∈Sy h H:=abb.mpr ⟨ZS.mpr (ZP e'),by simp[q]⟩
  have z:(wV h H).get? b=none:=PySem.W.hideAll_none (Sy h H) hm
  rw[z] at e;cases e
noncomputable def IF (g h:Heap) (L:Addr):List (Addr×Obj):=(List.range h.objs.size).filterMap fun a=>if a=L\/(g.get? a).isSome=true then none else(h.get? a).map fun o=>(a,o)
noncomputable def rest (g h:Heap) (L d:Addr):List (Addr×Obj):=(IF g h L).filter fun p=>decide (p.1≠d)
structure Mod (K:AAA) (mg:AAC) (base:Heap):Prop where
 T8:K.In base
 glob:base.Ns mainGlobals mg
 blt:∃mb,base.Ns builtinsNs mb/\∀x:Str,x≠"__name__"->mb x=bootBuiltins x
 nolimit:base.NoLimit
structure Cx where
 prog:Program
 w:World
 K:PySem.W.Frag
 mg:Str->Option Value
 base:Heap
 A:Around
 N:List Str
 s₀:Shared
 H₀:Hp
 env:Env
 outer:List Env
 stack:List Env
 ex:List Addr
 fn:Str->Bool
 calm:Bool
 pn:List (Addr×Obj)
 xe:Value->Shared->Prop
noncomputable def frs (l:List Env):List Addr:=l.filterMap (·.frame)
noncomputable abbrev Cx.fs (X:Cx):List Addr:=frs X.outer
def AE (sc:Scope) (x:Str):Prop:=sc.names.lookup x=some .local\/sc.names.lookup x=some .cell\/sc.names.lookup x=some .free
def Loc (sc:Scope) (x:Str):Prop:=sc.names.lookup x=some .local\/sc.names.lookup x=some .cell
def Look (env:Env) (h:Heap) (m:AAC) (x:Str) (u:Value):Prop:=
 (env.kindOf x=some .local/\m x=some u)\/((env.kindOf x=some .cell\/env.kindOf x=some .free)/\∃c,env.cells.lookup x=some c/\h.IsCell c (some u))
structure Cx.Ok (X:Cx):Prop where
 mod:Mod X.K X.mg X.base
 kind:X.env.scope.kind= .function
 glob:X.env.globals=mainGlobals
 blt:X.env.builtins=builtinsNs
 above:X.s₀.heap.objs.size<=X.env.locals
 inj:∀x y c,X.env.cells.lookup x=some c->X.env.cells.lookup y=some c->x=y
 has:∀x,(X.env.kindOf x=some .cell\/X.env.kindOf x=some .free)->∃c,X.env.cells.lookup x=some c
 Po:∀x c,X.fn x=true->X.env.cells.lookup x=some c->X.s₀.heap.objs.size<=c
 hd:X.calm=true->X.A.handled=none
 frames:X.A.frames=some X.stack
 stk:X.stack=X.outer\/(X.stack=X.env :: X.outer/\X.env.frame=some X.env.locals)
 Sz:∀b∈X.ex,b≠X.env.locals/\∀x c,X.env.cells.lookup x=some c->c≠b
 bs:∀b o,X.base.get? b=some o->X.s₀.heap.get? b=some o/\X.H₀ b=none
 Ir:X.base.objs.size<=X.s₀.heap.objs.size
 C6:∀b o,X.base.get? b=some o->b∉X.ex
 C7:∀b∈X.ex,b∉X.fs
 tV:X.s₀.heap.FunFrames X.base X.outer
 OP:∀b∈X.fs,X.H₀ b=none
structure Inv (X:Cx) (pins:AAD) (σ:List (Option V)) (H:Hp) (s:Shared):Prop where
 ok:X.Ok
 os:s.os=X.s₀.os
 bare:AllBare s.gens
 base:Un X.fs X.ex X.H₀ H X.s₀.heap s.heap
 loc:∃m,s.heap.Ns X.env.locals m/\∀(i:Nat) (x:Str) (v:V),X.N[i]? =some x->σ[i]? =some (some v)->AE X.env.scope x->∃u,RelV v u/\Look X.env s.heap m x u
 cell:∀x c,X.env.cells.lookup x=some c->∃v,s.heap.IsCell c v
 free:H X.env.locals=none
 m8:∀x c,X.env.cells.lookup x=some c->H c=none
 pin:∀p∈X.pn++pins,s.heap.get? p.1=some p.2/\H p.1=none/\p.1≠X.env.locals/\p.1∉X.fs/\∀v,p.2.data≠.cell v
 hok:mZ X.prog X.w H s.heap
 len:σ.length=X.N.length
section
variable {X:Cx}{pins:AAD}{σ:List (Option V)}{H H':Hp}{s:Shared}{h':Heap}
def Cx.Ok.iw (ok:X.Ok){b:Addr}(e:X.base.get? b=some o):b∉X.fs:=fun hb=>by
 have:=(ok.tV.mem hb).1
 rw[e] at this;cases this
def Inv.bs (I:Inv X pins σ H s):∀b o,X.base.get? b=some o->s.heap.get? b=some o/\H b=none:=fun b o e=>
 ⟨I.base.keep b o (I.ok.bs b o e).1 (I.ok.bs b o e).2 (I.ok.iw e) (I.ok.C6 b o e),I.base.free b o (I.ok.bs b o e).1 (I.ok.bs b o e).2 (I.ok.C6 b o e)⟩
def Inv.bk (I:Inv X pins σ H s):∀b o,X.base.get? b=some o->s.heap.get? b=some o:=fun b o e=>(I.bs b o e).1
def Inv.mod (I:Inv X pins σ H s):Mod X.K X.mg X.base:=I.ok.mod
def Inv.EN (I:Inv X pins σ H s):X.K.In s.heap:=I.ok.mod.T8.keeps I.bk
def Inv.lt (I:Inv X pins σ H s):X.env.locals < s.heap.objs.size:=let⟨_,hn,_⟩:=I.loc;hn.lt
def Inv.sz (I:Inv X pins σ H s):X.s₀.heap.objs.size<=s.heap.objs.size:=Z5 I.ok.above (abd I.lt)
def Inv.L4 (I:Inv X pins σ H s)(h:s.heap.objs.size<=a):a∉X.fs:=fun hb=>by
 obtain⟨_,o,ho,_⟩:=I.ok.tV.mem hb
 exact absurd (ZQ (ZP ho) (Z5 I.sz h)) (aaz _)
def Inv.L5 (I:Inv X pins σ H s):∀x c,X.env.cells.lookup x=some c->c≠X.env.locals:=fun x c e z=>by
 obtain⟨v,o,ho,hd⟩:=I.cell x c e
 obtain⟨m,⟨o',es,ep,ho',hd',_⟩,_⟩:=I.loc
 rw[z,ho'] at ho;cases ho;rw[hd'] at hd;cases hd
def Inv.tV (I:Inv X pins σ H s):s.heap.FunFrames X.base X.outer:=by
 have all:∀(l:List Env),(∀b∈frs l,b∈X.fs)->X.s₀.heap.FunFrames X.base l->s.heap.FunFrames X.base l:=by
  intro l
  induction l with
  | nil=>intro _ _;trivial
  | cons env r ih=>
   intro hs hl
   obtain⟨hk,⟨L,o,hf,hn,ho,hd⟩,hr⟩:=hl
   have hL:L∈X.fs:=hs L (by unfold frs;rw[ab5,hf];exact ZJ)
   obtain⟨sl,e⟩:=I.base.slot L o ho (I.ok.OP L hL) hL fun z=>I.ok.C7 L z hL
   exact⟨hk,⟨L,_,hf,hn,e,hd⟩,ih (fun b hb=>hs b (by unfold frs;rw[ab5,hf];exact ZI _ hb)) hr⟩
 exact all X.outer (fun _ hb=>hb) I.ok.tV
def Inv.stack (I:Inv X pins σ H s):s.heap.FunFrames X.base X.stack:=by
 rcases I.ok.stk with e | ⟨e,hf⟩
 ·rw[e];exact I.tV
 ·rw[e]
  obtain⟨m,hn,_⟩:=I.loc
  refine .cons (by rw[I.ok.kind];decide) hf hn ?_ I.tV
  exact Heap.get?_none_of_le (Z5 I.ok.Ir I.ok.above)
def Inv.qJ (I:Inv X pins σ H s):∀b∈frs X.stack,b∈X.env.locals :: X.fs:=fun b hb=>by
 rcases I.ok.stk with e | ⟨e,hf⟩
 ·rw[e] at hb;exact ZI _ hb
 ·rw[e] at hb
  unfold frs at hb
  rw[ab5,hf] at hb
  exact hb
def Inv.wW (I:Inv X pins σ H s):∀b∈frs X.stack,H b=none:=fun b hb=>by
 rcases ZV.mp (I.qJ b hb) with e | hb
 ·rw[e];exact I.free
 ·obtain⟨_,o,ho,_⟩:=I.ok.tV.mem hb
  exact I.base.free b o ho (I.ok.OP b hb) fun z=>I.ok.C7 b z hb
def Inv.step {d':Drawn}(I:Inv X pins σ H s)
  (hch:∀b∈ch,(b∈X.ex\/X.s₀.heap.objs.size<=b)/\b≠X.env.locals/\(∀x c,X.env.cells.lookup x=some c->c≠b)/\∀p∈X.pn++pins,p.1≠b)
  (keep:∀b o,b≠X.env.locals->b∉X.fs->b∉ch->s.heap.get? b=some o->H b=none->h'.get? b=some o)
  (slot:∀b o,b≠X.env.locals->b∈X.fs->b∉ch->s.heap.get? b=some o->H b=none->∃sl,h'.get? b=some {o with slots:=sl}) (free:∀b o,b∉ch->s.heap.get? b=some o->H b=none->H' b=none)
  (there:∀b o,b∉ch->s.heap.get? b=some o->∃o',h'.get? b=some o')
  (tups:∀b xs,H b=some (.tup xs)->H' b=some (.tup xs)) (tU:∀b o u,H b=some (.jw o u)->H' b=some (.jw o u)) (vg:∀b ps,H b=some (.L1 ps)->∃more,H' b=some (.L1 (ps++more)))
  (ns:∀m,s.heap.Ns X.env.locals m->h'.Ns X.env.locals m) (hok:mZ X.prog X.w H' h') (hg:AllBare g'):
  Inv X pins σ H' {s with heap:=h',gens:=g',drawn:=d',toks:=t'}:=by
 have WT:∀b o,X.s₀.heap.get? b=some o->b≠X.env.locals:=fun b o e=>ZY (ZQ (ZP e) I.ok.above)
 have SA:∀b o,X.s₀.heap.get? b=some o->b∉X.ex->b∉ch:=fun b o e hx hb=>by
  rcases(hch b hb).1 with z | z
  ·exact hx z
  ·exact absurd (ZQ (ZP e) z) (aaz _)
 have cellK:∀x c,X.env.cells.lookup x=some c->∀v,s.heap.IsCell c v->h'.IsCell c v:=fun x c e v ⟨o,ho,hd⟩=>by
  have Pp:c∉ch:=fun z=>(hch c z).2.2.1 x c e rfl
  by_cases hc:c∈X.fs
  ·obtain⟨sl,q⟩:=slot c o (I.L5 x c e) hc Pp ho (I.m8 x c e)
   exact⟨_,q,hd⟩
  ·exact⟨o,keep c o (I.L5 x c e) hc Pp ho (I.m8 x c e),hd⟩
 refine⟨I.ok,I.os,hg,⟨fun b o e n hb hx=>?_,fun b o e n hb hx=>?_,fun b o e n hx=>?_,fun b o e hx=>?_,fun b xs e=>tups b xs (I.base.tups b xs e),fun b o xs e=>tU b o xs (I.base.tU b o xs e),fun b ps e=>?_⟩,?_,fun x c e=>?_,?_,fun x c e=>?_,fun p hp=>?_,hok,I.len⟩
 ·exact keep b o (WT b o e) hb (SA b o e hx) (I.base.keep b o e n hb hx) (I.base.free b o e n hx)
 ·obtain⟨sl,e1⟩:=I.base.slot b o e n hb hx
  obtain⟨XO,e2⟩:=slot b _ (WT b o e) hb (SA b o e hx) e1 (I.base.free b o e n hx)
  exact⟨XO,e2⟩
 ·obtain⟨o',e1⟩:=I.base.there b o e hx
  exact free b o' (SA b o e hx) e1 (I.base.free b o e n hx)
 ·obtain⟨o',e1⟩:=I.base.there b o e hx
  exact there b o' (SA b o e hx) e1
 ·obtain⟨m1,e1⟩:=I.base.vg b ps e
  obtain⟨m2,e2⟩:=vg b _ e1
  exact⟨m1++m2,by rw[e2,Array.append_assoc]⟩
 ·obtain⟨m,hn,hl⟩:=I.loc
  refine⟨m,ns m hn,fun i x v e1 e2 e3=>?_⟩
  obtain⟨u,r,l⟩:=hl i x v e1 e2 e3
  refine⟨u,r,?_⟩
  rcases l with l | ⟨k,c,e,z⟩
  ·exact .inl l
  ·exact .inr ⟨k,c,e,cellK x c e _ z⟩
 ·obtain⟨v,z⟩:=I.cell x c e
  exact⟨v,cellK x c e v z⟩
 ·obtain⟨m,⟨o,_,_,ho,_⟩,_⟩:=I.loc
  exact free _ o (fun z=>(hch _ z).2.1 rfl) ho I.free
 ·obtain⟨v,o,ho,hd⟩:=I.cell x c e
  exact free c o (fun z=>(hch c z).2.2.1 x c e rfl) ho (I.m8 x c e)
 ·obtain⟨e,n,ne,nf,d⟩:=I.pin p hp
  have Pp:p.1∉ch:=fun z=>(hch p.1 z).2.2.2 p hp rfl
  exact⟨keep p.1 p.2 ne nf Pp e n,free p.1 p.2 Pp e n,ne,nf,d⟩
def Inv.un (I:Inv X pins σ H s) (u:Un X.fs [] H H' s.heap h') (hok:mZ X.prog X.w H' h'):Inv X pins σ H' {s with heap:=h',toks:=t'}:=by
 obtain⟨m,⟨o,es,ep,ho,r⟩,_⟩:=id I.loc
 obtain⟨sl,hL⟩:=u.any ho I.free (by simp)
 exact I.step (g':=s.gens) (d':=s.drawn) (ch:=[]) (fun _ z=>nomatch z) (fun b o _ hb _ e n=>u.keep b o e n hb (by simp)) (fun b o _ hb _ e n=>u.slot b o e n hb (by simp)) (fun b o _ e n=>u.free b o e n (by simp)) (fun b o _ e=>u.there b o e (by simp)) u.tups u.tU u.vg (fun m' hm=>by
  obtain⟨o',es',T9,ho',r'⟩:=hm
  rw[ho] at ho';cases ho'
  exact⟨_,es',T9,hL,r'⟩) hok I.bare
def Inv.call {d':Drawn}(I:Inv X pins σ H s) (u:Un (frs X.stack) ch H H' s.heap h') (hok:mZ X.prog X.w H' h') (hg:AllBare g')
  (hch:∀b∈ch,(b∈X.ex\/X.s₀.heap.objs.size<=b)/\b≠X.env.locals/\(∀x c,X.env.cells.lookup x=some c->c≠b)/\∀p∈X.pn++pins,p.1≠b):
  Inv X pins σ H' {s with heap:=h',gens:=g',drawn:=d',toks:=t'}:=by
 obtain⟨m,⟨o,es,ep,ho,r⟩,_⟩:=id I.loc
 obtain⟨sl,hL⟩:=u.any ho I.free fun z=>(hch _ z).2.1 rfl
 exact I.step (ch:=ch) hch (fun b o hL hb hc e n=>u.keep b o e n (fun z=>(ZV.mp (I.qJ b z)).elim hL hb) hc) (fun b o _ _ hc e n=>u.any e n hc) (fun b o hc e n=>u.free b o e n hc) (fun b o hc e=>u.there b o e hc) u.tups u.tU u.vg (fun m' hm=>by
  obtain⟨o',es',T9,ho',r'⟩:=hm
  rw[ho] at ho';cases ho'
  exact⟨_,es',T9,hL,r'⟩) hok hg
def Inv.turned {it:Addr}(I:Inv X pins σ H s) (k:∀b o,b≠it->s.heap.get? b=some o->h'.get? b=some o) (hn:H it=none) (hL:it≠X.env.locals)
  (h1:it∈X.ex\/X.s₀.heap.objs.size<=it) (h2:∀x c,X.env.cells.lookup x=some c->c≠it) (h3:∀p∈X.pn++pins,p.1≠it):Inv X pins σ H {s with heap:=h',toks:=t'}:=by
 have Pq:∀b u,H b=some u->b≠it:=fun b u e z=>by rw[z,hn] at e;cases e
 refine I.step (g':=s.gens) (d':=s.drawn) (ch:=[it]) (fun b hb=>?_) (fun b o _ _ hc e _=>k b o (fun z=>hc (by simp[z])) e) (fun b o _ _ hc e _=>⟨o.slots,k b o (fun z=>hc (by simp[z])) e⟩) (fun _ _ _ _ n=>n)
  (fun b o hc e=>⟨o,k b o (fun z=>hc (by simp[z])) e⟩) (fun _ _ e=>e) (fun _ _ _ e=>e) (fun b ps e=>⟨#[],by rw[e];simp⟩) (fun m hm=>?_) (fun b u e=>?_) I.bare
 ·have e:b=it:=by simpa using hb
  subst e
  exact⟨h1,hL,h2,h3⟩
 ·obtain⟨o,es,ep,ho,r⟩:=hm
  exact⟨o,es,ep,k _ o (aaN hL) ho,r⟩
 ·refine(I.hok b u e).stay (fun c v hc q=>k c v ?_ q) (fun _ q=>q) fun _ _ q=>q
  rcases hc with z | z
  ·rw[z];exact Pq b u e
  ·exact Pq c _ z
def Inv.tok (I:Inv X pins σ H s) (t:Nat):Inv X pins σ H {s with toks:=t}:=I.un (h':=s.heap) (t':=t) Un.refl I.hok
def Inv.kept {t':Nat}(I:Inv X pins σ H s) (k:∀b u,s.heap.get? b=some u->h'.get? b=some u):Inv X pins σ H {s with heap:=h',toks:=t'}:=I.un (Un.kept k) (I.hok.kept k)
def Inv.laid {a:Addr}{o:HO}{t':Nat}(I:Inv X pins σ H s) (k:∀b u,s.heap.get? b=some u->h'.get? b=some u) (hp:s.heap.objs.size<=a) (new:c7 X.prog X.w (upd H a o) h' a o):
  Inv X pins σ (upd H a o) {s with heap:=h',toks:=t'}:=I.un (Un.laid k hp (I.hok.fresh hp)) (I.hok.laid k hp new)
def Inv.write {x e:Addr}{o:HO}{t':Nat}(I:Inv X pins σ H s) (mu:Pk (H x)) (he:e=x\/H e=some (.own x)) (k:∀b u,b≠e->s.heap.get? b=some u->h'.get? b=some u) (OO:∃u,h'.get? e=some u)
  (new:c7 X.prog X.w (upd H x o) h' x o):Inv X pins σ (upd H x o) {s with heap:=h',toks:=t'}:=I.un (Un.write mu he k OO) (I.hok.write mu he k OO new)
def Inv.sY {Lh:AAD}(I:Inv X pins σ H s) (h:∀p∈Lh,s.heap.get? p.1=some p.2/\H p.1=none/\p.1≠X.env.locals/\p.1∉X.fs/\∀v,p.2.data≠.cell v):Inv X Lh σ H s:=
 ⟨I.ok,I.os,I.bare,I.base,I.loc,I.cell,I.free,I.m8,fun p hp=>(Z2.mp hp).elim (fun z=>I.pin p (aac _ z)) (h p),I.hok,I.len⟩
def yL (hN:N.Nodup){j:Nat}(a:N[i]? =some x) (b:N[j]? =some x):i=j:=by
 obtain⟨h1,e1⟩:=Zy.mp a
 obtain⟨h2,e2⟩:=Zy.mp b
 exact(List.getElem_inj hN).mp (e1.trans e2.symm)
def qK   {E : Value -> Shared -> Prop}   {v : V}  {Q : Unit -> Shared -> Prop} (I : Inv X pins σ H s) (hN : X.N.Nodup) (hi : X.N[i]? = some x) (hx : Loc X.env.scope x) (r : RelV v u)
    (h:∀s',Inv X pins (σ.set i (some v)) H s'->(∃a,Heap.SameBut a s.heap s'.heap/\(a=X.env.locals\/X.env.cells.lookup x=some a))->Q () s') (hf:X.fn x=true\/X.env.scope.names.lookup x=some .local:=by first | exact .inl rfl | exact .inr rfl | assumption):wpAny M A (storeName X.env x u) Q E s:=by
  obtain⟨m,hn,hl⟩:=id I.loc
  have hcls:(X.env.scope.kind == .class || (X.env.scope.kind == .module && X.env.locals != X.env.globals))=false:=by rw[I.ok.kind];rfl
  have Pr:i < σ.length:=by rw[I.len];exact(Zy.mp hi).1
  have L5:=I.L5
  have tracked:∀{a:Addr}{h':Heap},(∃o,s.heap.get? a=some o/\H a=none)->Heap.SameBut a s.heap h'->mZ X.prog X.w H h':=fun {a h'} ha hs b ob e=>by
    obtain⟨_,_,hfree⟩:=ha
    refine(I.hok b ob e).stay (fun c w' hc q=>(hs.2 c ?_).trans q) (fun _ q=>q) fun _ _ q=>q
    rintro rfl
    rcases hc with rfl | hc
    . rw[hfree] at e;cases e
    . rw[hfree] at hc;cases hc
  rcases hx with hk | hk
  . refine wpAny_storeName_local hk hn (fun h' hn' hs=>?_) hcls
    obtain⟨oL,_,_,Pu,_⟩:=id hn
    refine h _ ⟨I.ok,I.os,I.bare,⟨fun b o e n hb hx=>?_,fun b o e n hb hx=>?_,I.base.free,fun b o e hx=>?_,I.base.tups,I.base.tU,I.base.vg⟩,⟨_,hn',fun j y v' e1 e2 e3=>?_⟩,fun y c e=>?_,I.free,I.m8,fun p hp=>?_,tracked ⟨oL,Pu,I.free⟩ hs,by simpa using I.len⟩ ⟨_,hs,.inl rfl⟩
    . exact(hs.2 b (ZY (ZQ (ZP e) I.ok.above))).trans (I.base.keep b o e n hb hx)
    . obtain⟨sl,e1⟩:=I.base.slot b o e n hb hx
      exact⟨sl,(hs.2 b (ZY (ZQ (ZP e) I.ok.above))).trans e1⟩
    . obtain⟨o',e1⟩:=I.base.there b o e hx
      exact⟨o',(hs.2 b (ZY (ZQ (ZP e) I.ok.above))).trans e1⟩
    . by_cases hj:j=i
      . subst hj
        rw[hi] at e1;cases e1
        rw[aad Pr] at e2
        cases e2
        exact⟨u,r,.inl ⟨hk,by simp⟩⟩
      . rw[Z4 (aaN hj)] at e2
        obtain⟨u',r',q⟩:=hl j y v' e1 e2 e3
        refine⟨u',r',?_⟩
        rcases q with⟨k,e⟩ | ⟨k,c,e,z⟩
        . refine .inl ⟨k,?_⟩
          have:y≠x:=fun e=>hj (yL hN e1 (e▸hi))
          simp[this,e]
        . exact .inr ⟨k,c,e,z.sameBut hs (L5 y c e)⟩
    . obtain⟨w',z⟩:=I.cell y c e
      exact⟨w',z.sameBut hs (L5 y c e)⟩
    . obtain⟨e,n,ne,nf,d⟩:=I.pin p hp
      exact⟨(hs.2 p.1 ne).trans e,n,ne,nf,d⟩
  . have hfn:X.fn x=true:=by
      rcases hf with z | z
      . exact z
      . rw[z] at hk;cases hk
    obtain⟨c,hc⟩:=I.ok.has x (.inl hk)
    obtain⟨w',z⟩:=I.cell x c hc
    refine wpAny_storeName_cell I.ok.kind hk hc z (fun h' hc' hs=>?_)
    obtain⟨oc,hoc,Ua⟩:=id z
    refine h {s with heap:=h'} ⟨I.ok,I.os,I.bare,⟨fun b o e n hb hx=>?_,fun b o e n hb hx=>?_,I.base.free,fun b o e hx=>?_,I.base.tups,I.base.tU,I.base.vg⟩,⟨m,hn.sameBut hs (aaN (L5 x c hc)),fun j y v' e1 e2 e3=>?_⟩,fun y c' e=>?_,I.free,I.m8,fun p hp=>?_,tracked ⟨oc,hoc,I.m8 x c hc⟩ hs,by simpa using I.len⟩ ⟨c,hs,.inr hc⟩
    . exact(hs.2 b (ZY (ZQ (ZP e) (I.ok.Po x c hfn hc)))).trans (I.base.keep b o e n hb hx)
    . obtain⟨sl,e1⟩:=I.base.slot b o e n hb hx
      exact⟨sl,(hs.2 b (ZY (ZQ (ZP e) (I.ok.Po x c hfn hc)))).trans e1⟩
    . obtain⟨o',e1⟩:=I.base.there b o e hx
      exact⟨o',(hs.2 b (ZY (ZQ (ZP e) (I.ok.Po x c hfn hc)))).trans e1⟩
    . by_cases hj:j=i
      . subst hj
        rw[hi] at e1;cases e1
        rw[aad Pr] at e2
        cases e2
        exact⟨u,r,.inr ⟨.inl hk,c,hc,hc'⟩⟩
      . rw[Z4 (aaN hj)] at e2
        obtain⟨u',r',q⟩:=hl j y v' e1 e2 e3
        refine⟨u',r',?_⟩
        rcases q with q | ⟨k,c',e,z'⟩
        . exact .inl q
        . refine .inr ⟨k,c',e,z'.sameBut hs ?_⟩
          rintro rfl
          exact hj (yL hN e1 (I.ok.inj _ _ _ e hc▸hi))
    . by_cases hcc:c'=c
      . subst hcc;exact⟨_,hc'⟩
      . obtain⟨w2,z2⟩:=I.cell y c' e
        exact⟨w2,z2.sameBut hs hcc⟩
    . obtain⟨e,n,ne,nf,d⟩:=I.pin p hp
      refine⟨(hs.2 p.1 ?_).trans e,n,ne,nf,d⟩
      intro q
      rw[q,hoc] at e
      have q':oc=p.2:=ZU e
      exact d w' (by rw[<-q'];exact Ua)
def tW {v:V}{Q:Unit->Shared->Prop}(I:Inv X pins σ H s) (hN:X.N.Nodup) (hi:X.N[i]? =some x) (hx:Loc X.env.scope x) (r:RelV v u)
  (h:∀s',Inv X pins (σ.set i (some v)) H s'->Q () s') (hf:X.fn x=true\/X.env.scope.names.lookup x=some .local:=by first | exact .inl rfl | exact .inr rfl | assumption):wpAny M A (storeName X.env x u) Q E s:=
 qK I hN hi hx r (fun s' I' _=>h s' I') hf
def Inv.Li {s':Shared}(I:Inv X pins σ H s) (ho:s'.os=s.os) (u:Un (frs X.stack) ch H H' s.heap s'.heap) (hok:mZ X.prog X.w H' s'.heap) (hg:AllBare s'.gens)
  (hch:∀b∈ch,(b∈X.ex\/X.s₀.heap.objs.size<=b)/\b≠X.env.locals/\(∀x c,X.env.cells.lookup x=some c->c≠b)/\∀p∈X.pn++pins,p.1≠b):Inv X pins σ H' s':=by
 obtain⟨h',g',d',t',o'⟩:=s'
 have e:o'=s.os:=ho
 subst e
 exact I.call (g':=g') (t':=t') (d':=d') u hok hg hch
end
abbrev XK:=Value->Option Addr->Hp->Prop
abbrev St:=List (Option V)
abbrev VK:=V->Hp->Prop
abbrev TE:=St->Hp->VK->Prop
abbrev TT:=St->Hp->(Bool->Hp->Prop)->Prop
abbrev TA:=St->Hp->(List V->Hp->Prop)->Prop
structure Ends where
 nx:St->Hp->Prop
 rt:VK
 bk:St->Hp->Prop:=fun _ _=>False
 ct:St->Hp->Prop:=fun _ _=>False
abbrev TS:=Ends->St->Hp->Prop
def EP (X:Cx) (pins:AAD) (σ:St) (Q:VK) (u:Value) (s':Shared):Prop:=∃v H',Inv X pins σ H' s'/\RelV v u/\Q v H'
def TP (X:Cx) (pins:AAD) (σ:St) (Q:Bool->Hp->Prop) (b:Bool) (s':Shared):Prop:=∃H',Inv X pins σ H' s'/\Q b H'
def AP (X:Cx) (pins:AAD) (σ:St) (Q:List V->Hp->Prop) (us:AAI) (s':Shared):Prop:=∃vs H',Inv X pins σ H' s'/\Vals vs us/\Q vs H'
def SP (X:Cx) (pins:AAD) (D:Ends) (f:Flow) (s':Shared):Prop:=
 match f with
 | .next=>∃σ' H',Inv X pins σ' H' s'/\D.nx σ' H'
 | .brk=>∃σ' H',Inv X pins σ' H' s'/\D.bk σ' H'
 | .cont=>∃σ' H',Inv X pins σ' H' s'/\D.ct σ' H'
 | .ret u=>∃v σ' H',Inv X pins σ' H' s'/\RelV v u/\D.rt v H'
def PE (X:Cx) (e:Expr) (t:TE):Prop:=
 ∀(pins:AAD) (s:Shared) (σ:St) (H:Hp) (Q:VK),Inv X pins σ H s->t σ H Q->wpAny (model X.prog X.w) X.A (eval e X.env) (EP X pins σ Q) X.xe s
def PT (X:Cx) (e:Expr) (t:TT):Prop:=
 ∀(pins:AAD) (s:Shared) (σ:St) (H:Hp) (Q:Bool->Hp->Prop),Inv X pins σ H s->t σ H Q->wpAny (model X.prog X.w) X.A (isTrue e X.env (eval e X.env)) (TP X pins σ Q) X.xe s
def PW (X:Cx) (e:Expr) (t:TT):Prop:=
 ∀(whole:Sem Value) (pins:AAD) (s:Shared) (σ:St) (H:Hp) (Q:Bool->Hp->Prop),Inv X pins σ H s->t σ H Q->wpAny (model X.prog X.w) X.A (isTrue e X.env whole) (TP X pins σ Q) X.xe s
def PW.pt {e:Expr}{t:TT}(h:PW X e t):PT X e t:=h _
def PA (X:Cx) (es:List Expr) (t:TA):Prop:=
 ∀(pos:Pos) (pins:AAD) (s:Shared) (σ:St) (H:Hp) (Q:List V->Hp->Prop),Inv X pins σ H s->t σ H Q->wpAny (model X.prog X.w) X.A (spliced (backTo pos (starEach es X.env))) (AP X pins σ Q) X.xe s
def PS (X:Cx) (st:Stmt) (t:TS):Prop:=
 ∀(pins:AAD) (s:Shared) (σ:St) (H:Hp) (D:Ends),Inv X pins σ H s->t D σ H->wpAny (model X.prog X.w) X.A (exec st X.env) (SP X pins D) X.xe s
def yM (X:Cx) (st:List Stmt) (t:TS):Prop:=
 ∀(pins:AAD) (s:Shared) (σ:St) (H:Hp) (D:Ends),Inv X pins σ H s->t D σ H->wpAny (model X.prog X.w) X.A (execs st X.env) (SP X pins D) X.xe s
def dN {α:Type}{t:Sem α}{Q Q':α->Shared->Prop}{s:Shared}(h:wpAny M A t Q E s) (hQ:∀a s,Q a s->Q' a s):wpAny M A t Q' E s:=aas h hQ fun _ _ x=>x
section
variable {X:Cx}
def bin {a b:Expr}{ta tb:TE}(ha:PE X a ta) (hb:PE X b tb){s:Shared}(I:Inv X pins σ H s) (h:ta σ H fun x H1=>tb σ H1 fun y H2=>R x y H2)
  {α:Type}{Q:α->Shared->Prop}{f:Value->Value->Sem α}
  (hf:∀v u s2 x y H2,Inv X pins σ H2 s2->RelV x v->RelV y u->R x y H2->wpAny (model X.prog X.w) X.A (f v u) Q X.xe s2):
  wpAny (model X.prog X.w) X.A (eval a X.env) (fun v s₁=>wpAny (model X.prog X.w) X.A (eval b X.env) (fun u s₂=>wpAny (model X.prog X.w) X.A (f v u) Q X.xe s₂) X.xe s₁) X.xe s:=by
 refine dN (ha pins s σ H _ I h) fun v s1 ⟨x,H1,I1,r1,q1⟩=>?_
 refine dN (hb pins s1 σ H1 _ I1 q1) fun u s2 ⟨y,H2,I2,r2,q2⟩=>?_
 exact hf v u s2 x y H2 I2 r1 r2 q2
def C8 (i:Nat):TE:=fun σ H Q=>∃v,σ[i]? =some (some v)/\Q v H
def tC (v:V):TE:=fun _ H Q=>Q v H
def gU (hN:X.N[i]? =some x) (hv:AE X.env.scope x) (hd:(x == ("__debug__":Str))=false:=by decide) (hcd:(x == ("__classdict__":Str))=false:=by decide):PE X (.Name x pos) (C8 i):=by
 intro pins s σ H Q I h
 obtain⟨v,e,h⟩:=h
 obtain⟨m,hn,hl⟩:=I.loc
 obtain⟨u,r,l⟩:=hl i x v hN e hv
 have fin:EP X pins σ Q u s:=⟨v,H,I,r,h⟩
 rcases l with⟨hk,hm⟩ | ⟨hk,c,hc,hcell⟩
 ·exact wpAny_Name (wpAny_loadName_local I.ok.kind hk hn hm fin) hd
 ·rcases hk with hk | hk
  ·exact wpAny_Name (wpAny_loadName_cell I.ok.kind hk hc hcell fin) hd
  ·exact wpAny_Name (wpAny_loadName_free I.ok.kind hk hc hcell fin hcd) hd
def L6 {i j pos}:PE X (.Constant (.int i) j pos) (tC (.int i)):=fun _ _ _ H _ I h=>wpAny_Constant_int ⟨.int i,H,I.tok _,⟨_,rfl⟩,h⟩
def Pw {b j pos}:PE X (.Constant (.bool b) j pos) (tC (.bl b)):=fun _ _ _ H _ I h=>Constant_bool ⟨.bl b,H,I,rfl,h⟩
def L7 {j pos}:PE X (.Constant .none j pos) (tC .bV):=fun _ _ _ H _ I h=>Constant_none ⟨.bV,H,I,rfl,h⟩
def L8 {x j pos}:PE X (.Constant (.str x) j pos) (tC (.str x)):=fun _ _ _ H _ I h=>Calls.Constant_str ⟨.str x,H,I.tok _,⟨_,rfl⟩,h⟩
def Gl (X:Cx) (x:Str):Prop:=X.env.kindOf x=some .globalImplicit
def IG {s:Shared}(I:Inv X pins σ H s) (hg:Gl X x) (hm:X.mg x=some u) (h:Q u s)
  (hd:(x == ("__debug__":Str))=false:=by decide):wpAny (model X.prog X.w) X.A (eval (.Name x pos) X.env) Q E s:=
 Calls.Name_function_global I.ok.kind hg (Calls.loadGlobal_global (by rw[I.ok.glob];exact I.mod.glob.keeps I.bk) hm h) hd
def jS {s:Shared}(I:Inv X pins σ H s) (hg:Gl X x) (hm:X.mg x=none) (hv:bootBuiltins x=some u) (h:Q u s)
  (hn:x≠"__name__":=by decide) (hd:(x == ("__debug__":Str))=false:=by decide):wpAny (model X.prog X.w) X.A (eval (.Name x pos) X.env) Q E s:=by
 obtain⟨mb,h1,h2⟩:=I.mod.blt
 exact Calls.Name_function_global I.ok.kind hg (Calls.loadGlobal_builtin (by rw[I.ok.glob];exact I.mod.glob.keeps I.bk) hm (by rw[I.ok.blt];exact h1.keeps I.bk) ((h2 x hn).trans hv) h) hd
variable {a b:Expr}{ta tb:TE}{pos:Pos}
def PC (X:Cx) (op:CmpOp) (a b:Expr) (t:TE):Prop:=
 ∀(pins:AAD) (s:Shared) (σ:St) (H:Hp) (Q:VK),Inv X pins σ H s->t σ H Q->
  wpAny (model X.prog X.w) X.A (eval a X.env) (fun v s₁=>wpAny (model X.prog X.w) X.A (eval b X.env) (fun u s₂=>wpAny (model X.prog X.w) X.A (compareOp op v u) (EP X pins σ Q) X.xe s₂) X.xe s₁) X.xe s
def EO (b:Expr)(h:op≠.In) (h2:op≠.NotIn):behindInMarks op b=false:=by
 have e1:(op == CmpOp.In)=false:=by cases op <;> first | rfl | exact absurd rfl h
 have e2:(op == CmpOp.NotIn)=false:=by cases op <;> first | rfl | exact absurd rfl h2
 cases b <;> simp[behindInMarks,e1,e2]
def tB (t:TE):TT:=fun σ H Q=>t σ H fun x H1=>∃c,x= .bl c/\Q c H1
def Ma {t:TE}(h:PC X op a b t) (h1:behindInMarks op b=false:=by first | exact EO _ (by decide) (by decide) | rfl):PT X (.Compare a [op] [b] pos) (tB t):=by
 intro pins s σ H Q I hw
 refine wpAny_isTrue_Compare1 (dN (h pins s σ H _ I hw) fun v s1 h1=>dN h1 fun u s2 h2=>dN h2 fun c s3 ⟨x,H1,I1,r1,q1⟩=>?_) h1
 obtain⟨d,rfl,q⟩:=q1
 cases r1
 exact abP ⟨H1,I1,q⟩
def Mb {e:Expr}{t:TE}(h:PE X e t) (he:∀whole,isTrue e X.env whole=(do let v <-whole;standAt e.pos;holding [v] (truthy v)):=by intro _;rfl):PT X e (tB t):=by
 intro pins s σ H Q I hw
 refine isTrue_plain (dN (h pins s σ H _ I hw) fun v s1 ⟨x,H1,I1,r1,q1⟩=>?_) (he _)
 obtain⟨d,rfl,q⟩:=q1
 cases r1
 exact abP ⟨H1,I1,q⟩
variable {tA SD:TT}{rest:List Expr}
def Ub (t u:TT):TT:=fun σ H Q=>t σ H fun c H1=>if c=true then u σ H1 Q else Q false H1
def XQ (t u:TT):TT:=fun σ H Q=>t σ H fun c H1=>if c=true then Q true H1 else u σ H1 Q
def pw_and1 (ha:PT X a tA):PW X (.BoolOp .And [a] pos) tA:=by
 intro wh pins s σ H Q I h
 refine isTrue_and (dN (ha pins s σ H Q I h) fun c s1 e=>?_)
 cases c with
 | true=>exact isTrue_and_nil e
 | false=>exact e
def pw_or1 (ha:PT X a tA):PW X (.BoolOp .Or [a] pos) tA:=by
 intro wh pins s σ H Q I h
 refine isTrue_or (dN (ha pins s σ H Q I h) fun c s1 e=>?_)
 cases c with
 | false=>exact isTrue_or_nil e
 | true=>exact e
def pw_and (ha:PT X a tA) (hb:PW X (.BoolOp .And (b :: rest) pos) SD):PW X (.BoolOp .And (a :: b :: rest) pos) (Ub tA SD):=by
 intro wh pins s σ H Q I h
 refine isTrue_and (dN (ha pins s σ H _ I h) fun c s1 ⟨H1,I1,q1⟩=>?_)
 cases c with
 | true=>exact hb wh pins s1 σ H1 Q I1 q1
 | false=>exact⟨H1,I1,q1⟩
def pw_or (ha:PT X a tA) (hb:PW X (.BoolOp .Or (b :: rest) pos) SD):PW X (.BoolOp .Or (a :: b :: rest) pos) (XQ tA SD):=by
 intro wh pins s σ H Q I h
 refine isTrue_or (dN (ha pins s σ H _ I h) fun c s1 ⟨H1,I1,q1⟩=>?_)
 cases c with
 | true=>exact⟨H1,I1,q1⟩
 | false=>exact hb wh pins s1 σ H1 Q I1 q1
def Px (ta:TE):TE:=fun σ H Q=>ta σ H fun x H1=>∃c,x= .bl c/\Q (.bl (!c)) H1
def Mc (ha:PE X a ta):PE X (.UnaryOp .Not a pos) (Px ta):=by
 intro pins s σ H Q I h
 refine UnaryOp_ (dN (ha pins s σ H _ I h) fun v s1 ⟨x,H1,I1,r1,q1⟩=>?_)
 obtain⟨c,rfl,q1⟩:=q1
 cases r1
 exact not_of (abP ⟨.bl (!c),H1,I1,rfl,q1⟩)
def XR (t:TT) (ta tb:TE):TE:=fun σ H Q=>t σ H fun c H1=>if c=true then ta σ H1 Q else tb σ H1 Q
def ER (hc:PT X c tA) (ha:PE X a ta) (hb:PE X b tb):PE X (.IfExp c a b pos) (XR tA ta tb):=by
 intro pins s σ H Q I h
 refine wpAny_IfExp (dN (hc pins s σ H _ I h) fun d s1 ⟨H1,I1,q1⟩=>?_)
 cases d with
 | true=>exact ha pins s1 σ H1 Q I1 q1
 | false=>exact hb pins s1 σ H1 Q I1 q1
end
def m5 (K:AAA) (H:Hp) (a:Addr) (xs:List V):Prop:=
 Rd H a (.lst xs)\/
  ∃(o:Obj) (its:AAH) (n:Nat),K.lookup a=some o/\o.cls= .type "list"/\o.dict=none/\o.data= .seq its n/\its.size<=sizeLine/\Vals xs its.toList
def wX (K:AAA) (H:Hp) (a:Addr) (xs:List V):Prop:=
 Rd H a (.tup xs)\/
  ∃(o:Obj) (its:AAH) (n:Nat),K.lookup a=some o/\o.cls= .type "tuple"/\o.data= .seq its n/\its.size<=sizeLine/\Vals xs its.toList
noncomputable def Uc:Value->Option V
 | .none=>some .bV
 | .bool b=>some (.bl b)
 | .int i _=>some (.int i)
 | .str x _=>some (.str x)
 | .bytes b _=>some (.T6 b)
 | .float b _=>some (.flt b)
 | .ref a=>some (.ref a)
 | .type n=>some (.ty n)
 | _=>none
def RelV.abs {x:V}(r:RelV x u):Uc u=some x:=by
 cases x with
 | bV=>cases r;rfl
 | bl _=>cases r;rfl
 | int _=>obtain⟨t,rfl⟩:=r;rfl
 | str _=>obtain⟨t,rfl⟩:=r;rfl
 | T6 _=>obtain⟨t,rfl⟩:=r;rfl
 | flt _=>obtain⟨t,rfl⟩:=r;rfl
 | ref _=>cases r;rfl
 | ty _=>cases r;rfl
def RelV.inj {x y:V}{u:Value}(r:RelV x u) (q:RelV y u):x=y:=ZU (r.abs.symm.trans q.abs)
theorem Vals.inj:∀{xs ys:List V}{us:AAI},Vals xs us->Vals ys us->xs=ys
 | _,_,_,.nil,.nil=>rfl
 | _,_,_,.cons r t,.cons r' t'=>by rw[r.inj r',Vals.inj t t']
section
variable {X:Cx}{pins:AAD}{σ:St}{H:Hp}{s:Shared}{a:Addr}{xs ys:List V}
def m5.of (h:H a=some (.lst xs)):m5 K H a xs:=.inl (.inl h)
def Inv.list (I:Inv X pins σ H s) (h:m5 X.K H a xs):∃its:List Value,Vals xs its/\PlainL s.heap a its.toArray/\xs.length<=sizeLine:=by
 rcases h with h | ⟨o,its,n,hk,hc,hd,hs,hz,r⟩
 ·obtain⟨z,its,n,r,e⟩:=h.ok I.hok
  exact⟨its,r,⟨_,n,e,rfl,rfl,rfl⟩,z⟩
 ·refine⟨its.toList,r,⟨o,n,I.EN a o hk,hc,hd,by simpa using hs⟩,?_⟩
  have e:=r.length
  simp only[aap] at e
  omega
def Inv.tuple (I:Inv X pins σ H s) (h:wX X.K H a xs):∃its:List Value,Vals xs its/\IsTup s.heap a its.toArray/\xs.length<=sizeLine:=by
 rcases h with h | ⟨o,its,n,hk,hc,hs,hz,r⟩
 ·obtain⟨z,its,r,p⟩:=h.ok I.hok
  exact⟨its,r,p,z⟩
 ·refine⟨its.toList,r,⟨o,I.EN a o hk,hc,n,by simpa using hs⟩,?_⟩
  have e:=r.length
  simp only[aap] at e
  omega
def Inv.yO (I:Inv X pins σ H s) (h:m5 X.K H a xs) (h':m5 X.K H a ys):xs=ys:=by
 obtain⟨its,r,⟨o,n,e,_,_,d⟩,_⟩:=I.list h
 obtain⟨its',r',⟨o',n',e',_,_,d'⟩,_⟩:=I.list h'
 rw[e] at e';cases e'
 rw[d] at d'
 injection d' with d1 _
 have:its=its':=by simpa using congrArg Array.toList d1
 subst this
 exact r.inj r'
def Inv.vQ (I:Inv X pins σ H s) (h:wX X.K H a xs) (h':wX X.K H a ys):xs=ys:=by
 obtain⟨its,r,⟨o,e,_,n,d⟩,_⟩:=I.tuple h
 obtain⟨its',r',⟨o',e',_,n',d'⟩,_⟩:=I.tuple h'
 rw[e] at e';cases e'
 rw[d] at d'
 injection d' with d1 _
 have:its=its':=by simpa using congrArg Array.toList d1
 subst this
 exact r.inj r'
end
noncomputable abbrev Cx.vh (X:Cx) (E:AAB):Cx:={X with xe:=E}
noncomputable abbrev Cx.OQ (X:Cx):Cx:=X.vh fun _ _=>False
def Cx.Ok.vh {X:Cx}(ok:X.Ok) (E:AAB):(X.vh E).Ok:=
 ⟨ok.mod,ok.kind,ok.glob,ok.blt,ok.above,ok.inj,ok.has,ok.Po,ok.hd,ok.frames,ok.stk,ok.Sz,ok.bs,ok.Ir,ok.C6,ok.C7,ok.tV,ok.OP⟩
def Cx.Ok.m9 (ok:(X.vh E).Ok):X.Ok:=
 ⟨ok.mod,ok.kind,ok.glob,ok.blt,ok.above,ok.inj,ok.has,ok.Po,ok.hd,ok.frames,ok.stk,ok.Sz,ok.bs,ok.Ir,ok.C6,ok.C7,ok.tV,ok.OP⟩
section
variable {X:Cx}{pins:AAD}{σ:St}{H:Hp}{s:Shared}{E:AAB}
def Inv.vh (I:Inv X pins σ H s) (E:AAB):Inv (X.vh E) pins σ H s:=⟨I.ok.vh E,I.os,I.bare,I.base,I.loc,I.cell,I.free,I.m8,I.pin,I.hok,I.len⟩
def Inv.m9 (I:Inv (X.vh E) pins σ H s):Inv X pins σ H s:=⟨I.ok.m9,I.os,I.bare,I.base,I.loc,I.cell,I.free,I.m8,I.pin,I.hok,I.len⟩
def SP.m9 {D:Ends}{f:Flow}{s':Shared}(h:SP (X.vh E) pins D f s'):SP X pins D f s':=by
 cases f with
 | next=>obtain⟨σ',H',I,q⟩:=h;exact⟨σ',H',I.m9,q⟩
 | brk=>obtain⟨σ',H',I,q⟩:=h;exact⟨σ',H',I.m9,q⟩
 | cont=>obtain⟨σ',H',I,q⟩:=h;exact⟨σ',H',I.m9,q⟩
 | ret u=>obtain⟨v,σ',H',I,r,q⟩:=h;exact⟨v,σ',H',I.m9,r,q⟩
def yM.OQ {st:List Stmt}{t:TS}(h:yM X.OQ st t):yM X st t:=fun pins s σ H D I hw=>
 aas (h pins s σ H D (I.vh _) hw) (fun _ _ q=>q.m9) fun _ _ z=>False.elim z
end
section
variable {X:Cx}{st:Stmt}{rest:List Stmt}{t u:TS}{e:Expr}{te:TE}{pos:Pos}
def Py:TS:=fun D σ H=>D.nx σ H
def Ud (t u:TS):TS:=fun D σ H=>t {D with nx:=u D} σ H
def II:yM X [] Py:=fun _ _ σ H _ I h=>acH ⟨σ,H,I,h⟩
def tX (h1:PS X st t) (h2:yM X rest u):yM X (st :: rest) (Ud t u):=by
 intro pins s σ H D I h
 refine wpAny_execs_cons (dN (h1 pins s σ H {D with nx:=u D} I h) fun f s1 q=>?_)
 cases f with
 | next=>
  obtain⟨σ',H',I',q⟩:=q
  exact h2 pins s1 σ' H' D I' q
 | ret v=>exact q
 | brk=>exact q
 | cont=>exact q
def BN (h1:PS X st t):yM X [st] t:=by
 intro pins s σ H D I h
 refine wpAny_execs_cons (dN (h1 pins s σ H D I h) fun f s1 q=>?_)
 cases f with
 | next=>exact acH q
 | ret v=>exact q
 | brk=>exact q
 | cont=>exact q
def Inv.quiet {s:Shared}(I:Inv X pins σ H s):interactive X.env=false:=by simp[interactive,I.ok.kind]
def Pz (te:TE):TS:=fun D σ H=>te σ H fun _ H1=>D.nx σ H1
def BO (he:PE X e te) (hs:swapsWith e none pos.line X.env=pure false:=by rfl):PS X (.Expr e pos) (Pz te):=by
 intro pins s σ H D I h
 exact wpAny_Expr_any (dN (he pins s σ H _ I h) fun v s1 ⟨x,H1,I1,r1,q1⟩=>⟨σ,H1,I1,q1⟩) I.quiet hs
def Ue (te:TE):TS:=fun D σ H=>te σ H D.rt
def Me (he:PE X e te):PS X (.Return (some e) pos) (Ue te):=by
 intro pins s σ H D I h
 exact wpAny_Return_some (dN (he pins s σ H _ I h) fun v s1 ⟨x,H1,I1,r1,q1⟩=>⟨x,σ,H1,I1,r1,q1⟩)
def Ug (c:TT) (t u:TS):TS:=fun D σ H=>c σ H fun b H1=>if b=true then t D σ H1 else u D σ H1
def PB {a b:List Stmt}{tc:TT}(hc:PT X c tc) (ha:yM X a t) (hb:yM X b u):PS X (.If c a b pos) (Ug tc t u):=by
 intro pins s σ H D I h
 refine wpAny_If (dN (hc pins s σ H _ I h) fun d s1 ⟨H1,I1,q1⟩=>?_)
 cases d with
 | true=>exact ha pins s1 σ H1 D I1 q1
 | false=>exact hb pins s1 σ H1 D I1 q1
end
abbrev TG:=V->St->Hp->(St->Hp->Prop)->Prop
abbrev IJ:=List V->St->Hp->(St->Hp->Prop)->Prop
def PG (X:Cx) (target:Expr) (t:TG):Prop:=
 ∀(pins:AAD) (s:Shared) (σ:St) (H:Hp) (v:V) (u:Value) (Q:St->Hp->Prop),Inv X pins σ H s->RelV v u->t v σ H Q->
  wpAny (model X.prog X.w) X.A (assign target X.env u) (fun _ s'=>∃σ' H',Inv X pins σ' H' s'/\Q σ' H') X.xe s
def Lj (X:Cx) (ts:List Expr) (t:IJ):Prop:=
 ∀(pins:AAD) (s:Shared) (σ:St) (H:Hp) (vs:List V) (us:AAI) (Q:St->Hp->Prop),Inv X pins σ H s->Vals vs us->t vs σ H Q->
  wpAny (model X.prog X.w) X.A (assignInOrder ((assignEach ts X.env).map (·.2)) us) (fun _ s'=>∃σ' H',Inv X pins σ' H' s'/\Q σ' H') X.xe s
abbrev Mf:=V->V->V->Hp->(Hp->Prop)->Prop
def PD (X:Cx) (t:Mf):Prop:=
 ∀(pins:AAD) (s:Shared) (σ:St) (H:Hp) (o i v:V) (ov iv u:Value) (Q:Hp->Prop),Inv X pins σ H s->RelV o ov->RelV i iv->RelV v u->t o i v H Q->
  wpAny (model X.prog X.w) X.A (setItem ov iv u) (fun _ s'=>∃H',Inv X pins σ H' s'/\Q H') X.xe s
abbrev SE:=V->V->Hp->VK->Prop
def SG (X:Cx) (op:Operator) (t:SE):Prop:=
 ∀(pins:AAD) (s:Shared) (σ:St) (H:Hp) (x y:V) (v u:Value) (Q:VK),Inv X pins σ H s->RelV x v->RelV y u->t x y H Q->
  wpAny (model X.prog X.w) X.A (inplaceOp op v u) (EP X pins σ Q) X.xe s
section
variable {X:Cx}{pos:Pos}
def pS (i:Nat):TG:=fun v σ H Q=>Q (σ.set i (some v)) H
def sZ (hN:X.N.Nodup) (hi:X.N[i]? =some x) (hx:Loc X.env.scope x) (hf:X.fn x=true\/X.env.scope.names.lookup x=some .local:=by first | exact .inl rfl | exact .inr rfl | assumption):PG X (.Name x pos) (pS i):=by
 intro pins s σ H v u Q I r h
 exact ac3 (tW I hN hi hx r (fun s' I'=>⟨_,H,I',h⟩) hf)
noncomputable def PF:IJ:=fun vs σ H Q=>vs=[]/\Q σ H
noncomputable def ES (t:TG) (u:IJ):IJ:=fun vs σ H Q=>∃v r,vs=v :: r/\t v σ H fun σ' H'=>u r σ' H' Q
def BP:Lj X [] PF:=by
 intro pins s σ H vs us Q I r h
 obtain⟨e,h⟩:=h
 subst e
 cases r
 exact assignInOrder_nil ⟨σ,H,I,h⟩
def tY {e:Expr}{t:TG}{u:IJ}(h1:PG X e t) (h2:Lj X es u)
  (hs:(assignEach (e :: es) X.env).map (·.2)=assign e X.env :: (assignEach es X.env).map (·.2):=by rfl):Lj X (e :: es) (ES t u):=by
 intro pins s σ H vs us Q I r h
 obtain⟨v,vr,e1,h⟩:=h
 subst e1
 cases r with
 | cons r rr=>
  rw[hs]
  refine assignInOrder_cons (dN (h1 pins s σ H _ _ _ I r h) fun _ s1 ⟨σ1,H1,I1,q1⟩=>?_)
  exact h2 pins s1 σ1 H1 _ _ Q I1 rr q1
def PJ (K:AAA) (n:Nat) (t:IJ):TG:=fun v σ H Q=>∃a xs,v= .ref a/\wX K H a xs/\xs.length=n/\t xs σ H Q
def ET {t:IJ}{n:Nat}(hc:X.calm=true) (h:Lj X es t)
  (hn:(assignEach es X.env).length=n:=by rfl) (hst:(assignEach es X.env).findIdx? (·.1)=none:=by rfl):PG X (.Tuple es k pos) (PJ X.K n t):=by
 intro pins s σ H v u Q I r hw
 obtain⟨a,xs,e1,hq,hl,hw⟩:=hw
 subst e1
 cases r
 obtain⟨its,rv,ht,hz⟩:=I.tuple hq
 refine assign_Tuple_tuple (I.ok.hd hc) ht (by simp[hn,<-hl,rv.length]) hst fun h' hx=>?_
 have I1:Inv X pins σ H {s with heap:=h'}:=I.kept (t':=s.toks) fun b o e=>hx b o (ZY (ZP e)) e
 exact h pins _ σ H xs _ Q I1 (by simpa using rv) hw
def Uh (to ti:TE) (t:Mf):TG:=fun v σ H Q=>to σ H fun o H1=>ti σ H1 fun i H2=>t o i v H2 fun H3=>Q σ H3
def Mg {o i:Expr}{to ti:TE}{t:Mf}(ho:PE X o to) (hi:PE X i ti) (hs:PD X t)
  (ha:∀v,assign (.Subscript o i pos) X.env v=(do
   let ov <-holding [v] (eval o X.env)
   let iv <-holding [v,ov] (eval i X.env)
   standAt pos
   holding [v,ov,iv] (setItem ov iv v)
   release [v,ov,iv] []):=by intro _;rfl):PG X (.Subscript o i pos) (Uh to ti t):=by
 intro pins s σ H v u Q I r h
 rw[ha]
 refine Zv (aan (dN (ho pins s σ H _ I h) fun ov s1 ⟨x,H1,I1,r1,q1⟩=>?_))
 refine Zv (aan (dN (hi pins s1 σ H1 _ I1 q1) fun iv s2 ⟨y,H2,I2,r2,q2⟩=>?_))
 refine Zv (acY (Zv (aan (dN (hs pins s2 σ H2 x y v ov iv u _ I2 r1 r2 r q2) fun _ s3 ⟨H3,I3,q3⟩=>?_))))
 exact wpAny_release ⟨σ,H3,I3,q3⟩
def EU (te:TE) (g:TG):TS:=fun D σ H=>te σ H fun x H1=>g x σ H1 D.nx
def EV {e:Expr}{g:TG}(he:PE X e te) (hg:PG X tg g) (hs:swapsWithSole [tg] e pos.line X.env=pure false:=by rfl) (hw:swappedStores [tg] e X.env=pure none:=by rfl)
  (h1:(assignEach [tg] X.env).map (·.2)=[assign tg X.env]:=by rfl):PS X (.Assign [tg] e pos) (EU te g):=by
 intro pins s σ H D I h
 refine wpAny_Assign_stores (dN (he pins s σ H _ I h) fun v s1 ⟨x,H1,I1,r1,q1⟩=>?_) hs hw
 rw[h1]
 exact dN (hg pins s1 σ H1 x v _ I1 r1 q1) fun _ s2 q=>q
def Mh {e:Expr}(hN:X.N.Nodup) (hi:X.N[i]? =some x) (hx:Loc X.env.scope x) (he:PE X e te) (hs:swapsWith e (some (.Name x pos')) pos.line X.env=pure false:=by rfl) (hf:X.fn x=true\/X.env.scope.names.lookup x=some .local:=by first | exact .inl rfl | exact .inr rfl | assumption):
  PS X (.Assign [.Name x pos'] e pos) (EU te (pS i)):=by
 intro pins s σ H D I h
 refine wpAny_Assign_Name (dN (he pins s σ H _ I h) fun v s1 ⟨y,H1,I1,r1,q1⟩=>?_) hs
 exact tW I1 hN hi hx r1 (fun s2 I2=>⟨_,H1,I2,q1⟩) hf
def Ui (i:Nat) (te:TE) (ti:SE):TS:=fun D σ H=>∃x,σ[i]? =some (some x)/\te σ H fun y H1=>ti x y H1 fun z H2=>D.nx (σ.set i (some z)) H2
def Mi   {e : Expr}  {op : Operator} {ti : SE}  (hN : X.N.Nodup) (hi : X.N[i]? = some x) (hx : Loc X.env.scope x) (he : PE X e te) (ho : SG X op ti) (hf : X.fn x = true \/ X.env.scope.names.lookup x = some .local := by first | exact .inl rfl | exact .inr rfl | assumption) :
    PS X (.AugAssign (.Name x pos') op e pos) (Ui i te ti):=by
  intro pins s σ H D I h
  obtain⟨v,e1,h⟩:=h
  obtain⟨m,hn,hl⟩:=I.loc
  have vis:AE X.env.scope x:=by rcases hx with k | k;exact .inl k;exact .inr (.inl k)
  obtain⟨u,r,l⟩:=hl i x v hi e1 vis
  refine wpAny_AugAssign_Name ?_
  have go:wpAny (model X.prog X.w) X.A (eval e X.env) (fun w s₂=>wpAny (model X.prog X.w) X.A (inplaceOp op u w) (fun r s₃=>wpAny (model X.prog X.w) X.A (storeName X.env x r) (fun _=>SP X pins D .next) X.xe s₃) X.xe s₂) X.xe s:=by
    refine dN (he pins s σ H _ I h) fun w s1 ⟨y,H1,I1,r1,q1⟩=>?_
    refine dN (ho pins s1 σ H1 v y u w _ I1 r r1 q1) fun z s2 ⟨zv,H2,I2,r2,q2⟩=>?_
    exact tW I2 hN hi hx r2 (fun s3 I3=>⟨_,H2,I3,q2⟩) hf
  rcases l with⟨hk,hm⟩ | ⟨hk,c,hc,hcell⟩
  . exact wpAny_loadName_local I.ok.kind hk hn hm go
  . rcases hk with hk | hk
    . exact wpAny_loadName_cell I.ok.kind hk hc hcell go
    . rcases hx with k | k
      . have:X.env.scope.names.lookup x=some .free:=hk
        rw[k] at this;cases this
      . have:X.env.scope.names.lookup x=some .free:=hk
        rw[k] at this;cases this
noncomputable def Uj (f:Int->Int->Int):SE:=fun x y H Q=>∃i j,x= .int i/\y= .int j/\Q (.int (f i j)) H
def EW:SG X .Add (Uj fun i j=>i+j):=by
 intro pins s σ H x y v u Q I r1 r2 h
 obtain⟨i,j,e1,e2,q⟩:=h
 subst e1;subst e2
 obtain⟨t,rfl⟩:=r1
 obtain⟨t',rfl⟩:=r2
 exact iadd_int ⟨.int _,H,I.tok _,⟨_,rfl⟩,q⟩
end
section
variable {X:Cx}{pos:Pos}
def Mj (c:TT) (tb:TS):TS:=fun D σ H=>∃W:Nat->St->Hp->Prop,(∃m,W m σ H)/\∀m σ H,W m σ H->
 c σ H fun b H1=>if b=true then ∃N:St->Hp->Prop,(∀σ' H',N σ' H'->∃m',m' < m/\W m' σ' H')/\tb {D with nx:=N,ct:=N,bk:=D.nx} σ H1 else D.nx σ H1
def EX {tc:TT}{tb:TS}(hp:PassesOwn (model X.prog X.w) X.A X.env X.xe) (hc:PT X c tc) (hb:yM X body tb):PS X (.While c body [] pos) (Mj tc tb):=by
 intro pins s σ H D I h
 obtain⟨W,⟨m0,w0⟩,turn⟩:=h
 refine wpAny_While (codeAny_whileLoop (fun n s'=>∃σ' H',Inv X pins σ' H' s'/\W n σ' H') ?_ m0 ⟨σ,H,I,w0⟩)
 rintro n s1 ⟨σ1,H1,I1,w1⟩
 refine abv hp (dN (hc pins s1 σ1 H1 _ I1 (turn n σ1 H1 w1)) fun b s2 ⟨H2,I2,q2⟩=>?_)
 cases b with
 | true=>
  obtain⟨N,hN,q2⟩:=q2
  rw[if_pos rfl]
  refine abv hp (dN (hb pins s2 σ1 H2 _ I2 q2) fun f s3 q3=>?_)
  cases f with
  | next=>
   obtain⟨σ3,H3,I3,n3⟩:=q3
   obtain⟨m',hm,w3⟩:=hN σ3 H3 n3
   exact⟨m',hm,σ3,H3,I3,w3⟩
  | cont=>
   obtain⟨σ3,H3,I3,n3⟩:=q3
   obtain⟨m',hm,w3⟩:=hN σ3 H3 n3
   exact⟨m',hm,σ3,H3,I3,w3⟩
  | brk=>exact q3
  | ret v=>exact q3
 | false=>
  rw[if_neg aaY]
  exact acH ⟨σ1,H2,I2,q2⟩
end
structure It where
 go:Nat->Hp->Prop
 OR:Nat->Hp->V->Hp->Prop
 stop:Nat->Hp->Prop
def kI (X:Cx) (pins:AAD) (H:Hp) (b:Addr):Prop:=
 H b=none/\b≠X.env.locals/\b∉X.fs/\(b∈X.ex\/X.s₀.heap.objs.size<=b)/\(∀x c,X.env.cells.lookup x=some c->c≠b)/\∀p∈X.pn++pins,p.1≠b
def Inv.wY {s:Shared}{b:Addr}(I:Inv X pins σ H s) (hb:s.heap.objs.size<=b) (hn:H' b=none):kI X pins H' b:=by
 refine⟨hn,abe (ZQ I.lt hb),I.L4 hb,.inr (Z5 I.sz hb),fun x c e z=>?_,fun p hp z=>?_⟩
 ·obtain⟨v,q⟩:=I.cell x c e
  exact absurd (ZQ q.lt (by rw[z];exact hb)) (aaz _)
 ·exact absurd (ZQ (ZP (I.pin p hp).1) (by rw[z];exact hb)) (aaz _)
structure Turn (P:Program) (w:World) (K:AAA) (tg:Expr) (J:It) (fp:List Addr) (it:Addr) (tn:Nat->Heap->Prop):Prop where
 mem:it∈fp
 obj:∀i h,tn i h->∀b∈fp,∃o,h.get? b=some o/\∀v,o.data≠.cell v
 keep:∀i h h',tn i h->(∀b∈fp,∀o,h.get? b=some o->h'.get? b=some o)->tn i h'
 item:∀(X:Cx),X.prog=P->X.w=w->X.K=K->X.calm=true->∀(i:Nat) (pins:AAD) (s:Shared) (σ:St) (H:Hp) (E:AAB),Inv X pins σ H s->(∀b∈fp,kI X pins H b)->tn i s.heap->J.go i H->
  wpAny (model P w) X.A (pyNext (.ref it)) (fun r s1=>∃u,r=some u/\
   wpAny (model P w) X.A (letOwnedTupleGo tg (.ref it) u) (fun _ s2=>∃x H',Inv X pins σ H' s2/\RelV x u/\J.OR i H x H'/\tn (i+1) s2.heap/\∀b∈fp,H' b=none) E s1) E s
 done:∀(X:Cx),X.prog=P->X.w=w->X.K=K->X.calm=true->∀(i:Nat) (pins:AAD) (s:Shared) (σ:St) (H:Hp) (E:AAB),Inv X pins σ H s->(∀b∈fp,kI X pins H b)->tn i s.heap->J.stop i H->
  wpAny (model P w) X.A (pyNext (.ref it)) (fun r s1=>r=none/\Inv X pins σ H s1) E s
 self:∀(A:Around) (i:Nat) (s:Shared) (Q:AAB) (E:AAB),tn i s.heap->Q (.ref it) s->wpAny (model P w) A (pyIter (.ref it)) Q E s
abbrev TI:=St->Hp->(It->Hp->Prop)->Prop
def Uk (X:Cx) (pins:AAD) (σ:St) (tg:Expr) (R:It->Hp->Prop) (itv:Value) (s2:Shared):Prop:=
 ∃(it:Addr) (fp:List Addr) (tn:Nat->Heap->Prop) (J:It) (H':Hp),itv= .ref it/\Inv X pins σ H' s2/\Turn X.prog X.w X.K tg J fp it tn/\tn 0 s2.heap/\(∀b∈fp,kI X pins H' b)/\R J H'
def PI (X:Cx) (tg iter:Expr) (wi:TI):Prop:=
 ∀(pins:AAD) (s:Shared) (σ:St) (H:Hp) (R:It->Hp->Prop),Inv X pins σ H s->wi σ H R->
  wpAny (model X.prog X.w) X.A (eval iter X.env) (fun v s1=>wpAny (model X.prog X.w) X.A (pyIter v) (Uk X pins σ tg R) X.xe s1) X.xe s
def EY   {E : Value -> Shared -> Prop} {s : Shared}  {it : Addr}   {n : String} {vs : Array Value} {Q : Unit -> Shared -> Prop} (ho : s.heap.get? it = some o) (hc : o.cls = .type n) (hd : o.data = .fields vs)
    (hn:["enumerate","zip","dict_itemiterator","dict_reverseitemiterator","odict_iterator","itertools.zip_longest","itertools.pairwise"].contains n=false) (hQ:Q () s):wpAny M A (letOwnedTupleGo tg (.ref it) u) Q E s:=by
  unfold letOwnedTupleGo
  cases tg <;> first
    | exact wpAny_pure hQ
    | (cases u <;> first
        | exact wpAny_pure hQ
        | (refine Zv (wpAny_load ho ?_)
           rw[hc,hd]
           show wpAny M A (if(["enumerate","zip","dict_itemiterator","dict_reverseitemiterator","odict_iterator","itertools.zip_longest","itertools.pairwise"].contains n && vs[0]? == some (rawInt _))=true then _ else _) Q E s
           rw[if_neg (by intro h;rw[hn,acR] at h;cases h)]
           exact wpAny_pure hQ))
noncomputable def Ul (K:AAA) (a:Addr):It:=
 ⟨fun i H=>∃xs x,m5 K H a xs/\xs[i]? =some x,fun i H x H'=>H'=H/\∀xs,m5 K H a xs->xs[i]? =some x,fun i H=>∃xs,m5 K H a xs/\xs.length<=i⟩
noncomputable def Um (K:AAA) (a:Addr):It:=
 ⟨fun i H=>∃xs x,wX K H a xs/\xs[i]? =some x,fun i H x H'=>H'=H/\∀xs,wX K H a xs->xs[i]? =some x,fun i H=>∃xs,wX K H a xs/\xs.length<=i⟩
noncomputable def SH (lo:Int) (n:Nat):It:=⟨fun i _=>i < n,fun i H x H'=>H'=H/\x= .int (lo+i),fun i _=>n<=i⟩
def C9 (a it:Addr):Turn P w K tg (Ul K a) [it] it (fun i h=>h.IsListIter it a i) where
 mem:=by simp
 obj:=fun i h st b hb=>by
  have e:b=it:=by simpa using hb
  subst e
  obtain⟨o,e,c,d⟩:=st
  exact⟨o,e,fun v z=>by rw[d] at z;cases z⟩
 keep:=fun i h h' st k=>st.at fun o e=>k it (by simp) o e
 item:=by
  intro X hP hw hK hc i pins s σ H E I hf st hg
  subst hP hw hK
  obtain⟨xs,x,hq,hx⟩:=hg
  obtain⟨its,rv,p,hz⟩:=I.list hq
  obtain⟨u,hu,ru⟩:=rv.get hx
  obtain⟨f0,f1,f2,f3,f4,f5⟩:=hf it (by simp)
  refine wpAny_pyNext_list_item st p.isList (x:=u) (by simpa using hu) fun h' st' sb=>?_
  have I1:Inv X pins σ H {s with heap:=h'}:=I.turned (t':=s.toks) (fun b o hb e=>(sb.2 b hb).trans e) f0 f1 f3 f4 f5
  obtain⟨o,e,c,d⟩:=id st'
  exact⟨u,rfl,EY (s:={s with heap:=h'}) e c d (by decide) ⟨x,H,I1,ru,⟨rfl,fun ys hy=>by rw[I.yO hy hq];exact hx⟩,st',fun b hb=>(hf b hb).1⟩⟩
 done:=by
  intro X hP hw hK hc i pins s σ H E I hf st hg
  subst hP hw hK
  obtain⟨xs,hq,hx⟩:=hg
  obtain⟨its,rv,p,hz⟩:=I.list hq
  obtain⟨f0,f1,f2,f3,f4,f5⟩:=hf it (by simp)
  have hl:=rv.length
  exact wpAny_pyNext_list_end (I.ok.hd hc) st p.isList (by simp;omega) fun h' eb=>⟨rfl,I.turned (t':=s.toks) (fun b o hb e=>eb b o hb e) f0 f1 f3 f4 f5⟩
 self:=fun _ _ _ _ _ st h=>wpAny_pyIter_listiter st h
def AH (a it:Addr):Turn P w K tg (Um K a) [it] it (fun i h=>h.IsTupleIter it a i) where
 mem:=by simp
 obj:=fun i h st b hb=>by
  have e:b=it:=by simpa using hb
  subst e
  obtain⟨o,e,c,d⟩:=st
  exact⟨o,e,fun v z=>by rw[d] at z;cases z⟩
 keep:=fun i h h' st k=>st.at fun o e=>k it (by simp) o e
 item:=by
  intro X hP hw hK hc i pins s σ H E I hf st hg
  subst hP hw hK
  obtain⟨xs,x,hq,hx⟩:=hg
  obtain⟨its,rv,p,hz⟩:=I.tuple hq
  obtain⟨u,hu,ru⟩:=rv.get hx
  obtain⟨f0,f1,f2,f3,f4,f5⟩:=hf it (by simp)
  refine wpAny_pyNext_tuple_item st (show s.heap.IsTuple a its.toArray from p) (x:=u) (by simpa using hu) fun h' st' sb=>?_
  have I1:Inv X pins σ H {s with heap:=h'}:=I.turned (t':=s.toks) (fun b o hb e=>(sb.2 b hb).trans e) f0 f1 f3 f4 f5
  obtain⟨o,e,c,d⟩:=id st'
  exact⟨u,rfl,EY (s:={s with heap:=h'}) e c d (by decide) ⟨x,H,I1,ru,⟨rfl,fun ys hy=>by rw[I.vQ hy hq];exact hx⟩,st',fun b hb=>(hf b hb).1⟩⟩
 done:=by
  intro X hP hw hK hc i pins s σ H E I hf st hg
  subst hP hw hK
  obtain⟨xs,hq,hx⟩:=hg
  obtain⟨its,rv,p,hz⟩:=I.tuple hq
  obtain⟨f0,f1,f2,f3,f4,f5⟩:=hf it (by simp)
  have hl:=rv.length
  exact wpAny_pyNext_tuple_end (I.ok.hd hc) st (show s.heap.IsTuple a its.toArray from p) (by simp;omega) fun h' eb=>⟨rfl,I.turned (t':=s.toks) (fun b o hb e=>eb b o hb e) f0 f1 f3 f4 f5⟩
 self:=fun _ _ _ _ _ st h=>wpAny_pyIter_tupleiter st h
def AI (it:Addr) (lo:Int) (n:Nat):Turn P w K tg (SH lo n) [it] it (fun i h=>IsRangeIter h it (lo+(i:Nat) * 1) ((n:Int) - (i:Nat)) 1) where
  mem:=by simp
  obj := fun i h st b hb => by
    have e:b=it:=by simpa using hb
    subst e
    exact⟨_,st,fun v z=>by
      have z':Data.fields _=Data.cell v:=z
      cases z'⟩
  keep:=fun i h h' st k=>k it (by simp) _ st
  item:=by
    intro X hP hw hK hc i pins s σ H E I hf st hg
    subst hP hw hK
    obtain⟨f0,f1,f2,f3,f4,f5⟩:=hf it (by simp)
    have W:=Walks.range (prog:=X.prog) (w:=X.w) (I.ok.hd hc) it lo 1 n
    refine W.item i s _ _ hg st fun v h' tk hv st' kk=>?_
    obtain⟨t,rfl⟩:=hv
    have I1:Inv X pins σ H {s with heap:=h',toks:=tk}:=I.turned (fun b o hb e=>kk b o (by simpa using hb) e) f0 f1 f3 f4 f5
    refine⟨_,rfl,EY (s:={s with heap:=h',toks:=tk}) (n:="range_iterator") st' rfl rfl (by decide) ⟨.int (lo+i),H,I1,⟨t,?_⟩,⟨rfl,rfl⟩,st',fun b hb=>(hf b hb).1⟩⟩
    rw[Int.mul_one]
  done:=by
    intro X hP hw hK hc i pins s σ H E I hf st hg
    subst hP hw hK
    obtain⟨f0,f1,f2,f3,f4,f5⟩:=hf it (by simp)
    exact wpAny_pyNext_range_end (I.ok.hd hc) st (by have:n<=i:=hg;omega) fun h' eb=>⟨rfl,I.turned (t':=s.toks) (fun b o hb e=>eb b o hb e) f0 f1 f3 f4 f5⟩
  self:=fun _ _ _ _ _ st h=>wpAny_pyIter_rangeiter st h
section
variable {X:Cx}{tg:Expr}
def PK (K:AAA) (tl:TE):TI:=fun σ H R=>tl σ H fun x H1=>∃a,x= .ref a/\(∃xs,m5 K H1 a xs)/\R (Ul K a) H1
def Uo (K:AAA) (tl:TE):TI:=fun σ H R=>tl σ H fun x H1=>∃a,x= .ref a/\(∃xs,wX K H1 a xs)/\R (Um K a) H1
def BQ {l:Expr}{tl:TE}(hl:PE X l tl):PI X tg l (PK X.K tl):=by
 intro pins s σ H R I h
 refine dN (hl pins s σ H _ I h) fun v s1 ⟨x,H1,I1,r1,q1⟩=>?_
 obtain⟨a,e,⟨xs,hq⟩,q⟩:=q1
 subst e
 cases r1
 obtain⟨its,rv,p,hz⟩:=I1.list hq
 refine acq p.isList ?_
 refine⟨s1.heap.objs.size,[s1.heap.objs.size],_,_,H1,rfl,I1.kept (t':=s1.toks) fun b o e=>Zx _ e,C9 a _,⟨_,ZT _ rfl,rfl,rfl⟩,fun b hb=>?_,q⟩
 have e:b=s1.heap.objs.size:=by simpa using hb
 subst e
 exact I1.wY (ZM _) (I1.hok.fresh (ZM _))
def EZ {l:Expr}{tl:TE}(hl:PE X l tl):PI X tg l (Uo X.K tl):=by
 intro pins s σ H R I h
 refine dN (hl pins s σ H _ I h) fun v s1 ⟨x,H1,I1,r1,q1⟩=>?_
 obtain⟨a,e,⟨xs,hq⟩,q⟩:=q1
 subst e
 cases r1
 obtain⟨its,rv,p,hz⟩:=I1.tuple hq
 refine abI (show s1.heap.IsTuple a its.toArray from p) ?_
 refine⟨s1.heap.objs.size,[s1.heap.objs.size],_,_,H1,rfl,I1.kept (t':=s1.toks) fun b o e=>Zx _ e,AH a _,⟨_,ZT _ rfl,rfl,rfl⟩,fun b hb=>?_,q⟩
 have e:b=s1.heap.objs.size:=by simpa using hb
 subst e
 exact I1.wY (ZM _) (I1.hok.fresh (ZM _))
def E1 {s:Shared}{R:It->Hp->Prop}{lo hi:Int}{t u v:Tok}{tk:Nat}(I:Inv X pins σ H s) (h1:-(2 ^ 62)<=lo) (h2:lo < 2 ^ 62) (h3:-(2 ^ 62)<=hi) (h4:hi < 2 ^ 62)
  (q:R (SH lo (hi - lo).toNat) H):wpAny (model X.prog X.w) X.A (pyIter (.ref s.heap.objs.size)) (Uk X pins σ tg R) E {s with heap:=s.heap.push {cls:=.type "range",data:=.fields #[.int lo t,.int hi u,.int 1 v]},toks:=tk}:=by
 refine wpAny_pyIter_range (IsRange.new ..) (small_one h1 h2 h3 h4) ?_
 have I1:Inv X pins σ H {s with heap:=s.heap.push {cls:=.type "range",data:=.fields #[.int lo t,.int hi u,.int 1 v]},toks:=tk}:=I.kept fun b o e=>Zx _ e
 refine⟨(s.heap.push {cls:=.type "range",data:=.fields #[.int lo t,.int hi u,.int 1 v]}).objs.size,[(s.heap.push {cls:=.type "range",data:=.fields #[.int lo t,.int hi u,.int 1 v]}).objs.size],_,_,H,rfl,
  I1.kept (t':=tk) fun b o e=>Zx _ e,AI _ lo (hi - lo).toNat,?_,fun b hb=>?_,q⟩
 ·have e1:lo+((0:Nat):Int) * 1=lo:=by simp
  have e2:(((hi - lo).toNat:Nat):Int) - ((0:Nat):Int)=Builtin.Range.rangeSize lo hi 1:=by rw[rangeSize_one];split <;> omega
  show IsRangeIter _ _ (lo+((0:Nat):Int) * 1) ((((hi - lo).toNat:Nat):Int) - ((0:Nat):Int)) 1
  rw[e1,e2]
  exact ZT _ rfl
 ·have e:b=(s.heap.push {cls:=.type "range",data:=.fields #[.int lo t,.int hi u,.int 1 v]}).objs.size:=by simpa using hb
  subst e
  exact I1.wY (ZM _) (I1.hok.fresh (ZM _))
def PL (ta:TA):TI:=fun σ H R=>ta σ H fun vs H1=>∃j:Int,vs=[.int j]/\-(2 ^ 62)<=j/\j < 2 ^ 62/\R (SH 0 j.toNat) H1
def Dc {a:Expr}{ta:TA}{p:Pos}(hg:Gl X "range") (hm:X.mg "range" =none) (ha:PA X [a] ta) (hs:starEach [a] X.env=[(false,eval a X.env)]:=by rfl):PI X tg (.Call (.Name "range" p) [a] [] pos) (PL ta):=by
 intro pins s σ H R I h
 refine Call_ (jS I hg hm boot_range (aak (dN (ha pos pins s σ H _ I h) fun us s1 ⟨vs,H1,I1,r1,q1⟩=>?_) hs rfl))
 obtain⟨j,e,q1,q2,q⟩:=q1
 subst e
 cases r1 with
 | cons r rr=>
  cases rr
  obtain⟨t,rfl⟩:=r
  exact call_range_1 (E1 I1 (by omega) (by omega) q1 q2 (by simpa using q))
def Up (wi:TI) (g:TG) (tb:TS):TS:=fun D σ H=>wi σ H fun J H1=>∃W:Nat->Nat->St->Hp->Prop,(∃m,W 0 m σ H1)/\∀i m σ H,W i m σ H->
 (J.stop i H/\D.nx σ H)\/(J.go i H/\∃N:St->Hp->Prop,(∀σ' H',N σ' H'->∃m',m' < m/\W (i+1) m' σ' H')/\∀x H',J.OR i H x H'->g x σ H' fun σ2 H2=>tb {D with nx:=N,ct:=N,bk:=D.nx} σ2 H2)
noncomputable def kW (fp:List Addr) (h:Heap):List (Addr×Obj):=fp.filterMap fun b=>(h.get? b).map fun o=>(b,o)
def cN {h:Heap}{b:Addr}(hb:b∈fp) (e:h.get? b=some o):(b,o)∈kW fp h:=List.mem_filterMap.mpr ⟨b,hb,by rw[e];rfl⟩
def lz {h:Heap}{p:Addr×Obj}(hp:p∈kW fp h):p.1∈fp/\h.get? p.1=some p.2:=by
 obtain⟨b,hb,e⟩:=List.mem_filterMap.mp hp
 cases q:h.get? b with
 | none=>rw[q] at e;cases e
 | some o=>
  rw[q] at e
  have e':(b,o)=p:=ZU e
  subst e'
  exact⟨hb,q⟩
def Inv.pinned {s:Shared}(I:Inv X pins σ H s) (hf:∀b∈fp,kI X pins H b) (ho:∀b∈fp,∃o,s.heap.get? b=some o/\∀v,o.data≠.cell v):Inv X (pins++kW fp s.heap) σ H s:=
 I.sY fun p hp=>(Z2.mp hp).elim (fun z=>I.pin p (ZR _ z)) fun z=>by
  obtain⟨hb,e⟩:=lz z
  obtain⟨f0,f1,f2,_⟩:=hf p.1 hb
  obtain⟨o,e',d⟩:=ho p.1 hb
  rw[e] at e';cases e'
  exact⟨e,f0,f1,f2,d⟩
def Inv.jT {pl:AAD}{s:Shared}(I:Inv X (pins++pl) σ H s):Inv X pins σ H s:=I.sY fun p hp=>I.pin p (ZR _ (aac _ hp))
def AJ {iter:Expr}{wi:TI}{g:TG}{tb:TS}(hp:PassesOwn (model X.prog X.w) X.A X.env X.xe) (hc:X.calm=true) (hi:PI X tg iter wi) (hg:PG X tg g) (hb:yM X body tb)
  (hs:∀x,foldedSetIterable iter X.env x=pure x:=by intro _;rfl):PS X (.For tg iter body [] pos) (Up wi g tb):=by
 intro pins s σ H D I h
 refine wpAny_For (dN (hi pins s σ H _ I h) fun v s1 h1=>dN h1 fun itv s2 h2=>?_) hs
 obtain⟨it,fp,tn,J,H2,e,I2,T,st2,f2,W,⟨m0,w0⟩,turn⟩:=h2
 subst e
 have Mk:∀{H':Hp},(∀b∈fp,H' b=none)->∀b∈fp,kI X pins H' b:=fun hn b hb=>⟨hn b hb,(f2 b hb).2⟩
 refine codeAny_forLoop_any (fun n s'=>∃i σ' H',Inv X pins σ' H' s'/\tn i s'.heap/\(∀b∈fp,H' b=none)/\W i n σ' H') ?_ m0 ⟨0,σ,H2,I2,st2,fun b hb=>(f2 b hb).1,w0⟩
 rintro n s3 ⟨i,σ3,H3,I3,st3,WU,w3⟩
 rcases turn i n σ3 H3 w3 with⟨stop,qn⟩ | ⟨go,N,hN,step⟩
 ·refine abv hp (dN (T.done X rfl rfl rfl hc i pins s3 σ3 H3 X.xe I3 (Mk WU) st3 stop) fun r s4 ⟨hr,I4⟩=>?_)
  subst hr
  exact acH ⟨σ3,H3,I4,qn⟩
 ·refine abv hp (dN (T.item X rfl rfl rfl hc i pins s3 σ3 H3 X.xe I3 (Mk WU) st3 go) fun r s4 ⟨u,hr,h4⟩=>?_)
  subst hr
  refine abv hp (dN h4 fun _ s5 ⟨x,H5,I5,r5,y5,Uq,XS⟩=>?_)
  have XT:=I5.pinned (Mk XS) (T.obj _ _ Uq)
  refine abv hp (dN (hg _ s5 σ3 H5 x u _ XT r5 (step x H5 y5)) fun _ s6 ⟨XU,H6,I6,q6⟩=>?_)
  refine abv hp (dN (hb _ s6 XU H6 _ I6 q6) fun f s7 q7=>?_)
  have again:∀{E2:St}{H7:Hp},Inv X (pins++kW fp s5.heap) E2 H7 s7->N E2 H7->∃m,m < n/\∃i σ' H',Inv X pins σ' H' s7/\tn i s7.heap/\(∀b∈fp,H' b=none)/\W i m σ' H':=fun {E2 H7} I7 n7=>by
   obtain⟨m',hm,w7⟩:=hN E2 H7 n7
   refine⟨m',hm,i+1,E2,H7,I7.jT,T.keep _ _ _ Uq fun b hb o e=>(I7.pin (b,o) (ZR _ (ZR _ (cN hb e)))).1,fun b hb=>?_,w7⟩
   obtain⟨o,e,d⟩:=T.obj _ _ Uq b hb
   exact(I7.pin (b,o) (ZR _ (ZR _ (cN hb e)))).2.1
  cases f with
  | next=>obtain⟨E2,H7,I7,n7⟩:=q7;exact again I7 n7
  | cont=>obtain⟨E2,H7,I7,n7⟩:=q7;exact again I7 n7
  | brk=>obtain⟨E2,H7,I7,q7⟩:=q7;exact⟨E2,H7,I7.jT,q7⟩
  | ret v=>obtain⟨x7,E2,H7,I7,r7,q7⟩:=q7;exact⟨x7,E2,H7,I7.jT,r7,q7⟩
end
abbrev R2:=V->V->Hp->VK->Prop
def sF (X:Cx) (f:Value->Value->Sem Value) (r:R2):Prop:=
 ∀(pins:AAD) (s:Shared) (σ:St) (H:Hp) (x y:V) (v u:Value) (Q:VK),Inv X pins σ H s->RelV x v->RelV y u->r x y H Q->
  wpAny (model X.prog X.w) X.A (f v u) (EP X pins σ Q) X.xe s
def gI (X:Cx) (f:Value) (r:List V->Hp->VK->Prop):Prop:=
 ∀(pins:AAD) (s:Shared) (σ:St) (H:Hp) (xs:List V) (us:AAI) (Q:VK),Inv X pins σ H s->Vals xs us->r xs H Q->
  wpAny (model X.prog X.w) X.A (call f us) (EP X pins σ Q) X.xe s
def Ml (r:R2) (ta tb:TE):TE:=fun σ H Q=>ta σ H fun x H1=>tb σ H1 fun y H2=>r x y H2 Q
def rI (C:Int->Int->Prop) (g:Int->Int->V):R2:=fun x y H Q=>∃i j,x= .int i/\y= .int j/\C i j/\Q (g i j) H
def Mm (g:Int->Int->V):R2:=fun x y H Q=>∃i j,x= .int i/\y= .int j/\Q (g i j) H
section
variable {X:Cx}{a b c:Expr}{ta tb tc:TE}{pos:Pos}
def Mn (ha:PE X a ta) (hb:PE X b tb){s:Shared}(I:Inv X pins σ H s)
  (h:ta σ H fun x H1=>tb σ H1 fun y H2=>R x y H2){f:Value->Value->Sem Value}
  (hf:∀v u s2 x y H2,Inv X pins σ H2 s2->RelV x v->RelV y u->R x y H2->wpAny (model X.prog X.w) X.A (f v u) Q X.xe s2):
  wpAny (model X.prog X.w) X.A (eval a X.env) (fun v s₁=>wpAny (model X.prog X.w) X.A (eval b X.env) (fun u s₂=>wpAny (model X.prog X.w) X.A (f v u) Q X.xe s₂) X.xe s₁) X.xe s:=by
 refine dN (ha pins s σ H _ I h) fun v s1 ⟨x,H1,I1,r1,q1⟩=>?_
 refine dN (hb pins s1 σ H1 _ I1 q1) fun u s2 ⟨y,H2,I2,r2,q2⟩=>?_
 exact hf v u s2 x y H2 I2 r1 r2 q2
def PM {op:Operator}(ho:sF X (binaryOp op) r) (ha:PE X a ta) (hb:PE X b tb):PE X (.BinOp a op b pos) (Ml r ta tb):=by
 intro pins s σ H Q I h
 exact wpAny_BinOp (Mn ha hb I h fun v u s2 x y H2 I2 rx ry q=>ho pins s2 σ H2 x y v u Q I2 rx ry q)
def SJ {f:Value->Value->Sem Value}{C:Int->Int->Prop}
  (rule:∀(i j:Int) (t u:Tok) (s:Shared) (Q:AAB) (E:AAB),C i j->Q (.int (g i j) s.toks) {s with toks:=s.toks+1}->wpAny (model X.prog X.w) X.A (f (.int i t) (.int j u)) Q E s):
  sF X f (rI C fun i j=>.int (g i j)):=by
 intro pins s σ H x y v u Q I rx ry h
 obtain⟨i,j,rfl,rfl,hc,q⟩:=h
 obtain⟨t,rfl⟩:=rx
 obtain⟨t',rfl⟩:=ry
 exact rule i j t t' s _ _ hc ⟨.int (g i j),H,I.tok _,⟨_,rfl⟩,q⟩
def PN {f:Value->Value->Sem Value}
  (rule:∀(i j:Int) (t u:Tok) (s:Shared) (Q:AAB) (E:AAB),Q (.int (g i j) s.toks) {s with toks:=s.toks+1}->wpAny (model X.prog X.w) X.A (f (.int i t) (.int j u)) Q E s):
  sF X f (Mm fun i j=>.int (g i j)):=by
 intro pins s σ H x y v u Q I rx ry h
 obtain⟨i,j,rfl,rfl,q⟩:=h
 obtain⟨t,rfl⟩:=rx
 obtain⟨t',rfl⟩:=ry
 exact rule i j t t' s _ _ ⟨.int (g i j),H,I.tok _,⟨_,rfl⟩,q⟩
def Mp {f:Value->Value->Sem Value}{g:Int->Int->Bool}
  (rule:∀(i j:Int) (t u:Tok) (s:Shared) (Q:AAB) (E:AAB),Q (.bool (g i j)) s->wpAny (model X.prog X.w) X.A (f (.int i t) (.int j u)) Q E s):
  sF X f (Mm fun i j=>.bl (g i j)):=by
 intro pins s σ H x y v u Q I rx ry h
 obtain⟨i,j,rfl,rfl,q⟩:=h
 obtain⟨t,rfl⟩:=rx
 obtain⟨t',rfl⟩:=ry
 exact rule i j t t' s _ _ ⟨.bl (g i j),H,I,rfl,q⟩
def PO (i j:Int):Prop:=0 < j/\j < 1073741824
def Ur (i j:Int):Prop:=0<=j/\j<=1000000/\i.natAbs < 2 ^ 64
def Mq (i j:Int):Prop:=(-(2 ^ 64) < i/\i < 2 ^ 64)\/(-(2 ^ 64) < j/\j < 2 ^ 64)
def Mq.ok {i j:Int}(h:Mq i j):IntMulOk i j:=by
 rcases h with⟨h1,h2⟩ | ⟨h1,h2⟩
 ·exact .of_left (intBits_le_64 h1 h2)
 ·exact .of_right (intBits_le_64 h1 h2)
def Mr:sF X (binaryOp .Add) (Mm fun i j=>.int (i+j)):=PN fun _ _ _ _ _ _ _ q=>add_int q
def Ms:sF X (binaryOp .Sub) (Mm fun i j=>.int (i - j)):=PN fun _ _ _ _ _ _ _ q=>sub_int q
def Mt:sF X (binaryOp .Mult) (rI Mq fun i j=>.int (i * j)):=SJ fun _ _ _ _ _ _ _ hc q=>mul_int q hc.ok
def IK:sF X (binaryOp .FloorDiv) (rI PO fun i j=>.int (i / j)):=SJ fun i j _ _ _ _ _ hc q=>by
 have h1:(0:Int) < j:=hc.1
 have h2:j < 1073741824:=hc.2
 exact floordiv_int (by omega) (by rw[Int.fdiv_eq_ediv_of_nonneg i (by omega)];exact q) (.inl (PyProof.noPylong_small (by omega)))
def Mu:sF X (binaryOp .Mod) (rI (fun _ j=>0 < j) fun i j=>.int (i % j)):=SJ fun i j _ _ _ _ _ hc q=>by
 have h1:(0:Int) < j:=hc
 exact mod_int' (by omega) (by rw[Int.fmod_eq_emod_of_nonneg i (by omega)];exact q)
def Mv:sF X (binaryOp .Pow) (rI Ur fun i j=>.int (i ^ j.toNat)):=SJ fun _ _ _ _ _ _ _ hc q=>pow_int_small hc.1 hc.2.1 hc.2.2 q
end
section
variable {X:Cx}{a b c:Expr}{ta tb tc:TE}{pos:Pos}
def AK {s:Shared}{Q:VK}{k k':Bool}(I:Inv X pins σ H s) (q:Q (.bl k) H) (e:k=k'):EP X pins σ Q (.bool k') s:=by
 subst e
 exact⟨.bl k,H,I,rfl,q⟩
def PR:sF X (compareOp .Lt) (Mm fun i j=>.bl (decide (i < j))):=Mp fun _ _ _ _ _ _ _ q=>lt_int q
def PU:sF X (compareOp .Gt) (Mm fun i j=>.bl (decide (j < i))):=Mp fun _ _ _ _ _ _ _ q=>gt_int q
def PV:sF X (compareOp .GtE) (Mm fun i j=>.bl (decide (j<=i))):=Mp fun _ _ _ _ _ _ _ q=>ge_int q
def Dd:sF X (compareOp .In) (fun x y H Q=>∃i j,x= .str i/\y= .str j/\Q (.bl (!(Builtin.Str.occurrences j i 0 j.length 1).isEmpty)) H):=by
 intro pins s σ H x y v u Q I rx ry h
 obtain⟨i,j,rfl,rfl,q⟩:=h
 obtain⟨t,rfl⟩:=rx
 obtain⟨t',rfl⟩:=ry
 exact in_str (AK I q rfl)
def Mw:sF X (compareOp .Is) (fun x y H Q=>y= .bV/\Q (.bl (decide (x= .bV))) H):=by
 intro pins s σ H x y v u Q I rx ry h
 obtain⟨rfl,q⟩:=h
 cases ry
 refine is_none_gen (AK I q ?_)
 cases x <;> first
  | (cases rx;rfl)
  | (obtain⟨t,rfl⟩:=rx;rfl)
def IL:sF X (compareOp .IsNot) (fun x y H Q=>y= .bV/\Q (.bl (!decide (x= .bV))) H):=by
 intro pins s σ H x y v u Q I rx ry h
 obtain⟨rfl,q⟩:=h
 cases ry
 refine isnot_none_gen (AK I q ?_)
 cases x <;> first
  | (cases rx;rfl)
  | (obtain⟨t,rfl⟩:=rx;rfl)
def AL (b:Expr)(h:op≠.In:=by decide) (h2:op≠.NotIn:=by decide):behindInMarks op b=false:=by
 have e1:(op == CmpOp.In)=false:=by cases op <;> first | rfl | exact absurd rfl h
 have e2:(op == CmpOp.NotIn)=false:=by cases op <;> first | rfl | exact absurd rfl h2
 cases b <;> simp[behindInMarks,e1,e2]
def IM (ho:sF X (compareOp op) r) (ha:PE X a ta) (hb:PE X b tb) (hm:behindInMarks op b=false):PE X (.Compare a [op] [b] pos) (Ml r ta tb):=by
 intro pins s σ H Q I h
 exact wpAny_Compare1 (Mn ha hb I h fun v u s2 x y H2 I2 rx ry q=>ho pins s2 σ H2 x y v u Q I2 rx ry q) hm
def PX (t:TE):TT:=fun σ H Q=>t σ H fun x H'=>∃k,x= .bl k/\Q k H'
def BR (ho:sF X (compareOp op) r) (ha:PE X a ta) (hb:PE X b tb) (hm:behindInMarks op b=false):PT X (.Compare a [op] [b] pos) (PX (Ml r ta tb)):=by
 intro pins s σ H Q I h
 refine wpAny_isTrue_Compare1 (dN (ha pins s σ H _ I h) fun v s1 ⟨x,H1,I1,r1,q1⟩=>dN (hb pins s1 σ H1 _ I1 q1) fun u s2 ⟨y,H2,I2,r2,q2⟩=>
  dN (ho pins s2 σ H2 x y v u _ I2 r1 r2 q2) fun c s3 ⟨z,H3,I3,r3,k,e,q3⟩=>?_) hm
 subst e
 cases r3
 exact abP ⟨H3,I3,q3⟩
def qL:(sizeLine:Nat) < 2 ^ 63:=by rw[sizeLine_eq];decide
def AM:sF X (binaryOp .Add) (fun x y H Q=>∃i j,x= .str i/\y= .str j/\i.length+j.length<=sizeLine/\Q (.str (i++j)) H):=by
 intro pins s σ H x y v u Q I rx ry h
 obtain⟨i,j,rfl,rfl,hz,q⟩:=h
 obtain⟨t,rfl⟩:=rx
 obtain⟨t',rfl⟩:=ry
 exact add_str (fun t' tk=>⟨.str (i++j),H,I.tok _,⟨_,rfl⟩,q⟩) hz
def vals1 {x:V}(r:Vals [x] us):∃u,us=[u]/\RelV x u:=by
 cases r with
 | cons r1 r2=>cases r2;exact⟨_,rfl,r1⟩
def vals2 {x:V}(r:Vals [x,y] us):∃u w',us=[u,w']/\RelV x u/\RelV y w':=by
 cases r with
 | cons r1 r2=>
  cases r2 with
  | cons r3 r4=>cases r4;exact⟨_,_,rfl,r1,r3⟩
def De (hc:X.calm=true):gI X (.builtin "min") (fun xs H Q=>∃i j,xs=[.int i,.int j]/\Q (.int (if j < i then j else i)) H):=by
 intro pins s σ H xs us Q I r h
 obtain⟨i,j,rfl,q⟩:=h
 obtain⟨u,w',rfl,⟨t,rfl⟩,⟨t',rfl⟩⟩:=vals2 r
 refine min_two_ints (I.ok.hd hc) fun h' tk k=>⟨_,H,I.kept k,?_,q⟩
 by_cases hj:j < i
 ·rw[if_pos hj,if_pos hj];exact⟨_,rfl⟩
 ·rw[if_neg hj,if_neg hj];exact⟨_,rfl⟩
def vR:gI X (.type "int") (fun xs H Q=>(∃i,xs=[.int i]/\Q (.int i) H)\/∃k,xs=[.bl k]/\Q (.int (if k then 1 else 0)) H):=by
 intro pins s σ H xs us Q I r h
 rcases h with⟨i,rfl,q⟩ | ⟨k,rfl,q⟩
 ·obtain⟨u,rfl,t,rfl⟩:=vals1 r
  exact call_int_int ⟨.int i,H,I,⟨_,rfl⟩,q⟩
 ·obtain⟨u,rfl,r1⟩:=vals1 r
  cases r1
  exact call_int_bool ⟨.int (if k then 1 else 0),H,I.tok _,⟨_,rfl⟩,q⟩
end
section
variable {prog:Program}{w:World}{A:Around}{E:AAB}{s:Shared}{K:AAA}{x dx C f:Addr}{mA:AAC}{name:Str}{v:Value}
end
def mS.some_of {v:V}{o:Option Value}(r:mS (some v) o):∃u,o=some u/\RelV v u:=by
 cases o with
 | none=>exact(show False from r).elim
 | some u=>exact⟨u,rfl,r⟩
def mS.none_of {o:Option Value}(r:mS none o):o=none:=by
 cases o with
 | none=>rfl
 | some u=>exact(show False from r).elim
section
variable {P:Program}{w:World}{H H':Hp}{h h':Heap}{a C dx:Addr}{fs fs':List (Str×V)}
end
section
variable {X:Cx}{pins:AAD}{σ:St}{H:Hp}{s:Shared}{a C dx:Addr}{fs:List (Str×V)}{f:Str}{v:V}{A:Around}{E:AAB}
end
section
variable {X:Cx}{o e value:Expr}{f:Str}{pos pos' tpos:Pos}{ta tv:TE}
end
section
variable {X:Cx}{pins:AAD}{σ:St}{H:Hp}{s:Shared}{A:Around}{E:AAB}{Q:AAB}{c:Value}{b:Bool}
end
structure jU (k:Nat) (A:Around):Prop where
 hd:A.handled=none
 dp:A.depth+3 * k+5 < recursionLimit
 un:A.units+16 * k+200 < cLine
 gd:A.guards=some []
def jU.mono {j:Nat}(r:jU k A) (h:j<=k):jU j A:=⟨r.hd,by have:=r.dp;omega,by have:=r.un;omega,r.gd⟩
def jU.deeper {k:Nat}{A:Around}(r:jU (k+1) A) (env:Env):jU k (A.deeper env):=
 ⟨r.hd,by have:=r.dp;show A.depth+1+3 * k+5 < _;omega,by have:=r.un;show A.units+3+16 * k+200 < _;omega,r.gd⟩
def jU.depth {k:Nat}{A:Around}(r:jU k A):A.depth < recursionLimit:=by have:=r.dp;omega
def jU.units {k:Nat}{A:Around}(r:jU k A):A.units+64 < cLine:=by have:=r.un;omega
def PY:TA:=fun _ H Q=>Q [] H
def Lk (ta:TE) (tr:TA):TA:=fun σ H Q=>ta σ H fun x H1=>tr σ H1 fun xs H2=>Q (x :: xs) H2
section
variable {X:Cx}{e:Expr}{es:List Expr}{te:TE}{t:TA}{pos:Pos}
def lO:PA X [] PY:=fun _ _ _ _ H Q I h=>abQ ⟨[],H,I,.nil,h⟩
def jH (ha:PE X e te) (hr:PA X es t) (hs:starEach (e :: es) X.env=(false,eval e X.env) :: starEach es X.env:=by rfl):PA X (e :: es) (Lk te t):=by
 intro pos pins s σ H Q I h
 rw[hs]
 show wpAny _ _ (spliced ((false,eval e X.env) :: backTo pos (starEach es X.env))) _ _ s
 refine aa7 (dN (ha pins s σ H _ I h) fun u s1 ⟨x,H1,I1,r1,q1⟩=>?_)
 exact dN (hr pos pins s1 σ H1 _ I1 q1) fun us s2 ⟨xs,H2,I2,r2,q2⟩=>⟨x :: xs,H2,I2,.cons r1 r2,q2⟩
def Us (t:TA):TE:=fun σ H Q=>t σ H fun xs H1=>xs.length<=sizeLine/\∀p,H1 p=none->Q (.ref p) (upd H1 p (.tup xs))
def Ut (t:TA):TE:=fun σ H Q=>t σ H fun xs H1=>xs.length<=sizeLine/\∀p,H1 p=none->Q (.ref p) (upd H1 p (.lst xs))
def Mx {x1}(h:PA X es t):PE X (.Tuple es x1 pos) (Us t):=by
 intro pins s σ H Q I hq
 refine wpAny_Tuple_spliced (dN (h pos pins s σ H _ I hq) fun us s1 ⟨xs,H1,I1,r,z,q⟩=>⟨by rw[<-r.length];exact z,?_⟩)
 have hf:H1 s1.heap.objs.size=none:=I1.hok.fresh (ZM _)
 refine⟨.ref s1.heap.objs.size,upd H1 s1.heap.objs.size (.tup xs),I1.laid (t':=s1.toks) (fun b u e=>Zx _ e) (ZM _) ?_,rfl,q _ hf⟩
 exact⟨z,us,r,⟨_,ZT _ rfl,rfl,_,rfl⟩⟩
def E3 (h:PA X es t):PE X (.List es pos) (Ut t):=by
 intro pins s σ H Q I hq
 refine wpAny_List_spliced (dN (h pos pins s σ H _ I hq) fun us s1 ⟨xs,H1,I1,r,z,q⟩=>⟨by rw[<-r.length];exact z,?_⟩)
 have hf:H1 s1.heap.objs.size=none:=I1.hok.fresh (ZM _)
 refine⟨.ref s1.heap.objs.size,upd H1 s1.heap.objs.size (.lst xs),I1.laid (t':=s1.toks) (fun b u e=>Zx _ e) (ZM _) ?_,rfl,q _ hf⟩
 exact⟨z,us,0,r,ZT _ rfl⟩
end
abbrev Sp:=List V->Hp->VK->XK->Prop
abbrev EC:=List Env->Hp->Shared->XK->Value->Shared->Prop
structure IP (P:Program) (w:World) (K:AAA) (mg:AAC) (base:Heap) (A:Around) (outer:List Env) (s:Shared) (H:Hp):Prop where
 frames:A.frames=some outer
 mod:Mod K mg base
 bs:∀b o,base.get? b=some o->s.heap.get? b=some o/\H b=none
 Ir:base.objs.size<=s.heap.objs.size
 tV:s.heap.FunFrames base outer
 OP:∀b∈frs outer,H b=none
 hok:mZ P w H s.heap
 bare:AllBare s.gens
def CE (outer:List Env) (P:Program) (w:World) (H:Hp) (s:Shared) (Q:VK) (u:Value) (s':Shared):Prop:=
 ∃v H',s'.os=s.os/\AllBare s'.gens/\Un (frs outer) [] H H' s.heap s'.heap/\mZ P w H' s'.heap/\RelV v u/\Q v H'
def CR (CX:EC) (outer:List Env) (P:Program) (w:World) (H:Hp) (s:Shared) (Q:VK) (E:XK) (r:Result) (s':Shared):Prop:=
 match r with
 | .ok (.ret u)=>CE outer P w H s Q u s'
 | .ok _=>False
 | .error e=>CX outer H s E e s'
structure o7 (P:Program) (w:World) (K:AAA) (mg:AAC) (base:Heap) (CX:EC) (k:Nat) (f:Addr) (fd:FuncData) (ps:List Str) (sp:Sp):Prop where
 len:∀vs H Q E,sp vs H Q E->vs.length=ps.length
 run:∀(A:Around) (outer:List Env) (s:Shared) (H:Hp) (args:Args) (us:AAI) (vs:List V) (Q:VK) (E:XK),jU k A->IP P w K mg base A outer s H->BindsTo s fd args (ps.zip us)->Vals vs us->sp vs H Q E->
  codeAny (model P w) A (.call (.ref f) args) (CR CX outer P w H s Q E) s
def o7.mono {P:Program}{w:World}{K:AAA}{mg:AAC}{base:Heap}{CX:EC}{j k:Nat}{f:Addr}{fd:FuncData}{ps:List Str}{sp:Sp}(F:o7 P w K mg base CX j f fd ps sp) (h:j<=k):
  o7 P w K mg base CX k f fd ps sp:=⟨F.len,fun A outer s H args us vs Q E hr=>F.run A outer s H args us vs Q E (hr.mono h)⟩
section
variable {X:Cx}{pins:AAD}{σ:St}{H:Hp}{s s':Shared}
def Inv.Uu (I:Inv X pins σ H s):IP X.prog X.w X.K X.mg X.base X.A X.stack s H:=
 ⟨I.ok.frames,I.ok.mod,I.bs,Z5 I.ok.Ir I.sz,I.stack,I.wW,I.hok,I.bare⟩
def Inv.after {Q:VK}(I:Inv X pins σ H s) (h:CE X.stack X.prog X.w H s Q u s'):EP X pins σ Q u s':=by
 obtain⟨v,H',os,bare,un,hok,r,q⟩:=h
 obtain⟨hh,g,d,t,os'⟩:=s'
 obtain rfl:os'=s.os:=os
 exact⟨v,H',I.call (h':=hh) (g':=g) (d':=d) (t':=t) (ch:=[]) un hok bare (fun b z=>absurd z (by simp)),r,q⟩
end
def PZ (sp:Sp) (Ll:List V) (E:XK) (t:TA):TE:=fun σ H Q=>t σ H fun vs H1=>sp (vs++Ll) H1 Q E
def Binds (K:AAA) (fd:FuncData) (ps:List Str) (ds:AAI):Prop:=
 ∀(s:Shared) (us:AAI),K.In s.heap->(us++ds).length=ps.length->BindsTo s fd ⟨us,[]⟩ (ps.zip (us++ds))
def Binds.all {fd:FuncData}(h:∀us:List Value,us.length=ps.length->bindArgs fd ⟨us,[]⟩=pure (ps.zip us)):Binds K fd ps []:=fun s us _ hl=>by
 rw[abJ] at hl ⊢
 exact .of_eq (h us hl)
def Passes (CX:EC) (X:Cx) (E:XK):Prop:=∀(pins:AAD) (σ:St) (H:Hp) (s:Shared) (e:Value) (s':Shared),Inv X pins σ H s->CX X.stack H s E e s'->X.xe e s'
section
variable {X:Cx}{CX:EC}{k:Nat}{f C:Addr}{fd:FuncData}{ps:List Str}{sp:Sp}{Ll:List V}{ds:AAI}{E:XK}{x m:Str}{p pos apos:Pos}{e o:Expr}{es:List Expr}{ta:TE}{t:TA}
def My {s:Shared}{Q:VK}(F:o7 X.prog X.w X.K X.mg X.base CX k f fd ps sp) (hr:jU k X.A) (hb:Binds X.K fd ps ds) (hd:Vals Ll ds) (hx:Passes CX X E)
  (I:Inv X pins σ H s) (r:Vals vs us) (h:sp (vs++Ll) H Q E):wpAny (model X.prog X.w) X.A (call (.ref f) us) (EP X pins σ Q) X.xe s:=by
 have r2:Vals (vs++Ll) (us++ds):=r.append hd
 have hl:(us++ds).length=ps.length:=by rw[<-r2.length];exact F.len _ _ _ _ h
 refine wpAny_call (ace (F.run X.A X.stack s H ⟨us,[]⟩ (us++ds) (vs++Ll) Q E hr I.Uu (hb s us I.EN hl) r2 h) fun r s' hq=>?_)
 cases r with
 | error e=>exact hx pins σ H s e s' I hq
 | ok fl=>
  cases fl with
  | ret u=>exact I.after hq
  | next=>exact False.elim hq
  | brk=>exact False.elim hq
  | cont=>exact False.elim hq
def IQ (F:o7 X.prog X.w X.K X.mg X.base CX k f fd ps sp) (hr:jU k X.A) (hg:Gl X x) (hm:X.mg x=some (.ref f)) (hk:PySem.W.keepIn X.K (.ref f)=true) (hb:Binds X.K fd ps ds) (hd:Vals Ll ds) (hx:Passes CX X E)
  (ha:PA X (e :: es) t) (hdb:(x == ("__debug__":Str))=false:=by decide) (he:starEach (e :: es) X.env=(false,eval e X.env) :: starEach es X.env:=by rfl) (hpl:(backTo pos (starEach es X.env)).any (·.1)=false:=by rfl):
  PE X (.Call (.Name x p) (e :: es) [] pos) (PZ sp Ll E t):=by
 intro pins s σ H Q I h
 refine aaL (IG I hg hm ?_ hdb)
 refine PySem.W.callWith_K (h₀:=X.base) I.ok.mod.T8 hk (dN (ha pos pins s σ H _ I h) fun us s1 ⟨vs,H1,I1,r,q⟩=>⟨I1.EN,?_⟩) he hpl
 exact My F hr hb hd hx I1 r q
end
section
variable {X:Cx}{CX:EC}{k:Nat}{f C:Addr}{fd:FuncData}{ps ks:List Str}{sp:Sp}{E:XK}{x m:Str}{p pos apos kpos:Pos}{e o:Expr}{es:List Expr}{kws:List Keyword}{te ta:TE}{t tk:TA}{nm:Option Str}
variable {g:List Value->List Value->List Value}{gV:List V->List V->List V}
end
structure bF (N P:List Str) (sc:Scope):Prop where
 kind:sc.kind= .function
 co:sc.isCoroutine=false
 gen:sc.isGenerator=false
 nd:N.Nodup
 pre:N.take P.length=P
 par:∀x∈P,sc.names.lookup x=some .local\/sc.names.lookup x=some .cell
 Mz:∀y∈sc.names,y.2≠.free
theorem vU {kindOf:Str->Option NameKind}{x:Str}:∀{binds:List (Str×Value)}{m:AAC},(∀v,(x,v)∉binds)->bindL kindOf binds m x=m x
 | [],_,_=>rfl
 | (n,v) :: r,m,h=>by
  unfold bindL
  rw[vU fun w hw=>h w (ZI _ hw)]
  split
  ·have:x≠n:=by rintro rfl;exact h v ZJ
   simp[this]
  ·rfl
theorem vV {kindOf:Str->Option NameKind}{x:Str}:∀{binds:List (Str×Value)}{m:AAC},(∀v,(x,v)∉binds)->bindC kindOf binds m x=m x
 | [],_,_=>rfl
 | (n,v) :: r,m,h=>by
  unfold bindC
  rw[vV fun w hw=>h w (ZI _ hw)]
  split
  ·rfl
  ·have:x≠n:=by rintro rfl;exact h v ZJ
   simp[this]
theorem vW {kindOf:Str->Option NameKind}{x:Str}{v:Value}:∀{P:List Str}{vs:AAI}{i:Nat}{m:AAC},P.Nodup->P[i]? =some x->vs[i]? =some v->kindOf x=some .local->
  bindL kindOf (P.zip vs) m x=some v
 | [],_,_,_,_,h,_,_=>by simp at h
 | _ :: _,[],_,_,_,_,h,_=>by simp at h
 | p :: P,w :: vs,0,m,nd,h1,h2,hk=>by
  simp at h1 h2;subst h1;subst h2
  show bindL kindOf ((p,w) :: P.zip vs) m p=_
  unfold bindL
  rw[vU fun v hv=>(aav.mp nd).1 (adw hv).1,if_pos hk]
  simp
 | p :: P,w :: vs,i+1,m,nd,h1,h2,hk=>by
  show bindL kindOf ((p,w) :: P.zip vs) m x=_
  unfold bindL
  exact vW (i:=i) (aav.mp nd).2 (by simpa using h1) (by simpa using h2) hk
theorem vX {kindOf:Str->Option NameKind}{x:Str}{v:Value}:∀{P:List Str}{vs:AAI}{i:Nat}{m:AAC},P.Nodup->P[i]? =some x->vs[i]? =some v->kindOf x≠some .local->
  bindC kindOf (P.zip vs) m x=some v
 | [],_,_,_,_,h,_,_=>by simp at h
 | _ :: _,[],_,_,_,_,h,_=>by simp at h
 | p :: P,w :: vs,0,m,nd,h1,h2,hk=>by
  simp at h1 h2;subst h1;subst h2
  show bindC kindOf ((p,w) :: P.zip vs) m p=_
  unfold bindC
  rw[vV fun v hv=>(aav.mp nd).1 (adw hv).1,if_neg hk]
  simp
 | p :: P,w :: vs,i+1,m,nd,h1,h2,hk=>by
  show bindC kindOf ((p,w) :: P.zip vs) m x=_
  unfold bindC
  exact vX (i:=i) (aav.mp nd).2 (by simpa using h1) (by simpa using h2) hk
noncomputable def start (N:List Str) (vs:List V):St:=vs.map some++List.replicate (N.length - vs.length) none
noncomputable def yP (CX:EC) (P:Program) (w:World) (K:AAA) (mg:AAC) (base:Heap) (N:List Str) (qual:Str) (scope:Scope) (f:Addr) (cd:Value) (A:Around) (outer:List Env) (s:Shared) (H:Hp) (E:XK):Cx where
 prog:=P
 w:=w
 K:=K
 mg:=mg
 base:=base
 A:=A.deeper (envOfC qual scope s.heap.objs.size f cd)
 N:=N
 s₀:=s
 H₀:=H
 env:=envOfC qual scope s.heap.objs.size f cd
 outer:=outer
 stack:=envOfC qual scope s.heap.objs.size f cd :: outer
 ex:=[]
 calm:=true
 fn:=fun _=>true
 pn:=[]
 xe:=fun e s'=>wpAny (model P w) (A.deeper (envOfC qual scope s.heap.objs.size f cd)) (leaving (envOfC qual scope s.heap.objs.size f cd) e) (fun _ s''=>CX outer H s E e s'') (fun e' s''=>CX outer H s E e' s'') s'
def yQ {sc:Scope}{n:Nat}(h:sc.names.lookup x=some .cell):∃c,(cellsFrom n sc.names []).lookup x=some c:=by
 have q:=PySem.W.cellsFrom_some sc.names n [] (.inl h)
 exact Option.isSome_iff_exists.mp q
def Dg {CX : EC}    {mg : Str -> Option Value}     {f : Addr} {cd : Value}  {outer : List Env} {s s1 : Shared}  {E : XK}  
    (S:bF N ps scope) (hd:A.handled=none) (e0:IP P w K mg base A outer s H) (hl:vs.length=ps.length) (r:Vals vs us)
    (x:InCallC s s.heap.objs.size (bindL (envOfC qual scope s.heap.objs.size f cd).kindOf (ps.zip us) fun _=>none) (cellsFrom (s.heap.objs.size+1) scope.names []) (bindC (envOfC qual scope s.heap.objs.size f cd).kindOf (ps.zip us) fun _=>none) s1):
    Inv (yP CX P w K mg base N qual scope f cd A outer s H E) [] (start N vs) H s1:=by
  have hpl:ps.length<=N.length:=by have:=congrArg List.length S.pre;rw[abX] at this;omega
  obtain⟨h1,tk,rfl,hk⟩:=x.done
  have P1:∀b:Addr,b∉(yP CX P w K mg base N qual scope f cd A outer s H E).ex:=fun b z=>absurd (show b∈([]:List Addr) from z) (by simp)
  refine⟨⟨e0.mod,S.kind,rfl,rfl,ZM _,fun y z c h1 h2=>?_,fun y hy=>?_,fun y c _ h=>?_,fun _=>hd,Around.frames_deeper e0.frames,.inr ⟨rfl,rfl⟩,fun b z=>absurd z (P1 b),e0.bs,e0.Ir,fun b _ _=>P1 b,fun b z=>absurd z (P1 b),e0.tV,e0.OP⟩,
    rfl,e0.bare,Un.kept hk,⟨_,x.toInCall.ns,fun i y v h1 h2 h3=>?_⟩,fun y c h=>⟨_,x.cell y c h⟩,e0.hok.fresh (ZM _),fun y c h=>?_,fun p hp=>absurd (show p∈([]:AAD) from hp) (by simp),e0.hok.kept hk,?_⟩
  . exact name_of_addr x.apart (aaH h1) (aaH h2)
  . have hy:scope.names.lookup y=some .cell\/scope.names.lookup y=some .free:=hy
    rcases hy with hy | hy
    . exact yQ hy
    . exact absurd rfl (S.Mz _ (aaH hy))
  . exact abd (x.above y c (aaH h))
  . have hi:i < vs.length:=by
      unfold start at h2
      by_cases hi:i < vs.length
      . exact hi
      . rw[ab4 (by simpa using hi)] at h2
        rw[acm] at h2
        split at h2 <;> cases h2
    have ha:vs[i]? =some v:=by
      unfold start at h2
      rw[Z7 (by simpa using hi),ZF] at h2
      cases e:vs[i]? with
      | none=>rw[e] at h2;cases h2
      | some a=>rw[e] at h2;cases h2;rfl
    obtain⟨u,hu,rv⟩:=r.get ha
    have hp:ps[i]? =some y:=by
      rw[<-S.pre,ada (by omega)];exact h1
    have WV:ps.Nodup:=by rw[<-S.pre];exact S.nd.sublist (List.take_sublist _ _)
    refine⟨u,rv,?_⟩
    rcases S.par y (ZO hp) with k | k
    . exact .inl ⟨k,vW WV hp hu k⟩
    . obtain⟨c,e⟩:=yQ (n:=s.heap.objs.size+1) k
      refine .inr ⟨.inl k,c,e,?_⟩
      have q:=x.cell y c e
      rw[vX WV hp hu (by show scope.names.lookup y≠_;rw[k];decide)] at q
      exact q
  . exact e0.hok.fresh (abd (x.above y c (aaH h)))
  . unfold start
    show _=N.length
    rw[ZZ,Zw,abS]
    omega
def P4 {CX:EC}{mg:AAC}{f:Addr}{name:Str}{params:Arguments}{dV kV doc pm cdv ct oc:Value}{an od:Option Addr}
  {osl:Array (Option Value)}{sp:Sp}(lk:K.lookup f=some ⟨oc,od,.func (PySem.W.fnOf name qual params body scope dV kV doc pm an cdv ct),osl⟩) (hcd:PySem.W.codeIn K cdv qual=true) (S:bF N ps scope)
  (len:∀vs H Q E,sp vs H Q E->vs.length=ps.length)
  (hbody:∀(A:Around) (outer:List Env) (s:Shared) (H:Hp) (vs:List V) (Q:VK) (E:XK),jU k (A.deeper (envOfC qual scope s.heap.objs.size f cdv))->sp vs H Q E->
   ∃t,yM (yP CX P w K mg base N qual scope f cdv A outer s H E) body t/\t {nx:=fun _ H'=>Q .bV H',rt:=Q} (start N vs) H):
  o7 P w K mg base CX (k+1) f (PySem.W.fnOf name qual params body scope dV kV doc pm an cdv ct) ps sp:=by
 refine⟨len,fun A outer s H args us vs Q E hr e0 hb r Lm=>?_⟩
 have hl:=len _ _ _ _ Lm
 have KX:K.In s.heap:=e0.mod.T8.keeps fun b o e=>(e0.bs b o e).1
 have lim:s.heap.NoLimit:=e0.mod.nolimit.keeps fun b o e=>(e0.bs b o e).1
 have hkind:∀y∈ps.zip us,scope.names.lookup y.1=some .local\/(scope.names.lookup y.1=some .cell/\((cellsFrom (s.heap.objs.size+1) scope.names []).lookup y.1).isSome=true):=fun⟨n,v⟩ hy=>by
  rcases S.par n (adw hy).1 with q | q
  ·exact .inl q
  ·exact .inr ⟨q,PySem.W.cellsFrom_some _ _ _ (.inl q)⟩
 refine codeAny_call_function hr.depth (KX _ _ lk) rfl S.co S.gen rfl (PySem.W.codeRec_of KX hcd) (hb _ _ _ _ ?_)
 refine wpAny_newFunctionEnv_cells S.kind hkind fun env he s1 x=>?_
 subst he
 refine⟨lim.keeps x.toInCall.keep,codeAny_func ?_⟩
 obtain⟨t,ht,hq⟩:=hbody A outer s H vs Q E (hr.deeper _) Lm
 have I:Inv (yP CX P w K mg base N qual scope f cdv A outer s H E) [] (start N vs) H s1:=Dg S hr.hd e0 hl r x
 refine aas (ht [] s1 (start N vs) H _ I hq) (fun fl s' hs=>?_) fun e s' hs=>hs
 have fin:∀{σ':St}{H':Hp}{v:V}{u:Value},Inv (yP CX P w K mg base N qual scope f cdv A outer s H E) [] σ' H' s'->RelV v u->Q v H'->CE outer P w H s Q u s':=
  fun {σ' H' v u} J rv q=>⟨v,H',J.os,J.bare,J.base,J.hok,rv,q⟩
 cases fl with
 | ret u=>
  obtain⟨v,σ',H',J,rv,q⟩:=hs
  exact fin J rv q
 | next=>
  obtain⟨σ',H',J,q⟩:=hs
  exact fin (v:=V.bV) (u:=Value.none) J rfl q
 | brk=>
  obtain⟨_,_,_,q⟩:=hs
  exact False.elim q
 | cont=>
  obtain⟨_,_,_,q⟩:=hs
  exact False.elim q
section
variable {X:Cx}{x:Str}{p pos:Pos}{e:Expr}{es:List Expr}{t:TA}{id T:String}{r:List V->Hp->VK->Prop}
def WW (r:List V->Hp->VK->Prop) (t:TA):TE:=fun σ H Q=>t σ H fun vs H1=>r vs H1 Q
def ng (hc:gI X (.builtin id) r) (hg:Gl X x) (hm:X.mg x=none) (hv:bootBuiltins x=some (.builtin id)) (ha:PA X (e :: es) t) (hn:x≠"__name__":=by decide) (hdb:(x == ("__debug__":Str))=false:=by decide)
  (he:starEach (e :: es) X.env=(false,eval e X.env) :: starEach es X.env:=by rfl) (hpl:(backTo pos (starEach es X.env)).any (·.1)=false:=by rfl):PE X (.Call (.Name x p) (e :: es) [] pos) (WW r t):=by
 intro pins s σ H Q I h
 refine aaL (jS I hg hm hv ?_ hn hdb)
 exact acI (dN (ha pos pins s σ H _ I h) fun us s1 ⟨vs,H1,I1,r1,q1⟩=>hc pins s1 σ H1 vs us Q I1 r1 q1) he hpl
def Dh (hc:gI X (.type T) r) (hg:Gl X x) (hm:X.mg x=none) (hv:bootBuiltins x=some (.type T)) (ha:PA X (e :: es) t) (hn:x≠"__name__":=by decide) (hdb:(x == ("__debug__":Str))=false:=by decide)
  (he:starEach (e :: es) X.env=(false,eval e X.env) :: starEach es X.env:=by rfl) (hpl:(backTo pos (starEach es X.env)).any (·.1)=false:=by rfl):PE X (.Call (.Name x p) (e :: es) [] pos) (WW r t):=by
 intro pins s σ H Q I h
 refine aaL (jS I hg hm hv ?_ hn hdb)
 exact aak (dN (ha pos pins s σ H _ I h) fun us s1 ⟨vs,H1,I1,r1,q1⟩=>hc pins s1 σ H1 vs us Q I1 r1 q1) he hpl
end
section
variable {κ:Type} [DecidableEq κ]
noncomputable def mT (kvs:List (κ×V)) (k:κ):Option V:=(kvs.find? fun kv=>decide (kv.1=k)).map (·.2)
noncomputable def putK (kvs:List (κ×V)) (k:κ) (v:V):List (κ×V):=
 if(kvs.any fun kv=>decide (kv.1=k))=true then kvs.map (fun kv=>if kv.1=k then(kv.1,v) else kv) else kvs++[(k,v)]
noncomputable def Ln (kvs:List (κ×V)) (k:κ):List (κ×V):=kvs.filter fun kv=>decide (kv.1≠k)
def pT {p:κ×V}{r:List (κ×V)}{k:κ}(e:p.1=k):mT (p :: r) k=some p.2:=by simp[mT,aaV,e]
def nh {p:κ×V}{r:List (κ×V)}{k:κ}(e:¬p.1=k):mT (p :: r) k=mT r k:=by simp[mT,aaV,e]
theorem yR (k:κ):∀kvs:List (κ×V),(kvs.any fun kv=>decide (kv.1=k))=(mT kvs k).isSome
 | []=>rfl
 | p :: r=>by
  rw[abA]
  by_cases e:p.1=k
  ·simp only[pT e,aaC e,Bool.true_or,Option.isSome_some]
  ·rw[nh e,aaf e,Bool.false_or];exact yR k r
def jf (kvs:List (κ×V)) (k:κ) (v:V):(putK kvs k v).length<=kvs.length+1:=by
 unfold putK
 split
 ·rw[Zw];omega
 ·rw[ZZ,aaQ,abf];omega
def mS.qM {o:Option V}{u:Option Value}(r:mS o u):o.isSome=u.isSome:=by
 cases o with
 | none=>cases u with
  | none=>rfl
  | some _=>exact(show False from r).elim
 | some _=>cases u with
  | none=>exact(show False from r).elim
  | some _=>rfl
def mS.getD {o:Option V}{u:Option Value}{d:V}{d':Value}(r:mS o u) (rd:RelV d d'):RelV (o.getD d) (u.getD d'):=by
 cases o with
 | none=>cases u with
  | none=>exact rd
  | some _=>exact(show False from r).elim
 | some _=>cases u with
  | none=>exact(show False from r).elim
  | some _=>exact r
def KV.val {kvs:List (κ×V)}{vs:List (κ×Value)}(r:KV kvs vs) (k:κ):mS (mT kvs k) (valueAt vs k):=by
 unfold KV at r
 induction r with
 | nil=>exact True.intro
 | @cons p q ps qs h t ih=>
  obtain⟨h1,h2⟩:=h
  by_cases e:p.1=k
  ·have e':q.1=k:=h1.symm.trans e
   have b:valueAt (q :: qs) k=some q.2:=by simp[valueAt,aaV,e']
   rw[pT e,b];exact h2
  ·have e':¬q.1=k:=fun z=>e (h1.trans z)
   have b:valueAt (q :: qs) k=valueAt qs k:=by simp[valueAt,aaV,e']
   rw[nh e,b];exact ih
def KV.any {kvs:List (κ×V)}{vs:List (κ×Value)}(r:KV kvs vs) (k:κ):(kvs.any fun kv=>decide (kv.1=k))=vs.any fun kv=>decide (kv.1=k):=by
 unfold KV at r
 induction r with
 | nil=>rfl
 | cons h t ih=>rw[abA,abA,ih,h.1]
def KV.repl {kvs:List (κ×V)}{vs:List (κ×Value)}(r:KV kvs vs) (k:κ)(ry:RelV y u):
  KV (kvs.map fun kv=>if kv.1=k then(kv.1,y) else kv) (vs.map fun kv=>if kv.1=k then(kv.1,u) else kv):=by
 unfold KV at r ⊢
 induction r with
 | nil=>exact .nil
 | @cons p q ps qs h t ih=>
  rw[aae,aae]
  refine .cons ?_ ih
  obtain⟨h1,h2⟩:=h
  by_cases e:p.1=k
  ·rw[if_pos e,if_pos (h1.symm.trans e)];exact⟨h1,ry⟩
  ·rw[if_neg e,if_neg (fun z=>e (h1.trans z))];exact⟨h1,h2⟩
def KV.put {kvs:List (κ×V)}{vs:List (κ×Value)}(r:KV kvs vs) (k:κ)(ry:RelV y u):KV (putK kvs k y) (stored vs k u):=by
 unfold putK stored
 rw[r.any k]
 by_cases e:(vs.any fun kv=>decide (kv.1=k))=true
 ·rw[if_pos e,if_pos e];exact r.repl k ry
 ·rw[if_neg e,if_neg e];exact Paired.snoc r ⟨rfl,ry⟩
def KV.drop {kvs:List (κ×V)}{vs:List (κ×Value)}(r:KV kvs vs) (k:κ):KV (Ln kvs k) (without vs k):=by
 unfold KV at r ⊢
 unfold Ln without
 induction r with
 | nil=>exact .nil
 | @cons p q ps qs h t ih=>
  obtain⟨h1,h2⟩:=h
  rw[List.filter_cons,List.filter_cons]
  by_cases e:p.1=k
  ·have a:¬decide (p.1≠k)=true:=by simp[e]
   have b:¬decide (q.1≠k)=true:=by simp[h1.symm.trans e]
   rw[if_neg a,if_neg b];exact ih
  ·have e':¬q.1=k:=fun z=>e (h1.trans z)
   have a:decide (p.1≠k)=true:=by simp[e]
   have b:decide (q.1≠k)=true:=by simp[e']
   rw[if_pos a,if_pos b];exact .cons ⟨h1,h2⟩ ih
def KV.length {kvs:List (κ×V)}{vs:List (κ×Value)}(r:KV kvs vs):kvs.length=vs.length:=ab3 r
end
def Lo {k:Key}(r:RelV (kV k) u):(fQ P w).is k u=true:=by
 cases k with
 | inl i=>obtain⟨t,e⟩:=(show ∃t,u=Value.int i t from r);subst e;exact yJ P w i t
 | inr x=>obtain⟨t,e⟩:=(show ∃t,u=Value.str x t from r);subst e;exact yK P w x t
def MA {a b:Key}(e:kV a=kV b):a=b:=by
 cases a with
 | inl i=>cases b with
  | inl j=>have e':V.int i=V.int j:=e;injection e' with e';rw[e']
  | inr y=>exact nomatch (show V.int i=V.str y from e)
 | inr x=>cases b with
  | inl j=>exact nomatch (show V.str x=V.int j from e)
  | inr y=>have e':V.str x=V.str y:=e;injection e' with e';rw[e']
abbrev KT (H:Hp):List (D×V)->List (D×Addr×Value)->Prop:=Paired fun p q=>p.1=q.1/\Kd H q.2.1 p.1/\RelV p.2 q.2.2
def KT.val (r:KT H kvs xs) (k:D):mS (mT kvs k) ((atKey xs k).map (·.2)):=by
 induction r with
 | nil=>exact True.intro
 | @cons p q ps qs h t ih=>
  obtain⟨h1,_,h2⟩:=h
  by_cases e:p.1=k
  ·have e':q.1=k:=h1.symm.trans e
   have b:atKey (q :: qs) k=some q.2:=by simp[atKey,aaV,e']
   rw[pT e,b];exact h2
  ·have e':¬q.1=k:=fun z=>e (h1.trans z)
   have b:atKey (q :: qs) k=atKey qs k:=by simp[atKey,aaV,e']
   rw[nh e,b];exact ih
def KT.repl (r:KT H kvs xs) (k:D)(ry:RelV y u):
  KT H (kvs.map fun kv=>if kv.1=k then(kv.1,y) else kv) (xs.map (putAt k u)):=by
 induction r with
 | nil=>exact .nil
 | @cons p q ps qs h t ih=>
  rw[aae,aae]
  refine .cons ?_ ih
  obtain⟨h1,h2,h3⟩:=h
  unfold putAt
  by_cases e:p.1=k
  ·rw[if_pos e,if_pos (h1.symm.trans e)];exact⟨h1,h2,ry⟩
  ·rw[if_neg e,if_neg (fun z=>e (h1.trans z))];exact⟨h1,h2,h3⟩
def KT.put (r:KT H kvs xs) (k:D){b:Addr}(hb:Kd H b k) (ry:RelV y u):
  KT H (putK kvs k y) (storedH xs k b u):=by
 have e:(kvs.any fun kv=>decide (kv.1=k))=(atKey xs k).isSome:=by
  rw[yR,(r.val k).qM,Option.isSome_map]
 unfold putK storedH
 rw[e]
 by_cases q:(atKey xs k).isSome=true
 ·rw[if_pos q,if_pos q];exact r.repl k ry
 ·rw[if_neg q,if_neg q];exact Paired.snoc r ⟨rfl,hb,ry⟩
def KT.keeps (r:KT H kvs xs) (ht:∀b ys,H b=some (.tup ys)->H' b=some (.tup ys)):KT H' kvs xs:=
 Paired.C4 r fun _ _ z=>⟨z.1,z.2.1.tups ht,z.2.2⟩
section
variable {P:Program}{w:World}{H:Hp}{h:Heap}{a:Addr}
def Lp {u:HO}(ok:mZ P w H h) (e:Rd H a u):c7 P w H h a u:=e.ok ok
def rU {kvs:List (Key×V)}(ok:mZ P w H h) (e:Rd H a (.dK kvs)):kvs.length<=sizeLine/\(a == sysModules)=false/\∃vs,KV kvs vs/\h.DictOf (fQ P w) a vs:=
 show c7 P w H h a (.dK kvs) from Lp ok e
def E4 {kvs:List (Key×V)}(ok:mZ P w H h) (e:H a=some (.dK kvs)):kvs.length<=sizeLine/\(a == sysModules)=false/\∃vs,KV kvs vs/\h.DictOf (fQ P w) a vs:=rU ok (.inl e)
mutual
theorem E5 (ok : mZ P w H h) : ∀ (d : D) {n : Nat} {v : V} {u : Value}, Rep H v d -> RelV v u -> fJ n d = true -> ve h u (nf d)
  | .bV,n,_,_,_,_,k=>by simp[fJ] at k
  | .lst _,n,_,_,_,_,k=>by simp[fJ] at k
  | .bl b,n,_,_,r,q,k=>by cases r;cases q;exact .bool b
  | .int i,n,_,_,r,q,k=>by cases r;obtain⟨t,rfl⟩:=q;exact .int i t
  | .str i,n,_,_,r,q,k=>by cases r;obtain⟨t,rfl⟩:=q;exact .str i t
  | .tup ds,n,_,_,r,q,k=>by
    cases n with
    | zero=>simp[fJ] at k
    | succ n=>
      cases r with
      | @tup a vs _ e rs=>
        cases q
        obtain⟨_,its,rv,o,h1,h2,m,h3⟩:=(show c7 P w H h a (.tup vs) from ok a _ e)
        exact .tup ⟨o,h1,h2,m,h3⟩ (BS ok ds rs rv k)
theorem BS (ok:mZ P w H h):∀(ds:List D){n:Nat}{vs:List V}{us:AAI},aX H vs ds->Vals vs us->ds.all (fJ n)=true->kH h us (ID ds)
  | [],n,_,_,r,q,k=>by cases r;cases q;exact .nil
  | d :: ds, n, _, _, r, q, k => by
    rw[aa4,aaP] at k
    cases r with
    | cons r1 r2=>
      cases q with
      | cons q1 q2=>exact .cons (E5 ok d r1 q1 k.1) (BS ok ds r2 q2 k.2)
end
def lP {ks:D}(ok:mZ P w H h) (e:Kd H a ks):(iA P w).is h ks a:=by
 obtain⟨d,r,hk,rfl⟩:=e
 exact⟨E5 ok d r rfl hk,BL d 8 hk⟩
def tZ {kvs : List (D × V)} (ok : mZ P w H h) (e : Rd H a (.dT kvs)) : kvs.length <= sizeLine /\ (a == sysModules) = false /\
    ∃xs,KT H kvs xs/\h.DictOfH (iA P w) a xs:=by
  obtain⟨z,y,xs,r,o,es,ep,h1,h2,h3,h4,h5⟩:=(show c7 P w H h a (.dT kvs) from Lp ok e)
  refine⟨z,y,xs,r,o,es,ep,h1,h2,h3,h4,fun x hx=>?_,h5⟩
  have all:∀{l:List (D×V)}{m:List (D×Addr×Value)},KT H l m->∀x∈m,(iA P w).is h x.1 x.2.1:=by
    intro l m q
    induction q with
    | nil=>intro x hx;exact nomatch hx
    | @cons p q ps qs hq t ih=>
      intro x hx
      rcases ZV.mp hx with e | hx
      . subst e
        exact lP ok (by rw[<-hq.1];exact hq.2.1)
      . exact ih x hx
  exact all r x hx
def E6 (ok:mZ P w H h) (e:H a=some (.dT kvs)):kvs.length<=sizeLine/\(a == sysModules)=false/\
  ∃xs,KT H kvs xs/\h.DictOfH (iA P w) a xs:=tZ ok (.inl e)
end
def IS (y:V) (k:Key):Prop:=y=kV k\/∃b,y= .bl b/\k= .inl (bI b)
def IS.is {P:Program}{w:World}{y:V}{k:Key}{u:Value}(e:IS y k) (r:RelV y u):(fQ P w).is k u=true:=by
 rcases e with rfl | ⟨b,rfl,rfl⟩
 ·exact Lo r
 ·cases r;exact aaC rfl
def iy (H:Hp) (a:Addr) (y:V) (r:Option V):Prop:=
 (∃kvs k,Rd H a (.dK kvs)/\IS y k/\r=mT kvs k)\/∃kvs k b,Rd H a (.dT kvs)/\y= .ref b/\Kd H b k/\r=mT kvs k
def uc (H:Hp) (a:Addr) (y v:V) (H':Hp):Prop:=
 (∃kvs k,H a=some (.dK kvs)/\IS y k/\kvs.length < sizeLine/\H'=upd H a (.dK (putK kvs k v)))\/
 ∃kvs k b,H a=some (.dT kvs)/\y= .ref b/\Kd H b k/\kvs.length < sizeLine/\H'=upd H a (.dT (putK kvs k v))
def iy.t {b:Addr}{k:D}(e:H a=some (.dT kvs)) (eb:Kd H b k):iy H a (.ref b) (mT kvs k):=.inr ⟨kvs,k,b,.inl e,rfl,eb,rfl⟩
def uc.t {b:Addr}{k:D}{v:V}(e:H a=some (.dT kvs)) (eb:Kd H b k) (hl:kvs.length < sizeLine):
  uc H a (.ref b) v (upd H a (.dT (putK kvs k v))):=.inr ⟨kvs,k,b,e,rfl,eb,hl,rfl⟩
section
variable {X:Cx}{pins:AAD}{σ:St}{H:Hp}{s:Shared}{a:Addr}{y v:V}{u r:Value}{o:Option V}{A:Around}{E:AAB}
def Inv.big (I:Inv X pins σ H s):sysModules < s.heap.objs.size:=by
 have h:mainGlobals < s.heap.objs.size:=(I.mod.glob.keeps I.bk).lt
 exact abg (by decide) h
def Di (hu:A.units+20 < cLine) (I:Inv X pins σ H s) (g:iy H a y (some v)) (ry:RelV y u) (h:∀w' s',Inv X pins σ H s'->RelV v w'->Q w' s'):
  wpAny (model X.prog X.w) A (getItem (.ref a) u) Q E s:=by
 rcases g with⟨kvs,k,e,ey,l⟩ | ⟨kvs,k,b,e,ey,eb,l⟩
 ·obtain⟨z,hd,vs,rel,dd⟩:=rU I.hok e
  obtain⟨w',hw,rw'⟩:=mS.some_of (v:=v) (o:=valueAt vs k) (by rw[l];exact rel.val k)
  exact wpAny_getItem_of (ey.is ry) dd.mapOf hw (h w' _ (I.tok _) rw')
 ·subst ey
  cases(show u=Value.ref b from ry)
  obtain⟨z,hd,xs,rel,dd⟩:=tZ I.hok e
  obtain⟨w',hw,rw'⟩:=mS.some_of (v:=v) (o:=(atKey xs k).map (·.2)) (by rw[l];exact rel.val k)
  obtain⟨p,hp,hp2⟩:=Option.map_eq_some_iff.mp hw
  refine wpAny_getItem_heap (fE hu) (lP I.hok eb) dd hp ?_
  rw[hp2]
  exact h w' _ (I.tok _) rw'
def IT (hu:A.units+20 < cLine) (I:Inv X pins σ H s) (g:iy H a y o) (ry:RelV y u) (h:∀s',Inv X pins σ H s'->Q (.bool (!o.isSome)) s'):
  wpAny (model X.prog X.w) A (compareOp .NotIn u (.ref a)) Q E s:=by
 rcases g with⟨kvs,k,e,ey,l⟩ | ⟨kvs,k,b,e,ey,eb,l⟩
 ·obtain⟨z,hd,vs,rel,dd⟩:=rU I.hok e
  refine wpAny_notIn_of (ey.is ry) hd dd.mapOf ?_
  rw[<-(rel.val k).qM,<-l]
  exact h _ (I.tok _)
 ·subst ey
  cases(show u=Value.ref b from ry)
  obtain⟨z,hd,xs,rel,dd⟩:=tZ I.hok e
  refine wpAny_notIn_heap (fE hu) (lP I.hok eb) hd dd ?_
  have q:=(rel.val k).qM
  rw[Option.isSome_map] at q
  rw[<-q,<-l]
  exact h _ (I.tok _)
def pU {h':Heap}{ob:HO}(I:Inv X pins σ H s) (mu:Pk (H a)) (hs:Heap.SameBut a s.heap h') (he:∃q,h'.get? a=some q) (new:c7 X.prog X.w (upd H a ob) h' a ob):
  Inv X pins σ (upd H a ob) {s with heap:=h',toks:=t'}:=
 I.write (x:=a) (e:=a) mu (.inl rfl) (fun b q hb z=>(hs.2 b hb).trans z) he new
def wZ {h':Heap}{kvs:List (Key×V)}{vs:List (Key×Value)}(z:kvs.length<=sizeLine) (hd:(a == sysModules)=false) (rel:KV kvs vs) (dd:h'.DictOf (fQ P w) a vs):
  c7 P w H' h' a (.dK kvs):=⟨z,hd,vs,rel,dd⟩
def Dj {Q:Unit->Shared->Prop}(hu:A.units+20 < cLine) (I:Inv X pins σ H s) (g:uc H a y v H') (ry:RelV y u) (rv:RelV v r) (h:∀s',Inv X pins σ H' s'->Q () s'):
  wpAny (model X.prog X.w) A (setItem (.ref a) u r) Q E s:=by
 rcases g with⟨kvs,k,e,ey,l,eH⟩ | ⟨kvs,k,b,e,ey,eb,l,eH⟩
 ·subst eH
  obtain⟨z,hd,vs,rel,dd⟩:=E4 I.hok e
  have hz:vs.length<=sizeLine:=by rw[<-rel.length];exact z
  have hl:(putK kvs k v).length<=sizeLine:=by have:=jf kvs k v;omega
  refine wpAny_setItem_pairs (hsz:=hz) (ey.is ry) dd fun h' ED hs=>h _ ?_
  have he:∃q,h'.get? a=some q:=let⟨q,_,_,hq,_⟩:=ED;⟨q,hq⟩
  exact pU I (by rw[e];exact True.intro) hs he (wZ hl hd (rel.put k rv) ED)
 ·subst ey eH
  cases(show u=Value.ref b from ry)
  obtain⟨z,hd,xs,rel,dd⟩:=E6 I.hok e
  have hz:xs.length<=sizeLine:=by rw[<-ab3 rel];exact z
  have hl:(putK kvs k v).length<=sizeLine:=by have:=jf kvs k v;omega
  refine wpAny_setItem_heap (hsz:=hz) (fE hu) (lP I.hok eb) dd fun h' ED hs=>h _ ?_
  obtain⟨q,es,ep,hq,h2,h3,h4,_,h5⟩:=ED
  refine pU I (by rw[e];exact True.intro) hs ⟨q,hq⟩ ⟨hl,hd,_,(rel.put k eb rv).keeps fun c ys ec=>?_,q,es,ep,hq,h2,h3,h4,h5⟩
  rw[az (Lg ec e (fun z=>nomatch z))]
  exact ec
end
section
variable {X:Cx}{pins:AAD}{σ:St}{H:Hp}{s:Shared}{a:Addr}{kvs:List (Key×V)}{k:Key}{u:Value}{A:Around}{E:AAB}
def P5 (I:Inv X pins σ H s) (e:Rd H a (.dK kvs)) (h:∀t s',Inv X pins σ H s'->Q (.int kvs.length t) s'):wpAny (model X.prog X.w) A (call (.builtin "len") [.ref a]) Q E s:=by
 obtain⟨z,hd,vs,rel,dd⟩:=rU I.hok e
 refine call_len_dict hd dd (by rw[<-rel.length];rw[sizeLine_eq] at z;omega) ?_
 rw[<-rel.length]
 exact h _ _ (I.tok _)
end
def P6 (i:Expr):Prop:=∀ov iv,subscripted i false ov iv=operate [ov,iv] (getItem ov iv)
def IU {prog:Program}{s:Shared}{env:Env}{value slice:Expr}{T id:String}
  (hl:typeLookup (.type T) "__getitem__" =pure (some (.builtin id))) (hs:P6 slice)
  (h:wpAny (model prog w) A (eval value env) (fun o s₁=>wpAny (model prog w) A (eval slice env) (fun i s₂=>s₂.TypeIs o T/\wpAny (model prog w) A (getItem o i) Q E s₂) E s₁) E s):
  wpAny (model prog w) A (eval (.Subscript value slice pos) env) Q E s:=by
 refine Subscript_ (aas h (fun o s₁ h₁=>aas h₁ (fun i s₂ h₂=>?_) fun _ _ x=>x) fun _ _ x=>x)
 obtain⟨hT,h₂⟩:=h₂
 unfold subscriptTail
 refine Zv ?_
 rw[getitemInPython_of_ne hT.not_modules]
 refine Zv (ab7 hT hl ?_)
 have fin:wpAny (model prog w) A (subscripted slice false o i) (fun r s₃=>wpAny (model prog w) A (letTemporaryGo value o r >>= fun _=>pure r) Q E s₃) E s₂:=by
  rw[hs o i]
  exact wpAny_operating (aas h₂ (fun r s₃ h₃=>Zv (wpAny_letTemporaryGo (wpAny_pure h₃))) fun _ _ x=>x)
 first
  | exact wpAny_pure (Zv fin)
  | exact Zv (wpAny_pure (Zv fin))
  | exact Zv fin
def yS {s:Shared}{o:Option V}(I:Inv X pins σ H s) (g:iy H a y o):s.TypeIs (.ref a) "dict":=by
 rcases g with⟨kvs,k,e,_,_⟩ | ⟨kvs,k,b,e,_,_,_⟩
 ·obtain⟨_,_,vs,_,dd⟩:=rU I.hok e
  exact dd.typeIs
 ·obtain⟨_,_,xs,_,dd⟩:=tZ I.hok e
  exact dd.typeIs
def P7 (td ty:TE):TE:=fun σ H Q=>td σ H fun x H1=>ty σ H1 fun y H2=>∃a v,x= .ref a/\iy H2 a y (some v)/\Q v H2
def BU (ty td:TE):TE:=fun σ H Q=>ty σ H fun y H1=>td σ H1 fun x H2=>∃a o,x= .ref a/\iy H2 a y o/\Q (.bl (!o.isSome)) H2
def P8 (td ty tv:TE):TS:=fun D σ H=>tv σ H fun v H1=>td σ H1 fun x H2=>ty σ H2 fun y H3=>∃a H4,x= .ref a/\uc H3 a y v H4/\D.nx σ H4
section
variable {X:Cx}{o i e value:Expr}{pos pos' tpos:Pos}{td ty tv:TE}
def BV (hu:X.A.units+20 < cLine) (ho:PE X o td) (hi:PE X i ty) (hs:P6 i):PE X (.Subscript o i pos) (P7 td ty):=by
 intro pins s σ H Q I h
 refine IU PySem.F.slot_dict_getitem.lookup hs (dN (ho pins s σ H _ I h) fun u s1 ⟨x,H1,I1,rx,q1⟩=>dN (hi pins s1 σ H1 _ I1 q1) fun iv s2 ⟨y,H2,I2,ry,a,v,ex,g,q2⟩=>?_)
 subst ex
 obtain rfl:u=Value.ref a:=rx
 exact⟨yS I2 g,Di hu I2 g ry fun w' s3 I3 rw'=>⟨v,H2,I3,rw',q2⟩⟩
def Dk (hu:X.A.units+20 < cLine) (hi:PE X i ty) (ho:PE X o td):PC X .NotIn i o (BU ty td):=by
 intro pins s σ H Q I h
 refine dN (hi pins s σ H _ I h) fun iv s1 ⟨y,H1,I1,ry,q1⟩=>dN (ho pins s1 σ H1 _ I1 q1) fun u s2 ⟨x,H2,I2,rx,a,ov,ex,g,q2⟩=>?_
 subst ex
 obtain rfl:u=Value.ref a:=rx
 exact IT hu I2 g ry fun s3 I3=>⟨.bl (!ov.isSome),H2,I3,rfl,q2⟩
def BW (hu:X.A.units+20 < cLine) (ho:PE X o td) (hi:PE X i ty) (hv:PE X value tv) (hs:swapsWith value (some (.Subscript o i pos')) pos.line X.env=pure false):
  PS X (.Assign [.Subscript o i pos'] value pos) (P8 td ty tv):=by
 intro pins s σ H D I h
 refine wpAny_Assign_Subscript (dN (hv pins s σ H _ I h) fun r s1 ⟨v,H1,I1,rv,q1⟩=>dN (ho pins s1 σ H1 _ I1 q1) fun u s2 ⟨x,H2,I2,rx,q2⟩=>dN (hi pins s2 σ H2 _ I2 q2) fun iv s3 ⟨y,H3,I3,ry,a,H4,ex,g,q3⟩=>?_) hs
 subst ex
 obtain rfl:u=Value.ref a:=rx
 exact Dj hu I3 g ry rv fun s4 I4=>⟨σ,H4,I4,q3⟩
end
def yT (h:Heap) (hb:sysModules < h.objs.size):c7 P w H (h.push {cls:=.type "dict",data:=.dict #[]}) h.objs.size (.dK []):=
 ⟨Z3 _,aa2.mpr (aaN (ZY hb)),[],.nil,Heap.DictOf.new h⟩
def E7 (h:Heap) (hb:sysModules < h.objs.size):c7 P w H (h.push {cls:=.type "dict",data:=.dict #[]}) h.objs.size (.dT []):=
 ⟨Z3 _,aa2.mpr (aaN (ZY hb)),[],.nil,_,#[],0,ZT _ rfl,⟨rfl,rfl,rfl⟩,rfl,rfl,aa0⟩
def MB:TE:=fun _ H Q=>∀p,H p=none->Q (.ref p) (upd H p (.dK []))
def MC:TE:=fun _ H Q=>∀p,H p=none->Q (.ref p) (upd H p (.dT []))
section
variable {X:Cx}{pos:Pos}
def E8:PE X (.Dict [] [] pos) MB:=fun pins s σ H Q I h=>
 wpAny_Dict_empty ⟨.ref s.heap.objs.size,_,I.laid (a:=s.heap.objs.size) (o:=.dK []) (t':=s.toks) (fun _ _ q=>Zx _ q) (ZM _) (yT s.heap I.big),rfl,h _ (I.hok.fresh (ZM _))⟩
def E9:PE X (.Dict [] [] pos) MC:=fun pins s σ H Q I h=>
 wpAny_Dict_empty ⟨.ref s.heap.objs.size,_,I.laid (a:=s.heap.objs.size) (o:=.dT []) (t':=s.toks) (fun _ _ q=>Zx _ q) (ZM _) (E7 s.heap I.big),rfl,h _ (I.hok.fresh (ZM _))⟩
end
def AN:List (TE×TE)->St->Hp->(List (V×V)->Hp->Prop)->Prop
 | [],_,H,Q=>Q [] H
 | (tk,tv) :: r,σ,H,Q=>tk σ H fun x H1=>tv σ H1 fun y H2=>AN r σ H2 fun ps H3=>Q ((x,y) :: ps) H3
abbrev VV:List (V×V)->List (Value×Value)->Prop:=Paired fun p q=>RelV p.1 q.1/\RelV p.2 q.2
def SK (X:Cx) (pos:Pos) (keys:List (Option Expr)) (values:List Expr) (IV:List (TE×TE)):Prop:=
 ∀(pins:AAD) (s:Shared) (σ:St) (H:Hp) (Q:List (V×V)->Hp->Prop),Inv X pins σ H s->AN IV σ H Q->
  wpAny (model X.prog X.w) X.A (evalPairs (pairTrees keys values X.env pos)) (fun vs s'=>∃ps H',Inv X pins σ H' s'/\VV ps vs/\Q ps H') X.xe s
def IW :SK X pos [] [] []:=fun pins s σ H Q I h=>pairTrees_nil_walk ⟨[],H,I,.nil,h⟩
def Fb {k v:Expr}{ks:List (Option Expr)}{vs:List Expr}{tk tv:TE}(hk:PE X k tk) (hv:PE X v tv) (hr:SK X pos ks vs IV):
  SK X pos (some k :: ks) (v :: vs) ((tk,tv) :: IV):=fun pins s σ H Q I h=>
 pairTrees_cons_walk (dN (hk pins s σ H _ I h) fun u s1 ⟨x,H1,I1,rx,q1⟩=>dN (hv pins s1 σ H1 _ I1 q1) fun w2 s2 ⟨y,H2,I2,ry,q2⟩=>
  dN (hr pins s2 σ H2 _ I2 q2) fun ws s3 ⟨ps,H3,I3,rel,q3⟩=>⟨(x,y) :: ps,H3,I3,.cons ⟨rx,ry⟩ rel,q3⟩)
noncomputable def qN (kvs more:List (Key×V)):List (Key×V):=more.foldl (fun acc kv=>putK acc kv.1 kv.2) kvs
def KV.merge:∀{more:List (Key×V)}{rs:List (Key×Value)}{kvs:List (Key×V)}{vs:List (Key×Value)},KV more rs->KV kvs vs->KV (qN kvs more) (merged vs rs):=by
 intro more rs kvs vs r
 unfold KV at r
 induction r generalizing kvs vs with
 | nil=>intro q;exact q
 | @cons p q ps qs h t ih=>
  intro r0
  have e:KV (putK kvs p.1 p.2) (stored vs q.1 q.2):=by
   have:=r0.put p.1 h.2
   rw[<-h.1];exact this
  exact ih e
theorem oN:∀(more kvs:List (Key×V)),(qN kvs more).length<=kvs.length+more.length
 | [],kvs=>by show kvs.length<=kvs.length+0;omega
 | p :: r,kvs=>by
  have h1:=oN r (putK kvs p.1 p.2)
  have h2:=jf kvs p.1 p.2
  show(qN (putK kvs p.1 p.2) r).length<=_
  rw[aaQ];omega
theorem ud {P:Program}{w:World}:∀{kvs:List (Key×V)}{ws:List (Value×Value)},VV (kvs.map fun kv=>(kV kv.1,kv.2)) ws->∃rs,Carries (fQ P w) ws rs/\KV kvs rs
  | [],_,r=>by rw[adb] at r;cases r;exact⟨[],True.intro,.nil⟩
  | p :: kvs, _, r => by
    rw[aae] at r
    cases r with
    | @cons a b as bs h t=>
      obtain⟨rs,c,q⟩:=ud (P:=P) (w:=w) t
      obtain⟨b1,b2⟩:=b
      exact⟨(p.1,b2) :: rs,⟨Lo h.1,rfl,c⟩,.cons ⟨rfl,h.2⟩ q⟩
def P9 (IV:List (TE×TE)):TE:=fun σ H Q=>∀p,H p=none->AN IV σ (upd H p (.dK [])) fun ps H2=>H2 p=some (.dK [])/\∃kvs:List (Key×V),ps=kvs.map (fun kv=>(kV kv.1,kv.2))/\kvs.length<=15/\Q (.ref p) (upd H2 p (.dK (qN [] kvs)))
def IX {keys:List (Option Expr)}{values:List Expr}(h:SK X pos keys values IV) (hall:keys.all (·.isSome)=true) (hl:keys.length=values.length) (h0:keys≠[])
  (XW:keys.length<=15):PE X (.Dict keys values pos) (P9 IV):=by
 intro pins s σ H Q I q
 have hn:=I.hok.fresh (ZM s.heap.objs.size)
 have I1:=I.laid (a:=s.heap.objs.size) (o:=.dK []) (h':=s.heap.push {cls:=.type "dict",data:=.dict #[]}) (t':=s.toks) (fun _ _ q=>Zx _ q) (ZM _) (yT s.heap I.big)
 refine wpAny_Dict_walk (knd:=fQ X.prog X.w) hall hl h0 XW (dN (h pins _ σ _ _ I1 (q _ hn)) fun ws s2 ⟨ps,H2,I2,rel,e,kvs,ep,lk,q2⟩=>?_)
 subst ep
 obtain⟨rs,c,rk⟩:=ud (P:=X.prog) (w:=X.w) rel
 obtain⟨z,hd,WX,r0,dd⟩:=E4 I2.hok e
 cases r0
 refine⟨rs,c,dd,fun h' ED hs=>⟨.ref s.heap.objs.size,_,?_,rfl,q2⟩⟩
 have hz:(qN [] kvs).length<=sizeLine:=by
  have h1:=oN kvs []
  rw[abf] at h1
  rw[sizeLine_eq];omega
 have he:∃q,h'.get? s.heap.objs.size=some q:=let⟨q,_,_,hq,_⟩:=ED;⟨q,hq⟩
 exact pU I2 (by rw[e];exact True.intro) hs he (wZ hz hd (rk.merge .nil) ED)
structure M2 (X:Cx) (o:Expr) (m:Str) (apos:Pos) (e f:Expr) (cpos:Pos):Prop where
 base:attributeBase o m X.env (eval o X.env)=eval o X.env
 few:((backTo cpos (starEach [e,f] X.env)).all (fun x=>!x.1) && (backToKw cpos (keywordEach [] X.env)).all (fun x=>x.1.isSome)
  && decide (([e,f]:List Expr).length+([]:List Keyword).length+(if([]:List Keyword).isEmpty then 0 else 1) < 30))=true
 line:(apos.endLine == cpos.line)=true
 trees:backTo cpos (starEach [e,f] X.env)=[(false,eval e X.env),(false,eval f X.env)]
def SM (H:Hp) (a:Addr):Prop:=(∃kvs,Rd H a (.dK kvs))\/∃kvs,Rd H a (.dT kvs)
def Fc {s:Shared}(I:Inv X pins σ H s) (d:SM H a):
  s.TypeIs (.ref a) "dict"/\(∀b,Value.ref a= .ref b->∃ob,s.heap.get? b=some ob/\ob.dict=none)/\(a == sysModules)=false:=by
 rcases d with⟨kvs,e⟩ | ⟨kvs,e⟩
 ·obtain⟨_,hd,vs,_,dd⟩:=rU I.hok e
  refine⟨dd.typeIs,fun b q=>?_,hd⟩
  cases q
  obtain⟨ob,_,_,h1,h2,_⟩:=dd
  exact⟨ob,h1,h2.2.1⟩
 ·obtain⟨_,hd,xs,_,dd⟩:=tZ I.hok e
  refine⟨dd.typeIs,fun b q=>?_,hd⟩
  cases q
  obtain⟨ob,_,_,h1,h2,_⟩:=dd
  exact⟨ob,h1,h2.2.1⟩
section
variable {X:Cx}{pins:AAD}{σ:St}{H:Hp}{s:Shared}{a:Addr}{y d:V}{u r:Value}{o:Option V}{A:Around}{E:AAB}
def MD (hu:A.units+20 < cLine) (I:Inv X pins σ H s) (g:iy H a y o) (ry:RelV y u) (rd:RelV d r) (h:∀w' s',Inv X pins σ H s'->RelV (o.getD d) w'->Q w' s'):
  wpAny (model X.prog X.w) A (call (.builtin "dict.get") [.ref a,u,r]) Q E s:=by
 rcases g with⟨kvs,k,e,ey,l⟩ | ⟨kvs,k,b,e,ey,eb,l⟩
 ·obtain⟨z,hd,vs,rel,dd⟩:=rU I.hok e
  refine abT acB dd.typeIs PySem.F.entry_dict_get (adn _ _ _) (meets_dict_get_default (fQ X.prog X.w) a (ey.is ry) hd r) ⟨_,dd.mapOf,h _ _ (I.tok _) ?_⟩
  rw[l]
  exact(rel.val k).getD rd
 ·subst ey
  cases(show u=Value.ref b from ry)
  obtain⟨z,hd,xs,rel,dd⟩:=tZ I.hok e
  refine abT acB dd.typeIs PySem.F.entry_dict_get (adn _ _ _) (meetsH_dict_get_default (iA X.prog X.w) a b hd r) ⟨fE hu,k,xs,lP I.hok eb,dd,h _ _ (I.tok _) ?_⟩
  rw[l]
  exact(rel.val k).getD rd
end
def ME (td ty tx:TE):TE:=fun σ H Q=>td σ H fun x H1=>∃a,x= .ref a/\SM H1 a/\ty σ H1 fun y H2=>tx σ H2 fun z H3=>∃o,iy H3 a y o/\Q (o.getD z) H3
section
variable {X:Cx}{o e f:Expr}{apos cpos:Pos}{td ty tx:TE}
def Fd (hu:X.A.units+20 < cLine) (ho:PE X o td) (he:PE X e ty) (hf:PE X f tx) (m:M2 X o "get" apos e f cpos):PE X (.Call (.Attribute o "get" apos) [e,f] [] cpos) (ME td ty tx):=by
 intro pins s σ H Q I h
 refine wpAny_Call_method m.base m.few m.line ado acB PySem.F.type_dict_get (dN (ho pins s σ H _ I h) fun u s1 ⟨x,H1,I1,rx,a,ex,d,q1⟩=>?_)
 subst ex
 obtain rfl:u=Value.ref a:=rx
 obtain⟨t1,t2,_⟩:=Fc I1 d
 refine⟨t1,t2,?_⟩
 rw[m.trees]
 refine acu rfl (acJ (aa7 (dN (he pins s1 σ H1 _ I1 q1) fun iv s2 ⟨y,H2,I2,ry,q2⟩=>
  aa7 (dN (hf pins s2 σ H2 _ I2 q2) fun fv s3 ⟨z,H3,I3,rz,ov,g,q3⟩=>abQ ?_))))
 exact MD hu I3 g ry rz fun w' s4 I4 rw'=>⟨_,H3,I4,rw',q3⟩
end
section
variable {X:Cx}{pins:AAD}{σ:St}{H:Hp}{s:Shared}{a:Addr}{kvs:List (Key×V)}{A:Around}{E:AAB}
end
section
variable {X:Cx}{pins:AAD}{σ:St}{H:Hp}{s:Shared}{a:Addr}{y:V}{u:Value}{A:Around}{E:AAB}
end
end L2
namespace HT
open PySem PyProof.Rows
section
open PySem.SeqAt
open PySem.AutoSeq1 (wpAny_loadPart')
open PySem.MeetsSeq PySem.MeetsSeq2 PySem.MeetsSeq3
end
section
variable {prog:Program}{w:World}{A:Around}{E:AAB}{s:Shared}
def IY {t b:Addr}{vs ws:AAI}{Q:AAB}(ht:IsTup s.heap t vs.toArray) (hb:IsTup s.heap b ws.toArray) (hv:vs≠[])
  (h1:ws=[]->Q (.ref t) s) (h2:ws≠[]->Q (.ref s.heap.objs.size) {s with heap:=s.heap.push {cls:=.type "tuple",data:=.seq (vs++ws).toArray}})
  (hsz:vs.length+ws.length<=sizeLine):wpAny (model prog w) A (binaryOp .Add (.ref t) (.ref b)) Q E s:=by
 obtain⟨⟨cls,dd,data,sl⟩,ho,hc,n,hd⟩:=id ht
 obtain⟨⟨Uv,dd2,data2,sl2⟩,ho2,hc2,n2,hd2⟩:=id hb
 simp only at hc hd hc2 hd2
 subst hc hd hc2 hd2
 have e:vs.toArray++ws.toArray=(vs++ws).toArray:=by simp
 by_cases hw:ws=[]
 ·exact concat_meets ⟨_,ho,rfl⟩ ⟨_,ho2,rfl⟩ ade seq_tuple_add acv acn (acf _ _)
   (tuple_addW1 t b vs.toArray ws.toArray n n2 dd dd2 sl sl2 (by simpa using hv) (by simp[hw])) ⟨ho,ho2,h1 hw⟩
 ·refine concat_meets ⟨_,ho,rfl⟩ ⟨_,ho2,rfl⟩ ade seq_tuple_add acv acn (acf _ _)
   (tuple_addW2 t b vs.toArray ws.toArray n n2 dd dd2 sl sl2 (by simpa using hv) (by simpa using hw) (by rw[ZL,ZL];exact hsz)) ⟨ho,ho2,?_⟩
  rw[e]
  exact h2 hw
noncomputable def AO (n d:Nat):Option Int->Nat
 | none=>d
 | some v=>if v < 0 then(v+(n:Int)).toNat else min v.toNat n
end
end HT
namespace L2
open PySem PySem.Spec PyProof.Rows
variable {xs:List V}{n:Nat}{its its':AAI}
abbrev TO:=St->Hp->(Option Int->Hp->Prop)->Prop
def intsAre_of {ns:List Int}:∀{us:AAI},Vals (ns.map V.int) us->IntsAre us ns:=by
 induction ns with
 | nil=>intro us r;rw[adb] at r;cases r;exact .nil
 | cons n ns ih=>
  intro us r
  rw[aae] at r
  cases r with
  | cons r1 r2=>
   obtain⟨t,e⟩:=r1
   subst e
   exact .cons n t (ih r2)
section
variable {X:Cx}{e:Expr}{te:TE}{lo hi:Option Expr}{tl th:TO}{pos p2:Pos}
def XX (X:Cx) (r:V->Option Int->Option Int->Hp->VK->Prop):Prop:=
 ∀(pins:AAD) (s:Shared) (σ:St) (H:Hp) (x:V) (v vl vu:Value) (lo hi:Option Int) (sl:Addr) (Q:VK),Inv X pins σ H s->RelV x v->s.heap.IsSliceOf sl vl vu .none->IsPart vl lo->IsPart vu hi->r x lo hi H Q->
  ∃T id,typeLookup (.type T) "__getitem__" =pure (some (.builtin id))/\s.TypeIs v T/\wpAny (model X.prog X.w) X.A (getItem v (.ref sl)) (EP X pins σ Q) X.xe s
noncomputable def IZ (xs:List V) (lo hi:Option Int):List V:=(xs.drop (HT.AO xs.length 0 lo)).take (HT.AO xs.length xs.length hi - HT.AO xs.length 0 lo)
def yU (xs:List V) (lo hi:Option Int):(IZ xs lo hi).length<=xs.length:=by
 unfold IZ
 rw[abX,abY]
 omega
def Qa (K:AAA):R2:=fun x y H Q=>∃a b xs ys,x= .ref a/\y= .ref b/\wX K H a xs/\wX K H b ys/\xs≠[]/\xs.length+ys.length<=sizeLine/\
 (ys=[]->Q (.ref a) H)/\(ys≠[]->∀p,H p=none->Q (.ref p) (upd H p (.tup (xs++ys))))
def Vals.w4 {us:AAI}(r:Vals xs us):us=[]↔xs=[]:=by
 cases r with
 | nil=>simp
 | cons _ _=>simp
def I0:sF X (binaryOp .Add) (Qa X.K):=by
 intro pins s σ H x y v u Q I rx ry h
 obtain⟨a,b,xs,ys,rfl,rfl,ha,hb,hx,hz,q1,q2⟩:=h
 cases rx
 cases ry
 obtain⟨its,r1,p1,_⟩:=I.tuple ha
 obtain⟨its2,r2,p2,_⟩:=I.tuple hb
 refine HT.IY p1 p2 (fun z=>hx (r1.w4.mp z)) (fun z=>⟨.ref a,H,I,rfl,q1 (r2.w4.mp z)⟩) (fun z=>?_) (by rw[<-r1.length,<-r2.length];exact hz)
 refine⟨.ref s.heap.objs.size,_,I.laid (t':=s.toks) (o:=.tup (xs++ys)) (fun b ob q=>Zx _ q) (ZM _) ?_,rfl,q2 (fun w=>z (r2.w4.mpr w)) _ (I.hok.fresh (ZM _))⟩
 exact⟨by rw[ZZ];exact hz,_,r1.append r2,IsTup.new _ _⟩
end
noncomputable def yC (n:Nat) (i:Int):Option Nat:=if 0<=i then(if i < n then some i.toNat else none) else if -(n:Int)<=i then some (i+n).toNat else none
noncomputable def dF {α:Type}(xs:List α) (i:Int):Option α:=(yC xs.length i).bind fun j=>xs[j]?
def BX {i:Int}{j:Nat}(h:yC n i=some j):seqIndex? i n=some j/\j < n/\-(n:Int)<=i/\i < n:=by
 unfold yC at h
 by_cases h0:0<=i
 ·rw[if_pos h0] at h
  by_cases h1:i < n
  ·rw[if_pos h1] at h
   have e:i.toNat=j:=ZU h
   exact⟨by rw[seqIndex_of h0 h1,e],by omega,by omega,h1⟩
  ·rw[if_neg h1] at h;cases h
 ·rw[if_neg h0] at h
  by_cases h1:-(n:Int)<=i
  ·rw[if_pos h1] at h
   have e:(i+n).toNat=j:=ZU h
   exact⟨by rw[seqIndex_neg (by omega) h1,e],by omega,h1,by omega⟩
  ·rw[if_neg h1] at h;cases h
def w5 {α:Type}{xs:List α}{i:Int}{v:α}(h:dF xs i=some v):∃j,seqIndex? i xs.length=some j/\xs[j]? =some v/\j < xs.length/\-(xs.length:Int)<=i/\i < xs.length:=by
 unfold dF at h
 cases e:yC xs.length i with
 | none=>rw[e] at h;cases h
 | some j=>
  rw[e] at h
  obtain⟨h1,h2,h3,h4⟩:=BX e
  exact⟨j,h1,h,h2,h3,h4⟩
def pW (b:Expr):Prop:=∀o i,subscripted b false o i=operate [o,i] (getItem o i)
def Fe (X:Cx) (r:R2):Prop:=
 ∀(value slice:Expr) (pins:AAD) (s:Shared) (σ:St) (H:Hp) (x y:V) (v u:Value) (Q:VK),Inv X pins σ H s->RelV x v->RelV y u->r x y H Q->
  subscripted slice false v u=operate [v,u] (getItem v u)->wpAny (model X.prog X.w) X.A (subscriptTail value slice v u) (EP X pins σ Q) X.xe s
def Uw (X:Cx) (id:String) (r:V->List V->Hp->VK->Prop):Prop:=
 ∀(pins:AAD) (s:Shared) (σ:St) (H:Hp) (x:V) (xs:List V) (v:Value) (us:AAI) (Q:VK),Inv X pins σ H s->RelV x v->Vals xs us->r x xs H Q->
  wpAny (model X.prog X.w) X.A (call (.builtin id) (v :: us)) (EP X pins σ Q) X.xe s
section
variable {X:Cx}{a b:Expr}{ta tb:TE}{pos:Pos}
def Fe.or {r r':R2}(h:Fe X r) (h':Fe X r'):Fe X (fun x y H Q=>r x y H Q\/r' x y H Q):=by
 intro value slice pins s σ H x y v u Q I rx ry q hs
 rcases q with q | q
 ·exact h value slice pins s σ H x y v u Q I rx ry q hs
 ·exact h' value slice pins s σ H x y v u Q I rx ry q hs
def BY {r:R2}(hr:Fe X r) (ha:PE X a ta) (hb:PE X b tb) (hs:pW b):PE X (.Subscript a b pos) (Ml r ta tb):=by
 intro pins s σ H Q I h
 exact Subscript_ (Mn ha hb I h fun v u s2 x y H2 I2 rx ry q=>hr a b pins s2 σ H2 x y v u Q I2 rx ry q (hs _ _))
def Qc (K:AAA):R2:=fun x y H Q=>∃p xs i v,x= .ref p/\y= .int i/\m5 K H p xs/\dF xs i=some v/\Q v H
def Qd (K:AAA):R2:=fun x y H Q=>∃p xs i v,x= .ref p/\y= .int i/\wX K H p xs/\dF xs i=some v/\Q v H
def Qe:R2:=fun x y H Q=>∃z i c,x= .str z/\y= .int i/\z.length<=sizeLine/\dF z.cps.toList i=some c/\Q (.str ⟨#[c]⟩) H
def xg:Fe X (Qc X.K):=by
 intro value slice pins s σ H x y v u Q I rx ry h hs
 obtain⟨p,xs,i,z,rfl,rfl,hq,he,q⟩:=h
 cases rx
 obtain⟨t,rfl⟩:=ry
 obtain⟨its,r,pl,hz⟩:=I.list hq
 obtain⟨j,h1,h2,h3,h4,h5⟩:=w5 he
 obtain⟨w,ew,rw'⟩:=r.get h2
 have hl:=r.length
 have hn:=qL
 have fin:EP X pins σ Q w s:=⟨z,H,I,rw',q⟩
 by_cases h0:0<=i
 ·have hj:i.toNat=j:=by
   rw[seqIndex_of h0 h5] at h1
   exact ZU h1
  exact item_listR pl.isList h0 (by omega) (by rw[hj];simpa using ew) fin hs
 ·have hj:(i+(its.toArray.size:Int)).toNat=j:=by
   rw[seqIndex_neg (by omega) h4] at h1
   rw[ZL,<-hl]
   exact ZU h1
  exact subscriptTail_builtinR (x:=w) pl.isList.typeIs slot_list_getitem.lookup
   (wpAny_getItem_list_neg (Q:=fun r s'=>r=w/\EP X pins σ Q r s') pl.isList (by omega) (by rw[ZL] <;> omega) (by omega) (by rw[hj];simpa using ew) ⟨rfl,fin⟩) hs
def Ff:Fe X (Qd X.K):=by
 intro value slice pins s σ H x y v u Q I rx ry h hs
 obtain⟨p,xs,i,z,rfl,rfl,hq,he,q⟩:=h
 cases rx
 obtain⟨t,rfl⟩:=ry
 obtain⟨its,r,pl,hz⟩:=I.tuple hq
 obtain⟨j,h1,h2,h3,h4,h5⟩:=w5 he
 obtain⟨w,ew,rw'⟩:=r.get h2
 have hl:=r.length
 have hn:=qL
 have fin:EP X pins σ Q w s:=⟨z,H,I,rw',q⟩
 exact subscriptTail_builtinR (x:=w) pl.typeIs slot_tuple_getitem.lookup
  (getItem_tuple (j:=j) (Q:=fun r s'=>r=w/\EP X pins σ Q r s') pl (by omega) (by omega) (by rw[ZL,<-hl];exact h1) (by simpa using ew) ⟨rfl,fin⟩) hs
def Fg:Fe X Qe:=by
 intro value slice pins s σ H x y v u Q I rx ry h hs
 obtain⟨z,i,c,rfl,rfl,hz,he,q⟩:=h
 obtain⟨t,rfl⟩:=rx
 obtain⟨t',rfl⟩:=ry
 obtain⟨j,h1,h2,h3,h4,h5⟩:=w5 he
 have hl:z.cps.toList.length=z.length:=by simp[Str.length]
 rw[hl] at h1 h4 h5
 have hn:=qL
 exact tail_any (typeIs_str s z t) slot_str_getitem.lookup (getItem_str (c:=c) (by
  have e1:decide (i < -(2 ^ 63:Int))=false:=aaf (by omega)
  have e2:decide (i≥2 ^ 63)=false:=aaf (by omega)
  rw[e1,e2,adA]) (by rw[h1];simpa using h2) ⟨.str ⟨#[c]⟩,H,I.tok _,⟨_,rfl⟩,q⟩) hs
def XY (K:AAA):R2:=fun x y H Q=>Qc K x y H Q\/Qd K x y H Q\/Qe x y H Q
def Fi:Fe X (XY X.K):=xg.or (Ff.or Fg)
def AQ (its:AAI) (n j:Nat) (u:Value):Obj.mapSeq (·.setIfInBounds j u) {cls:=.type "list",data:=.seq its.toArray n}={cls:=.type "list",data:=.seq (its.set j u).toArray n}:=by
 simp[Obj.mapSeq]
def Inv.lst {pins:AAD}{σ:St}{H:Hp}{s:Shared}{p:Addr}{xs:List V}(I:Inv X pins σ H s) (h:H p=some (.lst xs)):
  ∃(its:AAI) (n:Nat),Vals xs its/\s.heap.get? p=some {cls:=.type "list",data:=.seq its.toArray n}/\xs.length<=sizeLine:=by
 obtain⟨z,its,n,r,e⟩:=I.hok p _ h
 exact⟨its,n,r,e,z⟩
def Inv.MF {pins:AAD}{σ:St}{H:Hp}{s:Shared}{p:Addr}{ys:List V}{n':Nat}{f:Obj->Obj}(I:Inv X pins σ H s) (h:H p=some (.lst xs))
  (ho:s.heap.get? p=some {cls:=.type "list",data:=.seq its.toArray n}) (hf:f {cls:=.type "list",data:=.seq its.toArray n}={cls:=.type "list",data:=.seq its'.toArray n'}) (r:Vals ys its') (hz:ys.length<=sizeLine) (t:Nat):
  Inv X pins σ (upd H p (.lst ys)) {s with heap:=s.heap.update p f,toks:=t}:=by
 have e:(s.heap.update p f).get? p=some {cls:=.type "list",data:=.seq its'.toArray n'}:=by
  rw[aao f ho (by rw[hf] <;> rfl),hf]
 refine I.write (x:=p) (e:=p) (by rw[h];trivial) (.inl rfl) (fun b u hb q=>(aat _ _ (aaN hb)).trans q) ⟨_,e⟩ ?_
 exact⟨hz,its',n',r,e⟩
def Qg:V->V->V->Hp->(Hp->Prop)->Prop:=fun o i v H Q=>∃p xs k j,o= .ref p/\i= .int k/\H p=some (.lst xs)/\yC xs.length k=some j/\Q (upd H p (.lst (xs.set j v)))
def set_list:PD X Qg:=by
 intro pins s σ H o i v ov iv u Q I ro ri rv h
 obtain⟨p,xs,k,j,rfl,rfl,hp,hj,q⟩:=h
 cases ro
 obtain⟨t,rfl⟩:=ri
 obtain⟨its,n,r,ho,hz⟩:=I.lst hp
 obtain⟨h1,h2,h3,h4⟩:=BX hj
 have hl:=r.length
 have hn:=qL
 have I':Inv X pins σ (upd H p (.lst (xs.set j v))) {s with heap:=s.heap.update p (Obj.mapSeq (·.setIfInBounds j u))}:=
  I.MF hp ho (AQ its n j u) (r.set rv j) (by rw[aaw];exact hz) s.toks
 by_cases h0:0<=k
 ·have hk:k.toNat=j:=by
   rw[seqIndex_of h0 h4] at h1
   exact ZU h1
  exact PySem.W.ki_setAt ho h0 (by omega) (by rw[ZL,<-hl];exact h4) (by rw[hk];exact⟨_,I',q⟩)
 ·have hk:(k+(its.toArray.size:Int)).toNat=j:=by
   rw[seqIndex_neg (by omega) h3] at h1
   rw[ZL,<-hl]
   exact ZU h1
  exact PySem.W.ki_setBack ho (by omega) (by rw[ZL,<-hl];exact h3) (by omega) (by rw[hk];exact⟨_,I',q⟩)
def xh (lo hi:Option Int) (n:Nat):(sliceBounds lo hi none n).1=((HT.AO n 0 lo:Nat):Int)/\(sliceBounds lo hi none n).2.1=((HT.AO n n hi:Nat):Int)/\(sliceBounds lo hi none n).2.2=1:=by
 refine⟨?_,?_,rfl⟩
 ·cases lo with
  | none=>simp[sliceBounds,HT.AO]
  | some i=>
   simp only[sliceBounds,HT.AO,Option.getD_none,show(1:Int) > 0 by decide,if_true]
   by_cases h:i < 0
   ·simp only[h,if_true] <;> omega
   ·simp only[h,abW] <;> omega
 ·cases hi with
  | none=>simp[sliceBounds,HT.AO]
  | some i=>
   simp only[sliceBounds,HT.AO,Option.getD_none,show(1:Int) > 0 by decide,if_true]
   by_cases h:i < 0
   ·simp only[h,if_true] <;> omega
   ·simp only[h,abW] <;> omega
def vj (its:AAI) (lo hi:Option Int):slicePick its.toArray lo hi none=((its.drop (HT.AO its.length 0 lo)).take (HT.AO its.length its.length hi - HT.AO its.length 0 lo)).toArray:=by
 obtain⟨h1,h2,h3⟩:=xh lo hi its.toArray.size
 unfold slicePick
 rw[h1,h2,h3]
 simp only[sliceRange_one,pick_run,ZL] <;> rfl
def Ux (K:AAA):V->Option Int->Option Int->Hp->VK->Prop:=fun x lo hi H Q=>∃a xs,x= .ref a/\m5 K H a xs/\∀p,H p=none->Q (.ref p) (upd H p (.lst (IZ xs lo hi)))
def SN:XX X (Ux X.K):=by
 intro pins s σ H x v vl vu lo hi sl Q I rx hs pl pu h
 obtain⟨a,xs,rfl,hx,q⟩:=h
 cases rx
 obtain⟨its,r,ht,hz⟩:=I.list hx
 have hlen:=r.length
 refine⟨"list",_,slot_list_getitem.lookup,ht.isList.typeIs,?_⟩
 refine wpAny_getItem_list_slice ht.isList hs pl pu .none (by simp) ?_ (by rw[ZL] <;> omega)
 rw[vj,<-hlen]
 refine⟨.ref s.heap.objs.size,_,I.laid (t':=s.toks) (o:=.lst (IZ xs lo hi)) (fun b ob q=>Zx _ q) (ZM _) ?_,rfl,q _ (I.hok.fresh (ZM _))⟩
 exact⟨Z5 (yU xs lo hi) hz,_,0,(r.drop (HT.AO xs.length 0 lo)).take (HT.AO xs.length xs.length hi - HT.AO xs.length 0 lo),ZT _ rfl⟩
def lQ:gI X (.builtin "len") (fun xs H Q=>∃p ys,xs=[.ref p]/\(m5 X.K H p ys\/wX X.K H p ys)/\Q (.int ys.length) H):=by
 intro pins s σ H xs us Q I r h
 obtain⟨p,ys,rfl,hq,q⟩:=h
 obtain⟨u,rfl,rx⟩:=vals1 r
 cases rx
 have hn:=qL
 rcases hq with hq | hq
 ·obtain⟨its,r',pl,hz⟩:=I.list hq
  have hlen:=r'.length
  exact Calls.call_len_list pl.isList (by simp only[ZL] <;> omega) ⟨.int ys.length,H,I.tok _,⟨s.toks+1,by rw[ZL,hlen]⟩,q⟩
 ·obtain⟨its,r',pl,hz⟩:=I.tuple hq
  have hlen:=r'.length
  exact len_tuple pl (by simp only[ZL] <;> omega) ⟨.int ys.length,H,I.tok _,⟨s.toks+1,by rw[ZL,hlen]⟩,q⟩
def pX:gI X (.builtin "len") (fun xs H Q=>∃z,xs=[.str z]/\z.length<=sizeLine/\Q (.int z.length) H):=by
 intro pins s σ H xs us Q I r h
 obtain⟨z,rfl,hz,q⟩:=h
 obtain⟨u,rfl,t,rfl⟩:=vals1 r
 have hn:=qL
 exact len_str (by omega) ⟨.int z.length,H,I.tok _,⟨_,rfl⟩,q⟩
def pY:gI X (.type "list") (fun xs H Q=>∃p ys,xs=[.ref p]/\(m5 X.K H p ys\/wX X.K H p ys)/\∀l,H l=none->Q (.ref l) (upd H l (.lst ys))):=by
 intro pins s σ H xs us Q I r h
 obtain⟨p,ys,rfl,hq,q⟩:=h
 obtain⟨u,rfl,rx⟩:=vals1 r
 cases rx
 have fin:∀(its:AAI),Vals ys its->ys.length<=sizeLine->∀(h':Heap) (c':Nat),(∀b o',s.heap.get? b=some o'->h'.get? b=some o')->
   h'.get? s.heap.objs.size=some {cls:=.type "list",dict:=none,data:=.seq its.toArray c',slots:=#[]}->EP X pins σ Q (.ref s.heap.objs.size) {s with heap:=h'}:=fun its r' hz h' c' kp e=>
  ⟨.ref s.heap.objs.size,_,I.laid (t':=s.toks) kp (ZM _) (show c7 X.prog X.w _ h' _ (.lst ys) from⟨hz,its,c',r',e⟩),rfl,q _ (I.hok.fresh (ZM _))⟩
 rcases hq with hq | hq
 ·obtain⟨its,r',pl,hz⟩:=I.list hq
  have hlen:=r'.length
  obtain⟨o,ho,hc,n,hd⟩:=pl.isList
  exact call_list_seq p (.inl rfl) ho hc hd (fun h' c' kp e=>fin its r' hz h' c' kp e) (by simp only[ZL] <;> omega)
 ·obtain⟨its,r',pl,hz⟩:=I.tuple hq
  have hlen:=r'.length
  obtain⟨o,ho,hc,n,hd⟩:=pl
  exact call_list_seq p (.inr rfl) ho hc hd (fun h' c' kp e=>fin its r' hz h' c' kp e) (by simp only[ZL] <;> omega)
def oO:gI X (.type "tuple") (fun xs H Q=>∃p ys,xs=[.ref p]/\((m5 X.K H p ys/\∀l,H l=none->Q (.ref l) (upd H l (.tup ys)))\/(wX X.K H p ys/\Q (.ref p) H))):=by
 intro pins s σ H xs us Q I r h
 obtain⟨p,ys,rfl,h⟩:=h
 obtain⟨u,rfl,rx⟩:=vals1 r
 cases rx
 rcases h with⟨hq,q⟩ | ⟨hq,q⟩
 ·obtain⟨its,r',pl,hz⟩:=I.list hq
  have hlen:=r'.length
  refine call_tuple_list pl.isList (fun h' kp=>?_) (by simp only[ZL] <;> omega)
  have I1:Inv X pins σ H {s with heap:=h'}:=I.kept (t':=s.toks) kp
  have I2:Inv X pins σ (upd H h'.objs.size (.tup ys)) {s with heap:=h'.push {cls:=.type "tuple",data:=.seq its.toArray}}:=
   I1.laid (t':=s.toks) (fun b o e=>Zx _ e) (ZM _) (show c7 X.prog X.w _ _ _ (.tup ys) from⟨hz,its,r',IsTup.new _ _⟩)
  exact⟨.ref h'.objs.size,_,I2,rfl,q _ (I1.hok.fresh (ZM _))⟩
 ·obtain⟨its,r',pl,hz⟩:=I.tuple hq
  exact call_tuple_same pl ⟨.ref p,H,I,rfl,q⟩
def WY (K:AAA) (T:String) (x:V) (H:Hp):Prop:=match x with
 | .str _=>T="str"
 | .int _=>T="int"
 | .ref p=>(T="list"/\∃xs,m5 K H p xs)\/(T="tuple"/\∃o,K.lookup p=some o/\o.cls= .type "tuple"/\o.dict=none)\/
   (T="dict"/\((∃kvs,H p=some (.dK kvs))\/∃kvs,H p=some (.dT kvs)))\/(T="set"/\∃S n,H p=some (.set S n))
 | _=>False
def MG {pins : List (Addr × Obj)} {σ : St} {H : Hp} {s : Shared} {T : String} {x : V} {v : Value} (I : Inv X pins σ H s) (r : RelV x v) (ty : WY X.K T x H) :
    s.TypeIs v T/\∀a,v= .ref a->∃ob,s.heap.get? a=some ob/\ob.dict=none:=by
  cases x with
  | str z=>
    obtain⟨t,rfl⟩:=r
    cases(show T="str" from ty)
    exact⟨typeIs_str s z t,fun _ e=>nomatch e⟩
  | int i=>
    obtain⟨t,rfl⟩:=r
    cases(show T="int" from ty)
    exact⟨typeIs_int s i t,fun _ e=>nomatch e⟩
  | ref p =>
    cases r
    rcases ty with⟨rfl,xs,hq⟩ | ⟨rfl,o,hk,hc,hd⟩ | ⟨rfl,hk⟩ | ⟨rfl,S,n,hk⟩
    . obtain⟨its,_,pl,_⟩:=I.list hq
      refine⟨pl.isList.typeIs,fun a e=>?_⟩
      cases e
      obtain⟨o,n,e,c,hd,_⟩:=pl
      exact⟨o,e,hd⟩
    . refine⟨⟨o,I.EN p o hk,hc⟩,fun a e=>?_⟩
      cases e
      exact⟨o,I.EN _ o hk,hd⟩
    . have z:∃o,s.heap.get? p=some o/\o.ExactDict:=by
        rcases hk with⟨kvs,hk⟩ | ⟨kvs,hk⟩
        . obtain⟨_,_,_,_,o,_,_,e,ex,_⟩:=I.hok p _ hk
          exact⟨o,e,ex⟩
        . obtain⟨_,_,_,_,o,_,_,e,ex,_⟩:=I.hok p _ hk
          exact⟨o,e,ex⟩
      obtain⟨o,e,ex⟩:=z
      refine⟨⟨o,e,ex.1⟩,fun a e2=>?_⟩
      cases e2
      exact⟨o,e,ex.2.1⟩
    . obtain⟨o,_,_,_,e,ex,_⟩:=I.hok p _ hk
      refine⟨⟨o,e,ex.1⟩,fun a e2=>?_⟩
      cases e2
      exact⟨o,e,ex.2.1⟩
  | _=>exact False.elim ty
def XZ (K:AAA) (T:String) (r:V->List V->Hp->VK->Prop) (to:TE) (t:TA):TE:=fun σ H Q=>to σ H fun x H1=>WY K T x H1/\t σ H1 fun xs H2=>r x xs H2 Q
variable {o e:Expr}{es:List Expr}{to:TE}{t:TA}{name:Str}{apos cpos:Pos}{T id:String}{r:V->List V->Hp->VK->Prop}
def Lq (pa:PlainAttrs T) (slot:Slot T name id) (hty:typeOf (.builtin id)=pure (.type "method_descriptor")) (hm:Uw X id r) (ho:PE X o to) (ha:PA X (e :: es) t)
  (hbase:attributeBase o name X.env (eval o X.env)=eval o X.env:=by rfl)
  (hfew:((backTo cpos (starEach (e :: es) X.env)).all (fun x=>!x.1) && (backToKw cpos (keywordEach [] X.env)).all (fun x=>x.1.isSome)
   && decide ((e :: es).length+([]:List Keyword).length+(if([]:List Keyword).isEmpty then 0 else 1) < 30))=true:=by rfl)
  (hline:(apos.endLine == cpos.line)=true:=by rfl) (hs:starEach (e :: es) X.env=(false,eval e X.env) :: starEach es X.env:=by rfl) (hplain:(backTo cpos (starEach es X.env)).any (·.1)=false:=by rfl):
  PE X (.Call (.Attribute o name apos) (e :: es) [] cpos) (XZ X.K T r to t):=by
 intro pins s σ H Q I h
 refine wpAny_Call_method_late hbase hfew hline rfl (dN (ho pins s σ H _ I h) fun v s1 ⟨x,H1,I1,r1,ty,q1⟩=>?_)
 obtain⟨h1,h2⟩:=MG I1 r1 ty
 refine⟨T,id,pa,slot,hty,h1,h2,?_⟩
 have hA:=ha cpos pins s1 σ H1 _ I1 q1
 rw[hs] at hA ⊢
 refine acu (by show(false || (backTo cpos (starEach es X.env)).any (·.1))=false;rw[hplain] <;> rfl) (acJ ?_)
 exact dN hA fun us s2 ⟨vs,H2,I2,r2,q2⟩=>hm pins s2 σ H2 x vs v us Q I2 r1 r2 q2
end
def X0 (X:Cx) (id:String) (r:V->List V->Hp->VK->Prop):Prop:=
 ∀(pins:AAD) (s:Shared) (σ:St) (H:Hp) (x:V) (xs:List V) (v:Value) (us:AAI) (Q:VK),Inv X pins σ H s->RelV x v->Vals xs us->r x xs H Q->
  wpAny (model X.prog X.w) X.A (call (.builtin id) (v :: us)) (EP X pins σ Q) X.xe s
theorem Vals.one:∀{x:V}{us:AAI},Vals [x] us->∃u,us=[u]/\RelV x u
 | _,_,.cons r .nil=>⟨_,rfl,r⟩
theorem Vals.two:∀{x y:V}{us:AAI},Vals [x,y] us->∃u v,us=[u,v]/\RelV x u/\RelV y v
 | _,_,_,.cons r (.cons q .nil)=>⟨_,_,rfl,r,q⟩
def Vals.dropLast {xs:List V}{us:AAI}(h:Vals xs us):Vals xs.dropLast us.dropLast:=by
 induction h with
 | nil=>exact .nil
 | cons r t ih=>
  cases t with
  | nil=>exact .nil
  | cons q t'=>exact .cons r ih
theorem Vals.rep {xs:List V}{us:AAI}(h:Vals xs us):∀k:Nat,Vals (List.replicate k xs).flatten (List.replicate k us).flatten
 | 0=>.nil
 | k+1=>by
  rw[aaU,aaU,abk,abk]
  exact Vals.append h (Vals.rep h k)
theorem foldl_rep (its:AAI):∀(k:Nat) (acc:AAI),
    List.foldl (fun x1 x2=>x1++x2) acc.toArray (List.replicate k its.toArray)=(acc++(List.replicate k its).flatten).toArray
  | 0,acc=>by simp
  | k + 1, acc => by
    have e:acc.toArray++its.toArray=(acc++its).toArray:=by simp
    have e2:(acc++its)++(List.replicate k its).flatten=acc++(List.replicate (k+1) its).flatten:=by
      rw[aaU,abk,aar]
    rw[<-e2,<-foldl_rep its k (acc++its),<-e,aaU,List.foldl_cons]
section
variable {X:Cx}{pins:AAD}{σ:St}{H:Hp}{s:Shared}{l b:Addr}{xs ys zs:List V}
def Inv.Qh {f:Array Value->Array Value}{t':Nat}(I:Inv X pins σ H s) (hH:H l=some (.lst xs))
  (e:s.heap.get? l=some {cls:=.type "list",data:=.seq its.toArray n}) (hf:f its.toArray=its'.toArray) (hv:Vals ys its') (hz:ys.length<=sizeLine):
  Inv X pins σ (upd H l (.lst ys)) {s with heap:=s.heap.update l (Obj.mapSeq f),toks:=t'}:=by
 have q:=PySem.IsL.update e f
 rw[hf] at q
 refine I.write (x:=l) (e:=l) (by rw[hH];exact trivial) (.inl rfl) (fun b' u hb hu=>(aat s.heap (Obj.mapSeq f) (aaN hb)).trans hu) ⟨_,q⟩ ?_
 exact⟨hz,its',_,hv,q⟩
def Inv.Qi {t':Nat}(I:Inv X pins σ H s) (hv:Vals ys its) (hz:ys.length<=sizeLine):
  Inv X pins σ (upd H s.heap.objs.size (.lst ys)) {s with heap:=s.heap.push {cls:=.type "list",data:=.seq its.toArray},toks:=t'}:=
 I.laid (fun _ _ q=>Zx _ q) (ZM _) ⟨hz,its,0,hv,ZT _ rfl⟩
def Inv.fresh (I:Inv X pins σ H s):H s.heap.objs.size=none:=I.hok.fresh (ZM _)
def Inv.AR (I:Inv X pins σ H s) (hH:H l=some (.lst xs)):xs.length<=sizeLine/\∃(its:AAI) (n:Nat),Vals xs its/\xs.length=its.length/\s.heap.get? l=some {cls:=.type "list",data:=.seq its.toArray n}:=by
 obtain⟨z,its,n,r,e⟩:=I.hok l _ hH
 exact⟨z,its,n,r,r.length,e⟩
def yV (h:n<=sizeLine):Builtin.List.listTooLong n=false:=by
 unfold Builtin.List.listTooLong
 exact aaf (by omega)
end
section
variable {X:Cx}
def BZ:V->List V->Hp->VK->Prop:=fun x vs H Q=>∃l xs y,x= .ref l/\vs=[y]/\H l=some (.lst xs)/\xs.length < sizeLine/\Q .bV (upd H l (.lst (xs++[y])))
def fG:X0 X "list.append" BZ:=by
 intro pins s σ H x vs v us Q I rx rv h
 obtain⟨l,xs,y,rfl,rfl,hH,hz,q⟩:=h
 cases rx
 obtain⟨u,rfl,ru⟩:=rv.one
 obtain⟨z,its,n,r,hl,e⟩:=I.AR hH
 refine ac7 F.slot_list_append ⟨_,e,rfl⟩ F.entry_list_append (F.args_list_append_2 _ _) (PySem.list_append l its.toArray n u (by rw[ZL];omega)) ⟨e,?_⟩
 refine⟨.bV,_,I.Qh (its':=its++[u]) hH e (by simp) (r.append (.cons ru .nil)) ?_,rfl,q⟩
 rw[ZZ,aaA]
 omega
def len_rep {α:Type}(xs:List α) (k:Nat):(List.replicate k xs).flatten.length=k * xs.length:=by
 induction k with
 | zero=>simp
 | succ k ih=>rw[aaU,abk,ZZ,ih,Nat.succ_mul,Nat.add_comm]
end
section
variable {prog:Program}{w:World}{A:Around}{E:AAB}{s:Shared}
end
section
variable {X:Cx}
end
end L2
namespace WZ
open PySem PySem.W PySem.Calls PyProof.Rows
def sG {P:Params}{h:Heap}:∀(ns:List Int) (vs:AAI),WellAll P h vs (ns.map WData.int)->IntsAre vs ns:=by
 intro ns
 induction ns with
 | nil=>
  intro vs w
  rw[adb] at w
  cases w
  exact .nil
 | cons n ns ih=>
  intro vs w
  rw[aae] at w
  cases w with
  | cons a b=>
   cases a
   exact .cons _ _ (ih _ b)
def Dl {l:OpenLaw}{n:Nat}(hn:l.most=some n){P:Params}{h:Heap}{args:List WData}{vals:AAI}
  (hpre:l.row.toRowW.claim.pre args=true) (hwl:WellAll P h vals args):
  ∃a vs ns,vals=[Value.ref a]/\args=[WData.list (ns.map WData.int)]/\h.get? a=some {cls:=.type "list",data:=.seq vs.toArray}/\IntsAre vs ns/\ns.length<=n:=by
 have hsh:WShape.hasAll [] args [.list .int]=true:=(pre_splitW hpre).1
 have hc:l.pre.holds [] {args:=args}=true:=(pre_splitW hpre).2
 obtain⟨d,r,rfl,h1,h2⟩:=hasAllW_cons hsh
 obtain rfl:=hasAllW_nil h2
 obtain⟨xs,rfl,h3⟩:=hasW_list h1
 obtain⟨ns,rfl⟩:=items_int h3
 have hlen:ns.length<=n:=by
  unfold OpenLaw.pre at hc
  have h4:(WTm.not (.lt (.lit (.int (n:Int))) (.len (.arg 0)))).holds [] {args:=[.list (ns.map .int)]}=true:=by
   have h4:=(holds_andW hc).1
   rw[hn] at h4
   exact h4
  have h5:=condW_of h4 (w_not (w_lt w_lit (w_len_list (w_arg rfl))))
  rw[Zw] at h5
  refine Nat.le_of_not_lt fun q=>?_
  have q':(n:Int) < ((ns.length:Nat):Int):=by omega
  first
   | (rw[aaC q'] at h5;exact absurd h5 (by decide))
   | (simp at h5;omega)
 cases hwl with
 | cons w1 w2=>
  cases w2
  cases w1 with
  | list ho hall=>exact⟨_,_,ns,rfl,rfl,ho,sG ns _ hall,hlen⟩
def Dm (l:OpenLaw) (args:List WData):l.row.toRowW.claim.post args (.bool true) args=true:=
 postW_of (r:=l.row.toRowW) (X:=(true == true))
  (show WShape.has [] (.bool true) .bool=true by first | rfl | decide | simp[WShape.has,WShape.arms,WShape.armsAll])
  (show(WTm.eq .res (.lit (.bool true))).value [] {args:=args,res:=some (.bool true),after:=args}=some (.bool (true == true)) from w_eq_bool (w_res rfl) w_lit) rfl
def yW {l:OpenLaw}{n:Nat}{q:Program}{loose:List Str}{XP:(Str->Option Value)->Heap->Prop}{YP:World->Heap->Prop}{d:DefRec}
  (hn:l.most=some n) (hdf:d.params.defaults=[])
  (call:∀(w:World) (s₀ s₁:Shared) (mg mb:AAC) (fa:Addr) (o:Obj) (pm cd doc:Value) (a:Addr) (vs:AAI) (ns:List Int),
   Ground q loose [] XP w s₀ mg mb s₁.heap->YP w s₁.heap->
   s₁.heap.get? fa=some o->o.data= .func (docDef d.name d.params d.body d.scope pm cd doc)->s₁.heap.CodeRec cd d.name->mg d.name=some (.ref fa)->
   s₁.heap.get? a=some {cls:=.type "list",data:=.seq vs.toArray}->IntsAre vs ns->ns.length<=n->s₁.gens=#[]->
   codeAny (model l.prog w) callerA (.call (.ref fa) ⟨[.ref a],[]⟩) (fun r s'=>r= .ok (.ret (.bool true))/\OldK s₁.heap s'.heap/\s'.os=s₁.os/\AllBare s'.gens) s₁):
  WalkO q loose XP YP l.row.toRowW d [] (fun f vs=>PySem.call f vs):=by
 intro w s₀ s₁ mg mb G Y fa o pm cd doc dV kV ho hd hcd hD hmg hg args vals as hpre hlay hrd hwl hlo
 obtain rfl:dV= .none:=Dflts.none hD hdf
 obtain rfl:kV= .none:=Dflts.noKw hD
 obtain⟨a,vs,ns,rfl,rfl,hobj,hints,hlen⟩:=Dl hn hpre hwl
 refine enter_call (ace (call w s₀ s₁ mg mb fa o pm cd doc a vs ns G Y ho (fd_plain hd) hcd hmg hobj hints hlen hg) fun r s' hq=>?_)
 obtain⟨rfl,h2,h3,h4⟩:=hq
 exact⟨.inl ⟨.bool true,.bool true,[],rfl,fun _=>rfl,.bool true,Dm l _,fun _=>⟨List.Pairwise.nil,fun _ hm=>(nomatch hm)⟩⟩,h2,h3,h4⟩
section
variable {prog:Program}{w:World}{A:Around}{E:AAB}{s:Shared}{K:Frag}
end
end WZ
namespace L2
open PySem PySem.Spec PyProof.Rows
variable {P:Program}{w:World}{K:AAA}{k:Nat}{fd:FuncData}{x qual:Str}{X:Cx}{st:Stmt}{ps aZ:List Str}{H:Hp}{tc:TT}{cap:List Nat}{scope:Scope}{elt iter:Expr}{ifs:List Expr}{px pos:Pos}{cl:List (Str×Addr)}{wi:TI}{te:TE}
theorem vY:∀{vs:AAI}{ns:List Int},IntsAre vs ns->Vals (ns.map V.int) vs
 | _,_,.nil=>.nil
 | _,_,.cons n t h=>.cons ⟨t,rfl⟩ (vY h)
def Ja (H:Hp):Prop:=∀b,H b=none\/∃o xs,H b=some (.jw o (.lst xs))
def Fj    {mg mb : Str -> Option Value} {CX : EC}  {fa a : Addr}   {sp : Sp} {s₁ : Shared} {vs : List Value} {ns : List Int}
    (KX:K.In s₁.heap) (hns:s₁.heap.Ns mainGlobals mg) (hb:s₁.heap.Ns builtinsNs mb) (X3:∀x:Str,x≠"__name__"->mb x=bootBuiltins x) (hlim:s₁.heap.NoLimit) (hg:s₁.gens=#[])
    (ha:s₁.heap.get? a=some {cls:=.type "list",data:=.seq vs.toArray}) (hi:IntsAre vs ns) (hl:ns.length<=sizeLine) (hr:jU k callerA)
    (F:∀base:Heap,K.In base->base.Ns mainGlobals mg->o7 P w K mg base CX k fa fd [x] sp) (hbind:∀(s:Shared) (u:Value),BindsTo s fd ⟨[u],[]⟩ [(x,u)])
    (Lm:∀H:Hp,Ja H->m5 K H a (ns.map V.int)->sp [.ref a] H (fun v _=>v= .bl true) fun _ _ _=>False)
    (Uy:∀H e s',CX [] H s₁ (fun _ _ _=>False) e s'->False):
    codeAny (model P w) callerA (.call (.ref fa) ⟨[.ref a],[]⟩) (fun r s'=>r= .ok (.ret (.bool true))/\OldK s₁.heap s'.heap/\s'.os=s₁.os/\AllBare s'.gens) s₁:=by
  have rv:=vY hi
  have lenV:=hi.length
  have core : ∀ H : Hp, Ja H -> m5 K H a (ns.map V.int) -> mZ P w H s₁.heap -> (∀ b, H b ≠ none -> b = a) -> (H a ≠ none -> K.lookup a = none) ->
      codeAny (model P w) callerA (.call (.ref fa) ⟨[.ref a],[]⟩) (fun r s'=>r= .ok (.ret (.bool true))/\OldK s₁.heap s'.heap/\s'.os=s₁.os/\AllBare s'.gens) s₁:=by
    intro H hO hS hok hA hK
    have B0:∀{b:Addr}{o:Obj},s₁.heap.get? b=some o->H b=none->(wV s₁.heap H).get? b=some o:=fun e n=>EM e n
    have P1:∀{b:Addr}{o:Obj}{es:Array DictEntry}{ep:Nat},s₁.heap.get? b=some o->o.data= .dict es ep->H b=none:=fun {b o es ep} e d=>by
      cases q:H b with
      | none=>rfl
      | some u=>
        have e':b=a:=hA b (by rw[q];simp)
        subst e'
        rw[ha] at e;cases e
        have d':Data.seq vs.toArray _=Data.dict es ep:=d
        cases d'
    have SO:∀{b:Addr}{m:AAC},s₁.heap.Ns b m->(wV s₁.heap H).Ns b m:=fun {b m} ⟨o,es,ep,e,d,r⟩=>⟨o,es,ep,B0 e (P1 e d),d,r⟩
    have W0:K.In (wV s₁.heap H):=fun b o e=>B0 (KX b o e) (by
      cases q:H b with
      | none=>rfl
      | some u=>
        have e':b=a:=hA b (by rw[q];simp)
        subst e'
        rw[hK (by rw[q];simp)] at e;cases e)
    have hM:Mod K mg (wV s₁.heap H):=⟨W0,SO hns,⟨mb,SO hb,X3⟩,let⟨mc,h1,h2⟩:=hlim;⟨mc,SO h1,h2⟩⟩
    have e0:IP P w K mg (wV s₁.heap H) callerA [] s₁ H:=⟨rfl,hM,fun b o e=>IE e,Nat.le_of_eq (C5 _ _),trivial,fun b hb=>absurd (show b∈([]:List Addr) from hb) (by simp),hok,.of_eq hg⟩
    refine ace ((F _ W0 (SO hns)).run callerA [] s₁ H ⟨[.ref a],[]⟩ [.ref a] [.ref a] _ _ hr e0 (hbind s₁ (.ref a)) (.cons rfl .nil) (Lm H hO hS)) fun r s' h=>?_
    cases r with
    | error e=>exact(Uy H e s' h).elim
    | ok fl =>
      cases fl with
      | next=>exact False.elim h
      | brk=>exact False.elim h
      | cont=>exact False.elim h
      | ret u =>
        obtain⟨v,H',os,bare,un,Uz,r',q⟩:=h
        have q':v= .bl true:=q
        subst q'
        obtain rfl:u=Value.bool true:=r'
        refine⟨rfl,OldK.of_keep fun b o e=>?_,os,bare⟩
        cases q:H b with
        | none=>exact un.keep b o e q (by intro z;exact absurd (show b∈([]:List Addr) from z) (by simp)) (by simp)
        | some u=>
          rcases hO b with z | ⟨ob,xs,z⟩
          . rw[q] at z;cases z
          . have z2:=un.tU b ob _ z
            obtain⟨e1,_⟩:=hok b _ z
            obtain⟨e2,_⟩:=Uz b _ z2
            rw[e] at e1;cases e1
            exact e2
  cases hk:K.lookup a with
  | some o=>
    have e:=KX a o hk
    rw[ha] at e
    cases e
    refine core (fun _=>none) (fun _=>.inl rfl) (.inr ⟨_,vs.toArray,_,hk,rfl,rfl,rfl,by rw[ZL,lenV];exact hl,by simpa using rv⟩) (fun b u z=>by have z':(none:Option HO)=some u:=z;cases z') (fun b z=>absurd rfl z) fun z=>absurd rfl z
  | none=>
    refine core (fun b=>if b=a then some (.jw {cls:=.type "list",data:=.seq vs.toArray} (.lst (ns.map V.int))) else none) (fun b=>?_) (.inl (.inr ⟨{cls:=.type "list",data:=.seq vs.toArray},if_pos rfl⟩)) (fun b u z=>?_) (fun b z=>?_) fun _=>hk
    . by_cases hb:b=a
      . exact .inr ⟨_,_,if_pos hb⟩
      . exact .inl (if_neg hb)
    . by_cases hb:b=a
      . have z':=(if_pos hb).symm.trans z
        cases z'
        subst hb
        exact⟨ha,by rw[Zw];exact hl,vs,_,rv,ha⟩
      . have z':=(if_neg hb).symm.trans z
        cases z'
    . by_cases hb:b=a
      . exact hb
      . exact absurd (if_neg hb) z
noncomputable abbrev Zc {K:AAA}{h:Heap}(_:K.In h):PySem.W.Frag:=K
def Jb {l : PySem.W.OpenLaw} {n:Nat} {q : Program} {loose : List Str} {XP : (Str -> Option Value) -> Heap -> Prop} {YP : World -> Heap -> Prop} {d : DefRec} {K : Params -> PySem.W.Frag} {CX : World -> EC} {sp : World -> Sp} 
    (hn:l.most=some n) (hn2:n<=sizeLine) (hdf:d.params.defaults=[]) (hr:jU k callerA)
    (hY:∀(w:World) (h:Heap),YP w h->(K w.params).In h)
    (F:∀(w:World) (mg:AAC) (fa:Addr) (h:Heap),(K w.params).In h->h.Ns mainGlobals mg->mg d.name=some (.ref fa)->
      ∃fd:FuncData,(∀(s:Shared) (u:Value),BindsTo s fd ⟨[u],[]⟩ [(x,u)])/\
        ∀base:Heap,(K w.params).In base->base.Ns mainGlobals mg->o7 l.prog w (K w.params) mg base (CX w) k fa fd [x] (sp w))
    (Lm:∀(w:World) (H:Hp) (a:Addr) (ns:List Int),ns.length<=n->Ja H->m5 (K w.params) H a (ns.map V.int)->sp w [.ref a] H (fun v _=>v= .bl true) fun _ _ _=>False)
    (Uy:∀(w:World) (H:Hp) (s:Shared) (e:Value) (s':Shared),CX w [] H s (fun _ _ _=>False) e s'->False):
    PySem.W.WalkO q loose XP YP l.row.toRowW d [] (fun f vs=>PySem.call f vs):=by
  refine WZ.yW hn hdf fun w s₀ s₁ mg mb fa o pm cd doc a vs ns G Y ho hd hcd hmg hobj hints hlen hg=>?_
  have KX:=hY w _ Y
  obtain⟨fd,hb,hF⟩:=F w mg fa _ KX G.T.g hmg
  exact Fj KX G.T.g G.T.b G.T.builtins G.T.nolimit hg hobj hints (Z5 hlen hn2) hr hF hb (fun H hO hS=>Lm w H a ns hlen hO hS) fun H e s'=>Uy w H s₁ e s'
noncomputable def nX (s:Stmt):Arguments:=match s with
 | .FunctionDef _ a _ _ _ _ _ _ _ _=>a
 | _=>{posonlyargs:=[],args:=[],vararg:=none,kwonlyargs:=[],kw_defaults:=[],kwarg:=none,defaults:=[]}
noncomputable def jI (s:Stmt):List Stmt:=match s with
 | .FunctionDef _ _ b _ _ _ _ _ _ _=>b
 | _=>[]
noncomputable def aN (s:Stmt):Scope:=match s with
 | .FunctionDef _ _ _ _ _ _ sc _ _ _=>sc
 | _=>{kind:=.function,names:=[],isGenerator:=false,isCoroutine:=false}
noncomputable abbrev EE:EC:=fun _ _ _ _ _ _=>False
noncomputable abbrev E0:XK:=fun _ _ _=>False
def Qj :Passes EE X E0:=fun _ _ _ _ _ _ _ h=>h.elim
structure Lr (K:AAA) (x qual:Str) (st:Stmt) (f:Addr) (fd:FuncData):Prop where
 ex:∃(oc:Value) (od:Option Addr) (kV doc pm:Value) (an:Option Addr) (cdv ct:Value) (osl:Array (Option Value)),
  fd=PySem.W.fnOf x qual (nX st) (jI st) (aN st) .none kV doc pm an cdv ct/\K.lookup f=some ⟨oc,od,.func fd,osl⟩/\PySem.W.codeIn K cdv qual=true
 kp:PySem.W.keepIn K (.ref f)=true
section
variable {P:Program}{w:World}{K:AAA}{mg:AAC}{base:Heap}
def Lr.ok {f:Addr}{N:List Str}{sp:Sp}(F:Lr K x qual st f fd) (S:bF N ps (aN st)) (len:∀vs H Q E,sp vs H Q E->vs.length=ps.length)
  (hbody:∀(cdv:Value) (A:Around) (outer:List Env) (s:Shared) (H:Hp) (vs:List V) (Q:VK) (E:XK),jU k (A.deeper (envOfC qual (aN st) s.heap.objs.size f cdv))->sp vs H Q E->
   ∃t,yM (yP EE P w K mg base N qual (aN st) f cdv A outer s H E).OQ (jI st) t/\t {nx:=fun _ H'=>Q .bV H',rt:=Q} (start N vs) H):o7 P w K mg base EE (k+1) f fd ps sp:=by
 obtain⟨oc,od,kV,doc,pm,an,cdv,ct,osl,rfl,lk,hcd⟩:=F.ex
 refine P4 lk hcd S len fun A outer s H vs Q E hr Lm=>?_
 obtain⟨t,h,q⟩:=hbody cdv A outer s H vs Q E hr Lm
 exact⟨t,h.OQ,q⟩
def Lr.binds {f:Addr}(F:Lr K x qual st f fd)
  (h:∀(kV doc pm:Value) (an:Option Addr) (cdv ct:Value) (us:AAI),us.length=ps.length->bindArgs (PySem.W.fnOf x qual (nX st) (jI st) (aN st) .none kV doc pm an cdv ct) ⟨us,[]⟩=pure (ps.zip us)):Binds K fd ps []:=by
 obtain⟨oc,od,kV,doc,pm,an,cdv,ct,osl,rfl,lk,hcd⟩:=F.ex
 exact .all (h kV doc pm an cdv ct)
def MH {f:Addr}{oc:Value}{od an:Option Addr}{osl:Array (Option Value)}{kV doc pm cdv ct:Value}(l:K.lookup f=some ⟨oc,od,.func (PySem.W.fnOf x qual (nX st) (jI st) (aN st) .none kV doc pm an cdv ct),osl⟩)
  (c:PySem.W.codeIn K cdv qual=true) (k:PySem.W.keepIn K (.ref f)=true):Lr K x qual st f (PySem.W.fnOf x qual (nX st) (jI st) (aN st) .none kV doc pm an cdv ct):=⟨⟨oc,od,kV,doc,pm,an,cdv,ct,osl,rfl,l,c⟩,k⟩
end
def jF {A:Around}(hr:jU k A):A.units+20 < cLine:=aa8 (Nat.add_le_add_left (by decide:20<=64) _) hr.units
section
variable {X:Cx}
def Dn:gI X (.builtin "len") (fun xs H Q=>∃a kvs,xs=[V.ref a]/\H a=some (.dK kvs)/\Q (.int kvs.length) H):=by
 intro pins s σ H xs us Q I r h
 obtain⟨a,kvs,rfl,ha,q⟩:=h
 obtain⟨u,rfl,ru⟩:=vals1 r
 cases ru
 exact P5 I (.inl ha) fun t s' I'=>⟨.int kvs.length,H,I',⟨t,rfl⟩,q⟩
end
def yX {A B:Prop}(h:B):if false=true then A else B:=by
 rw[if_neg aaY]
 exact h
def yY {A B:Prop}(h:A):if true=true then A else B:=by
 rw[if_pos rfl]
 exact h
section
variable {κ:Type} [DecidableEq κ]
end
def mZ.Ls {h:Heap}{a:Addr}{o:HO}(x:mZ P w H h) (hn:H a=none) (new:c7 P w (upd H a o) h a o):mZ P w (upd H a o) h:=fun b u e=>by
 by_cases hb:b=a
 ·subst hb;rw[aD] at e;cases e;exact new
 ·rw[az hb] at e
  exact(x b u e).stay (fun c v _ q=>q) (fun c q=>by rw[az (aT q hn)];exact q) fun c xs q=>by rw[az (aT q hn)];exact q
noncomputable def bT (X:Cx) (N':List Str) (scope:Scope) (cl:List (Str×Addr)) (C:Addr) (s:Shared) (H:Hp) (fp:List Addr):Cx:=
 {X with N:=N',s₀:=s,H₀:=H,env:=compEnvC scope cl C X.env,outer:=X.stack,stack:=X.stack,ex:=fp,fn:=fun _=>false,pn:=[],xe:=fun _ _=>False}
noncomputable def bQ (cap:List Nat) (σ:St):St:=cap.map fun i=>(σ[i]?).join
structure d8 (X:Cx) (x:Str) (aZ:List Str) (cap:List Nat) (scope:Scope) (cl:List (Str×Addr)):Prop where
 clos:closureFor scope X.env=pure cl
 jx:∀y∈scope.names,y.2≠.cell
 kind:scope.kind= .function
 names:∀y∈scope.names,y.2= .local->scope.names.lookup y.1=some .local
 loc:scope.names.lookup x=some .local
 cells:∀n c,cl.lookup n=some c->X.env.cells.lookup n=some c
 has:∀n,((relabel scope X.env).names.lookup n=some .cell\/(relabel scope X.env).names.lookup n=some .free)->∃c,cl.lookup n=some c
 nd:(x :: aZ).Nodup
 len:cap.length=aZ.length
 slot:∀(j:Nat) n,aZ[j]? =some n->∃i:Nat,cap[j]? =some i/\X.N[i]? =some n/\AE X.env.scope n
 vis:∀n,n∈aZ->((relabel scope X.env).names.lookup n=some .cell\/(relabel scope X.env).names.lookup n=some .free)/\(∃c,cl.lookup n=some c)/\X.env.scope.names.lookup n≠some .local
def SQ (wi:TI) (cap:List Nat) (tc:TT) (te:TE):TE:=fun σ H Q=>wi σ H fun J H1=>∃W:Nat->Nat->List V->Hp->Prop,(∃m,W 0 m [] H1)/\∀i m ys H,W i m ys H->ys.length < sizeLine/\
  ((J.stop i H/\∀p,H p=none->Q (.ref p) (upd H p (.lst ys)))\/
   (J.go i H/\∀x H',J.OR i H x H'->tc (some x :: bQ cap σ) H' fun b H2=>if b=true then te (some x :: bQ cap σ) H2 fun y H3=>∃m',m' < m/\W (i+1) m' (ys++[y]) H3 else ∃m',m' < m/\W (i+1) m' ys H2))
def Qk:TT:=fun _ H Q=>Q true H
def Fl (X:Cx) (ifs:List Expr) (tc:TT):Prop:=
 ∀(pins:AAD) (s:Shared) (σ:St) (H:Hp) (Q:Bool->Hp->Prop),Inv X pins σ H s->tc σ H Q->
  wpAny (model X.prog X.w) X.A (forIn ifs true fun c r=>if r=true then do let ok <-isTrue c X.env (eval c X.env);pure (ForInStep.yield ok) else pure (ForInStep.yield r)) (TP X pins σ Q) X.xe s
def B3 :Fl X [] Qk:=fun pins s σ H Q I h=>wpAny_tests_nil ⟨H,I,h⟩
def Jc {c:Expr}(h:PT X c tc):Fl X [c] tc:=fun pins s σ H Q I q=>wpAny_tests_one (h pins s σ H Q I q)
def Fp (ys:AAI) (y:Value):({cls:=.type "list",data:=.seq (ys.toArray.push y) (ys.length+1)}:Obj)={cls:=.type "list",data:=.seq (ys++[y]).toArray (ys++[y]).length}:=by
 rw[ZZ,aaA,List.push_toArray]
def Fq  {pins : List (Addr × Obj)} {σ : St}  {s s4 : Shared}     {cl : List (Str × Addr)} {C : Addr} {fp : List Addr} {m' : Str -> Option Value}
    (I:Inv X pins σ H s) (T:d8 X x aZ cap scope cl) (hfp:∀b∈fp,kI X pins H b) (hfo:∀b∈fp,∃o,s.heap.get? b=some o)
    (hC:s.heap.objs.size<=C) (hns:s4.heap.Ns C m') (hos:s4.os=s.os) (hg:s4.gens=s.gens)
    (kept:∀b o,s.heap.get? b=some o->s4.heap.get? b=some o):
    Inv (bT X (x :: aZ) scope cl C s H fp) [] (none :: bQ cap σ) H s4:=by
  have fr:∀b,s.heap.objs.size<=b->H b=none:=fun b hb=>I.hok.fresh hb
  refine⟨⟨I.ok.mod,T.kind,I.ok.glob,I.ok.blt,hC,fun y z c h1 h2=>I.ok.inj y z c (T.cells _ _ h1) (T.cells _ _ h2),fun y hy=>T.has y hy,fun y c h=>(by cases h),I.ok.hd,I.ok.frames,.inl rfl,fun b hb=>⟨?_,fun y c e z=>?_⟩,I.bs,Z5 I.ok.Ir I.sz,fun b o e hb=>?_,fun b hb z=>?_,I.stack,I.wW⟩,
    hos,by rw[hg];exact I.bare,Un.kept kept,⟨m',hns,fun i y v h1 h2 h3=>?_⟩,fun y c h=>?_,fr C hC,fun y c h=>I.m8 y c (T.cells _ _ h),fun p hp=>?_,I.hok.kept kept,?_⟩
  . obtain⟨o,e⟩:=hfo b hb
    exact ZY (ZQ (ZP e) hC)
  . exact(hfp b hb).2.2.2.2.1 y c (T.cells _ _ e) z
  . rcases(hfp b hb).2.2.2.1 with z | z
    . exact I.ok.C6 b o e z
    . exact absurd (ZQ (ZP e) (Z5 I.ok.Ir z)) (aaz _)
  . rcases ZV.mp (I.qJ b z) with q | q
    . exact(hfp b hb).2.1 q
    . exact(hfp b hb).2.2.1 q
  . cases i with
    | zero=>cases h2
    | succ j=>
      have h1:aZ[j]? =some y:=by simpa[bT] using h1
      have h2:(bQ cap σ)[j]? =some (some v):=by simpa using h2
      obtain⟨i,e1,e2,e3⟩:=T.slot j y h1
      have e4:σ[i]? =some (some v):=by
        unfold bQ at h2
        rw[ZF,e1] at h2
        have h2:some ((σ[i]?).join)=some (some v):=h2
        have h2:=ZU h2
        cases q:σ[i]? with
        | none=>rw[q] at h2;cases h2
        | some o=>rw[q] at h2;cases h2;rfl
      obtain⟨m,hn,hl⟩:=I.loc
      obtain⟨u,r,l⟩:=hl i y v e2 e4 e3
      obtain⟨k1,⟨c,hc⟩,k3⟩:=T.vis y (ZO h1)
      refine⟨u,r,.inr ⟨k1,c,hc,?_⟩⟩
      rcases l with⟨hk,_⟩ | ⟨hk,c',hc',z⟩
      . exact absurd hk k3
      . rw[T.cells _ _ hc] at hc'
        cases hc'
        obtain⟨o,ho,hd⟩:=z
        exact⟨o,kept _ _ ho,hd⟩
  . obtain⟨v,o,ho,hd⟩:=I.cell y c (T.cells _ _ h)
    exact⟨v,o,kept _ _ ho,hd⟩
  . exact absurd (show p∈([]:AAD) from hp) (by simp)
  . show(none :: bQ cap σ).length=(x :: aZ).length
    simp[bQ,T.len]
def Ft {α:Type}{M:Model}{A:Around}{E E':AAB}{s:Shared}{t:Sem α}{Q:Unit->Shared->Prop}{Q':α->Shared->Prop}(h:wpAny M A (pure ():Sem Unit) Q E s) (k:Q () s->wpAny M A t Q' E' s):wpAny M A t Q' E' s:=
 fun Γ p hΓ=>k (h Γ p hΓ) Γ p hΓ
def ue {pins:AAD}{s:Shared}{σ:St}{Q:VK}{use:Option (Value->Sem Unit)}{Qf:AAB}{pos2:Pos}
    (T:d8 X x aZ cap scope cl) (hc:X.calm=true) (hi:PI X (.Name x px) iter wi)
    (ht:∀C s H fp,Fl (bT X (x :: aZ) scope cl C s H fp) ifs tc) (he:∀C s H fp,PE (bT X (x :: aZ) scope cl C s H fp) elt te)
    (hs:∀x,foldedSetIterable iter X.env x=pure x) (I:Inv X pins σ H s) (h:SQ wi cap tc te σ H Q)
    (hend:∀(D C:Addr) (s7:Shared) (H6:Hp) (ys:List V),Inv X pins σ (upd H6 D (.lst ys)) s7->(∃m,s7.heap.Ns C m)->kI X pins (upd H6 D (.lst ys)) C->Q (.ref D) (upd H6 D (.lst ys))->compPost (model X.prog X.w) X.A X.xe use Qf (.ref D) C (.ok .next) s7):
    wpAny (model X.prog X.w) X.A (comprehension (.ListComp elt [⟨.Name x px,iter,ifs,0⟩] scope pos) scope X.env pos2 (newList []) false (eval iter X.env) use) Qf X.xe s:=by
  refine wpAny_comprehension_free (use:=use) rfl hs T.clos T.kind T.names (dN (hi pins s σ H _ I h) fun v s1 h1=>dN h1 fun itv s2 h2=>?_)
  obtain⟨it,fp,tn,J,H2,rfl,I2,vm,st2,f2,W,⟨m0,w0⟩,turn⟩:=h2
  refine aaS (wpAny_newFunctionEnv T.jx (by intro y hy;simp at hy) (fun h4 xj uf=>?_) T.kind)
  dsimp only at xj uf ⊢
  generalize MI:s2.heap.push {cls:=.type "list",dict:=none,data:=.seq ([]:AAI).toArray}=H3 at xj uf ⊢
  have eC:H3.objs.size=s2.heap.objs.size+1:=by rw[<-MI,aaD]
  generalize X4:H3.objs.size=C at eC xj uf ⊢
  generalize eD:s2.heap.objs.size=D at eC ⊢
  have Fv:C=D+1:=eC
  have hDC:D≠C:=by rw[Fv];exact ZY (abZ D)
  have hC:s2.heap.objs.size<=C:=by rw[eD,Fv];exact abE D
  have hD:s2.heap.objs.size<=D:=by rw[eD];exact ZM D
  have kept:∀b o,s2.heap.get? b=some o->h4.get? b=some o:=fun b o e=>uf.extBut b o (ZY (ZQ (ZP e) hC)) (Zx _ (MI▸Zx _ e))
  have hacc:h4.get? D=some {cls:=.type "list",data:=.seq ([]:AAI).toArray ([]:AAI).length}:=uf.extBut _ _ hDC (Zx _ (MI▸eD▸ZT _ rfl))
  have Ql:∀b∈fp,∃o,s2.heap.get? b=some o:=fun b hb=>let⟨o,e,_⟩:=vm.obj _ _ st2 b hb;⟨o,e⟩
  have hDf:D∉fp:=fun hb=>by
    obtain⟨o,e⟩:=Ql D hb
    exact absurd (ZQ (ZP e) hD) (aaz _)
  have Qm:tn 0 h4:=vm.keep _ _ _ st2 fun b _ o e=>kept b o e
  have key : ∀ s5 : Shared, s5 = { s2 with heap := h4, toks := s2.toks + ([] : List (Str × Value)).length } ->
      codeAny (model X.prog X.w) X.A (.compLoop (.ListComp elt [⟨.Name x px,iter,ifs,0⟩] scope pos) 0 (.ref it) (.ref D) (compEnvC scope cl C X.env)) (compPost (model X.prog X.w) X.A X.xe use Qf (.ref D) C) s5:=by
    rintro s5 rfl
    have I4:Inv (bT X (x :: aZ) scope cl C s2 H2 fp) [] (none :: bQ cap σ) H2 {s2 with heap:=h4,toks:=s2.toks+([]:List (Str×Value)).length}:=
      Fq (s4:={s2 with heap:=h4,toks:=s2.toks+([]:List (Str×Value)).length}) I2 T f2 Ql hC xj rfl rfl kept
    generalize hY:bT X (x :: aZ) scope cl C s2 H2 fp=Y at I4
    have fD:∀{H':Hp},H' D=none->kI Y [] H' D:=fun {H'} hn=>by
      subst hY
      refine⟨hn,hDC,fun z=>(ZV.mp (I2.qJ D z)).elim (fun q=>absurd (ZQ (q▸I2.lt) hD) (aaz _)) fun q=>I2.L4 hD q,.inr hD,fun y c e z=>?_,fun p hp=>absurd (show p∈([]:AAD) from hp) (by simp)⟩
      obtain⟨v,q⟩:=I2.cell y c (T.cells _ _ e)
      exact absurd (ZQ q.lt (by rw[z];exact hD)) (aaz _)
    have fF:∀{H':Hp},(∀b∈fp,H' b=none)->∀b∈fp,kI Y [] H' b:=fun {H'} hn b hb=>by
      have q:=I4.ok.Sz b (by subst hY;exact hb)
      exact⟨hn b hb,fun z=>q.1 z,I4.ok.C7 b (by subst hY;exact hb),.inl (by subst hY;exact hb),fun y c e z=>q.2 y c e z,fun p hp=>absurd (show p∈([]:AAD) from(by subst hY;exact hp)) (by simp)⟩
    have eA:Y.A=X.A:=by subst hY;rfl
    have eP:Y.prog=X.prog:=by subst hY;rfl
    have eW:Y.w=X.w:=by subst hY;rfl
    have eK:Y.K=X.K:=by subst hY;rfl
    have eE:Y.env=compEnvC scope cl C X.env:=by subst hY;rfl
    have eX:Y.xe=fun _ _=>False:=by subst hY;rfl
    have eN:Y.N=x :: aZ:=by subst hY;rfl
    have Lu:Y.calm=true:=by subst hY;exact hc
    have UA:Fl Y ifs tc:=by subst hY;exact ht _ _ _ _
    have UB:PE Y elt te:=by subst hY;exact he _ _ _ _
    have UC:PG Y (.Name x px) (pS 0):=sZ (by rw[eN];exact T.nd) (by rw[eN];rfl) (by rw[eE];exact .inl (abh T.loc)) (.inr (by rw[eE];exact abh T.loc))
    have o8:∀(E':AAB) (e:Value) (s':Shared),Y.xe e s'->E' e s':=fun E' e s' z=>by rw[eX] at z;exact z.elim
    refine codeAny_compLoop_tests (fun n s'=>∃i ys us H' o,Inv Y [] (o :: bQ cap σ) H' s'/\tn i s'.heap/\(∀b∈fp,H' b=none)/\H' D=none/\s'.heap.get? D=some {cls:=.type "list",data:=.seq us.toArray us.length}/\Vals ys us/\W i n ys H') ?_ m0
      ⟨0,[],[],H2,none,I4,Qm,fun b hb=>(f2 b hb).1,I2.hok.fresh hD,hacc,.nil,w0⟩
    rintro n s6 ⟨i,ys,us,H6,o6,I6,MJ,MK,d6,a6,v6,w6⟩
    have UD:us.length=ys.length:=v6.length.symm
    obtain⟨hz,Fw⟩:=turn i n ys H6 w6
    rcases Fw with⟨stop,qn⟩ | ⟨go,step⟩
    . have q := vm.done Y eP eW eK Lu i [] s6 (o6 :: bQ cap σ) H6 (notedBy (model X.prog X.w) X.A (compEnvC scope cl C X.env) fun e s' => compPost (model X.prog X.w) X.A X.xe use Qf (.ref D) C (.error e) s') I6 (fF MK) MJ stop
      rw[eA] at q
      have ML:=I6.pinned (fp:=[D]) (fun b hb=>by rw[ZG.mp hb];exact fD d6) (fun b hb=>by rw[ZG.mp hb];exact⟨_,a6,fun v z=>by cases z⟩)
      have q:=vm.done Y eP eW eK Lu i _ s6 (o6 :: bQ cap σ) H6 (notedBy (model X.prog X.w) X.A (compEnvC scope cl C X.env) fun e s'=>compPost (model X.prog X.w) X.A X.xe use Qf (.ref D) C (.error e) s') ML (fun b hb=>?_) MJ stop
      . rw [eA] at q
        refine dN q fun r s7 ⟨hr,I7⟩=>?_
        subst hr
        have a7:s7.heap.get? D=_:=(I7.pin (D,{cls:=.type "list",data:=.seq us.toArray us.length}) (ZR _ (ZR _ (cN (ZG.mpr rfl) a6)))).1
        obtain⟨m7,Dp,_⟩:=I7.loc
        rw[eE] at Dp
        have Fx:H6 D=none:=d6
        have UE:H6 C=none:=by have:=I7.free;rw[eE] at this;exact this
        have MM:mZ X.prog X.w H6 s7.heap:=by have q:=I7.hok;rw[eP,eW] at q;exact q
        have new:c7 X.prog X.w (upd H6 D (.lst ys)) s7.heap D (.lst ys):=⟨abd hz,us,us.length,v6,a7⟩
        have u7:Un (frs X.stack) fp H2 H6 s2.heap s7.heap:=by have:=I7.base;subst hY;exact this
        have UG:∀b o,s2.heap.get? b=some o->b≠D:=fun b o e=>ZY (ZQ (ZP e) hD)
        have u8:Un (frs X.stack) fp H2 (upd H6 D (.lst ys)) s2.heap s7.heap:=
          ⟨u7.keep,u7.slot,fun b o e n hx=>by rw[az (UG b o e)];exact u7.free b o e n hx,u7.there,
           fun b xs e=>by have z:=u7.tups b xs e;rw[az (aT z Fx)];exact z,fun b o u e=>by have z:=u7.tU b o u e;rw[az (aT z Fx)];exact z,
           fun b ps e=>by obtain⟨more,z⟩:=u7.vg b ps e;exact⟨more,by rw[az (aT z Fx)];exact z⟩⟩
        have UH:s7.os=s2.os:=by have:=I7.os;subst hY;exact this
        have I9:Inv X pins σ (upd H6 D (.lst ys)) s7:=I2.Li (ch:=fp) UH u8 (MM.Ls Fx new) I7.bare fun b hb=>⟨(f2 b hb).2.2.2.1,(f2 b hb).2.1,(f2 b hb).2.2.2.2.1,(f2 b hb).2.2.2.2.2⟩
        exact hend D C s7 H6 ys I9 ⟨m7,Dp⟩ (I2.wY hC (by rw[az (aaN hDC)];exact UE)) (qn D Fx)
      . obtain⟨f0,f1,MN,f3,f4,f5⟩:=fF MK b hb
        refine⟨f0,f1,MN,f3,f4,fun p hp z=>?_⟩
        rcases Z2.mp hp with q' | q'
        . exact f5 p (aac _ q') z
        . rcases Z2.mp q' with q' | q'
          . exact absurd q' (by simp)
          . have:=(lz q').1
            rw[ZG.mp this] at z
            exact hDf (z▸hb)
    . have ML:=I6.pinned (fp:=[D]) (fun b hb=>by rw[ZG.mp hb];exact fD d6) (fun b hb=>by rw[ZG.mp hb];exact⟨_,a6,fun v z=>by cases z⟩)
      have Qn:∀{H':Hp},(∀b∈fp,H' b=none)->∀b∈fp,kI Y ([]++kW [D] s6.heap) H' b:=fun {H'} hn b hb=>by
        obtain⟨f0,f1,MN,f3,f4,f5⟩:=fF hn b hb
        refine⟨f0,f1,MN,f3,f4,fun p hp z=>?_⟩
        rcases Z2.mp hp with q' | q'
        . exact f5 p (aac _ q') z
        . rcases Z2.mp q' with q' | q'
          . exact absurd q' (by simp)
          . have:=(lz q').1
            rw[ZG.mp this] at z
            exact hDf (z▸hb)
      have q:=vm.item Y eP eW eK Lu i _ s6 (o6 :: bQ cap σ) H6 (notedBy (model X.prog X.w) X.A (compEnvC scope cl C X.env) fun e s'=>compPost (model X.prog X.w) X.A X.xe use Qf (.ref D) C (.error e) s') ML (Qn MK) MJ go
      rw[eA] at q
      refine dN q fun r s7 ⟨u,hr,h7⟩=>?_
      subst hr
      refine Ft h7 fun⟨xv,H8,I8,r8,y8,MP,UI⟩=>?_
      have UJ:=I8.pinned (Qn UI) (vm.obj _ _ MP)
      have qa:=UC _ s7 (o6 :: bQ cap σ) H8 xv u _ UJ r8 (show pS 0 xv (o6 :: bQ cap σ) H8 (fun σ' H'=>σ'=some xv :: bQ cap σ/\H'=H8) from⟨rfl,rfl⟩)
      rw[eP,eW,eA,eE] at qa
      refine aas qa (fun _ s9 h9=>?_) (o8 _)
      obtain⟨X5,H9,I9,e9,UK⟩:=h9
      subst e9 UK
      have qt:=UA _ s9 _ _ _ I9 (step xv _ y8)
      rw[eP,eW,eA,eE] at qt
      refine aas qt (fun ok UL h10=>?_) (o8 _)
      obtain⟨UM,Qo,Jd⟩:=h10
      have back:∀{s':Shared}{H':Hp},Inv Y (([]++kW [D] s6.heap)++kW fp s7.heap) (some xv :: bQ cap σ) H' s'->Inv Y [] (some xv :: bQ cap σ) H' s'/\tn (i+1) s'.heap/\(∀b∈fp,H' b=none)/\H' D=none/\s'.heap.get? D=some {cls:=.type "list",data:=.seq us.toArray us.length}:=fun {s' H'} J=>by
        refine⟨J.jT.jT,vm.keep _ _ _ MP fun b hb o e=>(J.pin (b,o) (ZR _ (ZR _ (cN hb e)))).1,fun b hb=>?_,?_,?_⟩
        . obtain⟨o,e,d⟩:=vm.obj _ _ MP b hb
          exact(J.pin (b,o) (ZR _ (ZR _ (cN hb e)))).2.1
        . exact(J.pin (D,_) (ZR _ (aac _ (ZR _ (cN (ZG.mpr rfl) a6))))).2.1
        . exact(J.pin (D,_) (ZR _ (aac _ (ZR _ (cN (ZG.mpr rfl) a6))))).1
      cases ok with
      | false=>
        rw[if_neg (by decide)] at Jd ⊢
        obtain⟨m',hm,UN⟩:=Jd
        obtain⟨b1,b2,b3,b4,b5⟩:=back Qo
        exact⟨m',hm,i+1,ys,us,UM,some xv,b1,b2,b3,b4,b5,v6,UN⟩
      | true=>
        rw[if_pos rfl] at Jd ⊢
        have qe:=UB _ UL _ _ _ Qo Jd
        rw[eP,eW,eA,eE] at qe
        refine aas qe (fun y MQ h11=>?_) (o8 _)
        obtain⟨yv,Qp,UO,UP,m',hm,UQ⟩:=h11
        obtain⟨b1,b2,b3,b4,b5⟩:=back UO
        refine append_at (hsz:=by rw[ZL,UD];exact abd hz) b5 fun h12 MR MS=>?_
        have Qq:∀b o,b≠D->MQ.heap.get? b=some o->h12.get? b=some o:=fun b o hb e=>MR.extBut b o hb e
        obtain⟨g0,g1,g2,g3,g4,g5⟩:=fD b4
        have UR:Inv Y [] (some xv :: bQ cap σ) Qp {MQ with heap:=h12}:=b1.turned (t':=MQ.toks) Qq g0 g1 g3 g4 g5
        refine⟨m',hm,i+1,ys++[yv],us++[y],Qp,some xv,UR,vm.keep _ _ _ b2 fun b hb o e=>Qq b o (fun z=>hDf (z▸hb)) e,b3,b4,MS.trans (congrArg some (Fp us y)),v6.append (.cons UP .nil),UQ⟩
  exact codeAny_compStart_list (key _ rfl) (vm.self _ 0 _ _ _ Qm (key _ rfl))
def Fy 
  (T:d8 X x aZ cap scope cl) (hc:X.calm=true) (hi:PI X (.Name x px) iter wi)
  (ht:∀C s H fp,Fl (bT X (x :: aZ) scope cl C s H fp) ifs tc) (he:∀C s H fp,PE (bT X (x :: aZ) scope cl C s H fp) elt te)
  (hs:∀x,foldedSetIterable iter X.env x=pure x:=by intro _;rfl):
  PE X (.ListComp elt [⟨.Name x px,iter,ifs,0⟩] scope pos) (SQ wi cap tc te):=by
 intro pins s σ H Q I h
 rw[eval_ListComp]
 refine ue T hc hi ht he hs I h ?_
 rintro p C s7 H6 ys I9 ⟨m7,Dp⟩ ⟨g0,g1,g2,g3,g4,g5⟩ q
 exact⟨m7,Dp,fun h' hs'=>⟨.ref p,_,I9.turned (t':=s7.toks) (fun b o hb e=>hs'.extBut b o hb e) g0 g1 g3 g4 g5,rfl,q⟩⟩
def yZ {i:Nat}{y:Str}{py spos:Pos}
  (T:d8 X x aZ cap scope cl) (hc:X.calm=true) (hi:PI X (.Name x px) iter wi)
  (ht:∀C s H fp,Fl (bT X (x :: aZ) scope cl C s H fp) ifs tc) (he:∀C s H fp,PE (bT X (x :: aZ) scope cl C s H fp) elt te)
  (hs:∀x,foldedSetIterable iter X.env x=pure x) (hN:X.N.Nodup) (hy:X.N[i]? =some y) (hx:Loc X.env.scope y)
  (hsw:swapsWith (.ListComp elt [⟨.Name x px,iter,ifs,0⟩] scope pos) (some (.Name y py)) spos.line X.env=pure true) (hf:X.fn y=true\/X.env.scope.names.lookup y=some .local):
  PS X (.Assign [.Name y py] (.ListComp elt [⟨.Name x px,iter,ifs,0⟩] scope pos) spos) (EU (SQ wi cap tc te) (pS i)):=by
 intro pins s σ H D I h
 rw[exec_Assign_Name_used _ _ _ _ hsw]
 refine Zv (acY (Zv ?_))
 show wpAny _ X.A (do let _ <-comprehension (.ListComp elt [⟨.Name x px,iter,ifs,0⟩] scope pos) scope X.env _ (newList []) false (eval iter X.env) (some (assign (.Name y py) X.env))) _ _ s
 refine Zv (aas (ue (Qf:=fun _ s'=>SP X pins D .next s') T hc hi ht he hs I h ?_) (fun _ s' hq=>wpAny_pure (wpAny_pure hq)) fun _ _ e=>e)
 rintro p C s7 H6 ys I9 ⟨m7,Dp⟩ ⟨g0,g1,g2,g3,g4,g5⟩ q
 refine ac3 (qK I9 hN hy hx (v:=.ref p) (show RelV (.ref p) (.ref p) from rfl) (fun s8 I8 ⟨a,hsb,ha⟩=>?_) hf)
 have hne:C≠a:=ha.elim (fun z=>by rw[z];exact g1) fun z=>aaN (g4 _ _ z)
 refine⟨m7,Dp.sameBut hsb hne,fun h' hs'=>?_⟩
 exact⟨_,_,I8.turned (t':=s8.toks) (fun b o hb e=>hs'.extBut b o hb e) g0 g1 g3 g4 g5,q⟩
noncomputable def US (z:Str):It:=⟨fun i _=>i < z.cps.size,fun i H x H'=>H'=H/\∃c,z.cps[i]? =some c/\x= .str ⟨#[c]⟩,fun i _=>z.cps.size<=i⟩
def Fz (z:Str) (it:Addr) (t:Tok) (ty:String) (hW:∀A':Around,A'.handled=none->Walks P w A' it [it] [it] z.cps.size (SignAt z) fun i h=>h.IsStrIter it ty z t i)
  (hself:∀(A:Around) (i:Nat) (s:Shared) (Q:AAB) (E:AAB),s.heap.IsStrIter it ty z t i->Q (.ref it) s->wpAny (model P w) A (pyIter (.ref it)) Q E s):
  Turn P w K (.Name x px) (US z) [it] it (fun i h=>i<=z.cps.size/\h.IsStrIter it ty z t i) where
 mem:=by simp
 obj:=fun i h st b hb=>by
  obtain rfl:b=it:=by simpa using hb
  obtain⟨o,e,c,d⟩:=st.2
  exact⟨o,e,fun v q=>by rw[d] at q;cases q⟩
 keep:=fun i h h' st k=>by
  obtain⟨o,e,r⟩:=st.2
  exact⟨st.1,o,k it (by simp) o e,r⟩
 item:=by
  intro X hP hw hK hc i pins s σ H E I hf st hg
  subst hP hw hK
  obtain⟨f0,f1,f2,f3,f4,f5⟩:=hf it (by simp)
  refine(hW X.A (I.ok.hd hc)).item i s _ _ hg st.2 fun v h' tk hv st' kk=>?_
  obtain⟨c,u,hc',rfl⟩:=hv
  exact⟨_,rfl,wpAny_pure ⟨.str ⟨#[c]⟩,H,I.turned (fun b o hb e=>kk b o (by simpa using hb) e) f0 f1 f3 f4 f5,⟨u,rfl⟩,⟨rfl,c,hc',rfl⟩,⟨hg,st'⟩,fun b hb=>(hf b hb).1⟩⟩
 done:=by
  intro X hP hw hK hc i pins s σ H E I hf st hg
  subst hP hw hK
  obtain⟨f0,f1,f2,f3,f4,f5⟩:=hf it (by simp)
  obtain⟨s1,s2⟩:=st
  have e:i=z.cps.size:=Nat.le_antisymm s1 hg
  subst e
  exact(hW X.A (I.ok.hd hc)).done s _ _ s2 fun h' tk kk=>⟨rfl,I.turned (fun b o hb e=>kk b o (by simpa using hb) e) f0 f1 f3 f4 f5⟩
 self:=fun A i s Q E st h=>hself A i s Q E st.2 h
def UT (tl:TE):TI:=fun σ H R=>tl σ H fun x H1=>∃z,x= .str z/\R (US z) H1
def MT {l:Expr}{tl:TE}(hl:PE X l tl):PI X (.Name x px) l (UT tl):=by
 intro pins s σ H R I h
 refine dN (hl pins s σ H _ I h) fun v s1 ⟨y,H1,I1,r1,q1⟩=>?_
 obtain⟨z,rfl,q⟩:=q1
 obtain⟨t,rfl⟩:=r1
 refine wpAny_pyIter_strU ?_
 have hst:∀ty,strIterType z=ty->(s1.heap.push {cls:=.type (strIterType z),data:=.fields #[.str z t,.int 0 0]}).IsStrIter s1.heap.objs.size ty z t 0:=fun ty e=>⟨_,ZT _ rfl,by rw[<-e],rfl⟩
 have go:∀ty,strIterType z=ty->(∀A':Around,A'.handled=none->Walks X.prog X.w A' s1.heap.objs.size [s1.heap.objs.size] [s1.heap.objs.size] z.cps.size (SignAt z) fun i h=>h.IsStrIter s1.heap.objs.size ty z t i)->
   (∀(A:Around) (i:Nat) (s:Shared) (Q:AAB) (E:AAB),s.heap.IsStrIter s1.heap.objs.size ty z t i->Q (.ref s1.heap.objs.size) s->wpAny (model X.prog X.w) A (pyIter (.ref s1.heap.objs.size)) Q E s)->
   Uk X pins σ (.Name x px) R (.ref s1.heap.objs.size) {s1 with heap:=s1.heap.push {cls:=.type (strIterType z),data:=.fields #[.str z t,.int 0 0]}}:=fun ty e hW hself=>by
  refine⟨s1.heap.objs.size,[s1.heap.objs.size],_,_,H1,rfl,I1.kept (t':=s1.toks) fun b o e=>Zx _ e,Fz z _ t ty hW hself,⟨Z3 _,hst ty e⟩,fun b hb=>?_,q⟩
  obtain rfl:b=s1.heap.objs.size:=by simpa using hb
  exact I1.wY (ZM _) (I1.hok.fresh (ZM _))
 cases ha:z.cps.all (· < 128)
 ·exact go "str_iterator" (by simp[strIterType,ha]) (fun A' hA=>Walks.strWide hA _ z t) fun A i s Q E st h=>wpAny_pyIter_striter_wide st h
 ·exact go "str_ascii_iterator" (by simp[strIterType,ha]) (fun A' hA=>Walks.strAscii hA _ z t) fun A i s Q E st h=>wpAny_pyIter_striter_ascii st h
def FA {bs:List Bool}:∀{us:AAI},Vals (bs.map V.bl) us->us=bs.map Value.bool:=by
 induction bs with
 | nil=>intro us r;cases r;rfl
 | cons b bs ih=>
  intro us r
  cases r with
  | cons r1 r2=>
   cases r1
   rw[ih r2]
   rfl
def AS (bs:List Bool):((List.range bs.length).any fun i=>(bs[i]?).getD false)=bs.any id:=by
 rw[Bool.eq_iff_iff,List.any_eq_true,List.any_eq_true]
 constructor
 ·rintro⟨i,hi,h⟩
  have hi:=ZS.mp hi
  simp only[Zz hi,ab0] at h
  exact⟨_,abp hi,h⟩
 ·rintro⟨b,hb,h⟩
  obtain⟨i,hi,rfl⟩:=List.mem_iff_getElem.mp hb
  exact⟨i,ZS.mpr hi,by simpa[hi] using h⟩
def Dq (hc:X.calm=true):gI X (.builtin "any") (fun xs H Q=>∃(p:Addr) (bs:List Bool),xs=[.ref p]/\m5 X.K H p (bs.map V.bl)/\Q (.bl (bs.any id)) H):=by
 intro pins s σ H xs us Q I r h
 obtain⟨p,bs,rfl,hp,q⟩:=h
 obtain⟨u,rfl,ru⟩:=vals1 r
 cases ru
 obtain⟨its,rv,pl,hz⟩:=I.list hp
 obtain rfl:=FA rv
 have hlt:p < s.heap.objs.size:=by obtain⟨_,e,_⟩:=pl.isList;exact ZP e
 refine call_any_walk (acq pl.isList ?_)
 refine⟨s.heap.objs.size,[s.heap.objs.size,p],[s.heap.objs.size],_,_,_,fun i=>(bs[i]?).getD false,rfl,Walks.list (A:=X.A.in1) (I.ok.hd hc) _ p (ZY hlt) _,
  ⟨⟨_,ZT _ rfl,rfl,rfl⟩,pl.isList.push _⟩,fun i v s' Q' E' hP hQ=>?_,fun h' tk hk=>?_⟩
 ·have hP:(bs.map Value.bool)[i]? =some v:=by simpa using hP
  rw[ZF] at hP
  cases e:bs[i]? with
  | none=>rw[e] at hP;cases hP
  | some b=>
   rw[e] at hP
   cases hP
   simp only[e,ab0] at hQ
   exact abP hQ
 ·have e:((List.range (bs.map Value.bool).toArray.size).any fun i=>(bs[i]?).getD false)=bs.any id:=by
   rw[ZL,Zw];exact AS bs
  rw[e]
  exact⟨.bl (bs.any id),H,I.kept (t':=tk) fun b o e=>hk b o (fun hm=>by rw[ZG.mp hm] at e;exact aaz _ (ZP e)) (Zx _ e),rfl,q⟩
theorem aX.length {H:Hp}:∀{vs:List V}{ds:List D},aX H vs ds->vs.length=ds.length
 | _,_,.nil=>rfl
 | _,_,.cons _ rs=>congrArg Nat.succ (aX.length rs)
theorem aX.get {H:Hp}:∀{vs:List V}{ds:List D}{i:Nat}{d:D},aX H vs ds->ds[i]? =some d->∃v,vs[i]? =some v/\Rep H v d
 | _,_,_,_,.nil,e=>by simp at e
 | _,_,0,_,.cons r _,e=>by simp at e;subst e;exact⟨_,rfl,r⟩
 | _,_,i+1,_,.cons _ rs,e=>by
  obtain⟨v,h1,h2⟩:=aX.get (i:=i) rs (by simpa using e)
  exact⟨v,by simpa using h1,h2⟩
theorem aX.append {H:Hp}:∀{vs ws:List V}{ds es:List D},aX H vs ds->aX H ws es->aX H (vs++ws) (ds++es)
 | _,_,_,_,.nil,s=>s
 | _,_,_,_,.cons r rs,s=>.cons r (aX.append rs s)
theorem aX.take {H:Hp}:∀{vs:List V}{ds:List D}(n:Nat),aX H vs ds->aX H (vs.take n) (ds.take n)
 | _,_,0,_=>.nil
 | _,_,_+1,.nil=>.nil
 | _,_,n+1,.cons r rs=>.cons r (aX.take n rs)
theorem aX.drop {H:Hp}:∀{vs:List V}{ds:List D}(n:Nat),aX H vs ds->aX H (vs.drop n) (ds.drop n)
 | _,_,0,rs=>rs
 | _,_,_+1,.nil=>.nil
 | _,_,n+1,.cons _ rs=>aX.drop n rs
end L2
end
section
namespace HT
open PySem PySem.Spec PyProof.Rows
section
variable {prog:Program}{w:World}{A:Around}{E:AAB}{s:Shared}
end
end HT
end
section
namespace L2
open PySem PySem.Spec PyProof.Rows
variable {H F1 H1 F' H' H0 F0:Hp}{ds es:List D}{scope:Scope}{X:Cx}{x:Str}{K:AAA}{a p ca cb ad:Addr}{ns:List Int}{κ α β:Type}{i n:Nat}{o:HO}{B:Base}{S S' S0:SS}{σ:St}{u:U}{Q E:AAB}{op:Operator}{k:Bool}{q1 q:GT}{r FP ifs:List Expr}{y:V}{xs vs:List V}{pos' px pos:Pos}{tg iter elt:Expr}{bd:GB}{gd g:GD}{gi:GI}{us ws:List U}{cap:List Nat}{cl:List (Str×Addr)}{aZ:List Str}{A:Around}{fK bJ:AAI}{kvs:List (Key×V)}{prog:Program}{w:World}{h':Heap}{its vals:AAH}{fp:List Addr}
section
variable {X:Cx}
def Rep.iO {v:V}(r:Rep H v (.tup ds)):∃a vs,v= .ref a/\H a=some (.tup vs)/\aX H vs ds:=by
 cases r with
 | tup e rs=>exact⟨_,_,rfl,e,rs⟩
def aX.dF {H:Hp}{vs:List V}{ds:List D}{i:Int}{d:D}(r:aX H vs ds) (h:L2.dF ds i=some d):∃v,L2.dF vs i=some v/\Rep H v d:=by
 have hl:=r.length
 unfold L2.dF at h ⊢
 rw[hl]
 cases e:yC ds.length i with
 | none=>rw[e] at h;cases h
 | some j=>
  rw[e] at h
  exact r.get h
end
def zb {env:Env}{n:Str}{k:NameKind}(h:(relabel scope env).names.lookup n=some k):(n,k)∈(relabel scope env).names:=aaH h
def AU (h1:∀y∈scope.names,y.2≠.free) (h2:∀y∈scope.names,y.2≠.cell) (h3:scope.kind= .function) (h4:∀y∈scope.names,y.2= .local->scope.names.lookup y.1=some .local) (h5:scope.names.lookup x=some .local):
  d8 X x [] [] scope []:=by
 refine⟨closureFor_none h1,h2,h3,h4,h5,fun n c h=>(by cases h),fun n h=>?_,by simp,rfl,fun j n h=>(by simp at h),fun n h=>(by simp at h)⟩
 have no:∀k,(k=NameKind.cell\/k=NameKind.free)->(relabel scope X.env).names.lookup n≠some k:=fun k hk e=>by
  have m:=zb e
  unfold relabel at m
  obtain⟨⟨n',k'⟩,hm,q⟩:=Z6.mp m
  have z:(k' == NameKind.free)=false:=by simpa using h1 _ hm
  simp only[z,acR,abW] at q
  have q2:k'=k:=by
   have:=congrArg Prod.snd q
   simpa using this
  rcases hk with rfl | rfl
  ·exact h2 _ hm q2
  ·exact h1 _ hm q2
 rcases h with h | h
 ·exact absurd h (no _ (.inl rfl))
 ·exact absurd h (no _ (.inr rfl))
mutual
def X6 (n:Nat):D->Prop
 | .str z=>z.length<=n
 | .tup ds=>ds.length<=n/\Fits n ds
 | .lst ds=>ds.length<=n/\Fits n ds
 | .bV=>True
 | .bl _=>True
 | .int _=>True
def Fits (n:Nat):List D->Prop
 | []=>True
 | d :: ds=>X6 n d/\Fits n ds
end
theorem Fits.take {n:Nat}:∀{ds:List D}(k:Nat),Fits n ds->Fits n (ds.take k)
 | _,0,_=>True.intro
 | [],_+1,_=>True.intro
 | _ :: _,k+1,h=>⟨h.1,Fits.take k h.2⟩
theorem Fits.drop {n:Nat}:∀{ds:List D}(k:Nat),Fits n ds->Fits n (ds.drop k)
 | _,0,h=>h
 | [],_+1,_=>True.intro
 | _ :: _,k+1,h=>Fits.drop k h.2
noncomputable def W2:Str:="abcdefghijklmnopqrstuvwxyz"
noncomputable def sign (c:Nat):Bool:=!(Builtin.Str.occurrences W2 ⟨#[c]⟩ 0 W2.length 1).isEmpty
theorem lookup_some {α : Type} : ∀ {l : List (Str × α)} {n : Str}, n ∈ l.map (·.1) -> ∃ c, l.lookup n = some c
  | [],_,h=>by simp at h
  | (m, c) :: l, n, h => by
    rw[adf]
    cases e:n == m with
    | true=>exact⟨c,rfl⟩
    | false=>
      rcases ZV.mp h with h | h
      . have h:n=m:=h
        rw[h,adg] at e
        cases e
      . exact lookup_some h
mutual
noncomputable def toPy:D->PyData
 | .bV=>.none
 | .bl b=>.bool b
 | .int i=>.int i
 | .str z=>.str z
 | .tup ds=>.tuple (gJ ds)
 | .lst ds=>.list (gJ ds)
noncomputable def gJ:List D->List PyData
 | []=>[]
 | d :: ds=>toPy d :: gJ ds
end
section
variable {X:Cx}{pins:AAD}{σ:St}{H:Hp}{s:Shared}
end
mutual
theorem rW:∀d:D,(toPy d).hasDict=false
 | .bV=>rfl
 | .bl _=>rfl
 | .int _=>rfl
 | .str _=>rfl
 | .tup ds=>lR ds
 | .lst ds=>lR ds
theorem lR:∀ds:List D,PyData.hasDictAll (gJ ds)=false
 | []=>rfl
 | d :: ds=>by
  show((toPy d).hasDict || PyData.hasDictAll (gJ ds))=false
  rw[rW d,lR ds]
  rfl
end
inductive MO where
 | lst (ds:List D)
 | dct (kvs:List (Key×D))
 | oH (kvs:List (D×D))
 | ins (C:Addr) (kvs:List (Str×D))
inductive U where
 | t (d:D) | m (o:MO) | b (o:MO) | v (i:Nat) | s (ns:List Int) | f (a:Addr)
abbrev ZA (d:D):Option U:=some (.t d)
abbrev ZC (d:List D):Option U:=some (.m (.lst d))
abbrev ZD (i:Int):Option U:=some (.t (.int i))
abbrev SS:=List (Option U)
def Sub (F H:Hp):Prop:=∀a o,F a=some o->H a=some o
def jg {κ:Type}(F:Hp) (p:κ×V) (q:κ×D):Prop:=p.1=q.1/\Rep F p.2 q.2
def At (F H:Hp) (a:Addr):MO->Prop
 | .lst ds=>∃vs,H a=some (.lst vs)/\aX F vs ds
 | .dct kvs=>∃ws,H a=some (.dK ws)/\Paired (jg F) ws kvs
 | .oH kvs=>∃ws,H a=some (.dT ws)/\Paired (jg F) ws kvs
 | .ins C kvs=>∃ws,(∃dx,H a=some (.ins C dx ws))/\Paired (jg F) ws kvs
noncomputable def fT:U->Bool
 | .m _=>true
 | .b _=>true
 | _=>false
def cA (S:SS) (σ:St) (a:Addr):Prop:=∃(i:Nat) (u:U),S[i]? =some (some u)/\fT u=true/\σ[i]? =some (some (.ref a))
def Je (K:AAA) (H:Hp) (a:Addr) (ns:List Int):Prop:=
 (∃o,H a=some (.jw o (.lst (ns.map V.int))))\/∃(o:Obj) (its:AAH) (n:Nat),K.lookup a=some o/\o.cls= .type "list"/\o.dict=none/\o.data= .seq its n/\its.size<=sizeLine/\Vals (ns.map V.int) its.toList
theorem Je.sq :Je K H a ns->m5 K H a (ns.map V.int)
 | .inl h=>.inl (.inr h)
 | .inr h=>.inr h
def ug (K:AAA) (F H:Hp) (v:V):U->Prop
 | .t d=>Rep F v d
 | .m o=>∃a,v= .ref a/\F a=none/\At F H a o
 | .b o=>∃a,v= .ref a/\F a=none/\At F H a o
 | .v _=>False
 | .s ns=>∃a,v= .ref a/\Je K H a ns
 | .f a=>v= .ref a
structure Ext (M:Addr->Prop) (F H F' H':Hp):Prop where
 le:∀b o,F b=some o->F' b=some o
 keep:∀b o,H b=some o->¬M b->H' b=some o
 iw:∀b o,H b=some o->¬M b->F b=none->F' b=none
 there:∀b o,H b=some o->∃o',H' b=some o'
 jw:∀b o u,H b=some (.jw o u)->H' b=some (.jw o u)
structure Base where
 P:List (Option Addr)
 F:Hp
 H:Hp
def Base.M (B:Base) (a:Addr):Prop:=some a∈B.P
structure Rel (K:AAA) (B:Base) (S:SS) (σ:St) (F H:Hp):Prop where
 sub:Sub F H
 len:S.length=σ.length
 rep:∀(i:Nat) u,S[i]? =some (some u)->∃v,σ[i]? =some (some v)/\ug K F H v u
 zd:∀(i j:Nat) u w a,S[i]? =some (some u)->fT u=true->S[j]? =some (some w)->fT w=true->σ[i]? =some (some (.ref a))->σ[j]? =some (some (.ref a))->i=j
 own:∀(i:Nat) o a,S[i]? =some (some (.m o))->σ[i]? =some (some (.ref a))->B.H a=none
 bor:∀(i:Nat) o a,S[i]? =some (some (.b o))->σ[i]? =some (some (.ref a))->B.M a
 par:∀(i:Nat) a,B.P[i]? =some (some a)->σ[i]? =some (some (.ref a))/\∃o,S[i]? =some (some (.b o))
 ext:Ext B.M B.F B.H F H
structure Step (S S':SS) (σ:St) (F H F' H':Hp):Prop where
 ext:Ext (cA S σ) F H F' H'
 mu:∀a,cA S' σ a->cA S σ a
 slots:∀(i:Nat) u,S[i]? =some (some u)->∃u',S'[i]? =some (some u')
def Ext.refl (M:Addr->Prop) (F H:Hp):Ext M F H F H:=⟨fun _ _ h=>h,fun _ _ h _=>h,fun _ _ _ _ h=>h,fun _ o h=>⟨o,h⟩,fun _ _ _ h=>h⟩
def Ext.trans {M M':Addr->Prop}{F F2 H2:Hp}(x:Ext M F H F1 H1) (y:Ext M' F1 H1 F2 H2) (s:∀b,M' b->M b\/H b=none):Ext M F H F2 H2 where
 le:=fun b o h=>y.le b o (x.le b o h)
 keep:=fun b o h n=>y.keep b o (x.keep b o h n) fun q=>(s b q).elim n fun z=>by rw[h] at z;cases z
 iw:=fun b o h n f=>y.iw b o (x.keep b o h n) (fun q=>(s b q).elim n fun z=>by rw[h] at z;cases z) (x.iw b o h n f)
 there:=fun b o h=>let⟨o',h'⟩:=x.there b o h;y.there b o' h'
 jw:=fun b o u h=>y.jw b o u (x.jw b o u h)
def Step.refl (S:SS) (σ:St) (F H:Hp):Step S S σ F H F H:=⟨Ext.refl _ _ _,fun _ h=>h,fun _ u h=>⟨u,h⟩⟩
def Step.trans {S S1 S2:SS}{σ:St}{F H F1 H1 F2 H2:Hp}(x:Step S S1 σ F H F1 H1) (y:Step S1 S2 σ F1 H1 F2 H2):Step S S2 σ F H F2 H2:=
 ⟨x.ext.trans y.ext fun b q=>.inl (x.mu b q),fun a q=>x.mu a (y.mu a q),fun i u h=>let⟨u',h'⟩:=x.slots i u h;y.slots i u' h'⟩
mutual
theorem Rep.le {F F':Hp}(g:∀b o,F b=some o->F' b=some o):∀{v:V}{d:D},Rep F v d->Rep F' v d
 | _,_,.bV=>.bV
 | _,_,.bl b=>.bl b
 | _,_,.int i=>.int i
 | _,_,.str z=>.str z
 | _,_,.tup e r=>.tup (g _ _ e) (aX.le g r)
 | _,_,.lst e r=>.lst (e.imp (g _ _) fun⟨o,h⟩=>⟨o,g _ _ h⟩) (aX.le g r)
theorem aX.le {F F':Hp}(g:∀b o,F b=some o->F' b=some o):∀{vs:List V}{ds:List D},aX F vs ds->aX F' vs ds
 | _,_,.nil=>.nil
 | _,_,.cons r rs=>.cons (Rep.le g r) (aX.le g rs)
end
def uh {κ:Type}{F:Hp}(g:∀b o,F b=some o->F' b=some o){ws:List (κ×V)}{kvs:List (κ×D)}(r:Paired (jg F) ws kvs):Paired (jg F') ws kvs:=
 Paired.C4 r fun _ _ z=>⟨z.1,z.2.le g⟩
theorem At.le {F F' H H':Hp}{a:Addr}(g:∀b o,F b=some o->F' b=some o) (k:∀o,H a=some o->H' a=some o):∀{o:MO},At F H a o->At F' H' a o
 | .lst _,⟨vs,e,r⟩=>⟨vs,k _ e,r.le g⟩
 | .dct _,⟨ws,e,r⟩=>⟨ws,k _ e,uh g r⟩
 | .oH _,⟨ws,e,r⟩=>⟨ws,k _ e,uh g r⟩
 | .ins _ _,⟨ws,⟨dx,e⟩,r⟩=>⟨ws,⟨dx,k _ e⟩,uh g r⟩
theorem At.has {F:Hp}:∀{o:MO},At F H a o->∃u,H a=some u
 | .lst _,⟨_,e,_⟩=>⟨_,e⟩
 | .dct _,⟨_,e,_⟩=>⟨_,e⟩
 | .oH _,⟨_,e,_⟩=>⟨_,e⟩
 | .ins _ _,⟨_,⟨_,e⟩,_⟩=>⟨_,e⟩
def jJ (K:AAA) (B:Base) (S:SS) (σ:St) (H0 F H:Hp) (v:V):U->Prop
 | .t d=>Rep F v d
 | .m o=>∃a,v= .ref a/\H0 a=none/\F a=none/\At F H a o/\¬cA S σ a/\B.H a=none
 | .v i=>σ[i]? =some (some v)/\∃u,S[i]? =some (some u)
 | .b _=>False
 | .s ns=>∃a,v= .ref a/\Je K H a ns
 | .f a=>v= .ref a
def PE.imp {e:Expr}{t t':TE}(h:PE X e t) (k:∀σ H Q,t' σ H Q->t σ H Q):PE X e t':=fun pins s σ H Q I q=>h pins s σ H Q I (k σ H Q q)
def PT.imp {e:Expr}{t t':TT}(h:PT X e t) (k:∀σ H Q,t' σ H Q->t σ H Q):PT X e t':=fun pins s σ H Q I q=>h pins s σ H Q I (k σ H Q q)
def PW.imp {e:Expr}{t t':TT}(h:PW X e t) (k:∀σ H Q,t' σ H Q->t σ H Q):PW X e t':=fun w pins s σ H Q I q=>h w pins s σ H Q I (k σ H Q q)
def PA.imp {e:List Expr}{t t':TA}(h:PA X e t) (k:∀σ H Q,t' σ H Q->t σ H Q):PA X e t':=fun p pins s σ H Q I q=>h p pins s σ H Q I (k σ H Q q)
def PS.imp {e:Stmt}{t t':TS}(h:PS X e t) (k:∀D σ H,t' D σ H->t D σ H):PS X e t':=fun pins s σ H Q I q=>h pins s σ H Q I (k Q σ H q)
def yM.imp {e:List Stmt}{t t':TS}(h:yM X e t) (k:∀D σ H,t' D σ H->t D σ H):yM X e t':=fun pins s σ H Q I q=>h pins s σ H Q I (k Q σ H q)
def PE.orelse {e:Expr}{t:TE}(h:∀σ H Q,t σ H Q->∃t',PE X e t'/\t' σ H Q):PE X e t:=fun pins s σ H Q I q=>let⟨_,h1,h2⟩:=h σ H Q q;h1 pins s σ H Q I h2
def PS.orelse {e:Stmt}{t:TS}(h:∀D σ H,t D σ H->∃t',PS X e t'/\t' D σ H):PS X e t:=fun pins s σ H Q I q=>let⟨_,h1,h2⟩:=h Q σ H q;h1 pins s σ H Q I h2
abbrev GE:=SS->Option (U×SS)
abbrev GD:=SS->Option (D×SS)
abbrev GT:=SS->Option (Bool×SS)
abbrev GA:=SS->Option (List D×SS)
inductive Out where
 | nx (S:SS) | rt (u:U) (S:SS) | bk (S:SS) | ct (S:SS)
abbrev GS:=SS->Option Out
def tE (K:AAA) (B:Base) (g:GE):TE:=fun σ H Q=>∃S F u S',Rel K B S σ F H/\g S=some (u,S')/\∀v F' H',Rel K B S' σ F' H'->Step S S' σ F H F' H'->jJ K B S' σ H F' H' v u->Q v H'
def tD (K:AAA) (B:Base) (g:GD):TE:=fun σ H Q=>∃S F d S',Rel K B S σ F H/\g S=some (d,S')/\∀v F' H',Rel K B S' σ F' H'->Step S S' σ F H F' H'->Rep F' v d->Q v H'
def tQ (K:AAA) (B:Base) (g:GT):TT:=fun σ H Q=>∃S F b S',Rel K B S σ F H/\g S=some (b,S')/\∀F' H',Rel K B S' σ F' H'->Step S S' σ F H F' H'->Q b H'
def W3 (K:AAA) (B:Base) (g:GA):TA:=fun σ H Q=>∃S F ds S',Rel K B S σ F H/\g S=some (ds,S')/\∀vs F' H',Rel K B S' σ F' H'->Step S S' σ F H F' H'->aX F' vs ds->Q vs H'
def B4 (K:AAA) (B:Base) (F:Hp) (D:Ends):Out->Prop
 | .nx S=>∀σ' F' H',Rel K B S σ' F' H'->(∀b o,F b=some o->F' b=some o)->D.nx σ' H'
 | .bk S=>∀σ' F' H',Rel K B S σ' F' H'->(∀b o,F b=some o->F' b=some o)->D.bk σ' H'
 | .ct S=>∀σ' F' H',Rel K B S σ' F' H'->(∀b o,F b=some o->F' b=some o)->D.ct σ' H'
 | .rt u S=>∀v σ' F' H',Rel K B S σ' F' H'->(∀b o,F b=some o->F' b=some o)->jJ K B S σ' B.H F' H' v u->D.rt v H'
def tO (K:AAA) (B:Base) (g:GS):TS:=fun D σ H=>∃S F o,Rel K B S σ F H/\g S=some o/\B4 K B F D o
structure JE (X:Cx) (e:Expr) (g:GE):Prop where
 h:∀B,PE X e (tE X.K B g)
structure JD (X:Cx) (e:Expr) (g:GD):Prop where
 h:∀B,PE X e (tD X.K B g)
structure JT (X:Cx) (e:Expr) (g:GT):Prop where
 h:∀B,PT X e (tQ X.K B g)
structure JW (X:Cx) (e:Expr) (g:GT):Prop where
 h:∀B,PW X e (tQ X.K B g)
structure JA (X:Cx) (es:List Expr) (g:GA):Prop where
 h:∀B,PA X es (W3 X.K B g)
structure JS (X:Cx) (st:Stmt) (g:GS):Prop where
 h:∀B,PS X st (tO X.K B g)
structure JB (X:Cx) (st:List Stmt) (g:GS):Prop where
 h:∀B,yM X st (tO X.K B g)
noncomputable def fz:U->SS->Option (D×SS)
 | .t d,S=>some (d,S)
 | .m (.lst ds),S=>some (.lst ds,S)
 | .v i,S=>match S[i]? with
  | some (some (.t d))=>some (d,S)
  | some (some (.m (.lst ds)))=>some (.lst ds,S.set i (some (.t (.lst ds))))
  | _=>none
 | _,_=>none
def get_set {α:Type}{l:List α}{j:Nat}{x y:α}(h:(l.set i x)[j]? =some y):(i=j/\x=y/\i < l.length)\/(i≠j/\l[j]? =some y):=by
 by_cases e:i=j
 ·subst e
  by_cases hl:i < l.length
  ·rw[aad hl] at h;exact .inl ⟨rfl,ZU h,hl⟩
  ·rw[Z0 (by simpa using hl)] at h;cases h
 ·rw[Z4 e] at h;exact .inr ⟨e,h⟩
def Sub.jw {F:Hp}(s:Sub F H) (h:H a=some o):Sub (upd F a o) H:=fun b u e=>by
 by_cases hb:b=a
 ·subst hb;rw[aD] at e;cases e;exact h
 ·rw[az hb] at e;exact s b u e
def Sub.fresh {F:Hp}(s:Sub F H) (h:H p=Option.none):F p=Option.none:=by
 cases e:F p with
 | none=>rfl
 | some o=>have q:=s p o e;rw[h] at q;cases q
def ni {F:Hp}(h:F a=none):∀b u,F b=some u->upd F a o b=some u:=fun b u e=>by rw[az (aT e h)];exact e
theorem Je.le (k:∀b o u,H b=some (.jw o u)->H' b=some (.jw o u)):Je K H a ns->Je K H' a ns
 | .inl ⟨o,h⟩=>.inl ⟨o,k _ _ _ h⟩
 | .inr h=>.inr h
theorem ug.le {K:AAA}{F F' H H':Hp}{v:V}(g:∀b o,F b=some o->F' b=some o) (kf:∀b o u,H b=some (.jw o u)->H' b=some (.jw o u)):∀{u:U},ug K F H v u->(∀a,fT u=true->v= .ref a->(∀o,H a=some o->H' a=some o)/\F' a=none)->ug K F' H' v u
 | .t _,h,_=>Rep.le g h
 | .m _,⟨a,e,_,h⟩,k=>let⟨k1,k2⟩:=k a rfl e;⟨a,e,k2,h.le g k1⟩
 | .b _,⟨a,e,_,h⟩,k=>let⟨k1,k2⟩:=k a rfl e;⟨a,e,k2,h.le g k1⟩
 | .v _,h,_=>h
 | .s _,⟨a,e,h⟩,_=>⟨a,e,h.le kf⟩
 | .f _,h,_=>h
def FD     {F:Hp} {v : V}  {d : D}  (R : Rel K B S σ F H) (st : Step S0 S σ F0 H0 F H) (r : jJ K B S σ H0 F H v u) (e : fz u S = some (d, S')) :
    ∃F',Rel K B S' σ F' H/\Step S0 S' σ F0 H0 F' H/\Rep F' v d:=by
  cases u with
  | t d'=>cases e;exact⟨F,R,st,r⟩
  | b o=>cases r
  | s o=>cases e
  | f o=>cases e
  | m o =>
    cases o with
    | dct kvs=>cases e
    | oH kvs=>cases e
    | ins C kvs=>cases e
    | lst ds=>
      cases e
      obtain⟨a,rfl,h0,hf,⟨vs,ha,rs⟩,nm,hB⟩:=r
      have g:=ni (o:=.lst vs) hf
      refine⟨upd F a (.lst vs),⟨R.sub.jw ha,R.len,fun i u h=>?_,R.zd,R.own,R.bor,R.par,?_⟩,⟨⟨fun b o h=>g b o (st.ext.le b o h),st.ext.keep,fun b o h n f=>?_,st.ext.there,st.ext.jw⟩,st.mu,st.slots⟩,.lst (.inl aD) (rs.le g)⟩
      . obtain⟨w,h1,h2⟩:=R.rep i u h
        refine⟨w,h1,h2.le g (fun _ _ _ z=>z) fun c hm hc=>⟨fun o q=>q,?_⟩⟩
        have hca:c≠a:=fun z=>nm ⟨i,u,h,hm,by rw[h1,hc,z]⟩
        rw[az hca]
        cases u with
        | m o=>obtain⟨c',e',f',_⟩:=h2;rw[hc] at e';cases e';exact f'
        | b o=>obtain⟨c',e',f',_⟩:=h2;rw[hc] at e';cases e';exact f'
        | t d=>cases hm
        | v j=>cases hm
        | s j=>cases hm
        | f j=>cases hm
      . exact⟨fun b o h=>g b o (R.ext.le b o h),R.ext.keep,fun b o h n f=>by rw[az (fun z=>by rw[z,hB] at h;cases h)];exact R.ext.iw b o h n f,R.ext.there,R.ext.jw⟩
      . rw[az (fun z=>by rw[z,h0] at h;cases h)]
        exact st.ext.iw b o h n f
  | v i =>
    obtain⟨hv,u,hu⟩:=r
    unfold fz at e
    simp only[hu] at e
    cases u with
    | t d'=>
      cases e
      obtain⟨w,h1,h2⟩:=R.rep i _ hu
      rw[hv] at h1
      cases h1
      exact⟨F,R,st,h2⟩
    | b o=>cases e
    | v j=>cases e
    | s j=>cases e
    | f j=>cases e
    | m o =>
      cases o with
      | dct kvs=>cases e
      | oH kvs=>cases e
      | ins C kvs=>cases e
      | lst ds =>
        cases e
        obtain⟨w,h1,a,rfl,hf,⟨vs,ha,rs⟩⟩:=R.rep i _ hu
        have hiv:σ[i]? =some (some (.ref a)):=h1
        rw[hv] at h1
        cases h1
        have hB:=R.own i _ a hu hiv
        have g:=ni (o:=.lst vs) hf
        have back:∀j w,(S.set i (ZA (.lst ds)))[j]? =some (some w)->fT w=true->i≠j/\S[j]? =some (some w):=fun j w h hm=>by
          rcases get_set h with⟨_,q,_⟩ | q
          . cases q;cases hm
          . exact q
        have mu:∀c,cA (S.set i (ZA (.lst ds))) σ c->cA S σ c:=fun c ⟨j,w,h,hm,z⟩=>⟨j,w,(back j w h hm).2,hm,z⟩
        refine⟨upd F a (.lst vs),⟨R.sub.jw ha,by rw[aaw];exact R.len,fun j u h=>?_,fun j k u w c h1 m1 h2 m2=>R.zd j k u w c (back j u h1 m1).2 m1 (back k w h2 m2).2 m2,fun j o c h=>R.own j o c (back j _ h rfl).2,fun j o c h=>R.bor j o c (back j _ h rfl).2,fun j c h=>?_,?_⟩,
          ⟨⟨fun b o h=>g b o (st.ext.le b o h),st.ext.keep,fun b o h n f=>?_,st.ext.there,st.ext.jw⟩,fun c q=>st.mu c (mu c q),fun j u h=>?_⟩,.lst (.inl aD) (rs.le g)⟩
        . rcases get_set h with⟨rfl,q,_⟩ | ⟨ne,q⟩
          . cases q
            exact⟨.ref a,hiv,.lst (.inl aD) (rs.le g)⟩
          . obtain⟨w,h1,h2⟩:=R.rep j u q
            refine⟨w,h1,h2.le g (fun _ _ _ z=>z) fun c hm hc=>⟨fun o q=>q,?_⟩⟩
            have hca:c≠a:=fun z=>ne (R.zd i j _ u a hu rfl q hm hiv (by rw[h1,hc,z]))
            rw[az hca]
            cases u with
            | m o=>obtain⟨c',e',f',_⟩:=h2;rw[hc] at e';cases e';exact f'
            | b o=>obtain⟨c',e',f',_⟩:=h2;rw[hc] at e';cases e';exact f'
            | t d=>cases hm
            | v j=>cases hm
            | s j=>cases hm
            | f j=>cases hm
        . obtain⟨h1,o,h2⟩:=R.par j c h
          refine⟨h1,o,?_⟩
          have ne:i≠j:=fun z=>by subst z;rw[hu] at h2;cases h2
          rw[Z4 ne]
          exact h2
        . exact⟨fun b o h=>g b o (R.ext.le b o h),R.ext.keep,fun b o h n f=>by rw[az (fun z=>by rw[z,hB] at h;cases h)];exact R.ext.iw b o h n f,R.ext.there,R.ext.jw⟩
        . have hb:b≠a:=fun z=>n (st.mu b ⟨i,_,hu,rfl,by rw[z];exact hiv⟩)
          rw[az hb]
          exact st.ext.iw b o h n f
        . obtain⟨u',h'⟩:=st.slots j u h
          by_cases hj:i=j
          . subst hj
            exact⟨.t (.lst ds),aad (Zy.mp h').1⟩
          . exact⟨u',by rw[Z4 hj];exact h'⟩
noncomputable def eF (g:GE):GD:=fun S=>(g S).bind fun p=>fz p.1 p.2
def JE.d {X:Cx}{e:Expr}{g:GE}(h:JE X e g):JD X e (eF g):=⟨fun B=>(h.h B).imp fun σ H Q ⟨S,F,d,S',R,hg,q⟩=>by
 unfold eF at hg
 cases e1:g S with
 | none=>rw[e1] at hg;cases hg
 | some p=>
  obtain⟨u,S1⟩:=p
  rw[e1] at hg
  refine⟨S,F,u,S1,R,e1,fun v F1 H1 R1 st1 r1=>?_⟩
  obtain⟨F2,R2,st2,r2⟩:=FD R1 st1 r1 hg
  exact q v F2 H1 R2 st2 r2⟩
noncomputable def eT (g:GD):GE:=fun S=>(g S).map fun p=>(.t p.1,p.2)
def JD.e {X:Cx}{e:Expr}{g:GD}(h:JD X e g):JE X e (eT g):=⟨fun B=>(h.h B).imp fun σ H Q ⟨S,F,u,S',R,hg,q⟩=>by
 unfold eT at hg
 cases e1:g S with
 | none=>rw[e1] at hg;cases hg
 | some p=>
  obtain⟨d,S1⟩:=p
  rw[e1] at hg
  cases hg
  exact⟨S,F,d,S1,R,e1,fun v F1 H1 R1 st1 r1=>q v F1 H1 R1 st1 r1⟩⟩
structure gf (F H F' H':Hp):Prop where
 le:∀b o,F b=some o->F' b=some o
 same:∀b o,H b=some o->H' b=some o
 iw:∀b o,H b=some o->F b=none->F' b=none
def gf.refl (F H:Hp):gf F H F H:=⟨fun _ _ h=>h,fun _ _ h=>h,fun _ _ _ h=>h⟩
def gf.trans {F F2 H2:Hp}(x:gf F H F1 H1) (y:gf F1 H1 F2 H2):gf F H F2 H2:=
 ⟨fun b o h=>y.le b o (x.le b o h),fun b o h=>y.same b o (x.same b o h),fun b o h f=>y.iw b o (x.same b o h) (x.iw b o h f)⟩
def gf.step {F:Hp}(n:gf F H F' H'):Step S S σ F H F' H':=
 ⟨⟨n.le,fun b o h _=>n.same b o h,fun b o h _ f=>n.iw b o h f,fun b o h=>⟨o,n.same b o h⟩,fun b o u h=>n.same b _ h⟩,fun _ h=>h,fun _ u h=>⟨u,h⟩⟩
def gf.obj {F:Hp}(h:H p=none) (o:HO):gf F H F (upd H p o):=
 ⟨fun _ _ q=>q,fun b u q=>by rw[az (aT q h)];exact q,fun _ _ _ q=>q⟩
theorem Rd.same {u:HO}(k:∀b o,H b=some o->H' b=some o):Rd H a u->Rd H' a u
 | .inl h=>.inl (k _ _ h)
 | .inr ⟨o,h⟩=>.inr ⟨o,k _ _ h⟩
def Sub.same {F:Hp}(s:Sub F H) (k:∀b o,H b=some o->H' b=some o):Sub F H':=fun a o e=>k a o (s a o e)
def Sub.xm {F:Hp}(s:Sub F H) (h:H p=none):Sub (upd F p o) (upd H p o):=fun b u e=>by
 by_cases hb:b=p
 ·subst hb;rw[aD] at e;cases e;exact aD
 ·rw[az hb] at e;have q:=s b u e;rw[az (aT q h)];exact q
def gf.root {F:Hp}(s:Sub F H) (h:H p=none) (o:HO):gf F H (upd F p o) (upd H p o):=
 ⟨ni (s.fresh h),fun b u q=>by rw[az (aT q h)];exact q,fun b u q f=>by rw[az (aT q h)];exact f⟩
def Rel.has {K:AAA}{B:Base}{S:SS}{σ:St}{F H:Hp}(R:Rel K B S σ F H){a:Addr}(m:cA S σ a):∃o,H a=some o:=by
 obtain⟨i,u,h,hm,hv⟩:=m
 obtain⟨v,h1,h2⟩:=R.rep i u h
 rw[hv] at h1
 cases h1
 cases u with
 | t d=>cases hm
 | v j=>cases hm
 | s j=>cases hm
 | f j=>cases hm
 | m o=>obtain⟨b,e,_,h⟩:=h2;cases e;exact h.has
 | b o=>obtain⟨b,e,_,h⟩:=h2;cases e;exact h.has
def Rel.new {F:Hp}(R:Rel K B S σ F H) (n:gf F H F' H') (s:Sub F' H'):Rel K B S σ F' H' where
 sub:=s
 len:=R.len
 rep:=fun i u h=>by
  obtain⟨v,h1,h2⟩:=R.rep i u h
  refine⟨v,h1,h2.le n.le (fun b o u z=>n.same b _ z) fun a hm ha=>⟨fun o q=>n.same a o q,?_⟩⟩
  obtain⟨o,ho⟩:=R.has ⟨i,u,h,hm,by rw[h1,ha]⟩
  refine n.iw a o ho ?_
  cases u with
  | t d=>cases hm
  | v j=>cases hm
  | s j=>cases hm
  | f j=>cases hm
  | m o=>obtain⟨b,e,f,_⟩:=h2;rw[ha] at e;cases e;exact f
  | b o=>obtain⟨b,e,f,_⟩:=h2;rw[ha] at e;cases e;exact f
 zd:=R.zd
 own:=R.own
 bor:=R.bor
 par:=R.par
 ext:=⟨fun b o h=>n.le b o (R.ext.le b o h),fun b o h m=>n.same b o (R.ext.keep b o h m),fun b o h m f=>n.iw b o (R.ext.keep b o h m) (R.ext.iw b o h m f),fun b o h=>let⟨o',h'⟩:=R.ext.there b o h;⟨o',n.same b o' h'⟩,fun b o u h=>n.same b _ (R.ext.jw b o u h)⟩
def Dr (H0 F H:Hp) (v:V):U->Prop
 | .t d=>Rep F v d
 | .m o=>∃a,v= .ref a/\H0 a=none/\F a=none/\At F H a o
 | _=>False
def none_of (t:∀b o,H b=some o->∃o',H' b=some o') (h:H' a=none):H a=none:=by
 cases e:H a with
 | none=>rfl
 | some o=>obtain⟨o',h'⟩:=t a o e;rw[h] at h';cases h'
def Dr.Jf {F:Hp}{v:V}(R:Rel K B S σ F1 H1) (st:Step S0 S σ F0 H0 F1 H1) (r:Dr H1 F H v u):jJ K B S σ H0 F H v u:=by
 cases u with
 | t d=>exact r
 | b o=>cases r
 | v i=>cases r
 | s i=>cases r
 | f i=>cases r
 | m o=>
  obtain⟨a,e,h0,f,h⟩:=r
  refine⟨a,e,none_of st.ext.there h0,f,h,fun m=>?_,none_of R.ext.there h0⟩
  obtain⟨o,ho⟩:=R.has m
  rw[h0] at ho
  cases ho
def rP (f:List D->Option U):List V->Hp->VK->Prop:=fun xs H Q=>∃F ds u,Sub F H/\aX F xs ds/\f ds=some u/\∀v F' H',gf F H F' H'->Sub F' H'->Dr H F' H' v u->Q v H'
noncomputable def vZ:D->Bool
 | .tup _=>false
 | .lst _=>false
 | _=>true
noncomputable def toV:D->V
 | .bl b=>.bl b
 | .int i=>.int i
 | .str z=>.str z
 | _=>.bV
theorem ze {F:Hp}:∀{d:D},vZ d=true->Rep F (toV d) d
 | .bV,_=>.bV
 | .bl b,_=>.bl b
 | .int i,_=>.int i
 | .str z,_=>.str z
 | .tup _,h=>by cases h
 | .lst _,h=>by cases h
noncomputable def aj (i:Nat):GE:=fun S=>match S[i]? with
 | some (some (.t d))=>some (.t d,S)
 | some (some (.s d))=>some (.s d,S) | some (some (.f d))=>some (.f d,S)
 | some (some _)=>some (.v i,S)
 | _=>none
noncomputable def eC (d:D):GD:=fun S=>some (d,S)
noncomputable def ao:GA:=fun S=>some ([],S)
noncomputable def aa (g:GD) (ga:GA):GA:=fun S=>(g S).bind fun p=>(ga p.2).map fun q=>(p.1 :: q.1,q.2)
noncomputable def eP (f:List D->Option U) (ga:GA):GE:=fun S=>(ga S).bind fun p=>(f p.1).map fun u=>(u,p.2)
section
variable {X:Cx}{a b c e:Expr}{es:List Expr}{pos p p2:Pos}{x:Str}{g ga gb gc:GD}{gA:GA}{f f':List D->Option U}
def dG (i:Nat) (hN:X.N[i]? =some x:=by rfl) (hv:AE X.env.scope x:=by first | exact Or.inl rfl | exact Or.inr (Or.inl rfl) | exact Or.inr (Or.inr rfl)) (hd:(x == ("__debug__":Str))=false:=by decide)
  (hcd:(x == ("__classdict__":Str))=false:=by decide):JE X (.Name x pos) (aj i):=⟨fun B=>(gU hN hv hd hcd).imp fun σ H Q ⟨S,F,u,S',R,hg,q⟩=>by
 unfold aj at hg
 cases hs:S[i]? with
 | none=>rw[hs] at hg;cases hg
 | some o=>
  cases o with
  | none=>rw[hs] at hg;cases hg
  | some w=>
   rw[hs] at hg
   obtain⟨v,h1,h2⟩:=R.rep i w hs
   refine⟨v,h1,?_⟩
   cases w with
   | t d=>cases hg;exact q v F H R (Step.refl ..) h2
   | m o=>cases hg;exact q v F H R (Step.refl ..) ⟨h1,_,hs⟩
   | b o=>cases hg;exact q v F H R (Step.refl ..) ⟨h1,_,hs⟩
   | s j=>cases hg;exact q v F H R (Step.refl ..) h2
   | f j=>cases hg;exact q v F H R (Step.refl ..) h2
   | v j=>cases hg;exact q v F H R (Step.refl ..) ⟨h1,_,hs⟩⟩
def Jg {d:D}(hf:vZ d=true) (h:PE X e (tC (toV d))):JD X e (eC d):=⟨fun B=>h.imp fun σ H Q ⟨S,F,u,S',R,hg,q⟩=>by
 cases hg
 exact q _ F H R (Step.refl ..) (ze hf)⟩
def aE {i j}:JD X (.Constant (.int i) j pos) (eC (.int i)):=Jg rfl L6
def pZ {i j}:JD X (.Constant (.bool i) j pos) (eC (.bl i)):=Jg rfl Pw
def o9 {j}:JD X (.Constant .none j pos) (eC .bV):=Jg rfl L7
def fU {i j}:JD X (.Constant (.str i) j pos) (eC (.str i)):=Jg rfl L8
def aA:JA X [] ao:=⟨fun B=>lO.imp fun σ H Q ⟨S,F,u,S',R,hg,q⟩=>by
 cases hg
 exact q [] F H R (Step.refl ..) .nil⟩
def ah {α β:Type}{o:Option α}{f:α->Option β}{y:β}(h:o.bind f=some y):∃z,o=some z/\f z=some y:=by
 cases o with
 | none=>cases h
 | some z=>exact⟨z,rfl,h⟩
def aq {α β:Type}{o:Option α}{f:α->β}{y:β}(h:o.map f=some y):∃z,o=some z/\f z=y:=by
 cases o with
 | none=>cases h
 | some z=>exact⟨z,rfl,ZU h⟩
def ak (h:JD X e g) (hr:JA X es gA) (hs:starEach (e :: es) X.env=(false,eval e X.env) :: starEach es X.env:=by rfl):JA X (e :: es) (aa g gA):=
 ⟨fun B=>(jH (h.h B) (hr.h B) hs).imp fun σ H Q ⟨S,F,u,S',R,hg,q⟩=>by
 obtain⟨⟨d,S1⟩,h1,hg⟩:=ah hg
 obtain⟨⟨ds,S2⟩,h2,hg⟩:=aq hg
 cases hg
 exact⟨S,F,d,S1,R,h1,fun v F1 H1 R1 st1 r1=>⟨S1,F1,ds,S2,R1,h2,fun vs F2 H2 R2 st2 r2=>q _ F2 H2 R2 (st1.trans st2) (.cons (r1.le st2.ext.le) r2)⟩⟩⟩
def jV {Q:VK}{r:List V->Hp->VK->Prop}(hr:∀vs H1 Q1,rP f vs H1 Q1->r vs H1 Q1) (h:tE K B (eP f gA) σ H Q):W3 K B gA σ H fun vs H1=>r vs H1 Q:=by
 obtain⟨S,F,u,S',R,hg,q⟩:=h
 obtain⟨⟨ds,S1⟩,h1,hg⟩:=ah hg
 obtain⟨u',h2,hg⟩:=aq hg
 cases hg
 exact⟨S,F,ds,S1,R,h1,fun vs F1 H1 R1 st1 r1=>hr _ _ _ ⟨F1,ds,_,R1.sub,r1,h2,fun v F2 H2 n s2 r2=>q v F2 H2 (R1.new n s2) (st1.trans n.step) (r2.Jf R1 st1)⟩⟩
def gK {id:String}(hc:gI X (.builtin id) (rP f)) (hg:Gl X x) (hm:X.mg x=none) (hv:bootBuiltins x=some (.builtin id)) (ha:JA X (e :: es) gA) (hn:x≠"__name__":=by decide) (hdb:(x == ("__debug__":Str))=false:=by decide)
  (he:starEach (e :: es) X.env=(false,eval e X.env) :: starEach es X.env:=by rfl) (hpl:(backTo pos (starEach es X.env)).any (·.1)=false:=by rfl):JE X (.Call (.Name x p) (e :: es) [] pos) (eP f gA):=
 ⟨fun B=>(ng hc hg hm hv (ha.h B) hn hdb he hpl).imp fun σ H Q h=>jV (fun _ _ _ z=>z) h⟩
def bX {T:String}(hc:gI X (.type T) (rP f)) (hg:Gl X x) (hm:X.mg x=none) (hv:bootBuiltins x=some (.type T)) (ha:JA X (e :: es) gA) (hn:x≠"__name__":=by decide) (hdb:(x == ("__debug__":Str))=false:=by decide)
  (he:starEach (e :: es) X.env=(false,eval e X.env) :: starEach es X.env:=by rfl) (hpl:(backTo pos (starEach es X.env)).any (·.1)=false:=by rfl):JE X (.Call (.Name x p) (e :: es) [] pos) (eP f gA):=
 ⟨fun B=>(Dh hc hg hm hv (ha.h B) hn hdb he hpl).imp fun σ H Q h=>jV (fun _ _ _ z=>z) h⟩
abbrev xq (X:Cx) (o:Value->Value->Sem Value) (f:List D->Option U):Prop:=sF X o (fun x y H Q=>rP f [x,y] H Q)
def p5 {Q:VK}(h:tE K B (eP f (aa ga (aa gb ao))) σ H Q):Ml (fun x y H Q=>rP f [x,y] H Q) (tD K B ga) (tD K B gb) σ H Q:=by
 obtain⟨S,F,u,S',R,hg,q⟩:=h
 obtain⟨⟨ds,S1⟩,h1,hg⟩:=ah hg
 obtain⟨u',h2,hg⟩:=aq hg
 cases hg
 obtain⟨⟨d1,T1⟩,k1,h1⟩:=ah h1
 obtain⟨⟨Zd,T2⟩,k2,h1⟩:=aq h1
 cases h1
 obtain⟨⟨d2,T3⟩,k3,k2⟩:=ah k2
 obtain⟨⟨Ze,T4⟩,k4,k2⟩:=aq k2
 cases k2
 cases k4
 exact⟨S,F,d1,T1,R,k1,fun v1 F1 H1 R1 st1 r1=>⟨T1,F1,d2,_,R1,k3,fun v2 F2 H2 R2 st2 r2=>⟨F2,_,_,R2.sub,.cons (r1.le st2.ext.le) (.cons r2 .nil),h2,fun v F3 H3 n s3 r3=>q v F3 H3 (R2.new n s3) ((st1.trans st2).trans n.step) (r3.Jf R2 (st1.trans st2))⟩⟩⟩
def cg (ho:xq X (binaryOp op) f) (ha:JD X a ga) (hb:JD X b gb):JE X (.BinOp a op b pos) (eP f (aa ga (aa gb ao))):=
 ⟨fun B=>(PM ho (ha.h B) (hb.h B)).imp fun σ H Q h=>p5 h⟩
def MU {op:CmpOp}(ho:xq X (compareOp op) f) (ha:JD X a ga) (hb:JD X b gb) (hm:behindInMarks op b=false:=by first | exact AL _ | rfl):JE X (.Compare a [op] [b] pos) (eP f (aa ga (aa gb ao))):=
 ⟨fun B=>(IM ho (ha.h B) (hb.h B) hm).imp fun σ H Q h=>p5 h⟩
def zf (hr:Fe X (fun x y H Q=>rP f [x,y] H Q)) (ha:JD X a ga) (hb:JD X b gb) (hs:pW b):JE X (.Subscript a b pos) (eP f (aa ga (aa gb ao))):=
 ⟨fun B=>(BY hr (ha.h B) (hb.h B) hs).imp fun σ H Q h=>p5 h⟩
noncomputable def gW:List D->Option U:=fun ds=>if ds.length<=100000 then ZA (.tup ds) else none
noncomputable def gX:List D->Option U:=fun ds=>if ds.length<=100000 then ZC ds else none
def kN (h:n<=100000):n<=sizeLine:=Z5 h (by decide)
end
section
variable {X:Cx}{a b c e:Expr}{es:List Expr}{pos p p2:Pos}{x:Str}{g ga gb gc:GD}{gA:GA}{f f':List D->Option U}
def gY {x1}(h:JA X es gA):JE X (.Tuple es x1 pos) (eP gW gA):=
 ⟨fun B=>(Mx (h.h B)).imp fun σ H Q z=>jV (r:=fun xs H1 Q=>xs.length<=sizeLine/\∀p,H1 p=none->Q (.ref p) (upd H1 p (.tup xs))) (fun vs H1 Q1 ⟨F,ds,u,sb,rs,hf,q⟩=>by
 unfold gW at hf
 split at hf
 ·rename_i hl
  cases hf
  refine⟨by rw[rs.length];exact kN hl,fun p hp=>?_⟩
  exact q _ _ _ (gf.root sb hp _) (sb.xm hp) (.tup aD (rs.le (ni (sb.fresh hp))))
 ·cases hf) z⟩
def fL (h:JA X es gA):JE X (.List es pos) (eP gX gA):=
 ⟨fun B=>(E3 (h.h B)).imp fun σ H Q z=>jV (r:=fun xs H1 Q=>xs.length<=sizeLine/\∀p,H1 p=none->Q (.ref p) (upd H1 p (.lst xs))) (fun vs H1 Q1 ⟨F,ds,u,sb,rs,hf,q⟩=>by
 unfold gX at hf
 split at hf
 ·rename_i hl
  cases hf
  refine⟨by rw[rs.length];exact kN hl,fun p hp=>?_⟩
  exact q _ F _ (gf.obj hp _) (sb.same (gf.obj (F:=F) hp _).same) ⟨p,rfl,hp,sb.fresh hp,vs,aD,rs⟩
 ·cases hf) z⟩
noncomputable def qB (g:GD):GT:=fun S=>(g S).bind fun p=>match p.1 with
 | .bl k=>some (k,p.2)
 | _=>none
noncomputable def FE (g:GT):GT:=fun S=>(g S).map fun p=>(!p.1,p.2)
noncomputable def FF (g h:GT):GT:=fun S=>(g S).bind fun p=>if p.1 then h p.2 else some (false,p.2)
noncomputable def UU (g h:GT):GT:=fun S=>(g S).bind fun p=>if p.1 then some (true,p.2) else h p.2
noncomputable def eQ (g:GT):GD:=fun S=>(g S).map fun p=>(.bl p.1,p.2)
def p6 (h:qB g S=some (k,S')):g S=some (.bl k,S'):=by
 obtain⟨⟨d,S1⟩,h1,h⟩:=ah h
 cases d <;> cases h
 exact h1
def nj {F:Hp}{v:V}(r:Rep F v (.bl k)):v= .bl k:=by cases r;rfl
def gj {F:Hp}{v:V}{i:Int}(r:Rep F v (.int i)):v= .int i:=by cases r;rfl
def B5 {F:Hp}{v:V}{i:Str}(r:Rep F v (.str i)):v= .str i:=by cases r;rfl
def AV (h:JD X e g) (he:∀whole,isTrue e X.env whole=(do let v <-whole;standAt e.pos;holding [v] (truthy v)):=by intro _;rfl):JT X e (qB g):=
 ⟨fun B=>(Mb (h.h B) he).imp fun σ H Q ⟨S,F,k,S',R,hg,q⟩=>⟨S,F,.bl k,S',R,p6 hg,fun v F' H' R' st r=>⟨k,nj r,q F' H' R' st⟩⟩⟩
def Qs {gE:GE}{Q:VK}(h:tD K B (eF gE) σ H Q):tE K B gE σ H Q:=by
 obtain⟨S,F,d,S',R,hg,q⟩:=h
 obtain⟨⟨u,S1⟩,h1,hg⟩:=ah hg
 refine⟨S,F,u,S1,R,h1,fun v F1 H1 R1 st1 r1=>?_⟩
 obtain⟨F2,R2,st2,r2⟩:=FD R1 st1 r1 hg
 exact q v F2 H1 R2 st2 r2
def d9 {op:CmpOp}(ho:xq X (compareOp op) f) (ha:JD X a ga) (hb:JD X b gb) (hm:behindInMarks op b=false:=by first | exact AL _ | rfl):JT X (.Compare a [op] [b] pos) (qB (eF (eP f (aa ga (aa gb ao))))):=
 ⟨fun B=>(BR ho (ha.h B) (hb.h B) hm).imp fun σ H Q ⟨S,F,k,S',R,hg,q⟩=>p5 (Qs ⟨S,F,.bl k,S',R,p6 hg,fun v F' H' R' st r=>⟨k,nj r,q F' H' R' st⟩⟩)⟩
def um (h:JT X a q1):JW X (.BoolOp .And [a] pos) q1:=⟨fun B=>pw_and1 (h.h B)⟩
def Ds (h:JT X a q1):JW X (.BoolOp .Or [a] pos) q1:=⟨fun B=>pw_or1 (h.h B)⟩
def FG {q2:GT}(h:JT X a q1) (hr:JW X (.BoolOp .And (b :: r) pos) q2):JW X (.BoolOp .And (a :: b :: r) pos) (FF q1 q2):=
 ⟨fun B=>(pw_and (h.h B) (hr.h B)).imp fun σ H Q ⟨S,F,k,S',R,hg,q⟩=>by
 obtain⟨⟨d,S1⟩,h1,hg⟩:=ah hg
 refine⟨S,F,d,S1,R,h1,fun F1 H1 R1 st1=>?_⟩
 cases d with
 | true=>exact yY ⟨S1,F1,k,S',R1,hg,fun F2 H2 R2 st2=>q F2 H2 R2 (st1.trans st2)⟩
 | false=>cases hg;exact yX (q F1 H1 R1 st1)⟩
def Qt {q2:GT}(h:JT X a q1) (hr:JW X (.BoolOp .Or (b :: r) pos) q2):JW X (.BoolOp .Or (a :: b :: r) pos) (UU q1 q2):=
 ⟨fun B=>(pw_or (h.h B) (hr.h B)).imp fun σ H Q ⟨S,F,k,S',R,hg,q⟩=>by
 obtain⟨⟨d,S1⟩,h1,hg⟩:=ah hg
 refine⟨S,F,d,S1,R,h1,fun F1 H1 R1 st1=>?_⟩
 cases d with
 | false=>exact yX ⟨S1,F1,k,S',R1,hg,fun F2 H2 R2 st2=>q F2 H2 R2 (st1.trans st2)⟩
 | true=>cases hg;exact yY (q F1 H1 R1 st1)⟩
def JW.t (h:JW X e q1):JT X e q1:=⟨fun B=>(h.h B).pt⟩
def MV (h:JD X a g):JD X (.UnaryOp .Not a pos) (eQ (FE (qB g))):=⟨fun B=>(Mc (h.h B)).imp fun σ H Q ⟨S,F,k,S',R,hg,q⟩=>by
 obtain⟨⟨d,S1⟩,h1,hg⟩:=aq hg
 cases hg
 obtain⟨⟨d1,S2⟩,h3,h2⟩:=aq h1
 cases h2
 exact⟨S,F,.bl d1,_,R,p6 h3,fun v F1 H1 R1 st1 r1=>⟨d1,nj r1,q _ F1 H1 R1 st1 (.bl _)⟩⟩⟩
noncomputable def OS (q:GT) (g h:GE):GE:=fun S=>(q S).bind fun p=>if p.1 then g p.2 else h p.2
theorem jJ.weak {F:Hp}{v:V}(t:∀b o,H0 b=some o->∃o',H1 b=some o'):∀{u:U},jJ K B S σ H1 F H v u->jJ K B S σ H0 F H v u
 | .t _,h=>h
 | .s _,h=>h
 | .f _,h=>h
 | .m _,⟨a,e,h0,h⟩=>⟨a,e,none_of t h0,h⟩
 | .v _,h=>h
 | .b _,h=>h
def Lv {g1 g2:GE}(hc:JT X c q1) (ha:JE X a g1) (hb:JE X b g2):JE X (.IfExp c a b pos) (OS q1 g1 g2):=
 ⟨fun B=>(ER (hc.h B) (ha.h B) (hb.h B)).imp fun σ H Q ⟨S,F,u,S',R,hg,q⟩=>by
 obtain⟨⟨d,S1⟩,h1,hg⟩:=ah hg
 refine⟨S,F,d,S1,R,h1,fun F1 H1 R1 st1=>?_⟩
 cases d with
 | true=>exact yY ⟨S1,F1,u,S',R1,hg,fun v F2 H2 R2 st2 r2=>q v F2 H2 R2 (st1.trans st2) (r2.weak st1.ext.there)⟩
 | false=>exact yX ⟨S1,F1,u,S',R1,hg,fun v F2 H2 R2 st2 r2=>q v F2 H2 R2 (st1.trans st2) (r2.weak st1.ext.there)⟩⟩
end
def cj {α:Type}{c:Prop}{i:Decidable c}{x w:α}(h:(@ite _ c i (some x) none)=some w):c/\x=w:=by
 by_cases hc:c
 ·rw[if_pos hc] at h;exact⟨hc,ZU h⟩
 ·rw[if_neg hc] at h;cases h
def iQ {α:Type}{c:Prop}{i:Decidable c}{x:Option α}{w:α}(h:(@ite _ c i x none)=some w):c/\x=some w:=by
 by_cases hc:c
 ·rw[if_pos hc] at h;exact⟨hc,h⟩
 ·rw[if_neg hc] at h;cases h
def Lw {F:Hp}{x:V}(r:aX F [x] ds):∃d,ds=[d]/\Rep F x d:=by
 cases r with
 | cons r rs=>cases rs;exact⟨_,rfl,r⟩
def p7 {F:Hp}{x:V}(r:aX F [x,y] ds):∃d e,ds=[d,e]/\Rep F x d/\Rep F y e:=by
 cases r with
 | cons r rs=>obtain⟨e,rfl,r2⟩:=Lw rs;exact⟨_,e,rfl,r,r2⟩
noncomputable def FH (C:Int->Int->Bool) (h:Int->Int->D):List D->Option U
 | [.int i,.int j]=>if C i j then some (.t (h i j)) else none
 | _=>none
section
variable {X:Cx}
def rX {o:Value->Value->Sem Value}{C:Int->Int->Bool}{h:Int->Int->D}{r:R2}(hr:sF X o r) (k:∀i j H Q,C i j=true->Q (toV (h i j)) H->r (.int i) (.int j) H Q) (hf:∀i j,vZ (h i j)=true):xq X o (FH C h):=by
 intro pins s σ H x y v u Q I rx ry ⟨F,ds,w,sb,rs,hw,q⟩
 obtain⟨d,e,rfl,r1,r2⟩:=p7 rs
 cases r1 <;> cases r2 <;> try (simp[FH] at hw;done)
 rename_i i j
 obtain⟨hc,rfl⟩:=cj hw
 exact hr pins s σ H _ _ v u Q I rx ry (k i j H Q hc (q _ F H (gf.refl ..) sb (ze (hf i j))))
noncomputable abbrev FI:=FH (fun _ _=>true) fun i j=>.int (i - j)
noncomputable abbrev B6:=FH (fun _ _=>true) fun i j=>.bl (decide (i < j))
noncomputable abbrev OT:=FH (fun _ _=>true) fun i j=>.bl (decide (j < i))
noncomputable abbrev Qu:=FH (fun _ _=>true) fun i j=>.bl (decide (j<=i))
noncomputable abbrev MW:=FH (fun _ j=>decide (0 < j) && decide (j < 1073741824)) fun i j=>.int (i / j)
noncomputable abbrev zh:=FH (fun _ j=>decide (0 < j)) fun i j=>.int (i % j)
noncomputable abbrev Jh:=FH (fun i j=>decide (0<=j) && (decide (j<=1000) && decide (i.natAbs < 2 ^ 64))) fun i j=>.int (i ^ j.toNat)
def tu:xq X (binaryOp .Sub) FI:=rX Ms (fun i j H Q _ q=>⟨i,j,rfl,rfl,q⟩) fun _ _=>rfl
def uo:xq X (compareOp .Lt) B6:=rX PR (fun i j H Q _ q=>⟨i,j,rfl,rfl,q⟩) fun _ _=>rfl
def xr:xq X (compareOp .Gt) OT:=rX PU (fun i j H Q _ q=>⟨i,j,rfl,rfl,q⟩) fun _ _=>rfl
def FJ:xq X (compareOp .GtE) Qu:=rX PV (fun i j H Q _ q=>⟨i,j,rfl,rfl,q⟩) fun _ _=>rfl
def B7:xq X (binaryOp .FloorDiv) MW:=rX IK (fun i j H Q c q=>⟨i,j,rfl,rfl,by simpa[PO] using c,q⟩) fun _ _=>rfl
def lT:xq X (binaryOp .Mod) zh:=rX Mu (fun i j H Q c q=>⟨i,j,rfl,rfl,by simpa using c,q⟩) fun _ _=>rfl
def xw:xq X (binaryOp .Pow) Jh:=rX Mv (fun i j H Q c q=>⟨i,j,rfl,rfl,by
 simp only[aaP,abC] at c
 exact⟨c.1,Int.le_trans c.2.1 (by decide),c.2.2⟩,q⟩) fun _ _=>rfl
def Sub.iO {F:Hp}{v:V}(s:Sub F H) (r:Rep F v (.tup ds)):∃a vs,v= .ref a/\F a=some (.tup vs)/\Rd H a (.tup vs)/\aX F vs ds:=by
 cases r with
 | tup e rs=>exact⟨_,_,rfl,e,Rd.of (s _ _ e),rs⟩
def Sub.iB {F:Hp}{v:V}(s:Sub F H) (r:Rep F v (.lst ds)):∃a vs,v= .ref a/\Rd F a (.lst vs)/\Rd H a (.lst vs)/\aX F vs ds:=by
 cases r with
 | lst e rs=>exact⟨_,_,rfl,e,e.imp (s _ _) fun⟨o,h⟩=>⟨o,s _ _ h⟩,rs⟩
def _root_.L2.Rd.AR {pins:AAD}{s:Shared}(I:Inv X pins σ H s){l:Addr}(h:Rd H l (.lst xs)):
  xs.length<=sizeLine/\∃its n,Vals xs its/\xs.length=its.length/\s.heap.get? l=some {cls:=.type "list",data:=.seq its.toArray n}:=by
 obtain⟨z,its,n,r,e⟩:=(h.ok I.hok:c7 X.prog X.w H s.heap l (.lst xs))
 exact⟨z,its,n,r,r.length,e⟩
noncomputable def iz:List D->Option U
 | [.int i,.int j]=>some (.t (.int (i+j)))
 | [.str i,.str j]=>if i.length+j.length<=100000 then some (.t (.str (i++j))) else none
 | [.tup i,.tup j]=>if i.length+j.length<=100000 then some (.t (.tup (i++j))) else none
 | [.lst i,.lst j]=>if i.length+j.length<=100000 then some (.m (.lst (i++j))) else none
 | _=>none
def dO : xq X (binaryOp .Add) iz := by
  intro pins s σ H x y v u Q I rx ry ⟨F,ds,w,sb,rs,hw,q⟩
  obtain⟨d,e,rfl,r1,r2⟩:=p7 rs
  cases d <;> cases e <;> try (simp[iz] at hw;done)
  . rename_i i j
    cases hw
    cases r1
    cases r2
    exact Mr pins s σ H _ _ v u Q I rx ry ⟨i,j,rfl,rfl,q _ F H (gf.refl ..) sb (.int _)⟩
  . rename_i i j
    obtain⟨hl,rfl⟩:=cj hw
    cases r1
    cases r2
    exact AM pins s σ H _ _ v u Q I rx ry ⟨i,j,rfl,rfl,kN hl,q _ F H (gf.refl ..) sb (.str _)⟩
  . rename_i i j
    obtain⟨hl,rfl⟩:=cj hw
    have X7:=r2
    have X8:=r1
    obtain⟨a,xs,rfl,fa,ha,mU⟩:=sb.iO r1
    obtain⟨b,ys,rfl,fb,hb,Dt⟩:=sb.iO r2
    by_cases hx:xs=[]
    . subst hx
      cases mU
      cases rx
      cases ry
      obtain⟨its,r1',p1,_⟩:=I.tuple (.inl ha)
      obtain⟨its2,r2',p2,_⟩:=I.tuple (.inl hb)
      cases r1'
      obtain⟨⟨cls,dd,data,sl⟩,ho,hc,n,hd⟩:=id p1
      obtain⟨⟨Uv,dd2,data2,sl2⟩,ho2,hc2,n2,hd2⟩:=id p2
      simp only at hc hd hc2 hd2
      subst hc hd hc2 hd2
      exact concat_meets ⟨_,ho,rfl⟩ ⟨_,ho2,rfl⟩ ade seq_tuple_add acv acn (acf _ _)
        (tuple_addW0 a b _ _ n n2 dd dd2 sl sl2 (by simp)) ⟨ho,ho2,⟨.ref b,H,I,rfl,q _ F H (gf.refl ..) sb X7⟩⟩
    . refine I0 pins s σ H (.ref a) (.ref b) v u Q I rx ry ⟨a,b,xs,ys,rfl,rfl,.inl ha,.inl hb,hx,?_,fun hy=>?_,fun hy p hp=>?_⟩
      . rw[mU.length,Dt.length];exact kN hl
      . subst hy
        cases Dt
        exact q _ F H (gf.refl ..) sb (by show Rep F (.ref a) (.tup (i++[]));rw[abJ];exact X8)
      . exact q _ _ _ (gf.root sb hp _) (sb.xm hp) (.tup aD ((mU.append Dt).le (ni (sb.fresh hp))))
  . rename_i i j
    obtain⟨hl,rfl⟩:=cj hw
    obtain⟨a,xs,rfl,fa,ha,mU⟩:=sb.iB r1
    obtain⟨b,ys,rfl,fb,hb,Dt⟩:=sb.iB r2
    cases rx
    cases ry
    obtain⟨z,its,n,r,hl1,e⟩:=Rd.AR I ha
    obtain⟨z2,its2,n2,r2,hl2,e2⟩:=Rd.AR I hb
    have hlen:xs.length+ys.length<=sizeLine:=by rw[mU.length,Dt.length];exact kN hl
    refine PySem.P.add_list e e2 ?_ (by rw[ZL,ZL];omega)
    have ea:its.toArray++its2.toArray=(its++its2).toArray:=by simp
    rw[ea]
    have hp:H s.heap.objs.size=none:=I.fresh
    refine⟨.ref _,_,I.Qi (t':=s.toks) (r.append r2) (by rw[ZZ];omega),rfl,?_⟩
    exact q _ F _ (gf.obj hp _) (sb.same (gf.obj (F:=F) hp _).same) ⟨_,rfl,hp,sb.fresh hp,_,aD,mU.append Dt⟩
noncomputable def xx:List D->Option U:=FH (fun i j=>(decide (-(2 ^ 64) < i) && decide (i < 2 ^ 64)) || (decide (-(2 ^ 64) < j) && decide (j < 2 ^ 64))) fun i j=>.int (i * j)
def lU:xq X (binaryOp .Mult) xx:=rX Mt (fun i j H Q c q=>⟨i,j,rfl,rfl,by
 simp only[Bool.or_eq_true,aaP,abC] at c
 exact c,q⟩) fun _ _=>rfl
noncomputable def FL:List D->Option U
 | [.tup ds,.int i]=>(dF ds i).map .t
 | [.lst ds,.int i]=>(dF ds i).map .t
 | [.str z,.int i]=>if z.length<=100000 then(dF z.cps.toList i).map fun c=>.t (.str ⟨#[c]⟩) else none
 | _=>none
def FO:Fe X (fun x y H Q=>rP FL [x,y] H Q):=by
 intro value slice pins s σ H x y v u Q I rx ry ⟨F,ds,w,sb,rs,hw,q⟩ hsb
 obtain⟨d,e,rfl,r1,r2⟩:=p7 rs
 cases d <;> cases e <;> try (simp[FL] at hw;done)
 ·rename_i z i
  obtain⟨hl,hw⟩:=iQ hw
  obtain⟨c,hc,hw⟩:=aq hw
  subst hw
  cases r1
  cases r2
  exact Fg value slice pins s σ H _ _ v u Q I rx ry ⟨z,i,c,rfl,rfl,kN hl,hc,q _ F H (gf.refl ..) sb (.str _)⟩ hsb
 ·rename_i ds i
  obtain⟨c,hc,hw⟩:=aq (show(dF ds i).map U.t=some w from hw)
  subst hw
  obtain⟨a,xs,rfl,fa,ha,mU⟩:=sb.iO r1
  cases r2
  obtain⟨w',h1,h2⟩:=mU.dF hc
  exact Ff value slice pins s σ H _ _ v u Q I rx ry ⟨a,xs,i,w',rfl,rfl,.inl ha,h1,q _ F H (gf.refl ..) sb h2⟩ hsb
 ·rename_i ds i
  obtain⟨c,hc,hw⟩:=aq (show(dF ds i).map U.t=some w from hw)
  subst hw
  obtain⟨a,xs,rfl,fa,ha,mU⟩:=sb.iB r1
  cases r2
  obtain⟨w',h1,h2⟩:=mU.dF hc
  exact xg value slice pins s σ H _ _ v u Q I rx ry ⟨a,xs,i,w',rfl,rfl,.inl ha,h1,q _ F H (gf.refl ..) sb h2⟩ hsb
noncomputable def sH:List D->Option U
 | [.tup ds]=>some (.t (.int ds.length))
 | [.lst ds]=>some (.t (.int ds.length))
 | [.str z]=>if z.length<=100000 then some (.t (.int z.length)) else none
 | _=>none
def v5:gI X (.builtin "len") (rP sH):=by
 intro pins s σ H xs us Q I r ⟨F,ds,w,sb,rs,hw,q⟩
 match xs,ds,rs with
 | [],[],_=>exact absurd hw (by simp[sH])
 | [x],_,rs=>
  obtain⟨d,rfl,r1⟩:=Lw rs
  cases d <;> try (simp[sH] at hw;done)
  ·rename_i z
   obtain⟨hl,rfl⟩:=cj hw
   cases r1
   exact pX pins s σ H _ us Q I r ⟨z,rfl,kN hl,q _ F H (gf.refl ..) sb (.int _)⟩
  ·cases hw
   obtain⟨a,xs,rfl,fa,ha,mU⟩:=sb.iO r1
   exact lQ pins s σ H _ us Q I r ⟨a,xs,rfl,.inr (.inl ha),by rw[mU.length];exact q _ F H (gf.refl ..) sb (.int _)⟩
  ·cases hw
   obtain⟨a,xs,rfl,fa,ha,mU⟩:=sb.iB r1
   exact lQ pins s σ H _ us Q I r ⟨a,xs,rfl,.inl (.inl ha),by rw[mU.length];exact q _ F H (gf.refl ..) sb (.int _)⟩
 | _ :: _ :: _,[],rs=>cases rs
 | _ :: _ :: _,[_],rs=>cases rs with | cons _ rs=>cases rs
 | _ :: _ :: _,_ :: _ :: _,_=>exact absurd hw (by simp[sH])
end
noncomputable def oJ (i:Nat) (u:U) (S:SS):Option SS:=match S[i]? with
 | some (some (.b _))=>none
 | some _=>some (S.set i (some u))
 | none=>none
def Du (h:oJ i u S=some S'):S'=S.set i (some u)/\i < S.length/\∀o,S[i]?≠some (some (.b o)):=by
 unfold oJ at h
 cases e:S[i]? with
 | none=>rw[e] at h;cases h
 | some w=>
  have hl:i < S.length:=(Zy.mp e).1
  rw[e] at h
  cases w with
  | none=>cases h;exact⟨rfl,hl,fun o z=>by cases z⟩
  | some w=>
   cases w with
   | b o=>cases h
   | t d=>cases h;exact⟨rfl,hl,fun o z=>by cases z⟩
   | m d=>cases h;exact⟨rfl,hl,fun o z=>by cases z⟩
   | v d=>cases h;exact⟨rfl,hl,fun o z=>by cases z⟩
   | s d=>cases h;exact⟨rfl,hl,fun o z=>by cases z⟩
   | f d=>cases h;exact⟨rfl,hl,fun o z=>by cases z⟩
def Lx (B:Base) (S:SS) (σ:St) (F H:Hp) (v:V):U->Prop
 | .t d=>Rep F v d
 | .m o=>∃a,v= .ref a/\F a=none/\At F H a o/\¬cA S σ a/\B.H a=none
 | _=>False
def Rel.put     {F:Hp}   {v : V} (R : Rel K B S σ F H) (h : oJ i u S = some S') (p : Lx B S σ F H v u) : Rel K B S' (σ.set i (some v)) F H := by
  obtain⟨rfl,hl,nb⟩:=Du h
  have hl':i < σ.length:=by rw[<-R.len];exact hl
  have out:∀{j:Nat},i≠j->(σ.set i (some v))[j]? =σ[j]?:=fun ne=>Z4 ne
  have kX:(σ.set i (some v))[i]? =some (some v):=aad hl'
  have Ly:∀j w a,i≠j->S[j]? =some (some w)->fT w=true->fT u=true->σ[j]? =some (some (.ref a))->v≠.ref a:=fun j w a ne hj hm hu hv z=>by
    cases u with
    | t d=>cases hu
    | v k=>cases hu
    | s k=>cases hu
    | f k=>cases hu
    | b o=>exact p
    | m o=>
      obtain⟨c,e,_,_,nm,_⟩:=p
      rw[z] at e
      cases e
      exact nm ⟨j,w,hj,hm,hv⟩
  refine⟨R.sub,by rw[aaw,aaw];exact R.len,fun j w hj=>?_,fun j k w1 w2 a h1 m1 h2 m2 v1 v2=>?_,fun j o a hj hv=>?_,fun j o a hj hv=>?_,fun j a hj=>?_,R.ext⟩
  . rcases get_set hj with⟨rfl,q,_⟩ | ⟨ne,q⟩
    . cases q
      refine⟨v,kX,?_⟩
      cases u with
      | t d=>exact p
      | m o=>obtain⟨a,e,f,h,_⟩:=p;exact⟨a,e,f,h⟩
      | b o=>cases p
      | v k=>cases p
      | s k=>cases p
      | f k=>cases p
    . rw[out ne];exact R.rep j w q
  . rcases get_set h1 with⟨rfl,q1,_⟩ | ⟨ne1,q1⟩
    . rcases get_set h2 with⟨rfl,q2,_⟩ | ⟨ne2,q2⟩
      . rfl
      . cases q1
        rw[kX] at v1
        rw[out ne2] at v2
        cases v1
        exact absurd rfl (Ly k w2 a ne2 q2 m2 m1 v2)
    . rcases get_set h2 with⟨rfl,q2,_⟩ | ⟨ne2,q2⟩
      . cases q2
        rw[kX] at v2
        rw[out ne1] at v1
        cases v2
        exact absurd rfl (Ly j w1 a ne1 q1 m1 m2 v1)
      . rw[out ne1] at v1
        rw[out ne2] at v2
        exact R.zd j k w1 w2 a q1 m1 q2 m2 v1 v2
  . rcases get_set hj with⟨rfl,q,_⟩ | ⟨ne,q⟩
    . cases q
      rw[kX] at hv
      cases hv
      obtain⟨c,e,_,_,_,hB⟩:=p
      cases e
      exact hB
    . rw[out ne] at hv;exact R.own j o a q hv
  . rcases get_set hj with⟨rfl,q,_⟩ | ⟨ne,q⟩
    . cases q;cases p
    . rw[out ne] at hv;exact R.bor j o a q hv
  . obtain⟨h1,o,h2⟩:=R.par j a hj
    have ne:i≠j:=fun z=>by subst z;exact nb o h2
    exact⟨by rw[out ne];exact h1,o,by rw[Z4 ne];exact h2⟩
noncomputable def lV:GS:=fun S=>some (.nx S)
noncomputable def aG (a b:GS):GS:=fun S=>(a S).bind fun o=>match o with
 | .nx S1=>b S1
 | o=>some o
noncomputable def aR (i:Nat) (g:GE):GS:=fun S=>(g S).bind fun p=>match p.1 with
 | .m o=>(oJ i (.m o) p.2).map .nx
 | u=>(fz u p.2).bind fun q=>(oJ i (.t q.1) q.2).map .nx
noncomputable def jW (g:GE):GS:=fun S=>(g S).map fun p=>.nx p.2
noncomputable def dH (g:GE):GS:=fun S=>(g S).bind fun p=>match p.1 with
 | .v i=>match p.2[i]? with
  | some (some (.t d))=>some (.rt (.t d) p.2)
  | some (some (.m o))=>some (.rt (.m o) (p.2.set i none))
  | _=>none
 | .s _=>none
 | .f _=>none
 | u=>some (.rt u p.2)
noncomputable def v7 (q:GT) (a b:GS):GS:=fun S=>(q S).bind fun p=>if p.1 then a p.2 else b p.2
theorem B4.mono {F:Hp}{D:Ends}(g:∀b o,F b=some o->F1 b=some o):∀{o:Out},B4 K B F D o->B4 K B F1 D o
 | .nx _,h=>fun σ' F' H' R le=>h σ' F' H' R fun b o z=>le b o (g b o z)
 | .bk _,h=>fun σ' F' H' R le=>h σ' F' H' R fun b o z=>le b o (g b o z)
 | .ct _,h=>fun σ' F' H' R le=>h σ' F' H' R fun b o z=>le b o (g b o z)
 | .rt _ _,h=>fun v σ' F' H' R le=>h v σ' F' H' R fun b o z=>le b o (g b o z)
section
variable {X:Cx}{a b c e:Expr}{pos p p2:Pos}{x:Str}{st:Stmt}{rest b1 b2 body:List Stmt}{g:GE}{s1 s2:GS}{q1:GT}
def iC:JB X [] lV:=⟨fun B=>II.imp fun D σ H ⟨S,F,o,R,h,k⟩=>by cases h;exact k σ F H R fun _ _ z=>z⟩
def au (h1:JS X st s1) (h2:JB X rest s2):JB X (st :: rest) (aG s1 s2):=⟨fun B=>(tX (h1.h B) (h2.h B)).imp fun D σ H ⟨S,F,o,R,h,k⟩=>by
 obtain⟨o1,e1,h⟩:=ah h
 refine⟨S,F,o1,R,e1,?_⟩
 cases o1 with
 | nx S1=>exact fun σ' F' H' R' le=>⟨S1,F',o,R',h,k.mono le⟩
 | rt u S1=>cases h;exact k
 | bk S1=>cases h;exact k
 | ct S1=>cases h;exact k⟩
def aK (h1:JS X st s1):JB X [st] s1:=⟨fun B=>BN (h1.h B)⟩
def jJ.put {F:Hp}{v:V}{o:MO}(r:jJ K B S σ H0 F H v (.m o)):Lx B S σ F H v (.m o):=by
 obtain⟨a,e,_,f,h,n,hB⟩:=r
 exact⟨a,e,f,h,n,hB⟩
def xy {D:Ends}(h:tO K B (aR i g) D σ H):EU (tE K B g) (pS i) D σ H:=by
 obtain⟨S,F,o,R,h,k⟩:=h
 obtain⟨⟨u,S1⟩,h1,h⟩:=ah h
 refine⟨S,F,u,S1,R,h1,fun v F1 H1 R1 st1 r1=>?_⟩
 have go:(∀o',u≠.m o')->(fz u S1).bind (fun q=>(oJ i (.t q.1) q.2).map Out.nx)=some o->D.nx (σ.set i (some v)) H1:=fun _ h=>by
  obtain⟨⟨d,S2⟩,h2,h⟩:=ah h
  obtain⟨S3,h3,h⟩:=aq h
  subst h
  obtain⟨F2,R2,st2,r2⟩:=FD R1 st1 r1 h2
  exact k _ F2 H1 (R2.put h3 r2) st2.ext.le
 cases u with
 | m o'=>
  obtain⟨S3,h3,h⟩:=aq (show(oJ i (.m o') S1).map Out.nx=some o from h)
  subst h
  exact k _ F1 H1 (R1.put h3 r1.put) st1.ext.le
 | t d=>exact go (fun _ z=>by cases z) h
 | b d=>exact go (fun _ z=>by cases z) h
 | s d=>exact go (fun _ z=>by cases z) h
 | f d=>exact go (fun _ z=>by cases z) h
 | v d=>exact go (fun _ z=>by cases z) h
def MX (hN:X.N.Nodup) (hi:X.N[i]? =some x) (hx:Loc X.env.scope x) (he:JE X e g) (hs:swapsWith e (some (.Name x pos')) pos.line X.env=pure false:=by rfl)
  (hf:X.fn x=true\/X.env.scope.names.lookup x=some .local:=by first | exact .inl rfl | exact .inr rfl | assumption):JS X (.Assign [.Name x pos'] e pos) (aR i g):=
 ⟨fun B=>(Mh hN hi hx (he.h B) hs hf).imp fun D σ H h=>xy h⟩
def gm (he:JE X e g) (hs:swapsWith e none pos.line X.env=pure false:=by rfl):JS X (.Expr e pos) (jW g):=⟨fun B=>(BO (he.h B) hs).imp fun D σ H ⟨S,F,o,R,h,k⟩=>by
 obtain⟨⟨u,S1⟩,h1,h⟩:=aq h
 subst h
 exact⟨S,F,u,S1,R,h1,fun v F1 H1 R1 st1 r1=>k σ F1 H1 R1 st1.ext.le⟩⟩
def Rel.drop {F:Hp}{o:MO}(R:Rel K B S σ F H) (h:S[i]? =some (some (.m o))):Rel K B (S.set i none) σ F H:=by
 have back:∀{j w},(S.set i none)[j]? =some (some w)->i≠j/\S[j]? =some (some w):=fun {j w} z=>by
  rcases get_set z with⟨_,q,_⟩ | q
  ·cases q
  ·exact q
 refine⟨R.sub,by rw[aaw];exact R.len,fun j w z=>R.rep j w (back z).2,fun j k w1 w2 a h1 m1 h2 m2=>R.zd j k w1 w2 a (back h1).2 m1 (back h2).2 m2,fun j o a z=>R.own j o a (back z).2,fun j o a z=>R.bor j o a (back z).2,fun j a z=>?_,R.ext⟩
 obtain⟨k1,o',k2⟩:=R.par j a z
 have ne:i≠j:=fun z=>by subst z;rw[h] at k2;cases k2
 exact⟨k1,o',by rw[Z4 ne];exact k2⟩
def b7 (he:JE X e g):JS X (.Return (some e) pos) (dH g):=⟨fun B=>(Me (he.h B)).imp fun D σ H ⟨S,F,o,R,h,k⟩=>by
  obtain⟨⟨u,S1⟩,h1,h⟩:=ah h
  refine⟨S,F,u,S1,R,h1,fun v F1 H1 R1 st1 r1=>?_⟩
  cases u with
  | t d=>cases h;exact k v σ F1 H1 R1 st1.ext.le r1
  | b d=>cases h;cases r1
  | s d=>cases h
  | f d=>cases h
  | m o'=>cases h;exact k v σ F1 H1 R1 st1.ext.le (by obtain⟨a,e,h0,f,h,n,hB⟩:=r1;exact⟨a,e,hB,f,h,n,hB⟩)
  | v i =>
    obtain⟨hv,w,hw⟩:=r1
    dsimp only at h
    rw[hw] at h
    obtain⟨v',z1,z2⟩:=R1.rep i w hw
    rw[hv] at z1
    cases z1
    cases w with
    | t d=>cases h;exact k v σ F1 H1 R1 st1.ext.le z2
    | b d=>cases h
    | v d=>cases h
    | s d=>cases h
    | f d=>cases h
    | m o'=>
      cases h
      obtain⟨a,rfl,f,ha⟩:=z2
      have hB:=R1.own i o' a hw hv
      refine k _ σ F1 H1 (R1.drop hw) st1.ext.le ⟨a,rfl,hB,f,ha,fun⟨j,w,z,hm,hj⟩=>?_,hB⟩
      rcases get_set z with⟨_,q,_⟩ | ⟨ne,q⟩
      . cases q
      . exact ne (R1.zd i j _ w a hw rfl q hm hv hj)⟩
def jX (hc:JT X c q1) (ha:JB X b1 s1) (hb:JB X b2 s2):JS X (.If c b1 b2 pos) (v7 q1 s1 s2):=⟨fun B=>(PB (hc.h B) (ha.h B) (hb.h B)).imp fun D σ H ⟨S,F,o,R,h,k⟩=>by
 obtain⟨⟨d,S1⟩,h1,h⟩:=ah h
 refine⟨S,F,d,S1,R,h1,fun F1 H1 R1 st1=>?_⟩
 cases d with
 | true=>exact yY ⟨S1,F1,o,R1,h,k.mono st1.ext.le⟩
 | false=>exact yX ⟨S1,F1,o,R1,h,k.mono st1.ext.le⟩⟩
abbrev GB:=D->SS->Option SS
def W4 (K:AAA) (B:Base) (bd:GB):TG:=fun v σ H Q=>∃S F d S',Rel K B S σ F H/\Rep F v d/\bd d S=some S'/\∀σ',Rel K B S' σ' F H->Q σ' H
structure JG (X:Cx) (tg:Expr) (bd:GB):Prop where
 h:∀B,PG X tg (W4 X.K B bd)
abbrev Iu:=List D->SS->Option SS
noncomputable def UW (K:AAA) (B:Base) (bd:Iu):IJ:=fun vs σ H Q=>∃S F ds S',Rel K B S σ F H/\aX F vs ds/\bd ds S=some S'/\∀σ',Rel K B S' σ' F H->Q σ' H
structure SR (X:Cx) (FP:List Expr) (bd:Iu):Prop where
 h:∀B,Lj X FP (UW X.K B bd)
def PG.imp {t t':TG}(h:PG X tg t) (k:∀v σ H Q,t' v σ H Q->t v σ H Q):PG X tg t':=fun pins s σ H v u Q I r q=>h pins s σ H v u Q I r (k v σ H Q q)
def Lj.imp {tg:List Expr}{t t':IJ}(h:Lj X tg t) (k:∀v σ H Q,t' v σ H Q->t v σ H Q):Lj X tg t':=fun pins s σ H v u Q I r q=>h pins s σ H v u Q I r (k v σ H Q q)
noncomputable def bName (i:Nat):GB:=fun d S=>oJ i (.t d) S
def Ji (hN:X.N.Nodup) (hi:X.N[i]? =some x) (hx:Loc X.env.scope x) (hf:X.fn x=true\/X.env.scope.names.lookup x=some .local:=by first | exact .inl rfl | exact .inr rfl | assumption):JG X (.Name x pos) (bName i):=
 ⟨fun B=>(sZ hN hi hx hf).imp fun v σ H Q ⟨S,F,d,S',R,r,h,k⟩=>k _ (R.put h r)⟩
noncomputable def mV:Iu:=fun ds S=>match ds with
 | []=>some S
 | _=>none
noncomputable def cL (b:GB) (bs:Iu):Iu:=fun ds S=>match ds with
 | d :: r=>(b d S).bind fun S1=>bs r S1
 | []=>none
def nY:SR X [] mV:=⟨fun B=>BP.imp fun vs σ H Q ⟨S,F,ds,S',R,r,h,k⟩=>by
 cases r with
 | nil=>cases h;exact⟨rfl,k σ R⟩
 | cons _ _=>cases h⟩
def eV {Qv:Iu}(h1:JG X tg bd) (h2:SR X FP Qv) (hs:(assignEach (tg :: FP) X.env).map (·.2)=assign tg X.env :: (assignEach FP X.env).map (·.2):=by rfl):SR X (tg :: FP) (cL bd Qv):=
 ⟨fun B=>(tY (h1.h B) (h2.h B) hs).imp fun vs σ H Q ⟨S,F,ds,S',R,r,h,k⟩=>by
 cases r with
 | nil=>cases h
 | cons r rs=>
  obtain⟨S1,e1,h⟩:=ah h
  exact⟨_,_,rfl,S,F,_,S1,R,r,e1,fun σ1 R1=>⟨S1,F,_,S',R1,rs,h,k⟩⟩⟩
noncomputable def lW (n:Nat) (bs:Iu):GB:=fun d S=>match d with
 | .tup ds=>if ds.length=n then bs ds S else none
 | _=>none
def qO {k0:Nat}{Qv:Iu}(hc:X.calm=true) (h:SR X FP Qv) (hn:(assignEach FP X.env).length=n:=by rfl) (hst:(assignEach FP X.env).findIdx? (·.1)=none:=by rfl):JG X (.Tuple FP k0 pos) (lW n Qv):=
 ⟨fun B=>(ET hc (h.h B) hn hst).imp fun v σ H Q ⟨S,F,d,S',R,r,h,k⟩=>by
 cases d <;> try (cases h)
 rename_i ds
 unfold lW at h
 dsimp only at h
 split at h
 ·rename_i hl
  obtain⟨a,vs,rfl,fa,ha,rs⟩:=R.sub.iO r
  exact⟨a,vs,rfl,.inl ha,by rw[rs.length];exact hl,S,F,ds,S',R,rs,h,k⟩
 ·cases h⟩
noncomputable def Jj (bd:GB) (g:GD):GS:=fun S=>(g S).bind fun p=>(bd p.1 p.2).map .nx
def MY (he:JD X e gd) (hg:JG X tg bd) (hs:swapsWithSole [tg] e pos.line X.env=pure false:=by rfl) (hw:swappedStores [tg] e X.env=pure none:=by rfl)
  (h1:(assignEach [tg] X.env).map (·.2)=[assign tg X.env]:=by rfl):JS X (.Assign [tg] e pos) (Jj bd gd):=
 ⟨fun B=>(EV (he.h B) (hg.h B) hs hw h1).imp fun D σ H ⟨S,F,o,R,h,k⟩=>by
 obtain⟨⟨d,S1⟩,e1,h⟩:=ah h
 obtain⟨S2,e2,h⟩:=aq h
 subst h
 exact⟨S,F,d,S1,R,e1,fun v F1 H1 R1 st1 r1=>⟨S1,F1,d,S2,R1,r1,e2,fun σ' R2=>k σ' F1 H1 R2 st1.ext.le⟩⟩⟩
def Walk (J:It) (F:Hp) (ds:List D):Prop:=∀F' H',(∀b o,F b=some o->F' b=some o)->Sub F' H'->∀i,(∀d,ds[i]? =some d->J.go i H'/\∀x H2,J.OR i H' x H2->H2=H'/\Rep F' x d)/\(ds.length<=i->J.stop i H')
abbrev GI:=SS->Option (List D×SS)
def UX (K:AAA) (B:Base) (gi:GI):TI:=fun σ H R=>∃S F ds S',Rel K B S σ F H/\gi S=some (ds,S')/\∀J F' H',Rel K B S' σ F' H'->Step S S' σ F H F' H'->Walk J F' ds->R J H'
structure JI (X:Cx) (tg e:Expr) (gi:GI):Prop where
 h:∀B,PI X tg e (UX X.K B gi)
def PI.orelse {wi:TI}(h:∀σ H R,wi σ H R->∃wi',PI X tg e wi'/\wi' σ H R):PI X tg e wi:=fun pins s σ H R I q=>let⟨_,h1,h2⟩:=h σ H R q;h1 pins s σ H R I h2
noncomputable def FQ (g:GD):GI:=fun S=>(g S).bind fun p=>match p.1 with
 | .tup ds=>some (ds,p.2)
 | .lst ds=>some (ds,p.2)
 | _=>none
noncomputable def bM (g:GD):GI:=fun S=>(g S).bind fun p=>match p.1 with
 | .tup ds=>some (ds,p.2)
 | .lst ds=>some (ds,p.2)
 | .str z=>some (z.cps.toList.map fun c=>.str ⟨#[c]⟩,p.2)
 | _=>none
def v9 {F:Hp}{a:Addr}(fa:Rd F a (.lst vs)) (rs:aX F vs ds):Walk (Ul K a) F ds:=fun F' H' le sb i=>by
 have ha:m5 K H' a vs:=.inl (fa.imp (fun z=>sb a _ (le _ _ z)) fun⟨o,z⟩=>⟨o,sb a _ (le _ _ z)⟩)
 refine⟨fun d hd=>?_,fun hl=>⟨vs,ha,by rw[rs.length];exact hl⟩⟩
 obtain⟨v,h1,h2⟩:=rs.get hd
 refine⟨⟨vs,v,ha,h1⟩,fun x H2 y=>⟨y.1,?_⟩⟩
 have:=y.2 vs ha
 rw[h1] at this
 cases this
 exact h2.le le
def zj {F:Hp}{a:Addr}(fa:F a=some (.tup vs)) (rs:aX F vs ds):Walk (Um K a) F ds:=fun F' H' le sb i=>by
 have ha:wX K H' a vs:=.inl (Rd.of (sb a _ (le _ _ fa)))
 refine⟨fun d hd=>?_,fun hl=>⟨vs,ha,by rw[rs.length];exact hl⟩⟩
 obtain⟨v,h1,h2⟩:=rs.get hd
 refine⟨⟨vs,v,ha,h1⟩,fun x H2 y=>⟨y.1,?_⟩⟩
 have:=y.2 vs ha
 rw[h1] at this
 cases this
 exact h2.le le
def FT {F:Hp}{z:Str}:Walk (US z) F (z.cps.toList.map fun c=>.str ⟨#[c]⟩):=fun F' H' le sb i=>by
 refine⟨fun d hd=>?_,fun hl=>(show z.cps.size<=i by simpa using hl)⟩
 rw[ZF] at hd
 obtain⟨c,hc,rfl⟩:=aq hd
 have hc':z.cps[i]? =some c:=by rw[<-aaX];exact hc
 refine⟨(acZ.mp hc').1,fun x H2 y=>⟨y.1,?_⟩⟩
 obtain⟨c2,k1,rfl⟩:=y.2
 rw[hc'] at k1
 cases k1
 exact .str _
def FU (h:JD X e gd):JI X tg e (FQ gd):=⟨fun B=>PI.orelse fun σ H R0 ⟨S,F,ds,S',R,hg,k⟩=>by
 obtain⟨⟨d,S1⟩,h1,hg⟩:=ah hg
 cases d <;> try (cases hg)
 ·refine⟨_,EZ (h.h B),S,F,_,_,R,h1,fun v F1 H1 R1 st1 r1=>?_⟩
  obtain⟨a,vs,rfl,fa,ha,rs⟩:=R1.sub.iO r1
  exact⟨a,rfl,⟨vs,.inl ha⟩,k _ F1 H1 R1 st1 (zj fa rs)⟩
 ·refine⟨_,BQ (h.h B),S,F,_,_,R,h1,fun v F1 H1 R1 st1 r1=>?_⟩
  obtain⟨a,vs,rfl,fa,ha,rs⟩:=R1.sub.iB r1
  exact⟨a,rfl,⟨vs,.inl ha⟩,k _ F1 H1 R1 st1 (v9 fa rs)⟩⟩
def bW (h:JD X e gd):JI X (.Name x pos) e (bM gd):=⟨fun B=>PI.orelse fun σ H R0 ⟨S,F,ds,S',R,hg,k⟩=>by
 obtain⟨⟨d,S1⟩,h1,hg⟩:=ah hg
 cases d <;> try (cases hg)
 ·refine⟨_,MT (h.h B),S,F,_,_,R,h1,fun v F1 H1 R1 st1 r1=>?_⟩
  exact⟨_,B5 r1,k _ F1 H1 R1 st1 FT⟩
 ·refine⟨_,EZ (h.h B),S,F,_,_,R,h1,fun v F1 H1 R1 st1 r1=>?_⟩
  obtain⟨a,vs,rfl,fa,ha,rs⟩:=R1.sub.iO r1
  exact⟨a,rfl,⟨vs,.inl ha⟩,k _ F1 H1 R1 st1 (zj fa rs)⟩
 ·refine⟨_,BQ (h.h B),S,F,_,_,R,h1,fun v F1 H1 R1 st1 r1=>?_⟩
  obtain⟨a,vs,rfl,fa,ha,rs⟩:=R1.sub.iB r1
  exact⟨a,rfl,⟨vs,.inl ha⟩,k _ F1 H1 R1 st1 (v9 fa rs)⟩⟩
noncomputable def gT (lo:Int) (n:Nat):List D:=(List.range n).map fun(k:Nat)=>D.int (lo+(k:Int))
noncomputable def cS (gA:GA):GI:=fun S=>(gA S).bind fun p=>match p.1 with
 | [.int j]=>if j < 1000000/\-1000000 < j then some (gT 0 j.toNat,p.2) else none
 | _=>none
def FW {F:Hp}{lo:Int}:Walk (SH lo n) F (gT lo n):=fun F' H' le sb i=>by
 refine⟨fun d hd=>?_,fun hl=>(show n<=i by simpa[gT] using hl)⟩
 unfold gT at hd
 rw[ZF] at hd
 obtain⟨c,hc,rfl⟩:=aq hd
 obtain⟨hl,e⟩:=Zy.mp hc
 rw[acX] at e
 subst e
 refine⟨show i < n by simpa using hl,fun x H2 y=>⟨y.1,?_⟩⟩
 rw[y.2]
 exact .int _
def cW  {gA : GA} (hg : Gl X "range") (hm : X.mg "range" = none) (ha : JA X [a] gA) (hs : starEach [a] X.env = [(false, eval a X.env)] := by rfl) : JI X tg (.Call (.Name "range" p) [a] [] pos) (cS gA) :=
  ⟨fun B=>PI.orelse fun σ H R0 ⟨S,F,ds,S',R,hg',k⟩=>by
  obtain⟨⟨d,S1⟩,h1,hg'⟩:=ah hg'
  refine⟨_,Dc hg hm (ha.h B) hs,S,F,d,S1,R,h1,fun vs F1 H1 R1 st1 r1=>?_⟩
  dsimp only at hg'
  split at hg'
  . split at hg'
    . rename_i j hj
      cases hg'
      cases r1 with
      | cons r rs=>
        cases rs
        exact⟨j,by rw[gj r],by omega,by omega,k _ F1 H1 R1 st1 FW⟩
    . cases hg'
  . cases hg'⟩
noncomputable def loop (bd:GB) (body:GS):List D->SS->Option Out
 | [],S=>some (.nx S)
 | d :: ds,S=>(bd d S).bind fun S1=>(body S1).bind fun o=>match o with
  | .nx S2=>loop bd body ds S2
  | .ct S2=>loop bd body ds S2
  | .bk S2=>some (.nx S2)
  | .rt u S2=>some (.rt u S2)
noncomputable def gM (bd:GB) (gi:GI) (body:GS):GS:=fun S=>(gi S).bind fun p=>loop bd body p.1 p.2
def fV (hp:PassesOwn (model X.prog X.w) X.A X.env X.xe) (hc:X.calm=true) (hi:JI X tg iter gi) (hg:JG X tg bd) (hb:JB X body s1) (hs:∀x,foldedSetIterable iter X.env x=pure x:=by intro _;rfl):
  JS X (.For tg iter body [] pos) (gM bd gi s1):=⟨fun B=>(AJ hp hc (hi.h B) (hg.h B) (hb.h B) hs).imp fun D σ H ⟨S,F,o,R,h,k⟩=>by
 obtain⟨⟨ds,S1⟩,h1,h⟩:=ah h
 refine⟨S,F,ds,S1,R,h1,fun J F1 H1 R1 st1 w=>?_⟩
 refine⟨fun i m σ' H'=>∃S' F',Rel X.K B S' σ' F' H'/\(∀b o,F1 b=some o->F' b=some o)/\i<=ds.length/\m=ds.length - i/\loop bd s1 (ds.drop i) S'=some o,⟨_,S1,F1,R1,fun _ _ z=>z,Z3 _,rfl,h⟩,?_⟩
 rintro i m σ' H' ⟨S',F',R',le,hl,rfl,cC⟩
 have w':=w F' H' le R'.sub i
 by_cases hlt:i < ds.length
 ·have hd:ds[i]? =some ds[i]:=Zz hlt
  obtain⟨go,yl⟩:=w'.1 _ hd
  rw[aai hlt] at cC
  obtain⟨S2,e2,cC⟩:=ah cC
  obtain⟨o2,e3,cC⟩:=ah cC
  refine .inr ⟨go,_,fun σ2 H2 n=>⟨ds.length - (i+1),by omega,n⟩,fun x H2 y=>?_⟩
  obtain⟨rfl,rx⟩:=yl x H2 y
  refine⟨S',F',_,S2,R',rx,e2,fun σ3 R3=>⟨S2,F',o2,R3,e3,?_⟩⟩
  cases o2 with
  | nx S3=>exact fun yD F4 H4 R4 sJ=>⟨S3,F4,R4,fun b o z=>sJ b o (le b o z),hlt,rfl,cC⟩
  | ct S3=>exact fun yD F4 H4 R4 sJ=>⟨S3,F4,R4,fun b o z=>sJ b o (le b o z),hlt,rfl,cC⟩
  | bk S3=>cases cC;exact fun yD F4 H4 R4 sJ=>k yD F4 H4 R4 fun b o z=>sJ b o (le b o (st1.ext.le b o z))
  | rt u S3=>cases cC;exact fun v yD F4 H4 R4 sJ=>k v yD F4 H4 R4 fun b o z=>sJ b o (le b o (st1.ext.le b o z))
 ·have e:i=ds.length:=by omega
  subst e
  rw[abG] at cC
  cases cC
  exact .inl ⟨w'.2 (ZM _),k σ' F' H' R' fun b o z=>le b o (st1.ext.le b o z)⟩⟩
noncomputable def mK (q:GT) (body:GS):Nat->SS->Option Out
 | 0,_=>none
 | n+1,S=>(q S).bind fun p=>if p.1 then(body p.2).bind fun o=>match o with
  | .nx S2=>mK q body n S2
  | .ct S2=>mK q body n S2
  | .bk S2=>some (.nx S2)
  | .rt u S2=>some (.rt u S2)
 else some (.nx p.2)
noncomputable def lX (fuel:Nat) (q:GT) (body:GS):GS:=fun S=>mK q body fuel S
def p8 {fuel:Nat}(hp:PassesOwn (model X.prog X.w) X.A X.env X.xe) (hc:JT X c q1) (hb:JB X body s1):JS X (.While c body [] pos) (lX fuel q1 s1):=⟨fun B=>(EX hp (hc.h B) (hb.h B)).imp fun D σ H ⟨S,F,o,R,h,k⟩=>by
 refine⟨fun m σ' H'=>∃S' F',Rel X.K B S' σ' F' H'/\(∀b o,F b=some o->F' b=some o)/\mK q1 s1 m S'=some o,⟨fuel,S,F,R,fun _ _ z=>z,h⟩,?_⟩
 rintro m σ' H' ⟨S',F',R',le,h⟩
 cases m with
 | zero=>cases h
 | succ m=>
  obtain⟨⟨d,S1⟩,h1,h⟩:=ah h
  refine⟨S',F',d,S1,R',h1,fun F1 H1 R1 st1=>?_⟩
  cases d with
  | false=>
   cases h
   exact yX (k σ' F1 H1 R1 fun b o z=>st1.ext.le b o (le b o z))
  | true=>
   obtain⟨o2,e3,h⟩:=ah (show(s1 S1).bind _=some o from h)
   refine yY ⟨_,fun σ2 H2 n=>⟨m,abZ m,n⟩,S1,F1,o2,R1,e3,?_⟩
   have SV:∀b o,F b=some o->F1 b=some o:=fun b o z=>st1.ext.le b o (le b o z)
   cases o2 with
   | nx S3=>exact fun yD F4 H4 R4 sJ=>⟨S3,F4,R4,fun b o z=>sJ b o (SV b o z),h⟩
   | ct S3=>exact fun yD F4 H4 R4 sJ=>⟨S3,F4,R4,fun b o z=>sJ b o (SV b o z),h⟩
   | bk S3=>cases h;exact fun yD F4 H4 R4 sJ=>k yD F4 H4 R4 fun b o z=>sJ b o (SV b o z)
   | rt u S3=>cases h;exact fun v yD F4 H4 R4 sJ=>k v yD F4 H4 R4 fun b o z=>sJ b o (SV b o z)⟩
end
noncomputable def OU:U->MO->Option U
 | .m _,o=>some (.m o)
 | .b _,o=>some (.b o)
 | _,_=>none
noncomputable def OV:U->Option MO
 | .m o=>some o
 | .b o=>some o
 | _=>none
noncomputable def kJ (S:SS) (i:Nat) (f:MO->Option (D×MO)):Option (D×SS):=match S[i]? with
 | some (some (.m o))=>(f o).map fun r=>(r.1,S.set i (some (.m r.2)))
 | some (some (.b o))=>(f o).map fun r=>(r.1,S.set i (some (.b r.2)))
 | _=>none
def At.Qw {F:Hp}{o:MO}{ob:Obj}{u:HO}(h:At F H a o):H a≠some (.jw ob u):=fun z=>by
 cases o with
 | lst ds=>obtain⟨vs,e,_⟩:=h;rw[z] at e;cases e
 | dct ds=>obtain⟨vs,e,_⟩:=h;rw[z] at e;cases e
 | oH ds=>obtain⟨vs,e,_⟩:=h;rw[z] at e;cases e
 | ins C ds=>obtain⟨vs,⟨dx,e⟩,_⟩:=h;rw[z] at e;cases e
def ug.cA {F:Hp}{v:V}(r:ug K F H v u) (hm:fT u=true):∃a o,v= .ref a/\F a=none/\OV u=some o/\At F H a o:=by
 cases u with
 | t d=>cases hm
 | v d=>cases hm
 | s d=>cases hm
 | f d=>cases hm
 | m o=>obtain⟨a,e,f,h⟩:=r;exact⟨a,o,e,f,rfl,h⟩
 | b o=>obtain⟨a,e,f,h⟩:=r;exact⟨a,o,e,f,rfl,h⟩
def Rel.write     {F:Hp}  {u':U}  {ho : HO} {o : MO} (R : Rel K B S σ F H) (hS : S[i]? = some (some u)) (hu : OU u o = some u') (hv : σ[i]? = some (some (.ref a))) (ha : At F (upd H a ho) a o) :
    Rel K B (S.set i (some u')) σ F (upd H a ho)/\Step S (S.set i (some u')) σ F H F (upd H a ho):=by
  have hm:fT u=true/\fT u'=true:=by cases u <;> cases hu <;> exact⟨rfl,rfl⟩
  have Qx:F a=none/\∀b ob w,H b=some (.jw ob w)->b≠a:=by
    obtain⟨v,h1,h2⟩:=R.rep i u hS
    rw[hv] at h1
    cases h1
    obtain⟨b,_,e,f,_,k⟩:=h2.cA hm.1
    cases e
    exact⟨f,fun b ob w z e=>k.Qw (by rw[e] at z;exact z)⟩
  have Qy:=Qx.1
  have Lz:∀b ob w,H b=some (.jw ob w)->upd H a ho b=some (.jw ob w):=fun b ob w z=>by rw[az (Qx.2 b ob w z)];exact z
  have Yb:L2.cA S σ a:=⟨i,u,hS,hm.1,hv⟩
  have hl:i < S.length:=(Zy.mp hS).1
  have kb:∀{j w},(S.set i (some u'))[j]? =some (some w)->(i=j/\u'=w)\/(i≠j/\S[j]? =some (some w)):=fun {j w} z=>by
    rcases get_set z with⟨e,q,_⟩ | q
    . exact .inl ⟨e,ZU q⟩
    . exact .inr q
  have orig:∀{j w},(S.set i (some u'))[j]? =some (some w)->fT w=true->∃w0,S[j]? =some (some w0)/\fT w0=true:=fun {j w} z hw=>by
    rcases kb z with⟨rfl,rfl⟩ | ⟨_,q⟩
    . exact⟨u,hS,hm.1⟩
    . exact⟨w,q,hw⟩
  have keepR:∀b o,b≠a->Rd H b o->Rd (upd H a ho) b o:=fun b o ne r=>by
    rcases r with r | ⟨ob,r⟩
    . exact .inl (by rw[az ne];exact r)
    . exact .inr ⟨ob,by rw[az ne];exact r⟩
  refine⟨⟨fun b o z=>by rw[az (fun e=>by rw[e,Qy] at z;cases z)];exact R.sub b o z,by rw[aaw];exact R.len,fun j w z=>?_,fun j k w1 w2 c z1 m1 z2 m2=>?_,fun j o' c z hc=>?_,fun j o' c z hc=>?_,fun j c z=>?_,?_⟩,⟨?_,fun c ⟨j,w,z,hw,hc⟩=>?_,fun j w z=>?_⟩⟩
  . rcases kb z with⟨rfl,rfl⟩ | ⟨ne,q⟩
    . refine⟨.ref a,hv,?_⟩
      cases u <;> cases hu
      . exact⟨a,rfl,Qy,ha⟩
      . exact⟨a,rfl,Qy,ha⟩
    . obtain⟨v,h1,h2⟩:=R.rep j w q
      refine⟨v,h1,?_⟩
      by_cases hw:fT w=true
      . obtain⟨c,o',rfl,f,e,h⟩:=h2.cA hw
        have hca:c≠a:=fun z=>ne (R.zd i j u w a hS hm.1 q hw hv (by rw[h1,z]))
        have h':At F (upd H a ho) c o':=h.le (fun _ _ z=>z) fun o z=>by rw[az hca];exact z
        cases w <;> cases hw <;> cases e
        . exact⟨c,rfl,f,h'⟩
        . exact⟨c,rfl,f,h'⟩
      . cases w with
        | t d=>exact h2
        | v d=>exact h2
        | s d=>obtain⟨c,e,h⟩:=h2;exact⟨c,e,h.le Lz⟩
        | f d=>exact h2
        | m o=>exact absurd rfl hw
        | b o=>exact absurd rfl hw
  . obtain⟨UY,q1,n1⟩:=orig z1 m1
    obtain⟨UZ,q2,n2⟩:=orig z2 m2
    exact R.zd j k UY UZ c q1 n1 q2 n2
  . rcases kb z with⟨rfl,rfl⟩ | ⟨_,q⟩
    . cases u <;> cases hu
      exact R.own _ _ c hS hc
    . exact R.own j o' c q hc
  . rcases kb z with⟨rfl,rfl⟩ | ⟨_,q⟩
    . cases u <;> cases hu
      exact R.bor _ _ c hS hc
    . exact R.bor j o' c q hc
  . obtain⟨k1,o',k2⟩:=R.par j c z
    refine⟨k1,?_⟩
    by_cases e:i=j
    . subst e
      rw[hS] at k2
      cases k2
      cases hu
      exact⟨o,aad hl⟩
    . exact⟨o',by rw[Z4 e];exact k2⟩
  . refine⟨R.ext.le,fun b o z n=>?_,R.ext.iw,fun b o z=>?_,fun b o w z=>Lz b o w (R.ext.jw b o w z)⟩
    . have hb:b≠a:=fun e=>by
        subst e
        cases u with
        | m o'=>rw[R.own i o' b hS hv] at z;cases z
        | b o'=>exact n (R.bor i o' b hS hv)
        | t d=>cases hu
        | v d=>cases hu
        | s d=>cases hu
        | f d=>cases hu
      rw[az hb]
      exact R.ext.keep b o z n
    . by_cases hb:b=a
      . exact⟨ho,by rw[hb,aD]⟩
      . rw[az hb];exact R.ext.there b o z
  . refine⟨fun _ _ z=>z,fun b o z n=>?_,fun _ _ _ _ z=>z,fun b o z=>?_,Lz⟩
    . rw[az (fun e=>n (by rw[e];exact Yb))];exact z
    . by_cases hb:b=a
      . exact⟨ho,by rw[hb,aD]⟩
      . exact⟨o,by rw[az hb];exact z⟩
  . obtain⟨w0,q,n⟩:=orig z hw
    exact⟨j,w0,q,n,hc⟩
  . by_cases e:i=j
    . subst e;exact⟨u',aad hl⟩
    . exact⟨w,by rw[Z4 e];exact z⟩
def qP {f:MO->Option (D×MO)}{d:D}(h:kJ S i f=some (d,S')):∃u u' o o',S[i]? =some (some u)/\fT u=true/\OV u=some o/\f o=some (d,o')/\OU u o'=some u'/\S'=S.set i (some u'):=by
 unfold kJ at h
 split at h
 ·rename_i o e
  obtain⟨⟨d',o'⟩,h1,h⟩:=aq h
  cases h
  exact⟨_,_,o,o',e,rfl,rfl,h1,rfl,rfl⟩
 ·rename_i o e
  obtain⟨⟨d',o'⟩,h1,h⟩:=aq h
  cases h
  exact⟨_,_,o,o',e,rfl,rfl,h1,rfl,rfl⟩
 ·cases h
def U0 (r:V->List V->Hp->VK->Prop) (h:List D->MO->Option (D×MO)):Prop:=
 ∀F H a vs xs ds args res o',Sub F H->H a=some (.lst vs)->F a=none->aX F vs ds->aX F xs args->h args (.lst ds)=some (res,o')->
  ∀Q:VK,(∀rv ho,Rep F rv res->At F (upd H a ho) a o'->Q rv (upd H a ho))->r (.ref a) xs H Q
noncomputable def dP:MO->Bool
 | .lst _=>true
 | _=>false
noncomputable def AW (S:SS) (i:Nat):Bool:=match S[i]? with
 | some (some (.m (.lst _)))=>true
 | some (some (.b (.lst _)))=>true
 | _=>false
def MZ {F:Hp}(R:Rel K B S σ F H) (h:AW S i=true):∃u a vs ds,S[i]? =some (some u)/\fT u=true/\OV u=some (.lst ds)/\σ[i]? =some (some (.ref a))/\F a=none/\H a=some (.lst vs)/\aX F vs ds:=by
 unfold AW at h
 split at h
 ·rename_i ds e
  obtain⟨v,k1,a,rfl,f,vs,k2,k3⟩:=R.rep i _ e
  exact⟨_,a,vs,ds,e,rfl,rfl,k1,f,k2,k3⟩
 ·rename_i ds e
  obtain⟨v,k1,a,rfl,f,vs,k2,k3⟩:=R.rep i _ e
  exact⟨_,a,vs,ds,e,rfl,rfl,k1,f,k2,k3⟩
 ·cases h
noncomputable def eM (i:Nat) (h:List D->MO->Option (D×MO)) (gA:GA):GD:=fun S=>if AW S i then(gA S).bind fun p=>kJ p.2 i (h p.1) else none
def FY {F:Hp}(R:Rel K B S σ F H) (hS:S[i]? =some (some u)) (hm:fT u=true) (hi:OV u=some (.lst ds)) (hv:σ[i]? =some (some (.ref a))):F a=none/\∃vs,H a=some (.lst vs)/\aX F vs ds:=by
 obtain⟨v,k1,k2⟩:=R.rep i u hS
 rw[hv] at k1
 cases k1
 obtain⟨b,o2,e1,f,e2,k⟩:=k2.cA hm
 cases e1
 rw[hi] at e2
 cases e2
 exact⟨f,k⟩
section
variable {X:Cx}{a b c e:Expr}{es:List Expr}{pos p p2 apos cpos px:Pos}{x name:Str}{g ga gb gc:GD}{gA:GA}{id:String}
def iE {r:V->List V->Hp->VK->Prop}{h:List D->MO->Option (D×MO)}(slot:Slot "list" name id) (hty:typeOf (.builtin id)=pure (.type "method_descriptor")) (hm:Uw X id r) (hh:U0 r h) (hl:∀args o,dP o=false->h args o=none) (ha:JA X (e :: es) gA)
  (hN:X.N[i]? =some x:=by rfl) (hv:AE X.env.scope x:=by first | exact Or.inl rfl | exact Or.inr (Or.inl rfl) | exact Or.inr (Or.inr rfl))
  (hbase:attributeBase (.Name x px) name X.env (eval (.Name x px) X.env)=eval (.Name x px) X.env:=by rfl)
  (hfew:((backTo cpos (starEach (e :: es) X.env)).all (fun x=>!x.1) && (backToKw cpos (keywordEach [] X.env)).all (fun x=>x.1.isSome)
   && decide ((e :: es).length+([]:List Keyword).length+(if([]:List Keyword).isEmpty then 0 else 1) < 30))=true:=by rfl)
  (hline:(apos.endLine == cpos.line)=true:=by rfl) (hs:starEach (e :: es) X.env=(false,eval e X.env) :: starEach es X.env:=by rfl) (hplain:(backTo cpos (starEach es X.env)).any (·.1)=false:=by rfl)
  (hd:(x == ("__debug__":Str))=false:=by decide) (hcd:(x == ("__classdict__":Str))=false:=by decide):
  JD X (.Call (.Attribute (.Name x px) name apos) (e :: es) [] cpos) (eM i h gA):=
 ⟨fun B=>(Lq adp slot hty hm (gU hN hv hd hcd) (ha.h B) hbase hfew hline hs hplain).imp fun σ H Q ⟨S,F,d,S',R,hg,q⟩=>by
 unfold eM at hg
 split at hg
 ·rename_i hL
  obtain⟨⟨args,S1⟩,h1,hg⟩:=ah hg
  obtain⟨u,u',o,o',hS,M0,hio,hf,Iv,rfl⟩:=qP hg
  obtain⟨u0,a,WX,Dv,_,_,_,hv0,_,hH,_⟩:=MZ R hL
  cases o with
  | dct kvs=>rw[hl _ _ rfl] at hf;cases hf
  | oH kvs=>rw[hl _ _ rfl] at hf;cases hf
  | ins C kvs=>rw[hl _ _ rfl] at hf;cases hf
  | lst ds=>
   refine⟨.ref a,hv0,.inl ⟨rfl,WX,m5.of hH⟩,S,F,args,S1,R,h1,fun xs F1 H1 R1 st1 r1=>?_⟩
   obtain⟨hf1,vs,Yc,rs⟩:=FY R1 hS M0 hio hv0
   refine hh F1 H1 a vs xs ds args d o' R1.sub Yc hf1 rs r1 hf Q fun rv ho rr ha=>?_
   obtain⟨R2,st2⟩:=R1.write hS Iv hv0 ha
   exact q rv F1 _ R2 (st1.trans st2) rr
 ·cases hg⟩
noncomputable def hAppend:List D->MO->Option (D×MO)
 | [d],.lst ds=>if ds.length < 100000 then some (.bV,.lst (ds++[d])) else none
 | _,_=>none
def gn : U0 BZ hAppend := by
  intro F H a vs xs ds args res o' sb hH fa rs rx hw Q q
  unfold hAppend at hw
  split at hw
  . rename_i d ds' e2
    cases e2
    split at hw
    . rename_i hl
      cases hw
      cases rx with
      | cons r rr=>
        cases rr
        exact⟨a,vs,_,rfl,rfl,hH,by rw[rs.length];exact ZQ hl (by decide),q .bV _ .bV ⟨_,aD,rs.append (.cons r .nil)⟩⟩
    . cases hw
  . cases hw
def aX.dropLast {F:Hp}{vs:List V}{ds:List D}(r:aX F vs ds):aX F vs.dropLast ds.dropLast:=by
 rw[List.dropLast_eq_take,List.dropLast_eq_take,r.length]
 exact r.take _
end
def jJ.step {F:Hp}{v:V}(r:jJ K B S σ H0 F H v u) (st:Step S S' σ F H F' H'):jJ K B S' σ H0 F' H' v u:=by
 cases u with
 | t d=>exact r.le st.ext.le
 | b o=>exact r
 | v i=>obtain⟨h1,u,h2⟩:=r;exact⟨h1,st.slots i u h2⟩
 | s i=>obtain⟨a,e,h⟩:=r;exact⟨a,e,h.le st.ext.jw⟩
 | f i=>exact r
 | m o=>
  obtain⟨a,e,h0,f,h,n,hB⟩:=r
  obtain⟨ho,hh⟩:=h.has
  exact⟨a,e,h0,st.ext.iw a ho hh n f,h.le st.ext.le fun o z=>st.ext.keep a o z n,fun m=>n (st.mu a m),hB⟩
abbrev GU:=SS->Option (List U×SS)
def Yd (K:AAA) (B:Base) (gu:GU):TA:=fun σ H Q=>∃S F us S',Rel K B S σ F H/\gu S=some (us,S')/\∀vs F' H',Rel K B S' σ F' H'->Step S S' σ F H F' H'->Paired (fun v u=>jJ K B S' σ H F' H' v u) vs us->Q vs H'
structure JU (X:Cx) (es:List Expr) (gu:GU):Prop where
 h:∀B,PA X es (Yd X.K B gu)
 len:∀S us S',gu S=some (us,S')->us.length=es.length
noncomputable def cu:GU:=fun S=>some ([],S)
noncomputable def bg (g:GD) (gu:GU):GU:=fun S=>(g S).bind fun p=>(gu p.2).map fun q=>(.t p.1 :: q.1,q.2)
noncomputable def kK (g:GE) (gu:GU):GU:=fun S=>(g S).bind fun p=>(gu p.2).map fun q=>(p.1 :: q.1,q.2)
section
variable {X:Cx}{e:Expr}{es:List Expr}{g:GD}{ge:GE}{gu:GU}
def bN:JU X [] cu:=⟨fun B=>lO.imp fun σ H Q ⟨S,F,us,S',R,hg,q⟩=>by
 cases hg
 exact q [] F H R (Step.refl ..) .nil,fun S us S' h=>by cases h;rfl⟩
def aP (h:JD X e g) (hr:JU X es gu) (hs:starEach (e :: es) X.env=(false,eval e X.env) :: starEach es X.env:=by rfl):JU X (e :: es) (bg g gu):=
 ⟨fun B=>(jH (h.h B) (hr.h B) hs).imp fun σ H Q ⟨S,F,us,S',R,hg,q⟩=>by
 obtain⟨⟨d,S1⟩,h1,hg⟩:=ah hg
 obtain⟨⟨M1,S2⟩,h2,hg⟩:=aq hg
 cases hg
 exact⟨S,F,d,S1,R,h1,fun v F1 H1 R1 st1 r1=>⟨S1,F1,M1,S2,R1,h2,fun vs F2 H2 R2 st2 r2=>q _ F2 H2 R2 (st1.trans st2) (.cons (r1.le st2.ext.le) (Paired.C4 r2 fun _ _ z=>z.weak st1.ext.there))⟩⟩,
 fun S us S' hg=>by
  obtain⟨⟨d,S1⟩,h1,hg⟩:=ah hg
  obtain⟨⟨M1,S2⟩,h2,hg⟩:=aq hg
  cases hg
  show M1.length+1=es.length+1
  rw[hr.len _ _ _ h2]⟩
def jY (h:JE X e ge) (hr:JU X es gu) (hs:starEach (e :: es) X.env=(false,eval e X.env) :: starEach es X.env:=by rfl):JU X (e :: es) (kK ge gu):=
 ⟨fun B=>(jH (h.h B) (hr.h B) hs).imp fun σ H Q ⟨S,F,us,S',R,hg,q⟩=>by
 obtain⟨⟨d,S1⟩,h1,hg⟩:=ah hg
 obtain⟨⟨M1,S2⟩,h2,hg⟩:=aq hg
 cases hg
 exact⟨S,F,d,S1,R,h1,fun v F1 H1 R1 st1 r1=>⟨S1,F1,M1,S2,R1,h2,fun vs F2 H2 R2 st2 r2=>q _ F2 H2 R2 (st1.trans st2) (.cons (r1.step st2) (Paired.C4 r2 fun _ _ z=>z.weak st1.ext.there))⟩⟩,
 fun S us S' hg=>by
  obtain⟨⟨d,S1⟩,h1,hg⟩:=ah hg
  obtain⟨⟨M1,S2⟩,h2,hg⟩:=aq hg
  cases hg
  show M1.length+1=es.length+1
  rw[hr.len _ _ _ h2]⟩
end
noncomputable def resolve (S:SS):U->Option U
 | .t d=>some (.t d)
 | .v i=>match S[i]? with
  | some (some (.m o))=>some (.b o)
  | some (some (.b o))=>some (.b o)
  | _=>none
 | .m o=>some (.b o)
 | .b _=>none
 | .s ns=>some (.s ns)
 | .f a=>some (.f a)
noncomputable def cy (S:SS):List U->Option (List U)
 | []=>some []
 | u :: us=>(resolve S u).bind fun w=>(cy S us).map fun ws=>w :: ws
noncomputable def slotsOf:List U->List Nat
 | []=>[]
 | .v i :: us=>i :: slotsOf us
 | _ :: us=>slotsOf us
noncomputable def cM:List U->Nat
 | []=>0
 | .m _ :: us=>cM us+1
 | _ :: us=>cM us
noncomputable def wb:List U->List MO->SS->Option SS
 | [],[],S=>some S
 | .v i :: us,o :: outs,S=>match S[i]? with
  | some (some (.m _))=>wb us outs (S.set i (some (.m o)))
  | some (some (.b _))=>wb us outs (S.set i (some (.b o)))
  | _=>none
 | .m _ :: us,_ :: outs,S=>wb us outs S
 | .t _ :: us,outs,S=>wb us outs S
 | .s _ :: us,outs,S=>wb us outs S
 | .f _ :: us,outs,S=>wb us outs S
 | _,_,_=>none
abbrev FM:=List U->Option (U×List MO)
noncomputable def bq (f:FM) (gu:GU):GE:=fun S=>(gu S).bind fun p=>
 if(slotsOf p.1).Nodup/\cM p.1<=1 then(cy p.2 p.1).bind fun us=>(f us).bind fun r=>(wb p.1 r.2 p.2).map fun S2=>(r.1,S2) else none
def FZ (K:AAA) (F H:Hp) (v:V):U->Prop
 | .s ns=>∃a,v= .ref a/\Je K H a ns
 | .f a=>v= .ref a
 | .t d=>Rep F v d
 | .b o=>∃a,v= .ref a/\F a=none/\At F H a o
 | _=>False
noncomputable def addrs:List V->List U->List Addr
 | .ref a :: vs,.b _ :: us=>a :: addrs vs us
 | _ :: vs,_ :: us=>addrs vs us
 | _,_=>[]
structure Post (F H F' H':Hp) (as:List Addr) (outs:List MO):Prop where
 sub:Sub F' H'
 ext:Ext (fun a=>a∈as) F H F' H'
 out:Paired (fun a o=>F' a=none/\At F' H' a o) as outs
noncomputable def spT (K:AAA) (n:Nat) (f:FM):Sp:=fun vs H Q _=>vs.length=n/\∃F us r outs,Sub F H/\Paired (FZ K F H) vs us/\(addrs vs us).Nodup/\f us=some (r,outs)/\∀v F' H',Post F H F' H' (addrs vs us) outs->Dr H F' H' v r->Q v H'
section
variable {K:AAA}{B:Base}{S S1 S2:SS}{σ:St}{H0 F H F' H':Hp}
def nZ {w:U}(h:resolve S (.v i)=some w):∃u o,S[i]? =some (some u)/\fT u=true/\OV u=some o/\w= .b o:=by
 unfold resolve at h
 dsimp only at h
 split at h
 ·rename_i o e;cases h;exact⟨_,o,e,rfl,rfl,rfl⟩
 ·rename_i o e;cases h;exact⟨_,o,e,rfl,rfl,rfl⟩
 ·cases h
theorem p9 (R:Rel K B S σ F H):∀{vs:List V}{us ws:List U},Paired (fun v u=>jJ K B S σ H0 F H v u) vs us->cy S us=some ws->Paired (FZ K F H) vs ws
 | _,_,_,.nil,h=>by cases h;exact .nil
 | _,_,_,@Paired.cons _ _ _ v u vs us r rs,h=>by
  obtain⟨w,h1,h⟩:=ah h
  obtain⟨ws,h2,h⟩:=aq h
  subst h
  refine .cons ?_ (p9 R rs h2)
  cases u with
  | t d=>cases h1;exact r
  | s d=>cases h1;exact r
  | f d=>cases h1;exact r
  | b o=>cases h1
  | m o=>cases h1;obtain⟨a,e,_,f,k,_⟩:=r;exact⟨a,e,f,k⟩
  | v i=>
   obtain⟨u,o,hu,hm,hi,rfl⟩:=nZ h1
   obtain⟨hv,_⟩:=r
   obtain⟨v',k1,k2⟩:=R.rep i u hu
   rw[hv] at k1
   cases k1
   obtain⟨a,o2,e,f,e2,k⟩:=k2.cA hm
   rw[hi] at e2
   cases e2
   exact⟨a,e,f,k⟩
theorem qb (R : Rel K B S σ F H) : ∀ {vs : List V} {us ws : List U}, Paired (fun v u => jJ K B S σ H0 F H v u) vs us -> cy S us = some ws -> ∀ a ∈ addrs vs ws,
    (∃i u,i∈slotsOf us/\S[i]? =some (some u)/\fT u=true/\σ[i]? =some (some (.ref a)))\/(0 < cM us/\H0 a=none/\B.H a=none/\¬cA S σ a)
  | _,_,_,.nil,h,a,ha=>by cases h;cases ha
  | _,_,_,@Paired.cons _ _ _ v u vs us r rs,h,a,ha=>by
    obtain⟨w,h1,h⟩:=ah h
    obtain⟨ws,h2,h⟩:=aq h
    subst h
    have ih:=qb R rs h2
    cases u with
    | t d=>
      cases h1
      have ha:a∈addrs vs ws:=by cases v <;> exact ha
      exact ih a ha
    | s d=>
      cases h1
      have ha:a∈addrs vs ws:=by cases v <;> exact ha
      exact ih a ha
    | f d=>
      cases h1
      have ha:a∈addrs vs ws:=by cases v <;> exact ha
      exact ih a ha
    | b o=>cases h1
    | m o =>
      cases h1
      obtain⟨c,rfl,k0,f,k,n,hB⟩:=r
      rcases ZV.mp (show a∈c :: addrs vs ws from ha) with rfl | ha
      . exact .inr ⟨Nat.succ_pos _,k0,hB,n⟩
      . rcases ih a ha with z | ⟨_,z⟩
        . exact .inl z
        . exact .inr ⟨Nat.succ_pos _,z⟩
    | v i =>
      obtain⟨u,o,hu,hm,hi,rfl⟩:=nZ h1
      obtain⟨hv,_⟩:=r
      obtain⟨v',k1,k2⟩:=R.rep i u hu
      rw[hv] at k1
      cases k1
      obtain⟨c,o2,rfl,f,e2,k⟩:=k2.cA hm
      rcases ZV.mp (show a∈c :: addrs vs ws from ha) with rfl | ha
      . exact .inl ⟨i,u,ZJ,hu,hm,hv⟩
      . rcases ih a ha with⟨j,w,z,z2⟩ | z
        . exact .inl ⟨j,w,ZI _ z,z2⟩
        . exact .inr z
theorem dz (R : Rel K B S σ F H) : ∀ {vs : List V} {us ws : List U}, Paired (fun v u => jJ K B S σ H0 F H v u) vs us -> cy S us = some ws -> (slotsOf us).Nodup -> cM us <= 1 -> (addrs vs ws).Nodup
  | _,_,_,.nil,h,_,_=>by cases h;exact aa0
  | _,_,_,@Paired.cons _ _ _ v u vs us r rs,h,nd,fr=>by
    obtain⟨w,h1,h⟩:=ah h
    obtain⟨ws,h2,h⟩:=aq h
    subst h
    cases u with
    | t d=>
      cases h1
      have:=dz R rs h2 nd fr
      cases v <;> exact this
    | s d=>
      cases h1
      have:=dz R rs h2 nd fr
      cases v <;> exact this
    | f d=>
      cases h1
      have:=dz R rs h2 nd fr
      cases v <;> exact this
    | b o=>cases h1
    | m o=>
      cases h1
      have Zf:cM us=0:=by have:cM us+1<=1:=fr;omega
      obtain⟨c,rfl,k0,f,k,n,hB⟩:=r
      refine aav.mpr ⟨fun hc=>?_,dz R rs h2 nd (by omega)⟩
      rcases qb R rs h2 c hc with⟨j,w,_,z1,z2,z3⟩ | ⟨z,_⟩
      . exact n ⟨j,w,z1,z2,z3⟩
      . omega
    | v i =>
      obtain⟨u,o,hu,hm,hi,rfl⟩:=nZ h1
      obtain⟨hv,_⟩:=r
      obtain⟨v',k1,k2⟩:=R.rep i u hu
      rw[hv] at k1
      cases k1
      obtain⟨c,o2,rfl,f,e2,k⟩:=k2.cA hm
      obtain⟨U1,OW⟩:=aav.mp (show(i :: slotsOf us).Nodup from nd)
      refine aav.mpr ⟨fun hc=>?_,dz R rs h2 OW fr⟩
      rcases qb R rs h2 c hc with⟨j,w,z0,z1,z2,z3⟩ | ⟨_,_,_,z⟩
      . have:=R.zd i j u w c hu hm z1 z2 hv z3
        subst this
        exact U1 z0
      . exact z ⟨i,u,hu,hm,hv⟩
theorem n5 (R : Rel K B S σ F H) (P : Addr -> MO -> Prop) : ∀ {vs : List V} {us ws : List U} {outs : List MO} {S1 S2 : SS}, Paired (fun v u => jJ K B S σ H0 F H v u) vs us -> cy S us = some ws -> wb us outs S1 = some S2 -> (slotsOf us).Nodup -> Paired P (addrs vs ws) outs ->
    S2.length=S1.length/\(∀j,j∉slotsOf us->S2[j]? =S1[j]?)/\∀j∈slotsOf us,∃u u' o a,S1[j]? =some (some u)/\OU u o=some u'/\S2[j]? =some (some u')/\σ[j]? =some (some (.ref a))/\P a o
  | _,_,_,_,_,_,.nil,h,hw,_,hp=>by
    cases h
    cases hp
    cases hw
    exact⟨rfl,fun _ _=>rfl,fun j hj=>by cases hj⟩
  | _, _, _, outs, S1, S2, @Paired.cons _ _ _ v u vs us r rs, h, hw, nd, hp => by
    obtain⟨w,h1,h⟩:=ah h
    obtain⟨ws,h2,h⟩:=aq h
    subst h
    cases u with
    | t d =>
      cases h1
      have hp:Paired P (addrs vs ws) outs:=by cases v <;> exact hp
      have hw:wb us outs S1=some S2:=by
        cases outs <;> exact hw
      have ih:=n5 R P rs h2 hw nd hp
      exact ih
    | s d =>
      cases h1
      have hp:Paired P (addrs vs ws) outs:=by cases v <;> exact hp
      have hw:wb us outs S1=some S2:=by
        cases outs <;> exact hw
      have ih:=n5 R P rs h2 hw nd hp
      exact ih
    | f d =>
      cases h1
      have hp:Paired P (addrs vs ws) outs:=by cases v <;> exact hp
      have hw:wb us outs S1=some S2:=by
        cases outs <;> exact hw
      have ih:=n5 R P rs h2 hw nd hp
      exact ih
    | b o=>cases h1
    | m o =>
      cases h1
      obtain⟨c,rfl,k0,f,k,n,hB⟩:=r
      cases hp with
      | cons p1 p2=>
        have ih:=n5 R P rs h2 (show wb us _ S1=some S2 from hw) nd p2
        exact ih
    | v i =>
      obtain⟨u0,o0,hu,hm,hi,rfl⟩:=nZ h1
      obtain⟨hv,_⟩:=r
      obtain⟨v',k1,k2⟩:=R.rep i u0 hu
      rw[hv] at k1
      cases k1
      obtain⟨c,o2,rfl,f,e2,k⟩:=k2.cA hm
      obtain⟨U1,OW⟩:=aav.mp (show(i :: slotsOf us).Nodup from nd)
      cases hp with
      | @cons _ o _ outs p1 p2 =>
        have go : ∀ u u', S1[i]? = some (some u) -> OU u o = some u' -> wb us outs (S1.set i (some u')) = some S2 -> S2.length = S1.length /\ (∀ j, j ∉ i :: slotsOf us -> S2[j]? = S1[j]?) /\ ∀ j ∈ i :: slotsOf us, ∃ u u' o a, S1[j]? = some (some u) /\ OU u o = some u' /\ S2[j]? = some (some u') /\ σ[j]? = some (some (.ref a)) /\ P a o := fun u u' e1 e2 hw => by
          obtain⟨l,out,kX⟩:=n5 R P rs h2 hw OW p2
          refine⟨by rw[l,aaw],fun j hj=>?_,fun j hj=>?_⟩
          . rw[out j fun z=>hj (ZI _ z),Z4 fun z=>hj (by rw[z];exact ZJ)]
          . by_cases e:i=j
            . subst e
              exact⟨u,u',o,c,e1,e2,by rw[out i U1];exact aad (Zy.mp e1).1,hv,p1⟩
            . rcases ZV.mp hj with z | z
              . exact absurd z.symm e
              . obtain⟨w,w',o',a',q1,q2,q3,q4,q5⟩:=kX j z
                rw[Z4 e] at q1
                exact⟨w,w',o',a',q1,q2,q3,q4,q5⟩
        unfold wb at hw
        split at hw
        . rename_i o' e;exact go _ _ e rfl hw
        . rename_i o' e;exact go _ _ e rfl hw
        . cases hw
end
def lY   {S2:SS}  {F:Hp}   {outs : List MO} (R : Rel K B S σ F H) (st : Step S0 S σ F0 H0 F H) (rr : Paired (fun v u => jJ K B S σ H0 F H v u) vs us) (hr : cy S us = some ws) (hw : wb us outs S = some S2) (nd : (slotsOf us).Nodup) (p : Post F H F' H' (addrs vs ws) outs) :
    Rel K B S2 σ F' H'/\Step S0 S2 σ F0 H0 F' H'/\∀a,cA S2 σ a->cA S σ a:=by
  obtain⟨hl,out,kX⟩:=n5 R (fun a o=>F' a=none/\At F' H' a o) rr hr hw nd p.out
  have Ye:∀{u:U}{o:MO}{u':U},OU u o=some u'->fT u=true/\fT u'=true/\OV u'=some o:=fun {u o u'} h=>by cases u <;> cases h <;> exact⟨rfl,rfl,rfl⟩
  have orig:∀{j w},S2[j]? =some (some w)->fT w=true->∃w0,S[j]? =some (some w0)/\fT w0=true:=fun {j w} z hm=>by
    by_cases hj:j∈slotsOf us
    . obtain⟨u,u',o,a,q1,q2,q3,q4,q5⟩:=kX j hj
      exact⟨u,q1,(Ye q2).1⟩
    . rw[out j hj] at z;exact⟨w,z,hm⟩
  have mu:∀a,cA S2 σ a->cA S σ a:=fun a ⟨j,w,z,hm,hv⟩=>let⟨w0,q,n⟩:=orig z hm;⟨j,w0,q,n,hv⟩
  have B8:=qb R rr hr
  refine⟨⟨p.sub,by rw[hl];exact R.len,fun j w z=>?_,fun j k w1 w2 c z1 m1 z2 m2=>?_,fun j o a z hv=>?_,fun j o a z hv=>?_,fun j a z=>?_,?_⟩,⟨⟨?_,?_,?_,?_,fun b o u z=>p.ext.jw b o u (st.ext.jw b o u z)⟩,fun a m=>st.mu a (mu a m),fun j u z=>?_⟩,mu⟩
  . by_cases hj:j∈slotsOf us
    . obtain⟨u,u',o,a,q1,q2,q3,q4,q5,q6⟩:=kX j hj
      rw[q3] at z
      cases z
      refine⟨.ref a,q4,?_⟩
      cases u <;> cases q2
      . exact⟨a,rfl,q5,q6⟩
      . exact⟨a,rfl,q5,q6⟩
    . rw[out j hj] at z
      obtain⟨v,h1,h2⟩:=R.rep j w z
      refine⟨v,h1,h2.le p.ext.le p.ext.jw fun a hm ha=>?_⟩
      have hna:a∉addrs vs ws:=fun hc=>by
        rcases B8 a hc with⟨i,u,q0,q1,q2,q3⟩ | ⟨_,_,_,q⟩
        . have:=R.zd i j u w a q1 q2 z hm q3 (by rw[h1,ha])
          subst this
          exact hj q0
        . exact q ⟨j,w,z,hm,by rw[h1,ha]⟩
      obtain⟨c,o,e,f,_,k⟩:=h2.cA hm
      rw[ha] at e
      cases e
      obtain⟨ho,hh⟩:=k.has
      exact⟨fun o q=>p.ext.keep a o q hna,p.ext.iw a ho hh hna f⟩
  . obtain⟨UY,q1,n1⟩:=orig z1 m1
    obtain⟨UZ,q2,n2⟩:=orig z2 m2
    exact R.zd j k UY UZ c q1 n1 q2 n2
  . by_cases hj:j∈slotsOf us
    . obtain⟨u,u',o',a',q1,q2,q3,q4,q5⟩:=kX j hj
      rw[q3] at z
      cases z
      cases u <;> cases q2
      exact R.own j _ a q1 hv
    . rw[out j hj] at z;exact R.own j o a z hv
  . by_cases hj:j∈slotsOf us
    . obtain⟨u,u',o',a',q1,q2,q3,q4,q5⟩:=kX j hj
      rw[q3] at z
      cases z
      cases u <;> cases q2
      exact R.bor j _ a q1 hv
    . rw[out j hj] at z;exact R.bor j o a z hv
  . obtain⟨k1,o,k2⟩:=R.par j a z
    refine⟨k1,?_⟩
    by_cases hj:j∈slotsOf us
    . obtain⟨u,u',o',a',q1,q2,q3,q4,q5⟩:=kX j hj
      rw[k2] at q1
      cases q1
      cases q2
      exact⟨_,q3⟩
    . exact⟨o,by rw[out j hj];exact k2⟩
  . refine R.ext.trans p.ext fun b hb=>?_
    rcases B8 b hb with⟨i,u,q0,q1,q2,q3⟩ | ⟨_,_,q,_⟩
    . cases u with
      | t d=>cases q2
      | v d=>cases q2
      | s d=>cases q2
      | f d=>cases q2
      | m o=>exact .inr (R.own i o b q1 q3)
      | b o=>exact .inl (R.bor i o b q1 q3)
    . exact .inr q
  . exact fun b o h=>p.ext.le b o (st.ext.le b o h)
  . intro b o h n
    refine p.ext.keep b o (st.ext.keep b o h n) fun hb=>?_
    rcases B8 b hb with⟨i,u,q0,q1,q2,q3⟩ | ⟨_,q,_⟩
    . exact n (st.mu b ⟨i,u,q1,q2,q3⟩)
    . rw[h] at q;cases q
  . intro b o h n f
    refine p.ext.iw b o (st.ext.keep b o h n) (fun hb=>?_) (st.ext.iw b o h n f)
    rcases B8 b hb with⟨i,u,q0,q1,q2,q3⟩ | ⟨_,q,_⟩
    . exact n (st.mu b ⟨i,u,q1,q2,q3⟩)
    . rw[h] at q;cases q
  . intro b o h
    obtain⟨o',h'⟩:=st.ext.there b o h
    exact p.ext.there b o' h'
  . obtain⟨u',h'⟩:=st.slots j u z
    by_cases hj:j∈slotsOf us
    . obtain⟨_,u2,_,_,_,_,q3,_⟩:=kX j hj
      exact⟨u2,q3⟩
    . exact⟨u',by rw[out j hj];exact h'⟩
section
variable {X:Cx}{e:Expr}{es:List Expr}{gu:GU}{x:Str}{p pos:Pos}{f:FM}{fa:Addr}{fd:FuncData}{ps:List Str}{k n:Nat}
def Jk (F:o7 X.prog X.w X.K X.mg X.base EE k fa fd ps (spT X.K n f)) (hr:jU k X.A) (hg:Gl X x) (hm:X.mg x=some (.ref fa)) (hk:PySem.W.keepIn X.K (.ref fa)=true) (hb:Binds X.K fd ps []) (ha:JU X (e :: es) gu) (hn:(e :: es).length=n:=by rfl)
  (hdb:(x == ("__debug__":Str))=false:=by decide) (he:starEach (e :: es) X.env=(false,eval e X.env) :: starEach es X.env:=by rfl) (hpl:(backTo pos (starEach es X.env)).any (·.1)=false:=by rfl):
  JE X (.Call (.Name x p) (e :: es) [] pos) (bq f gu):=⟨fun B=>(IQ F hr hg hm hk hb .nil Qj (ha.h B) hdb he hpl).imp fun σ H Q ⟨S,F0,u,S',R,hg,q⟩=>by
 obtain⟨⟨us,S1⟩,h1,hg⟩:=ah hg
 dsimp only at hg
 split at hg
 ·rename_i hc
  obtain⟨ws,h2,hg⟩:=ah hg
  obtain⟨⟨r,outs⟩,h3,hg⟩:=ah hg
  obtain⟨S2,h4,hg⟩:=aq hg
  cases hg
  refine⟨S,F0,us,S1,R,h1,fun vs F1 H1 R1 st1 rr=>?_⟩
  show spT X.K n f (vs++[]) H1 Q E0
  rw[abJ]
  have hlen:vs.length=n:=by rw[rr.length,ha.len _ _ _ h1];exact hn
  refine⟨hlen,F1,ws,r,outs,R1.sub,p9 R1 rr h2,dz R1 rr h2 hc.1 hc.2,h3,fun v F2 H2 po rn=>?_⟩
  obtain⟨R2,st2,mu⟩:=lY R1 st1 rr h2 h4 hc.1 po
  refine q v F2 H2 R2 st2 ?_
  cases r with
  | t d=>exact rn
  | b o=>cases rn
  | v i=>cases rn
  | s i=>cases rn
  | f i=>cases rn
  | m o=>
   obtain⟨a,e,h0,f,h⟩:=rn
   refine⟨a,e,none_of st1.ext.there h0,f,h,fun m=>?_,none_of R1.ext.there h0⟩
   obtain⟨o',ho⟩:=R1.has (mu a m)
   rw[h0] at ho
   cases ho
 ·cases hg⟩
end
noncomputable def aB:List U->SS->Option (List MO)
 | [],_=>some []
 | .b _ :: us,some (.b o) :: S=>(aB us S).map fun os=>o :: os
 | .b _ :: _,_=>none
 | _ :: us,_ :: S=>aB us S
 | _ :: _,[]=>none
noncomputable def bY (n:Nat) (g:GS):FM:=fun us=>(g (us.map some++List.replicate (n - us.length) none)).bind fun o=>match o with
 | .rt (.t d) S=>(aB us S).map fun os=>(.t d,os)
 | .rt (.m o) S=>(aB us S).map fun os=>(.m o,os)
 | .nx S=>(aB us S).map fun os=>(.t .bV,os)
 | _=>none
noncomputable def lent:List V->List U->List (Option Addr)
 | .ref a :: vs,.b _ :: us=>some a :: lent vs us
 | _ :: vs,_ :: us=>none :: lent vs us
 | _,_=>[]
theorem nq:∀(vs:List V) (us:List U) (a:Addr),some a∈lent vs us↔a∈addrs vs us
 | [],us,a=>by cases us <;> simp[lent,addrs]
 | v :: vs,[],a=>by cases v <;> simp[lent,addrs]
 | v :: vs,u :: us,a=>by
  have ih:=nq vs us a
  cases v <;> cases u <;> simp[lent,addrs,ih]
theorem zl:∀{vs:List V}{us:List U}{i:Nat}{a:Addr},(lent vs us)[i]? =some (some a)->vs[i]? =some (.ref a)/\∃o,us[i]? =some (.b o)
 | [],us,i,a,h=>by cases us <;> simp[lent] at h
 | v :: vs,[],i,a,h=>by cases v <;> simp[lent] at h
 | v :: vs,u :: us,0,a,h=>by
  cases v <;> cases u <;> simp[lent] at h
  subst h
  exact⟨rfl,_,rfl⟩
 | v :: vs,u :: us,i+1,a,h=>by
  have h':(lent vs us)[i]? =some (some a):=by cases v <;> cases u <;> simpa[lent] using h
  simpa using zl h'
theorem xA {K:AAA}:∀{F H:Hp}{vs:List V}{us:List U}{i:Nat}{o:MO},Paired (FZ K F H) vs us->us[i]? =some (.b o)->∃a,vs[i]? =some (.ref a)/\(lent vs us)[i]? =some (some a)/\F a=none/\At F H a o
 | _,_,_,_,_,_,.nil,h=>by simp at h
 | _,_,_,_,0,o,@Paired.cons _ _ _ v u vs us r rs,h=>by
  simp at h
  subst h
  obtain⟨a,rfl,f,k⟩:=r
  exact⟨a,rfl,rfl,f,k⟩
 | _,_,_,_,i+1,o,@Paired.cons _ _ _ v u vs us r rs,h=>by
  obtain⟨a,h1,h2,h3⟩:=xA (i:=i) rs (by simpa using h)
  refine⟨a,by simpa using h1,?_,h3⟩
  cases v <;> cases u <;> simpa[lent] using h2
theorem wc : ∀ {vs : List V} {us : List U} {i j : Nat} {a : Addr}, (addrs vs us).Nodup -> (lent vs us)[i]? = some (some a) -> (lent vs us)[j]? = some (some a) -> i = j
  | [],us,i,j,a,_,h,_=>by cases us <;> simp[lent] at h
  | v :: vs,[],i,j,a,_,h,_=>by cases v <;> simp[lent] at h
  | v :: vs, u :: us, i, j, a, nd, h1, h2 => by
    have ih:∀{i j},(addrs vs us).Nodup->(lent vs us)[i]? =some (some a)->(lent vs us)[j]? =some (some a)->i=j:=fun {i j}=>wc (i:=i) (j:=j)
    by_cases U3:∃c o,v= .ref c/\u= .b o
    . obtain⟨c,o,rfl,rfl⟩:=U3
      obtain⟨n1,n2⟩:=aav.mp (show(c :: addrs vs us).Nodup from nd)
      cases i with
      | zero=>
        cases j with
        | zero=>rfl
        | succ j=>
          have e1:c=a:=by simpa[lent] using h1
          have e2:(lent vs us)[j]? =some (some a):=by simpa[lent] using h2
          subst e1
          exact absurd ((nq vs us c).mp (ZO e2)) n1
      | succ i=>
        have e1:(lent vs us)[i]? =some (some a):=by simpa[lent] using h1
        cases j with
        | zero=>
          have e2:c=a:=by simpa[lent] using h2
          subst e2
          exact absurd ((nq vs us c).mp (ZO e1)) n1
        | succ j=>exact congrArg Nat.succ (ih n2 e1 (by simpa[lent] using h2))
    . have e1:lent (v :: vs) (u :: us)=none :: lent vs us:=by cases v <;> cases u <;> first | rfl | exact absurd ⟨_,_,rfl,rfl⟩ U3
      have e2:addrs (v :: vs) (u :: us)=addrs vs us:=by cases v <;> cases u <;> first | rfl | exact absurd ⟨_,_,rfl,rfl⟩ U3
      rw[e1] at h1 h2
      rw[e2] at nd
      cases i with
      | zero=>simp at h1
      | succ i=>
        cases j with
        | zero=>simp at h2
        | succ j=>exact congrArg Nat.succ (ih nd (by simpa using h1) (by simpa using h2))
theorem pq {α β:Type}{P:α->β->Prop}:∀{l:List α}{r:List β}{i:Nat}{y:β},Paired P l r->r[i]? =some y->∃x,l[i]? =some x/\P x y
 | _,_,_,_,.nil,h=>by simp at h
 | _,_,0,_,.cons p _,h=>by simp at h;subst h;exact⟨_,rfl,p⟩
 | _,_,i+1,_,.cons _ ps,h=>by
  obtain⟨x,h1,h2⟩:=pq (i:=i) ps (by simpa using h)
  exact⟨x,by simpa using h1,h2⟩
def n6 {F:Hp}(sb:Sub F H) (ar:Paired (FZ K F H) vs us) (nd:(addrs vs us).Nodup) (N:List Str) (hN:N.length=n):
  Rel K ⟨lent vs us,F,H⟩ (us.map some++List.replicate (n - us.length) none) (start N vs) F H:=by
 have hl:vs.length=us.length:=ar.length
 have gS:∀{i:Nat}{u:U},(us.map some++List.replicate (n - us.length) none)[i]? =some (some u)->us[i]? =some u:=fun {i u} h=>by
  rw[List.getElem?_append] at h
  split at h
  ·rw[ZF] at h
   obtain⟨w,h1,h2⟩:=aq h
   cases h2
   exact h1
  ·rw[acm] at h
   split at h <;> cases h
 have U4:∀{i:Nat}{v:V},vs[i]? =some v->(start N vs)[i]? =some (some v):=fun {i v} h=>by
  unfold start
  have hi:=(Zy.mp h).1
  rw[Z7 (by simpa using hi),ZF,h]
  rfl
 have vb:∀{i:Nat}{v w:V},vs[i]? =some v->(start N vs)[i]? =some (some w)->v=w:=fun {i v w} h k=>by
  rw[U4 h] at k
  cases k
  rfl
 have Jl:∀{i:Nat}{u:U},us[i]? =some u->fT u=true->∃o a,u= .b o/\vs[i]? =some (.ref a)/\(lent vs us)[i]? =some (some a)/\F a=none/\At F H a o:=fun {i u} h hm=>by
  obtain⟨v,h1,h2⟩:=pq ar h
  cases u with
  | t d=>cases hm
  | v d=>cases hm
  | s d=>cases hm
  | f d=>cases hm
  | m o=>cases h2
  | b o=>obtain⟨a,k1,k2,k3,k4⟩:=xA ar h;exact⟨o,a,rfl,k1,k2,k3,k4⟩
 refine⟨sb,?_,fun i u h=>?_,fun i j u w a h1 m1 h2 m2 v1 v2=>?_,fun i o a h hv=>?_,fun i o a h hv=>?_,fun i a h=>?_,Ext.refl ..⟩
 ·unfold start;simp[hl,hN]
 ·obtain⟨v,h1,h2⟩:=pq ar (gS h)
  refine⟨v,U4 h1,?_⟩
  cases u with
  | t d=>exact h2
  | s d=>exact h2
  | f d=>exact h2
  | v d=>cases h2
  | m o=>cases h2
  | b o=>exact h2
 ·obtain⟨_,a1,_,k1,k2,_⟩:=Jl (gS h1) m1
  obtain⟨_,a2,_,l1,l2,_⟩:=Jl (gS h2) m2
  have e1:=vb k1 v1
  have e2:=vb l1 v2
  cases e1
  cases e2
  exact wc nd k2 l2
 ·obtain⟨_,_,e,_⟩:=Jl (gS h) rfl
  cases e
 ·obtain⟨_,a1,_,k1,k2,_⟩:=Jl (gS h) rfl
  have e1:=vb k1 hv
  cases e1
  exact ZO k2
 ·obtain⟨k1,o,k2⟩:=zl h
  refine⟨U4 k1,o,?_⟩
  have hi:=(Zy.mp k2).1
  rw[Z7 (by simpa using hi),ZF,k2]
  rfl
theorem xB {F' H' : Hp} : ∀ {vs : List V} {us : List U} {S : SS} {os : List MO}, aB us S = some os -> vs.length = us.length -> (∀ (i : Nat) (o : MO) (a : Addr), (lent vs us)[i]? = some (some a) -> S[i]? = some (some (.b o)) -> F' a = none /\ At F' H' a o) -> (∀ (i : Nat) (o : MO), us[i]? = some (.b o) -> ∃ a, vs[i]? = some (.ref a)) ->
    Paired (fun a o=>F' a=none/\At F' H' a o) (addrs vs us) os
  | [],[],S,os,h,_,_,_=>by cases S <;> (simp[aB] at h;subst h;exact .nil)
  | [],_ :: _,_,_,_,l,_,_=>by cases l
  | _ :: _,[],_,_,_,l,_,_=>by cases l
  | v :: vs, u :: us, S, os, h, l, k, kb => by
    have l':vs.length=us.length:=by simpa using l
    have kb':∀(i:Nat) (o:MO),us[i]? =some (.b o)->∃a,vs[i]? =some (.ref a):=fun i o z=>by simpa using kb (i+1) o (by simpa using z)
    by_cases hu:∃o,u= .b o
    . obtain⟨o,rfl⟩:=hu
      obtain⟨a,ha⟩:=kb 0 o rfl
      have ha:v= .ref a:=by simpa using ha
      subst ha
      cases S with
      | nil=>simp[aB] at h
      | cons s S=>
        cases s with
        | none=>simp[aB] at h
        | some s=>
          cases s with
          | b o'=>
            obtain⟨os',h1,h2⟩:=aq (show(aB us S).map (fun os=>o' :: os)=some os from h)
            subst h2
            exact .cons (k 0 o' a rfl rfl) (xB h1 l' (fun i o a z1 z2=>k (i+1) o a (by simpa[lent] using z1) (by simpa using z2)) kb')
          | t d=>simp[aB] at h
          | m d=>simp[aB] at h
          | v d=>simp[aB] at h
          | s d=>simp[aB] at h
          | f d=>simp[aB] at h
    . cases S with
      | nil=>cases u <;> first | (simp[aB] at h;done) | exact absurd ⟨_,rfl⟩ hu
      | cons s S=>
        have h':aB us S=some os:=by cases u <;> first | exact absurd ⟨_,rfl⟩ hu | simpa[aB] using h
        have e2:addrs (v :: vs) (u :: us)=addrs vs us:=by cases v <;> cases u <;> first | rfl | exact absurd ⟨_,rfl⟩ hu
        have e1:lent (v :: vs) (u :: us)=none :: lent vs us:=by cases v <;> cases u <;> first | rfl | exact absurd ⟨_,rfl⟩ hu
        rw[e2]
        exact xB h' l' (fun i o a z1 z2=>k (i+1) o a (by rw[e1];simpa using z1) (by simpa using z2)) kb'
def post_of (ar:Paired (FZ K F0 H) vs us) (S':SS) (σ':St) (F' H':Hp) (os:List MO) (R':Rel K ⟨lent vs us,F0,H⟩ S' σ' F' H') (ho':aB us S'=some os):Post F0 H F' H' (addrs vs us) os:=by
 refine⟨R'.sub,⟨R'.ext.le,fun b o z n=>R'.ext.keep b o z fun m=>n ((nq vs us b).mp m),fun b o z n=>R'.ext.iw b o z fun m=>n ((nq vs us b).mp m),R'.ext.there,R'.ext.jw⟩,xB ho' ar.length (fun i o a z1 z2=>?_) fun i o z=>?_⟩
 ·obtain⟨k1,o2,k2⟩:=R'.par i a z1
  obtain⟨v,j1,j2⟩:=R'.rep i _ z2
  rw[k1] at j1
  cases j1
  obtain⟨c,e,f,k⟩:=j2
  cases e
  exact⟨f,k⟩
 ·obtain⟨a,h1,_⟩:=xA ar z
  exact⟨a,h1⟩
section
variable {P:Program}{w:World}{K:AAA}{mg:AAC}{base:Heap}
def W5 {qual:Str}{st:Stmt}{f:Addr}{fd:FuncData}{N ps:List Str}{k:Nat}{fm:FM}{g:GS}(F:Lr K x qual st f fd) (Sc:bF N ps (aN st))
  (hb:∀(cdv:Value) (A:Around) (outer:List Env) (s:Shared) (H:Hp) (E:XK),jU k (A.deeper (envOfC qual (aN st) s.heap.objs.size f cdv))->JB (yP EE P w K mg base N qual (aN st) f cdv A outer s H E).OQ (jI st) g)
  (hf:∀us r,fm us=some r->bY N.length g us=some r):o7 P w K mg base EE (k+1) f fd ps (spT K ps.length fm):=by
 refine F.ok Sc (fun vs H Q E h=>h.1) fun cdv A outer s H vs Q E hr h=>?_
 obtain⟨hlen,F0,us,r,outs,sb,ar,nd,hfm,q⟩:=h
 have hrun:=hf us (r,outs) hfm
 have J:=hb cdv A outer s H E hr
 refine⟨_,J.h ⟨lent vs us,F0,H⟩,?_⟩
 have R0:=n6 sb ar nd N rfl
 obtain⟨o,ho,hrun⟩:=ah hrun
 refine⟨_,F0,o,R0,ho,?_⟩
 have post:=post_of ar
 cases o with
 | bk S'=>cases hrun
 | ct S'=>cases hrun
 | nx S'=>
  obtain⟨os,h1,h2⟩:=aq (show(aB us S').map _=some (r,outs) from hrun)
  cases h2
  exact fun σ' F' H' R' le=>q .bV F' H' (post S' σ' F' H' outs R' h1) .bV
 | rt u S'=>
  cases u with
  | b o=>cases hrun
  | v i=>cases hrun
  | s i=>cases hrun
  | f i=>cases hrun
  | t d=>
   obtain⟨os,h1,h2⟩:=aq (show(aB us S').map _=some (r,outs) from hrun)
   cases h2
   exact fun v σ' F' H' R' le rr=>q v F' H' (post S' σ' F' H' outs R' h1) rr
  | m o=>
   obtain⟨os,h1,h2⟩:=aq (show(aB us S').map _=some (r,outs) from hrun)
   cases h2
   exact fun v σ' F' H' R' le rr=>q v F' H' (post S' σ' F' H' outs R' h1) (by obtain⟨a,e,h0,f,h,n,hB⟩:=rr;exact⟨a,e,hB,f,h⟩)
end
noncomputable def cO (S:SS) (i:Nat):Option U:=match S[i]? with
 | some (some (.t d))=>some (.t d)
 | some (some (.s d))=>some (.s d)
 | some (some (.f d))=>some (.f d)
 | some (some (.m _))=>some (.v i)
 | some (some (.b _))=>some (.v i)
 | _=>none
noncomputable def aY (S:SS):List Nat->Option (List U)
 | []=>some []
 | i :: cap=>(cO S i).bind fun u=>(aY S cap).map fun us=>u :: us
noncomputable def aC:GT:=fun S=>some (true,S)
noncomputable def aF (cap:List Nat) (q:GT) (g:GD):List D->SS->List D->Option (List D×SS)
  | [],S,acc=>some (acc,S)
  | d :: ds, S, acc => (aY S cap).bind fun us =>
    if(slotsOf us).Nodup/\cM us<=1 then(cy S us).bind fun ws=>(q (ZA d :: ws.map some)).bind fun p=>
      if p.1 then(g p.2).bind fun r=>(aB (.t d :: ws) r.2).bind fun outs=>(wb us outs S).bind fun S'=>aF cap q g ds S' (acc++[r.1])
      else(aB (.t d :: ws) p.2).bind fun outs=>(wb us outs S).bind fun S'=>aF cap q g ds S' acc
    else none
noncomputable def bw (cap:List Nat) (gi:GI) (q:GT) (g:GD):GE:=fun S=>(gi S).bind fun p=>if p.1.length<=100000 then(aF cap q g p.1 p.2 []).map fun r=>(.m (.lst r.1),r.2) else none
structure LA (X:Cx) (es:List Expr) (q:GT):Prop where
 h:∀B,Fl X es (tQ X.K B q)
def bR :LA X [] aC:=⟨fun B pins s σ H Q I ⟨S,F,b,S',R,hg,q⟩=>by cases hg;exact B3 pins s σ H Q I (q F H R (Step.refl ..))⟩
def xC {c:Expr}(h:JT X c q):LA X [c] q:=⟨fun B=>Jc (h.h B)⟩
theorem xD {K:AAA}{B:Base}{S:SS}{σ:St}{F H:Hp}(R:Rel K B S σ F H):∀{cap:List Nat}{us:List U},aY S cap=some us->∃vs:List V,bQ cap σ=vs.map some/\Paired (fun v u=>jJ K B S σ H F H v u) vs us
  | [],us,h=>by cases h;exact⟨[],rfl,.nil⟩
  | i :: cap, us, h => by
    obtain⟨u,h1,h⟩:=ah h
    obtain⟨us',h2,h⟩:=aq h
    subst h
    obtain⟨vs,k1,k2⟩:=xD R h2
    have one:∀w,S[i]? =some (some w)->∃v,σ[i]? =some (some v)/\ug K F H v w:=R.rep i
    unfold cO at h1
    have fin:∀v,σ[i]? =some (some v)->jJ K B S σ H F H v u->∃vs:List V,bQ (i :: cap) σ=vs.map some/\Paired (fun v u=>jJ K B S σ H F H v u) vs (u :: us'):=fun v e r=>
      ⟨v :: vs,by show(σ[i]?).join :: bQ cap σ=_;rw[e,k1];rfl,.cons r k2⟩
    split at h1
    . rename_i d e
      cases h1
      obtain⟨v,e1,r⟩:=one _ e
      exact fin v e1 r
    . rename_i d e
      cases h1
      obtain⟨v,e1,r⟩:=one _ e
      exact fin v e1 r
    . rename_i d e
      cases h1
      obtain⟨v,e1,r⟩:=one _ e
      exact fin v e1 r
    . rename_i o e
      cases h1
      obtain⟨v,e1,r⟩:=one _ e
      exact fin v e1 ⟨e1,_,e⟩
    . rename_i o e
      cases h1
      obtain⟨v,e1,r⟩:=one _ e
      exact fin v e1 ⟨e1,_,e⟩
    . cases h1
def nu {F:Hp}(R:Rel K B S σ F H) (d:D)(h:cy S us=some ws):cy S (.t d :: us)=some (.t d :: ws):=by
 show(some (U.t d)).bind _=_
 show(cy S us).map _=_
 rw[h]
 rfl
def zm         {Q : VK} (h : tE K B (bw cap gi q g) σ H Q) : SQ (UX K B gi) cap (fun σ H Q => ∃ B, tQ K B q σ H Q) (fun σ H Q => ∃ B, tD K B g σ H Q) σ H Q := by
  obtain⟨x,_⟩:∃x:Str,True:=⟨"",trivial⟩
  obtain⟨S,F,u,S',R,hg,k⟩:=h
  obtain⟨⟨ds,S1⟩,h1,hg⟩:=ah hg
  dsimp only at hg
  split at hg
  . rename_i hlen
    obtain⟨⟨res,Sf⟩,h2,hg⟩:=aq hg
    cases hg
    refine⟨S,F,ds,S1,R,h1,fun J F1 H1 R1 st1 w=>?_⟩
    refine⟨fun i m ys H'=>∃S2 F2 acc,Rel K B S2 σ F2 H'/\Step S S2 σ F H F2 H'/\(∀b o,F1 b=some o->F2 b=some o)/\aX F2 ys acc/\acc.length<=i/\i<=ds.length/\m=ds.length - i/\aF cap q g (ds.drop i) S2 acc=some (res,Sf),
      ⟨_,S1,F1,[],R1,st1,fun _ _ z=>z,.nil,ZM _,Z3 _,rfl,h2⟩,?_⟩
    rintro i m ys H' ⟨S2,F2,acc,R2,st2,le,ry,ha,hl,rfl,cC⟩
    refine⟨by rw[ry.length];exact aa8 (Z5 ha (Z5 hl hlen)) (by decide),?_⟩
    have w':=w F2 H' le R2.sub i
    by_cases hlt:i < ds.length
    . have hd:ds[i]? =some ds[i]:=Zz hlt
      obtain⟨go,yl⟩:=w'.1 _ hd
      rw[aai hlt] at cC
      refine .inr ⟨go,fun xv H3 y=>?_⟩
      obtain⟨rfl,rx⟩:=yl xv H3 y
      obtain⟨us,e1,cC⟩:=ah cC
      skip
      split at cC
      . rename_i hnd
        obtain⟨ws,e2,cC⟩:=ah cC
        obtain⟨⟨bk,T1⟩,e3,cC⟩:=ah cC
        obtain⟨vs,k1,k2⟩:=xD R2 e1
        have rr:Paired (fun v u=>jJ K B S2 σ H3 F2 H3 v u) (xv :: vs) (.t ds[i] :: us):=.cons rx k2
        have er:=nu R2 ds[i] e2
        have ar:=p9 R2 rr er
        have nd:=dz R2 rr er hnd.1 hnd.2
        have R3:=n6 (n:=ws.length+1) R2.sub ar nd (List.replicate (ws.length+1) x) (by simp)
        have hvl:vs.length=ws.length:=by have:=ar.length;simpa using this
        have es:start (List.replicate (ws.length+1) x) (xv :: vs)=some xv :: bQ cap σ:=by
          unfold start;rw[k1];simp[hvl]
        have eS:(U.t ds[i] :: ws).map some++List.replicate (ws.length+1 - (U.t ds[i] :: ws).length) none=some (U.t ds[i]) :: ws.map some:=by simp
        rw[es,eS] at R3
        have back:∀(T2:SS) (F3 H4:Hp) (outs:List MO) (S3:SS),Rel K ⟨lent (xv :: vs) (U.t ds[i] :: ws),F2,H3⟩ T2 (some xv :: bQ cap σ) F3 H4->aB (U.t ds[i] :: ws) T2=some outs->wb us outs S2=some S3->Rel K B S3 σ F3 H4/\Step S S3 σ F H F3 H4/\(∀b o,F2 b=some o->F3 b=some o):=fun T2 F3 H4 outs S3 RT ho hw=>by
          have po:=post_of ar T2 _ F3 H4 outs RT ho
          obtain⟨Ra,we,_⟩:=lY (S0:=S2) (F0:=F2) (H0:=H3) R2 (Step.refl ..) rr er (show wb (U.t ds[i] :: us) outs S2=some S3 by cases outs <;> exact hw) hnd.1 po
          exact⟨Ra,st2.trans we,we.ext.le⟩
        refine⟨_,_,F2,bk,T1,R3,e3,fun F3 H4 LB Qz=>?_⟩
        cases bk with
        | true=>
          obtain⟨⟨yd,T2⟩,e4,cC⟩:=ah (show(g T1).bind _=_ from cC)
          obtain⟨outs,e5,cC⟩:=ah cC
          obtain⟨S3,e6,cC⟩:=ah cC
          refine yY ⟨_,T1,F3,yd,T2,LB,e4,fun yv F4 H5 QA QB QC=>?_⟩
          obtain⟨Ra,we,zo⟩:=back T2 F4 H5 outs S3 QA e5 e6
          refine⟨ds.length - (i+1),by omega,S3,F4,acc++[yd],Ra,we,fun b o z=>zo b o (le b o z),(ry.le zo).append (.cons QC .nil),by simp;omega,hlt,rfl,cC⟩
        | false=>
          obtain⟨outs,e5,cC⟩:=ah (show(aB (U.t ds[i] :: ws) T1).bind _=_ from cC)
          obtain⟨S3,e6,cC⟩:=ah cC
          obtain⟨Ra,we,zo⟩:=back T1 F3 H4 outs S3 LB e5 e6
          exact yX ⟨ds.length - (i+1),by omega,S3,F3,acc,Ra,we,fun b o z=>zo b o (le b o z),ry.le zo,by omega,hlt,rfl,cC⟩
      . cases cC
    . have e:i=ds.length:=by omega
      subst e
      rw[abG] at cC
      cases cC
      refine .inl ⟨w'.2 (ZM _),fun p hp=>?_⟩
      have n:=gf.obj (F:=F2) hp (.lst ys)
      refine k (.ref p) F2 _ (R2.new n (R2.sub.same n.same)) (st2.trans n.step) ⟨p,rfl,none_of st2.ext.there hp,R2.sub.fresh hp,⟨ys,aD,ry⟩,fun m=>?_,none_of R2.ext.there hp⟩
      obtain⟨o,ho⟩:=R2.has m
      rw[hp] at ho
      cases ho
  . cases hg
def dj (T:d8 X x aZ cap scope cl) (hc:X.calm=true) (hi:JI X (.Name x px) iter gi)
  (ht:∀C s H fp,LA (bT X (x :: aZ) scope cl C s H fp) ifs q) (he:∀C s H fp,JD (bT X (x :: aZ) scope cl C s H fp) elt g)
  (hs:∀x,foldedSetIterable iter X.env x=pure x:=by intro _;rfl):JE X (.ListComp elt [⟨.Name x px,iter,ifs,0⟩] scope pos) (bw cap gi q g):=⟨fun B=>by
 exact(Fy (tc:=fun σ H Q=>∃B,tQ X.K B q σ H Q) (te:=fun σ H Q=>∃B,tD X.K B g σ H Q) T hc (hi.h B) (fun C s H fp pins s' σ H' Q I ⟨B',z⟩=>(ht C s H fp).h B' pins s' σ H' Q I z) (fun C s H fp pins s' σ H' Q I ⟨B',z⟩=>(he C s H fp).h B' pins s' σ H' Q I z) hs).imp fun σ H Q h=>zm h⟩
def F5 {y:Str}{py spos:Pos}(hN:X.N.Nodup) (hy:X.N[i]? =some y) (hx:Loc X.env.scope y) (T:d8 X x aZ cap scope cl) (hc:X.calm=true) (hi:JI X (.Name x px) iter gi)
  (ht:∀C s H fp,LA (bT X (x :: aZ) scope cl C s H fp) ifs q) (he:∀C s H fp,JD (bT X (x :: aZ) scope cl C s H fp) elt g)
  (hsw:swapsWith (.ListComp elt [⟨.Name x px,iter,ifs,0⟩] scope pos) (some (.Name y py)) spos.line X.env=pure true:=by rfl) (hf:X.fn y=true\/X.env.scope.names.lookup y=some .local:=by first | exact .inl rfl | exact .inr rfl | assumption)
  (hs:∀x,foldedSetIterable iter X.env x=pure x:=by intro _;rfl):JS X (.Assign [.Name y py] (.ListComp elt [⟨.Name x px,iter,ifs,0⟩] scope pos) spos) (aR i (bw cap gi q g)):=⟨fun B=>
 (yZ (tc:=fun σ H Q=>∃B,tQ X.K B q σ H Q) (te:=fun σ H Q=>∃B,tD X.K B g σ H Q) T hc (hi.h B) (fun C s H fp pins s' σ H' Q I ⟨B',z⟩=>(ht C s H fp).h B' pins s' σ H' Q I z) (fun C s H fp pins s' σ H' Q I ⟨B',z⟩=>(he C s H fp).h B' pins s' σ H' Q I z) hs hN hy hx hsw hf).imp fun D σ H h=>zm (xy h)⟩
mutual
noncomputable def qG:D->D->Bool
 | .bV,.bV=>true
 | .bl a,.bl b=>a == b
 | .int a,.int b=>a == b
 | .bl a,.int b=>(if a then 1 else 0) == b
 | .int a,.bl b=>a == (if b then 1 else 0)
 | .str a,.str b=>a == b
 | .tup a,.tup b=>pA a b
 | .lst a,.lst b=>pA a b
 | _,_=>false
noncomputable def pA:List D->List D->Bool
 | [],[]=>true
 | a :: as,b :: bs=>qG a b && pA as bs
 | _,_=>false
end
mutual
noncomputable def iF:D->Nat
 | .tup ds=>bH ds+1
 | .lst ds=>bH ds+1
 | _=>0
noncomputable def bH:List D->Nat
 | []=>0
 | d :: ds=>max (iF d) (bH ds)
end
mutual
theorem zp:∀d:D,qG d d=true
 | .bV=>rfl
 | .bl a=>by simp[qG]
 | .int a=>by simp[qG]
 | .str a=>by simp[qG]
 | .tup a=>by unfold qG;exact lA a
 | .lst a=>by unfold qG;exact lA a
theorem lA:∀ds:List D,pA ds ds=true
 | []=>rfl
 | d :: ds=>by unfold pA;rw[zp d,lA ds];rfl
end
noncomputable def nv (as bs:List D) (j:Nat):Bool:=match as[j]?,bs[j]? with
 | some a,some b=>qG a b
 | _,_=>true
def uq (n:Nat) (e:Nat->Bool):(List.range (n+1)).all e=(e 0 && (List.range n).all fun j=>e (j+1)):=by
 rw[List.range_succ_eq_map,aa4,List.all_map]
 rfl
theorem nA:∀{as bs:List D},as.length≠bs.length->pA as bs=false
 | [],[],h=>absurd rfl h
 | [],_ :: _,_=>rfl
 | _ :: _,[],_=>rfl
 | a :: as,b :: bs,h=>by
  unfold pA
  rw[nA (as:=as) (bs:=bs) (fun z=>h (by simp[z])),acS]
theorem jZ:∀{as bs:List D},as.length=bs.length->(List.range as.length).all (nv as bs)=pA as bs
 | [],[],_=>rfl
 | [],_ :: _,h=>by cases h
 | _ :: _,[],h=>by cases h
 | a :: as,b :: bs,h=>by
  have h':as.length=bs.length:=by simpa using h
  show(List.range (as.length+1)).all _=_
  rw[uq]
  unfold pA
  have ih:=jZ h'
  have e:(fun j=>nv (a :: as) (b :: bs) (j+1))=nv as bs:=by funext j;simp[nv]
  rw[e,ih]
  rfl
def Jm {F:Hp}{ws:List V}(h:Rd F a (.lst vs)) (h':Rd F a (.lst ws)):vs=ws:=by
 rcases h with e1 | ⟨o,e1⟩ <;> rcases h' with e2 | ⟨o',e2⟩ <;> (rw[e1] at e2;cases e2) <;> rfl
mutual
theorem Rep.uniq {F:Hp}:∀{v:V}{d e:D},Rep F v d->Rep F v e->d=e
 | _,_,_,.bV,r=>by cases r;rfl
 | _,_,_,.bl b,r=>by cases r;rfl
 | _,_,_,.int b,r=>by cases r;rfl
 | _,_,_,.str b,r=>by cases r;rfl
 | _,_,_,.tup e1 r1,r=>by
  cases r with
  | tup e2 r2=>rw[e1] at e2;cases e2;rw[aX.uniq r1 r2]
  | lst e2 r2=>rcases e2 with e2 | ⟨o,e2⟩ <;> (rw[e1] at e2;cases e2)
 | _,_,_,.lst e1 r1,r=>by
  cases r with
  | tup e2 r2=>rcases e1 with e1 | ⟨o,e1⟩ <;> (rw[e1] at e2;cases e2)
  | lst e2 r2=>rcases e1 with e1 | ⟨o,e1⟩ <;> rcases e2 with e2 | ⟨o',e2⟩ <;> (rw[e1] at e2;cases e2) <;> rw[aX.uniq r1 r2]
theorem aX.uniq {F:Hp}:∀{vs:List V}{ds es:List D},aX F vs ds->aX F vs es->ds=es
 | _,_,_,.nil,r=>by cases r;rfl
 | _,_,_,.cons r1 s1,r=>by
  cases r with
  | cons r2 s2=>rw[Rep.uniq r1 r2,aX.uniq s1 s2]
end
section
variable {X:Cx}{pins:AAD}{σ:St}{F H:Hp}{s:Shared}
def Sub.isTup (I:Inv X pins σ H s) (sb:Sub F H)(h:F a=some (.tup vs)):∃its:List Value,Vals vs its/\s.heap.IsTuple a its.toArray:=by
 obtain⟨its,rv,p,_⟩:=I.tuple (.inl (Rd.of (sb a _ h)))
 exact⟨its,rv,p⟩
def Sub.dP (I:Inv X pins σ H s) (sb:Sub F H)(h:Rd F a (.lst vs)):∃its:List Value,Vals vs its/\s.heap.IsList a its.toArray:=by
 obtain⟨its,rv,p,_⟩:=I.list (.inl (h.imp (sb a _) fun⟨o,z⟩=>⟨o,sb a _ z⟩))
 exact⟨its,rv,p.isList⟩
def i7 (A:Around) (s:Shared) (its bJ:AAI) (ds es:List D):Prop:=∀j (h1:j < its.toArray.size) (h2:j < bJ.toArray.size),SeqAt.EqAt A.in1 s its.toArray[j] bJ.toArray[j] (nv ds es j)
def B9 {m:Nat}(h:n=m) (e:Nat->Bool):((List.range (min n m)).all e && n == m)=(List.range n).all e:=by
 subst h;simp
def qc (hu:A.units < cLine) (pa:s.heap.IsTuple ca fK.toArray) (pb:s.heap.IsTuple cb bJ.toArray) (la:fK.length=ds.length) (lb:bJ.length=es.length) (h:i7 A s fK bJ ds es):
  SeqAt.RcAt A s (.ref ca) (.ref cb) (pA ds es):=by
 have q:=SeqAt.RcAt.tuples (e:=nv ds es) pa pb hu h
 rw[ZL,ZL,la,lb] at q
 by_cases hl:ds.length=es.length
 ·rw[B9 hl,jZ hl] at q;exact q
 ·rw[nA hl]
  have:(ds.length == es.length)=false:=by simpa using hl
  rw[this,acS] at q
  exact q
def ur (hu:A.units < cLine) (pa:s.heap.IsTuple ca fK.toArray) (pb:s.heap.IsTuple cb bJ.toArray) (la:fK.length=ds.length) (lb:bJ.length=es.length) (h:i7 A s fK bJ ds es):
  SeqAt.RcNeAt A s (.ref ca) (.ref cb) (!pA ds es):=by
 have q:=SeqAt.RcNeAt.tuples (e:=nv ds es) pa pb hu h
 rw[ZL,ZL,la,lb] at q
 by_cases hl:ds.length=es.length
 ·rw[B9 hl,jZ hl] at q;exact q
 ·rw[nA hl]
  have:(ds.length == es.length)=false:=by simpa using hl
  rw[this,acS] at q
  exact q
def rY (hu:A.units < cLine) (pa:s.heap.IsList ca fK.toArray) (pb:s.heap.IsList cb bJ.toArray) (la:fK.length=ds.length) (lb:bJ.length=es.length) (h:i7 A s fK bJ ds es):
  SeqAt.RcAt A s (.ref ca) (.ref cb) (pA ds es):=by
 by_cases hl:ds.length=es.length
 ·have q:=SeqAt.RcAt.lists (e:=nv ds es) pa pb (by rw[ZL,ZL,la,lb];exact hl) hu h
  rw[ZL,la,jZ hl] at q;exact q
 ·rw[nA hl]
  exact SeqAt.RcAt.lists_lengths pa pb (by rw[ZL,ZL,la,lb];simpa using hl) hu
def vo (hu:A.units < cLine) (pa:s.heap.IsList ca fK.toArray) (pb:s.heap.IsList cb bJ.toArray) (la:fK.length=ds.length) (lb:bJ.length=es.length) (h:i7 A s fK bJ ds es):
  SeqAt.RcNeAt A s (.ref ca) (.ref cb) (!pA ds es):=by
 by_cases hl:ds.length=es.length
 ·have q:=SeqAt.RcNeAt.lists (e:=nv ds es) pa pb (by rw[ZL,ZL,la,lb];exact hl) hu h
  rw[ZL,la,jZ hl] at q;exact q
 ·rw[nA hl]
  exact SeqAt.RcNeAt.lists_lengths pa pb (by rw[ZL,ZL,la,lb];simpa using hl) hu
def dw (l:List α) (j:Nat) (h:j < l.toArray.size):l[j]? =some l.toArray[j]:=by
 have z:j < l.length:=by simpa using h
 simp[z]
mutual
theorem LC (I : Inv X pins σ H s) (sb : Sub F H) : ∀ (d : D) {e : D} {A : Around} {x y : V} {u w' : Value}, Rep F x d -> Rep F y e -> RelV x u -> RelV y w' -> A.units + iF d < cLine -> SeqAt.EqAt A s u w' (qG d e) := fun d {e A x y u w'} r1 r2 rx ry hu => by
  cases r1 with
  | bV=>
    cases rx
    cases r2 with
    | bV=>cases ry;exact acG _
    | bl b=>cases ry;exact SeqAt.EqAt.none_bool b
    | int b=>obtain⟨tb,rfl⟩:=ry;exact SeqAt.EqAt.none_int b tb
    | str b=>obtain⟨tb,rfl⟩:=ry;exact SeqAt.EqAt.none_str b tb
    | @tup cb nB lB eb rb=>cases ry;obtain⟨bJ,jh,pb⟩:=sb.isTup I eb;exact SeqAt.EqAt.none_tuple pb (by omega)
    | @lst cb nB lB eb rb=>cases ry;obtain⟨bJ,jh,pb⟩:=sb.dP I eb;exact SeqAt.EqAt.none_list pb (by omega)
  | bl a=>
    cases rx
    cases r2 with
    | bV=>cases ry;exact SeqAt.EqAt.bool_none a
    | bl b=>cases ry;exact acF a b
    | int b=>obtain⟨tb,rfl⟩:=ry;exact acN a b tb
    | str b=>obtain⟨tb,rfl⟩:=ry;exact acO a b tb
    | @tup cb nB lB eb rb=>cases ry;obtain⟨bJ,jh,pb⟩:=sb.isTup I eb;exact SeqAt.EqAt.bool_tuple a pb (by omega)
    | @lst cb nB lB eb rb=>cases ry;obtain⟨bJ,jh,pb⟩:=sb.dP I eb;exact SeqAt.EqAt.bool_list a pb (by omega)
  | int a=>
    obtain⟨ta,rfl⟩:=rx
    cases r2 with
    | bV=>cases ry;exact SeqAt.EqAt.int_none a ta
    | bl b=>cases ry;exact acM a ta b
    | int b=>obtain⟨tb,rfl⟩:=ry;exact SeqAt.EqAt.int_int a ta b tb
    | str b=>obtain⟨tb,rfl⟩:=ry;exact acU a ta b tb
    | @tup cb nB lB eb rb=>cases ry;obtain⟨bJ,jh,pb⟩:=sb.isTup I eb;exact SeqAt.EqAt.int_tuple a ta pb (by omega)
    | @lst cb nB lB eb rb=>cases ry;obtain⟨bJ,jh,pb⟩:=sb.dP I eb;exact SeqAt.EqAt.int_list a ta pb (by omega)
  | str a=>
    obtain⟨ta,rfl⟩:=rx
    cases r2 with
    | bV=>cases ry;exact SeqAt.EqAt.str_none a ta
    | bl b=>cases ry;exact acP a ta b
    | int b=>obtain⟨tb,rfl⟩:=ry;exact acV a ta b tb
    | str b=>obtain⟨tb,rfl⟩:=ry;exact SeqAt.EqAt.str_str a ta b tb
    | @tup cb nB lB eb rb=>cases ry;obtain⟨bJ,jh,pb⟩:=sb.isTup I eb;exact SeqAt.EqAt.str_tuple a ta pb (by omega)
    | @lst cb nB lB eb rb=>cases ry;obtain⟨bJ,jh,pb⟩:=sb.dP I eb;exact SeqAt.EqAt.str_list a ta pb (by omega)
  | @tup ca QD oK ea ra=>
    cases rx;obtain⟨fK,zq,pa⟩:=sb.isTup I ea
    cases r2 with
    | bV=>cases ry;exact SeqAt.EqAt.tuple_none pa (by omega)
    | bl b=>cases ry;exact SeqAt.EqAt.tuple_bool b pa (by omega)
    | int b=>obtain⟨tb,rfl⟩:=ry;exact SeqAt.EqAt.tuple_int b tb pa (by omega)
    | str b=>obtain⟨tb,rfl⟩:=ry;exact SeqAt.EqAt.tuple_str b tb pa (by omega)
    | @tup cb nB lB eb rb=>cases ry;obtain⟨bJ,jh,pb⟩:=sb.isTup I eb;exact(by
      have hd:A.units+(bH oK+1) < cLine:=hu
      have items:i7 A s fK bJ oK lB:=fun j h1 h2=>j3 I sb oK (A:=A.in1) ra rb zq jh (by show A.units+1+bH oK < cLine;omega) (dw fK j h1) (dw bJ j h2)
      by_cases hc:ca=cb
      . subst hc
        rw[ea] at eb
        cases eb
        obtain rfl:=aX.uniq ra rb
        show SeqAt.EqAt A s _ _ (pA oK oK)
        rw[lA]
        exact acG _
      . exact acW hc (qc (by omega) pa pb (zq.length.symm.trans ra.length) (jh.length.symm.trans rb.length) items))
    | @lst cb nB lB eb rb=>cases ry;obtain⟨bJ,jh,pb⟩:=sb.dP I eb;exact SeqAt.EqAt.tuple_list pa pb (by omega)
  | @lst ca QD oK ea ra=>
    cases rx;obtain⟨fK,zq,pa⟩:=sb.dP I ea
    cases r2 with
    | bV=>cases ry;exact SeqAt.EqAt.list_none pa (by omega)
    | bl b=>cases ry;exact SeqAt.EqAt.list_bool b pa (by omega)
    | int b=>obtain⟨tb,rfl⟩:=ry;exact SeqAt.EqAt.list_int b tb pa (by omega)
    | str b=>obtain⟨tb,rfl⟩:=ry;exact SeqAt.EqAt.list_str b tb pa (by omega)
    | @tup cb nB lB eb rb=>cases ry;obtain⟨bJ,jh,pb⟩:=sb.isTup I eb;exact SeqAt.EqAt.list_tuple pa pb (by omega)
    | @lst cb nB lB eb rb=>cases ry;obtain⟨bJ,jh,pb⟩:=sb.dP I eb;exact(by
      have hd:A.units+(bH oK+1) < cLine:=hu
      have items:i7 A s fK bJ oK lB:=fun j h1 h2=>j3 I sb oK (A:=A.in1) ra rb zq jh (by show A.units+1+bH oK < cLine;omega) (dw fK j h1) (dw bJ j h2)
      by_cases hc:ca=cb
      . subst hc
        obtain rfl:=Jm ea eb
        obtain rfl:=aX.uniq ra rb
        show SeqAt.EqAt A s _ _ (pA oK oK)
        rw[lA]
        exact acG _
      . exact acW hc (rY (by omega) pa pb (zq.length.symm.trans ra.length) (jh.length.symm.trans rb.length) items))
theorem j3 (I : Inv X pins σ H s) (sb : Sub F H) : ∀ (ds : List D) {es : List D} {A : Around} {vs ws : List V} {us us' : List Value} {j : Nat} {u w' : Value}, aX F vs ds -> aX F ws es -> Vals vs us -> Vals ws us' -> A.units + bH ds < cLine -> us[j]? = some u -> us'[j]? = some w' -> SeqAt.EqAt A s u w' (nv ds es j) := fun ds {es A vs ws us us' j u w'} r1 r2 v1 v2 hu h1 h2 => by
  cases r1 with
  | nil=>cases v1;simp at h1
  | @cons v d vs ds r rs =>
    cases v1 with
    | cons q qs=>
      cases r2 with
      | nil=>cases v2;simp at h2
      | @cons w e ws es r' rs'=>
        cases v2 with
        | cons q' Yg=>
          have hd:A.units+max (iF d) (bH ds) < cLine:=hu
          cases j with
          | zero=>
            simp at h1 h2
            subst h1 h2
            exact LC I sb d r r' q q' (by omega)
          | succ j=>
            simp at h1 h2
            have:=j3 I sb ds (A:=A) rs rs' qs Yg (j:=j) (by omega) h1 h2
            simpa[nv] using this
end
end
section
variable {X:Cx}{pins:AAD}{σ:St}{F H:Hp}{s:Shared}
def QE (I:Inv X pins σ H s) (sb:Sub F H){d e:D}{x:V}{u w':Value}(r1:Rep F x d) (r2:Rep F y e) (rx:RelV x u) (ry:RelV y w') (hu:A.units+iF d < cLine):SeqAt.RcAt A s u w' (qG d e):=by
 cases r1 with
 | bV=>
  cases rx
  cases r2 with
  | bV=>cases ry;exact SeqAt.RcAt.none_none
  | bl b=>cases ry;exact SeqAt.RcAt.none_bool b
  | int b=>obtain⟨tb,rfl⟩:=ry;exact SeqAt.RcAt.none_int b tb
  | str b=>obtain⟨tb,rfl⟩:=ry;exact SeqAt.RcAt.none_str b tb
  | @tup cb nB lB eb rb=>cases ry;obtain⟨bJ,jh,pb⟩:=sb.isTup I eb;exact SeqAt.RcAt.none_tuple pb (by omega)
  | @lst cb nB lB eb rb=>cases ry;obtain⟨bJ,jh,pb⟩:=sb.dP I eb;exact SeqAt.RcAt.none_list pb (by omega)
 | bl a=>
  cases rx
  cases r2 with
  | bV=>cases ry;exact SeqAt.RcAt.bool_none a
  | bl b=>cases ry;exact SeqAt.RcAt.bool_bool a b
  | int b=>obtain⟨tb,rfl⟩:=ry;exact SeqAt.RcAt.bool_int a b tb
  | str b=>obtain⟨tb,rfl⟩:=ry;exact SeqAt.RcAt.bool_str a b tb
  | @tup cb nB lB eb rb=>cases ry;obtain⟨bJ,jh,pb⟩:=sb.isTup I eb;exact SeqAt.RcAt.bool_tuple a pb (by omega)
  | @lst cb nB lB eb rb=>cases ry;obtain⟨bJ,jh,pb⟩:=sb.dP I eb;exact SeqAt.RcAt.bool_list a pb (by omega)
 | int a=>
  obtain⟨ta,rfl⟩:=rx
  cases r2 with
  | bV=>cases ry;exact SeqAt.RcAt.int_none a ta
  | bl b=>cases ry;exact SeqAt.RcAt.int_bool a ta b
  | int b=>obtain⟨tb,rfl⟩:=ry;exact SeqAt.RcAt.int_int a ta b tb
  | str b=>obtain⟨tb,rfl⟩:=ry;exact SeqAt.RcAt.int_str a ta b tb
  | @tup cb nB lB eb rb=>cases ry;obtain⟨bJ,jh,pb⟩:=sb.isTup I eb;exact SeqAt.RcAt.int_tuple a ta pb (by omega)
  | @lst cb nB lB eb rb=>cases ry;obtain⟨bJ,jh,pb⟩:=sb.dP I eb;exact SeqAt.RcAt.int_list a ta pb (by omega)
 | str a=>
  obtain⟨ta,rfl⟩:=rx
  cases r2 with
  | bV=>cases ry;exact SeqAt.RcAt.str_none a ta
  | bl b=>cases ry;exact SeqAt.RcAt.str_bool a ta b
  | int b=>obtain⟨tb,rfl⟩:=ry;exact SeqAt.RcAt.str_int a ta b tb
  | str b=>obtain⟨tb,rfl⟩:=ry;exact SeqAt.RcAt.str_str a ta b tb
  | @tup cb nB lB eb rb=>cases ry;obtain⟨bJ,jh,pb⟩:=sb.isTup I eb;exact SeqAt.RcAt.str_tuple a ta pb (by omega)
  | @lst cb nB lB eb rb=>cases ry;obtain⟨bJ,jh,pb⟩:=sb.dP I eb;exact SeqAt.RcAt.str_list a ta pb (by omega)
 | @tup ca QD oK ea ra=>
  cases rx;obtain⟨fK,zq,pa⟩:=sb.isTup I ea
  cases r2 with
  | bV=>cases ry;exact SeqAt.RcAt.tuple_none pa (by omega)
  | bl b=>cases ry;exact SeqAt.RcAt.tuple_bool b pa (by omega)
  | int b=>obtain⟨tb,rfl⟩:=ry;exact SeqAt.RcAt.tuple_int b tb pa (by omega)
  | str b=>obtain⟨tb,rfl⟩:=ry;exact SeqAt.RcAt.tuple_str b tb pa (by omega)
  | @tup cb nB lB eb rb=>cases ry;obtain⟨bJ,jh,pb⟩:=sb.isTup I eb;exact(by
   have hd:A.units+(bH oK+1) < cLine:=hu
   have items:i7 A s fK bJ oK lB:=fun j h1 h2=>j3 I sb oK (A:=A.in1) ra rb zq jh (by show A.units+1+bH oK < cLine;omega) (dw fK j h1) (dw bJ j h2)
   exact qc (by omega) pa pb (zq.length.symm.trans ra.length) (jh.length.symm.trans rb.length) items)
  | @lst cb nB lB eb rb=>cases ry;obtain⟨bJ,jh,pb⟩:=sb.dP I eb;exact SeqAt.RcAt.tuple_list pa pb (by omega)
 | @lst ca QD oK ea ra=>
  cases rx;obtain⟨fK,zq,pa⟩:=sb.dP I ea
  cases r2 with
  | bV=>cases ry;exact SeqAt.RcAt.list_none pa (by omega)
  | bl b=>cases ry;exact SeqAt.RcAt.list_bool b pa (by omega)
  | int b=>obtain⟨tb,rfl⟩:=ry;exact SeqAt.RcAt.list_int b tb pa (by omega)
  | str b=>obtain⟨tb,rfl⟩:=ry;exact SeqAt.RcAt.list_str b tb pa (by omega)
  | @tup cb nB lB eb rb=>cases ry;obtain⟨bJ,jh,pb⟩:=sb.isTup I eb;exact SeqAt.RcAt.list_tuple pa pb (by omega)
  | @lst cb nB lB eb rb=>cases ry;obtain⟨bJ,jh,pb⟩:=sb.dP I eb;exact(by
   have hd:A.units+(bH oK+1) < cLine:=hu
   have items:i7 A s fK bJ oK lB:=fun j h1 h2=>j3 I sb oK (A:=A.in1) ra rb zq jh (by show A.units+1+bH oK < cLine;omega) (dw fK j h1) (dw bJ j h2)
   exact rY (by omega) pa pb (zq.length.symm.trans ra.length) (jh.length.symm.trans rb.length) items)
def Jo (I:Inv X pins σ H s) (sb:Sub F H){d e:D}{x:V}{u w':Value}(r1:Rep F x d) (r2:Rep F y e) (rx:RelV x u) (ry:RelV y w') (hu:A.units+iF d < cLine):SeqAt.RcNeAt A s u w' (!qG d e):=by
 cases r1 with
 | bV=>
  cases rx
  cases r2 with
  | bV=>cases ry;exact SeqAt.RcNeAt.none_none
  | bl b=>cases ry;exact SeqAt.RcNeAt.none_bool b
  | int b=>obtain⟨tb,rfl⟩:=ry;exact SeqAt.RcNeAt.none_int b tb
  | str b=>obtain⟨tb,rfl⟩:=ry;exact SeqAt.RcNeAt.none_str b tb
  | @tup cb nB lB eb rb=>cases ry;obtain⟨bJ,jh,pb⟩:=sb.isTup I eb;exact SeqAt.RcNeAt.none_tuple pb (by omega)
  | @lst cb nB lB eb rb=>cases ry;obtain⟨bJ,jh,pb⟩:=sb.dP I eb;exact SeqAt.RcNeAt.none_list pb (by omega)
 | bl a=>
  cases rx
  cases r2 with
  | bV=>cases ry;exact SeqAt.RcNeAt.bool_none a
  | bl b=>cases ry;exact SeqAt.RcNeAt.bool_bool a b
  | int b=>obtain⟨tb,rfl⟩:=ry;exact SeqAt.RcNeAt.bool_int a b tb
  | str b=>obtain⟨tb,rfl⟩:=ry;exact SeqAt.RcNeAt.bool_str a b tb
  | @tup cb nB lB eb rb=>cases ry;obtain⟨bJ,jh,pb⟩:=sb.isTup I eb;exact SeqAt.RcNeAt.bool_tuple a pb (by omega)
  | @lst cb nB lB eb rb=>cases ry;obtain⟨bJ,jh,pb⟩:=sb.dP I eb;exact SeqAt.RcNeAt.bool_list a pb (by omega)
 | int a=>
  obtain⟨ta,rfl⟩:=rx
  cases r2 with
  | bV=>cases ry;exact SeqAt.RcNeAt.int_none a ta
  | bl b=>cases ry;exact SeqAt.RcNeAt.int_bool a ta b
  | int b=>obtain⟨tb,rfl⟩:=ry;exact SeqAt.RcNeAt.int_int a ta b tb
  | str b=>obtain⟨tb,rfl⟩:=ry;exact SeqAt.RcNeAt.int_str a ta b tb
  | @tup cb nB lB eb rb=>cases ry;obtain⟨bJ,jh,pb⟩:=sb.isTup I eb;exact SeqAt.RcNeAt.int_tuple a ta pb (by omega)
  | @lst cb nB lB eb rb=>cases ry;obtain⟨bJ,jh,pb⟩:=sb.dP I eb;exact SeqAt.RcNeAt.int_list a ta pb (by omega)
 | str a=>
  obtain⟨ta,rfl⟩:=rx
  cases r2 with
  | bV=>cases ry;exact SeqAt.RcNeAt.str_none a ta
  | bl b=>cases ry;exact SeqAt.RcNeAt.str_bool a ta b
  | int b=>obtain⟨tb,rfl⟩:=ry;exact SeqAt.RcNeAt.str_int a ta b tb
  | str b=>obtain⟨tb,rfl⟩:=ry;exact SeqAt.RcNeAt.str_str a ta b tb
  | @tup cb nB lB eb rb=>cases ry;obtain⟨bJ,jh,pb⟩:=sb.isTup I eb;exact SeqAt.RcNeAt.str_tuple a ta pb (by omega)
  | @lst cb nB lB eb rb=>cases ry;obtain⟨bJ,jh,pb⟩:=sb.dP I eb;exact SeqAt.RcNeAt.str_list a ta pb (by omega)
 | @tup ca QD oK ea ra=>
  cases rx;obtain⟨fK,zq,pa⟩:=sb.isTup I ea
  cases r2 with
  | bV=>cases ry;exact SeqAt.RcNeAt.tuple_none pa (by omega)
  | bl b=>cases ry;exact SeqAt.RcNeAt.tuple_bool b pa (by omega)
  | int b=>obtain⟨tb,rfl⟩:=ry;exact SeqAt.RcNeAt.tuple_int b tb pa (by omega)
  | str b=>obtain⟨tb,rfl⟩:=ry;exact SeqAt.RcNeAt.tuple_str b tb pa (by omega)
  | @tup cb nB lB eb rb=>cases ry;obtain⟨bJ,jh,pb⟩:=sb.isTup I eb;exact(by
   have hd:A.units+(bH oK+1) < cLine:=hu
   have items:i7 A s fK bJ oK lB:=fun j h1 h2=>j3 I sb oK (A:=A.in1) ra rb zq jh (by show A.units+1+bH oK < cLine;omega) (dw fK j h1) (dw bJ j h2)
   exact ur (by omega) pa pb (zq.length.symm.trans ra.length) (jh.length.symm.trans rb.length) items)
  | @lst cb nB lB eb rb=>cases ry;obtain⟨bJ,jh,pb⟩:=sb.dP I eb;exact SeqAt.RcNeAt.tuple_list pa pb (by omega)
 | @lst ca QD oK ea ra=>
  cases rx;obtain⟨fK,zq,pa⟩:=sb.dP I ea
  cases r2 with
  | bV=>cases ry;exact SeqAt.RcNeAt.list_none pa (by omega)
  | bl b=>cases ry;exact SeqAt.RcNeAt.list_bool b pa (by omega)
  | int b=>obtain⟨tb,rfl⟩:=ry;exact SeqAt.RcNeAt.list_int b tb pa (by omega)
  | str b=>obtain⟨tb,rfl⟩:=ry;exact SeqAt.RcNeAt.list_str b tb pa (by omega)
  | @tup cb nB lB eb rb=>cases ry;obtain⟨bJ,jh,pb⟩:=sb.isTup I eb;exact SeqAt.RcNeAt.list_tuple pa pb (by omega)
  | @lst cb nB lB eb rb=>cases ry;obtain⟨bJ,jh,pb⟩:=sb.dP I eb;exact(by
   have hd:A.units+(bH oK+1) < cLine:=hu
   have items:i7 A s fK bJ oK lB:=fun j h1 h2=>j3 I sb oK (A:=A.in1) ra rb zq jh (by show A.units+1+bH oK < cLine;omega) (dw fK j h1) (dw bJ j h2)
   exact vo (by omega) pa pb (zq.length.symm.trans ra.length) (jh.length.symm.trans rb.length) items)
noncomputable def OX:List D->Option U
 | [a,b]=>if iF a<=40 then some (.t (.bl (qG a b))) else none
 | _=>none
noncomputable def SW:List D->Option U
 | [a,b]=>if iF a<=40 then some (.t (.bl (!qG a b))) else none
 | _=>none
def F6 (hu:X.A.units+64 < cLine):xq X (compareOp .Eq) OX:=by
 intro pins s σ H x y v u Q I rx ry ⟨F,ds,w,sb,rs,hw,q⟩
 obtain⟨d,e,rfl,r1,r2⟩:=p7 rs
 obtain⟨hd,rfl⟩:=cj (show(if iF d<=40 then some (U.t (.bl (qG d e))) else none)=some w from hw)
 exact QE I sb r1 r2 rx ry (by omega) _ _ _ _ ⟨.bl _,H,I,rfl,q _ F H (gf.refl ..) sb (.bl _)⟩
def M3 (hu:X.A.units+64 < cLine):xq X (compareOp .NotEq) SW:=by
 intro pins s σ H x y v u Q I rx ry ⟨F,ds,w,sb,rs,hw,q⟩
 obtain⟨d,e,rfl,r1,r2⟩:=p7 rs
 obtain⟨hd,rfl⟩:=cj (show(if iF d<=40 then some (U.t (.bl (!qG d e))) else none)=some w from hw)
 exact Jo I sb r1 r2 rx ry (by omega) _ _ _ _ ⟨.bl _,H,I,rfl,q _ F H (gf.refl ..) sb (.bl _)⟩
noncomputable def inD (x:D) (ds:List D):Bool:=ds.any fun y=>qG y x
noncomputable def Jp:List D->Option U
 | [x,.tup ds]=>if bH ds<=40 then some (.t (.bl (inD x ds))) else none
 | [x,.lst ds]=>if bH ds<=40 then some (.t (.bl (inD x ds))) else none
 | [.str i,.str j]=>some (.t (.bl (!(Builtin.Str.occurrences j i 0 j.length 1).isEmpty)))
 | _=>none
def RelV.uniq {v w':V}{u:Value}(a:RelV v u) (b:RelV w' u):v=w':=by
 cases v <;> cases w' <;> simp only[RelV] at a b <;> first
  | rfl
  | (subst a;cases b;done)
  | (subst a;cases b;rfl)
  | (obtain⟨t,rfl⟩:=a;obtain⟨t',e⟩:=b;cases e;done)
  | (obtain⟨t,rfl⟩:=a;obtain⟨t',e⟩:=b;cases e;rfl)
  | (obtain⟨t,rfl⟩:=a;cases b;done)
  | (obtain⟨t,rfl⟩:=b;cases a;done)
open Classical in
noncomputable def vp (F:Hp) (d:D) (y:Value):Bool:=if h:∃(v:V) (dd:D),RelV v y/\Rep F v dd then qG (Classical.choose (abw h)) d else false
def F7 {v:V}{dd d:D}{y:Value}(a:RelV v y) (r:Rep F v dd):vp F d y=qG dd d:=by
 unfold vp
 have h:∃(v:V) (dd:D),RelV v y/\Rep F v dd:=⟨v,dd,a,r⟩
 rw[dif_pos h]
 have k:=abw (abw h)
 have e1:=RelV.uniq k.1 a
 have r':Rep F (Classical.choose h) dd:=by rw[e1];exact r
 rw[Rep.uniq k.2 r']
theorem nC (I:Inv X pins σ H s) (sb:Sub F H){A:Around}{x:V}{u:Value}{d:D}(r:Rep F x d) (rx:RelV x u):∀{vs:List V}{ds:List D}{its:AAI},aX F vs ds->Vals vs its->A.units+bH ds < cLine->
  (∀y∈its,SeqAt.EqAt A s y u (vp F d y))/\its.any (vp F d)=inD d ds
 | _,_,_,.nil,.nil,_=>⟨(fun y hy=>absurd hy (by simp)),rfl⟩
 | _,_,_,@aX.cons _ v dd vs ds r1 rs,.cons q qs,hu=>by
  have hd:A.units+max (iF dd) (bH ds) < cLine:=hu
  obtain⟨h1,h2⟩:=nC I sb (A:=A) r rx rs qs (by omega)
  refine⟨fun y hy=>?_,?_⟩
  ·rcases ZV.mp hy with rfl | hy
   ·rw[F7 q r1];exact LC I sb dd r1 r q rx (by omega)
   ·exact h1 y hy
  ·rw[abA,h2,F7 q r1]
   rfl
def F8 (hu:X.A.units+64 < cLine):xq X (compareOp .In) Jp:=by
 intro pins s σ H x y v u Q I rx ry ⟨F,ds,w,sb,rs,hw,q⟩
 obtain⟨d,e,rfl,r1,r2⟩:=p7 rs
 cases e with
 | tup ds=>
  obtain⟨hd,rfl⟩:=cj (show(if bH ds<=40 then some (U.t (.bl (inD d ds))) else none)=some w by cases d <;> exact hw)
  obtain⟨a,vs,rfl,fa,ha,rs⟩:=sb.iO r2
  cases ry
  obtain⟨its,rv,p⟩:=sb.isTup I fa
  obtain⟨h1,h2⟩:=nC I sb (A:=X.A.in1) r1 rx rs rv (by show X.A.units+1+bH ds < cLine;omega)
  refine SeqAt.in_tupleAt (vp F d) p (fun y hy=>h1 y (by simpa using hy)) ⟨.bl _,H,I,rfl,?_⟩
  rw[show its.toArray.any (vp F d)=its.any (vp F d) by simp,h2]
  exact q _ F H (gf.refl ..) sb (.bl _)
 | lst ds=>
  obtain⟨hd,rfl⟩:=cj (show(if bH ds<=40 then some (U.t (.bl (inD d ds))) else none)=some w by cases d <;> exact hw)
  obtain⟨a,vs,rfl,fa,ha,rs⟩:=sb.iB r2
  cases ry
  obtain⟨its,rv,p⟩:=sb.dP I fa
  obtain⟨h1,h2⟩:=nC I sb (A:=X.A.in1) r1 rx rs rv (by show X.A.units+1+bH ds < cLine;omega)
  refine SeqAt.in_listAt (vp F d) p (fun y hy=>h1 y (by simpa using hy)) ⟨.bl _,H,I,rfl,?_⟩
  rw[show its.toArray.any (vp F d)=its.any (vp F d) by simp,h2]
  exact q _ F H (gf.refl ..) sb (.bl _)
 | str j=>
  cases d <;> try (simp[Jp] at hw;done)
  rename_i i
  cases hw
  cases r1
  cases r2
  exact Dd pins s σ H _ _ v u Q I rx ry ⟨i,j,rfl,rfl,q _ F H (gf.refl ..) sb (.bl _)⟩
 | bV=>cases d <;> (simp[Jp] at hw;done)
 | bl b=>cases d <;> (simp[Jp] at hw;done)
 | int b=>cases d <;> (simp[Jp] at hw;done)
end
section
variable {X:Cx}{pins:AAD}{σ:St}{F H:Hp}{s:Shared}
end
section
variable {X:Cx}{a b c e:Expr}{es:List Expr}{pos p p2 px:Pos}{x y:Str}{g ga gb gc:GD}{gA:GA}
noncomputable def j4:List D->Option (List Bool)
 | []=>some []
 | .bl b :: ds=>(j4 ds).map fun bs=>b :: bs
 | _=>none
theorem rZ {F:Hp}:∀{vs:List V}{ds:List D}{bs:List Bool},aX F vs ds->j4 ds=some bs->vs=bs.map V.bl
 | _,_,_,.nil,h=>by cases h;rfl
 | _,_,_,@aX.cons _ v d vs ds r rs,h=>by
  cases d <;> try (simp[j4] at h;done)
  obtain⟨bs,h1,h2⟩:=aq (show(j4 ds).map _=_ from h)
  subst h2
  rw[nj r,rZ rs h1]
  rfl
noncomputable def U5:List D->Option U
 | [.lst ds]=>(j4 ds).map fun bs=>.t (.bl (bs.all id))
 | _=>none
noncomputable def Jq:List D->Option U
 | [.lst ds]=>(j4 ds).map fun bs=>.t (.bl (bs.any id))
 | _=>none
def n8 {P:D->Prop}{F:Hp}{f:List D->Option U}{w':U}(rs:aX F xs ds) (h:f ds=some w') (hn:f []=none) (h2:∀a b r,f (a :: b :: r)=none):∃x d,xs=[x]/\ds=[d]/\Rep F x d:=by
 cases rs with
 | nil=>rw[hn] at h;cases h
 | cons r rs=>
  cases rs with
  | nil=>exact⟨_,_,rfl,rfl,r⟩
  | cons _ _=>rw[h2] at h;cases h
def Dw (hc:X.calm=true):gI X (.builtin "any") (rP Jq):=by
 intro pins s σ H xs us Q I r ⟨F,ds,w,sb,rs,hw,q⟩
 obtain⟨x,d,rfl,rfl,r1⟩:=n8 (P:=fun _=>True) rs hw rfl (fun d _ _=>by cases d <;> rfl)
 cases d <;> try (simp[Jq] at hw;done)
 rename_i ds
 obtain⟨bs,h1,rfl⟩:=aq (show(j4 ds).map _=some w from hw)
 obtain⟨a,vs,rfl,fa,ha,mU⟩:=sb.iB r1
 obtain rfl:=rZ mU h1
 exact Dq hc pins s σ H _ us Q I r ⟨a,bs,rfl,.inl ha,q _ F H (gf.refl ..) sb (.bl _)⟩
noncomputable def QF:List D->Option U
 | [.int i,.int j,.int k]=>some (.t (.int (if j < i then(if k < j then k else j) else if k < i then k else i)))
 | _=>none
noncomputable def Ca:List D->Option U
 | [.int i,.int j]=>some (.t (.int (if j < i then j else i)))
 | _=>none
def AX (hc : X.calm = true) : gI X (.builtin "min") (rP Ca) := by
  intro pins s σ H xs us Q I r ⟨F,ds,w,sb,rs,hw,q⟩
  unfold Ca at hw
  split at hw
  . rename_i i j
    cases hw
    cases rs with
    | cons r1 rs=>cases rs with
      | cons r2 rs=>
        cases rs
        rw[gj r1,gj r2] at r
        exact De hc pins s σ H _ us Q I r ⟨i,j,rfl,q _ F H (gf.refl ..) sb (.int _)⟩
  . cases hw
noncomputable def zu:List D->Option U
 | [.tup ds]=>some (.m (.lst ds))
 | [.lst ds]=>some (.m (.lst ds))
 | _=>none
noncomputable def bK:List D->Option U
 | [.tup ds]=>some (.t (.tup ds))
 | [.lst ds]=>some (.t (.tup ds))
 | _=>none
def AY:gI X (.type "list") (rP zu):=by
 intro pins s σ H xs us Q I r ⟨F,ds,w,sb,rs,hw,q⟩
 obtain⟨x,d,rfl,rfl,r1⟩:=n8 (P:=fun _=>True) rs hw rfl (fun d _ _=>by cases d <;> rfl)
 cases d <;> try (simp[zu] at hw;done)
 ·cases hw
  obtain⟨a,vs,rfl,fa,ha,mU⟩:=sb.iO r1
  exact pY pins s σ H _ us Q I r ⟨a,vs,rfl,.inr (.inl ha),fun p hp=>q _ F _ (gf.obj hp _) (sb.same (gf.obj (F:=F) hp _).same) ⟨p,rfl,hp,sb.fresh hp,vs,aD,mU⟩⟩
 ·cases hw
  obtain⟨a,vs,rfl,fa,ha,mU⟩:=sb.iB r1
  exact pY pins s σ H _ us Q I r ⟨a,vs,rfl,.inl (.inl ha),fun p hp=>q _ F _ (gf.obj hp _) (sb.same (gf.obj (F:=F) hp _).same) ⟨p,rfl,hp,sb.fresh hp,vs,aD,mU⟩⟩
def bS:gI X (.type "tuple") (rP bK):=by
 intro pins s σ H xs us Q I r ⟨F,ds,w,sb,rs,hw,q⟩
 obtain⟨x,d,rfl,rfl,r1⟩:=n8 (P:=fun _=>True) rs hw rfl (fun d _ _=>by cases d <;> rfl)
 cases d <;> try (simp[bK] at hw;done)
 ·cases hw
  have r0:=r1
  obtain⟨a,vs,rfl,fa,ha,mU⟩:=sb.iO r1
  exact oO pins s σ H _ us Q I r ⟨a,vs,rfl,.inr ⟨.inl ha,q _ F H (gf.refl ..) sb r0⟩⟩
 ·cases hw
  obtain⟨a,vs,rfl,fa,ha,mU⟩:=sb.iB r1
  exact oO pins s σ H _ us Q I r ⟨a,vs,rfl,.inl ⟨.inl ha,fun p hp=>q _ _ _ (gf.root sb hp _) (sb.xm hp) (.tup aD (mU.le (ni (sb.fresh hp))))⟩⟩
end
def iy.ky {k:Key}(e:H a=some (.dK kvs)) (h:IS y k):iy H a y (mT kvs k):=.inl ⟨kvs,k,.inl e,h,rfl⟩
def uc.ky {k:Key}{v:V}(e:H a=some (.dK kvs)) (h:IS y k) (hl:kvs.length < sizeLine):uc H a y v (upd H a (.dK (putK kvs k v))):=.inl ⟨kvs,k,e,h,hl,rfl⟩
noncomputable def keyOf:D->Option Key
 | .bl b=>some (.inl (bI b))
 | .int i=>some (.inl i)
 | .str z=>some (.inr z)
 | _=>none
def g9 {F:Hp}{v:V}{d:D}{k:Key}(r:Rep F v d) (h:keyOf d=some k):IS v k:=by
 cases r <;> cases h <;> first | exact .inl rfl | exact .inr ⟨_,rfl,rfl⟩
noncomputable def aU {κ:Type} [DecidableEq κ] (kvs:List (κ×D)) (k:κ):Option D:=(kvs.find? fun kv=>decide (kv.1=k)).map (·.2)
noncomputable def putD {κ:Type} [DecidableEq κ] (kvs:List (κ×D)) (k:κ) (d:D):List (κ×D):=
 if(kvs.any fun kv=>decide (kv.1=k))=true then kvs.map (fun kv=>if kv.1=k then(kv.1,d) else kv) else kvs++[(k,d)]
theorem iR {κ:Type} [DecidableEq κ] {F:Hp}{k:κ}{d:D}:∀{ws:List (κ×V)}{kvs:List (κ×D)},Paired (jg F) ws kvs->aU kvs k=some d->∃v,mT ws k=some v/\Rep F v d
 | _,_,.nil,h=>by cases h
 | _,_,@Paired.cons _ _ _ p q ws kvs r rs,h=>by
  by_cases e:q.1=k
  ·have e':p.1=k:=r.1.trans e
   refine⟨p.2,pT e',?_⟩
   have:aU (q :: kvs) k=some q.2:=by simp[aU,aaV,e]
   rw[this] at h
   cases h
   exact r.2
  ·have e':¬p.1=k:=fun z=>e (r.1.symm.trans z)
   have:aU (q :: kvs) k=aU kvs k:=by simp[aU,aaV,e]
   rw[this] at h
   obtain⟨v,h1,h2⟩:=iR rs h
   exact⟨v,by rw[nh e'];exact h1,h2⟩
theorem lC {κ:Type} [DecidableEq κ] {F:Hp}{k:κ}:∀{ws:List (κ×V)}{kvs:List (κ×D)},Paired (jg F) ws kvs->aU kvs k=none->mT ws k=none
 | _,_,.nil,h=>rfl
 | _,_,@Paired.cons _ _ _ p q ws kvs r rs,h=>by
  by_cases e:q.1=k
  ·have:aU (q :: kvs) k=some q.2:=by simp[aU,aaV,e]
   rw[this] at h
   cases h
  ·have e':¬p.1=k:=fun z=>e (r.1.symm.trans z)
   have:aU (q :: kvs) k=aU kvs k:=by simp[aU,aaV,e]
   rw[this] at h
   rw[nh e']
   exact lC rs h
theorem zx {κ:Type} [DecidableEq κ] {F:Hp}{k:κ}:∀{ws:List (κ×V)}{kvs:List (κ×D)},Paired (jg F) ws kvs->(ws.any fun kv=>decide (kv.1=k))=(kvs.any fun kv=>decide (kv.1=k))
 | _,_,.nil=>rfl
 | _,_,.cons r rs=>by rw[abA,abA,zx rs,r.1]
theorem zy {κ:Type} [DecidableEq κ] {F:Hp}{k:κ}{v:V}{d:D}(r:Rep F v d):∀{ws:List (κ×V)}{kvs:List (κ×D)},Paired (jg F) ws kvs->Paired (jg F) (ws.map fun kv=>if kv.1=k then(kv.1,v) else kv) (kvs.map fun kv=>if kv.1=k then(kv.1,d) else kv)
 | _,_,.nil=>.nil
 | _,_,@Paired.cons _ _ _ p q ws kvs h hs=>by
  refine .cons ?_ (zy r hs)
  show jg F (if p.1=k then(p.1,v) else p) (if q.1=k then(q.1,d) else q)
  rw[h.1]
  by_cases e:q.1=k
  ·rw[if_pos e,if_pos e];exact⟨rfl,r⟩
  ·rw[if_neg e,if_neg e];exact h
theorem r9 {α β:Type}{P:α->β->Prop}{x:α}{y:β}(p:P x y):∀{l:List α}{r:List β},Paired P l r->Paired P (l++[x]) (r++[y])
 | _,_,.nil=>.cons p .nil
 | _,_,.cons q qs=>.cons q (r9 p qs)
def qd {κ:Type} [DecidableEq κ] {F:Hp}{k:κ}{v:V}{d:D}{ws:List (κ×V)}{kvs:List (κ×D)}(h:Paired (jg F) ws kvs) (r:Rep F v d):Paired (jg F) (putK ws k v) (putD kvs k d):=by
 unfold putK putD
 rw[zx h]
 by_cases e:(kvs.any fun kv=>decide (kv.1=k))=true
 ·rw[if_pos e,if_pos e];exact zy r h
 ·rw[if_neg e,if_neg e];exact r9 ⟨rfl,r⟩ h
noncomputable def kY:D->Option D
 | .tup ds=>if fJ 8 (.tup ds)=true then some (nf (.tup ds)) else none
 | _=>none
def j5 {F:Hp}{v:V}{d:D}{ks:D}(sb:Sub F H) (r:Rep F v d) (h:kY d=some ks):∃b,v= .ref b/\Kd H b ks:=by
 cases r with
 | @tup a vs ds e rs=>
  obtain⟨h1,h2⟩:=cj (show(if fJ 8 (.tup ds)=true then some (nf (.tup ds)) else none)=some ks from h)
  subst h2
  exact⟨a,rfl,_,Rep.le sb (.tup e rs),h1,rfl⟩
 | bV=>cases h
 | bl _=>cases h
 | int _=>cases h
 | str _=>cases h
 | lst _ _=>cases h
noncomputable def d7:U->D->Option D
 | .t (.tup ds),.int i=>dF ds i
 | .t (.lst ds),.int i=>dF ds i
 | .m (.lst ds),.int i=>dF ds i
 | .b (.lst ds),.int i=>dF ds i
 | .s ns,.int i=>(dF ns i).map D.int
 | .m (.dct kvs),k=>(keyOf k).bind (aU kvs)
 | .b (.dct kvs),k=>(keyOf k).bind (aU kvs)
 | .m (.oH kvs),k=>(kY k).bind (aU kvs)
 | .b (.oH kvs),k=>(kY k).bind (aU kvs)
 | _,_=>none
noncomputable def aH (i:Nat) (gb:GD):GD:=fun S=>match S[i]? with
 | some (some _)=>(gb S).bind fun p=>match p.2[i]? with
  | some (some u)=>(d7 u p.1).map fun d=>(d,p.2)
  | _=>none
 | _=>none
def Jr (f:α->β){l:List α}{i:Int}{x:α}(h:dF l i=some x):dF (l.map f) i=some (f x):=by
 unfold dF at h ⊢
 rw[Zw]
 obtain⟨j,h1,h2⟩:=ah h
 rw[h1]
 show(l.map f)[j]? =_
 rw[ZF,h2]
 rfl
section
variable {X:Cx}{a b c e value:Expr}{es:List Expr}{pos p p2 px pos':Pos}{x y:Str}{g ga gb gc gk gv:GD}{gA:GA}
def M4  (hu : X.A.units + 20 < cLine) (hb : JD X b gb) (hs : pW b := by first | (intro _ _; rfl)) (hN : X.N[i]? = some x := by rfl) (hv : AE X.env.scope x := by first | exact Or.inl rfl | exact Or.inr (Or.inl rfl) | exact Or.inr (Or.inr rfl))
    (hd:(x == ("__debug__":Str))=false:=by decide) (hcd:(x == ("__classdict__":Str))=false:=by decide):JD X (.Subscript (.Name x px) b pos) (aH i gb):=⟨fun B=>PE.orelse fun σ H Q ⟨S,F,d,S',R,hg,q⟩=>by
  unfold aH at hg
  split at hg
  . rename_i u0 xE
    obtain⟨v0,hv0,_⟩:=R.rep i u0 xE
    obtain⟨⟨k,S1⟩,h1,hg⟩:=ah hg
    dsimp only at hg
    split at hg
    . rename_i u hS
      obtain⟨d',hr,hg⟩:=aq hg
      cases hg
      have B8:∀F1 H1,Rel X.K B S' σ F1 H1->ug X.K F1 H1 v0 u:=fun F1 H1 R1=>by
        obtain⟨v,k1,k2⟩:=R1.rep i u hS
        rw[hv0] at k1
        cases k1
        exact k2
      have seq:∀(Y:V->V->Hp->VK->Prop),PE X (.Subscript (.Name x px) b pos) (Ml Y (C8 i) (tD X.K B gb))->(∀v F1 H1,Rel X.K B S' σ F1 H1->Step S S' σ F H F1 H1->Rep F1 v k->Y v0 v H1 Q)->∃t',PE X (.Subscript (.Name x px) b pos) t'/\t' σ H Q:=fun Y hY h=>
        ⟨_,hY,v0,hv0,S,F,k,S',R,h1,fun v F1 H1 R1 st1 r1=>h v F1 H1 R1 st1 r1⟩
      have dict:∀kvs,(∀F1 H1,Rel X.K B S' σ F1 H1->∃a ws,v0= .ref a/\H1 a=some (.dK ws)/\Paired (jg F1) ws kvs)->(keyOf k).bind (aU kvs)=some d->∃t',PE X (.Subscript (.Name x px) b pos) t'/\t' σ H Q:=fun kvs hat hr=>by
        obtain⟨kk,e1,e2⟩:=ah hr
        refine⟨_,BV hu (gU hN hv hd hcd) (hb.h B) hs,v0,hv0,S,F,k,S',R,h1,fun v F1 H1 R1 st1 r1=>?_⟩
        obtain⟨a,ws,rfl,ha,pr⟩:=hat F1 H1 R1
        obtain⟨w',z1,z2⟩:=iR pr e2
        exact⟨a,w',rfl,by rw[<-z1];exact iy.ky ha (g9 r1 e1),q w' F1 H1 R1 st1 z2⟩
      have zA:∀kvs,(∀F1 H1,Rel X.K B S' σ F1 H1->∃a ws,v0= .ref a/\H1 a=some (.dT ws)/\Paired (jg F1) ws kvs)->(kY k).bind (aU kvs)=some d->∃t',PE X (.Subscript (.Name x px) b pos) t'/\t' σ H Q:=fun kvs hat hr=>by
        obtain⟨kk,e1,e2⟩:=ah hr
        refine⟨_,BV hu (gU hN hv hd hcd) (hb.h B) hs,v0,hv0,S,F,k,S',R,h1,fun v F1 H1 R1 st1 r1=>?_⟩
        obtain⟨a,ws,rfl,ha,pr⟩:=hat F1 H1 R1
        obtain⟨w',z1,z2⟩:=iR pr e2
        obtain⟨b',rfl,hb'⟩:=j5 R1.sub r1 e1
        exact⟨a,w',rfl,by rw[<-z1];exact iy.t ha hb',q w' F1 H1 R1 st1 z2⟩
      have list:∀ds ii,k= .int ii->dF ds ii=some d->(∀F1 H1,Rel X.K B S' σ F1 H1->∃a vs,v0= .ref a/\(m5 X.K H1 a vs\/wX X.K H1 a vs)/\aX F1 vs ds)->∃t',PE X (.Subscript (.Name x px) b pos) t'/\t' σ H Q:=fun ds ii ek hrr hat=>by
        subst ek
        refine seq _ (BY Fi (gU hN hv hd hcd) (hb.h B) hs) fun v F1 H1 R1 st1 r1=>?_
        obtain⟨a,vs,rfl,ha,rs⟩:=hat F1 H1 R1
        obtain⟨w',z1,z2⟩:=rs.dF hrr
        rw[gj r1]
        rcases ha with ha | ha
        . exact .inl ⟨a,vs,ii,w',rfl,rfl,ha,z1,q w' F1 H1 R1 st1 z2⟩
        . exact .inr (.inl ⟨a,vs,ii,w',rfl,rfl,ha,z1,q w' F1 H1 R1 st1 z2⟩)
      unfold d7 at hr
      split at hr
      . rename_i ds ii
        exact list ds ii rfl hr fun F1 H1 R1=>let⟨a,vs,e1,fa,ha,rs⟩:=R1.sub.iO (B8 F1 H1 R1);⟨a,vs,e1,.inr (.inl ha),rs⟩
      . rename_i ds ii
        exact list ds ii rfl hr fun F1 H1 R1=>let⟨a,vs,e1,fa,ha,rs⟩:=R1.sub.iB (B8 F1 H1 R1);⟨a,vs,e1,.inl (.inl ha),rs⟩
      . rename_i ds ii
        exact list ds ii rfl hr fun F1 H1 R1=>let⟨a,e1,fa,vs,ha,rs⟩:=B8 F1 H1 R1;⟨a,vs,e1,.inl (m5.of ha),rs⟩
      . rename_i ds ii
        exact list ds ii rfl hr fun F1 H1 R1=>let⟨a,e1,fa,vs,ha,rs⟩:=B8 F1 H1 R1;⟨a,vs,e1,.inl (m5.of ha),rs⟩
      . rename_i ns ii
        obtain⟨n,z1,z2⟩:=aq hr
        subst z2
        refine seq _ (BY Fi (gU hN hv hd hcd) (hb.h B) hs) fun v F1 H1 R1 st1 r1=>?_
        obtain⟨a,e1,ha⟩:=B8 F1 H1 R1
        rw[gj r1]
        exact .inl ⟨a,ns.map V.int,ii,.int n,e1,rfl,ha.sq,Jr V.int z1,q _ F1 H1 R1 st1 (.int n)⟩
      . rename_i kvs
        exact dict kvs (fun F1 H1 R1=>let⟨a,e1,fa,ws,ha,pr⟩:=B8 F1 H1 R1;⟨a,ws,e1,ha,pr⟩) hr
      . rename_i kvs
        exact dict kvs (fun F1 H1 R1=>let⟨a,e1,fa,ws,ha,pr⟩:=B8 F1 H1 R1;⟨a,ws,e1,ha,pr⟩) hr
      . rename_i kvs
        exact zA kvs (fun F1 H1 R1=>let⟨a,e1,fa,ws,ha,pr⟩:=B8 F1 H1 R1;⟨a,ws,e1,ha,pr⟩) hr
      . rename_i kvs
        exact zA kvs (fun F1 H1 R1=>let⟨a,e1,fa,ws,ha,pr⟩:=B8 F1 H1 R1;⟨a,ws,e1,ha,pr⟩) hr
      . cases hr
    . cases hg
  . cases hg⟩
noncomputable def vq:U->Option Nat
 | .t (.tup ds)=>some ds.length
 | .t (.lst ds)=>some ds.length
 | .t (.str z)=>if z.length<=100000 then some z.length else none
 | .m (.lst ds)=>some ds.length
 | .b (.lst ds)=>some ds.length
 | .m (.dct ds)=>some ds.length
 | .b (.dct ds)=>some ds.length
 | .m (.oH ds)=>some ds.length
 | .b (.oH ds)=>some ds.length
 | .s ns=>some ns.length
 | _=>none
noncomputable def dZ (i:Nat):GD:=fun S=>match S[i]? with
 | some (some u)=>(vq u).map fun n=>(.int (n:Nat),S)
 | _=>none
theorem cF {α β:Type}{P:α->β->Prop}:∀{l:List α}{r:List β},Paired P l r->l.length=r.length
 | _,_,.nil=>rfl
 | _,_,.cons _ ps=>congrArg Nat.succ (cF ps)
def AZ {K:Type} [DecidableEq K] (knd:HeapKind prog w K) (d:Addr) (hd:(d == sysModules)=false):
  MeetsIn prog w (Builtin.«dict.__len__» ⟨[.ref d],[]⟩) (fun _ R s=>∃xs,s.heap.DictOfH knd d xs/\R (.ok (.ret (.int xs.length s.toks))) {s with toks:=s.toks+1}):=
 .of_wp fun A R s ⟨xs,hm,h⟩=>by
  obtain⟨o,es,ep,ho,hc,hdat,he,his,hn⟩:=hm
  show wpAny _ _ (dictSize d >>= _) _ _ s
  unfold dictSize
  refine Zv (Zv (wpAny_dictEntries ho hdat (wpAny_pure ?_)))
  show wpAny _ _ (Builtin.Dict.pendingCount d >>= _) _ _ s
  refine Zv (wpAny_pendingCount_other hd ?_)
  refine wpAny_ret_mkInt ?_
  rw[Nat.add_zero,size_of_entries he];exact h
def Dy {K:Type} [DecidableEq K] {knd:HeapKind prog w K}{s:Shared}{d:Addr}{xs:List (K×Addr×Value)}(hd:(d == sysModules)=false) (hm:s.heap.DictOfH knd d xs) (hfit:(xs.length:Int) < 2 ^ 63)
  (h:Q (.int xs.length (s.toks+1)) {s with toks:=s.toks+1+1}):wpAny (model prog w) A (Builtin.«len» ⟨[.ref d],[]⟩) (fun fin s'=>∃r,fin= .done (.ret r)/\Q r s') E s:=by
 unfold Builtin.«len»
 refine Zv (m:=oneArg "len" _) (wpAny_pure ?_)
 refine Zv (m:=callSpecial? (.ref d) (Str.ofString "__len__")) (aaO (name:=Str.ofString "__len__") hm.typeIs F.slot_dict_len
  (abT F.slot_dict_len hm.typeIs F.entry_dict_len (F.args_dict_len_1 _) (AZ knd d hd) ⟨xs,hm,?_⟩))
 show wpAny _ _ _ _ _ {s with toks:=s.toks+1}
 refine Zv (aan (wpAny_pure ?_))
 refine Zv (acT ?_)
 show wpAny _ _ (if((xs.length:Nat):Int) < 0 then _ else _) _ _ _
 rw[if_neg (by omega)]
 show wpAny _ _ (if((xs.length:Nat):Int)≥2 ^ 63 then _ else _) _ _ _
 rw[if_neg (by omega)]
 exact Zv (wpAny_mkInt (wpAny_pure ⟨_,rfl,h⟩))
def A0:gI X (.builtin "len") (fun xs H Q=>∃a kvs,xs=[V.ref a]/\H a=some (.dT kvs)/\Q (.int kvs.length) H):=by
 intro pins s σ H xs us Q I r h
 obtain⟨a,kvs,rfl,ha,q⟩:=h
 obtain⟨u,rfl,ru⟩:=vals1 r
 cases ru
 obtain⟨z,hd,ys,rel,dd⟩:=E6 I.hok ha
 have hl:kvs.length=ys.length:=ab3 rel
 refine Calls.call_function_entry kind_len plain_len entry_len (args_len1 _) (Dy hd dd (by rw[<-hl];rw[sizeLine_eq] at z;omega) ?_)
 rw[<-hl]
 exact⟨.int kvs.length,H,I.tok _,⟨_,rfl⟩,q⟩
def fM (hg:Gl X "len") (hm:X.mg "len" =none) (hN:X.N[i]? =some x:=by rfl) (hv:AE X.env.scope x:=by first | exact Or.inl rfl | exact Or.inr (Or.inl rfl) | exact Or.inr (Or.inr rfl))
  (hd:(x == ("__debug__":Str))=false:=by decide) (hcd:(x == ("__classdict__":Str))=false:=by decide) (he:starEach [.Name x px] X.env=(false,eval (.Name x px) X.env) :: starEach [] X.env:=by rfl) (hpl:(backTo pos (starEach [] X.env)).any (·.1)=false:=by rfl):
  JD X (.Call (.Name "len" p) [.Name x px] [] pos) (dZ i):=⟨fun B=>PE.orelse fun σ H Q ⟨S,F,d,S',R,hg',q⟩=>by
 unfold dZ at hg'
 split at hg'
 ·rename_i u hS
  obtain⟨n,hn,hg'⟩:=aq hg'
  cases hg'
  obtain⟨v0,hv0,r0⟩:=R.rep i u hS
  have fin:=q (.int n) F H R (Step.refl ..) (.int _)
  have arg:PA X [.Name x px] (Lk (C8 i) PY):=jH (gU hN hv hd hcd) lO he
  have list:∀a vs,v0= .ref a->(m5 X.K H a vs\/wX X.K H a vs)->vs.length=n->∃t',PE X (.Call (.Name "len" p) [.Name x px] [] pos) t'/\t' σ H Q:=fun a vs e1 ha hl=>
   ⟨_,ng lQ hg hm abU arg (by decide) (by decide) he hpl,v0,hv0,a,vs,by rw[e1],ha,by rw[hl];exact fin⟩
  have dict:∀a ws,v0= .ref a->H a=some (.dK ws)->ws.length=n->∃t',PE X (.Call (.Name "len" p) [.Name x px] [] pos) t'/\t' σ H Q:=fun a vs e1 ha hl=>
   ⟨_,ng Dn hg hm abU arg (by decide) (by decide) he hpl,v0,hv0,a,vs,by rw[e1],ha,by rw[hl];exact fin⟩
  have zA:∀a ws,v0= .ref a->H a=some (.dT ws)->ws.length=n->∃t',PE X (.Call (.Name "len" p) [.Name x px] [] pos) t'/\t' σ H Q:=fun a vs e1 ha hl=>
   ⟨_,ng A0 hg hm abU arg (by decide) (by decide) he hpl,v0,hv0,a,vs,by rw[e1],ha,by rw[hl];exact fin⟩
  unfold vq at hn
  split at hn
  ·cases hn;obtain⟨a,vs,e1,fa,ha,rs⟩:=R.sub.iO r0;exact list a vs e1 (.inr (.inl ha)) rs.length
  ·cases hn;obtain⟨a,vs,e1,fa,ha,rs⟩:=R.sub.iB r0;exact list a vs e1 (.inl (.inl ha)) rs.length
  ·rename_i z
   obtain⟨hl,rfl⟩:=cj hn
   exact⟨_,ng pX hg hm abU arg (by decide) (by decide) he hpl,v0,hv0,z,by rw[B5 r0],kN hl,fin⟩
  ·cases hn;obtain⟨a,e1,fa,vs,ha,rs⟩:=r0;exact list a vs e1 (.inl (m5.of ha)) rs.length
  ·cases hn;obtain⟨a,e1,fa,vs,ha,rs⟩:=r0;exact list a vs e1 (.inl (m5.of ha)) rs.length
  ·cases hn;obtain⟨a,e1,fa,ws,ha,pr⟩:=r0;exact dict a ws e1 ha (cF pr)
  ·cases hn;obtain⟨a,e1,fa,ws,ha,pr⟩:=r0;exact dict a ws e1 ha (cF pr)
  ·cases hn;obtain⟨a,e1,fa,ws,ha,pr⟩:=r0;exact zA a ws e1 ha (cF pr)
  ·cases hn;obtain⟨a,e1,fa,ws,ha,pr⟩:=r0;exact zA a ws e1 ha (cF pr)
  ·cases hn;obtain⟨a,e1,ha⟩:=r0;exact list a _ e1 (.inl ha.sq) (by simp)
  ·cases hn
 ·cases hg'⟩
end
noncomputable def iS (o:MO) (k d:D):Option MO:=match o with
 | .dct kvs=>(keyOf k).bind fun kk=>if kvs.length < 100000 then some (.dct (putD kvs kk d)) else none
 | .oH kvs=>(kY k).bind fun kk=>if kvs.length < 10000000 then some (.oH (putD kvs kk d)) else none
 | .ins _ _=>none
 | .lst ds=>match k with
  | .int i=>(yC ds.length i).map fun j=>.lst (ds.set j d)
  | _=>none
noncomputable def vt (i:Nat) (gk gv:GD):GS:=fun S=>(gv S).bind fun p=>match p.2[i]? with
 | some (some _)=>(gk p.2).bind fun r=>(kJ r.2 i fun o=>(iS o r.1 p.1).map fun o'=>(.bV,o')).map fun z=>.nx z.2
 | _=>none
theorem aX.set {F:Hp}{v:V}{d:D}(r:Rep F v d):∀{vs:List V}{ds:List D}(j:Nat),aX F vs ds->aX F (vs.set j v) (ds.set j d)
 | _,_,_,.nil=>.nil
 | _,_,0,.cons _ rs=>.cons r rs
 | _,_,j+1,.cons q rs=>.cons q (aX.set r j rs)
section
variable {X:Cx}{a b c e value k:Expr}{es:List Expr}{pos p p2 px pos':Pos}{x y:Str}{g ga gb gc gk gv:GD}{gA:GA}
def nF (hu:X.A.units+20 < cLine) (hk:JD X k gk) (hval:JD X value gv) (hN:X.N[i]? =some x:=by rfl) (hv:AE X.env.scope x:=by first | exact Or.inl rfl | exact Or.inr (Or.inl rfl) | exact Or.inr (Or.inr rfl))
  (hd:(x == ("__debug__":Str))=false:=by decide) (hcd:(x == ("__classdict__":Str))=false:=by decide)
  (hs:swapsWith value (some (.Subscript (.Name x px) k pos')) pos.line X.env=pure false:=by rfl)
  (hs1:swapsWithSole [.Subscript (.Name x px) k pos'] value pos.line X.env=pure false:=by rfl) (hs2:swappedStores [.Subscript (.Name x px) k pos'] value X.env=pure none:=by rfl)
  (OY:(assignEach [.Subscript (.Name x px) k pos'] X.env).map (·.2)=[assign (.Subscript (.Name x px) k pos') X.env]:=by rfl)
  (Yh:∀v,assign (.Subscript (.Name x px) k pos') X.env v=(do
   let ov <-holding [v] (eval (.Name x px) X.env)
   let iv <-holding [v,ov] (eval k X.env)
   standAt pos'
   holding [v,ov,iv] (setItem ov iv v)
   release [v,ov,iv] []):=by intro _;rfl):
  JS X (.Assign [.Subscript (.Name x px) k pos'] value pos) (vt i gk gv):=⟨fun B=>PS.orelse fun D σ H ⟨S,F,o,R,hg,q⟩=>by
 obtain⟨⟨d,S1⟩,h1,hg⟩:=ah hg
 dsimp only at hg
 split at hg
 ·rename_i u0 xE
  obtain⟨⟨kd,S2⟩,h2,hg⟩:=ah hg
  obtain⟨⟨nd,S3⟩,h3,hg⟩:=aq hg
  subst hg
  obtain⟨u,u',mo,mo',hS,M0,hio,hf,Iv,rfl⟩:=qP h3
  obtain⟨Zg,hw,hf2⟩:=aq hf
  cases hf2
  have hv0:∀F1 H1,Rel X.K B S1 σ F1 H1->∃v,σ[i]? =some (some v):=fun F1 H1 R1=>let⟨v,k1,_⟩:=R1.rep i u0 xE;⟨v,k1⟩
  cases mo with
  | dct kvs=>
   obtain⟨kk,e1,hw⟩:=ah hw
   obtain⟨hl,rfl⟩:=cj hw
   refine⟨_,BW hu (gU hN hv hd hcd) (hk.h B) (hval.h B) hs,S,F,d,S1,R,h1,fun v F1 H1 R1 st1 r1=>?_⟩
   obtain⟨v0,hv0⟩:=hv0 F1 H1 R1
   refine⟨v0,hv0,S1,F1,kd,S2,R1,h2,fun y F2 H2 R2 st2 r2=>?_⟩
   obtain⟨v',k1,k2⟩:=R2.rep i u hS
   rw[hv0] at k1
   cases k1
   obtain⟨a,o2,rfl,fa,eo,k3⟩:=k2.cA M0
   rw[hio] at eo
   cases eo
   obtain⟨ws,ha,pr⟩:=k3
   refine⟨a,_,rfl,uc.ky ha (g9 r2 e1) (by rw[cF pr];exact ZQ hl (by decide)),?_⟩
   obtain⟨R3,st3⟩:=R2.write (ho:=.dK (putK ws kk v)) hS Iv hv0 ⟨_,aD,qd pr (r1.le st2.ext.le)⟩
   exact q σ F2 _ R3 fun b o z=>st2.ext.le b o (st1.ext.le b o z)
  | ins C kvs=>cases hw
  | oH kvs=>
   obtain⟨kk,e1,hw⟩:=ah hw
   obtain⟨hl,rfl⟩:=cj hw
   refine⟨_,BW hu (gU hN hv hd hcd) (hk.h B) (hval.h B) hs,S,F,d,S1,R,h1,fun v F1 H1 R1 st1 r1=>?_⟩
   obtain⟨v0,hv0⟩:=hv0 F1 H1 R1
   refine⟨v0,hv0,S1,F1,kd,S2,R1,h2,fun y F2 H2 R2 st2 r2=>?_⟩
   obtain⟨v',k1,k2⟩:=R2.rep i u hS
   rw[hv0] at k1
   cases k1
   obtain⟨a,o2,rfl,fa,eo,k3⟩:=k2.cA M0
   rw[hio] at eo
   cases eo
   obtain⟨ws,ha,pr⟩:=k3
   obtain⟨b',rfl,hb'⟩:=j5 R2.sub r2 e1
   refine⟨a,_,rfl,uc.t ha hb' (by rw[cF pr];exact ZQ hl (by decide)),?_⟩
   obtain⟨R3,st3⟩:=R2.write (ho:=.dT (putK ws kk v)) hS Iv hv0 ⟨_,aD,qd pr (r1.le st2.ext.le)⟩
   exact q σ F2 _ R3 fun b o z=>st2.ext.le b o (st1.ext.le b o z)
  | lst ds=>
   unfold iS at hw
   dsimp only at hw
   split at hw
   ·rename_i ii
    obtain⟨j,e1,rfl⟩:=aq hw
    refine⟨_,EV (hval.h B) (Mg (gU hN hv hd hcd) (hk.h B) set_list Yh) hs1 hs2 OY,S,F,d,S1,R,h1,fun v F1 H1 R1 st1 r1=>?_⟩
    obtain⟨v0,hv0⟩:=hv0 F1 H1 R1
    refine⟨v0,hv0,S1,F1,_,S2,R1,h2,fun y F2 H2 R2 st2 r2=>?_⟩
    obtain⟨v',k1,k2⟩:=R2.rep i u hS
    rw[hv0] at k1
    cases k1
    obtain⟨a,o2,rfl,fa,eo,k3⟩:=k2.cA M0
    rw[hio] at eo
    cases eo
    obtain⟨vs,ha,rs⟩:=k3
    rw[gj r2]
    refine⟨a,vs,_,j,rfl,rfl,ha,by rw[rs.length];exact e1,?_⟩
    obtain⟨R3,st3⟩:=R2.write (ho:=.lst (vs.set j v)) hS Iv hv0 ⟨_,aD,rs.set (r1.le st2.ext.le) j⟩
    exact q σ F2 _ R3 fun b o z=>st2.ext.le b o (st1.ext.le b o z)
   ·cases hw
 ·cases hg⟩
def Rel.U6 {F:Hp}{a:Addr}{o':HO}(R:Rel K B S σ F H) (hn:¬cA S σ a) (hf:F a=none) (hB:B.H a=none) (hh:H a=some o) (hz:∀ob u,o≠.jw ob u):Rel K B S σ F (upd H a o'):=by
 have Lz:∀b ob w,H b=some (.jw ob w)->upd H a o' b=some (.jw ob w):=fun b ob w z=>by
  rw[az (fun e=>by rw[e,hh] at z;cases z;exact hz _ _ rfl)];exact z
 refine⟨fun b u z=>?_,R.len,fun j w z=>?_,R.zd,R.own,R.bor,R.par,⟨R.ext.le,fun b u z n=>?_,R.ext.iw,fun b u z=>?_,fun b ob w z=>Lz b ob w (R.ext.jw b ob w z)⟩⟩
 ·have hb:b≠a:=fun e=>by rw[e,hf] at z;cases z
  rw[az hb];exact R.sub b u z
 ·obtain⟨v,h1,h2⟩:=R.rep j w z
  refine⟨v,h1,h2.le (fun _ _ z=>z) Lz fun c hm hc=>?_⟩
  have hca:c≠a:=fun e=>hn ⟨j,w,z,hm,by rw[h1,hc,e]⟩
  obtain⟨c',_,e,f,_⟩:=h2.cA hm
  rw[hc] at e
  cases e
  exact⟨fun o z=>by rw[az hca];exact z,f⟩
 ·rw[az (fun e=>by rw[e,hB] at z;cases z)];exact R.ext.keep b u z n
 ·by_cases hb:b=a
  ·exact⟨o',by rw[hb,aD]⟩
  ·rw[az hb];exact R.ext.there b u z
end
section
variable {X:Cx}{a b c e:Expr}{lo hi:Option Expr}{pos p p2 px:Pos}{x y:Str}{g ga:GD}{gA:GA}{gl gh:Option GD}
def Dz (d:D):Prop:=(toPy d).showable=true/\(toPy d).depth<=20/\(toPy d).shown.length<=sizeLine
noncomputable instance (d:D):Decidable (Dz d):=by unfold Dz;infer_instance
noncomputable def nG:List D->Option U
 | [d]=>if Dz d then some (.t (.str (toPy d).shown)) else none
 | _=>none
mutual
theorem Rep.qQ {pins:AAD}{σ:St}{F H:Hp}{s:Shared}(I:Inv X pins σ H s) (sb:Sub F H):∀{v:V}{d:D}{u:Value},Rep F v d->RelV v u->∃as,Reads s.heap u (toPy d) as
 | _,_,_,.bV,r=>by cases r;exact⟨[],.none⟩
 | _,_,_,.bl b,r=>by cases r;exact⟨[],.bool b⟩
 | _,_,_,.int i,r=>by obtain⟨t,rfl⟩:=r;exact⟨[],.int i t⟩
 | _,_,_,.str z,r=>by obtain⟨t,rfl⟩:=r;exact⟨[],.str z t⟩
 | _,_,_,.tup e rs,r=>by
  cases r
  obtain⟨its,rv,p⟩:=sb.isTup I e
  obtain⟨as,h⟩:=aX.qQ I sb rs rv
  obtain⟨o,ho,hc,n,hd⟩:=p
  exact⟨as,.tuple ho hc hd (by simpa using h)⟩
 | _,_,_,.lst e rs,r=>by
  cases r
  obtain⟨its,rv,p⟩:=sb.dP I e
  obtain⟨as,h⟩:=aX.qQ I sb rs rv
  obtain⟨o,ho,hc,n,hd⟩:=p
  exact⟨_ :: as,.list ho hc hd (by simpa using h)⟩
theorem aX.qQ {pins:AAD}{σ:St}{F H:Hp}{s:Shared}(I:Inv X pins σ H s) (sb:Sub F H):∀{vs:List V}{ds:List D}{us:AAI},aX F vs ds->Vals vs us->∃as,ReadsAll s.heap us (gJ ds) as
 | _,_,_,.nil,r=>by cases r;exact⟨[],.nil⟩
 | _,_,_,.cons q qs,r=>by
  cases r with
  | cons r rs=>
   obtain⟨as,h⟩:=Rep.qQ I sb q r
   obtain⟨bs,k⟩:=aX.qQ I sb qs rs
   exact⟨as++bs,.cons h k⟩
end
def pB (hg:X.A.guards=some []) (hu:X.A.units+64 < cLine):gI X (.builtin "repr") (rP nG):=by
 intro pins s σ H xs us Q I r ⟨F,ds,w,sb,rs,hw,q⟩
 obtain⟨x,d,rfl,rfl,r1⟩:=n8 (P:=fun _=>True) rs hw rfl (fun d _ _=>rfl)
 obtain⟨hok,rfl⟩:=cj (show(if Dz d then some (U.t (.str (toPy d).shown)) else none)=some w from hw)
 have fin:=q (.str (toPy d).shown) F H (gf.refl ..) sb (.str _)
 obtain⟨u,rfl,ru⟩:=vals1 r
 obtain⟨h1,h2,h3⟩:=hok
 have seq:∀a,x= .ref a->wpAny (model X.prog X.w) X.A (call (.builtin "repr") [u]) (EP X pins σ Q) X.xe s:=fun a e1=>by
  subst e1
  cases ru
  obtain⟨as,hr⟩:=Rep.qQ I sb r1 (u:=.ref a) rfl
  exact repr_of_reads' hr h1 (fun z=>by rw[rW] at z;cases z) hg (by omega) (fun _ _ e=>e) (fun h' u tk hk=>⟨.str _,H,I.kept (t':=tk) hk,⟨u,rfl⟩,fin⟩) h3
 cases r1 with
 | bV=>cases ru;exact PySem.P.repr_of_none ⟨.str _,H,I.tok _,⟨_,rfl⟩,fin⟩
 | bl b=>cases ru;exact PySem.P.repr_of_bool ⟨.str _,H,I.tok _,⟨_,rfl⟩,fin⟩
 | int i=>obtain⟨t,rfl⟩:=ru;exact PySem.P.repr_of_int (by simpa[toPy,PyData.showable] using h1) ⟨.str _,H,I.tok _,⟨_,rfl⟩,fin⟩
 | str z=>obtain⟨t,rfl⟩:=ru;exact PySem.P.repr_of_str ⟨.str _,H,I.tok _,⟨_,rfl⟩,fin⟩ h3
 | tup e rs=>exact seq _ rfl
 | lst e rs=>exact seq _ rfl
end
def F9  {y:Str}  {c : Addr}  (clos : closureFor scope X.env = pure [(y, c)]) (jx : ∀ z ∈ scope.names, z.2 ≠ .cell) (kind : scope.kind = .function) (names : ∀ z ∈ scope.names, z.2 = .local -> scope.names.lookup z.1 = some .local)
    (loc:scope.names.lookup x=some .local) (hc:X.env.cells.lookup y=some c) (only:∀z∈scope.names,z.2= .free->z.1=y) (ne:x≠y) (hN:X.N[i]? =some y) (vis:X.env.scope.names.lookup y=some .cell) (rel:(relabel scope X.env).names.lookup y=some .cell):
    d8 X x [y] [i] scope [(y,c)]:=by
  have look:∀n c',([(y,c)]:List (Str×Addr)).lookup n=some c'->n=y/\c'=c:=fun n c' h=>by
    rw[adf] at h
    cases e:n == y with
    | true=>rw[e] at h;cases h;exact⟨eq_of_beq e,rfl⟩
    | false=>rw[e] at h;cases h
  have self:([(y,c)]:List (Str×Addr)).lookup y=some c:=by rw[adf,adg]
  refine⟨clos,jx,kind,names,loc,fun n c' h=>?_,fun n h=>?_,?_,rfl,fun j n h=>?_,fun n h=>?_⟩
  . obtain⟨rfl,rfl⟩:=look n c' h
    exact hc
  . have key:n=y:=by
      have go:∀k,(k=NameKind.cell\/k=NameKind.free)->(relabel scope X.env).names.lookup n=some k->n=y:=fun k hk e=>by
        have m:=aaH e
        unfold relabel at m
        obtain⟨⟨n',k'⟩,hm,q⟩:=Z6.mp m
        by_cases hf:k'= .free
        . have h0:n'=y:=only _ hm hf
          have e1:n'=n:=by
            have h1:=congrArg Prod.fst q
            dsimp only at h1
            split at h1 <;> exact h1
          exact e1.symm.trans h0
        . have z:(k' == NameKind.free)=false:=by simpa using hf
          simp only[z,acR] at q
          have q2:k'=k:=by
            have:=congrArg Prod.snd q
            simpa using this
          rcases hk with rfl | rfl
          . exact absurd q2 (jx _ hm)
          . exact absurd q2 hf
      rcases h with h | h
      . exact go _ (.inl rfl) h
      . exact go _ (.inr rfl) h
    subst key
    exact⟨c,self⟩
  . simp[ne]
  . cases j with
    | zero=>cases h;exact⟨i,rfl,hN,.inr (.inl vis)⟩
    | succ j=>simp at h
  . have e:n=y:=by simpa using h
    subst e
    exact⟨.inl rel,⟨c,self⟩,by rw[vis];decide⟩
section
variable {X:Cx}{a b c e:Expr}{es:List Expr}{pos p p2 px:Pos}{x y:Str}{f:FM}{fa:Addr}{fd:FuncData}{ps:List Str}{k n:Nat}
def gq (a:List D) (o:MO) (h:dP o=false):hAppend a o=none:=by
 cases o with
 | lst ds=>cases h
 | dct k=>unfold hAppend;split <;> first | rfl | (rename_i e;cases e)
 | oH k=>unfold hAppend;split <;> first | rfl | (rename_i e;cases e)
 | ins C k=>unfold hAppend;split <;> first | rfl | (rename_i e;cases e)
end
noncomputable def aV:List D->Option (List Int)
 | []=>some []
 | .int b :: ds=>(aV ds).map fun bs=>b :: bs
 | _=>none
theorem lZ {F:Hp}:∀{vs:List V}{ds:List D}{bs:List Int},aX F vs ds->aV ds=some bs->vs=bs.map V.int
 | _,_,_,.nil,h=>by cases h;rfl
 | _,_,_,@aX.cons _ v d vs ds r rs,h=>by
  cases d <;> try (simp[aV] at h;done)
  obtain⟨bs,h1,h2⟩:=aq (show(aV ds).map _=_ from h)
  subst h2
  rw[gj r,lZ rs h1]
  rfl
section
variable {X:Cx}
end
section
variable {prog:Program}{w:World}{A:Around}{R:Result->Shared->Prop}{I:Addr}{fp wr:List Addr}{G:Array GenState->Array GenState->Prop}{n:Nat}{P:Nat->Value->Prop}{St:Nat->Shared->Prop}
end
section
variable {prog:Program}{w:World}{A:Around}{E:AAB}{s:Shared}
noncomputable def eY (led:Bool):Obj:={cls:=.type "set",dict:=none,data:=.set #[] 0 (.fresh 0 0 led)}
end
section
variable {X:Cx}{a:Expr}{pos p p1 p2:Pos}{ga:GD}
end
noncomputable def sf:U->Option (List D)
 | .t (.lst ds)=>some ds
 | .m (.lst ds)=>some ds
 | .b (.lst ds)=>some ds
 | _=>none
noncomputable def A1 (n:Bool) (i:Nat) (g:GD):GD:=fun S=>(g S).bind fun p=>match p.2[i]? with
 | some (some u)=>(sf u).bind fun ds=>if bH ds<=40 then some (.bl (n != inD p.1 ds),p.2) else none
 | _=>none
section
variable {X:Cx}{a:Expr}{x:Str}{px pos:Pos}{ga:GD}
abbrev Js (X:Cx) (n:Bool):V->V->Hp->VK->Prop:=fun x y H Q=>∃F d ds p vs,y= .ref p/\Sub F H/\Rep F x d/\m5 X.K H p vs/\aX F vs ds/\bH ds<=40/\Q (.bl (n != inD d ds)) H
def U7 (hu:X.A.units+64 < cLine):sF X (compareOp .In) (Js X false):=by
 rintro pins s σ H x y v u Q I rx ry ⟨F,d,ds,p,vs,rfl,sb,r1,hp,rs,hd,q⟩
 cases ry
 obtain⟨its,rv,pl,hz⟩:=I.list hp
 obtain⟨h1,h2⟩:=nC I sb (A:=X.A.in1) r1 rx rs rv (by show X.A.units+1+bH ds < cLine;omega)
 refine SeqAt.in_listAt (vp F d) pl.isList (fun y hy=>h1 y (by simpa using hy)) ⟨.bl _,H,I,rfl,?_⟩
 rw[show its.toArray.any (vp F d)=its.any (vp F d) by simp,h2]
 simpa using q
def DA (hu:X.A.units+64 < cLine):sF X (compareOp .NotIn) (Js X true):=by
 rintro pins s σ H x y v u Q I rx ry ⟨F,d,ds,p,vs,rfl,sb,r1,hp,rs,hd,q⟩
 cases ry
 obtain⟨its,rv,pl,hz⟩:=I.list hp
 obtain⟨h1,h2⟩:=nC I sb (A:=X.A.in1) r1 rx rs rv (by show X.A.units+1+bH ds < cLine;omega)
 refine SeqAt.notIn_listAt (vp F d) pl.isList (fun y hy=>h1 y (by simpa using hy)) ⟨.bl _,H,I,rfl,?_⟩
 rw[show its.toArray.any (vp F d)=its.any (vp F d) by simp,h2]
 simpa using q
def Jt {n:Bool}{Q:VK}(h:tD X.K B (A1 n i ga) σ H Q):Ml (Js X n) (tD X.K B ga) (C8 i) σ H Q:=by
 obtain⟨S,F,d,S',R,hg,q⟩:=h
 obtain⟨⟨d1,S1⟩,h1,hg⟩:=ah hg
 dsimp only at hg
 split at hg
 ·rename_i u hS
  obtain⟨ds,h2,hg⟩:=ah hg
  obtain⟨hd,hg⟩:=cj hg
  cases hg
  refine⟨S,F,d1,_,R,h1,fun v F1 H1 R1 st1 r1=>?_⟩
  obtain⟨v0,hv0,r0⟩:=R1.rep i u hS
  have fin:=q (.bl _) F1 H1 R1 st1 (.bl _)
  have go:∀a vs,v0= .ref a->m5 X.K H1 a vs->aX F1 vs ds->C8 i σ H1 fun y H2=>Js X n v y H2 Q:=fun a vs e ha rs=>⟨v0,hv0,F1,d1,ds,a,vs,e,R1.sub,r1,ha,rs,hd,fin⟩
  unfold sf at h2
  split at h2
  ·cases h2;obtain⟨a,vs,e1,fa,ha,rs⟩:=R1.sub.iB r0;exact go a vs e1 (.inl ha) rs
  ·cases h2;obtain⟨a,e1,fa,vs,ha,rs⟩:=r0;exact go a vs e1 (m5.of ha) rs
  ·cases h2;obtain⟨a,e1,fa,vs,ha,rs⟩:=r0;exact go a vs e1 (m5.of ha) rs
  ·cases h2
 ·cases hg
def DB (hu:X.A.units+64 < cLine) (ha:JD X a ga) (hN:X.N[i]? =some x:=by rfl) (hv:AE X.env.scope x:=by first | exact Or.inl rfl | exact Or.inr (Or.inl rfl) | exact Or.inr (Or.inr rfl)) (hd:(x == ("__debug__":Str))=false:=by decide) (hcd:(x == ("__classdict__":Str))=false:=by decide)
  (hm:behindInMarks .NotIn (.Name x px)=false:=by with_unfolding_all rfl):JT X (.Compare a [.NotIn] [.Name x px] pos) (qB (A1 true i ga)):=⟨fun B=>(BR (DA hu) (ha.h B) (gU hN hv hd hcd) hm).imp fun σ H Q ⟨S,F,k,S',R,hg,q⟩=>Jt ⟨S,F,.bl k,S',R,p6 hg,fun v F' H' R' st r=>⟨k,nj r,q F' H' R' st⟩⟩⟩
end
noncomputable def look:U->Option D
 | .t d=>some d
 | .m (.lst ds)=>some (.lst ds)
 | .b (.lst ds)=>some (.lst ds)
 | _=>none
section
variable {X:Cx}{x y:Str}{p px py pos:Pos}{f:List D->Option U}
end
section
variable (S:SS) (i:Nat) (g:GD)
@[simp] theorem U8 (n:Bool):A1 n i g S=(g S).bind fun p=>match p.2[i]? with | some (some u)=>(sf u).bind fun ds=>if bH ds<=40 then some (.bl (n != inD p.1 ds),p.2) else none | _=>none:=rfl
@[simp] theorem OZ (ds:List D):sf (.t (.lst ds))=some ds:=rfl
@[simp] theorem O0 (ds:List D):sf (.m (.lst ds))=some ds:=rfl
@[simp] theorem O1 (ds:List D):sf (.b (.lst ds))=some ds:=rfl
end
section
variable {X:Cx}{a b c e:Expr}{es:List Expr}{pos p p2 px:Pos}{x y:Str}
def QG:R2:=fun x y H Q=>∃l k xs,x= .ref l/\y= .int k/\Rd H l (.lst xs)/\-(2 ^ 63)<=k/\k < 2 ^ 63/\xs.length * k.toNat<=sizeLine/\
 ∀p,H p=none->Q (.ref p) (upd H p (.lst (List.replicate k.toNat xs).flatten))
def Ju:sF X (binaryOp .Mult) QG:=by
 intro pins s σ H x y v u Q I rx ry h
 obtain⟨l,k,xs,rfl,rfl,hH,h1,h2,hz,q⟩:=h
 cases rx
 obtain⟨t,rfl⟩:=ry
 obtain⟨z,its,n,r,hl,e⟩:=hH.AR I
 have hlen:its.toArray.size * k.toNat<=sizeLine:=by rw[ZL,<-hl];exact hz
 have hcap:¬its.toArray.size * k.toNat > (2 ^ 63 - 1) / 8:=by
  have:(sizeLine:Nat)<=(2 ^ 63 - 1) / 8:=by decide
  omega
 have hfit:¬(!Builtin.List.listFitsIndex k)=true:=by
  rw[fitsIndex_both h1 h2]
  exact aaY
 have Ga:¬Builtin.List.listTooLong (its.toArray.size * k.toNat)=true:=by
  rw[yV hlen]
  exact aaY
 have hnew:List.foldl (fun x1 x2=>x1++x2) #[] (List.replicate (if its.toArray.isEmpty=true then 0 else k.toNat) its.toArray)=(List.replicate k.toNat its).flatten.toArray:=by
  have f0:∀m:Nat,List.foldl (fun x1 x2=>x1++x2) #[] (List.replicate m its.toArray)=(List.replicate m its).flatten.toArray:=fun m=>by
   have:=foldl_rep its m []
   rw[Z9] at this
   exact this
  rw[f0]
  cases its with
  | nil=>simp
  | cons a r'=>rw[if_neg (by simp)]
 refine wpAny_binaryOp_repeat_ref (T:="list") (U:="int") (by decide) ⟨_,e,rfl⟩ (fun s'=>typeIs_int s' k t) noFill_list_mul F.fills_int_mul F.slot_int_rmul repeat_list F.slot_int_index.lookup
  (ac7 F.slot_int_rmul (typeIs_int s k t) F.entry_int_rmul (F.args_int_rmul_2 _ _) (int___rmul___int_list k t l its.toArray n)
   ⟨e,rfl,⟨_,e,rfl⟩,ac7 F.slot_list_mul ⟨_,e,rfl⟩ F.entry_list_mul (F.args_list_mul_2 _ _) (AutoListH.list___mul___list_int_3 l its.toArray n k t hfit hcap Ga) ⟨e,?_⟩⟩)
 rw[hnew]
 exact⟨.ref _,_,I.Qi (t':=s.toks) (r.rep k.toNat) (by rw[len_rep,Nat.mul_comm];exact hz),rfl,q _ I.fresh⟩
theorem aX.rep {F:Hp}{vs:List V}{ds:List D}(r:aX F vs ds):∀k:Nat,aX F (List.replicate k vs).flatten (List.replicate k ds).flatten
 | 0=>.nil
 | k+1=>by rw[aaU,aaU,abk,abk];exact r.append (aX.rep r k)
noncomputable def zB:List D->Option U
 | [.lst ds,.int k]=>if 0<=k/\k.toNat<=100000/\ds.length * k.toNat<=100000 then some (.m (.lst (List.replicate k.toNat ds).flatten)) else none
 | _=>none
def Jv:xq X (binaryOp .Mult) zB:=by
 intro pins s σ H x y v u Q I rx ry ⟨F,ds,w,sb,rs,hw,q⟩
 obtain⟨d,e,rfl,r1,r2⟩:=p7 rs
 cases d <;> cases e <;> try (simp[zB] at hw;done)
 rename_i ds k
 obtain⟨⟨h1,h2,h3⟩,rfl⟩:=cj hw
 obtain⟨a,vs,rfl,fa,ha,mU⟩:=sb.iB r1
 have hy:=gj r2
 subst hy
 exact Ju pins s σ H _ _ v u Q I rx ry ⟨a,k,vs,rfl,rfl,ha,by omega,by omega,by rw[mU.length];exact Z5 h3 (by decide),
  fun p hp=>q _ F _ (gf.obj hp _) (sb.same (gf.obj (F:=F) hp _).same) ⟨p,rfl,hp,sb.fresh hp,_,aD,mU.rep _⟩⟩
noncomputable def Gb:List D->Option U
 | [.int i]=>some (.t (.int i))
 | [.bl k]=>some (.t (.int (if k then 1 else 0)))
 | _=>none
def wg:gI X (.type "int") (rP Gb):=by
 intro pins s σ H xs us Q I r ⟨F,ds,w,sb,rs,hw,q⟩
 obtain⟨x,d,rfl,rfl,r1⟩:=n8 (P:=fun _=>True) rs hw rfl (fun d _ _=>by cases d <;> rfl)
 cases d <;> try (simp[Gb] at hw;done)
 ·cases hw
  have hx:=nj r1
  subst hx
  exact vR pins s σ H _ us Q I r (.inr ⟨_,rfl,q _ F H (gf.refl ..) sb (.int _)⟩)
 ·cases hw
  have hx:=gj r1
  subst hx
  exact vR pins s σ H _ us Q I r (.inl ⟨_,rfl,q _ F H (gf.refl ..) sb (.int _)⟩)
def zC:V->List V->Hp->VK->Prop:=fun x vs H Q=>∃l b xs zs,x= .ref l/\vs=[.ref b]/\H l=some (.lst xs)/\Rd H b (.lst zs)/\xs.length+zs.length<=sizeLine/\Q .bV (upd H l (.lst (xs++zs)))
def uu:Uw X "list.extend" zC:=by
 intro pins s σ H x vs v us Q I rx rv h
 obtain⟨l,b,xs,zs,rfl,rfl,hH,hB,hz,q⟩:=h
 cases rx
 obtain⟨u,rfl,ru⟩:=rv.one
 cases ru
 obtain⟨z,its,n,r,hl,e⟩:=I.AR hH
 obtain⟨z2,its2,n2,r2,hl2,e2⟩:=hB.AR I
 have hsz:its.toArray.size+its2.toArray.size<=sizeLine:=by rw[ZL,ZL];omega
 have Ga:¬(!its.toArray.isEmpty && Builtin.List.listTooLong (its.toArray.size+its2.toArray.size))=true:=by
  rw[yV hsz,acS]
  exact aaY
 refine ac7 F.slot_list_extend ⟨_,e,rfl⟩ F.entry_list_extend (F.args_list_extend_2 _ _)
  (AutoSeq1.list_extend_list_list_0 l its.toArray n b its2.toArray n2 Ga (by rw[ZL];omega) (by omega)) ⟨e,e2,?_⟩
 refine⟨.bV,_,I.Qh (its':=its++its2) hH e (by simp) (r.append r2) ?_,rfl,q⟩
 rw[ZZ]
 omega
noncomputable def i8:List D->MO->Option (D×MO)
 | [.lst es],.lst ds=>if ds.length+es.length<=100000 then some (.bV,.lst (ds++es)) else none
 | _,_=>none
def wj:U0 zC i8:=by
 intro F H a vs xs ds args res o' sb hH fa rs rx hw Q q
 unfold i8 at hw
 split at hw
 ·rename_i es ds' e2
  cases e2
  obtain⟨hl,hw⟩:=cj hw
  cases hw
  cases rx with
  | cons r rr=>
   cases rr
   obtain⟨b,zs,rfl,fb,hb,Dt⟩:=sb.iB r
   exact⟨a,b,vs,zs,rfl,rfl,hH,hb,by rw[rs.length,Dt.length];exact Z5 hl (by decide),q .bV _ .bV ⟨_,aD,rs.append Dt⟩⟩
 ·cases hw
def wk (a:List D) (o:MO) (h:dP o=false):i8 a o=none:=by
 cases o with
 | lst ds=>cases h
 | dct k=>unfold i8;split <;> first | rfl | (rename_i e;cases e)
 | oH k=>unfold i8;split <;> first | rfl | (rename_i e;cases e)
 | ins C k=>unfold i8;split <;> first | rfl | (rename_i e;cases e)
noncomputable def lD:D->Bool
 | .bV=>true
 | _=>false
noncomputable def DC:List D->Option U
 | [d,.bV]=>some (.t (.bl (lD d)))
 | _=>none
def xF:xq X (compareOp .Is) DC:=by
 intro pins s σ H x y v u Q I rx ry ⟨F,ds,w,sb,rs,hw,q⟩
 obtain⟨d,e,rfl,r1,r2⟩:=p7 rs
 cases e <;> try (cases d <;> simp[DC] at hw;done)
 cases hw
 cases r2
 refine Mw pins s σ H _ _ v u Q I rx ry ⟨rfl,?_⟩
 have k:Rep F (V.bl (decide (x= .bV))) (.bl (lD d)):=by
  cases r1 <;> exact .bl _
 exact q _ F H (gf.refl ..) sb k
noncomputable def DE (f:Int->Int->Int) (i:Nat) (g:GD):GS:=fun S=>match S[i]? with
 | some (some (.t (.int n)))=>(g S).bind fun p=>match p.1 with
  | .int m=>(oJ i (.t (.int (f n m))) p.2).map .nx
  | _=>none
 | _=>none
def M5 {f:Int->Int->Int}(ho:SG X op (Uj f)) (hN:X.N.Nodup) (hi:X.N[i]? =some x) (hx:Loc X.env.scope x) (he:JD X e g)
  (hf:X.fn x=true\/X.env.scope.names.lookup x=some .local:=by first | exact .inl rfl | exact .inr rfl | assumption):JS X (.AugAssign (.Name x pos') op e pos) (DE f i g):=
 ⟨fun B=>(Mi hN hi hx (he.h B) ho hf).imp fun D σ H ⟨S,F,o,R,h,k⟩=>by
 unfold DE at h
 split at h
 ·rename_i n hS
  obtain⟨⟨d,S1⟩,h1,h⟩:=ah h
  dsimp only at h
  split at h
  ·rename_i m
   obtain⟨S2,h2,h⟩:=aq h
   subst h
   obtain⟨v,k1,k2⟩:=R.rep i _ hS
   have hv:v= .int n:=gj k2
   subst hv
   refine⟨_,k1,S,F,_,S1,R,h1,fun y F1 H1 R1 st1 r1=>⟨n,m,rfl,gj r1,?_⟩⟩
   exact k _ F1 H1 (R1.put h2 (.int _)) st1.ext.le
  ·cases h
 ·cases h⟩
def A2     {cl : List (Str × Addr)} (clos : closureFor scope X.env = pure cl) (jx : ∀ z ∈ scope.names, z.2 ≠ .cell) (kind : scope.kind = .function) (names : ∀ z ∈ scope.names, z.2 = .local -> scope.names.lookup z.1 = some .local)
    (loc:scope.names.lookup x=some .local) (hc:cl.map (fun p=>X.env.cells.lookup p.1)=cl.map (fun p=>some p.2)) (only:∀z∈scope.names,z.2= .free->z.1∈aZ) (hcl:cl.map (·.1)=aZ.reverse\/cl.map (·.1)=aZ) (nd:(x :: aZ).Nodup)
    (slot:cap.map (fun i=>X.N[i]?)=aZ.map some) (vis:aZ.map (fun n=>X.env.scope.names.lookup n)=aZ.map fun _=>some .cell) (rel:aZ.map (fun n=>(relabel scope X.env).names.lookup n)=aZ.map fun _=>some .cell):
    d8 X x aZ cap scope cl:=by
  have all:∀{α β:Type}{f g:α->β}{l:List α},l.map f=l.map g->∀a∈l,f a=g a:=fun {α β f g l} h=>by
    induction l with
    | nil=>intro a m;cases m
    | cons b r ih=>
      intro a m
      rw[aae,aae] at h
      injection h with h1 h2
      rcases ZV.mp m with z | z
      . rw[z];exact h1
      . exact ih h2 a z
  have QH:∀n,n∈aZ->∃c,cl.lookup n=some c:=fun n hn=>lookup_some (hcl.elim (fun z=>by rw[z];exact List.mem_reverse.mpr hn) fun z=>by rw[z];exact hn)
  have len:cap.length=aZ.length:=by have:=congrArg List.length slot;simpa using this
  refine⟨clos,jx,kind,names,loc,fun n c h=>all hc (n,c) (aaH h),fun n h=>?_,nd,len,fun j n h=>?_,fun n h=>⟨.inl (all rel n h),QH n h,by rw[all vis n h];decide⟩⟩
  . refine QH n ?_
    have go:∀k,(k=NameKind.cell\/k=NameKind.free)->(relabel scope X.env).names.lookup n=some k->n∈aZ:=fun k hk e=>by
      have m:=aaH e
      unfold relabel at m
      obtain⟨⟨n',k'⟩,hm,q⟩:=Z6.mp m
      by_cases hf:k'= .free
      . have h0:n'∈aZ:=only _ hm hf
        have e1:n'=n:=by
          have h1:=congrArg Prod.fst q
          dsimp only at h1
          split at h1 <;> exact h1
        rw[<-e1]
        exact h0
      . have z:(k' == NameKind.free)=false:=by simpa using hf
        simp only[z,acR] at q
        have q2:k'=k:=by
          have:=congrArg Prod.snd q
          simpa using this
        rcases hk with rfl | rfl
        . exact absurd q2 (jx _ hm)
        . exact absurd q2 hf
    rcases h with h | h
    . exact go _ (.inl rfl) h
    . exact go _ (.inr rfl) h
  . have e:=congrArg (fun l=>l[j]?) slot
    simp only[ZF,h,acK] at e
    cases q:cap[j]? with
    | none=>rw[q] at e;cases e
    | some i=>
      rw[q] at e
      exact⟨i,rfl,ZU e,.inr (.inl (all vis n (ZO h)))⟩
end
open AutoSeq1 (wpAny_loadPart')
def nH (k:Bool) (h:Heap) (a:Addr) (its:AAH):Prop:=match k with
 | true=>h.IsList a its
 | false=>h.IsTuple a its
def mL (k:Bool) (h:Heap) (it a:Addr) (i:Nat):Prop:=match k with
 | true=>h.IsListIter it a i
 | false=>h.IsTupleIter it a i
noncomputable def Yi:Bool->String
 | true=>"list_iterator"
 | false=>"tuple_iterator"
noncomputable def DF (k:Bool) (a:Addr):Obj:={cls:=.type (Yi k),data:=.fields #[.ref a,.int 0 0]}
def nH.at {h:Heap}(x:nH k h a its) (g:∀o,h.get? a=some o->h'.get? a=some o):nH k h' a its:=by
 cases k <;> exact let⟨o,ho,r⟩:=x;⟨o,g o ho,r⟩
def mL.at {h:Heap}{it:Addr}(x:mL k h it a i) (g:∀o,h.get? it=some o->h'.get? it=some o):mL k h' it a i:=by
 cases k <;> exact let⟨o,ho,r⟩:=x;⟨o,g o ho,r⟩
def mL.obj {h:Heap}{it:Addr}(x:mL k h it a i):∃o,h.get? it=some o/\∀v,o.data≠.cell v:=by
 cases k <;> exact let⟨o,ho,_,r⟩:=x;⟨o,ho,fun v z=>by rw[r] at z;cases z⟩
def mL.new (k:Bool) (h:Heap) (a:Addr):mL k (h.push (DF k a)) h.objs.size a 0:=by
 cases k <;> exact⟨_,ZT _ rfl,rfl,rfl⟩
section
variable {prog:Program}{w:World}{A:Around}{E:AAB}{s:Shared}
def Gd (h:nH k s.heap a its) (q:Q (.ref s.heap.objs.size) {s with heap:=s.heap.push (DF k a)}):wpAny (model prog w) A (pyIter (.ref a)) Q E s:=by
 cases k with
 | true=>exact acq h q
 | false=>exact abI h q
def Jw {t:Addr}{y:Value}(st:s.heap.IsTupleIter ad t n) (hv:s.heap.IsTuple t vals) (hy:vals[n]? =some y)
  (q:∀h',h'.IsTupleIter ad t (n+1)->Heap.SameBut ad s.heap h'->Q y {s with heap:=h'}):wpAny (model prog w) A (Builtin.SmallTypes.nextOf (.ref ad)) Q E s:=by
 obtain⟨ob,hob,hcl,hdat⟩:=id st
 obtain⟨Yj,M6,_,nn,Ge⟩:=hv
 unfold Builtin.SmallTypes.nextOf
 refine Zv (aaO (name:=Str.ofString "__next__") st.typeIs abB (aaF abB st.typeIs F.entry_tuple_iterator_next ?_ (F.args_tuple_iterator_next_1 _)))
 show wpAny _ _ (field (.ref ad) 0 >>= _) _ _ s
 refine Zv (aaZ hob hdat (x:=.ref t) rfl ?_)
 show wpAny _ _ (if(Value.ref t == Value.none)=true then _ else _) _ _ s;rw[if_neg (show ¬((Value.ref t == Value.none)=true) from aaY)]
 show wpAny _ _ (field (.ref ad) 1 >>= _) _ _ s
 refine Zv (aaZ hob hdat (x:=.int n 0) rfl ?_)
 show wpAny _ _ (seqItems? (.ref t) >>= _) _ _ s;refine Zv (aaK M6 Ge ?_)
 simp only[aaB,hy]
 refine Zv (wpAny_setField hob hdat (by simp) (wpAny_pure ⟨y,rfl,wpAny_pure (q _ ?_ (aaI ..))⟩))
 exact⟨_,aao _ hob (Obj.isFreed_of_fields (Obj.data_mapFields hdat _)),(Obj.cls_mapFields ..).trans hcl,by rw[Obj.data_mapFields hdat];simp[rawInt]⟩
def M7 {t:Addr}(hn:A.handled=none) (st:s.heap.IsTupleIter ad t n) (hv:s.heap.IsTuple t vals) (hy:vals[n]? =none)
  (q:∀h' e,Heap.ExtBut ad s.heap h'->(∃o,h'.get? e=some o/\o.cls= .type "StopIteration")->E (.ref e) {s with heap:=h'}):wpAny (model prog w) A (Builtin.SmallTypes.nextOf (.ref ad)) Q E s:=by
 obtain⟨ob,hob,hcl,hdat⟩:=id st
 obtain⟨Yj,M6,_,nn,Ge⟩:=hv
 unfold Builtin.SmallTypes.nextOf
 refine Zv (aaO (name:=Str.ofString "__next__") st.typeIs abB (aaF abB st.typeIs F.entry_tuple_iterator_next ?_ (F.args_tuple_iterator_next_1 _)))
 show wpAny _ _ (field (.ref ad) 0 >>= _) _ _ s
 refine Zv (aaZ hob hdat (x:=.ref t) rfl ?_)
 show wpAny _ _ (if(Value.ref t == Value.none)=true then _ else _) _ _ s;rw[if_neg (show ¬((Value.ref t == Value.none)=true) from aaY)]
 show wpAny _ _ (field (.ref ad) 1 >>= _) _ _ s
 refine Zv (aaZ hob hdat (x:=.int n 0) rfl ?_)
 show wpAny _ _ (seqItems? (.ref t) >>= _) _ _ s;refine Zv (aaK M6 Ge ?_)
 simp only[aaB,hy]
 refine Zv (abi (Zv (wpAny_setField hob hdat (by simp) ?_)))
 show wpAny _ _ (newExc (.type "StopIteration") [] >>= _) _ _ _;refine Zv ?_;simp only[newExc,newTuple]
 refine Zv (aaS ?_ (by size_fits));refine Zv (m:=firstArgMember _ _) (wpAny_of_eq (a:=Value.none) (by first | rfl | (simp only[firstArgMember];rfl)) ?_)
 refine aaS ?_ (by size_fits);simp only[raiseNew];refine Zv (wpAny_handled ?_)
 first | rw[show A.in1.handled=none from hn] | rw[hn]
 refine Zv (wpAny_pure (wpAny_throw ?_));exact q _ _ (((aaI ..).extBut.push _).push _) ⟨_,ZT _ rfl,rfl⟩
def nextK {t:Addr}{y:Value}(st:mL k s.heap ad t n) (hv:nH k s.heap t vals) (hy:vals[n]? =some y)
  (q:∀h',mL k h' ad t (n+1)->Heap.SameBut ad s.heap h'->Q y {s with heap:=h'}):wpAny (model prog w) A (Builtin.SmallTypes.nextOf (.ref ad)) Q E s:=by
 cases k with
 | true=>exact wpAny_nextOf_list_item st hv hy q
 | false=>exact Jw st hv hy q
def DG {t:Addr}(hn:A.handled=none) (st:mL k s.heap ad t n) (hv:nH k s.heap t vals) (hy:vals[n]? =none)
  (q:∀h' e,Heap.ExtBut ad s.heap h'->(∃o,h'.get? e=some o/\o.cls= .type "StopIteration")->E (.ref e) {s with heap:=h'}):wpAny (model prog w) A (Builtin.SmallTypes.nextOf (.ref ad)) Q E s:=by
 cases k with
 | true=>exact wpAny_nextOf_list_end hn st hv hy q
 | false=>exact M7 hn st hv hy q
def M8 (hn:A.handled=none) (ad t:Addr) (hne:t≠ad) (vals:AAH):Draws prog w A ad [ad,t] vals.size (fun i v=>vals[i]? =some v) (fun i h=>mL k h ad t i/\nH k h t vals) where
 live:=fun _ _ st=>let⟨o,ho,_⟩:=st.1.obj;⟨o,ho⟩
 frame:=fun _ _ _ st hk=>⟨st.1.at fun o e=>hk ad (by simp) o e,st.2.at fun o e=>hk t (by simp) o e⟩
 item:=fun i s Q E hi st hQ=>nextK st.1 st.2 (y:=vals[i]) (by simp[hi]) fun h' M9 hs'=>hQ _ h' s.toks (by simp[hi]) ⟨M9,st.2.at fun o e=>hs'.extBut _ _ hne e⟩ hs'
 done:=fun s Q E st hE=>DG hn st.1 st.2 (by simp) hE
end
def Gf (l:Addr) (vals:AAH) (n:Nat) (dct:Option Addr) (sl:Array (Option Value)):
  Meets (Builtin.«enumerate.__new__» ⟨[.type "enumerate",.ref l],[]⟩) (fun _ R s=>s.heap.get? l=some {cls:=.type "tuple",dict:=dct,data:=.seq vals n,slots:=sl}/\
   R (.ok (.ret (.ref (s.heap.push (DF false l)).objs.size))) {s with heap:=(s.heap.push (DF false l)).push {cls:=.type "enumerate",data:=.fields #[.none,.bool false,.ref s.heap.objs.size,rawInt 0,.none,.none]}}):=
 .of_wp fun prog w A R s h=>by
  obtain⟨hp,g,d,tk,os⟩:=s;obtain⟨hl,h⟩:=h
  have hsub:=sub_enumerate
  have hT:Heap.IsTuple (Shared.heap ⟨hp,g,d,tk,os⟩) l vals:=⟨_,hl,rfl,n,rfl⟩
  wp_walk using wpAny_loadPart' hl
  refine wpAny_stack_any fun st=>wpAny_pure ?_
  split
  ·rename_i c _ _ _ _ _
   cases(c == Value.type "enumerate")
   ·wp_walk using wpAny_loadPart' hl,abI hT;exact⟨_,rfl,h⟩
   ·wp_walk using wpAny_loadPart' hl,abI hT;exact⟨_,rfl,h⟩
  ·wp_walk using wpAny_loadPart' hl,abI hT;exact⟨_,rfl,h⟩
section
variable {prog:Program}{w:World}{A:Around}{E:AAB}{s:Shared}
def A3 {l:Addr}(hL:nH k s.heap l vals)
  (h:∀h',IsEnum h' (s.heap.objs.size+1) s.heap.objs.size 0 .none->mL k h' s.heap.objs.size l 0->(∀b o,s.heap.get? b=some o->h'.get? b=some o)->Q (.ref (s.heap.objs.size+1)) {s with heap:=h'}):
  wpAny (model prog w) A (call (.type "enumerate") [.ref l]) Q E s:=by
 cases k with
 | true=>exact call_enumerate_list hL fun h' a b _ c=>h h' a b c
 | false=>
  obtain⟨⟨c,dct,dt,sl⟩,hl,hc,n,hd⟩:=hL
  have hc:c= .type "tuple":=hc
  have hd:dt= .seq vals n:=hd
  subst hc hd
  refine callType_new F.called_enumerate (by decide) (F.typeCall_enumerate_1 _) (F.newCall_enumerate_1 _) (fun obj=>F.args_object_init_2 obj _) F.entry_enumerate_new (Gf l vals n dct sl) ⟨hl,?_⟩
  have hz:(s.heap.push (DF false l)).objs.size=s.heap.objs.size+1:=aaD ..
  show _/\_
  rw[hz]
  have he:IsEnum ((s.heap.push (DF false l)).push {cls:=.type "enumerate",data:=.fields #[.none,.bool false,.ref s.heap.objs.size,rawInt 0,.none,.none]}) (s.heap.objs.size+1) s.heap.objs.size 0 .none:=by
   have:=ZT (s.heap.push (DF false l)) (o:={cls:=.type "enumerate",data:=.fields #[.none,.bool false,.ref s.heap.objs.size,rawInt 0,.none,.none]}) rfl
   rw[hz] at this;exact this
  exact⟨⟨_,he,rfl⟩,h _ he ((mL.new false s.heap l).at fun o e=>Zx _ e) fun b o x=>Zx _ (Zx _ x)⟩
end
def Na (hn:A.handled=none) (ad t:Addr) (vals:AAH) (n:Nat) (he:vals[n]? =none):Draws prog w A ad [ad,t] n (fun _ _=>True) (fun i h=>mL k h ad t i/\nH k h t vals/\i=n) where
 live:=fun _ _ st=>let⟨o,ho,_⟩:=st.1.obj;⟨o,ho⟩
 frame:=fun _ _ _ st hk=>⟨st.1.at fun o e=>hk ad (by simp) o e,st.2.1.at fun o e=>hk t (by simp) o e,st.2.2⟩
 item:=fun i s Q E hi st hQ=>absurd hi (by rw[st.2.2];exact aaz _)
 done:=fun s Q E st hE=>DG hn st.1 st.2.1 he hE
def EF (K:AAA) (H:Hp) (k:Bool) (a:Addr) (xs:List V):Prop:=match k with
 | true=>m5 K H a xs
 | false=>wX K H a xs
section
variable {X:Cx}{pins:AAD}{σ:St}{H:Hp}{s:Shared}
def Inv.Jx (I:Inv X pins σ H s)(h:EF X.K H k a xs):∃its:List Value,Vals xs its/\nH k s.heap a its.toArray/\xs.length<=sizeLine:=by
 cases k with
 | true=>obtain⟨its,r,p,z⟩:=I.list h;exact⟨its,r,p.isList,z⟩
 | false=>obtain⟨its,r,p,z⟩:=I.tuple h;exact⟨its,r,p,z⟩
def Inv.Jy (I:Inv X pins σ H s){ys:List V}(h:EF X.K H k a xs) (h':EF X.K H k a ys):xs=ys:=by
 cases k with
 | true=>exact I.yO h h'
 | false=>exact I.vQ h h'
def Inv.xG {t':Nat}(I:Inv X pins σ H s) (k:∀b o,b∉fp->s.heap.get? b=some o->h'.get? b=some o) (hf:∀b∈fp,kI X pins H b):Inv X pins σ H {s with heap:=h',toks:=t'}:=by
 have Pq:∀b u,H b=some u->b∉fp:=fun b u e z=>by rw[(hf b z).1] at e;cases e
 refine I.step (g':=s.gens) (d':=s.drawn) (ch:=fp) (fun b hb=>?_) (fun b o _ _ hc e _=>k b o hc e) (fun b o _ _ hc e _=>⟨o.slots,k b o hc e⟩) (fun _ _ _ _ n=>n)
  (fun b o hc e=>⟨o,k b o hc e⟩) (fun _ _ e=>e) (fun _ _ _ e=>e) (fun b ps e=>⟨#[],by rw[e];simp⟩) (fun m hm=>?_) (fun b u e=>?_) I.bare
 ·obtain⟨_,f1,_,f3,f4,f5⟩:=hf b hb
  exact⟨f3,f1,f4,f5⟩
 ·obtain⟨o,es,ep,ho,r⟩:=hm
  exact⟨o,es,ep,k _ o (fun z=>(hf _ z).2.1 rfl) ho,r⟩
 ·refine(I.hok b u e).stay (fun c v hc q=>k c v ?_ q) (fun _ q=>q) fun _ _ q=>q
  rcases hc with z | z
  ·rw[z];exact Pq b u e
  ·exact Pq c _ z
def Inv.handed {t':Nat}{its:AAI}(I:Inv X pins σ H s) (hf:∀b∈fp,kI X pins H b) (hlt:∀b∈fp,b < s.heap.objs.size) (k:∀b o,b∉fp->s.heap.get? b=some o->h'.get? b=some o)
  (ht:h'.get? s.heap.objs.size=some {cls:=.type "tuple",data:=.seq its.toArray}) (hv:Vals xs its) (hz:xs.length<=sizeLine):Inv X pins σ (upd H s.heap.objs.size (.tup xs)) {s with heap:=h',toks:=t'}:=by
 have I1:Inv X pins σ (upd H s.heap.objs.size (.tup xs)) {s with heap:=s.heap.push {cls:=.type "tuple",data:=.seq its.toArray},toks:=t'}:=
  I.laid (fun _ _ q=>Zx _ q) (ZM _) ⟨hz,its,hv,IsTup.new s.heap _⟩
 refine Inv.xG (s:={s with heap:=s.heap.push {cls:=.type "tuple",data:=.seq its.toArray},toks:=t'}) (t':=t') (fp:=fp) I1 (fun b o hb e=>?_) fun b hb=>?_
 ·rcases Heap.get?_push_cases (show(s.heap.push {cls:=.type "tuple",data:=.seq its.toArray}).get? b=some o from e) with⟨z1,z2⟩ | z
  ·rw[z1,z2];exact ht
  ·exact k b o hb z
 ·obtain⟨f0,f1,f2,f3,f4,f5⟩:=hf b hb
  exact⟨by rw[az (ZY (hlt b hb))];exact f0,f1,f2,f3,f4,f5⟩
end
noncomputable def W6 (K:AAA) (k:Bool) (a:Addr):It:=
 ⟨fun i H=>∃xs x,EF K H k a xs/\xs[i]? =some x,fun i H x H'=>∃p y,H p=none/\x= .ref p/\H'=upd H p (.tup [.int i,y])/\∀xs,EF K H k a xs->xs[i]? =some y,fun i H=>∃xs,EF K H k a xs/\xs.length<=i⟩
def DH {P : Program}   {elts : List Expr} {j : Nat}  (k : Bool) (a it e : Addr) (hai : a ≠ it) (Yk : e ≠ a) (hei : e ≠ it) : Turn P w K (.Tuple elts j pos) (W6 K k a) [e, it] e (fun i h => (∃ old, IsEnum h e it (i : Int) old) /\ mL k h it a i) where
  mem:=by simp
  obj := fun i h ⟨⟨old, he⟩, st⟩ b hb => by
    rcases ZV.mp hb with z | z
    . subst z;exact⟨_,he,fun v z=>by cases z⟩
    . have z:b=it:=by simpa using z
      subst z
      exact st.obj
  keep:=fun i h h' ⟨⟨old,he⟩,st⟩ g=>⟨⟨old,g e (by simp) _ he⟩,st.at fun o q=>g it (by simp) o q⟩
  item:=by
    intro X hP hw hK hc i pins s σ H E I hf st hg
    subst hP hw hK
    obtain⟨xs,x,hq,hx⟩:=hg
    obtain⟨its,rv,p,hz⟩:=I.Jx hq
    obtain⟨u,hu,ru⟩:=rv.get hx
    obtain⟨⟨old,he⟩,hit⟩:=st
    have hsz:i < its.toArray.size:=by rw[ZL];exact(Zy.mp hu).1
    refine wpAny_pyNext_enum_itemD (M8 (k:=k) (A:=X.A.in1) (I.ok.hd hc) it a hai its.toArray) he ⟨hit,p⟩ hsz hei (by simp[Yk,hei]) fun y h' tk hy ho hs' hT Zh hk=>?_
    obtain⟨M9,p'⟩:=hs'
    have ey:y=u:=by
      have h1:its.toArray[i]? =some u:=by simpa using hu
      rw[h1] at hy;exact(ZU hy).symm
    subst ey
    refine⟨_,rfl,wpAny_letOwnedTupleGo_enum ho fun h2 Yl hs2=>?_⟩
    have hs2:Heap.SameBut e h' h2:=hs2
    have elt:e < s.heap.objs.size:=ZP he
    obtain⟨oi,U9,_⟩:=hit.obj
    have Ym:it < s.heap.objs.size:=ZP U9
    have QI:∀b∈[e,it],b < s.heap.objs.size:=fun b hb=>by
      rcases ZV.mp hb with z | z
      . rw[z];exact elt
      . rw[show b=it by simpa using z];exact Ym
    have I2:Inv X pins σ (upd H s.heap.objs.size (.tup [.int i,x])) {s with heap:=h2,toks:=tk+1}:=
      I.handed (its:=[.int i tk,y]) hf QI (fun b o hb q=>(hs2.2 b fun z=>hb (by simp[z])).trans (hk b o (fun z=>hb (by simp[z])) (fun z=>hb (by simp[z])) q))
        ((hs2.2 _ (abe elt)).trans hT) (.cons ⟨tk,rfl⟩ (.cons ru .nil)) (show 2<=sizeLine by decide)
    refine⟨.ref s.heap.objs.size,_,I2,rfl,⟨_,x,I.fresh,rfl,rfl,fun ys Yn=>by rw[I.Jy Yn hq];exact hx⟩,⟨⟨y,by simpa using Yl⟩,M9.at fun o q=>(hs2.2 _ (aaN hei)).trans q⟩,fun b hb=>?_⟩
    rw[az (ZY (QI b hb))]
    exact(hf b hb).1
  done:=by
    intro X hP hw hK hc i pins s σ H E I hf st hg
    subst hP hw hK
    obtain⟨xs,hq,hx⟩:=hg
    obtain⟨its,rv,p,hz⟩:=I.Jx hq
    obtain⟨⟨old,he⟩,hit⟩:=st
    have hl:=rv.length
    refine wpAny_pyNext_enum_endD (n:=i) (Na (k:=k) (A:=X.A.in1) (I.ok.hd hc) it a its.toArray i (by simp;omega)) he ⟨hit,p,rfl⟩ fun h' hx=>?_
    exact⟨rfl,I.xG (t':=s.toks) (fun b o hb q=>hx b o (fun z=>hb (by simp[z])) q) hf⟩
  self:=fun _ _ _ _ _ st h=>by
    obtain⟨⟨old,he⟩,_⟩:=st
    exact wpAny_pyIter_enum he h
abbrev TupAt (h:Heap) (T:Addr) (vals:AAH):Prop:=h.get? T=some {cls:=.type "tuple",data:=.seq vals}
section
variable {prog:Program}{w:World}{A:Around}{E:AAB}{s:Shared}
def Nc {T:Addr}{x:Value}{k:Nat}{Q:Unit->Shared->Prop}(hT:TupAt s.heap T vals) (hz:vals.size<=sizeLine) (h:∀h',TupAt h' T (vals.setIfInBounds k x)->Heap.SameBut T s.heap h'->Q () {s with heap:=h'}):
  wpAny (model prog w) A (updateSeq T (·.setIfInBounds k x)) Q E s:=by
 refine abx hT rfl (h _ ?_ (aaI ..)) hz (by simp only[Array.size_setIfInBounds];omega);rw[TupAt,aao _ hT rfl];simp[Obj.mapSeq]
structure Nd (N:Nat) (k0 k1:Bool) (l0 l1:Nat) (i:Nat) (f0:Value) (h:Heap):Prop where
 z:IsZip h (N+4) (N+2) (N+3) f0
 ti:TupAt h (N+2) #[.ref N,.ref (N+1)]
 to:∃v:List Value,v.length=2/\TupAt h (N+3) v.toArray
 c0:mL k0 h N l0 i
 c1:mL k1 h (N+1) l1 i
noncomputable def j6 (N:Nat):List Addr:=[(N+4),(N+2),(N+3),N,(N+1)]
def aL {N b:Nat}:b∈j6 N↔N<=b/\b<=N+4:=by
 unfold j6
 simp only[ZV,aaG,abM]
 omega
end
noncomputable abbrev Cb (h:Heap) (k0 k1:Bool) (l0 l1:Nat):Heap:=((h.push (DF k0 l0)).push (DF k1 l1))
noncomputable abbrev Cc (h:Heap) (k0 k1:Bool) (l0 l1:Nat):Heap:=(Cb h k0 k1 l0 l1).push {cls:=.type "tuple",data:=.seq #[.ref h.objs.size,.ref (h.push (DF k0 l0)).objs.size]}
noncomputable abbrev Cd (h:Heap) (k0 k1:Bool) (l0 l1:Nat):Heap:=(Cc h k0 k1 l0 l1).push {cls:=.type "tuple",data:=.seq #[.none,.none]}
noncomputable abbrev wu (h:Heap) (k0 k1:Bool) (l0 l1:Nat):Heap:=(Cd h k0 k1 l0 l1).push {cls:=.type "zip",data:=.fields #[.none,.bool false,.bool false,.ref (Cb h k0 k1 l0 l1).objs.size,.ref (Cc h k0 k1 l0 l1).objs.size]}
def Jz (k0 k1:Bool) (l0 l1:Nat) (v0 v1:AAH):Meets (Builtin.«zip.__new__» ⟨[.type "zip",.ref l0,.ref l1],[]⟩) (fun _ R s=>nH k0 s.heap l0 v0/\nH k1 s.heap l1 v1/\R (.ok (.ret (.ref (Cd s.heap k0 k1 l0 l1).objs.size))) {s with heap:=wu s.heap k0 k1 l0 l1}):=
 .of_wp fun prog w A R s h=>by
  obtain⟨hp,g,d,tk,os⟩:=s;obtain⟨q0,q1,h⟩:=h
  have hsub:=sub_zip
  have p0:nH k0 (Shared.heap ⟨hp,g,d,tk,os⟩) l0 v0:=q0.at fun o e=>e
  have p1:nH k1 (Shared.heap ⟨(hp.push (DF k0 l0)),g,d,tk,os⟩) l1 v1:=q1.at fun o e=>Zx _ (e)
  wp_walk using Gd p0,Gd p1
  exact⟨_,rfl,h⟩
def Gg {s:Shared}{k0 k1:Bool}{l0 l1:Nat}{v0 v1:AAH}(q0:nH k0 s.heap l0 v0) (q1:nH k1 s.heap l1 v1)
  (h:∀h',Nd s.heap.objs.size k0 k1 l0 l1 0 .none h'->(∀c o,s.heap.get? c=some o->h'.get? c=some o)->Q (.ref (s.heap.objs.size+4)) {s with heap:=h'}):wpAny (model prog w) A (call (.type "zip") [.ref l0,.ref l1]) Q E s:=by
 refine callType_new F.called_zip (by decide) (F.typeCall_zip_2 _ _) (F.newCall_zip_2 _ _) (fun obj=>F.args_object_init_3 obj _ _) F.entry_zip_new (Jz k0 k1 l0 l1 v0 v1) ⟨q0,q1,?_⟩
 have e0:(Cb s.heap k0 k1 l0 l1).objs.size=s.heap.objs.size+2:=by simp only[aaD]
 have e1:(Cc s.heap k0 k1 l0 l1).objs.size=s.heap.objs.size+3:=by rw[aaD,e0]
 have e2:(Cd s.heap k0 k1 l0 l1).objs.size=s.heap.objs.size+4:=by rw[aaD,e1]
 have g2:(wu s.heap k0 k1 l0 l1).get? (Cd s.heap k0 k1 l0 l1).objs.size=some _:=ZT _ rfl
 have g1:(wu s.heap k0 k1 l0 l1).get? (Cc s.heap k0 k1 l0 l1).objs.size=some _:=Zx _ (ZT _ rfl)
 have g0:(wu s.heap k0 k1 l0 l1).get? (Cb s.heap k0 k1 l0 l1).objs.size=some _:=Zx _ (Zx _ (ZT _ rfl))
 rw[e2,e0,e1] at g2
 rw[e1] at g1
 rw[e0] at g0
 simp only[aaD] at g0
 show _/\_
 rw[e2]
 refine⟨⟨_,g2,rfl⟩,h _ ⟨g2,g0,⟨[.none,.none],rfl,g1⟩,?_,?_⟩ fun c o x=>Zx _ (Zx _ (Zx _ (Zx _ (Zx _ (x)))))⟩
 ·have:=(mL.new k0 (s.heap) l0).at (h':=wu s.heap k0 k1 l0 l1) fun o e=>Zx _ (Zx _ (Zx _ (Zx _ (e))))
  simpa only[aaD] using this
 ·have:=(mL.new k1 ((s.heap).push (DF k0 l0)) l1).at (h':=wu s.heap k0 k1 l0 l1) fun o e=>Zx _ (Zx _ (Zx _ (e)))
  simpa only[aaD] using this
section
variable {X:Cx}{a b c e:Expr}{body elts:List Expr}{pos p tpos:Pos}{jt:Nat}
def nH.lt {h:Heap}{a:Addr}(x:nH k h a its):a < h.objs.size:=by
 cases k <;> exact let⟨o,ho,_⟩:=x;ZP ho
def QJ (K:AAA) (ta:TA):TI:=fun σ H R=>ta σ H fun vs H1=>∃k a xs,vs=[.ref a]/\EF K H1 k a xs/\R (W6 K k a) H1
def JC {ta:TA}(hg:Gl X "enumerate") (hm:X.mg "enumerate" =none) (ha:PA X [a] ta) (hs:starEach [a] X.env=[(false,eval a X.env)]:=by rfl):PI X (.Tuple elts jt tpos) (.Call (.Name "enumerate" p) [a] [] pos) (QJ X.K ta):=by
 intro pins s σ H R I h
 refine Call_ (jS I hg hm boot_enumerate (aak (dN (ha pos pins s σ H _ I h) fun us s1 ⟨vs,H1,I1,r1,q1⟩=>?_) hs rfl))
 obtain⟨k,a,xs,rfl,hq,q⟩:=q1
 cases r1 with
 | cons r rr=>
  cases rr
  cases r
  obtain⟨its,rv,p,hz⟩:=I1.Jx hq
  refine A3 p fun h' he hit hk=>wpAny_pyIter_enum he ?_
  have lt:=p.lt
  refine⟨s1.heap.objs.size+1,[s1.heap.objs.size+1,s1.heap.objs.size],_,_,H1,rfl,I1.kept (t':=s1.toks) hk,DH k a s1.heap.objs.size (s1.heap.objs.size+1) (ZY lt) (abe (abR lt)) (Nat.succ_ne_self _),⟨⟨.none,he⟩,hit⟩,fun b hb=>?_,q⟩
  have hb:s1.heap.objs.size<=b:=by
   rcases ZV.mp hb with z | z
   ·rw[z];exact abE _
   ·rw[show b=s1.heap.objs.size by simpa using z];exact ZM _
  exact I1.wY hb (I1.hok.fresh hb)
def WalkN (J:It) (F:Hp) (ds:List D):Prop:=∀F' H',(∀b o,F b=some o->F' b=some o)->Sub F' H'->∀i,(∀d,ds[i]? =some d->J.go i H'/\∀x H2,J.OR i H' x H2->∃F2,gf F' H' F2 H2/\Sub F2 H2/\Rep F2 x d)/\(ds.length<=i->J.stop i H')
def QK (K:AAA) (B:Base) (gi:GI):TI:=fun σ H R=>∃S F ds S',Rel K B S σ F H/\gi S=some (ds,S')/\∀J F' H',Rel K B S' σ F' H'->Step S S' σ F H F' H'->WalkN J F' ds->R J H'
structure QL (X:Cx) (tg e:Expr) (gi:GI):Prop where
 h:∀B,PI X tg e (QK X.K B gi)
noncomputable def xH:D->Option (Bool×List D)
 | .lst ds=>some (true,ds)
 | .tup ds=>some (false,ds)
 | _=>none
def Sub.Gh {F:Hp}{v:V}{d:D}(sb:Sub F H) (r:Rep F v d) (e:xH d=some (k,ds)):
  ∃a vs,v= .ref a/\aX F vs ds/\∀F' H',(∀b o,F b=some o->F' b=some o)->Sub F' H'->EF K H' k a vs:=by
 cases d <;> try (cases e;done)
 ·cases e
  obtain⟨a,vs,rfl,fa,ha,rs⟩:=sb.iO r
  exact⟨a,vs,rfl,rs,fun F' H' le sb'=>.inl (Rd.of (sb' a _ (le _ _ fa)))⟩
 ·cases e
  obtain⟨a,vs,rfl,fa,ha,rs⟩:=sb.iB r
  exact⟨a,vs,rfl,rs,fun F' H' le sb'=>.inl (fa.same fun b o z=>sb' b o (le b o z))⟩
noncomputable def dI (ds:List D):List D:=ds.mapIdx fun i d=>.tup [.int i,d]
noncomputable def fW (gA:GA):GI:=fun S=>(gA S).bind fun p=>match p.1 with
 | [d]=>(xH d).map fun q=>(dI q.2,p.2)
 | _=>none
def n9 {gA:GA}(hg:Gl X "enumerate") (hm:X.mg "enumerate" =none) (ha:JA X [a] gA) (hs:starEach [a] X.env=[(false,eval a X.env)]:=by rfl):QL X (.Tuple elts jt tpos) (.Call (.Name "enumerate" p) [a] [] pos) (fW gA):=
 ⟨fun B=>PI.orelse fun σ H R0 ⟨S,F,ds,S',R,hg',k⟩=>by
 obtain⟨⟨args,S1⟩,h1,hg'⟩:=ah hg'
 refine⟨_,JC hg hm (ha.h B) hs,S,F,args,S1,R,h1,fun vs F1 H1 R1 st1 r1=>?_⟩
 dsimp only at hg'
 split at hg'
 ·obtain⟨⟨kk,es⟩,h2,hg'⟩:=aq hg'
  cases hg'
  cases r1 with
  | cons r rr=>
   cases rr
   obtain⟨a,ws,rfl,rs,sq⟩:=R1.sub.Gh (K:=X.K) r h2
   refine⟨kk,a,ws,rfl,sq F1 H1 (fun _ _ z=>z) R1.sub,k _ F1 H1 R1 st1 fun F' H' le sb i=>⟨fun d hd=>?_,fun hl=>⟨ws,sq F' H' le sb,by rw[rs.length];simpa[dI] using hl⟩⟩⟩
   unfold dI at hd
   rw[List.getElem?_mapIdx] at hd
   obtain⟨d0,hd0,rfl⟩:=aq hd
   obtain⟨v,k1,k2⟩:=rs.get hd0
   refine⟨⟨ws,v,sq F' H' le sb,k1⟩,fun x H2 y=>?_⟩
   obtain⟨p,y,hp,rfl,rfl,hy⟩:=y
   have ey:=hy ws (sq F' H' le sb)
   rw[k1] at ey
   cases ey
   exact⟨_,gf.root sb hp _,sb.xm hp,.tup aD (.cons (.int _) (.cons (k2.le fun b o z=>ni (sb.fresh hp) b o (le b o z)) .nil))⟩
 ·cases hg'⟩
def JF {stmts:List Stmt}{s1:GS}(hp:PassesOwn (model X.prog X.w) X.A X.env X.xe) (hc:X.calm=true) (hi:QL X tg iter gi) (hg:JG X tg bd) (hb:JB X stmts s1) (hs:∀x,foldedSetIterable iter X.env x=pure x:=by intro _;rfl):
  JS X (.For tg iter stmts [] pos) (gM bd gi s1):=⟨fun B=>(AJ hp hc (hi.h B) (hg.h B) (hb.h B) hs).imp fun D σ H ⟨S,F,o,R,h,k⟩=>by
 obtain⟨⟨ds,S1⟩,h1,h⟩:=ah h
 refine⟨S,F,ds,S1,R,h1,fun J F1 H1 R1 st1 w=>?_⟩
 refine⟨fun i m σ' H'=>∃S' F',Rel X.K B S' σ' F' H'/\(∀b o,F1 b=some o->F' b=some o)/\i<=ds.length/\m=ds.length - i/\loop bd s1 (ds.drop i) S'=some o,⟨_,S1,F1,R1,fun _ _ z=>z,Z3 _,rfl,h⟩,?_⟩
 rintro i m σ' H' ⟨S',F',R',le,hl,rfl,cC⟩
 have w':=w F' H' le R'.sub i
 by_cases hlt:i < ds.length
 ·have hd:ds[i]? =some ds[i]:=Zz hlt
  obtain⟨go,yl⟩:=w'.1 _ hd
  rw[aai hlt] at cC
  obtain⟨S2,e2,cC⟩:=ah cC
  obtain⟨o2,e3,cC⟩:=ah cC
  refine .inr ⟨go,_,fun σ2 H2 n=>⟨ds.length - (i+1),by omega,n⟩,fun x H2 y=>?_⟩
  obtain⟨F2,nw,Va,rx⟩:=yl x H2 y
  have R2:=R'.new nw Va
  have le:∀b o,F1 b=some o->F2 b=some o:=fun b o z=>nw.le b o (le b o z)
  refine⟨S',F2,_,S2,R2,rx,e2,fun σ3 R3=>⟨S2,F2,o2,R3,e3,?_⟩⟩
  cases o2 with
  | nx S3=>exact fun yD F4 H4 R4 sJ=>⟨S3,F4,R4,fun b o z=>sJ b o (le b o z),hlt,rfl,cC⟩
  | ct S3=>exact fun yD F4 H4 R4 sJ=>⟨S3,F4,R4,fun b o z=>sJ b o (le b o z),hlt,rfl,cC⟩
  | bk S3=>cases cC;exact fun yD F4 H4 R4 sJ=>k yD F4 H4 R4 fun b o z=>sJ b o (le b o (st1.ext.le b o z))
  | rt u S3=>cases cC;exact fun v yD F4 H4 R4 sJ=>k v yD F4 H4 R4 fun b o z=>sJ b o (le b o (st1.ext.le b o z))
 ·have e:i=ds.length:=by omega
  subst e
  rw[abG] at cC
  cases cC
  exact .inl ⟨w'.2 (ZM _),k σ' F' H' R' fun b o z=>le b o (st1.ext.le b o z)⟩⟩
end
section
variable {X:Cx}{a b c e:Expr}{x y:Str}{p px py pos pos' tpos:Pos}{f:List D->Option U}{gb:GD}
end
noncomputable def Ce:GE:=fun S=>some (.m (.oH []),S)
noncomputable def oR:GE:=fun S=>some (.m (.dct []),S)
section
variable {X:Cx}{a b c e k:Expr}{x y:Str}{p px py pos pos' tpos apos cpos:Pos}{gk:GD}
def Cf:JE X (.Dict [] [] pos) Ce:=⟨fun B=>E9.imp fun σ H Q ⟨S,F,u,S',R,hg,q⟩=>by
 cases hg
 intro p hp
 have n:=gf.obj (F:=F) hp (.dT [])
 have hn:¬cA S σ p:=fun m=>by obtain⟨o,ho⟩:=R.has m;rw[hp] at ho;cases ho
 exact q (.ref p) F _ (R.new n (R.sub.same n.same)) n.step ⟨p,rfl,hp,R.sub.fresh hp,⟨[],aD,.nil⟩,hn,none_of R.ext.there hp⟩⟩
def xJ:JE X (.Dict [] [] pos) oR:=⟨fun B=>E8.imp fun σ H Q ⟨S,F,u,S',R,hg,q⟩=>by
 cases hg
 intro p hp
 have n:=gf.obj (F:=F) hp (.dK [])
 have hn:¬cA S σ p:=fun m=>by obtain⟨o,ho⟩:=R.has m;rw[hp] at ho;cases ho
 exact q (.ref p) F _ (R.new n (R.sub.same n.same)) n.step ⟨p,rfl,hp,R.sub.fresh hp,⟨[],aD,.nil⟩,hn,none_of R.ext.there hp⟩⟩
noncomputable def xK:U->D->Option Bool
 | .m (.dct kvs),k=>(keyOf k).map fun kk=>(aU kvs kk).isSome
 | .b (.dct kvs),k=>(keyOf k).map fun kk=>(aU kvs kk).isSome
 | .m (.oH kvs),k=>(kY k).map fun kk=>(aU kvs kk).isSome
 | .b (.oH kvs),k=>(kY k).map fun kk=>(aU kvs kk).isSome
 | _,_=>none
noncomputable def qR (n:Bool) (i:Nat) (g:GD):GD:=fun S=>(g S).bind fun p=>match p.2[i]? with
 | some (some u)=>(xK u p.1).map fun h=>(.bl (n != h),p.2)
 | _=>none
def qg  [DecidableEq κ] {F:Hp}{ws:List (κ×V)}{kvs:List (κ×D)}(pr:Paired (jg F) ws kvs) (k:κ):(mT ws k).isSome=(aU kvs k).isSome:=by
 cases e:aU kvs k with
 | none=>rw[lC pr e];rfl
 | some d=>obtain⟨v,h,_⟩:=iR pr e;rw[h];rfl
def JH {F:Hp}{v w:V}{d:D}{h:Bool}(sb:Sub F H) (r:ug K F H v u) (rk:Rep F w d) (e:xK u d=some h):∃a o,v= .ref a/\iy H a w o/\o.isSome=h:=by
 unfold xK at e
 split at e
 ·obtain⟨kk,e1,rfl⟩:=aq e
  obtain⟨a,rfl,fa,ws,ha,pr⟩:=r
  exact⟨a,_,rfl,iy.ky ha (g9 rk e1),qg pr kk⟩
 ·obtain⟨kk,e1,rfl⟩:=aq e
  obtain⟨a,rfl,fa,ws,ha,pr⟩:=r
  exact⟨a,_,rfl,iy.ky ha (g9 rk e1),qg pr kk⟩
 ·obtain⟨kk,e1,rfl⟩:=aq e
  obtain⟨a,rfl,fa,ws,ha,pr⟩:=r
  obtain⟨b,rfl,hb⟩:=j5 sb rk e1
  exact⟨a,_,rfl,iy.t ha hb,qg pr kk⟩
 ·obtain⟨kk,e1,rfl⟩:=aq e
  obtain⟨a,rfl,fa,ws,ha,pr⟩:=r
  obtain⟨b,rfl,hb⟩:=j5 sb rk e1
  exact⟨a,_,rfl,iy.t ha hb,qg pr kk⟩
 ·cases e
def JJ {n:Bool}{Q:VK}(h:tD X.K B (qR n i gk) σ H Q):tD X.K B gk σ H fun y H1=>C8 i σ H1 fun x H2=>∃a o,x= .ref a/\iy H2 a y o/\Q (.bl (n != o.isSome)) H2:=by
 obtain⟨S,F,d,S',R,hg,q⟩:=h
 obtain⟨⟨d1,S1⟩,h1,hg⟩:=ah hg
 dsimp only at hg
 split at hg
 ·rename_i u hS
  obtain⟨h,h2,hg⟩:=aq hg
  cases hg
  refine⟨S,F,d1,_,R,h1,fun v F1 H1 R1 st1 r1=>?_⟩
  obtain⟨v0,hv0,r0⟩:=R1.rep i u hS
  obtain⟨a,o,e1,g1,e2⟩:=JH R1.sub r0 r1 h2
  refine⟨v0,hv0,a,o,e1,g1,?_⟩
  rw[e2]
  exact q (.bl _) F1 H1 R1 st1 (.bl _)
 ·cases hg
end
section
variable {X:Cx}{k v:Expr}{pos:Pos}{tk tv:TE}{gk gv:GD}
def oh (hu:X.A.units+20 < cLine) (hk:JD X k gk) (hN:X.N[i]? =some x:=by rfl) (hv:AE X.env.scope x:=by first | exact Or.inl rfl | exact Or.inr (Or.inl rfl) | exact Or.inr (Or.inr rfl)) (hd:(x == ("__debug__":Str))=false:=by decide) (hcd:(x == ("__classdict__":Str))=false:=by decide)
  (hm:behindInMarks .NotIn (.Name x px)=false:=by with_unfolding_all rfl):JT X (.Compare k [.NotIn] [.Name x px] pos) (qB (qR true i gk)):=⟨fun B=>(Ma (Dk hu (hk.h B) (gU hN hv hd hcd)) hm).imp fun σ H Q ⟨S,F,kk,S',R,hg,q⟩=>by
 have h:tD X.K B (qR true i gk) σ H (fun v H'=>∃d,v= .bl d/\Q d H'):=⟨S,F,.bl kk,S',R,p6 hg,fun v F' H' R' st r=>⟨kk,nj r,q F' H' R' st⟩⟩
 have h2:=JJ h
 simpa[tB,BU] using h2⟩
end
section
variable {X:Cx}{pins:AAD}{σ:St}{H:Hp}{s:Shared}{a:Addr}{kvs:AAG}
end
section
variable {X:Cx}{e f:Expr}{x:Str}{px pos apos cpos:Pos}{ty tx:TE}{g gd:GD}{a:Addr}{kvs:AAG}
end
section
variable {X:Cx}{e:Expr}{x:Str}{px pos:Pos}{g:GD}{a:Addr}{zs:List Str}
end
noncomputable def JK:U->D->Option (Option D)
 | .m (.dct kvs),k=>(keyOf k).map (aU kvs)
 | .b (.dct kvs),k=>(keyOf k).map (aU kvs)
 | .m (.oH kvs),k=>(kY k).map (aU kvs)
 | .b (.oH kvs),k=>(kY k).map (aU kvs)
 | _,_=>none
noncomputable def uv:U->Bool
 | .m (.dct _)=>true
 | .b (.dct _)=>true
 | .m (.oH _)=>true
 | .b (.oH _)=>true
 | _=>false
noncomputable def uw (i:Nat) (gk gd:GD):GD:=fun S=>match S[i]? with
 | some (some u)=>if uv u then(gk S).bind fun p=>(gd p.2).bind fun q=>match q.2[i]? with
  | some (some u2)=>(JK u2 p.1).map fun o=>(o.getD q.1,q.2)
  | _=>none
  else none
 | _=>none
def QM (F:Hp):Option V->Option D->Prop
 | some v,some d=>Rep F v d
 | none,none=>True
 | _,_=>False
def qh  [DecidableEq κ] {F:Hp}{ws:List (κ×V)}{kvs:List (κ×D)}(pr:Paired (jg F) ws kvs) (k:κ):QM F (mT ws k) (aU kvs k):=by
 cases e:aU kvs k with
 | none=>rw[lC pr e];exact True.intro
 | some d=>obtain⟨v,h,r⟩:=iR pr e;rw[h];exact r
def JL {F:Hp}{v w:V}{d:D}{h:Option D}(sb:Sub F H) (r:ug K F H v u) (rk:Rep F w d) (e:JK u d=some h):∃a o,v= .ref a/\iy H a w o/\QM F o h:=by
 unfold JK at e
 split at e
 ·obtain⟨kk,e1,rfl⟩:=aq e
  obtain⟨a,rfl,fa,ws,ha,pr⟩:=r
  exact⟨a,_,rfl,iy.ky ha (g9 rk e1),qh pr kk⟩
 ·obtain⟨kk,e1,rfl⟩:=aq e
  obtain⟨a,rfl,fa,ws,ha,pr⟩:=r
  exact⟨a,_,rfl,iy.ky ha (g9 rk e1),qh pr kk⟩
 ·obtain⟨kk,e1,rfl⟩:=aq e
  obtain⟨a,rfl,fa,ws,ha,pr⟩:=r
  obtain⟨b,rfl,hb⟩:=j5 sb rk e1
  exact⟨a,_,rfl,iy.t ha hb,qh pr kk⟩
 ·obtain⟨kk,e1,rfl⟩:=aq e
  obtain⟨a,rfl,fa,ws,ha,pr⟩:=r
  obtain⟨b,rfl,hb⟩:=j5 sb rk e1
  exact⟨a,_,rfl,iy.t ha hb,qh pr kk⟩
 ·cases e
def zD {F:Hp}{v:V}(r:ug K F H v u) (h:uv u=true):∃a,v= .ref a/\SM H a:=by
 unfold uv at h
 split at h
 ·obtain⟨a,rfl,fa,ws,ha,pr⟩:=r;exact⟨a,rfl,.inl ⟨ws,.inl ha⟩⟩
 ·obtain⟨a,rfl,fa,ws,ha,pr⟩:=r;exact⟨a,rfl,.inl ⟨ws,.inl ha⟩⟩
 ·obtain⟨a,rfl,fa,ws,ha,pr⟩:=r;exact⟨a,rfl,.inr ⟨ws,.inl ha⟩⟩
 ·obtain⟨a,rfl,fa,ws,ha,pr⟩:=r;exact⟨a,rfl,.inr ⟨ws,.inl ha⟩⟩
 ·cases h
section
variable {X:Cx}{e f:Expr}{x:Str}{px pos apos cpos:Pos}{gk gd:GD}{ge:GE}
def JM  (hu : X.A.units + 20 < cLine) (he : JD X e gk) (hf : JD X f gd) (hN : X.N[i]? = some x := by rfl) (hv : AE X.env.scope x := by first | exact Or.inl rfl | exact Or.inr (Or.inl rfl) | exact Or.inr (Or.inr rfl))
    (hb:attributeBase (.Name x px) "get" X.env (eval (.Name x px) X.env)=eval (.Name x px) X.env:=by rfl)
    (hfew:((backTo cpos (starEach [e,f] X.env)).all (fun x=>!x.1) && (backToKw cpos (keywordEach [] X.env)).all (fun x=>x.1.isSome) && decide (([e,f]:List Expr).length+([]:List Keyword).length+(if([]:List Keyword).isEmpty then 0 else 1) < 30))=true:=by rfl)
    (hline:(apos.endLine == cpos.line)=true:=by rfl) (htr:backTo cpos (starEach [e,f] X.env)=[(false,eval e X.env),(false,eval f X.env)]:=by rfl) (hd:(x == ("__debug__":Str))=false:=by decide) (hcd:(x == ("__classdict__":Str))=false:=by decide):
    JD X (.Call (.Attribute (.Name x px) "get" apos) [e,f] [] cpos) (uw i gk gd):=
  ⟨fun B => (Fd hu (gU hN hv hd hcd) (he.h B) (hf.h B) ⟨hb, hfew, hline, htr⟩).imp fun σ H Q ⟨S, F, d, S', R, hg, q⟩ => by
    unfold uw at hg
    split at hg
    . rename_i u hS
      split at hg
      . rename_i hD
        obtain⟨⟨d1,S1⟩,h1,hg⟩:=ah hg
        obtain⟨⟨d2,S2⟩,h2,hg⟩:=ah hg
        dsimp only at hg
        split at hg
        . rename_i u2 xM
          obtain⟨o,h3,hg⟩:=aq hg
          cases hg
          obtain⟨v0,hv0,r0⟩:=R.rep i u hS
          obtain⟨a,rfl,ha⟩:=zD r0 hD
          refine⟨.ref a,hv0,a,rfl,ha,S,F,d1,S1,R,h1,fun v1 F1 H1 R1 st1 r1=>⟨S1,F1,d2,_,R1,h2,fun v2 F2 H2 R2 st2 r2=>?_⟩⟩
          obtain⟨v3,QN,r3⟩:=R2.rep i u2 xM
          rw[hv0] at QN
          cases QN
          obtain⟨a',ov,e1,g1,rl⟩:=JL R2.sub r3 (r1.le st2.ext.le) h3
          cases e1
          refine⟨ov,g1,q _ F2 H2 R2 (st1.trans st2) ?_⟩
          cases o with
          | none=>cases ov with
            | none=>exact r2
            | some _=>exact(show False from rl).elim
          | some d=>cases ov with
            | none=>exact(show False from rl).elim
            | some v=>exact rl
        . cases hg
      . cases hg
    . cases hg⟩
end
end L2
end
section
namespace HT
open PySem PySem.Spec PyProof.Rows
section
variable {prog:Program}{w:World}{A:Around}{E:AAB}{s:Shared}
end
end HT
namespace L2
open PySem PySem.Spec PyProof.Rows
section
variable {X:Cx}{e st:Expr}{te ts:TE}{pos p2:Pos}
end
noncomputable def qi:List Int->Int
 | []=>0
 | [a]=>a
 | a :: b :: r=>max a (qi (b :: r))
theorem Cg : ∀ {ns : List Int} {M : Int}, M ∈ ns -> (∀ a ∈ ns, a <= M) -> qi ns = M
  | [],_,h,_=>by cases h
  | [a],M,h,_=>by rw[ZG.mp h];rfl
  | a :: b :: r, M, h, k => by
    have hb : ∀ x ∈ b :: r, x <= qi (b :: r) := by
      have:∀(l:List Int),∀x∈l,x<=qi l:=by
        intro l
        induction l with
        | nil=>intro x hx;cases hx
        | cons a l ih=>
          intro x hx
          cases l with
          | nil=>rw[ZG.mp hx];exact Int.le_refl _
          | cons b r=>
            show x<=max a (qi (b :: r))
            rcases ZV.mp hx with rfl | q
            . omega
            . have:=ih x q;omega
      exact this _
    have hm:∀(l:List Int),l≠[]->qi l∈l:=by
      intro l
      induction l with
      | nil=>intro z;exact absurd rfl z
      | cons a l ih=>
        intro _
        cases l with
        | nil=>exact ZG.mpr rfl
        | cons b r=>
          have:=ih (by simp)
          show max a (qi (b :: r))∈_
          by_cases c:a<=qi (b :: r)
          . rw[Int.max_eq_right c];exact ZI _ this
          . rw[Int.max_eq_left (by omega)];exact ZJ
    have h1:=hm (a :: b :: r) (by simp)
    have h2:=k _ h1
    show max a (qi (b :: r))=M
    have h3:max a (qi (b :: r))<=M:=h2
    rcases ZV.mp h with rfl | q
    . omega
    . have:=hb M q;omega
noncomputable def kO:List D->Option U
 | [.lst ds]=>(aV ds).bind fun bs=>if bs=[] then none else some (.t (.int (qi bs)))
 | _=>none
def Gi {α:Type}{p:Prop} [Decidable p] {x y:α}(h:(if p then none else some x)=some y):¬p/\x=y:=by
 by_cases c:p
 ·rw[if_pos c] at h;cases h
 ·rw[if_neg c] at h;exact⟨c,ZU h⟩
section
variable {X:Cx}
def pC (hc:X.calm=true):gI X (.builtin "max") (rP kO):=by
 intro pins s σ H xs us Q I r ⟨F,ds,w,sb,rs,hw,q⟩
 obtain⟨x,d,rfl,rfl,r1⟩:=n8 (P:=fun _=>True) rs hw rfl (fun d _ _=>by cases d <;> rfl)
 cases d <;> try (simp[kO] at hw;done)
 rename_i ds
 obtain⟨bs,h1,hw⟩:=ah (show(aV ds).bind _=some w from hw)
 obtain⟨hne,rfl⟩:=Gi hw
 obtain⟨a,vs,rfl,fa,ha,mU⟩:=sb.iB r1
 obtain rfl:=lZ mU h1
 obtain⟨u,rfl,ru⟩:=vals1 r
 cases ru
 obtain⟨its,rv,pl,hz⟩:=I.list (.inl ha)
 have hi:IntsAre its.toArray.toList bs:=intsAre_of rv
 obtain⟨ys,e⟩:=hi.allInts.items
 have hns:bs=ys.toList.map (·.1):=by rw[<-hi.numsOf,<-nums_intItems,<-e]
 have hb:0 < bs.length:=by cases bs with | nil=>exact absurd rfl hne | cons _ _=>simp
 have hsz:0 < ys.size:=by
  have h3:=hb;rw[hns,Zw,aap] at h3;exact h3
 have hl:=pl.isList
 have e':its.toArray=intItems ys:=by rw[<-e]
 rw[e'] at hl
 refine max_intList (I.ok.hd hc) hl hsz fun v h' tk hv hk=>?_
 obtain⟨t,rfl⟩:=intItems_at hv
 obtain⟨k1,k2⟩:=argBest_gt (numAt ys) (ys.size - 1)
 have em:qi bs=numAt ys (argBest (fun i j=>decide (numAt ys i > numAt ys j)) (ys.size - 1)):=by
  refine Cg ?_ fun a ha=>?_
  ·rw[hns,numAt_eq];exact getD_mem (by rw[Zw,aap];omega)
  ·rw[hns] at ha
   obtain⟨j,hj,rfl⟩:=mem_getD ha
   rw[Zw,aap] at hj
   rw[<-numAt_eq];exact k2 j (by omega)
 rw[<-em]
 exact⟨.int _,H,I.kept (t':=tk) hk,⟨t,rfl⟩,q _ F H (gf.refl ..) sb (.int _)⟩
end
@[simp] theorem SX (ds:List D):kO [.lst ds]=(aV ds).bind fun bs=>if bs=[] then none else ZD (qi bs):=rfl
end L2
namespace HT
open PySem PySem.Spec PyProof.Rows
section
variable {prog:Program}{w:World}{A:Around}{E:AAB}{s:Shared}
end
end HT
namespace L2
open PySem PySem.Spec PyProof.Rows
section
variable {X:Cx}{pos:Pos}
end
end L2
end
section
namespace L2
open PySem PySem.Spec PyProof.Rows PySem.Calls
def cP:Slot "set_iterator" "__next__" "set_iterator.__next__":=
 .of (owner:="set_iterator") (n:="__next__") (by rw[ab8,aby];kernel_rfl) (by decide +kernel) (by decide +kernel) (by decide +kernel)
  (by first | exact .inl (by decide +kernel) | exact .inr (by decide +kernel)) (by rw[abF];kernel_rfl)
def lF:entryFor table "set_iterator.__next__" =some Builtin.«set_iterator.__next__»:=entryFor_of_tree (by kernel_rfl)
def xN:entryFor table "set.__iter__" =some Builtin.«frozenset.__iter__»:=entryFor_alias (id':="frozenset.__iter__") (by kernel_rfl) rfl (by decide +kernel) (by kernel_rfl)
def sr:Manifest.owners.lookup (String.ofList ['r','o','t','a','r','e','t','i','_','t','e','s'].reverse)=some Manifest.sig_set_iterator:=by kernel_rfl
def mO (a:Value):argsOk "set_iterator.__next__" ⟨[a],[]⟩:=by
 unfold argsOk;rw[signature?_of (id:="set_iterator.__next__") (n:=['_','_','t','x','e','n','_','_']) (o:=['r','o','t','a','r','e','t','i','_','t','e','s']) (by kernel_rfl) sr];kernel_rfl
section
variable {prog:Program}{w:World}{A:Around}{E:AAB}{s:Shared}{a I:Addr}{ep:Nat}{t:SetTable}
def mQ:Slot "set_iterator" "__iter__" "set_iterator.__iter__":=
 .of (owner:="set_iterator") (n:="__iter__") (by rw[ab8,aby];kernel_rfl) (by decide +kernel) (by decide +kernel) (by decide +kernel)
  (by first | exact .inl (by decide +kernel) | exact .inr (by decide +kernel)) (by rw[abF];kernel_rfl)
def qT:entryFor table "set_iterator.__iter__" =some Builtin.«dict_keyiterator.__iter__»:=entryFor_alias (id':="dict_keyiterator.__iter__") (by kernel_rfl) rfl (by decide +kernel) (by kernel_rfl)
def sL (a:Value):argsOk "set_iterator.__iter__" ⟨[a],[]⟩:=by
 unfold argsOk;rw[signature?_of (id:="set_iterator.__iter__") (n:=['_','_','r','e','t','i','_','_']) (o:=['r','o','t','a','r','e','t','i','_','t','e','s']) (by kernel_rfl) sr];kernel_rfl
end
section
variable {X:Cx}{a:Expr}{pos p p1 p2:Pos}{ga:GD}
end
end L2
end
section
namespace L2
open PySem PySem.Spec PyProof.Rows
variable {X:Cx}{σ:St}{H:Hp}{x y0:Str}{aZ:List Str}{cap:List Nat}{scope:Scope}{elt iter:Expr}{ifs:List Expr}{pos px py pt:Pos}{k0:Nat}{cl:List (Str×Addr)}
section
variable {X:Cx}{x:Str}{p:Pos}{a:Addr}
end
section
variable {X:Cx}{e:Expr}{es:List Expr}{gu:GU}{x:Str}{p pos:Pos}{k n i:Nat}{t:TA}
end
structure j7 (X:Cx) (x y0:Str) (aZ:List Str) (cap:List Nat) (scope:Scope) (cl:List (Str×Addr)):Prop where
 one:d8 X x aZ cap scope cl
 QO:scope.names.lookup y0=some .local
 OW:(x :: y0 :: aZ).Nodup
def Gj (K:AAA) (wi:TI) (cap:List Nat) (tc:TT) (te:TE):TE:=fun σ H Q=>wi σ H fun J H1=>∃W:Nat->Nat->List V->Hp->Prop,(∃m,W 0 m [] H1)/\∀i m ys H,W i m ys H->ys.length < sizeLine/\
  ((J.stop i H/\∀p,H p=none->Q (.ref p) (upd H p (.lst ys)))\/
   (J.go i H/\∀x H',J.OR i H x H'->∃a x1 x2,x= .ref a/\wX K H' a [x1,x2]/\tc (some x1 :: some x2 :: bQ cap σ) H' fun b H2=>if b=true then te (some x1 :: some x2 :: bQ cap σ) H2 fun y H3=>∃m',m' < m/\W (i+1) m' (ys++[y]) H3 else ∃m',m' < m/\W (i+1) m' ys H2))
def DI  {pins : List (Addr × Obj)}   {s s4 : Shared}     {cl : List (Str × Addr)} {C : Addr} {fp : List Addr} {m' : Str -> Option Value}
    (I:Inv X pins σ H s) (T2:j7 X x y0 aZ cap scope cl) (hfp:∀b∈fp,kI X pins H b) (hfo:∀b∈fp,∃o,s.heap.get? b=some o)
    (hC:s.heap.objs.size<=C) (hns:s4.heap.Ns C m') (hos:s4.os=s.os) (hg:s4.gens=s.gens)
    (kept:∀b o,s.heap.get? b=some o->s4.heap.get? b=some o):
    Inv (bT X (x :: y0 :: aZ) scope cl C s H fp) [] (none :: none :: bQ cap σ) H s4:=by
  have T:=T2.one
  have fr:∀b,s.heap.objs.size<=b->H b=none:=fun b hb=>I.hok.fresh hb
  refine⟨⟨I.ok.mod,T.kind,I.ok.glob,I.ok.blt,hC,fun y z c h1 h2=>I.ok.inj y z c (T.cells _ _ h1) (T.cells _ _ h2),fun y hy=>T.has y hy,fun y c h=>(by cases h),I.ok.hd,I.ok.frames,.inl rfl,fun b hb=>⟨?_,fun y c e z=>?_⟩,I.bs,Z5 I.ok.Ir I.sz,fun b o e hb=>?_,fun b hb z=>?_,I.stack,I.wW⟩,
    hos,by rw[hg];exact I.bare,Un.kept kept,⟨m',hns,fun i y v h1 h2 h3=>?_⟩,fun y c h=>?_,fr C hC,fun y c h=>I.m8 y c (T.cells _ _ h),fun p hp=>?_,I.hok.kept kept,?_⟩
  . obtain⟨o,e⟩:=hfo b hb
    exact ZY (ZQ (ZP e) hC)
  . exact(hfp b hb).2.2.2.2.1 y c (T.cells _ _ e) z
  . rcases(hfp b hb).2.2.2.1 with z | z
    . exact I.ok.C6 b o e z
    . exact absurd (ZQ (ZP e) (Z5 I.ok.Ir z)) (aaz _)
  . rcases ZV.mp (I.qJ b z) with q | q
    . exact(hfp b hb).2.1 q
    . exact(hfp b hb).2.2.1 q
  . match i,h1,h2 with
    | 0,h1,h2=>cases h2
    | 1,h1,h2=>cases h2
    | j + 2, h1, h2 =>
      have h1:aZ[j]? =some y:=by simpa[bT] using h1
      have h2:(bQ cap σ)[j]? =some (some v):=by simpa using h2
      obtain⟨i,e1,e2,e3⟩:=T.slot j y h1
      have e4:σ[i]? =some (some v):=by
        unfold bQ at h2
        rw[ZF,e1] at h2
        have h2:some ((σ[i]?).join)=some (some v):=h2
        have h2:=ZU h2
        cases q:σ[i]? with
        | none=>rw[q] at h2;cases h2
        | some o=>rw[q] at h2;cases h2;rfl
      obtain⟨m,hn,hl⟩:=I.loc
      obtain⟨u,r,l⟩:=hl i y v e2 e4 e3
      obtain⟨k1,⟨c,hc⟩,k3⟩:=T.vis y (ZO h1)
      refine⟨u,r,.inr ⟨k1,c,hc,?_⟩⟩
      rcases l with⟨hk,_⟩ | ⟨hk,c',hc',z⟩
      . exact absurd hk k3
      . rw[T.cells _ _ hc] at hc'
        cases hc'
        obtain⟨o,ho,hd⟩:=z
        exact⟨o,kept _ _ ho,hd⟩
  . obtain⟨v,o,ho,hd⟩:=I.cell y c (T.cells _ _ h)
    exact⟨v,o,kept _ _ ho,hd⟩
  . exact absurd (show p∈([]:AAD) from hp) (by simp)
  . show(none :: none :: bQ cap σ).length=(x :: y0 :: aZ).length
    simp[bQ,T.len]
def qU (P:Program) (w:World) (A:Around) (env:Env) (R:Result->Shared->Prop):Value->Shared->Prop:=notedBy (model P w) A env fun e s'=>R (.error e) s'
theorem xO {P:Program}{w:World}{A:Around}{R:Result->Shared->Prop}{s:Shared}{tg:Expr}{it acc:Value}{env:Env}(J:Nat->Shared->Prop)
    (turn : ∀ n s, J n s -> wpAny (model P w) A (pyNext it) (fun r s1 => match r with
      | none=>R (.ok .next) s1
      | some v=>wpAny (model P w) A (letOwnedTupleGo tg it v) (fun _ s1=>wpAny (model P w) A (assign tg env v) (fun _ s2=>
          wpAny (model P w) A (forIn ifs true fun c r=>if r=true then do let ok <-isTrue c env (eval c env);pure (ForInStep.yield ok) else pure (ForInStep.yield r)) (fun ok s3=>
            if ok=true then wpAny (model P w) A (eval elt env) (fun x s4=>wpAny (model P w) A (call (.builtin "list.append") [acc,x]) (fun _ s5=>∃m,m < n/\J m s5) (qU P w A env R) s4) (qU P w A env R) s3
            else ∃m,m < n/\J m s3) (qU P w A env R) s2) (qU P w A env R) s1) (qU P w A env R) s1) (qU P w A env R) s)
    (n:Nat) (h:J n s):codeAny (model P w) A (.compLoop (.ListComp elt [⟨tg,iter,ifs,0⟩] scope pos) 0 it acc env) R s:=by
  refine codeAny_loop rfl J (fun n s hJ=>?_) n h
  show wpAny _ A ((compTurn (.ListComp elt [⟨tg,iter,ifs,0⟩] scope pos) 0 it acc env).onRaise (fun x=>do noteFrame x env;theTreesLotGoes x)) _ _ s
  refine wpAny_noted ?_
  rw[compTurn_list]
  refine Zv (acY (Zv (aas (turn n s hJ) (fun r s1 k1=>?_) fun _ _ z=>z)))
  cases r with
  | none=>exact wpAny_pure k1
  | some v=>
    refine Zv (aas k1 (fun _ s1 k1=>?_) fun _ _ z=>z)
    refine Zv (aas k1 (fun _ s2 k2=>Zv (aas k2 (fun ok s3 k3=>?_) fun _ _ z=>z)) fun _ _ z=>z)
    cases ok with
    | false=>exact wpAny_pure ⟨rfl,k3⟩
    | true=>exact Zv (Zv (aas k3 (fun x s4 k4=>Zv (aas k4 (fun _ s5 k5=>wpAny_pure (wpAny_pure ⟨rfl,k5⟩)) fun _ _ z=>z)) fun _ _ z=>z))
def su {wi:TI}{tc:TT}{te:TE}{pins:AAD}{s:Shared}{Q:VK}{use:Option (Value->Sem Unit)}{Qf:AAB}{pos2:Pos}
    (T2:j7 X x y0 aZ cap scope cl) (hc:X.calm=true) (hi:PI X (.Tuple [.Name x px,.Name y0 py] k0 pt) iter wi)
    (ht:∀C s H fp,Fl (bT X (x :: y0 :: aZ) scope cl C s H fp) ifs tc) (he:∀C s H fp,PE (bT X (x :: y0 :: aZ) scope cl C s H fp) elt te)
    (hs:∀x,foldedSetIterable iter X.env x=pure x) (I:Inv X pins σ H s) (h:Gj X.K wi cap tc te σ H Q)
    (hend:∀(D C:Addr) (s7:Shared) (H6:Hp) (ys:List V),Inv X pins σ (upd H6 D (.lst ys)) s7->(∃m,s7.heap.Ns C m)->kI X pins (upd H6 D (.lst ys)) C->Q (.ref D) (upd H6 D (.lst ys))->compPost (model X.prog X.w) X.A X.xe use Qf (.ref D) C (.ok .next) s7):
    wpAny (model X.prog X.w) X.A (comprehension (.ListComp elt [⟨.Tuple [.Name x px,.Name y0 py] k0 pt,iter,ifs,0⟩] scope pos) scope X.env pos2 (newList []) false (eval iter X.env) use) Qf X.xe s:=by
  have T:=T2.one
  refine wpAny_comprehension_free (use:=use) rfl hs T.clos T.kind T.names (dN (hi pins s σ H _ I h) fun v s1 h1=>dN h1 fun itv s2 h2=>?_)
  obtain⟨it,fp,tn,J,H2,rfl,I2,vm,st2,f2,W,⟨m0,w0⟩,turn⟩:=h2
  refine aaS (wpAny_newFunctionEnv T.jx (by intro y hy;simp at hy) (fun h4 xj uf=>?_) T.kind)
  dsimp only at xj uf ⊢
  generalize MI:s2.heap.push {cls:=.type "list",dict:=none,data:=.seq ([]:AAI).toArray}=H3 at xj uf ⊢
  have eC:H3.objs.size=s2.heap.objs.size+1:=by rw[<-MI,aaD]
  generalize X4:H3.objs.size=C at eC xj uf ⊢
  generalize eD:s2.heap.objs.size=D at eC ⊢
  have Fv:C=D+1:=eC
  have hDC:D≠C:=by rw[Fv];exact ZY (abZ D)
  have hC:s2.heap.objs.size<=C:=by rw[eD,Fv];exact abE D
  have hD:s2.heap.objs.size<=D:=by rw[eD];exact ZM D
  have kept:∀b o,s2.heap.get? b=some o->h4.get? b=some o:=fun b o e=>uf.extBut b o (ZY (ZQ (ZP e) hC)) (Zx _ (MI▸Zx _ e))
  have hacc:h4.get? D=some {cls:=.type "list",data:=.seq ([]:AAI).toArray ([]:AAI).length}:=uf.extBut _ _ hDC (Zx _ (MI▸eD▸ZT _ rfl))
  have Ql:∀b∈fp,∃o,s2.heap.get? b=some o:=fun b hb=>let⟨o,e,_⟩:=vm.obj _ _ st2 b hb;⟨o,e⟩
  have hDf:D∉fp:=fun hb=>by
    obtain⟨o,e⟩:=Ql D hb
    exact absurd (ZQ (ZP e) hD) (aaz _)
  have Qm:tn 0 h4:=vm.keep _ _ _ st2 fun b _ o e=>kept b o e
  have key : ∀ s5 : Shared, s5 = { s2 with heap := h4, toks := s2.toks + ([] : List (Str × Value)).length } ->
      codeAny (model X.prog X.w) X.A (.compLoop (.ListComp elt [⟨.Tuple [.Name x px,.Name y0 py] k0 pt,iter,ifs,0⟩] scope pos) 0 (.ref it) (.ref D) (compEnvC scope cl C X.env)) (compPost (model X.prog X.w) X.A X.xe use Qf (.ref D) C) s5:=by
    rintro s5 rfl
    have I4:Inv (bT X (x :: y0 :: aZ) scope cl C s2 H2 fp) [] (none :: none :: bQ cap σ) H2 {s2 with heap:=h4,toks:=s2.toks+([]:List (Str×Value)).length}:=
      DI (s4:={s2 with heap:=h4,toks:=s2.toks+([]:List (Str×Value)).length}) I2 T2 f2 Ql hC xj rfl rfl kept
    generalize hY:bT X (x :: y0 :: aZ) scope cl C s2 H2 fp=Y at I4
    have fD:∀{H':Hp},H' D=none->kI Y [] H' D:=fun {H'} hn=>by
      subst hY
      refine⟨hn,hDC,fun z=>(ZV.mp (I2.qJ D z)).elim (fun q=>absurd (ZQ (q▸I2.lt) hD) (aaz _)) fun q=>I2.L4 hD q,.inr hD,fun y c e z=>?_,fun p hp=>absurd (show p∈([]:AAD) from hp) (by simp)⟩
      obtain⟨v,q⟩:=I2.cell y c (T.cells _ _ e)
      exact absurd (ZQ q.lt (by rw[z];exact hD)) (aaz _)
    have fF:∀{H':Hp},(∀b∈fp,H' b=none)->∀b∈fp,kI Y [] H' b:=fun {H'} hn b hb=>by
      have q:=I4.ok.Sz b (by subst hY;exact hb)
      exact⟨hn b hb,fun z=>q.1 z,I4.ok.C7 b (by subst hY;exact hb),.inl (by subst hY;exact hb),fun y c e z=>q.2 y c e z,fun p hp=>absurd (show p∈([]:AAD) from(by subst hY;exact hp)) (by simp)⟩
    have eA:Y.A=X.A:=by subst hY;rfl
    have eP:Y.prog=X.prog:=by subst hY;rfl
    have eW:Y.w=X.w:=by subst hY;rfl
    have eK:Y.K=X.K:=by subst hY;rfl
    have eE:Y.env=compEnvC scope cl C X.env:=by subst hY;rfl
    have eX:Y.xe=fun _ _=>False:=by subst hY;rfl
    have eN:Y.N=x :: y0 :: aZ:=by subst hY;rfl
    have Lu:Y.calm=true:=by subst hY;exact hc
    have UA:Fl Y ifs tc:=by subst hY;exact ht _ _ _ _
    have UB:PE Y elt te:=by subst hY;exact he _ _ _ _
    have UC:PG Y (.Tuple [.Name x px,.Name y0 py] k0 pt) (PJ Y.K 2 (ES (pS 0) (ES (pS 1) PF))):=ET Lu (tY (sZ (by rw[eN];exact T2.OW) (by rw[eN];rfl) (by rw[eE];exact .inl (abh T.loc)) (.inr (by rw[eE];exact abh T.loc))) (tY (sZ (by rw[eN];exact T2.OW) (by rw[eN];rfl) (by rw[eE];exact .inl (abh T2.QO)) (.inr (by rw[eE];exact abh T2.QO))) BP))
    have o8:∀(E':AAB) (e:Value) (s':Shared),Y.xe e s'->E' e s':=fun E' e s' z=>by rw[eX] at z;exact z.elim
    refine xO (fun n s'=>∃i ys us H' o o',Inv Y [] (o :: o' :: bQ cap σ) H' s'/\tn i s'.heap/\(∀b∈fp,H' b=none)/\H' D=none/\s'.heap.get? D=some {cls:=.type "list",data:=.seq us.toArray us.length}/\Vals ys us/\W i n ys H') ?_ m0
      ⟨0,[],[],H2,none,none,I4,Qm,fun b hb=>(f2 b hb).1,I2.hok.fresh hD,hacc,.nil,w0⟩
    rintro n s6 ⟨i,ys,us,H6,o6,SY,I6,MJ,MK,d6,a6,v6,w6⟩
    have UD:us.length=ys.length:=v6.length.symm
    obtain⟨hz,Fw⟩:=turn i n ys H6 w6
    rcases Fw with⟨stop,qn⟩ | ⟨go,step⟩
    . have q := vm.done Y eP eW eK Lu i [] s6 (o6 :: SY :: bQ cap σ) H6 (notedBy (model X.prog X.w) X.A (compEnvC scope cl C X.env) fun e s' => compPost (model X.prog X.w) X.A X.xe use Qf (.ref D) C (.error e) s') I6 (fF MK) MJ stop
      rw[eA] at q
      have ML:=I6.pinned (fp:=[D]) (fun b hb=>by rw[ZG.mp hb];exact fD d6) (fun b hb=>by rw[ZG.mp hb];exact⟨_,a6,fun v z=>by cases z⟩)
      have q:=vm.done Y eP eW eK Lu i _ s6 (o6 :: SY :: bQ cap σ) H6 (notedBy (model X.prog X.w) X.A (compEnvC scope cl C X.env) fun e s'=>compPost (model X.prog X.w) X.A X.xe use Qf (.ref D) C (.error e) s') ML (fun b hb=>?_) MJ stop
      . rw [eA] at q
        refine dN q fun r s7 ⟨hr,I7⟩=>?_
        subst hr
        have a7:s7.heap.get? D=_:=(I7.pin (D,{cls:=.type "list",data:=.seq us.toArray us.length}) (ZR _ (ZR _ (cN (ZG.mpr rfl) a6)))).1
        obtain⟨m7,Dp,_⟩:=I7.loc
        rw[eE] at Dp
        have Fx:H6 D=none:=d6
        have UE:H6 C=none:=by have:=I7.free;rw[eE] at this;exact this
        have MM:mZ X.prog X.w H6 s7.heap:=by have q:=I7.hok;rw[eP,eW] at q;exact q
        have new:c7 X.prog X.w (upd H6 D (.lst ys)) s7.heap D (.lst ys):=⟨abd hz,us,us.length,v6,a7⟩
        have u7:Un (frs X.stack) fp H2 H6 s2.heap s7.heap:=by have:=I7.base;subst hY;exact this
        have UG:∀b o,s2.heap.get? b=some o->b≠D:=fun b o e=>ZY (ZQ (ZP e) hD)
        have u8:Un (frs X.stack) fp H2 (upd H6 D (.lst ys)) s2.heap s7.heap:=
          ⟨u7.keep,u7.slot,fun b o e n hx=>by rw[az (UG b o e)];exact u7.free b o e n hx,u7.there,
           fun b xs e=>by have z:=u7.tups b xs e;rw[az (aT z Fx)];exact z,fun b o u e=>by have z:=u7.tU b o u e;rw[az (aT z Fx)];exact z,
           fun b ps e=>by obtain⟨more,z⟩:=u7.vg b ps e;exact⟨more,by rw[az (aT z Fx)];exact z⟩⟩
        have UH:s7.os=s2.os:=by have:=I7.os;subst hY;exact this
        have I9:Inv X pins σ (upd H6 D (.lst ys)) s7:=I2.Li (ch:=fp) UH u8 (MM.Ls Fx new) I7.bare fun b hb=>⟨(f2 b hb).2.2.2.1,(f2 b hb).2.1,(f2 b hb).2.2.2.2.1,(f2 b hb).2.2.2.2.2⟩
        exact hend D C s7 H6 ys I9 ⟨m7,Dp⟩ (I2.wY hC (by rw[az (aaN hDC)];exact UE)) (qn D Fx)
      . obtain⟨f0,f1,MN,f3,f4,f5⟩:=fF MK b hb
        refine⟨f0,f1,MN,f3,f4,fun p hp z=>?_⟩
        rcases Z2.mp hp with q' | q'
        . exact f5 p (aac _ q') z
        . rcases Z2.mp q' with q' | q'
          . exact absurd q' (by simp)
          . have:=(lz q').1
            rw[ZG.mp this] at z
            exact hDf (z▸hb)
    . have ML:=I6.pinned (fp:=[D]) (fun b hb=>by rw[ZG.mp hb];exact fD d6) (fun b hb=>by rw[ZG.mp hb];exact⟨_,a6,fun v z=>by cases z⟩)
      have Qn:∀{H':Hp},(∀b∈fp,H' b=none)->∀b∈fp,kI Y ([]++kW [D] s6.heap) H' b:=fun {H'} hn b hb=>by
        obtain⟨f0,f1,MN,f3,f4,f5⟩:=fF hn b hb
        refine⟨f0,f1,MN,f3,f4,fun p hp z=>?_⟩
        rcases Z2.mp hp with q' | q'
        . exact f5 p (aac _ q') z
        . rcases Z2.mp q' with q' | q'
          . exact absurd q' (by simp)
          . have:=(lz q').1
            rw[ZG.mp this] at z
            exact hDf (z▸hb)
      have q:=vm.item Y eP eW eK Lu i _ s6 (o6 :: SY :: bQ cap σ) H6 (notedBy (model X.prog X.w) X.A (compEnvC scope cl C X.env) fun e s'=>compPost (model X.prog X.w) X.A X.xe use Qf (.ref D) C (.error e) s') ML (Qn MK) MJ go
      rw[eA] at q
      refine dN q fun r Zi ⟨u,hr,h7⟩=>?_
      subst hr
      refine dN h7 fun _ s7 ⟨xv,H8,I8,r8,y8,MP,UI⟩=>?_
      have UJ:=I8.pinned (Qn UI) (vm.obj _ _ MP)
      obtain⟨a8,x1,x2,e8,Yo,stp⟩:=step xv _ y8
      have qa:=UC _ s7 (o6 :: SY :: bQ cap σ) H8 xv u (fun σ' H'=>σ'=some x1 :: some x2 :: bQ cap σ/\H'=H8) UJ r8 ⟨a8,[x1,x2],e8,by rw[eK];exact Yo,rfl,x1,[x2],rfl,x2,[],rfl,rfl,rfl,rfl⟩
      rw[eP,eW,eA,eE] at qa
      refine aas qa (fun _ s9 h9=>?_) (o8 _)
      obtain⟨X5,H9,I9,e9,UK⟩:=h9
      subst e9 UK
      have qt:=UA _ s9 _ _ _ I9 stp
      rw[eP,eW,eA,eE] at qt
      refine aas qt (fun ok UL h10=>?_) (o8 _)
      obtain⟨UM,Qo,Jd⟩:=h10
      have back:∀{s':Shared}{H':Hp},Inv Y (([]++kW [D] s6.heap)++kW fp s7.heap) (some x1 :: some x2 :: bQ cap σ) H' s'->Inv Y [] (some x1 :: some x2 :: bQ cap σ) H' s'/\tn (i+1) s'.heap/\(∀b∈fp,H' b=none)/\H' D=none/\s'.heap.get? D=some {cls:=.type "list",data:=.seq us.toArray us.length}:=fun {s' H'} J=>by
        refine⟨J.jT.jT,vm.keep _ _ _ MP fun b hb o e=>(J.pin (b,o) (ZR _ (ZR _ (cN hb e)))).1,fun b hb=>?_,?_,?_⟩
        . obtain⟨o,e,d⟩:=vm.obj _ _ MP b hb
          exact(J.pin (b,o) (ZR _ (ZR _ (cN hb e)))).2.1
        . exact(J.pin (D,_) (ZR _ (aac _ (ZR _ (cN (ZG.mpr rfl) a6))))).2.1
        . exact(J.pin (D,_) (ZR _ (aac _ (ZR _ (cN (ZG.mpr rfl) a6))))).1
      cases ok with
      | false=>
        rw[if_neg (by decide)] at Jd ⊢
        obtain⟨m',hm,UN⟩:=Jd
        obtain⟨b1,b2,b3,b4,b5⟩:=back Qo
        exact⟨m',hm,i+1,ys,us,UM,some x1,some x2,b1,b2,b3,b4,b5,v6,UN⟩
      | true=>
        rw[if_pos rfl] at Jd ⊢
        have qe:=UB _ UL _ _ _ Qo Jd
        rw[eP,eW,eA,eE] at qe
        refine aas qe (fun y MQ h11=>?_) (o8 _)
        obtain⟨yv,Qp,UO,UP,m',hm,UQ⟩:=h11
        obtain⟨b1,b2,b3,b4,b5⟩:=back UO
        refine append_at (hsz:=by rw[ZL,UD];exact abd hz) b5 fun h12 MR MS=>?_
        have Qq:∀b o,b≠D->MQ.heap.get? b=some o->h12.get? b=some o:=fun b o hb e=>MR.extBut b o hb e
        obtain⟨g0,g1,g2,g3,g4,g5⟩:=fD b4
        have UR:Inv Y [] (some x1 :: some x2 :: bQ cap σ) Qp {MQ with heap:=h12}:=b1.turned (t':=MQ.toks) Qq g0 g1 g3 g4 g5
        refine⟨m',hm,i+1,ys++[yv],us++[y],Qp,some x1,some x2,UR,vm.keep _ _ _ b2 fun b hb o e=>Qq b o (fun z=>hDf (z▸hb)) e,b3,b4,MS.trans (congrArg some (Fp us y)),v6.append (.cons UP .nil),UQ⟩
  exact codeAny_compStart_list (key _ rfl) (vm.self _ 0 _ _ _ Qm (key _ rfl))
def wz {wi:TI}{tc:TT}{te:TE}
  (T2:j7 X x y0 aZ cap scope cl) (hc:X.calm=true) (hi:PI X (.Tuple [.Name x px,.Name y0 py] k0 pt) iter wi)
  (ht:∀C s H fp,Fl (bT X (x :: y0 :: aZ) scope cl C s H fp) ifs tc) (he:∀C s H fp,PE (bT X (x :: y0 :: aZ) scope cl C s H fp) elt te)
  (hs:∀x,foldedSetIterable iter X.env x=pure x:=by intro _;rfl):
  PE X (.ListComp elt [⟨.Tuple [.Name x px,.Name y0 py] k0 pt,iter,ifs,0⟩] scope pos) (Gj X.K wi cap tc te):=by
 intro pins s σ H Q I h
 rw[eval_ListComp]
 refine su T2 hc hi ht he hs I h ?_
 rintro p C s7 H6 ys I9 ⟨m7,Dp⟩ ⟨g0,g1,g2,g3,g4,g5⟩ q
 exact⟨m7,Dp,fun h' hs'=>⟨.ref p,_,I9.turned (t':=s7.toks) (fun b o hb e=>hs'.extBut b o hb e) g0 g1 g3 g4 g5,rfl,q⟩⟩
noncomputable def cI (cap:List Nat) (q:GT) (g:GD):List D->SS->List D->Option (List D×SS)
 | [],S,acc=>some (acc,S)
 | .tup [a,b] :: ds,S,acc=>(aY S cap).bind fun us=>
  if(slotsOf us).Nodup/\cM us<=1 then(cy S us).bind fun ws=>(q (ZA a :: ZA b :: ws.map some)).bind fun p=>
   if p.1 then(g p.2).bind fun r=>(aB (.t a :: .t b :: ws) r.2).bind fun outs=>(wb us outs S).bind fun S'=>cI cap q g ds S' (acc++[r.1])
   else(aB (.t a :: .t b :: ws) p.2).bind fun outs=>(wb us outs S).bind fun S'=>cI cap q g ds S' acc
  else none
 | _ :: _,_,_=>none
noncomputable def iT (cap:List Nat) (gi:GI) (q:GT) (g:GD):GE:=fun S=>(gi S).bind fun p=>if p.1.length<=100000 then(cI cap q g p.1 p.2 []).map fun r=>(.m (.lst r.1),r.2) else none
def zE {F:Hp}{xs:List V}{a b:D}(r:aX F xs [a,b]):∃x1 x2,xs=[x1,x2]/\Rep F x1 a/\Rep F x2 b:=by
 cases r with
 | cons r1 rr=>cases rr with
  | cons r2 Yp=>cases Yp;exact⟨_,_,rfl,r1,r2⟩
def DJ {K : PySem.W.Frag} {B : Base}  {gi : GI} {q : GT} {g : GD}   {Q : VK} (h : tE K B (iT cap gi q g) σ H Q) : Gj K (UX K B gi) cap (fun σ H Q => ∃ B, tQ K B q σ H Q) (fun σ H Q => ∃ B, tD K B g σ H Q) σ H Q := by
  obtain⟨x,_⟩:∃x:Str,True:=⟨"",trivial⟩
  obtain⟨S,F,u,S',R,hg,k⟩:=h
  obtain⟨⟨ds,S1⟩,h1,hg⟩:=ah hg
  dsimp only at hg
  split at hg
  . rename_i hlen
    obtain⟨⟨res,Sf⟩,h2,hg⟩:=aq hg
    cases hg
    refine⟨S,F,ds,S1,R,h1,fun J F1 H1 R1 st1 w=>?_⟩
    refine⟨fun i m ys H'=>∃S2 F2 acc,Rel K B S2 σ F2 H'/\Step S S2 σ F H F2 H'/\(∀b o,F1 b=some o->F2 b=some o)/\aX F2 ys acc/\acc.length<=i/\i<=ds.length/\m=ds.length - i/\cI cap q g (ds.drop i) S2 acc=some (res,Sf),
      ⟨_,S1,F1,[],R1,st1,fun _ _ z=>z,.nil,ZM _,Z3 _,rfl,h2⟩,?_⟩
    rintro i m ys H' ⟨S2,F2,acc,R2,st2,le,ry,ha,hl,rfl,cC⟩
    refine⟨by rw[ry.length];exact aa8 (Z5 ha (Z5 hl hlen)) (by decide),?_⟩
    have w':=w F2 H' le R2.sub i
    by_cases hlt:i < ds.length
    . have hd:ds[i]? =some ds[i]:=Zz hlt
      obtain⟨go,yl⟩:=w'.1 _ hd
      rw[aai hlt] at cC
      refine .inr ⟨go,fun xv H3 y=>?_⟩
      obtain⟨rfl,rx⟩:=yl xv H3 y
      obtain⟨da,db,Vb⟩:∃da db,ds[i]= .tup [da,db]:=by
        generalize ds[i]=dd at cC
        unfold cI at cC
        split at cC
        . rename_i z;cases z
        . rename_i z;injection z with z1 z2;exact⟨_,_,z1⟩
        . cases cC
      rw[Vb] at cC rx
      obtain⟨pa,Yq,Vc,Yr,hpa,Dt⟩:=R2.sub.iO rx
      obtain⟨x1,x2,exs,Ve,Vf⟩:=zE Dt
      subst exs Vc
      obtain⟨us,e1,cC⟩:=ah (show(aY S2 cap).bind _=_ from cC)
      split at cC
      . rename_i hnd
        obtain⟨ws,e2,cC⟩:=ah cC
        obtain⟨⟨bk,T1⟩,e3,cC⟩:=ah cC
        obtain⟨vs,k1,k2⟩:=xD R2 e1
        have rr:Paired (fun v u=>jJ K B S2 σ H3 F2 H3 v u) (x1 :: x2 :: vs) (.t da :: .t db :: us):=.cons Ve (.cons Vf k2)
        have er:=nu R2 da (nu R2 db e2)
        have ar:=p9 R2 rr er
        have nd:=dz R2 rr er hnd.1 hnd.2
        have R3:=n6 (n:=ws.length+2) R2.sub ar nd (List.replicate (ws.length+2) x) (by simp)
        have hvl:vs.length=ws.length:=by have:=ar.length;simpa using this
        have es:start (List.replicate (ws.length+2) x) (x1 :: x2 :: vs)=some x1 :: some x2 :: bQ cap σ:=by
          unfold start;rw[k1];simp[hvl]
        have eS:(U.t da :: U.t db :: ws).map some++List.replicate (ws.length+2 - (U.t da :: U.t db :: ws).length) none=some (U.t da) :: some (U.t db) :: ws.map some:=by simp
        rw[es,eS] at R3
        have back:∀(T2:SS) (F3 H4:Hp) (outs:List MO) (S3:SS),Rel K ⟨lent (x1 :: x2 :: vs) (U.t da :: U.t db :: ws),F2,H3⟩ T2 (some x1 :: some x2 :: bQ cap σ) F3 H4->aB (U.t da :: U.t db :: ws) T2=some outs->wb us outs S2=some S3->Rel K B S3 σ F3 H4/\Step S S3 σ F H F3 H4/\(∀b o,F2 b=some o->F3 b=some o):=fun T2 F3 H4 outs S3 RT ho hw=>by
          have po:=post_of ar T2 _ F3 H4 outs RT ho
          obtain⟨Ra,we,_⟩:=lY (S0:=S2) (F0:=F2) (H0:=H3) R2 (Step.refl ..) rr er (show wb (U.t da :: U.t db :: us) outs S2=some S3 by cases outs <;> exact hw) hnd.1 po
          exact⟨Ra,st2.trans we,we.ext.le⟩
        refine⟨pa,x1,x2,rfl,.inl hpa,_,_,F2,bk,T1,R3,e3,fun F3 H4 LB Qz=>?_⟩
        cases bk with
        | true=>
          obtain⟨⟨yd,T2⟩,e4,cC⟩:=ah (show(g T1).bind _=_ from cC)
          obtain⟨outs,e5,cC⟩:=ah cC
          obtain⟨S3,e6,cC⟩:=ah cC
          refine yY ⟨_,T1,F3,yd,T2,LB,e4,fun yv F4 H5 QA QB QC=>?_⟩
          obtain⟨Ra,we,zo⟩:=back T2 F4 H5 outs S3 QA e5 e6
          refine⟨ds.length - (i+1),by omega,S3,F4,acc++[yd],Ra,we,fun b o z=>zo b o (le b o z),(ry.le zo).append (.cons QC .nil),by simp;omega,hlt,rfl,cC⟩
        | false=>
          obtain⟨outs,e5,cC⟩:=ah (show(aB (U.t da :: U.t db :: ws) T1).bind _=_ from cC)
          obtain⟨S3,e6,cC⟩:=ah cC
          obtain⟨Ra,we,zo⟩:=back T1 F3 H4 outs S3 LB e5 e6
          exact yX ⟨ds.length - (i+1),by omega,S3,F3,acc,Ra,we,fun b o z=>zo b o (le b o z),ry.le zo,by omega,hlt,rfl,cC⟩
      . cases cC
    . have e:i=ds.length:=by omega
      subst e
      rw[abG] at cC
      cases cC
      refine .inl ⟨w'.2 (ZM _),fun p hp=>?_⟩
      have n:=gf.obj (F:=F2) hp (.lst ys)
      refine k (.ref p) F2 _ (R2.new n (R2.sub.same n.same)) (st2.trans n.step) ⟨p,rfl,none_of st2.ext.there hp,R2.sub.fresh hp,⟨ys,aD,ry⟩,fun m=>?_,none_of R2.ext.there hp⟩
      obtain⟨o,ho⟩:=R2.has m
      rw[hp] at ho
      cases ho
  . cases hg
def Gk {gi:GI}{q:GT}{g:GD}(T:j7 X x y0 aZ cap scope cl) (hc:X.calm=true) (hi:JI X (.Tuple [.Name x px,.Name y0 py] k0 pt) iter gi)
  (ht:∀C s H fp,LA (bT X (x :: y0 :: aZ) scope cl C s H fp) ifs q) (he:∀C s H fp,JD (bT X (x :: y0 :: aZ) scope cl C s H fp) elt g)
  (hs:∀x,foldedSetIterable iter X.env x=pure x:=by intro _;rfl):JE X (.ListComp elt [⟨.Tuple [.Name x px,.Name y0 py] k0 pt,iter,ifs,0⟩] scope pos) (iT cap gi q g):=⟨fun B=>
 (wz (tc:=fun σ H Q=>∃B,tQ X.K B q σ H Q) (te:=fun σ H Q=>∃B,tD X.K B g σ H Q) T hc (hi.h B) (fun C s H fp pins s' σ H' Q I ⟨B',z⟩=>(ht C s H fp).h B' pins s' σ H' Q I z) (fun C s H fp pins s' σ H' Q I ⟨B',z⟩=>(he C s H fp).h B' pins s' σ H' Q I z) hs).imp fun σ H Q h=>DJ h⟩
end L2
end
section
namespace L2
open PySem PySem.Spec PyProof.Rows PySem.Calls
section
variable {X:Cx}{o e:Expr}{m:Str}{apos cpos:Pos}{id:String}{go ge:GD}{f:List D->Option U}
end
section
variable {X:Cx}
end
noncomputable def Vg:GS:=fun _=>none
def QS {X:Cx}{st:Stmt}:JS X st Vg:=⟨fun B pins s σ H Q I ⟨_,_,_,_,hg,_⟩=>by cases hg⟩
end L2
end
section
namespace L2
open PySem PySem.Spec PyProof.Rows
section
variable {X:Cx}{C:Addr}{e value:Expr}{es:List Expr}{gu:GU}{x y m:Str}{px p pos pos' apos tpos:Pos}{f:Str}{fm:FM}{fa:Addr}{fd:FuncData}{ps:List Str}{k n i:Nat}{g:GD}
end
end L2
end
section
namespace L2
open PySem PySem.Spec PyProof.Rows PySem.Calls
variable {N l0 l1 i:Nat}{k0 k1:Bool}{v0 v1:AAH}{H:Hp}{K:AAA}{cap:List Nat}{gi:GI}{q:GT}{g:GD}{X:Cx}{elt iter:Expr}{ifs:List Expr}{x y0:Str}{px py pt pos spos:Pos}{scope:Scope}{cl:List (Str×Addr)}{aZ:List Str}
section
variable {X:Cx}
end
section
variable {X:Cx}{e f:Expr}{x:Str}{px pos apos cpos:Pos}{ty tx:TE}{g gd:GD}{a:Addr}{kvs:AAG}
end
section
variable {prog:Program}{w:World}{A:Around}{E:AAB}{s:Shared}
def qj {M:Model}{a:Addr}{Q:Option Obj->Shared->Prop}(h:Q (s.heap.get? a) s):wpAny M A (loadIfAlive a) Q E s:=fun Γ p _=>by
 unfold loadIfAlive
 rw[Sem.wp_loadIfAlive]
 exact(wpAny_pure h:wpAny M A (pure (s.heap.get? a)) Q E s) Γ p (by assumption)
abbrev iU (h:Heap) (z TI TO:Addr) (f0 f1:Value):Prop:=h.get? z=some {cls:=.type "zip",dict:=none,data:=.fields #[f0,f1,.bool false,.ref TI,.ref TO],slots:=#[]}
def Vh (f0 f1:Value):Prop:=(f0= .none\/∃T:Int,f0=rawInt T)/\∃b,f1= .bool b
structure pF (N:Nat) (k0 k1:Bool) (l0 l1:Nat) (i:Nat) (h:Heap):Prop where
 z:∃f0 f1,Vh f0 f1/\iU h (N+4) (N+2) (N+3) f0 f1
 ti:TupAt h (N+2) #[.ref N,.ref (N+1)]
 to:∃v:List Value,v.length=2/\TupAt h (N+3) v.toArray
 c0:mL k0 h N l0 i
 c1:mL k1 h (N+1) l1 i
def Nd.l {h:Heap}(x:Nd N k0 k1 l0 l1 i .none h):pF N k0 k1 l0 l1 i h:=⟨⟨_,_,⟨.inl rfl,_,rfl⟩,x.z⟩,x.ti,x.to,x.c0,x.c1⟩
def zF {z TI TO : Addr} {f0 f1 : Value} {Q : Bool -> Shared -> Prop} (hz : iU s.heap z TI TO f0 f1) (hf : Vh f0 f1)
    (q:∀b h' g0 g1,Vh g0 g1->iU h' z TI TO g0 g1->Heap.SameBut z s.heap h'->Q b {s with heap:=h'}):wpAny (model prog w) A (Builtin.SmallTypes.ownedTupleIsFree (.ref z)) Q E s:=by
  unfold Builtin.SmallTypes.ownedTupleIsFree
  have same:Heap.SameBut z s.heap s.heap:=⟨rfl,fun _ _=>rfl⟩
  obtain⟨h0,b1,rfl⟩:=id hf
  rcases h0 with rfl | ⟨T,rfl⟩
  . exact Zv (aaZ hz rfl (x:=.none) rfl (wpAny_pure (q true s.heap _ _ hf hz same)))
  . refine Zv (aaZ hz rfl (x:=rawInt T) rfl ?_)
    show wpAny _ _ (loadIfAlive T.toNat >>= _) _ _ _
    refine Zv (qj ?_)
    cases hl:s.heap.get? T.toNat with
    | none=>exact wpAny_pure (q true s.heap _ _ hf hz same)
    | some o=>
      show wpAny _ _ (field (.ref z) 1 >>= _) _ _ _
      refine Zv (aaZ hz rfl (x:=.bool b1) rfl ?_)
      cases b1 with
      | true=>exact wpAny_pure (q false s.heap _ _ hf hz same)
      | false=>
        show wpAny _ _ (setField (.ref z) 1 (.bool true) >>= _) _ _ _
        refine Zv (aay hz (by simp) fun h' hz' e'=>?_)
        exact wpAny_pure (q false h' (rawInt T) (.bool true) ⟨.inr ⟨T,rfl⟩,true,rfl⟩ hz' e')
def Gm {x0 x1:Value}{Q:Option Value->Shared->Prop}(st:pF N k0 k1 l0 l1 i s.heap)
  (QT:nH k0 s.heap l0 v0) (DK:v0[i]? =some x0) (Iw:l0 < N)
  (Nf:nH k1 s.heap l1 v1) (DL:v1[i]? =some x1) (Iz:l1 < N)
  (q:∀h',pF N k0 k1 l0 l1 (i+1) h'->TupAt h' s.heap.objs.size #[x0,x1]->(∀(b:Nat) o,b∉j6 N->s.heap.get? b=some o->h'.get? b=some o)->Q (some (.ref s.heap.objs.size)) {s with heap:=h'}):
  wpAny (model prog w) A (pyNext (.ref (N+4))) Q E s:=by
 obtain⟨⟨f0,f1,hf,hz⟩,hTI,⟨w0,hw0,hTO⟩,d0,d1⟩:=st
 obtain⟨a0,a1,rfl⟩:∃a0 a1,w0=[a0,a1]:=by
  match w0,hw0 with
  | [a0,a1],_=>exact⟨_,_,rfl⟩
 have hT:s.TypeIs (.ref (N+4)) "zip":=⟨_,hz,rfl⟩
 unfold pyNext
 refine Zv (acz (aaO (name:=Str.ofString "__next__") hT ab9 (aaF ab9 hT F.entry_zip_next ?_ (F.args_zip_next_1 _))))
 show wpAny _ _ (field (.ref (N+4)) 2 >>= _) _ _ _;refine Zv (aaZ hz rfl (x:=.bool false) rfl ?_)
 show wpAny _ _ (field (.ref (N+4)) 3 >>= _) _ _ _;refine Zv (aaZ hz rfl (x:=.ref (N+2)) rfl ?_)
 refine Zv (aaK hTI rfl ?_);show wpAny _ _ (Builtin.SmallTypes.ownedTupleIsFree (.ref (N+4)) >>= _) _ _ _
 refine Zv (zF hz hf fun fr ux q0 fl hf' hz' wA=>?_)
 clear hf hz hT
 have wA:Heap.SameBut (N+4) s.heap ux:=wA
 cases fr
 case false=>
  have LD:∀(b:Nat) o,b∉j6 N->s.heap.get? b=some o->ux.get? b=some o:=fun b o hb y=>(wA.2 b fun z=>hb (aL.mpr (by have z:@Eq Nat b _:=z;omega))).trans y
  have d0:mL k0 ux N l0 i:=d0.at fun o y=>(wA.2 _ (by first | omega | (show @Ne Nat _ _;omega))).trans y
  have d1:mL k1 ux (N+1) l1 i:=d1.at fun o y=>(wA.2 _ (by first | omega | (show @Ne Nat _ _;omega))).trans y
  have hTO:TupAt ux (N+3) #[a0,a1]:=(wA.2 _ (by first | omega | (show @Ne Nat _ _;omega))).trans hTO
  have hTI:TupAt ux (N+2) #[.ref N,.ref (N+1)]:=(wA.2 _ (by first | omega | (show @Ne Nat _ _;omega))).trans hTI
  have A4:nH k0 ux l0 v0:=QT.at fun o y=>LD _ o (fun z=>by have:=aL.mp z;omega) y
  have A5:nH k1 ux l1 v1:=Nf.at fun o y=>LD _ o (fun z=>by have:=aL.mp z;omega) y
  simp only[aa6,abW]
  refine Zv ?_
  rw[<-acd]
  simp only[aba,abV]
  refine Zv (Zv (aan ?_));show wpAny _ _ (Builtin.SmallTypes.nextOf (.ref N) >>= _) _ _ _
  refine Zv (nextK d0 A4 DK fun g1 c0 e1=>wpAny_pure (wpAny_pure ?_))
  have e1:Heap.SameBut N ux g1:=e1
  have m1:∀(b:Nat) o,b∉j6 N->s.heap.get? b=some o->g1.get? b=some o:=fun b o hb y=>(e1.2 b fun z=>hb (aL.mpr (by have z:@Eq Nat b _:=z;omega))).trans (LD b o hb y)
  have d1:mL k1 g1 (N+1) l1 i:=d1.at fun o y=>(e1.2 _ (by first | omega | (show @Ne Nat _ _;omega))).trans y
  have A5:nH k1 g1 l1 v1:=Nf.at fun o y=>m1 _ o (fun z=>by have:=aL.mp z;omega) y
  refine Zv (Zv (aan ?_));show wpAny _ _ (Builtin.SmallTypes.nextOf (.ref (N+1)) >>= _) _ _ _
  refine Zv (nextK d1 A5 DL fun g2 c1 e2=>wpAny_pure (wpAny_pure (wpAny_pure ?_)))
  have e2:Heap.SameBut (N+1) g1 g2:=e2
  have s2:g2.objs.size=s.heap.objs.size:=by rw[e2.1,e1.1,wA.1]
  refine Zv (wpAny_newTuple ?_ (show 2<=sizeLine by decide))
  refine wpAny_pure ⟨_,rfl,wpAny_pure ?_⟩
  have keep:∀(b:Nat) o,b≠N->b≠N+1->ux.get? b=some o->(g2.push {cls:=.type "tuple",data:=.seq #[x0,x1]}).get? b=some o:=fun b o h1 h2 y=>Zx _ ((e2.2 _ h2).trans ((e1.2 _ h1).trans y))
  have tt:TupAt (g2.push {cls:=.type "tuple",data:=.seq #[x0,x1]}) g2.objs.size #[x0,x1]:=ZT _ rfl
  have q':=q (g2.push {cls:=.type "tuple",data:=.seq #[x0,x1]}) ⟨⟨_,_,hf',keep _ _ (by first | omega | (show @Ne Nat _ _;omega)) (by first | omega | (show @Ne Nat _ _;omega)) hz'⟩,keep _ _ (by first | omega | (show @Ne Nat _ _;omega)) (by first | omega | (show @Ne Nat _ _;omega)) hTI,⟨[a0,a1],rfl,keep _ _ (by first | omega | (show @Ne Nat _ _;omega)) (by first | omega | (show @Ne Nat _ _;omega)) hTO⟩,c0.at fun o y=>Zx _ ((e2.2 _ (by first | omega | (show @Ne Nat _ _;omega))).trans y),c1.at fun o y=>Zx _ y⟩ (by rw[<-s2];exact tt) fun b o hb y=>Zx _ ((e2.2 b fun z=>hb (aL.mpr (by have z:@Eq Nat b _:=z;omega))).trans (m1 b o hb y))
  rw[<-s2] at q'
  exact q'
 simp only[if_true];refine Zv (abi ?_);refine Zv (aaZ hz' rfl (x:=.ref (N+3)) rfl ?_)
 refine Zv (aay hz' (by simp) fun g0 z0 e0=>?_)
 have e0:Heap.SameBut (N+4) ux g0:=e0
 have e0:Heap.SameBut (N+4) s.heap g0:=⟨e0.1.trans wA.1,fun b hb=>(e0.2 b hb).trans (wA.2 b hb)⟩
 have z0:iU g0 (N+4) (N+2) (N+3) .ellipsis fl:=z0
 have e0:Heap.SameBut (N+4) s.heap g0:=e0
 refine Zv ?_;simp only[List.zipIdx_cons,List.zipIdx_nil,aba,abV]
 have t0:TupAt g0 (N+3) #[a0,a1]:=(e0.2 _ (by first | omega | (show @Ne Nat _ _;omega))).trans hTO
 have m0:∀(b:Nat) o,b∉j6 N->s.heap.get? b=some o->g0.get? b=some o:=fun b o hb y=>(e0.2 b fun z=>hb (aL.mpr (by have z:@Eq Nat b _:=z;omega))).trans y
 have S6:mL k0 g0 N l0 i:=d0.at fun o y=>(e0.2 _ (by first | omega | (show @Ne Nat _ _;omega))).trans y
 have Ng:mL k1 g0 (N+1) l1 i:=d1.at fun o y=>(e0.2 _ (by first | omega | (show @Ne Nat _ _;omega))).trans y
 refine Zv (Zv (ac0 ?_));show wpAny _ _ (Builtin.SmallTypes.nextOf (.ref N) >>= _) _ _ _
 refine Zv (nextK S6 (QT.at fun o y=>m0 _ o (fun z=>by have:=aL.mp z;omega) y) DK fun g1 c0 e1=>wpAny_pure ?_)
 have e1:Heap.SameBut N g0 g1:=e1
 have t1:TupAt g1 (N+3) #[a0,a1]:=(e1.2 _ (by first | omega | (show @Ne Nat _ _;omega))).trans t0
 refine Zv (aaK t1 rfl ?_);refine Zv (Nc t1 (show 2<=sizeLine by decide) fun g2 t2 e2=>?_)
 have t2:TupAt g2 (N+3) #[x0,a1]:=t2
 have e2:Heap.SameBut (N+3) g1 g2:=e2
 have z1:iU g2 (N+4) (N+2) (N+3) .ellipsis fl:=(e2.2 _ (by first | omega | (show @Ne Nat _ _;omega))).trans ((e1.2 _ (by first | omega | (show @Ne Nat _ _;omega))).trans z0)
 have m2:∀(b:Nat) o,b∉j6 N->s.heap.get? b=some o->g2.get? b=some o:=fun b o hb y=>(e2.2 b fun z=>hb (aL.mpr (by have z:@Eq Nat b _:=z;omega))).trans ((e1.2 b fun z=>hb (aL.mpr (by have z:@Eq Nat b _:=z;omega))).trans (m0 b o hb y))
 refine Zv (acT (wpAny_pure ?_))
 have c0:mL k0 g2 N l0 (i+1):=c0.at fun o y=>(e2.2 _ (by first | omega | (show @Ne Nat _ _;omega))).trans y
 have Ng:mL k1 g2 (N+1) l1 i:=Ng.at fun o y=>(e2.2 _ (by first | omega | (show @Ne Nat _ _;omega))).trans ((e1.2 _ (by first | omega | (show @Ne Nat _ _;omega))).trans y)
 have i0:g2.get? (N+2)=s.heap.get? (N+2):=by rw[e2.2 _ (by first | omega | (show @Ne Nat _ _;omega)),e1.2 _ (by first | omega | (show @Ne Nat _ _;omega)),e0.2 _ (by first | omega | (show @Ne Nat _ _;omega))]
 have s0:g2.objs.size=s.heap.objs.size:=by rw[e2.1,e1.1,e0.1]
 refine Zv (Zv (ac0 ?_));show wpAny _ _ (Builtin.SmallTypes.nextOf (.ref (N+1)) >>= _) _ _ _
 refine Zv (nextK Ng (Nf.at fun o y=>m2 _ o (fun z=>by have:=aL.mp z;omega) y) DL fun g3 c1 e3=>wpAny_pure ?_)
 have e3:Heap.SameBut (N+1) g2 g3:=e3
 have t3:TupAt g3 (N+3) #[x0,a1]:=(e3.2 _ (by first | omega | (show @Ne Nat _ _;omega))).trans t2
 refine Zv (aaK t3 rfl ?_);refine Zv (Nc t3 (show 2<=sizeLine by decide) fun g4 t4 e4=>?_)
 have t4:TupAt g4 (N+3) #[x0,x1]:=t4
 have e4:Heap.SameBut (N+3) g3 g4:=e4
 have z2:iU g4 (N+4) (N+2) (N+3) .ellipsis fl:=(e4.2 _ (by first | omega | (show @Ne Nat _ _;omega))).trans ((e3.2 _ (by first | omega | (show @Ne Nat _ _;omega))).trans z1)
 have m4:∀(b:Nat) o,b∉j6 N->s.heap.get? b=some o->g4.get? b=some o:=fun b o hb y=>(e4.2 b fun z=>hb (aL.mpr (by have z:@Eq Nat b _:=z;omega))).trans ((e3.2 b fun z=>hb (aL.mpr (by have z:@Eq Nat b _:=z;omega))).trans (m2 b o hb y))
 refine Zv (acT (wpAny_pure (wpAny_pure ?_)))
 have c0:mL k0 g4 N l0 (i+1):=c0.at fun o y=>(e4.2 _ (by first | omega | (show @Ne Nat _ _;omega))).trans ((e3.2 _ (by first | omega | (show @Ne Nat _ _;omega))).trans y)
 have c1:mL k1 g4 (N+1) l1 (i+1):=c1.at fun o y=>(e4.2 _ (by first | omega | (show @Ne Nat _ _;omega))).trans y
 have i1:g4.get? (N+2)=s.heap.get? (N+2):=by rw[e4.2 _ (by first | omega | (show @Ne Nat _ _;omega)),e3.2 _ (by first | omega | (show @Ne Nat _ _;omega)),i0]
 have s1:g4.objs.size=s.heap.objs.size:=by rw[e4.1,e3.1,s0]
 refine Zv (aaK t4 rfl ?_);refine Zv (wpAny_newTuple ?_)
 have W7:(N+4) < g4.objs.size:=ZP z2
 show wpAny _ _ (Builtin.SmallTypes.ownedTupleHandOut (.ref (N+4)) (.ref g4.objs.size) >>= _) _ _ _;refine Zv ?_;unfold Builtin.SmallTypes.ownedTupleHandOut
 have y0:iU (g4.push {cls:=.type "tuple",data:=.seq #[x0,x1]}) (N+4) (N+2) (N+3) .ellipsis fl:=Zx _ z2
 refine Zv (aay y0 (by simp) fun f1 y1 r1=>?_)
 have y1:iU f1 (N+4) (N+2) (N+3) (rawInt g4.objs.size) fl:=y1
 refine aay y1 (by simp) fun f2 y2 r2=>?_
 have y2:iU f2 (N+4) (N+2) (N+3) (rawInt g4.objs.size) (.bool false):=y2
 have up:∀b o,b≠(N+4)->g4.get? b=some o->f2.get? b=some o:=fun b o hb y=>r2.extBut _ _ hb (r1.extBut _ _ hb (Zx _ y))
 have tt:TupAt f2 g4.objs.size #[x0,x1]:=r2.extBut _ _ (abe W7) (r1.extBut _ _ (abe W7) (ZT _ rfl))
 rw[s1] at y2 tt
 refine wpAny_pure ⟨_,rfl,wpAny_pure ?_⟩
 rw[s1]
 exact q f2 ⟨⟨_,_,⟨.inr ⟨_,rfl⟩,false,rfl⟩,y2⟩,up _ _ (by first | omega | (show @Ne Nat _ _;omega)) (i1.trans hTI),⟨[x0,x1],rfl,up _ _ (by first | omega | (show @Ne Nat _ _;omega)) t4⟩,c0.at fun o y=>up _ o (by first | omega | (show @Ne Nat _ _;omega)) y,c1.at fun o y=>up _ o (by first | omega | (show @Ne Nat _ _;omega)) y⟩ tt fun b o hb y=>up b o (fun z=>hb (aL.mpr (by have z:@Eq Nat b _:=z;omega))) (m4 b o hb y)
def JO     {Q : Option Value -> Shared -> Prop} (hn : A.handled = none) (st : pF N k0 k1 l0 l1 i s.heap)
    (QT:nH k0 s.heap l0 v0) (Iw:l0 < N)
    (Nf:nH k1 s.heap l1 v1) (Iz:l1 < N)
    (hend:v0[i]? =none\/v1[i]? =none)
    (q:∀h',(∀(b:Nat) o,b∉j6 N->s.heap.get? b=some o->h'.get? b=some o)->Q none {s with heap:=h'}):
    wpAny (model prog w) A (pyNext (.ref (N+4))) Q E s:=by
  obtain⟨⟨f0,f1,hf,hz⟩,hTI,⟨w0,hw0,hTO⟩,d0,d1⟩:=st
  obtain⟨a0,a1,rfl⟩:∃a0 a1,w0=[a0,a1]:=by
    match w0,hw0 with
    | [a0,a1],_=>exact⟨_,_,rfl⟩
  have hT:s.TypeIs (.ref (N+4)) "zip":=⟨_,hz,rfl⟩
  unfold pyNext
  refine Zv (acz (aaO (name:=Str.ofString "__next__") hT ab9 (aaF ab9 hT F.entry_zip_next ?_ (F.args_zip_next_1 _))))
  show wpAny _ _ (field (.ref (N+4)) 2 >>= _) _ _ _;refine Zv (aaZ hz rfl (x:=.bool false) rfl ?_)
  show wpAny _ _ (field (.ref (N+4)) 3 >>= _) _ _ _;refine Zv (aaZ hz rfl (x:=.ref (N+2)) rfl ?_)
  refine Zv (aaK hTI rfl ?_);show wpAny _ _ (Builtin.SmallTypes.ownedTupleIsFree (.ref (N+4)) >>= _) _ _ _
  refine Zv (zF hz hf fun fr ux q0 fl hf' hz' wA=>?_)
  clear hf hz hT
  have wA:Heap.SameBut (N+4) s.heap ux:=wA
  cases fr
  case false=>
    have LD:∀(b:Nat) o,b∉j6 N->s.heap.get? b=some o->ux.get? b=some o:=fun b o hb y=>(wA.2 b fun z=>hb (aL.mpr (by have z:@Eq Nat b _:=z;omega))).trans y
    have d0:mL k0 ux N l0 i:=d0.at fun o y=>(wA.2 _ (by first | omega | (show @Ne Nat _ _;omega))).trans y
    have d1:mL k1 ux (N+1) l1 i:=d1.at fun o y=>(wA.2 _ (by first | omega | (show @Ne Nat _ _;omega))).trans y
    have hTO:TupAt ux (N+3) #[a0,a1]:=(wA.2 _ (by first | omega | (show @Ne Nat _ _;omega))).trans hTO
    have hTI:TupAt ux (N+2) #[.ref N,.ref (N+1)]:=(wA.2 _ (by first | omega | (show @Ne Nat _ _;omega))).trans hTI
    have A4:nH k0 ux l0 v0:=QT.at fun o y=>LD _ o (fun z=>by have:=aL.mp z;omega) y
    have A5:nH k1 ux l1 v1:=Nf.at fun o y=>LD _ o (fun z=>by have:=aL.mp z;omega) y
    simp only[aa6,abW]
    refine Zv ?_
    rw[<-acd]
    simp only[aba,abV]
    refine Zv (Zv (aan ?_));show wpAny _ _ (Builtin.SmallTypes.nextOf (.ref N) >>= _) _ _ _
    cases DK:v0[i]? with
    | none=>
      refine Zv (DG hn d0 A4 DK fun u1 e r1 he=>?_)
      have r1:Heap.ExtBut N ux u1:=r1
      obtain⟨oe,Gn,hce⟩:=he
      exact Zv (aaR (T:="StopIteration") (b:=true) ⟨oe,Gn,hce⟩ aci (wpAny_pure (q _ fun b o hb y=>r1 _ _ (fun z=>hb (aL.mpr (by have z:@Eq Nat b _:=z;omega))) (LD b o hb y))))
    | some x0=>
      refine Zv (nextK d0 A4 DK fun g1 c0 e1=>wpAny_pure (wpAny_pure ?_))
      have e1:Heap.SameBut N ux g1:=e1
      have m1:∀(b:Nat) o,b∉j6 N->s.heap.get? b=some o->g1.get? b=some o:=fun b o hb y=>(e1.2 b fun z=>hb (aL.mpr (by have z:@Eq Nat b _:=z;omega))).trans (LD b o hb y)
      have d1:mL k1 g1 (N+1) l1 i:=d1.at fun o y=>(e1.2 _ (by first | omega | (show @Ne Nat _ _;omega))).trans y
      have A5:nH k1 g1 l1 v1:=Nf.at fun o y=>m1 _ o (fun z=>by have:=aL.mp z;omega) y
      refine Zv (Zv (aan ?_));show wpAny _ _ (Builtin.SmallTypes.nextOf (.ref (N+1)) >>= _) _ _ _
      cases DL:v1[i]? with
      | none=>
        refine Zv (DG hn d1 A5 DL fun u1 e r1 he=>?_)
        have r1:Heap.ExtBut (N+1) g1 u1:=r1
        obtain⟨oe,Gn,hce⟩:=he
        exact Zv (aaR (T:="StopIteration") (b:=true) ⟨oe,Gn,hce⟩ aci (wpAny_pure (q _ fun b o hb y=>r1 _ _ (fun z=>hb (aL.mpr (by have z:@Eq Nat b _:=z;omega))) (m1 b o hb y))))
      | some x1=>exact absurd hend (by simp only[DK,DL];rintro(h | h) <;> cases h)
  simp only[if_true];refine Zv (abi ?_);refine Zv (aaZ hz' rfl (x:=.ref (N+3)) rfl ?_)
  refine Zv (aay hz' (by simp) fun g0 z0 e0=>?_)
  have e0:Heap.SameBut (N+4) ux g0:=e0
  have e0:Heap.SameBut (N+4) s.heap g0:=⟨e0.1.trans wA.1,fun b hb=>(e0.2 b hb).trans (wA.2 b hb)⟩
  have z0:iU g0 (N+4) (N+2) (N+3) .ellipsis fl:=z0
  have e0:Heap.SameBut (N+4) s.heap g0:=e0
  refine Zv ?_;simp only[List.zipIdx_cons,List.zipIdx_nil,aba,abV]
  have t0:TupAt g0 (N+3) #[a0,a1]:=(e0.2 _ (by first | omega | (show @Ne Nat _ _;omega))).trans hTO
  have m0:∀(b:Nat) o,b∉j6 N->s.heap.get? b=some o->g0.get? b=some o:=fun b o hb y=>(e0.2 b fun z=>hb (aL.mpr (by have z:@Eq Nat b _:=z;omega))).trans y
  have S6:mL k0 g0 N l0 i:=d0.at fun o y=>(e0.2 _ (by first | omega | (show @Ne Nat _ _;omega))).trans y
  have Ng:mL k1 g0 (N+1) l1 i:=d1.at fun o y=>(e0.2 _ (by first | omega | (show @Ne Nat _ _;omega))).trans y
  refine Zv (Zv (ac0 ?_));show wpAny _ _ (Builtin.SmallTypes.nextOf (.ref N) >>= _) _ _ _
  have A4:nH k0 g0 l0 v0:=QT.at fun o y=>m0 _ o (fun z=>by have:=aL.mp z;omega) y
  cases DK:v0[i]? with
  | none=>
    refine Zv (DG hn S6 A4 DK fun u1 e r1 he=>?_)
    have r1:Heap.ExtBut N g0 u1:=r1
    obtain⟨oe,Gn,hce⟩:=he
    have y1:iU u1 (N+4) (N+2) (N+3) .ellipsis fl:=r1 _ _ (by first | omega | (show @Ne Nat _ _;omega)) z0
    have Vi:e≠(N+4):=fun x=>by subst x;rw[y1] at Gn;cases Gn;simp at hce
    refine aay y1 (by simp) fun u2 _ r2=>?_
    have r2:Heap.SameBut (N+4) u1 u2:=r2
    refine Zv (aaR (T:="StopIteration") (b:=true) ⟨oe,r2.extBut _ _ Vi Gn,hce⟩ aci (wpAny_pure (q _ fun b o hb y=>r2.extBut _ _ (fun z=>hb (aL.mpr (by have z:@Eq Nat b _:=z;omega))) (r1 _ _ (fun z=>hb (aL.mpr (by have z:@Eq Nat b _:=z;omega))) (m0 b o hb y)))))
  | some x0=>
    refine Zv (nextK S6 A4 DK fun g1 c0 e1=>wpAny_pure ?_)
    have e1:Heap.SameBut N g0 g1:=e1
    have t1:TupAt g1 (N+3) #[a0,a1]:=(e1.2 _ (by first | omega | (show @Ne Nat _ _;omega))).trans t0
    refine Zv (aaK t1 rfl ?_);refine Zv (Nc t1 (show 2<=sizeLine by decide) fun g2 t2 e2=>?_)
    have t2:TupAt g2 (N+3) #[x0,a1]:=t2
    have e2:Heap.SameBut (N+3) g1 g2:=e2
    have z1:iU g2 (N+4) (N+2) (N+3) .ellipsis fl:=(e2.2 _ (by first | omega | (show @Ne Nat _ _;omega))).trans ((e1.2 _ (by first | omega | (show @Ne Nat _ _;omega))).trans z0)
    have m2:∀(b:Nat) o,b∉j6 N->s.heap.get? b=some o->g2.get? b=some o:=fun b o hb y=>(e2.2 b fun z=>hb (aL.mpr (by have z:@Eq Nat b _:=z;omega))).trans ((e1.2 b fun z=>hb (aL.mpr (by have z:@Eq Nat b _:=z;omega))).trans (m0 b o hb y))
    refine Zv (acT (wpAny_pure ?_))
    have Ng:mL k1 g2 (N+1) l1 i:=Ng.at fun o y=>(e2.2 _ (by first | omega | (show @Ne Nat _ _;omega))).trans ((e1.2 _ (by first | omega | (show @Ne Nat _ _;omega))).trans y)
    refine Zv (Zv (ac0 ?_));show wpAny _ _ (Builtin.SmallTypes.nextOf (.ref (N+1)) >>= _) _ _ _
    have A5:nH k1 g2 l1 v1:=Nf.at fun o y=>m2 _ o (fun z=>by have:=aL.mp z;omega) y
    cases DL:v1[i]? with
    | none=>
      refine Zv (DG hn Ng A5 DL fun u1 e r1 he=>?_)
      have r1:Heap.ExtBut (N+1) g2 u1:=r1
      obtain⟨oe,Gn,hce⟩:=he
      have y1:iU u1 (N+4) (N+2) (N+3) .ellipsis fl:=r1 _ _ (by first | omega | (show @Ne Nat _ _;omega)) z1
      have Vi:e≠(N+4):=fun x=>by subst x;rw[y1] at Gn;cases Gn;simp at hce
      refine aay y1 (by simp) fun u2 _ r2=>?_
      have r2:Heap.SameBut (N+4) u1 u2:=r2
      refine Zv (aaR (T:="StopIteration") (b:=true) ⟨oe,r2.extBut _ _ Vi Gn,hce⟩ aci (wpAny_pure (q _ fun b o hb y=>r2.extBut _ _ (fun z=>hb (aL.mpr (by have z:@Eq Nat b _:=z;omega))) (r1 _ _ (fun z=>hb (aL.mpr (by have z:@Eq Nat b _:=z;omega))) (m2 b o hb y)))))
    | some x1=>
        exact absurd hend (by simp only[DK,DL];rintro(h | h) <;> cases h)
end
def A6:typeLookup (.type "zip") "__len__" =pure none:=by rw[ab8,aby];kernel_rfl
def zG:typeLookup (.type "zip") "__length_hint__" =pure none:=by rw[ab8,aby];kernel_rfl
def pF.keep {h h':Heap}(x:pF N k0 k1 l0 l1 i h) (g:∀b∈j6 N,∀o,h.get? b=some o->h'.get? b=some o):pF N k0 k1 l0 l1 i h':=by
 obtain⟨⟨f0,f1,hf,hz⟩,hTI,⟨w0,hw0,hTO⟩,d0,d1⟩:=x
 exact⟨⟨f0,f1,hf,g _ (by rw[aL];omega) _ hz⟩,g _ (by rw[aL];omega) _ hTI,⟨w0,hw0,g _ (by rw[aL];omega) _ hTO⟩,d0.at fun o q=>g _ (by rw[aL];omega) o q,d1.at fun o q=>g _ (by rw[aL];omega) o q⟩
def pF.typeIs {s:Shared}(x:pF N k0 k1 l0 l1 i s.heap):s.TypeIs (.ref (N+4)) "zip":=by
 obtain⟨⟨f0,f1,hf,hz⟩,_⟩:=x
 exact⟨_,hz,rfl⟩
def pF.lt {N:Nat}{k0 k1:Bool}{l0 l1 i:Nat}{h:Heap}(x:pF N k0 k1 l0 l1 i h):@LT.lt Nat _ (N+4) h.objs.size:=by
 obtain⟨⟨f0,f1,hf,hz⟩,_⟩:=x
 exact ZP hz
def ZW (K:AAA) (k0 k1:Bool) (l0 l1:Addr) (sM sN:List V) (S:Addr) (W:Nat->List V->Hp->Prop):Prop:=∀i ys H,W i ys H->EF K H k0 l0 sM/\EF K H k1 l1 sN/\H S=some (.lst ys)/\ys.length=i/\
 ∀x0 x1 p,sM[i]? =some x0->sN[i]? =some x1->H p=none->W (i+1) (ys++[.ref p]) (upd (upd H p (.tup [x0,x1])) S (.lst (ys++[.ref p])))
def Vals.snoc {xs:List V}{us:AAI}{x:V}{u:Value}(r:Vals xs us) (q:RelV x u):Vals (xs++[x]) (us++[u]):=r.append (.cons q .nil)
section
variable {X:Cx}{pins:AAD}{σ:St}{A:Around}{R:Result->Shared->Prop}{N:Nat}{k0 k1:Bool}{l0 l1:Nat}{sM sN:List V}{S:Addr}{W:Nat->List V->Hp->Prop}{res:Value}
def JP (hh : A.handled = none) (Iw : l0 < N) (Iz : l1 < N) (zw : ZW X.K k0 k1 l0 l1 sM sN S W)
    (hR:∀ys H s',Inv X pins σ H s'->W (min sM.length sN.length) ys H->R (.ok (.ret res)) s'):
    ∀(k i:Nat) (s:Shared) (H:Hp) (ys:List V),min sM.length sN.length - i=k->i<=min sM.length sN.length->Inv X pins σ H s->(∀b∈j6 N,kI X pins H b)->pF N k0 k1 l0 l1 i s.heap->W i ys H->
    codeAny (model X.prog X.w) A (.builtin "list.extend.loop" ⟨[.ref S,.ref (N+4),res],[]⟩) R s:=by
  intro k
  induction k with
  | zero=>
    intro i s H ys hk hi I hf st hw
    have hin:i=min sM.length sN.length:=by omega
    subst hin
    obtain⟨h0,h1,hS,hl,_⟩:=zw _ _ _ hw
    obtain⟨QU,S7,p0,hz0⟩:=I.Jx h0
    obtain⟨QV,S8,p1,hz1⟩:=I.Jx h1
    have e0:=S7.length
    have e1:=S8.length
    refine aaW F.entry_extend_loop ?_
    rw[aaE ab6 _]
    show wpAny _ A.in1 (pyNext (.ref (N+4)) >>= _) _ _ s
    refine Zv (JO hh st p0 Iw p1 Iz ?_ fun h' hk'=>wpAny_pure (hR ys H _ (I.xG (t':=s.toks) hk' hf) hw))
    simp only[List.getElem?_toArray,List.getElem?_eq_none_iff]
    omega
  | succ k ih=>
    intro i s H ys hk hi I hf st hw
    have hlt:i < min sM.length sN.length:=by omega
    obtain⟨h0,h1,hS,hl,hstep⟩:=zw _ _ _ hw
    obtain⟨QU,S7,p0,hz0⟩:=I.Jx h0
    obtain⟨QV,S8,p1,hz1⟩:=I.Jx h1
    obtain⟨x0,DK⟩:∃x,sM[i]? =some x:=⟨sM[i]'(by omega),Zz _⟩
    obtain⟨x1,DL⟩:∃x,sN[i]? =some x:=⟨sN[i]'(by omega),Zz _⟩
    obtain⟨u0,Ys,Yt⟩:=S7.get DK
    obtain⟨u1,hu1,Yu⟩:=S8.get DL
    have slt:∀b∈j6 N,b < s.heap.objs.size:=fun b hb=>by have h1:=aL.mp hb;have h2:=st.lt;show @LT.lt Nat _ b s.heap.objs.size;omega
    refine aaW F.entry_extend_loop ?_
    rw[aaE ab6 _]
    show wpAny _ A.in1 (pyNext (.ref (N+4)) >>= _) _ _ s
    refine Zv (Gm st p0 (by simpa using Ys) Iw p1 (by simpa using hu1) Iz fun h' st' hT hk'=>?_)
    have I2:Inv X pins σ (upd H s.heap.objs.size (.tup [x0,x1])) {s with heap:=h',toks:=s.toks}:=
      I.handed (its:=[u0,u1]) hf slt hk' hT (.cons Yt (.cons Yu .nil)) (show 2<=sizeLine by decide)
    have xM:upd H s.heap.objs.size (.tup [x0,x1]) S=some (.lst ys):=by rw[az (aT hS I.fresh)];exact hS
    obtain⟨Yv,its,n,W8,hoS⟩:=(show c7 X.prog X.w _ _ S (.lst ys) from I2.hok S _ xM)
    show wpAny _ A.in1 (updateSeq S (·.push (.ref s.heap.objs.size)) >>= _) _ _ _
    have hS':h'.get? S=some {cls:=.type "list",data:=.seq its.toArray n}:=hoS
    have Yw:=W8.length
    have hyl:its.length<=sizeLine:=by rw[<-Yw];exact Yv
    refine Zv (abx hS' rfl (wpAny_pure ⟨abn ab6 _,?_⟩) (by simpa using hyl) (by show(its.toArray.push _).size<=sizeLine+1;rw[Array.size_push,ZL];omega))
    have W9:=aao (Obj.mapSeq fun x=>x.push (.ref s.heap.objs.size)) hS' rfl
    have IA:∀b o,b≠S->h'.get? b=some o->(h'.update S (Obj.mapSeq fun x=>x.push (.ref s.heap.objs.size))).get? b=some o:=fun b o hb e=>(aat _ _ (aaN hb)).trans e
    have Xa:S∉j6 N:=fun z=>by have:=(hf S z).1;rw[hS] at this;cases this
    have hl2:ys.length+1<=sizeLine:=by rw[hl];omega
    have I3:=I2.write (o:=.lst (ys++[.ref s.heap.objs.size])) (t':=s.toks) (h':=h'.update S (Obj.mapSeq fun x=>x.push (.ref s.heap.objs.size))) (x:=S) (e:=S) (by rw[xM];exact True.intro) (.inl rfl) IA ⟨_,W9⟩
      (show c7 X.prog X.w _ _ S (.lst _) from⟨by rw[ZZ];exact hl2,its++[.ref s.heap.objs.size],_,W8.snoc (show RelV (.ref s.heap.objs.size) (.ref s.heap.objs.size) from rfl),by
        have e:(its++[Value.ref s.heap.objs.size]).toArray=its.toArray.push (.ref s.heap.objs.size):=by simp
        rw[e];exact W9⟩)
    refine ih (i+1) _ _ _ (by omega) hlt I3 (fun b hb=>?_) (st'.keep fun b hb o q=>IA b o (fun z=>Xa (z▸hb)) q) (hstep x0 x1 _ DK DL I.fresh)
    obtain⟨f0,f1,f2,f3,f4,f5⟩:=hf b hb
    have LF:b≠S:=fun z=>Xa (z▸hb)
    exact⟨by rw[az LF,az (ZY (slt b hb))];exact f0,f1,f2,f3,f4,f5⟩
def Gp {s:Shared}{ys:List V}(I:Inv X pins σ H s) (hS:H S=some (.lst ys)):ys.length<=sizeLine/\∃(its:AAI) (n:Nat),Vals ys its/\s.heap.get? S=some {cls:=.type "list",data:=.seq its.toArray n}:=
 (show c7 X.prog X.w _ _ S (.lst ys) from I.hok S _ hS)
def LG {s:Shared}{h':Heap}{n:Nat}(I:Inv X pins σ H s) (hS:H S=some (.lst [])) (IA:∀b o,b≠S->s.heap.get? b=some o->h'.get? b=some o) (hn:h'.get? S=some {cls:=.type "list",data:=.seq #[] n}):Inv X pins σ H {s with heap:=h'}:=by
 have e:upd H S (.lst [])=H:=by
  funext b
  by_cases hb:b=S
  ·subst hb;rw[aD,hS]
  ·rw[az hb]
 have I2:=I.write (o:=.lst []) (t':=s.toks) (h':=h') (x:=S) (e:=S) (by rw[hS];exact True.intro) (.inl rfl) IA ⟨_,hn⟩ (show c7 X.prog X.w _ _ S (.lst []) from⟨Z3 _,[],n,.nil,hn⟩)
 rw[e] at I2
 exact I2
def DM {s:Shared}(hh:A.handled=none) (Iw:l0 < N) (Iz:l1 < N) (LH:S∉j6 N) (zw:ZW X.K k0 k1 l0 l1 sM sN S W)
  (hR:∀ys H s',Inv X pins σ H s'->W (min sM.length sN.length) ys H->R (.ok (.ret res)) s') (I:Inv X pins σ H s) (hf:∀b∈j6 N,kI X pins H b) (st:pF N k0 k1 l0 l1 0 s.heap) (hw:W 0 [] H):
  wpAny (model X.prog X.w) A.in1 (Builtin.List.listExtendWith (.ref S) (.ref (N+4)) res)
   (fun fin s'=>match fin with | .done f=>R (.ok f) s' | .again c'=>c'.quiet=true/\codeAny (model X.prog X.w) A c' R s') (fun e s'=>R (.error e) s') s:=by
 obtain⟨_,_,xE,_,_⟩:=zw _ _ _ hw
 obtain⟨_,its,n,rv,hS⟩:=Gp I xE
 cases rv
 have hSI:S≠(N+4):=fun e=>LH (e▸aL.mpr (by omega))
 unfold Builtin.List.listExtendWith
 refine Zv (acL st.typeIs ?_)
 have h1:Builtin.List.listSameRef (.ref S) (.ref (N+4))=false:=by simp[Builtin.List.listSameRef,hSI]
 have h2:(Value.type "zip" == Value.type "list")=false:=by decide
 have h3:(Value.type "zip" == Value.type "tuple")=false:=by decide
 simp only[h1,h2,h3,adA,aa6,abW]
 obtain⟨⟨f0,f1,Zj,hz⟩,_⟩:=id st
 refine Zv (ac4 st.typeIs F.slot_zip_iter (aaF F.slot_zip_iter st.typeIs F.entry_zip_iter (show wpAny _ _ (ret (.ref (N+4))) _ _ s from wpAny_pure ⟨_,rfl,"zip",_,st.typeIs,ab9.lookup,?_⟩) (F.args_zip_iter_1 _)))
 refine Zv (aan ?_)
 unfold Builtin.List.listLengthHint
 refine Zv (ab7 st.typeIs A6 ?_)
 show wpAny _ A.in1 (specialOf (Value.ref (N+4)) (Str.ofString "__length_hint__") >>= _) _ _ _
 refine Zv (ab7 st.typeIs zG ?_)
 refine wpAny_pure ?_
 show wpAny _ A.in1 (rule "list.extend.makes-room" >>= fun _=>Builtin.List.listTouch (.ref S) >>= fun _=>
  again (.builtin "list.extend.loop" ⟨[.ref S,.ref (N+4),res],[]⟩)) _ _ _
 refine Zv (abi ?_)
 refine Zv ?_
 show wpAny _ A.in1 (updateSeq S (·.push .none) >>= fun _=>updateSeq S (·.pop)) _ _ _
 refine Zv (abx hS rfl ?_)
 have uy:=aao (Obj.mapSeq (·.push Value.none)) hS rfl
 refine abx (hz:=by seq_fits) uy rfl ?_
 have Gq:=aao (Obj.mapSeq (·.pop)) uy rfl
 have IA:∀b o,b≠S->s.heap.get? b=some o->((s.heap.update S (Obj.mapSeq (·.push Value.none))).update S (Obj.mapSeq (·.pop))).get? b=some o:=
  fun b o hb e=>(aat _ _ (aaN hb)).trans ((aat _ _ (aaN hb)).trans e)
 have I9:=LG I xE IA Gq
 exact wpAny_pure ⟨abn ab6 _,JP hh Iw Iz zw hR _ 0 _ H [] rfl (Z3 _) I9 hf (st.keep fun b hb o e=>IA b o (fun z=>LH (z▸hb)) e) hw⟩
def JQ {s:Shared}(hh:A.handled=none) (Iw:l0 < N) (Iz:l1 < N) (LH:S∉j6 N) (zw:ZW X.K k0 k1 l0 l1 sM sN S W)
  (hR:∀ys H s',Inv X pins σ H s'->W (min sM.length sN.length) ys H->R (.ok (.ret .none)) s') (I:Inv X pins σ H s) (hf:∀b∈j6 N,kI X pins H b) (st:pF N k0 k1 l0 l1 0 s.heap) (hw:W 0 [] H):
  wpAny (model X.prog X.w) A.in1 (Builtin.«list.__init__» ⟨[.ref S,.ref (N+4)],[]⟩)
   (fun fin s'=>match fin with | .done f=>R (.ok f) s' | .again c'=>c'.quiet=true/\codeAny (model X.prog X.w) A c' R s') (fun e s'=>R (.error e) s') s:=by
 obtain⟨_,_,xE,_,_⟩:=zw _ _ _ hw
 obtain⟨_,its,n,rv,hS⟩:=Gp I xE
 cases rv
 show wpAny _ A.in1 (do let old <-Builtin.List.listItems (.ref S);Builtin.List.listUpdate (.ref S) (fun _=>#[]);letGo old.toList.reverse;Builtin.List.listExtendWith (.ref S) (.ref (N+4)) .none) _ _ s
 refine Zv ?_
 unfold Builtin.List.listItems
 refine Zv (aaK hS rfl (wpAny_pure ?_))
 show wpAny _ A.in1 (updateSeq S (fun _=>#[]) >>= fun _=>letGo (#[]:AAH).toList.reverse >>= fun _=>Builtin.List.listExtendWith (.ref S) (.ref (N+4)) .none) _ _ s
 refine Zv (abx hS rfl ?_)
 have uy:=aao (Obj.mapSeq (fun _=>(#[]:AAH))) hS rfl
 have IA:∀b o,b≠S->s.heap.get? b=some o->(s.heap.update S (Obj.mapSeq (fun _=>(#[]:AAH)))).get? b=some o:=
  fun b o hb e=>(aat _ _ (aaN hb)).trans e
 refine Zv (acT ?_)
 exact DM hh Iw Iz LH zw hR (LG I xE IA uy) hf (st.keep fun b hb o e=>IA b o (fun z=>LH (z▸hb)) e) hw
end
section
variable {X:Cx}{pins:AAD}{σ:St}{A:Around}{E:AAB}{N:Nat}{k0 k1:Bool}{l0 l1:Nat}{sM sN:List V}
def zH {s:Shared}{Q:AAB}(hh:A.handled=none) (Iw:l0 < N) (Iz:l1 < N) (I:Inv X pins σ H s) (hf:∀b∈j6 N,kI X pins H b) (st:pF N k0 k1 l0 l1 0 s.heap)
  (h:∀S,H S=none->∃W,ZW X.K k0 k1 l0 l1 sM sN S W/\W 0 [] (upd H S (.lst []))/\∀ys H' s',Inv X pins σ H' s'->W (min sM.length sN.length) ys H'->Q (.ref S) s'):wpAny (model X.prog X.w) A (call (.type "list") [.ref (N+4)]) Q E s:=by
 refine callType_codes (Q₁:=fun obj s₁=>obj= .ref s.heap.objs.size/\s₁={s with heap:=s.heap.push {cls:=.type "list",data:=.seq #[]}}) F.called_list (F.typeCall_list_1 _) F.entry_list_init
  (code_list_new _ ⟨rfl,rfl⟩) fun obj s₁ h₁=>?_
 obtain⟨rfl,rfl⟩:=h₁
 have hS:(s.heap.push {cls:=.type "list",data:=.seq #[]}).get? s.heap.objs.size=some {cls:=.type "list",data:=.seq #[]}:=ZT _ rfl
 have hn:H s.heap.objs.size=none:=I.hok.fresh (ZM _)
 obtain⟨W,zw,w0,q⟩:=h _ hn
 have I1:=I.laid (a:=s.heap.objs.size) (o:=.lst []) (t':=s.toks) (h':=s.heap.push {cls:=.type "list",data:=.seq #[]}) (fun _ _ z=>Zx _ z) (ZM _) (show c7 X.prog X.w _ _ _ (.lst []) from⟨Z3 _,[],0,.nil,hS⟩)
 have LH:s.heap.objs.size∉j6 N:=fun z=>by have h1:=aL.mp z;have h2:=st.lt;omega
 refine⟨⟨_,hS,rfl⟩,F.args_list_init_2 _ _,JQ (A:=A.in1) hh Iw Iz LH zw (fun ys H' s' I' w'=>⟨rfl,q ys H' s' I' w'⟩) I1 (fun b hb=>?_) (st.keep fun b hb o e=>Zx _ e) w0⟩
 obtain⟨f0,f1,f2,f3,f4,f5⟩:=hf b hb
 have LF:b≠s.heap.objs.size:=fun z=>LH (z▸hb)
 exact⟨by rw[az LF];exact f0,f1,f2,f3,f4,f5⟩
end
noncomputable def uz (a b:List D):List D:=List.zipWith (fun a b=>.tup [a,b]) a b
noncomputable def wB:List D->Option U
 | [d,e]=>(xH d).bind fun q=>(xH e).map fun r=>.m (.lst (uz q.2 r.2))
 | _=>none
def Gr {ds:List D}{u:U}(h:wB ds=some u):∃d e k0 Dv k1 EG,ds=[d,e]/\xH d=some (k0,Dv)/\xH e=some (k1,EG)/\u= .m (.lst (uz Dv EG)):=by
 unfold wB at h
 split at h
 ·obtain⟨⟨k0,Dv⟩,h1,h⟩:=ah h
  obtain⟨⟨k1,EG⟩,h2,rfl⟩:=aq h
  exact⟨_,_,k0,Dv,k1,EG,rfl,h1,h2,rfl⟩
 ·cases h
def take_snoc {α:Type}{l:List α}{x:α}(h:l[i]? =some x):l.take (i+1)=l.take i++[x]:=by
 rw[List.take_succ,h];rfl
section
variable {X:Cx}{a b:Expr}{p p2 pos pos2:Pos}{t:TA}{ga gb:GD}{gA:GA}
def Vj {F0 H1:Hp}{S:Addr}{a0 a1:Addr}{sM sN:List V}{Dv EG:List D}(hS:H1 S=none) (r0:aX F0 sM Dv) (r1:aX F0 sN EG)
  (s0:∀F' H',(∀b o,F0 b=some o->F' b=some o)->Sub F' H'->EF K H' k0 a0 sM) (s1:∀F' H',(∀b o,F0 b=some o->F' b=some o)->Sub F' H'->EF K H' k1 a1 sN):
  ZW K k0 k1 a0 a1 sM sN S fun i ys H=>∃F,gf F0 H1 F H/\Sub F H/\F S=none/\H S=some (.lst ys)/\ys.length=i/\aX F ys ((uz Dv EG).take i):=by
 rintro i ys H ⟨F,n,sb,fS,S9,hl,rs⟩
 refine⟨s0 F H n.le sb,s1 F H n.le sb,S9,hl,fun x0 x1 q h0 h1 hq=>?_⟩
 have Xb:q≠S:=fun z=>by rw[z,S9] at hq;cases hq
 have fq:F q=none:=sb.fresh hq
 have le:∀b o,F b=some o->upd F q (.tup [x0,x1]) b=some o:=ni fq
 obtain⟨d0,e0,Yx⟩:∃d,Dv[i]? =some d/\Rep F0 x0 d:=by
  have Vk:=r0.length
  have:i < Dv.length:=by rw[<-Vk];exact(Zy.mp h0).1
  obtain⟨v,e1,e2⟩:=r0.get (i:=i) (d:=Dv[i]) (Zz this)
  rw[h0] at e1;cases e1
  exact⟨_,Zz this,e2⟩
 obtain⟨d1,e1,Yy⟩:∃d,EG[i]? =some d/\Rep F0 x1 d:=by
  have Vk:=r1.length
  have:i < EG.length:=by rw[<-Vk];exact(Zy.mp h1).1
  obtain⟨v,e1,e2⟩:=r1.get (i:=i) (d:=EG[i]) (Zz this)
  rw[h1] at e1;cases e1
  exact⟨_,Zz this,e2⟩
 have ez:(uz Dv EG)[i]? =some (.tup [d0,d1]):=by
  unfold uz
  rw[List.getElem?_zipWith,e0,e1]
 refine⟨upd F q (.tup [x0,x1]),⟨fun c o z=>le c o (n.le c o z),fun c o z=>?_,fun c o z f=>?_⟩,fun c o z=>?_,?_,aD,by simp[hl],?_⟩
 ·have h1:c≠S:=aT z hS
  have h2:c≠q:=aT (n.same c o z) hq
  rw[az h1,az h2]
  exact n.same c o z
 ·have h2:c≠q:=aT (n.same c o z) hq
  rw[az h2]
  exact n.iw c o z f
 ·by_cases h2:c=q
  ·subst h2
   rw[aD] at z
   rw[az Xb,aD]
   exact z
  ·rw[az h2] at z
   have h1:c≠S:=fun w=>by rw[w,fS] at z;cases z
   rw[az h1,az h2]
   exact sb c o z
 ·rw[az (aaN Xb)];exact fS
 ·rw[take_snoc ez]
  exact(rs.le le).append (.cons (.tup aD (.cons (Yx.le fun c o z=>le c o (n.le c o z)) (.cons (Yy.le fun c o z=>le c o (n.le c o z)) .nil))) .nil)
def A7 (hc : X.calm = true) (hg : Gl X "list") (hm : X.mg "list" = none) (LI : Gl X "zip") (hm2 : X.mg "zip" = none) (ha : PA X [a, b] t) (hs : starEach [a, b] X.env = [(false, eval a X.env), (false, eval b X.env)] := by rfl) (hs2 : starEach [b] X.env = [(false, eval b X.env)] := by rfl)
    (OY:starEach [.Call (.Name "zip" p2) [a,b] [] pos2] X.env=[(false,eval (.Call (.Name "zip" p2) [a,b] [] pos2) X.env)]:=by rfl):
    PE X (.Call (.Name "list" p) [.Call (.Name "zip" p2) [a,b] [] pos2] [] pos) (fun σ H Q=>t σ H fun vs H1=>rP wB vs H1 Q):=by
  intro pins s σ H Q I h
  refine aaL (jS I hg hm PyProof.Rows.Boot.list ?_)
  refine aak ?_ (by rw[OY];rfl) rfl
  rw[OY]
  refine aa7 (Call_ (jS I LI hm2 boot_zip (aak (dN (ha pos2 pins s σ H _ I h) fun us s1 ⟨vs,H1,I1,r1,q1⟩=>?_) (by rw[hs,hs2]) (by rw[hs2];rfl))))
  obtain⟨F0,ds,w,sb,rs,hw,q⟩:=q1
  obtain⟨d,e,k0,Dv,k1,EG,rfl,e0,e1,rfl⟩:=Gr hw
  cases rs with
  | cons ra rs=>
    cases rs with
    | cons rb rs=>
      cases rs
      obtain⟨a0,sM,rfl,y0,z0⟩:=sb.Gh (K:=X.K) ra e0
      obtain⟨a1,sN,rfl,y1,z1⟩:=sb.Gh (K:=X.K) rb e1
      obtain⟨u0,u1,rfl,v0,v1⟩:=r1.two
      cases v0
      cases v1
      obtain⟨QU,S7,p0,hz0⟩:=I1.Jx (z0 F0 H1 (fun _ _ z=>z) sb)
      obtain⟨QV,S8,p1,hz1⟩:=I1.Jx (z1 F0 H1 (fun _ _ z=>z) sb)
      refine Gg p0 p1 fun h' st hk=>abQ ?_
      have I2:=I1.kept (t':=s1.toks) hk
      refine zH (X:=X) (sM:=sM) (sN:=sN) (I1.ok.hd hc) p0.lt p1.lt I2 (fun b hb=>?_) st.l fun S hS=>⟨_,Vj hS y0 y1 z0 z1,⟨F0,gf.obj hS _,sb.same (gf.obj (F:=F0) hS _).same,sb.fresh hS,aD,rfl,.nil⟩,fun ys H' s' I' w'=>?_⟩
      . have hb:s1.heap.objs.size<=b:=(aL.mp hb).1
        exact I1.wY hb (I1.hok.fresh hb)
      . obtain⟨F,n,sb',fS,S9,hl,rs⟩:=w'
        refine⟨.ref S,H',I',rfl,q _ F H' n sb' ⟨S,rfl,hS,fS,ys,S9,?_⟩⟩
        rw[List.take_of_length_le (by unfold uz;rw[List.length_zipWith,<-y0.length,<-y1.length];exact ZM _)] at rs
        exact rs
def A8 (hc:X.calm=true) (hg:Gl X "list") (hm:X.mg "list" =none) (LI:Gl X "zip") (hm2:X.mg "zip" =none) (ha:JA X [a,b] gA) (hs:starEach [a,b] X.env=[(false,eval a X.env),(false,eval b X.env)]:=by rfl) (hs2:starEach [b] X.env=[(false,eval b X.env)]:=by rfl)
  (OY:starEach [.Call (.Name "zip" p2) [a,b] [] pos2] X.env=[(false,eval (.Call (.Name "zip" p2) [a,b] [] pos2) X.env)]:=by rfl):
  JE X (.Call (.Name "list" p) [.Call (.Name "zip" p2) [a,b] [] pos2] [] pos) (eP wB gA):=
 ⟨fun B=>(A7 hc hg hm LI hm2 (ha.h B) hs hs2 OY).imp fun σ H Q h=>jV (fun _ _ _ z=>z) h⟩
end
def uA  {B : Base}     {σ : St}  {Q : VK} (h : tE K B (iT cap gi q g) σ H Q) : Gj K (QK K B gi) cap (fun σ H Q => ∃ B, tQ K B q σ H Q) (fun σ H Q => ∃ B, tD K B g σ H Q) σ H Q := by
  obtain⟨x,_⟩:∃x:Str,True:=⟨"",trivial⟩
  obtain⟨S,F,u,S',R,hg,k⟩:=h
  obtain⟨⟨ds,S1⟩,h1,hg⟩:=ah hg
  dsimp only at hg
  split at hg
  . rename_i hlen
    obtain⟨⟨res,Sf⟩,h2,hg⟩:=aq hg
    cases hg
    refine⟨S,F,ds,S1,R,h1,fun J F1 H1 R1 st1 w=>?_⟩
    refine⟨fun i m ys H'=>∃S2 F2 acc,Rel K B S2 σ F2 H'/\Step S S2 σ F H F2 H'/\(∀b o,F1 b=some o->F2 b=some o)/\aX F2 ys acc/\acc.length<=i/\i<=ds.length/\m=ds.length - i/\cI cap q g (ds.drop i) S2 acc=some (res,Sf),
      ⟨_,S1,F1,[],R1,st1,fun _ _ z=>z,.nil,ZM _,Z3 _,rfl,h2⟩,?_⟩
    rintro i m ys H' ⟨S2,F2,acc,R2,st2,le,ry,ha,hl,rfl,cC⟩
    refine⟨by rw[ry.length];exact aa8 (Z5 ha (Z5 hl hlen)) (by decide),?_⟩
    have w':=w F2 H' le R2.sub i
    by_cases hlt:i < ds.length
    . have hd:ds[i]? =some ds[i]:=Zz hlt
      obtain⟨go,yl⟩:=w'.1 _ hd
      rw[aai hlt] at cC
      refine .inr ⟨go,fun xv H3 y=>?_⟩
      obtain⟨FN,n3,Yz,rx⟩:=yl xv H3 y
      obtain⟨da,db,Vb⟩:∃da db,ds[i]= .tup [da,db]:=by
        generalize ds[i]=dd at cC
        unfold cI at cC
        split at cC
        . rename_i z;cases z
        . rename_i z;injection z with z1 z2;exact⟨_,_,z1⟩
        . cases cC
      have R2:Rel K B S2 σ FN H3:=R2.new n3 Yz
      have st2:Step S S2 σ F H FN H3:=st2.trans n3.step
      have le:∀b o,F1 b=some o->FN b=some o:=fun b o z=>n3.le b o (le b o z)
      have ry:=ry.le n3.le
      rw[Vb] at cC rx
      obtain⟨pa,Yq,Vc,Yr,hpa,Dt⟩:=R2.sub.iO rx
      obtain⟨x1,x2,exs,Ve,Vf⟩:=zE Dt
      subst exs Vc
      obtain⟨us,e1,cC⟩:=ah (show(aY S2 cap).bind _=_ from cC)
      split at cC
      . rename_i hnd
        obtain⟨ws,e2,cC⟩:=ah cC
        obtain⟨⟨bk,T1⟩,e3,cC⟩:=ah cC
        obtain⟨vs,k1,k2⟩:=xD R2 e1
        have rr:Paired (fun v u=>jJ K B S2 σ H3 FN H3 v u) (x1 :: x2 :: vs) (.t da :: .t db :: us):=.cons Ve (.cons Vf k2)
        have er:=nu R2 da (nu R2 db e2)
        have ar:=p9 R2 rr er
        have nd:=dz R2 rr er hnd.1 hnd.2
        have R3:=n6 (n:=ws.length+2) R2.sub ar nd (List.replicate (ws.length+2) x) (by simp)
        have hvl:vs.length=ws.length:=by have:=ar.length;simpa using this
        have es:start (List.replicate (ws.length+2) x) (x1 :: x2 :: vs)=some x1 :: some x2 :: bQ cap σ:=by
          unfold start;rw[k1];simp[hvl]
        have eS:(U.t da :: U.t db :: ws).map some++List.replicate (ws.length+2 - (U.t da :: U.t db :: ws).length) none=some (U.t da) :: some (U.t db) :: ws.map some:=by simp
        rw[es,eS] at R3
        have back:∀(T2:SS) (F3 H4:Hp) (outs:List MO) (S3:SS),Rel K ⟨lent (x1 :: x2 :: vs) (U.t da :: U.t db :: ws),FN,H3⟩ T2 (some x1 :: some x2 :: bQ cap σ) F3 H4->aB (U.t da :: U.t db :: ws) T2=some outs->wb us outs S2=some S3->Rel K B S3 σ F3 H4/\Step S S3 σ F H F3 H4/\(∀b o,FN b=some o->F3 b=some o):=fun T2 F3 H4 outs S3 RT ho hw=>by
          have po:=post_of ar T2 _ F3 H4 outs RT ho
          obtain⟨Ra,we,_⟩:=lY (S0:=S2) (F0:=FN) (H0:=H3) R2 (Step.refl ..) rr er (show wb (U.t da :: U.t db :: us) outs S2=some S3 by cases outs <;> exact hw) hnd.1 po
          exact⟨Ra,st2.trans we,we.ext.le⟩
        refine⟨pa,x1,x2,rfl,.inl hpa,_,_,FN,bk,T1,R3,e3,fun F3 H4 LB Qz=>?_⟩
        cases bk with
        | true=>
          obtain⟨⟨yd,T2⟩,e4,cC⟩:=ah (show(g T1).bind _=_ from cC)
          obtain⟨outs,e5,cC⟩:=ah cC
          obtain⟨S3,e6,cC⟩:=ah cC
          refine yY ⟨_,T1,F3,yd,T2,LB,e4,fun yv F4 H5 QA QB QC=>?_⟩
          obtain⟨Ra,we,zo⟩:=back T2 F4 H5 outs S3 QA e5 e6
          refine⟨ds.length - (i+1),by omega,S3,F4,acc++[yd],Ra,we,fun b o z=>zo b o (le b o z),(ry.le zo).append (.cons QC .nil),by simp;omega,hlt,rfl,cC⟩
        | false=>
          obtain⟨outs,e5,cC⟩:=ah (show(aB (U.t da :: U.t db :: ws) T1).bind _=_ from cC)
          obtain⟨S3,e6,cC⟩:=ah cC
          obtain⟨Ra,we,zo⟩:=back T1 F3 H4 outs S3 LB e5 e6
          exact yX ⟨ds.length - (i+1),by omega,S3,F3,acc,Ra,we,fun b o z=>zo b o (le b o z),ry.le zo,by omega,hlt,rfl,cC⟩
      . cases cC
    . have e:i=ds.length:=by omega
      subst e
      rw[abG] at cC
      cases cC
      refine .inl ⟨w'.2 (ZM _),fun p hp=>?_⟩
      have n:=gf.obj (F:=F2) hp (.lst ys)
      refine k (.ref p) F2 _ (R2.new n (R2.sub.same n.same)) (st2.trans n.step) ⟨p,rfl,none_of st2.ext.there hp,R2.sub.fresh hp,⟨ys,aD,ry⟩,fun m=>?_,none_of R2.ext.there hp⟩
      obtain⟨o,ho⟩:=R2.has m
      rw[hp] at ho
      cases ho
  . cases hg
def DN {k0:Nat}(T:j7 X x y0 aZ cap scope cl) (hc:X.calm=true) (hi:QL X (.Tuple [.Name x px,.Name y0 py] k0 pt) iter gi)
  (ht:∀C s H fp,LA (bT X (x :: y0 :: aZ) scope cl C s H fp) ifs q) (he:∀C s H fp,JD (bT X (x :: y0 :: aZ) scope cl C s H fp) elt g)
  (hs:∀x,foldedSetIterable iter X.env x=pure x:=by intro _;rfl):JE X (.ListComp elt [⟨.Tuple [.Name x px,.Name y0 py] k0 pt,iter,ifs,0⟩] scope pos) (iT cap gi q g):=⟨fun B=>
 (wz (tc:=fun σ H Q=>∃B,tQ X.K B q σ H Q) (te:=fun σ H Q=>∃B,tD X.K B g σ H Q) T hc (hi.h B) (fun C s H fp pins s' σ H' Q I ⟨B',z⟩=>(ht C s H fp).h B' pins s' σ H' Q I z) (fun C s H fp pins s' σ H' Q I ⟨B',z⟩=>(he C s H fp).h B' pins s' σ H' Q I z) hs).imp fun σ H Q h=>uA h⟩
section
variable {X:Cx}{tg a b:Expr}{p pos:Pos}{ta:TA}{gA:GA}
variable {p2 pos2:Pos}
end
def DO {JR:Pos}{k0:Nat}{wi:TI}{tc:TT}{te:TE}{y:Str}
  (T:j7 X x y0 aZ cap scope cl) (hc:X.calm=true) (hi:PI X (.Tuple [.Name x px,.Name y0 JR] k0 pt) iter wi)
  (ht:∀C s H fp,Fl (bT X (x :: y0 :: aZ) scope cl C s H fp) ifs tc) (he:∀C s H fp,PE (bT X (x :: y0 :: aZ) scope cl C s H fp) elt te)
  (hs:∀x,foldedSetIterable iter X.env x=pure x) (hN:X.N.Nodup) (hy:X.N[i]? =some y) (hx:Loc X.env.scope y)
  (hsw:swapsWith (.ListComp elt [⟨.Tuple [.Name x px,.Name y0 JR] k0 pt,iter,ifs,0⟩] scope pos) (some (.Name y py)) spos.line X.env=pure true) (hf:X.fn y=true\/X.env.scope.names.lookup y=some .local):
  PS X (.Assign [.Name y py] (.ListComp elt [⟨.Tuple [.Name x px,.Name y0 JR] k0 pt,iter,ifs,0⟩] scope pos) spos) (EU (Gj X.K wi cap tc te) (pS i)):=by
 intro pins s σ H D I h
 rw[exec_Assign_Name_used _ _ _ _ hsw]
 refine Zv (acY (Zv ?_))
 show wpAny _ X.A (do let _ <-comprehension (.ListComp elt [⟨.Tuple [.Name x px,.Name y0 JR] k0 pt,iter,ifs,0⟩] scope pos) scope X.env _ (newList []) false (eval iter X.env) (some (assign (.Name y py) X.env))) _ _ s
 refine Zv (aas (su (Qf:=fun _ s'=>SP X pins D .next s') T hc hi ht he hs I h ?_) (fun _ s' hq=>wpAny_pure (wpAny_pure hq)) fun _ _ e=>e)
 rintro p C s7 H6 ys I9 ⟨m7,Dp⟩ ⟨g0,g1,g2,g3,g4,g5⟩ q
 refine ac3 (qK I9 hN hy hx (v:=.ref p) (show RelV (.ref p) (.ref p) from rfl) (fun s8 I8 ⟨a,hsb,ha⟩=>?_) hf)
 have hne:C≠a:=ha.elim (fun z=>by rw[z];exact g1) fun z=>aaN (g4 _ _ z)
 refine⟨m7,Dp.sameBut hsb hne,fun h' hs'=>?_⟩
 exact⟨_,_,I8.turned (t':=s8.toks) (fun b o hb e=>hs'.extBut b o hb e) g0 g1 g3 g4 g5,q⟩
def A9 {y:Str}{JR:Pos}{k0:Nat}(hN:X.N.Nodup) (hy:X.N[i]? =some y) (hx:Loc X.env.scope y) (T:j7 X x y0 aZ cap scope cl) (hc:X.calm=true) (hi:QL X (.Tuple [.Name x px,.Name y0 JR] k0 pt) iter gi)
  (ht:∀C s H fp,LA (bT X (x :: y0 :: aZ) scope cl C s H fp) ifs q) (he:∀C s H fp,JD (bT X (x :: y0 :: aZ) scope cl C s H fp) elt g)
  (hsw:swapsWith (.ListComp elt [⟨.Tuple [.Name x px,.Name y0 JR] k0 pt,iter,ifs,0⟩] scope pos) (some (.Name y py)) spos.line X.env=pure true:=by rfl) (hf:X.fn y=true\/X.env.scope.names.lookup y=some .local:=by first | exact .inl rfl | exact .inr rfl | assumption)
  (hs:∀x,foldedSetIterable iter X.env x=pure x:=by intro _;rfl):JS X (.Assign [.Name y py] (.ListComp elt [⟨.Tuple [.Name x px,.Name y0 JR] k0 pt,iter,ifs,0⟩] scope pos) spos) (aR i (iT cap gi q g)):=⟨fun B=>
 (DO (tc:=fun σ H Q=>∃B,tQ X.K B q σ H Q) (te:=fun σ H Q=>∃B,tD X.K B g σ H Q) T hc (hi.h B) (fun C s H fp pins s' σ H' Q I ⟨B',z⟩=>(ht C s H fp).h B' pins s' σ H' Q I z) (fun C s H fp pins s' σ H' Q I ⟨B',z⟩=>(he C s H fp).h B' pins s' σ H' Q I z) hs hN hy hx hsw hf).imp fun D σ H h=>uA (xy h)⟩
end L2
end
section
namespace L2
open PySem PySem.Spec PyProof.Rows
variable {a c:Addr}{Q:Value -> Shared -> Prop}{i k n j:Nat}{o:Obj}{xs:Array Nat}{name:Str}{x:Value}{S:SS}{es:Array (Int×Value)}{t':SetTable}{prog:Program}{ns ns':List Int}
section
variable {M:Model}{A:Around}{E:AAB}{s:Shared}{Q:AAB}
end
noncomputable def LJ (g g':GS):GS:=fun S=>(g S).or (g' S)
def LK {X:Cx}{st:List Stmt}{g g':GS}(h:JB X st g) (h':JB X st g'):JB X st (LJ g g'):=⟨fun B pins s σ H Q I ⟨S,F,o,R,hg,q⟩=>by
 unfold LJ at hg
 cases e:g S with
 | some o'=>
  rw[e] at hg
  exact h.h B pins s σ H Q I ⟨S,F,o,R,by rw[e];exact hg,q⟩
 | none=>
  rw[e] at hg
  exact h'.h B pins s σ H Q I ⟨S,F,o,R,hg,q⟩⟩
section
variable {prog:Program}{w:World}{K:Type} [DecidableEq K] {knd:HeapKind prog w K}{A:Around}{E:AAB}{s:Shared}
def zI {d:Addr} {xs : List (K × Addr × Value)} {k : K} {dflt : Value}  (hu : knd.room A) (hkey : knd.is s.heap k a) (hm : s.heap.DictOfH knd d xs)
    (h1:∀v,(atKey xs k).map (·.2)=some v->Q v {s with toks:=s.toks+knd.draws k})
    (h2:atKey xs k=none->∀h',h'.DictOfH knd d (storedH xs k a dflt)->Heap.SameBut d s.heap h'->Q dflt {s with heap:=h',toks:=s.toks+knd.draws k})
    (hsz:xs.length<=sizeLine):wpAny (model prog w) A (dictSetDefault d (.ref a) dflt) Q E s:=by
  obtain⟨o,es,ep,ho,hc,hd,he,his,hn⟩:=hm
  unfold dictSetDefault
  try with_reducible refine aan ?_
  refine Zv (knd.pyHash hu hkey ?_)
  refine Zv (wpAny_dictFind_heap (s:={s with toks:=s.toks+knd.draws k}) hu hkey ho hd he his hn ?_ ?_)
  . intro hno
    have hnot:k∉xs.map (·.1):=not_mem_keys_of_get hno
    refine Zv (abi (Zv (wpAny_updateDictKeys (hz:=by have e:=size_of_entries he;omega) (s:={s with toks:=s.toks+knd.draws k}) ho hd (wpAny_pure (h2 (acr hno) _ ⟨_,_,ep+1,aao _ ho (Obj.isFreed_of_dict (Obj.data_mapDictKeys hd _)),
      hc.mapDictKeys _,Obj.data_mapDictKeys hd _,?_,?_,?_⟩ (aaI ..))))))
    . rw[storedH_new (acr hno)]
      simp[he,entryOfKey]
    . rw[storedH_new (acr hno)]
      intro x hx
      rcases Z2.mp hx with hx | hx
      . exact knd.keeps (his x hx) ho hd (aaI ..)
      . simp only[ZG] at hx
        subst hx
        exact knd.keeps hkey ho hd (aaI ..)
    . rw[storedH_new (acr hno)]
      rw[aaa,abl]
      refine⟨hn,by simp,?_⟩
      intro x hx y hy
      simp only[aae,adb,ZG] at hy
      subst hy
      exact fun e=>hnot (e▸hx)
  . intro j p hj
    refine Zv (wpAny_dictEntries (s:={s with toks:=s.toks+knd.draws k}) ho hd ?_)
    rw[entry_at he j,hj]
    exact Zv (abi (wpAny_pure (h1 _ (by rw[atKey_of_get hn hj];rfl))))
def oU (knd:HeapKind prog w K) (d a:Addr) (hd:(d == sysModules)=false) (dflt:Value):
  MeetsIn prog w (Builtin.«dict.setdefault» ⟨[.ref d,.ref a,dflt],[]⟩) (fun A R s=>knd.room A.in1/\∃k xs,knd.is s.heap k a/\s.heap.DictOfH knd d xs/\xs.length<=sizeLine/\
   (∀v,(atKey xs k).map (·.2)=some v->R (.ok (.ret v)) {s with toks:=s.toks+knd.draws k})/\
   (atKey xs k=none->∀h',h'.DictOfH knd d (storedH xs k a dflt)->Heap.SameBut d s.heap h'->R (.ok (.ret dflt)) {s with heap:=h',toks:=s.toks+knd.draws k})):=
 .of_wp fun A R s ⟨hu,k,xs,hkey,hm,hz,h1,h2⟩=>by
  unfold Builtin.«dict.setdefault»
  refine Zv ?_
  unfold Builtin.Dict.keyAndDefault
  refine Zv (wpAny_notOrdered_dict hm.typeIs ?_)
  show wpAny _ _ (pure (d,Value.ref a,some dflt)) _ _ s
  refine wpAny_pure ?_
  show wpAny _ _ (if(d == sysModules)=true then _ else(dictSetDefault d (.ref a) dflt >>= _)) _ _ s
  rw[if_neg (by rw[hd];exact aaY)]
  exact Zv (zI hu hkey hm (fun v hv=>wpAny_pure ⟨v,rfl,h1 v hv⟩) (fun hn h' hm' hs'=>wpAny_pure ⟨dflt,rfl,h2 hn h' hm' hs'⟩) hz)
end
def QW (H:Hp) (a:Addr) (y v r:V) (H':Hp):Prop:=(iy H a y (some r)/\H'=H)\/(iy H a y none/\r=v/\uc H a y v H')
def Nh {y:V}{k k':Key}(a:IS y k) (b:IS y k'):k=k':=by
 rcases a with rfl | ⟨c,rfl,rfl⟩ <;> rcases b with e | ⟨c',e,rfl⟩
 ·exact MA e
 ·cases k <;> cases e
 ·cases k' <;> cases e
 ·cases e;rfl
section
variable {X:Cx}{pins:AAD}{σ:St}{H:Hp}{s:Shared}{a:Addr}{y v r:V}{u z:Value}{A:Around}{E:AAB}
def Gs {H' : Hp}  (hu : A.units + 20 < cLine) (I : Inv X pins σ H s) (g : QW H a y v r H') (ry : RelV y u) (rv : RelV v z) (h : ∀ w' s', Inv X pins σ H' s' -> RelV r w' -> Q w' s') :
    wpAny (model X.prog X.w) A (call (.builtin "dict.setdefault") [.ref a,u,z]) Q E s:=by
  rcases g with⟨g,rfl⟩ | ⟨g,rfl,p⟩
  . rcases g with⟨kvs,k,e,ey,l⟩ | ⟨kvs,k,b,e,ey,eb,l⟩
    . obtain⟨hz,hd,vs,rel,dd⟩:=rU I.hok e
      obtain⟨w',hw,rw'⟩:=mS.some_of (v:=r) (o:=valueAt vs k) (by rw[l];exact rel.val k)
      refine abT aa1 dd.typeIs abo (abj _ _ _) (kt_meets_setdefault (fQ X.prog X.w) a (ey.is ry) hd z) ⟨vs,dd,by rw[<-rel.length];exact hz,fun x hx=>?_,fun hn=>?_⟩
      . rw[hw] at hx
        cases hx
        exact h _ _ (I.tok _) rw'
      . rw[hw] at hn;cases hn
    . subst ey
      cases(show u=Value.ref b from ry)
      obtain⟨hz,hd,xs,rel,dd⟩:=tZ I.hok e
      obtain⟨w',hw,rw'⟩:=mS.some_of (v:=r) (o:=(atKey xs k).map (·.2)) (by rw[l];exact rel.val k)
      refine abT aa1 dd.typeIs abo (abj _ _ _) (oU (iA X.prog X.w) a b hd z) ⟨fE hu,k,xs,lP I.hok eb,dd,by rw[<-ab3 rel];exact hz,fun x hx=>?_,fun hn=>?_⟩
      . rw[hw] at hx
        cases hx
        exact h _ _ (I.tok _) rw'
      . rw[hn] at hw;cases hw
  . rcases p with⟨kvs,k,e,ey,hl,rfl⟩ | ⟨kvs,k,b,e,ey,eb,hl,rfl⟩
    . have l:mT kvs k=none:=by
        rcases g with⟨kvs',k',e',QX,l⟩ | ⟨kvs',k',b',e',QX,eb',l⟩
        . have:=Nh ey QX
          subst this
          rcases e' with e' | ⟨w,e'⟩
          . rw[e] at e';cases e';exact l.symm
          . rw[e] at e';cases e'
        . rcases e' with e' | ⟨w,e'⟩ <;> (rw[e] at e';cases e')
      obtain⟨hz,hd,vs,rel,dd⟩:=E4 I.hok e
      have hn:valueAt vs k=none:=mS.none_of (by rw[<-l];exact rel.val k)
      refine abT aa1 dd.typeIs abo (abj _ _ _) (kt_meets_setdefault (fQ X.prog X.w) a (ey.is ry) hd z) ⟨vs,dd,by rw[<-rel.length];exact hz,fun x hx=>?_,fun _ h' ED hs=>?_⟩
      . rw[hn] at hx;cases hx
      . have hl':(putK kvs k r).length<=sizeLine:=by have:=jf kvs k r;omega
        have he:∃q,h'.get? a=some q:=let⟨q,_,_,hq,_⟩:=ED;⟨q,hq⟩
        exact h _ _ (pU I (by rw[e];exact True.intro) hs he (wZ hl' hd (rel.put k rv) ED)) rv
    . subst ey
      cases(show u=Value.ref b from ry)
      have l:mT kvs k=none:=by
        rcases g with⟨kvs',k',e',QX,l⟩ | ⟨kvs',k',b',e',QX,eb',l⟩
        . rcases e' with e' | ⟨w,e'⟩ <;> (rw[e] at e';cases e')
        . cases QX
          have kk:k=k':=(lP I.hok eb).1.inj (lP I.hok eb').1
          subst kk
          rcases e' with e' | ⟨w,e'⟩
          . rw[e] at e';cases e';exact l.symm
          . rw[e] at e';cases e'
      obtain⟨hz,hd,xs,rel,dd⟩:=E6 I.hok e
      have hn:(atKey xs k).map (·.2)=none:=mS.none_of (by rw[<-l];exact rel.val k)
      refine abT aa1 dd.typeIs abo (abj _ _ _) (oU (iA X.prog X.w) a b hd z) ⟨fE hu,k,xs,lP I.hok eb,dd,by rw[<-ab3 rel];exact hz,fun x hx=>?_,fun _ h' ED hs=>?_⟩
      . rw[hn] at hx;cases hx
      . have hl':(putK kvs k r).length<=sizeLine:=by have:=jf kvs k r;omega
        obtain⟨q,es,ep,hq,h2,h3,h4,_,h5⟩:=ED
        refine h _ _ (pU I (by rw[e];exact True.intro) hs ⟨q,hq⟩ ⟨hl',hd,_,(rel.put k eb rv).keeps fun c ys ec=>?_,q,es,ep,hq,h2,h3,h4,h5⟩) rv
        rw[az (Lg ec e (fun z=>nomatch z))]
        exact ec
end
def QY (td ty tx:TE):TE:=fun σ H Q=>td σ H fun x H1=>∃a,x= .ref a/\SM H1 a/\ty σ H1 fun y H2=>tx σ H2 fun z H3=>∃r H4,QW H3 a y z r H4/\Q r H4
section
variable {X:Cx}{o e f:Expr}{td ty tx:TE}{x:Str}{px pos apos cpos:Pos}{gk gd:GD}
def JV (hu:X.A.units+20 < cLine) (ho:PE X o td) (he:PE X e ty) (hf:PE X f tx) (m:M2 X o "setdefault" apos e f cpos):PE X (.Call (.Attribute o "setdefault" apos) [e,f] [] cpos) (QY td ty tx):=by
 intro pins s σ H Q I h
 refine wpAny_Call_method m.base m.few m.line ado aa1 PySem.F.type_dict_setdefault (dN (ho pins s σ H _ I h) fun u s1 ⟨x,H1,I1,rx,a,ex,d,q1⟩=>?_)
 subst ex
 obtain rfl:u=Value.ref a:=rx
 obtain⟨t1,t2,_⟩:=Fc I1 d
 refine⟨t1,t2,?_⟩
 rw[m.trees]
 refine acu rfl (acJ (aa7 (dN (he pins s1 σ H1 _ I1 q1) fun iv s2 ⟨y,H2,I2,ry,q2⟩=>
  aa7 (dN (hf pins s2 σ H2 _ I2 q2) fun fv s3 ⟨z,H3,I3,rz,ov,H4,g,q3⟩=>abQ ?_))))
 exact Gs hu I3 g ry rz fun w' s4 I4 rw'=>⟨_,H4,I4,rw',q3⟩
noncomputable def JX (o:MO) (k d:D):Option (D×MO):=match o with
 | .dct kvs=>(keyOf k).bind fun kk=>match aU kvs kk with
  | some e=>some (e,.dct kvs)
  | none=>if kvs.length < 100000 then some (d,.dct (putD kvs kk d)) else none
 | .oH kvs=>(kY k).bind fun kk=>match aU kvs kk with
  | some e=>some (e,.oH kvs)
  | none=>if kvs.length < 10000000 then some (d,.oH (putD kvs kk d)) else none
 | _=>none
noncomputable def zJ (i:Nat) (gk gd:GD):GD:=fun S=>match S[i]? with
 | some (some u)=>if uv u then(gk S).bind fun p=>(gd p.2).bind fun q=>kJ q.2 i fun o=>JX o p.1 q.1
  else none
 | _=>none
def Gu {H:Hp}{o:HO}(e:H a=some o):upd H a o=H:=by
 funext b
 by_cases h:b=a
 ·subst h;rw[aD,e]
 ·rw[az h]
def Ci  (hu : X.A.units + 20 < cLine) (he : JD X e gk) (hf : JD X f gd) (hN : X.N[i]? = some x := by rfl) (hv : AE X.env.scope x := by first | exact Or.inl rfl | exact Or.inr (Or.inl rfl) | exact Or.inr (Or.inr rfl))
    (hb:attributeBase (.Name x px) "setdefault" X.env (eval (.Name x px) X.env)=eval (.Name x px) X.env:=by rfl)
    (hfew:((backTo cpos (starEach [e,f] X.env)).all (fun x=>!x.1) && (backToKw cpos (keywordEach [] X.env)).all (fun x=>x.1.isSome) && decide (([e,f]:List Expr).length+([]:List Keyword).length+(if([]:List Keyword).isEmpty then 0 else 1) < 30))=true:=by rfl)
    (hline:(apos.endLine == cpos.line)=true:=by rfl) (htr:backTo cpos (starEach [e,f] X.env)=[(false,eval e X.env),(false,eval f X.env)]:=by rfl) (hd:(x == ("__debug__":Str))=false:=by decide) (hcd:(x == ("__classdict__":Str))=false:=by decide):
    JD X (.Call (.Attribute (.Name x px) "setdefault" apos) [e,f] [] cpos) (zJ i gk gd):=
  ⟨fun B => (JV hu (gU hN hv hd hcd) (he.h B) (hf.h B) ⟨hb, hfew, hline, htr⟩).imp fun σ H Q ⟨S, F, d, S', R, hg, q⟩ => by
    unfold zJ at hg
    split at hg
    . rename_i u hS
      split at hg
      . rename_i hD
        obtain⟨⟨d1,S1⟩,h1,hg⟩:=ah hg
        obtain⟨⟨d2,S2⟩,h2,hg⟩:=ah hg
        obtain⟨u2,u',mo,mo',xM,M0,hio,hfo,Iv,rfl⟩:=qP hg
        obtain⟨v0,hv0,r0⟩:=R.rep i u hS
        obtain⟨a,rfl,ha⟩:=zD r0 hD
        refine⟨.ref a,hv0,a,rfl,ha,S,F,d1,S1,R,h1,fun v1 F1 H1 R1 st1 r1=>⟨S1,F1,d2,_,R1,h2,fun v2 F2 H2 R2 st2 r2=>?_⟩⟩
        obtain⟨v3,QN,r3⟩:=R2.rep i u2 xM
        rw[hv0] at QN
        cases QN
        obtain⟨b,o2,e1,fa,e2,k⟩:=r3.cA M0
        cases e1
        rw[hio] at e2
        cases e2
        cases mo with
        | lst ds=>cases hfo
        | ins C kvs=>cases hfo
        | dct kvs=>
          obtain⟨kk,k1,hfo⟩:=ah hfo
          obtain⟨ws,ha1,pr⟩:=k
          have ky:=g9 (r1.le st2.ext.le) k1
          cases hl:aU kvs kk with
          | some e0=>
            rw[hl] at hfo
            cases hfo
            obtain⟨v,z1,z2⟩:=iR pr hl
            obtain⟨R3,st3⟩:=R2.write (ho:=.dK ws) xM Iv hv0 ⟨_,aD,pr⟩
            rw[Gu ha1] at R3 st3
            exact⟨v,H2,.inl ⟨by rw[<-z1];exact iy.ky ha1 ky,rfl⟩,q v F2 H2 R3 ((st1.trans st2).trans st3) z2⟩
          | none=>
            rw[hl] at hfo
            obtain⟨hn,hfo⟩:=iQ hfo
            cases hfo
            obtain⟨R3,st3⟩:=R2.write (ho:=.dK (putK ws kk v2)) xM Iv hv0 ⟨_,aD,qd pr r2⟩
            exact⟨v2,_,.inr ⟨by rw[<-lC pr hl];exact iy.ky ha1 ky,rfl,uc.ky ha1 ky (by rw[cF pr];exact ZQ hn (by decide))⟩,q v2 F2 _ R3 ((st1.trans st2).trans st3) r2⟩
        | oH kvs=>
          obtain⟨kk,k1,hfo⟩:=ah hfo
          obtain⟨ws,ha1,pr⟩:=k
          obtain⟨b',rfl,hb'⟩:=j5 R2.sub (r1.le st2.ext.le) k1
          cases hl:aU kvs kk with
          | some e0=>
            rw[hl] at hfo
            cases hfo
            obtain⟨v,z1,z2⟩:=iR pr hl
            obtain⟨R3,st3⟩:=R2.write (ho:=.dT ws) xM Iv hv0 ⟨_,aD,pr⟩
            rw[Gu ha1] at R3 st3
            exact⟨v,H2,.inl ⟨by rw[<-z1];exact iy.t ha1 hb',rfl⟩,q v F2 H2 R3 ((st1.trans st2).trans st3) z2⟩
          | none=>
            rw[hl] at hfo
            obtain⟨hn,hfo⟩:=iQ hfo
            cases hfo
            obtain⟨R3,st3⟩:=R2.write (ho:=.dT (putK ws kk v2)) xM Iv hv0 ⟨_,aD,qd pr r2⟩
            exact⟨v2,_,.inr ⟨by rw[<-lC pr hl];exact iy.t ha1 hb',rfl,uc.t ha1 hb' (by rw[cF pr];exact ZQ hn (by decide))⟩,q v2 F2 _ R3 ((st1.trans st2).trans st3) r2⟩
      . cases hg
    . cases hg⟩
end
noncomputable def QZ:List D->Option U
 | [.lst ds]=>(aV ds).bind fun ns=>if ns.length<=1000 then some (.t (.int (firstMet (fun i=>ns.getD i 0) ns.length).length)) else none
 | _=>none
section
variable {X:Cx}{a:Expr}{pos p p1 p2:Pos}{ga:GD}
end
noncomputable def qk:List D->Option U
 | [d,.bV]=>some (.t (.bl (!lD d)))
 | _=>none
def Ba {X:Cx}:xq X (compareOp .IsNot) qk:=by
 intro pins s σ H x y v u Q I rx ry ⟨F,ds,w,sb,rs,hw,q⟩
 obtain⟨d,e,rfl,r1,r2⟩:=p7 rs
 cases e <;> try (cases d <;> simp[qk] at hw;done)
 cases hw
 cases r2
 refine IL pins s σ H _ _ v u Q I rx ry ⟨rfl,?_⟩
 have k:Rep F (V.bl (!decide (x= .bV))) (.bl (!lD d)):=by
  cases r1 <;> exact .bl _
 exact q _ F H (gf.refl ..) sb k
@[simp] theorem O2 (d:D):qk [d,.bV]=ZA (.bl (!lD d)):=rfl
def JY:typeLookup (.type "list") "keys" =pure none:=by rw[ab8,aby];kernel_rfl
def wC:entryFor table "dict.update.loop" =some Builtin.«dict.update.loop»:=entryFor_of_tree (by kernel_rfl)
def oq:plainId "dict.update.loop" =true:=by decide +kernel
section
variable {prog:Program}{w:World}{A:Around}{E:AAB}{s:Shared}
def JZ {xs:AAH}{u:Tok}{Q:AAB}
  (hx:s.heap.get? a=some o) (hc:o.cls= .type "list") (hdat:o.data= .seq xs k) (hd:o.dict=none) (hmiss:typeLookup (.type "list") name=pure none) (hname:(["__module__","__name__","__qualname__","__doc__","__annotations__"]:List Str).contains name=false) (hA:A.handled=none)
  (h:∀h' tk e,Heap.NewExcOf s.heap h' e "AttributeError"->E (.ref e) {s with heap:=h',toks:=tk}) (hsz:name.length+100<=sizeLine:=by size_fits):
  wpAny (model prog w) A (getAttrBy (.ref a) (.str name u) false) Q E s:=by
 obtain⟨c,dct,dat,sl⟩:=o
 simp only at hc hdat hd
 subst hc hdat hd
 obtain⟨hp,g,d,tk,os⟩:=s
 have hT:∀tk',(⟨hp,g,d,tk',os⟩:Shared).TypeIs (.ref a) "list":=fun _=>⟨_,hx,rfl⟩
 have f1:=sub_AttributeError
 have f3:=acg.lookup
 have f4:=acg.bind (.ref a)
 have f5:=am_list_getattr_none
 unfold getAttrBy
 repeat (any_goals (first | assumption | exact hT _ | ((with_reducible show wpAny _ _ (call (Value.builtin "list.__getattribute__") _ _) _ _ _);refine ac7 acg (hT _) am_entry_list_getattribute (F.args_list_getattribute_2 _ _) (meets_getattribute_miss_list a xs k sl name _ hmiss hname hsz) ⟨hx,hA,fun h' tk' e hx'=>?_⟩) | wp_step))
 obtain⟨t',u',he⟩:=hx'.there
 show wpAny _ _ (getattributeRaised _ _ _ _ _ _ _) _ _ _
 unfold getattributeRaised
 repeat (any_goals (first | assumption | wp_step))
 exact h _ _ _ hx'.of
def Ni {xs:AAH}{Q:Option Value->Shared->Prop}
  (hx:s.heap.get? a=some o) (hc:o.cls= .type "list") (hdat:o.data= .seq xs k) (hd:o.dict=none) (hmiss:typeLookup (.type "list") name=pure none) (hname:(["__module__","__name__","__qualname__","__doc__","__annotations__"]:List Str).contains name=false) (hA:A.handled=none)
  (h:∀h' tk e,Heap.NewExcOf s.heap h' e "AttributeError"->Q none {s with heap:=h',toks:=tk}) (hsz:name.length+100<=sizeLine:=by size_fits):
  wpAny (model prog w) A (getAttr? (.ref a) name) Q E s:=by
 unfold getAttr?
 refine Zv (wpAny_mkText ?_)
 unfold getAttrBy?
 refine Zv (acz (JZ hx hc hdat hd hmiss hname hA (fun h' tk e n=>?_) hsz))
 obtain⟨ob,vs,h1,h2,_⟩:=n.there
 show wpAny _ _ (isInstance (.ref e) (.type "AttributeError") >>= _) _ _ _
 refine Zv (aaR (T:="AttributeError") ⟨ob,h1,h2⟩ sub_AttributeError ?_)
 exact wpAny_pure (h h' tk e n)
end
section
variable {prog:Program}{w:World}{A:Around}{R:Result->Shared->Prop}{I:Addr}{fp wr:List Addr}{G:Array GenState->Array GenState->Prop}{n:Nat}{P:Nat->Value->Prop}{St:Nat->Shared->Prop}{K:Type} [DecidableEq K] {knd:KeyKind prog w K}
noncomputable def putAll (ps:Nat->K×Value) (n:Nat):List (K×Value):=(List.range n).foldl (fun kvs i=>stored kvs (ps i).1 (ps i).2) []
def sy (ps:Nat->K×Value) (n:Nat):putAll ps (n+1)=stored (putAll ps n) (ps n).1 (ps n).2:=by
 unfold putAll
 rw[abz,List.foldl_append]
 rfl
def Gv (W:WalksS prog w A.in1 I fp wr G n P St) (S:Addr) (hSf:S∉fp) (h0:Heap) (ps:Nat->K×Value) (hz:∀i,i<=n->(putAll ps i).length<=sizeLine)
  (hval:∀i v,P i v->∃b o key m,v= .ref b/\b≠S/\b∉wr/\h0.get? b=some o/\o.cls= .type "tuple"/\o.data= .seq #[key,(ps i).2] m/\knd.is (ps i).1 key=true):
  ∀(k i:Nat) (s:Shared) (q:Int) (t:Tok),n - i=k->i<=n->St i s->s.heap.DictOf knd S (putAll ps i)->(∀b o,b≠S->b∉wr->h0.get? b=some o->s.heap.get? b=some o)->
   (∀s',Moved (S :: wr) G s s'->s'.heap.DictOf knd S (putAll ps n)->R (.ok (.ret .none)) s')->
   codeAny (model prog w) A (.builtin "dict.update.loop" ⟨[.ref S,.ref I,.int q t,.none],[]⟩) R s:=by
 have Tc:S∉wr:=fun h=>hSf (W.sub _ h)
 have hsub:∀b∈wr,b∈S :: wr:=fun b hb=>ZI _ hb
 intro k
 induction k with
 | zero=>
  intro i s q t hk hi hst hS hh hR
  have hin:i=n:=by omega
  subst hin
  refine aaW wC ?_
  rw[aaE oq _]
  show wpAny _ A.in1 (pyNext (.ref I) >>= _) _ _ s
  refine Zv (W.done s _ _ hst fun s' hm=>?_)
  show wpAny _ A.in1 (Builtin.Dict.addKeywords S [] >>= _) _ _ s'
  refine Zv (wpAny_pure ?_)
  exact wpAny_pure (hR s' (hm.mono hsub) (by
   obtain⟨o,es,ep,ho,rest⟩:=hS
   exact⟨o,es,ep,hm.heap S _ Tc ho,rest⟩))
 | succ k ih=>
  intro i s q t hk hi hst hS hh hR
  have hlt:i < n:=by omega
  refine aaW wC ?_
  rw[aaE oq _]
  show wpAny _ A.in1 (pyNext (.ref I) >>= _) _ _ s
  refine Zv (W.item i s _ _ hlt hst fun v s' hP Nj hm=>?_)
  obtain⟨b,o,key,m,rfl,LF,Xc,hb,hc,hd,hkey⟩:=hval i v hP
  have hb':s'.heap.get? b=some o:=hm.heap b o Xc (hh b o LF Xc hb)
  have hS':s'.heap.DictOf knd S (putAll ps i):=by
   obtain⟨o,es,ep,ho,rest⟩:=hS
   exact⟨o,es,ep,hm.heap S _ Tc ho,rest⟩
  refine Zv (aan ?_)
  refine Zv (wpAny_tryCatch ?_)
  unfold Builtin.Dict.pairItems
  refine Zv (acL (T:="tuple") ⟨o,hb',hc⟩ ?_)
  rw[if_pos (by decide)]
  refine Zv (aaK hb' hd (wpAny_pure ?_))
  show wpAny _ A.in1 (holding [key,(ps i).2] (dictSet S key (ps i).2)) _ _ s'
  refine aan (wpAny_dictSet_pairs hkey hS' (fun h' hD hsb=>?_) (hz i hi))
  rw[<-sy] at hD
  refine wpAny_pure ⟨abn oq _,ih (i+1) _ _ _ (by omega) hlt (W.frame _ s' _ _ Nj (abE _) fun c hc o e=>?_) hD (fun c o hcS hcw e=>?_) fun s'' Nk Nl=>?_⟩
  ·rw[hsb.2 c (fun h:c=S=>hSf (by rw[<-h];exact hc))];exact e
  ·show h'.get? c=some o
   rw[hsb.2 c hcS];exact hm.heap c o hcw (hh c o hcS hcw e)
  ·refine hR s'' (Moved.trans W.gtrans ((hm.mono hsub).then_heap (abE _) fun b o hb e=>?_) Nk) Nl
   rw[hsb.2 b (fun h:b=S=>hb (by rw[h];exact ZJ))];exact e
end
section
variable {prog:Program}{w:World}{A:Around}{E:AAB}{s:Shared}{K:Type} [DecidableEq K] {knd:KeyKind prog w K}
def vA {l b:Addr}{ob:Obj}{m mb:Nat}{k:K}{key:Value}{Q:AAB}(hh:A.handled=none) (hl:s.heap.get? l=some o) (hc:o.cls= .type "list") (hd:o.dict=none) (hdat:o.data= .seq #[.ref b] m)
  (hb:s.heap.get? b=some ob) (hbc:ob.cls= .type "tuple") (hbd:ob.data= .seq #[key,x] mb) (hk:knd.is k key=true)
  (h:∀h' tk,h'.DictOf knd s.heap.objs.size (stored [] k x)->(∀c oc,s.heap.get? c=some oc->h'.get? c=some oc)->Q (.ref s.heap.objs.size) {s with heap:=h',toks:=tk}):
  wpAny (model prog w) A (call (.type "dict") [.ref l]) Q E s:=by
 refine callType_codes (Q₁:=fun obj s₁=>obj= .ref s.heap.objs.size/\s₁={s with heap:=s.heap.push {cls:=.type "dict",data:=.dict #[]}}) F.kt_called_dict (F.kt_typeCall_dict_1 _) F.entry_dict_init (kt_code_dict_new _ ⟨rfl,rfl⟩) ?_
 rintro obj s₁ ⟨rfl,rfl⟩
 have hnew:(s.heap.push {cls:=.type "dict",data:=.dict #[]}).DictOf knd s.heap.objs.size []:=Heap.DictOf.new s.heap
 have ol:(s.heap.push {cls:=.type "dict",data:=.dict #[]}).get? l=some o:=Zx _ hl
 refine⟨hnew.typeIs,F.args_dict_init_2 _ _,?_⟩
 unfold Builtin.«dict.__init__»
 refine Zv ?_
 unfold Builtin.Dict.selfAndRest
 refine Zv (wpAny_notOrdered_dict hnew.typeIs ?_)
 show wpAny _ _ (pure (s.heap.objs.size,[Value.ref l])) _ _ _
 refine wpAny_pure ?_
 show wpAny _ _ (Builtin.Dict.updateFrom "dict.__init__" s.heap.objs.size (.ref l) [] .none) _ _ _
 unfold Builtin.Dict.updateFrom
 refine Zv (acL (T:="list") ⟨o,ol,hc⟩ ?_)
 rw[if_pos (by decide)]
 refine Zv (Ni ol hc hdat hd JY (by decide +kernel) (by simpa using hh) fun h1 Zk e1 ne=>?_)
 rw[if_pos (show(none:Option Value).isNone=true from rfl)]
 have Xd:h1.DictOf knd s.heap.objs.size []:=by
  obtain⟨o',es,ep,ho,r⟩:=hnew
  exact⟨o',es,ep,ne.keeps _ _ ho,r⟩
 have Xe:h1.IsList l #[.ref b]:=⟨o,ne.keeps _ _ ol,hc,m,hdat⟩
 refine Zv (abi ?_)
 refine Zv (acq Xe ?_)
 have nS:s.heap.objs.size < h1.objs.size:=by
  obtain⟨o',es,ep,ho,r⟩:=Xd
  exact ZP ho
 have nl:l < s.heap.objs.size:=ZP hl
 have nb:b < s.heap.objs.size:=ZP hb
 have keep:∀c oc,s.heap.get? c=some oc->(h1.push {cls:=.type "list_iterator",data:=.fields #[.ref l,.int 0 0]}).get? c=some oc:=fun c oc z=>Zx _ (ne.keeps _ _ (Zx _ z))
 refine wpAny_pure ⟨abn oq _,?_⟩
 refine Gv (Walks.list (by simpa using hh) _ l (ZY (abg nl nS)) #[.ref b]).toS s.heap.objs.size ?_ s.heap (fun _=>(k,x)) ?_ ?_ 1 0 _ 0 0 rfl (Z3 _) ⟨⟨_,ZT _ rfl,rfl,rfl⟩,Xe.push _⟩ (Xd.push _) (fun c oc _ _ z=>keep c oc z) fun s' hm hD=>?_
 ·simp only[ZV,aaG,abM,not_or]
  exact⟨ZY nS,abe nl⟩
 ·intro i hi
  have:i=0\/i=1:=by have:(#[Value.ref b]).size=1:=rfl;omega
  rcases this with rfl | rfl
  ·exact Z3 _
  ·rw[sy];show(stored [] k x).length<=_;unfold stored;simp;decide
 ·intro i v hP
  have hP:(#[Value.ref b])[i]? =some v:=hP
  have hi:i=0:=by
   have:=(acZ.mp hP).1
   have z:(#[Value.ref b]).size=1:=rfl
   omega
  subst hi
  cases hP
  refine⟨b,ob,key,mb,rfl,ZY nb,?_,hb,hbc,hbd,hk⟩
  simp only[ZV,aaG,abM]
  exact ZY (abg nb nS)
 ·obtain⟨h',g',d',tk',os'⟩:=s'
  have eg:g'=s.gens:=hm.gens
  have ed:d'=s.drawn:=hm.drawn
  have eo:os'=s.os:=hm.os
  subst eg;subst ed;subst eo
  refine⟨rfl,h h' tk' hD fun c oc z=>?_⟩
  have nc:c < s.heap.objs.size:=ZP z
  refine hm.heap c oc ?_ (keep c oc z)
  simp only[ZV,aaG,abM,not_or]
  exact⟨ZY nc,ZY (abg nc nS)⟩
end
noncomputable def qm:List D->Option U
 | [.lst [.tup [k,x]]]=>(keyOf k).map fun kk=>.m (.dct [(kk,x)])
 | _=>none
def zK {d:D}{u:U}(h:qm [d]=some u):∃k x kk,d= .lst [.tup [k,x]]/\keyOf k=some kk/\u= .m (.dct [(kk,x)]):=by
 unfold qm at h
 split at h
 ·rename_i k x e
  cases e
  obtain⟨kk,h1,h2⟩:=aq h
  exact⟨k,x,kk,rfl,h1,h2.symm⟩
 ·cases h
section
variable {X:Cx}{a:Expr}{pos p p1 p2:Pos}{ga:GD}
def DP (hc : X.calm = true) (Vl : Gl X "dict") (hm1 : X.mg "dict" = none) (ha : JD X a ga) (hs2 : starEach [a] X.env = (false, eval a X.env) :: starEach [] X.env := by rfl) :
    JE X (.Call (.Name "dict" p) [a] [] pos) (eP qm (aa ga ao)):=⟨fun B=>by
  rintro pins s σ H Q I ⟨S,F,u,S',R,hg,q⟩
  obtain⟨⟨dl,S1⟩,h1,hg⟩:=ah hg
  obtain⟨w',h2,hg⟩:=aq hg
  cases hg
  obtain⟨⟨d,S2⟩,h3,h1⟩:=ah h1
  obtain⟨⟨dr,S3⟩,h4,h1⟩:=aq h1
  cases h4
  cases h1
  obtain⟨k,x,kk,rfl,hk,rfl⟩:=zK h2
  refine aaL (jS I Vl hm1 PyProof.Rows.Boot.dict ?_ (by decide) (by decide))
  refine aak (dN (jH (ha.h B) lO hs2 pos pins s σ H (fun vs H1=>∃v F1,vs=[v]/\Rel X.K B S2 σ F1 H1/\Step S S2 σ F H F1 H1/\Rep F1 v (.lst [.tup [k,x]])) I ⟨S,F,_,S2,R,h3,fun v F1 H1 R1 st1 r1=>⟨v,F1,rfl,R1,st1,r1⟩⟩) ?_) hs2 rfl
  rintro us s1 ⟨vs,H1,I1,r1,v,F1,rfl,R1,st1,rd⟩
  obtain⟨a',vs',rfl,fa,hla,mU⟩:=R1.sub.iB rd
  obtain⟨u',rfl,ru⟩:=vals1 r1
  cases ru
  cases mU with
  | cons rt rr =>
    cases rr
    obtain⟨b,vb,rfl,fb,hlb,Q0⟩:=R1.sub.iO rt
    cases Q0 with
    | cons rk Q0 =>
      cases Q0 with
      | cons rx Q0 =>
        cases Q0
        rename_i kv xv
        obtain⟨its,rv,pl,hz⟩:=I1.list (.inl hla)
        obtain⟨itb,jh,pb,Zl⟩:=I1.tuple (.inl hlb)
        cases rv with
        | cons r0 rv=>
          cases rv
          cases r0
          cases jh with
          | cons r2 jh=>
            cases jh with
            | cons r3 jh=>
              cases jh
              rename_i ku xu
              obtain⟨o,n,e1,e2,e3,e4⟩:=pl
              obtain⟨ob,e5,e6,nb,e7⟩:=pb
              have ky:=g9 rk hk
              refine vA (knd:=fQ X.prog X.w) (I1.ok.hd hc) e1 e2 e3 e4 e5 e6 e7 (ky.is r2) fun h' tk hD keep=>?_
              have rel:KV [(kk,xv)] (stored [] kk xu):=by
                have:KV (putK [] kk xv) (stored [] kk xu):=KV.put .nil kk r3
                exact this
              have hsm:(s1.heap.objs.size == sysModules)=false:=by
                rw[aa2]
                exact abe I1.big
              have I2:=I1.laid (a:=s1.heap.objs.size) (o:=.dK [(kk,xv)]) (h':=h') (t':=tk) keep (ZM _) (wZ (by show 1<=sizeLine;decide) hsm rel hD)
              have hp:H1 s1.heap.objs.size=none:=I1.hok.fresh (ZM _)
              have nw:=gf.obj (F:=F1) hp (.dK [(kk,xv)])
              refine⟨.ref s1.heap.objs.size,_,I2,rfl,?_⟩
              exact q _ F1 _ (R1.new nw (R1.sub.same nw.same)) (st1.trans nw.step) (Dr.Jf (u:=.m (.dct [(kk,x)])) R1 st1 ⟨_,rfl,hp,R1.sub.fresh hp,_,aD,.cons ⟨rfl,rx⟩ .nil⟩)⟩
end
structure NB (B B':Base) (N:List Addr):Prop where
 p:B'.P=B.P
 f:B'.F=B.F
 out:∀c,c∉N->B'.H c=B.H c
 new:∀c,c∈N->B.H c=none/\¬B.M c/\B.F c=none
structure NR (K:AAA) (B B':Base) (S:SS) (σ:St) (F H:Hp) (a:Addr) (bs:List Addr) (nest:List (List D)):Prop where
 r:Rel K B' S σ F H
 b:NB B B' (a :: bs)
 na:a∉bs
 nd:bs.Nodup
 top:B'.H a=some (.lst (bs.map V.ref))
 len:bs.length=nest.length
 ins:∀(k:Nat) c ds,bs[k]? =some c->nest[k]? =some ds->∃vs,B'.H c=some (.lst vs)/\aX F vs ds
def J0 (K:AAA) (B:Base) (S:SS) (σ:St) (F H:Hp) (a:Addr) (nest:List (List D)):Prop:=∃B' bs,NR K B B' S σ F H a bs nest
section
variable {K:AAA}{B B':Base}{S S':SS}{σ:St}{F H F' H':Hp}{a:Addr}{bs:List Addr}{nest:List (List D)}
def NB.notM {N:List Addr}(n:NB B B' N)(h:c∈N):¬B'.M c:=fun z=>(n.new c h).2.1 (by unfold Base.M at z ⊢;rw[n.p] at z;exact z)
def NR.at {o:HO}(R:NR K B B' S σ F H a bs nest) (hc:c∈a :: bs) (h:B'.H c=some o):H c=some o/\F c=none:=
 ⟨R.r.ext.keep c o h (R.b.notM hc),R.r.ext.iw c o h (R.b.notM hc) (by rw[R.b.f];exact(R.b.new c hc).2.2)⟩
def NR.apart {o:HO}(R:NR K B B' S σ F H a bs nest) (hc:c∈a :: bs) (h:B'.H c=some o):¬cA S σ c:=fun⟨i,u,h1,h2,h3⟩=>by
 cases u with
 | m q=>rw[R.r.own i q c h1 h3] at h;cases h
 | b q=>exact R.b.notM hc (R.r.bor i q c h1 h3)
 | t d=>cases h2
 | v d=>cases h2
 | s d=>cases h2
 | f d=>cases h2
def NR.step (R:NR K B B' S σ F H a bs nest) (R':Rel K B' S' σ F' H') (le:∀b o,F b=some o->F' b=some o):NR K B B' S' σ F' H' a bs nest:=
 ⟨R',R.b,R.na,R.nd,R.top,R.len,fun k c ds h1 h2=>let⟨vs,e,r⟩:=R.ins k c ds h1 h2;⟨vs,e,r.le le⟩⟩
def NR.bind {σ':St}(R:NR K B B' S σ F H a bs nest) (R':Rel K B' S' σ' F H):NR K B B' S' σ' F H a bs nest:=⟨R',R.b,R.na,R.nd,R.top,R.len,R.ins⟩
def NR.app (R : NR K B B' S σ F H a bs nest)   {ds : List D} {vs : List V} {y : V} {d : D} (hc : bs[k]? = some c) (hn : nest[k]? = some ds) (hv : B'.H c = some (.lst vs)) (rs : aX F vs ds) (ry : Rep F y d) :
    NR K B ⟨B'.P,B'.F,upd B'.H c (.lst (vs++[y]))⟩ S σ F (upd H c (.lst (vs++[y]))) a bs (nest.set k (ds++[d])):=by
  have mc:c∈bs:=ZO hc
  have Vm:c∈a :: bs:=ZI _ mc
  have YA:a≠c:=fun z=>R.na (z▸mc)
  obtain⟨hH,hF⟩:=R.at Vm hv
  have ap:=R.apart Vm hv
  have Lz:∀b o u,H b=some (.jw o u)->upd H c (.lst (vs++[y])) b=some (.jw o u):=fun b o u z=>by
    rw[az (fun e=>by rw[e,hH] at z;cases z)];exact z
  refine⟨⟨fun b o z=>?_,R.r.len,fun i u h=>?_,R.r.zd,fun i o b h1 h2=>?_,R.r.bor,R.r.par,⟨R.r.ext.le,fun b o z n=>?_,fun b o z n f=>?_,fun b o z=>?_,fun b o u z=>?_⟩⟩,⟨R.b.p,R.b.f,fun b hb=>?_,R.b.new⟩,R.na,R.nd,?_,by rw[aaw];exact R.len,fun j b es h1 h2=>?_⟩
  . rw[az (fun e=>by rw[e,hF] at z;cases z)];exact R.r.sub b o z
  . obtain⟨v,h1,h2⟩:=R.r.rep i u h
    refine⟨v,h1,h2.le (fun _ _ z=>z) Lz fun b hm hb=>⟨fun o q=>?_,?_⟩⟩
    . rw[az (fun e=>ap ⟨i,u,h,hm,by rw[h1,hb,e]⟩)];exact q
    . obtain⟨b',o,e,f,_⟩:=h2.cA hm
      rw[hb] at e
      cases e
      exact f
  . have z:=R.r.own i o b h1 h2
    show upd B'.H c _ b=none
    rw[az (fun e=>by rw[e,hv] at z;cases z)]
    exact z
  . have z:upd B'.H c (.lst (vs++[y])) b=some o:=z
    by_cases e:b=c
    . subst e;rw[aD] at z ⊢;exact z
    . rw[az e] at z ⊢;exact R.r.ext.keep b o z n
  . have z:upd B'.H c (.lst (vs++[y])) b=some o:=z
    by_cases e:b=c
    . subst e;exact hF
    . rw[az e] at z;exact R.r.ext.iw b o z n f
  . have z:upd B'.H c (.lst (vs++[y])) b=some o:=z
    by_cases e:b=c
    . exact⟨_,by rw[e];exact aD⟩
    . rw[az e] at z ⊢;exact R.r.ext.there b o z
  . have z:upd B'.H c (.lst (vs++[y])) b=some (.jw o u):=z
    have e:b≠c:=fun e=>by rw[e,aD] at z;cases z
    rw[az e] at z ⊢
    exact R.r.ext.jw b o u z
  . show upd B'.H c _ b=_
    rw[az (fun e:b=c=>hb (by rw[e];exact Vm))]
    exact R.b.out b hb
  . show upd B'.H c _ a=_
    rw[az YA]
    exact R.top
  . show ∃ws,upd B'.H c _ b=_/\_
    by_cases e:j=k
    . subst e
      rw[hc] at h1
      cases h1
      have hl:=(Zy.mp hn).1
      rw[aad hl] at h2
      cases h2
      exact⟨vs++[y],aD,rs.append (.cons ry .nil)⟩
    . rw[Z4 (aaN e)] at h2
      obtain⟨ws,e1,r1⟩:=R.ins j b es h1 h2
      have ne:b≠c:=fun z=>e (by
        subst z
        have l1:=(Zy.mp h1)
        have l2:=(Zy.mp hc)
        obtain⟨p1,q1⟩:=l1
        obtain⟨p2,q2⟩:=l2
        have z1:=R.nd.idxOf_getElem j p1
        have z2:=R.nd.idxOf_getElem k p2
        rw[q1] at z1
        rw[q2] at z2
        rw[<-z1,<-z2])
      exact⟨ws,by rw[az ne];exact e1,r1⟩
def NR.freeze (R : NR K B B' S σ F H a bs nest)  (hi : S[i]? = some (some (.f a))) : ∃ F', Rel K B (S.set i (ZA (.lst (nest.map D.lst)))) σ F' H /\ (∀ b o, F b = some o -> F' b = some o) := by
  have hl:=(Zy.mp hi).1
  have there:∀c,c∈a :: bs->∃o,B'.H c=some o:=fun c hc=>by
    rcases ZV.mp hc with rfl | m
    . exact⟨_,R.top⟩
    . obtain⟨k,hk⟩:=abD m
      have:k < nest.length:=by rw[<-R.len];exact(Zy.mp hk).1
      obtain⟨vs,e,_⟩:=R.ins k c _ hk (Zz this)
      exact⟨_,e⟩
  let F':Hp:=fun c=>if c∈a :: bs then H c else F c
  have kX:∀c,c∈a :: bs->F' c=H c:=fun c hc=>if_pos hc
  have out:∀c,c∉a :: bs->F' c=F c:=fun c hc=>if_neg hc
  have le:∀b o,F b=some o->F' b=some o:=fun b o z=>by
    by_cases m:b∈a :: bs
    . rw[kX b m];exact R.r.sub b o z
    . rw[out b m];exact z
  have back:∀{j:Nat}{w:U},(S.set i (ZA (.lst (nest.map D.lst))))[j]? =some (some w)->(i=j/\w= .t (.lst (nest.map D.lst)))\/(i≠j/\S[j]? =some (some w)):=fun {j w} h=>by
    rcases get_set h with⟨e,q,_⟩ | q
    . cases q;exact .inl ⟨e,rfl⟩
    . exact .inr q
  have Vn:σ[i]? =some (some (.ref a)):=by
    obtain⟨v,h1,h2⟩:=R.r.rep i _ hi
    rw[h1]
    exact congrArg (fun z=>some (some z)) h2
  refine⟨F',⟨fun b o z=>?_,by rw[aaw];exact R.r.len,fun j u h=>?_,fun j k u w c h1 m1 h2 m2=>?_,fun j o c h=>?_,fun j o c h=>?_,fun j c h=>?_,?_⟩,le⟩
  . by_cases m:b∈a :: bs
    . rw[kX b m] at z;exact z
    . rw[out b m] at z;exact R.r.sub b o z
  . rcases back h with⟨rfl,rfl⟩ | ⟨ne,q⟩
    . refine⟨.ref a,Vn,.lst (.inl (by rw[kX a ZJ];exact(R.at ZJ R.top).1)) ?_⟩
      have go:∀(cs:List Addr) (ns:List (List D)),cs.length=ns.length->(∀(k:Nat) c ds,cs[k]? =some c->ns[k]? =some ds->c∈a :: bs/\∃vs,B'.H c=some (.lst vs)/\aX F vs ds)->aX F' (cs.map V.ref) (ns.map D.lst):=by
        intro cs
        induction cs with
        | nil=>intro ns e _;cases ns with | nil=>exact .nil | cons=>cases e
        | cons c cs ih=>
          intro ns e h
          cases ns with
          | nil=>cases e
          | cons n ns=>
            obtain⟨m,vs,e1,r1⟩:=h 0 c n rfl rfl
            refine .cons (.lst (.inl (by rw[kX c m];exact(R.at m e1).1)) (r1.le le)) (ih ns (by simpa using e) fun k=>h (k+1))
      exact go bs nest R.len fun k c ds h1 h2=>⟨ZI _ (ZO h1),R.ins k c ds h1 h2⟩
    . obtain⟨v,h1,h2⟩:=R.r.rep j u q
      refine⟨v,h1,h2.le le (fun _ _ _ z=>z) fun c hm hc=>⟨fun o z=>z,?_⟩⟩
      have nm:c∉a :: bs:=fun m=>by
        obtain⟨o,ho⟩:=there c m
        exact R.apart m ho ⟨j,u,q,hm,by rw[h1,hc]⟩
      rw[out c nm]
      obtain⟨c',o,e,f,_⟩:=h2.cA hm
      rw[hc] at e
      cases e
      exact f
  . rcases back h1 with⟨_,rfl⟩ | ⟨_,q1⟩
    . cases m1
    . rcases back h2 with⟨_,rfl⟩ | ⟨_,q2⟩
      . cases m2
      . exact R.r.zd j k u w c q1 m1 q2 m2
  . rcases back h with⟨_,z⟩ | ⟨_,q⟩
    . cases z
    . intro hc
      have z:=R.r.own j o c q hc
      by_cases m:c∈a :: bs
      . exact(R.b.new c m).1
      . rw[<-R.b.out c m];exact z
  . rcases back h with⟨_,z⟩ | ⟨_,q⟩
    . cases z
    . intro hc
      have z:=R.r.bor j o c q hc
      unfold Base.M at z ⊢
      rw[<-R.b.p];exact z
  . obtain⟨h1,o,h2⟩:=R.r.par j c (by rw[R.b.p];exact h)
    refine⟨h1,o,?_⟩
    have ne:i≠j:=fun z=>by subst z;rw[hi] at h2;cases h2
    rw[Z4 ne]
    exact h2
  . have old:∀b o,B.H b=some o->b∉a :: bs/\B'.H b=some o:=fun b o z=>by
      have m:b∉a :: bs:=fun m=>by rw[(R.b.new b m).1] at z;cases z
      exact⟨m,by rw[R.b.out b m];exact z⟩
    have mm:∀b,B'.M b->B.M b:=fun b z=>by unfold Base.M at z ⊢;rw[<-R.b.p];exact z
    refine⟨fun b o z=>le b o (R.r.ext.le b o (by rw[R.b.f];exact z)),fun b o z n=>R.r.ext.keep b o (old b o z).2 fun q=>n (mm b q),fun b o z n f=>?_,fun b o z=>R.r.ext.there b o (old b o z).2,fun b o u z=>R.r.ext.jw b o u (old b _ z).2⟩
    rw[out b (old b o z).1]
    exact R.r.ext.iw b o (old b o z).2 (fun q=>n (mm b q)) (by rw[R.b.f];exact f)
end
abbrev GN:=Addr->SS->List (List D)->Option (SS×List (List D))
noncomputable def yE (S:SS) (i:Nat) (a:Addr):Bool:=match S[i]? with
 | some (some (.f b))=>b == a
 | _=>false
def Bb (h:yE S i a=true):S[i]? =some (some (.f a)):=by
 unfold yE at h
 split at h
 ·rename_i b e;rw[e,eq_of_beq h]
 ·cases h
def tN (K:AAA) (B:Base) (i:Nat) (g:GN):TS:=fun D σ H=>∃S F a nest S' sA,J0 K B S σ F H a nest/\S[i]? =some (some (.f a))/\g a S nest=some (S',sA)/\
 ∀σ' F' H',J0 K B S' σ' F' H' a sA->S'[i]? =some (some (.f a))->(∀b o,F b=some o->F' b=some o)->D.nx σ' H'
structure JN (X:Cx) (i:Nat) (st:Stmt) (g:GN):Prop where
 h:∀B,PS X st (tN X.K B i g)
noncomputable def zL (i:Nat) (gk gv:GD):GN:=fun a S nest=>(gk S).bind fun p=>match p.1 with
 | .int k=>(yC nest.length k).bind fun j=>(nest[j]?).bind fun ds=>(gv p.2).bind fun q=>if yE q.2 i a=true/\ds.length < 100000 then some (q.2,nest.set j (ds++[q.1])) else none
 | _=>none
section
variable {X:Cx}{e1 e2:Expr}{pos px ps apos cpos:Pos}{x:Str}{gk gv:GD}{i:Nat}
def Gw (hk:JD X e1 gk) (hv:JD X e2 gv) (hx:pW e1) (hN:X.N[i]? =some x:=by rfl) (Vo:AE X.env.scope x:=by first | exact Or.inl rfl | exact Or.inr (Or.inl rfl) | exact Or.inr (Or.inr rfl))
  (hbase:attributeBase (.Subscript (.Name x px) e1 ps) "append" X.env (eval (.Subscript (.Name x px) e1 ps) X.env)=eval (.Subscript (.Name x px) e1 ps) X.env:=by rfl)
  (hfew:((backTo cpos (starEach [e2] X.env)).all (fun x=>!x.1) && (backToKw cpos (keywordEach [] X.env)).all (fun x=>x.1.isSome)
   && decide (([e2]:List Expr).length+([]:List Keyword).length+(if([]:List Keyword).isEmpty then 0 else 1) < 30))=true:=by rfl)
  (hline:(apos.endLine == cpos.line)=true:=by rfl) (hs:starEach [e2] X.env=(false,eval e2 X.env) :: starEach [] X.env:=by rfl) (hplain:(backTo cpos (starEach [] X.env)).any (·.1)=false:=by rfl)
  (hsw:swapsWith (.Call (.Attribute (.Subscript (.Name x px) e1 ps) "append" apos) [e2] [] cpos) none pos.line X.env=pure false:=by rfl)
  (hd:(x == ("__debug__":Str))=false:=by decide) (hcd:(x == ("__classdict__":Str))=false:=by decide):
  JN X i (.Expr (.Call (.Attribute (.Subscript (.Name x px) e1 ps) "append" apos) [e2] [] cpos) pos) (zL i gk gv):=⟨fun B=>by
 intro pins s σ H D I ⟨S,F,a,nest,S',sA,⟨B',bs,R⟩,hi,hg,q⟩
 refine(BO (Lq adp aal aam fG (BY xg (gU hN Vo hd hcd) (hk.h B') hx) (jH (hv.h B') lO hs) hbase hfew hline hs hplain) hsw) pins s σ H D I ?_
 unfold zL at hg
 obtain⟨⟨dk,S1⟩,h1,hg⟩:=ah hg
 dsimp only at hg
 split at hg
 ·rename_i k
  obtain⟨j,h2,hg⟩:=ah hg
  obtain⟨ds,h3,hg⟩:=ah hg
  obtain⟨⟨d,S2⟩,h4,hg⟩:=ah hg
  obtain⟨⟨h5,h6⟩,hg⟩:=iQ hg
  cases hg
  have Vn:σ[i]? =some (some (.ref a)):=by
   obtain⟨v,z1,z2⟩:=R.r.rep i _ hi
   rw[z1]
   exact congrArg (fun z=>some (some z)) z2
  refine⟨.ref a,Vn,S,F,_,S1,R.r,h1,fun v1 F1 H1 R1 st1 r1=>?_⟩
  have N1:=R.step R1 st1.ext.le
  have hj:j < bs.length:=by rw[R.len];exact(Zy.mp h3).1
  have hb:bs[j]? =some bs[j]:=Zz hj
  generalize Zm:bs[j]=c at hb
  have mc:c∈a :: bs:=ZI _ (ZO hb)
  obtain⟨vs,e1,mU⟩:=N1.ins j c ds hb h3
  have hat:dF (bs.map V.ref) k=some (V.ref c):=by
   unfold dF
   rw[Zw,R.len,h2]
   show(bs.map V.ref)[j]? =_
   rw[ZF,hb]
   rfl
  refine⟨a,bs.map V.ref,k,.ref c,rfl,gj r1,m5.of (N1.at ZJ N1.top).1,hat,.inl ⟨rfl,vs,m5.of (N1.at mc e1).1⟩,?_⟩
  refine⟨S1,F1,d,S2,R1,h4,fun v2 F2 H2 R2 st2 r2=>?_⟩
  have N2:=N1.step R2 st2.ext.le
  refine⟨c,vs,v2,rfl,rfl,(N2.at mc e1).1,?_,?_⟩
  ·rw[mU.length];exact ZQ h6 (by decide)
  ·exact q σ F2 _ ⟨_,bs,N2.app hb h3 e1 (mU.le st2.ext.le) r2⟩ (Bb h5) fun b o z=>st2.ext.le b o (st1.ext.le b o z)
 ·cases hg⟩
end
noncomputable def Cj (bd:GB) (g:GN) (a:Addr):List D->SS->List (List D)->Option (SS×List (List D))
 | [],S,nest=>some (S,nest)
 | d :: ds,S,nest=>(bd d S).bind fun S1=>(g a S1 nest).bind fun q=>Cj bd g a ds q.1 q.2
noncomputable def pG (i:Nat) (bd:GB) (gi:GI) (g:GN):GN:=fun a S nest=>(gi S).bind fun p=>if yE p.2 i a=true then Cj (fun d S=>(bd d S).bind fun S1=>if yE S1 i a=true then some S1 else none) g a p.1 p.2 nest else none
section
variable {X:Cx}{tg iter:Expr}{body:Stmt}{bd:GB}{gi:GI}{g:GN}{i:Nat}{pos:Pos}
def Bc (hp:PassesOwn (model X.prog X.w) X.A X.env X.xe) (hc:X.calm=true) (hi:QL X tg iter gi) (hg:JG X tg bd) (hb:JN X i body g) (hs:∀x,foldedSetIterable iter X.env x=pure x:=by intro _;rfl):
  JN X i (.For tg iter [body] [] pos) (pG i bd gi g):=⟨fun B=>by
 refine(PS.orelse fun D σ H ⟨S,F,a,nest,Sf,nf,⟨B',bs,R⟩,hS,hw,k⟩=>?_)
 refine⟨_,AJ hp hc (hi.h B') (g:=fun v σ H Q=>∃B,W4 X.K B bd v σ H Q) (fun pins s σ H v u Q I r ⟨B2,z⟩=>hg.h B2 pins s σ H v u Q I r z) (BN (hb.h B)) hs,?_⟩
 obtain⟨⟨ds,S1⟩,h1,hw⟩:=ah hw
 dsimp only at hw
 obtain⟨Vp,hw⟩:=iQ hw
 refine⟨S,F,ds,S1,R.r,h1,fun J F1 H1 R1 st1 w=>?_⟩
 refine⟨fun n m σ' H'=>∃S' F' sA,J0 X.K B S' σ' F' H' a sA/\S'[i]? =some (some (.f a))/\(∀b o,F1 b=some o->F' b=some o)/\n<=ds.length/\m=ds.length - n/\Cj (fun d S=>(bd d S).bind fun S1=>if yE S1 i a=true then some S1 else none) g a (ds.drop n) S' sA=some (Sf,nf),⟨_,S1,F1,nest,⟨B',bs,R.step R1 st1.ext.le⟩,Bb Vp,fun _ _ z=>z,Z3 _,rfl,hw⟩,?_⟩
 rintro n m σ' H' ⟨S',F',sA,⟨B2,cs,R'⟩,hS',le,hl,rfl,cC⟩
 have w':=w F' H' le R'.r.sub n
 by_cases hlt:n < ds.length
 ·have hd:ds[n]? =some ds[n]:=Zz hlt
  obtain⟨go,yl⟩:=w'.1 _ hd
  rw[aai hlt] at cC
  obtain⟨S2,e2,cC⟩:=ah cC
  obtain⟨Zn,YB,e2⟩:=ah e2
  obtain⟨xM,e2⟩:=iQ e2
  cases e2
  obtain⟨⟨S3,LL⟩,e3,cC⟩:=ah cC
  refine .inr ⟨go,_,fun σ2 H2 z=>⟨ds.length - (n+1),by omega,z⟩,fun x H2 y=>?_⟩
  obtain⟨F2,nw,Va,rx⟩:=yl x H2 y
  have R2:=R'.r.new nw Va
  have N2:=R'.step R2 nw.le
  refine⟨B2,S',F2,_,S2,R2,rx,YB,fun σ3 R3=>⟨S2,F2,a,sA,S3,LL,⟨B2,cs,N2.bind R3⟩,Bb xM,e3,fun yD F4 H4 R4 YC sJ=>?_⟩⟩
  exact⟨S3,F4,LL,R4,YC,fun b o z=>sJ b o (nw.le b o (le b o z)),hlt,rfl,cC⟩
 ·have e:n=ds.length:=by omega
  subst e
  rw[abG] at cC
  cases cC
  exact .inl ⟨w'.2 (ZM _),k σ' F' H' ⟨B2,cs,R'⟩ hS' fun b o z=>le b o (st1.ext.le b o z)⟩⟩
end
section
variable {K:AAA}{B:Base}{S:SS}{σ:St}{F H:Hp}{a:Addr}{bs:List Addr}{i:Nat}
def J1 (R : Rel K B S σ F H) (hl : i < S.length) (nb : ∀ o, S[i]? ≠ some (some (.b o))) (ha : H a = some (.lst (bs.map V.ref))) (hb : ∀ c, c ∈ bs -> H c = some (.lst [])) (na : a ∉ bs) (nd : bs.Nodup)
    (fr:∀c,c∈a :: bs->F c=none/\¬cA S σ c/\B.H c=none/\¬B.M c/\B.F c=none):
    J0 K B (S.set i (some (.f a))) (σ.set i (some (.ref a))) F H a (List.replicate bs.length []):=by
  have hl':i < σ.length:=by rw[<-R.len];exact hl
  have DQ:∀{j:Nat},i≠j->(σ.set i (some (V.ref a)))[j]? =σ[j]?:=fun ne=>Z4 ne
  have back:∀{j:Nat}{w:U},(S.set i (some (.f a)))[j]? =some (some w)->(i=j/\w= .f a)\/(i≠j/\S[j]? =some (some w)):=fun {j w} h=>by
    rcases get_set h with⟨e,q,_⟩ | q
    . cases q;exact .inl ⟨e,rfl⟩
    . exact .inr q
  let B':Base:=⟨B.P,B.F,fun c=>if c∈a :: bs then H c else B.H c⟩
  have kX:∀c,c∈a :: bs->B'.H c=H c:=fun c hc=>if_pos hc
  have out:∀c,c∉a :: bs->B'.H c=B.H c:=fun c hc=>if_neg hc
  refine⟨B',bs,⟨R.sub,by rw[aaw,aaw];exact R.len,fun j u h=>?_,fun j k u w c h1 m1 h2 m2 g1 g2=>?_,fun j o c h hc=>?_,fun j o c h hc=>?_,fun j c h=>?_,⟨R.ext.le,fun b o z n=>?_,fun b o z n f=>?_,fun b o z=>?_,fun b o u z=>?_⟩⟩,⟨rfl,rfl,out,fun c hc=>⟨(fr c hc).2.2.1,(fr c hc).2.2.2.1,(fr c hc).2.2.2.2⟩⟩,na,nd,by rw[kX a ZJ];exact ha,by rw[abS],fun k c ds h1 h2=>?_⟩
  . rcases back h with⟨rfl,rfl⟩ | ⟨ne,q⟩
    . exact⟨.ref a,aad hl',rfl⟩
    . obtain⟨v,h1,h2⟩:=R.rep j u q
      exact⟨v,by rw[DQ ne];exact h1,h2⟩
  . rcases back h1 with⟨_,rfl⟩ | ⟨n1,q1⟩
    . cases m1
    . rcases back h2 with⟨_,rfl⟩ | ⟨n2,q2⟩
      . cases m2
      . rw[DQ n1] at g1
        rw[DQ n2] at g2
        exact R.zd j k u w c q1 m1 q2 m2 g1 g2
  . rcases back h with⟨_,z⟩ | ⟨n,q⟩
    . cases z
    . rw[DQ n] at hc
      rw[out c (fun m=>(fr c m).2.1 ⟨j,_,q,rfl,hc⟩)]
      exact R.own j o c q hc
  . rcases back h with⟨_,z⟩ | ⟨n,q⟩
    . cases z
    . rw[DQ n] at hc
      exact R.bor j o c q hc
  . obtain⟨h1,o,h2⟩:=R.par j c h
    have ne:i≠j:=fun z=>by subst z;exact nb o h2
    exact⟨by rw[DQ ne];exact h1,o,by rw[Z4 ne];exact h2⟩
  . by_cases m:b∈a :: bs
    . rw[kX b m] at z;exact z
    . rw[out b m] at z;exact R.ext.keep b o z n
  . by_cases m:b∈a :: bs
    . exact(fr b m).1
    . rw[out b m] at z;exact R.ext.iw b o z n f
  . by_cases m:b∈a :: bs
    . rw[kX b m] at z;exact⟨o,z⟩
    . rw[out b m] at z;exact R.ext.there b o z
  . by_cases m:b∈a :: bs
    . rw[kX b m] at z;exact z
    . rw[out b m] at z;exact R.ext.jw b o u z
  . have m:c∈bs:=ZO h1
    have e:ds=[]:=by
      have:=ZO h2
      exact ach this
    subst e
    exact⟨[],by rw[kX c (ZI _ m)];exact hb c m,.nil⟩
end
open Classical in
noncomputable def qo (i:Nat) (g:GN) (S:SS) (n:Nat):Option SS:=
 if h:∃r,∀a,(g a (S.set i (some (.f a))) (List.replicate n [])).map (fun q=>q.1.set i (ZA (.lst (q.2.map D.lst))))=some r then some (Classical.choose h) else none
def xP {g:GN}{r:SS}(h:qo i g S n=some r) (a:Addr):∃S' nest,g a (S.set i (some (.f a))) (List.replicate n [])=some (S',nest)/\r=S'.set i (ZA (.lst (nest.map D.lst))):=by
 unfold qo at h
 split at h
 ·rename_i hx
  cases h
  obtain⟨⟨S',nest⟩,e,q⟩:=aq (abw hx a)
  exact⟨S',nest,e,q.symm⟩
 ·cases h
def uB {g:GN}{r:SS}(h:∀a,(g a (S.set i (some (.f a))) (List.replicate n [])).map (fun q=>q.1.set i (ZA (.lst (q.2.map D.lst))))=some r):qo i g S n=some r:=by
 unfold qo
 rw[dif_pos ⟨r,h⟩]
 have:=abw (⟨r,h⟩:∃r,∀a,(g a (S.set i (some (.f a))) (List.replicate n [])).map (fun q=>q.1.set i (ZA (.lst (q.2.map D.lst))))=some r) 0
 rw[h 0] at this
 exact congrArg some (ZU this).symm
noncomputable def uC (i:Nat) (gi:GI) (g:GN):GS:=fun S=>(gi S).bind fun p=>match p.2[i]? with
 | some (some (.b _))=>none
 | some _=>if p.1.length<=100000 then(qo i g p.2 p.1.length).map .nx else none
 | none=>none
section
variable {X:Cx}{iter:Expr}{st2:Stmt}{rest:List Stmt}{gi:GI}{g:GN}{gr:GS}{i:Nat}{pos px py pe spos:Pos}{x y:Str}{scope:Scope}{cl:List (Str×Addr)}
def Ck (hN : X.N.Nodup) (hy : X.N[i]? = some y) (hx : Loc X.env.scope y) (T : d8 X x [] [] scope cl) (hc : X.calm = true) (hi : JI X (.Name x px) iter gi) (h2 : JN X i st2 g) (hr : JB X rest gr)
    (hsw:swapsWith (.ListComp (.List [] pe) [⟨.Name x px,iter,[],0⟩] scope pos) (some (.Name y py)) spos.line X.env=pure true:=by rfl) (hf:X.fn y=true\/X.env.scope.names.lookup y=some .local:=by first | exact .inl rfl | exact .inr rfl | assumption)
    (hs:∀x,foldedSetIterable iter X.env x=pure x:=by intro _;rfl):
    JB X (.Assign [.Name y py] (.ListComp (.List [] pe) [⟨.Name x px,iter,[],0⟩] scope pos) spos :: st2 :: rest) (aG (uC i gi g) gr):=⟨fun B=>by
  refine(tX (yZ T hc (hi.h B) (fun C s H fp=>B3) (fun C s H fp=>E3 lO) hs hN hy hx hsw hf) (tX (h2.h B) (hr.h B))).imp fun D σ H ⟨S,F,o,R,h,k⟩=>?_
  obtain⟨o1,e1,h⟩:=ah h
  obtain⟨⟨ds,S1⟩,h1,e1⟩:=ah e1
  dsimp only at e1
  split at e1
  . cases e1
  . rename_i w hi1 hnb
    obtain⟨hlen,e1⟩:=iQ e1
    obtain⟨r,h3,e1⟩:=aq e1
    cases e1
    have hil:i < S1.length:=(Zy.mp hnb).1
    refine⟨S,F,ds,S1,R,h1,fun J F1 H1 R1 st1 w=>?_⟩
    refine⟨fun n m ys H'=>∃bs:List Addr,ys=bs.map V.ref/\bs.length=n/\n<=ds.length/\m=ds.length - n/\gf F1 H1 F1 H'/\Sub F1 H'/\bs.Nodup/\∀c,c∈bs->H' c=some (.lst [])/\H1 c=none,⟨_,[],rfl,rfl,Z3 _,rfl,gf.refl ..,R1.sub,aa0,fun c hc=>(by cases hc)⟩,?_⟩
    rintro n m ys H' ⟨bs,rfl,Vq,hn,rfl,nw,sb,nd,hb⟩
    refine⟨by rw[Zw,Vq];exact aa8 (Z5 hn hlen) (by decide),?_⟩
    have w':=w F1 H' (fun _ _ z=>z) sb n
    by_cases hlt:n < ds.length
    . have hd:ds[n]? =some ds[n]:=Zz hlt
      obtain⟨go,yl⟩:=w'.1 _ hd
      refine .inr ⟨go,fun xv H3 y=>?_⟩
      obtain⟨rfl,rx⟩:=yl xv H3 y
      simp only[Qk,↓reduceIte]
      refine⟨by show 0<=_;exact Z3 _,fun p hp=>⟨ds.length - (n+1),by omega,bs++[p],by rw[aaa];rfl,by rw[ZZ,Vq];rfl,hlt,rfl,nw.trans (gf.obj hp _),sb.same (gf.obj (F:=F1) hp (.lst [])).same,?_,fun c hc=>?_⟩⟩
      . rw[abl]
        refine⟨nd,by simp,fun c hc d hd e=>?_⟩
        rw[ZG] at hd
        rw[<-e,] at hd
        rw[<-hd] at hp
        rw[(hb c hc).1] at hp
        cases hp
      . have old:H1 p=none:=none_of (fun b o z=>⟨o,nw.same b o z⟩) hp
        rcases Z2.mp hc with m | m
        . have ne:c≠p:=fun e=>by rw[e] at m;rw[(hb p m).1] at hp;cases hp
          exact⟨by rw[az ne];exact(hb c m).1,(hb c m).2⟩
        . rw[ZG.mp m]
          exact⟨aD,old⟩
    . have e:n=ds.length:=by omega
      subst e
      refine .inl ⟨w'.2 (ZM _),fun p hp=>?_⟩
      have old:H1 p=none:=none_of (fun b o z=>⟨o,nw.same b o z⟩) hp
      have Xf:=nw.trans (gf.obj (F:=F1) hp (.lst (bs.map V.ref)))
      have R2:=R1.new Xf (R1.sub.same Xf.same)
      have Xg:p∉bs:=fun m=>by rw[(hb p m).1] at hp;cases hp
      have fresh:∀c,H1 c=none->F1 c=none/\¬cA S1 σ c/\B.H c=none/\¬B.M c/\B.F c=none:=fun c hc=>by
        have fc:=R1.sub.fresh hc
        refine⟨fc,fun mm=>?_,none_of R1.ext.there hc,fun mm=>?_,?_⟩
        . obtain⟨o,ho⟩:=R1.has mm;rw[hc] at ho;cases ho
        . obtain⟨q,hq⟩:=abD mm
          obtain⟨g1,o,g2⟩:=R1.par q c hq
          obtain⟨v,g3,g4⟩:=R1.rep q _ g2
          rw[g1] at g3
          cases g3
          obtain⟨c',g5,_,g6⟩:=g4
          cases g5
          obtain⟨u,g7⟩:=g6.has
          rw[hc] at g7
          cases g7
        . cases e:B.F c with
          | none=>rfl
          | some o=>rw[R1.ext.le c o e] at fc;cases fc
      have RN:=J1 R2 hil (fun o z=>by rw[hnb] at z;cases z;exact hi1 _ rfl) aD (fun c hc=>by rw[az (fun e:c=p=>Xg (e▸hc))];exact(hb c hc).1) Xg nd fun c hc=>by
        rcases ZV.mp hc with rfl | m
        . exact fresh c old
        . exact fresh c (hb c m).2
      rw[Vq] at RN
      obtain⟨S2,nest,e4,rfl⟩:=xP h3 p
      refine⟨_,F1,p,_,S2,nest,RN,aad hil,e4,fun σ' F' H2 ⟨B2,cs,R3⟩ xM le=>?_⟩
      obtain⟨F3,R4,YD⟩:=R3.freeze xM
      exact⟨_,F3,o,R4,h,k.mono fun b o z=>YD b o (le b o (st1.ext.le b o z))⟩
  . cases e1⟩
end
noncomputable def xQ (gk gv:GD):GE:=fun S=>(gk S).bind fun p=>match p.1 with
 | .int k=>(gv p.2).map fun q=>(.m (.dct [(.inl k,q.1)]),q.2)
 | _=>none
section
variable {X:Cx}{e1 e2:Expr}{pos:Pos}{gk gv:GD}
def Gx (hk:JD X e1 gk) (hv:JD X e2 gv):JE X (.Dict [some e1] [e2] pos) (xQ gk gv):=⟨fun B=>(IX (Fb (hk.h B) (hv.h B) IW) rfl rfl (by simp) (by show 1<=15;decide)).imp fun σ H Q ⟨S,F,u,S',R,hg,q⟩=>by
 obtain⟨⟨d1,S1⟩,h1,hg⟩:=ah hg
 dsimp only at hg
 split at hg
 ·rename_i k
  obtain⟨⟨d2,S2⟩,h2,hg⟩:=aq hg
  cases hg
  intro p hp
  have n:=gf.obj (F:=F) hp (.dK [])
  have hn:¬cA S σ p:=fun m=>by obtain⟨o,ho⟩:=R.has m;rw[hp] at ho;cases ho
  refine⟨S,F,_,S1,R.new n (R.sub.same n.same),h1,fun v1 F1 H1 R1 st1 r1=>?_⟩
  refine⟨S1,F1,_,S2,R1,h2,fun v2 F2 H2 R2 st2 r2=>?_⟩
  have st:=st1.trans st2
  have hp1:H2 p=some (.dK []):=st.ext.keep p _ aD hn
  have hf1:F2 p=none:=st.ext.iw p _ aD hn (R.sub.fresh hp)
  have hn1:¬cA S2 σ p:=fun m=>hn (st.mu p m)
  have hB:B.H p=none:=none_of R.ext.there hp
  refine⟨hp1,[(.inl k,v2)],by rw[gj r1];rfl,by show 1<=15;decide,?_⟩
  have R3:=R2.U6 (o':=.dK (qN [] [(.inl k,v2)])) hn1 hf1 hB hp1 (fun _ _ z=>by cases z)
  refine q (.ref p) F2 _ R3 ⟨⟨st.ext.le,fun b o z m=>?_,fun b o z m f=>?_,fun b o z=>?_,fun b ob w z=>?_⟩,st.mu,st.slots⟩ ⟨p,rfl,hp,hf1,⟨_,aD,.cons ⟨rfl,r2⟩ .nil⟩,hn1,hB⟩
  ·have hb:b≠p:=aT z hp
   rw[az hb]
   exact st.ext.keep b o (by rw[az hb];exact z) m
  ·have hb:b≠p:=aT z hp
   exact st.ext.iw b o (by rw[az hb];exact z) m f
  ·have hb:b≠p:=aT z hp
   rw[az hb]
   exact st.ext.there b o (by rw[az hb];exact z)
  ·have hb:b≠p:=aT z hp
   rw[az hb]
   exact st.ext.jw b ob w (by rw[az hb];exact z)
 ·cases hg⟩
end
@[simp] theorem Q2 (gk gv:GD) (S:SS):xQ gk gv S=(gk S).bind fun p=>match p.1 with | .int k=>(gv p.2).map fun q=>(.m (.dct [(.inl k,q.1)]),q.2) | _=>none:=rfl
@[simp] theorem O3 (k x:D):qm [.lst [.tup [k,x]]]=(keyOf k).map fun q1=>.m (.dct [(q1,x)]):=rfl
section
variable {prog:Program}{w:World}{A:Around}{E:AAB}{s:Shared}
end
section
variable {X:Cx}{a b c e:Expr}{nm:Str}{pos p tpos:Pos}
end
def j8 (xs:Array Nat):Prop:=xs.toList.Pairwise (· < ·)
def tw (h:j8 xs)(hij:i < j) (hj:j < xs.size):xs.getD i 0 < xs.getD j 0:=by
 have:=(List.pairwise_iff_getElem.mp h) i j (by simpa using abg hij hj) (by simpa using hj) hij
 rw[Array.getElem_toList,Array.getElem_toList] at this
 rw[aaM,aaM,aaj hj,aaj (abg hij hj)]
 exact this
def Bl (xs:Array Nat) (j p:Nat):Prop:=p<=xs.size/\(∀i,i < p->xs.getD i 0 < j)/\∀i,p<=i->i < xs.size->j<=xs.getD i 0
theorem uD (xs : Array Nat) (j : Nat) (h : j8 xs) : ∀ (fuel lo hi : Nat), hi - lo <= fuel -> lo <= hi -> hi <= xs.size -> (∀ i, i < lo -> xs.getD i 0 < j) -> (∀ i, hi <= i -> i < xs.size -> j <= xs.getD i 0) -> Bl xs j (SetTable.below.go xs j fuel lo hi)
  | 0,lo,hi,hf,hl,hs,a,b=>by
    have:lo=hi:=by omega
    subst this
    exact⟨hs,a,b⟩
  | fuel+1,lo,hi,hf,hl,hs,a,b=>by
    have eg:SetTable.below.go xs j (fuel+1) lo hi=if lo < hi then(if xs.getD ((lo+hi) / 2) j < j then SetTable.below.go xs j fuel ((lo+hi) / 2+1) hi else SetTable.below.go xs j fuel lo ((lo+hi) / 2)) else lo:=rfl
    rw[eg]
    by_cases c:lo < hi
    . rw[if_pos c]
      have hm:(lo+hi) / 2 < hi:=by omega
      have hm2:lo<=(lo+hi) / 2:=by omega
      have e:xs.getD ((lo+hi) / 2) j=xs.getD ((lo+hi) / 2) 0:=by
        rw[aaM,aaM,aaj (by omega)]
        rfl
      rw[e]
      by_cases d:xs.getD ((lo+hi) / 2) 0 < j
      . rw[if_pos d]
        refine uD xs j h fuel _ hi (by omega) (by omega) hs (fun i hi'=>?_) b
        by_cases q:i=(lo+hi) / 2
        . rw[q];exact d
        . have:=tw h (i:=i) (j:=(lo+hi) / 2) (by omega) (by omega)
          omega
      . rw[if_neg d]
        refine uD xs j h fuel lo _ (by omega) (by omega) (by omega) a (fun i hi' hs'=>?_)
        by_cases q:i=(lo+hi) / 2
        . rw[q];omega
        . have:=tw h (i:=(lo+hi) / 2) (j:=i) (by omega) hs'
          omega
    . rw[if_neg c]
      have:lo=hi:=by omega
      subst this
      exact⟨hs,a,b⟩
def uE (h:j8 xs) (j:Nat):Bl xs j (SetTable.below xs j):=
 uD xs j h xs.size 0 xs.size (by omega) (by omega) (ZM _) (fun i h=>by omega) (fun i h1 h2=>by omega)
def getD_list (xs:Array Nat) (i:Nat):xs.getD i 0=xs.toList.getD i 0:=by
 rw[aaM,ZN,aaX]
def zM  (h : j8 xs)  (hn : xs[SetTable.below xs j]? ≠ some j) : j8 (SetTable.insertAt xs (SetTable.below xs j) j) := by
  obtain⟨p1,p2,p3⟩:=uE h j
  generalize SetTable.below xs j=p at *
  have e:(SetTable.insertAt xs p j).toList=xs.toList.take p++j :: xs.toList.drop p:=by
    unfold SetTable.insertAt
    simp[List.take_of_length_le]
  unfold j8
  rw[e,List.pairwise_append]
  have ht:∀a∈xs.toList.take p,a < j:=fun a ha=>by
    obtain⟨i,hi⟩:=abD ha
    have hl:=(Zy.mp hi).1
    rw[abX] at hl
    rw[ada (by omega)] at hi
    have:=p2 i (by omega)
    rw[getD_list,ZN,hi] at this
    exact this
  have hd:∀a∈xs.toList.drop p,j < a:=fun a ha=>by
    obtain⟨i,hi⟩:=abD ha
    rw[List.getElem?_drop] at hi
    have hl:p+i < xs.size:=by simpa using(Zy.mp hi).1
    have ge:=p3 (p+i) (by omega) hl
    rw[getD_list,ZN,hi] at ge
    have ge:j<=a:=ge
    have ne:a≠j:=fun q=>by
      subst q
      by_cases z:i=0
      . subst z
        rw[Nat.add_zero,aaX] at hi
        exact hn hi
      . have:=tw h (i:=p) (j:=p+i) (by omega) hl
        rw[getD_list,getD_list,ZN,ZN,hi] at this
        have q:=p3 p (ZM _) (by omega)
        rw[getD_list,ZN] at q
        simp only[ab0] at this
        omega
    omega
  refine⟨h.sublist (List.take_sublist _ _),List.pairwise_cons.mpr ⟨hd,h.sublist (List.drop_sublist _ _)⟩,fun a ha b hb=>?_⟩
  rcases ZV.mp hb with rfl | hb
  . exact ht a ha
  . exact abg (ht a ha) (hd b hb)
def Be (n:Nat):j8 (Array.range n):=by
 unfold j8
 rw[Array.toList_range]
 exact acw
def J5 {t:SetTable}(h:∀i,t.slot j≠.live i):t.place[SetTable.below t.place j]?≠some j:=fun e=>by
 refine h (SetTable.below t.place j) ?_
 unfold SetTable.slot
 simp only[e,adg,if_true]
theorem uF (t : SetTable) (hashAt : Nat -> Int) (hh : Int) : ∀ (fuel : Nat) (p : SetTable.Probe) (j : Nat) (dm : Option Nat), (∀ d, p.dummy = some d -> t.slot d = .dummy) -> SetTable.probe.go t hashAt hh fuel p = some (.empty j dm) -> t.slot j = .empty /\ ∀ d, dm = some d -> t.slot d = .dummy
  | 0,p,j,dm,hp,e=>by cases e
  | fuel+1,p,j,dm,hp,e=>by
    unfold SetTable.probe.go at e
    cases q:t.slot p.j with
    | empty=>
      rw[q] at e
      injection e with e
      injection e with e1 e2
      subst e1 e2
      exact⟨q,hp⟩
    | dummy=>
      rw[q] at e
      refine uF t hashAt hh fuel _ j dm (fun d hd=>?_) e
      have:(t.advance {p with dummy:=some p.j}).dummy=some p.j:=by
        unfold SetTable.advance
        split
        . rfl
        . rfl
      rw[this] at hd
      cases hd
      exact q
    | live i=>
      rw[q] at e
      dsimp only at e
      split at e
      . cases e
      . refine uF t hashAt hh fuel _ j dm (fun d hd=>hp d ?_) e
        have:(t.advance p).dummy=p.dummy:=by
          unfold SetTable.advance
          split
          . rfl
          . rfl
        rw[<-this];exact hd
def J6 {t:SetTable}{hh:Int}{b:Bool}(e:t.freeSlot hh=some (j,b)):t.place[SetTable.below t.place j]?≠some j:=by
 unfold SetTable.freeSlot at e
 split at e
 ·rename_i j' dm q
  obtain⟨s1,s2⟩:=uF t _ hh _ _ j' dm (fun d hd=>by cases hd) q
  injection e with e
  injection e with e1 e2
  subst e1
  refine J5 fun i=>?_
  cases dm with
  | none=>rw[show(Option.getD none j':Nat)=j' from rfl,s1];intro z;cases z
  | some d=>rw[show(Option.getD (some d) j':Nat)=d from rfl,s2 d rfl];intro z;cases z
 ·cases e
def l5 (t:SetTable) (n:Nat):j8 (t.standIn n).place:=Be n
def J7 {t:SetTable}(h:j8 t.place):j8 (t.orStandIn n).place:=by
 unfold SetTable.orStandIn
 split
 ·exact h
 ·exact l5 t n
def Nm {t:SetTable}:(t.orStandIn n).led=t.led:=by
 unfold SetTable.orStandIn
 split <;> rfl
def Gy {t:SetTable}{hh:Int}(h:j8 t.place):j8 (layNew t es hh x).2.1.place/\(layNew t es hh x).2.1.led=t.led:=by
 unfold layNew
 split
 ·rename_i j b e
  refine⟨J7 ?_,Nm⟩
  exact zM h (J6 e)
 ·exact⟨l5 _ _,rfl⟩
def DR {mask finger moves:Nat}{led plain:Bool}{hs:Array Int}{o:Array Nat}(e:SetTable.laid mask finger moves led plain hs=some (t',o)):j8 t'.place/\t'.led=led:=by
 unfold SetTable.laid at e
 obtain⟨owner,_,e⟩:=ah e
 injection e with e
 injection e with e1 e2
 subst e1
 refine⟨?_,rfl⟩
 unfold j8
 show List.Pairwise _ (List.map _ (List.filterMap _ (List.range (mask+1))))
 rw[acs,List.pairwise_filterMap]
 refine acw.imp fun {a b} hab c hc d hd=>?_
 obtain⟨q1,_,rfl⟩:=aq hc
 obtain⟨q2,_,rfl⟩:=aq hd
 exact hab
def Bg {t:SetTable}{wanted:Nat}:j8 (relayAll t es wanted).2.1.place/\(relayAll t es wanted).2.1.led=t.led:=by
 unfold relayAll
 split
 ·rename_i t' o e
  dsimp only
  split
  ·exact DR e
  ·exact⟨l5 _ _,rfl⟩
 ·exact⟨l5 _ _,rfl⟩
def Bh (h:j8 xs)(hi:i < xs.size):SetTable.below xs (xs.getD i 0+1)=i+1:=by
 obtain⟨p1,p2,p3⟩:=uE h (xs.getD i 0+1)
 generalize SetTable.below xs (xs.getD i 0+1)=p at *
 have a:¬p<=i:=fun q=>by
  have:=p3 i q hi
  omega
 have b:¬i+1 < p:=fun q=>by
  have:=p2 (i+1) q
  have:=tw h (i:=i) (j:=i+1) (by omega) (by omega)
  omega
 omega
def zN (h:j8 xs):SetTable.below xs 0=0:=by
 obtain⟨p1,p2,p3⟩:=uE h 0
 generalize SetTable.below xs 0=p at *
 apply Z1
 intro q
 have:=p2 0 (by omega)
 omega
noncomputable def pQ (w:World):Bool:=w.params.followText "set-order"
noncomputable def intOf:Value->Int
 | .int i _=>i
 | _=>0
structure IB (prog:Program) (w:World) (es:Array (Int×Value)) (t:SetTable) (ns:List Int):Prop where
 el:ElemsOf (intKind prog w) es.toList
 perm:(es.toList.map fun e=>intOf e.2).Perm ns
 few:es.size < scanBound
 fits:t.fits es.size=true
 rise:j8 t.place
 led:t.led=!pQ w
def lG (prog:Program) (w:World) (h:Heap) (a:Addr) (ns:List Int):Prop:=∃o es ep t,h.get? a=some o/\o.ExactSet/\o.data= .set es ep t/\IB prog w es t ns
def intKind_is {w:World}{k:Int}{v:Value}(h:(intKind prog w).is k v=true):intOf v=k:=by
 obtain⟨t,rfl⟩:=acp h
 rfl
def IB.mem {w:World}{t:SetTable}(h:IB prog w es t ns) (k:Int):k∈ns↔∃e∈es.toList,(intKind prog w).is k e.2=true:=by
 rw[<-h.perm.mem_iff,Z6]
 constructor
 ·rintro⟨e,he,rfl⟩
  obtain⟨⟨k,hk,_⟩,_⟩:=h.el e he
  rw[intKind_is hk]
  exact⟨e,he,hk⟩
 ·rintro⟨e,he,hk⟩
  exact⟨e,he,intKind_is hk⟩
section
variable {prog:Program}{w:World}{A:Around}{E:AAB}{s:Shared}
def uG {h:Heap}{ep:Nat}{t:SetTable}(ho:h.get? a=some o) (hex:o.ExactSet) (hd:o.data= .set es ep t)
  {es':Array (Int×Value)}(I:IB prog w es' t' ns'):
  (h.update a (Obj.putSet es' t')).get? a=some {o with data:=.set es' (ep+1) t'}/\lG prog w (h.update a (Obj.putSet es' t')) a ns':=by
 have hg:(h.update a (Obj.putSet es' t')).get? a=some {o with data:=.set es' (ep+1) t'}:=by
  have:=aao (Obj.putSet es' t') ho (by rw[putSet_of es' t' hd];rfl)
  rw[putSet_of es' t' hd] at this;exact this
 exact⟨hg,_,es',ep+1,t',hg,hex,rfl,I⟩
def zO {g : Bool -> Sem Unit} (hg : ∀ (b : Bool) (s₁ : Shared) (Q' : Unit -> Shared -> Prop), Q' () s₁ -> wpAny (model prog w) A (g b) Q' E s₁)
    {ep:Nat}{t:SetTable}(ho:s.heap.get? a=some o) (hex:o.ExactSet) (hd:o.data= .set es ep t)
    {es1:Array (Int×Value)}{t2:SetTable}(I:IB prog w es1 t2 ns'){wasDummy:Bool}{R:Option Bool->Shared->Prop}
    (h:∀h',Heap.SameBut a s.heap h'->lG prog w h' a ns'->R (some true) {s with heap:=h'}):
    wpAny (model prog w) A (do
        storeSet a es1 t2
        if(!wasDummy && t2.tooFull)=true then do
            g (relayAll t2 es1 (SetTable.grown es1.size)).2.2
            storeSet a (relayAll t2 es1 (SetTable.grown es1.size)).1 (relayAll t2 es1 (SetTable.grown es1.size)).2.1
            pure (some true)
          else pure (some true)) R E s:=by
  have hb1:=I.few
  refine Zv (wpAny_storeSet_of ho hd ?_ (ac5 hb1))
  obtain⟨Q3,Vp⟩:=uG ho hex hd I
  have Q4:=aaI s.heap a (Obj.putSet es1 t2)
  split
  . have hp:=relayAll_perm t2 es1 (SetTable.grown es1.size)
    have hfr:=relayAll_fits t2 es1 (SetTable.grown es1.size)
    obtain⟨Nn,Np⟩:=Bg (t:=t2) (es:=es1) (wanted:=SetTable.grown es1.size)
    generalize Zo:relayAll t2 es1 (SetTable.grown es1.size)=Rl at hp hfr Nn Np ⊢
    obtain⟨Xh,t3,Xi⟩:=Rl
    dsimp only at hp hfr Nn Np ⊢
    have hsz:Xh.size=es1.size:=by rw[<-aap,hp.length_eq,aap]
    have I2:IB prog w Xh t3 ns':=⟨I.el.perm hp,(hp.map _).trans I.perm,by rw[hsz];exact hb1,hfr,Nn,by rw[Np];exact I.led⟩
    refine Zv (hg _ _ _ ?_)
    refine Zv (wpAny_storeSet_of Q3 rfl ?_ (ac5 I2.few))
    obtain⟨_,xM⟩:=uG Q3 hex rfl I2
    exact wpAny_pure (h _ (Q4.trans (aaI _ a _)) xM)
  . exact wpAny_pure (h _ Q4 Vp)
def J8   {k : Int}  {Q : Bool -> Shared -> Prop} (hkey : (intKind prog w).is k x = true) (hsc : x.scannable = true) (hS : lG prog w s.heap a ns) (hroom : ns.length + 1 < scanBound)
    (h:∀h',Heap.SameBut a s.heap h'->lG prog w h' a (if k∈ns then ns else ns++[k])->Q (!decide (k∈ns)) {s with heap:=h'}):
    wpAny (model prog w) A (setAddHashed a x ((intKind prog w).hash k)) Q E s:=by
  obtain⟨o,es,ep,t,ho,hex,hd,I⟩:=hS
  have hn:es.size=ns.length:=by rw[<-aap,<-I.perm.length_eq,Zw]
  have hb1:es.size+1 < scanBound:=by rw[hn];exact hroom
  unfold setAddHashed setAddHashedIn
  refine aan (Zv (abm ho hd I.fits ?_))
  dsimp only
  rw[byScan_of hsc I.few I.el]
  simp only[↓reduceIte]
  unfold setAddByScan
  refine Zv ?_
  refine Zv (abi ?_)
  refine Zv (wpAny_setScan_of hkey ho hd I.fits I.el ?_)
  cases hr:List.findIdx? (fun e=>(intKind prog w).is k e.2) es.toList with
  | some j=>
    dsimp only
    obtain⟨hj,YE,_⟩:=List.findIdx?_eq_some_iff_getElem.mp hr
    have Q5:k∈ns:=(I.mem k).mpr ⟨es.toList[j],abp hj,YE⟩
    refine wpAny_pure (wpAny_pure ?_)
    have e:s={s with heap:=s.heap}:=by cases s;rfl
    have:=h s.heap (Heap.SameBut.refl a s.heap) (by rw[if_pos Q5];exact⟨o,es,ep,t,ho,hex,hd,I⟩)
    rw[aaC Q5] at this;rw[e];exact this
  | none=>
    dsimp only
    have Q5:k∉ns:=fun hk=>by
      obtain⟨e,he,hp⟩:=(I.mem k).mp hk
      have:=List.findIdx?_eq_none_iff.mp hr e he
      rw[hp] at this;exact Bool.noConfusion this
    have YF:∀(b:Bool){s₁:Shared}{Q':Unit->Shared->Prop},Q' () s₁->wpAny (model prog w) A (match b with | true=>rule "set.scan.the-table-gave-way" | false=>pure ()) Q' E s₁:=
      fun b s₁ Q' hq=>by cases b <;> first | exact wpAny_pure hq | exact abi hq
    have wF:=layNew_perm t es ((intKind prog w).hash k) x
    have Gz:=layNew_fits t es ((intKind prog w).hash k) x
    obtain⟨Nn,Np⟩:=Gy (es:=es) (hh:=(intKind prog w).hash k) (x:=x) I.rise
    generalize hL:layNew t es ((intKind prog w).hash k) x=L at wF Gz Nn Np ⊢
    obtain⟨es1,t1,wasDummy,gave⟩:=L
    dsimp only at wF Gz Nn Np ⊢
    rw[Array.toList_push] at wF
    have I1:IB prog w es1 t1 (ns++[k]):=by
      refine⟨(I.el.push hkey hsc).perm wF,?_,?_,Gz,Nn,by rw[Np];exact I.led⟩
      . refine(wF.map _).trans ?_
        rw[aaa,List.map_singleton,intKind_is hkey]
        exact I.perm.append (acj _)
      . rw[<-aap,wF.length_eq,ZZ,aap];simpa using hb1
    refine Zv (YF _ ?_)
    have hend:∀h',Heap.SameBut a s.heap h'->lG prog w h' a (ns++[k])->Q true {s with heap:=h'}:=by
      intro h' hsb hS'
      have:=h h' hsb (by rw[if_neg Q5];exact hS')
      rw[aaf Q5] at this
      exact this
    have off:IB prog w es1 {t1 with plain:=false} (ns++[k]):=⟨I1.el,I1.perm,I1.few,SetTable.fits_plain_off I1.fits,I1.rise,I1.led⟩
    split
    . refine Zv ?_
      rw[hashByValue_scannable 8 hsc]
      refine wpAny_pure ?_
      refine zO (ns':=ns++[k]) ?_ ho hex hd ?_ ?_
      . intro b s₁ Q' hq;cases b <;> first | exact wpAny_pure hq | exact abi hq
      . split
        . exact I1
        . exact off
      . intro h' hsb hS';dsimp only;exact wpAny_pure (hend h' hsb hS')
    . refine Zv (wpAny_pure ?_)
      simp only[↓reduceIte]
      refine zO (ns':=ns++[k]) ?_ ho hex hd I1 ?_
      . intro b s₁ Q' hq;cases b <;> first | exact wpAny_pure hq | exact abi hq
      . intro h' hsb hS';dsimp only;exact wpAny_pure (hend h' hsb hS')
end
noncomputable def lH (val:Nat->Int):Nat->List Int
 | 0=>[]
 | i+1=>if val i∈lH val i then lH val i else lH val i++[val i]
theorem Bj (val:Nat->Int):∀i,(lH val i).length<=i
 | 0=>ZM _
 | i+1=>by
  have:=Bj val i
  show(if val i∈lH val i then lH val i else lH val i++[val i]).length<=i+1
  split
  ·omega
  ·rw[ZZ,aaA];omega
theorem Bk (val:Nat->Int):∀i,(lH val i).Nodup
  | 0=>aa0
  | i + 1 => by
    have:=Bk val i
    show(if val i∈lH val i then lH val i else lH val i++[val i]).Nodup
    split
    . exact this
    . rename_i m
      rw[abl]
      exact⟨this,by simp,fun x hx y hy e=>m (by rw[ZG] at hy;rw[<-hy,<-e];exact hx)⟩
theorem Cm (val : Nat -> Int) (k : Int) : ∀ i, k ∈ lH val i ↔ ∃ j, j < i /\ val j = k
  | 0=>by simp[lH]
  | i + 1 => by
    have ih:=Cm val k i
    show k∈(if val i∈lH val i then lH val i else lH val i++[val i])↔_
    by_cases m:val i∈lH val i
    . rw[if_pos m,ih]
      constructor
      . rintro⟨j,h,e⟩;exact⟨j,by omega,e⟩
      . rintro⟨j,h,e⟩
        by_cases q:j=i
        . subst q;rw[e] at m;exact ih.mp m
        . exact⟨j,by omega,e⟩
    . rw[if_neg m,Z2,ih,ZG]
      constructor
      . rintro(⟨j,h,e⟩ | e)
        . exact⟨j,by omega,e⟩
        . exact⟨i,by omega,e.symm⟩
      . rintro⟨j,h,e⟩
        by_cases q:j=i
        . subst q;exact .inr e.symm
        . exact .inl ⟨j,by omega,e⟩
section
variable {prog:Program}{w:World}{A:Around}{R:Result->Shared->Prop}{I:Addr}{fp wr:List Addr}{G:Array GenState->Array GenState->Prop}{n:Nat}{P:Nat->Value->Prop}{St:Nat->Shared->Prop}
def DS (W:WalksS prog w A.in1 I fp wr G n P St) (S:Addr) (hSf:S∉fp) (val:Nat->Int) (hval:∀i v,P i v->∃t,v= .int (val i) t) (hb:n+1 < scanBound):
  ∀(k i:Nat) (s:Shared),n - i=k->i<=n->St i s->lG prog w s.heap S (lH val i)->
   (∀s',Moved (S :: wr) G s s'->lG prog w s'.heap S (lH val n)->R (.ok (.ret .none)) s')->
   codeAny (model prog w) A (.builtin "set.update.loop" ⟨[.ref S,.ref I],[]⟩) R s:=by
 have Tc:S∉wr:=fun h=>hSf (W.sub _ h)
 have hsub:∀b∈wr,b∈S :: wr:=fun b hb=>ZI _ hb
 have keep:∀{i:Nat}{s s':Shared},Moved wr G s s'->lG prog w s.heap S (lH val i)->lG prog w s'.heap S (lH val i):=
  fun hm ⟨o,es,ep,t,ho,rest⟩=>⟨o,es,ep,t,hm.heap S _ Tc ho,rest⟩
 intro k
 induction k with
 | zero=>
  intro i s hk hi hst hS hR
  obtain rfl:i=n:=by omega
  refine aaW F.entry_set_update_loop ?_
  rw[aaE aco _]
  show wpAny _ A.in1 (pyNext (.ref I) >>= _) _ _ s
  refine Zv (W.done s _ _ hst fun s' hm=>?_)
  show wpAny _ A.in1 (ret Value.none) _ _ s'
  exact wpAny_pure (hR s' (hm.mono hsub) (keep hm hS))
 | succ k ih=>
  intro i s hk hi hst hS hR
  have hlt:i < n:=by omega
  refine aaW F.entry_set_update_loop ?_
  rw[aaE aco _]
  show wpAny _ A.in1 (pyNext (.ref I) >>= _) _ _ s
  refine Zv (W.item i s _ _ hlt hst fun v s' hP Nj hm=>?_)
  obtain⟨t,rfl⟩:=hval i v hP
  have hS':=keep hm hS
  show wpAny _ A.in1 (holding [Value.int (val i) t] (setAdd S (.int (val i) t)) >>= _) _ _ s'
  refine Zv (aan ?_)
  unfold setAdd
  refine aan ?_
  have his:(intKind prog w).is (val i) (.int (val i) t)=true:=by show Value.isInt (val i) (.int (val i) t)=true;simp[Value.isInt]
  refine Zv ((intKind prog w).pyHash (k:=val i) his ?_)
  have hroom:(lH val i).length+1 < scanBound:=by have:=Bj val i;omega
  refine J8 his rfl hS' hroom fun h' hsb Vr=>?_
  have Vr:lG prog w h' S (lH val (i+1)):=Vr
  refine wpAny_pure ⟨abn aco _,ih (i+1) _ (by omega) hlt (W.frame _ s' _ _ Nj (abE _) fun b hb o e=>?_) Vr fun s'' Nk Nl=>?_⟩
  ·rw[hsb.2 b (fun h:b=S=>hSf (by rw[<-h];exact hb))];exact e
  ·refine hR s'' (Moved.trans W.gtrans ((hm.mono hsub).then_heap (abE _) fun b o hb e=>?_) Nk) Nl
   rw[hsb.2 b (fun h:b=S=>hb (by rw[h];exact ZJ))];exact e
end
section
variable {prog:Program}{w:World}{A:Around}{E:AAB}{s:Shared}
def GC (a:Value){Q₁:AAB}(h:Q₁ (.ref s.heap.objs.size) {s with heap:=s.heap.push (eY (!pQ w))}):
  codeAny (model prog w) A (.call (.builtin "set.__new__") ⟨[.type "set",a],[]⟩) (wants Q₁ E) s:=by
 refine codeAny_of_tree ?_
 show wpAny _ A.in1 (do checkBuiltinCall "set.__new__" ⟨[.type "set",a],[]⟩;again (.builtin "set.__new__" ⟨[.type "set",a],[]⟩)) _ _ s
 refine Zv (wpAny_of_eq (F.newCall_set_1 a) (wpAny_pure ⟨abn F.plain_set_new _,aaW F.entry_set_new ?_⟩))
 rw[aaE F.plain_set_new _]
 unfold Builtin.«set.__new__» Builtin.Frozenset.newClass
 have hsub:=sub_set_self
 obtain⟨hp,g,d,tk,os⟩:=s
 dsimp only
 wp_walk
 refine ab1 (wpAny_pure ?_)
 dsimp only
 simp only[newObj]
 refine Zv (wpAny_alloc (wpAny_pure ?_))
 exact wpAny_pure h
def zP:isSubtype (.type "tuple") (.type "set")=pure false:=by rw[abF];kernel_rfl
def zQ:isSubtype (.type "tuple") (.type "frozenset")=pure false:=by rw[abF];kernel_rfl
noncomputable def Q6:Bool->String
 | true=>"list"
 | false=>"tuple"
def nH.seq {k:Bool}{h:Heap}{a:Addr}{its:AAH}(x:nH k h a its):∃o,h.get? a=some o/\o.cls= .type (Q6 k)/\∃n,o.data= .seq its n:=by cases k <;> exact x
def Nq {k:Bool}(hh:A.handled=none) (I l:Addr) (hne:l≠I) (its:AAH):Walks prog w A I [I,l] [I] its.size (fun i v=>its[i]? =some v) (fun i h=>mL k h I l i/\nH k h l its):=by
 cases k
 ·exact Walks.tuple hh I l hne its
 ·exact Walks.list hh I l hne its
set_option maxHeartbeats 3200000 in
def wG {k : Bool} {l : Addr} {its : List Value}   (hh : A.handled = none) (hl : nH k s.heap l its.toArray) (hi : ∀ (i : Nat) (v : Value), its[i]? = some v -> ∃ t, v = Value.int (ns.getD i 0) t) (hb : its.length + 1 < scanBound)
    (h:∀(h':Heap) (tk:Nat),lG prog w h' s.heap.objs.size (lH (fun i=>ns.getD i 0) its.length)->
      (∀b o,b < s.heap.objs.size->s.heap.get? b=some o->h'.get? b=some o)->Q (.ref s.heap.objs.size) {s with heap:=h',toks:=tk}):
    wpAny (model prog w) A (call (.type "set") [.ref l]) Q E s:=by
  obtain⟨c,tl,YG⟩:=abH.mro
  have hmade:=abH.made
  have hsub:=abH.sub
  refine wpAny_call (codeAny_of_tree ?_)
  show wpAny _ _ (callAny (.type "set") _) _ _ _
  refine wpAny_pure ⟨Code.quiet_builtin _ (by decide +kernel),aaW F.entry_type_call ?_⟩
  rw[Around.under_plain (weight_type_call_type "set" [.ref l] []) rfl]
  have h1:=abH.notType
  have h2:=abH.canCreate
  have hct:=F.typeCall_set_1 (.ref l)
  repeat (any_goals (first | assumption | wp_step))
  refine ace (GC (.ref l) (E:=E) (Q₁:=fun obj s₁=>obj= .ref s.heap.objs.size/\s₁={s with heap:=s.heap.push (eY (!pQ w))}) ⟨rfl,rfl⟩) fun r s₁ hr=>?_
  cases r with
  | error e=>exact hr
  | ok fl =>
    cases fl with
    | ret obj =>
      obtain⟨rfl,rfl⟩:=hr
      have hS:(s.heap.push (eY (!pQ w))).get? s.heap.objs.size=some (eY (!pQ w)):=ZT _ rfl
      have hT:Shared.TypeIs {s with heap:=s.heap.push (eY (!pQ w))} (.ref s.heap.objs.size) "set":=⟨_,hS,rfl⟩
      have hli:=abH.init.lookup
      have hbi:=abH.init.bind (.ref s.heap.objs.size)
      repeat (any_goals (first | assumption | wp_step))
      refine ace (codeAny_call_builtin (R:=wants (fun r s₂=>r= .none/\∃h' tk,s₂={s with heap:=h',toks:=tk}/\
          lG prog w h' s.heap.objs.size (lH (fun i=>ns.getD i 0) its.length)/\
          (∀b o,b < s.heap.objs.size->s.heap.get? b=some o->h'.get? b=some o)) E) abH.init.plain F.entry_set_init (check_set_init_1 hT ?_)) fun r₂ s₂ GF=>?_
      . obtain⟨ol,Td,hcl,nl,hdl⟩:=hl.seq
        obtain⟨YH,Q7,Xj,Nr⟩:=ol
        simp only at hcl hdl
        subst hcl;subst hdl
        have YI:(s.heap.push (eY (!pQ w))).get? l=some {cls:=.type (Q6 k),dict:=Q7,data:=.seq its.toArray nl,slots:=Nr}:=Zx _ Td
        have YJ:isSubtype (.type (Q6 k)) (.type "set")=pure false:=by cases k;exact zP;exact F.sub_list_set
        have YK:isSubtype (.type (Q6 k)) (.type "frozenset")=pure false:=by cases k;exact zQ;exact F.sub_list_frozenset
        have hne:(Value.type (Q6 k) == Value.type "dict")=false:=by cases k <;> decide
        have hl1:nH k (s.heap.push (eY (!pQ w))) l its.toArray:=hl.at fun o e=>Zx _ e
        unfold Builtin.«set.__init__» noKeywords Builtin.Frozenset.updateFrom
        generalize YL:pyIter=PI
        wp_walk
        subst YL
        refine Gd hl1 ?_
        refine Zv (wpAny_runValue ?_)
        have hlS:l < s.heap.objs.size:=ZP Td
        have YM:A.in1.in1.in1.handled=none:=by simp[hh]
        have Vs:l≠(s.heap.push (eY (!pQ w))).objs.size:=by
          rw[aaD];exact ZY (abR hlS)
        have hSf:s.heap.objs.size∉[(s.heap.push (eY (!pQ w))).objs.size,l]:=by
          rw[aaD];simp only[ZV,ZG,aaG,abM,not_or]
          exact⟨ZY (abZ _),abe hlS⟩
        have hb':its.toArray.size+1 < scanBound:=by rw[ZL];exact hb
        have hval:∀(i:Nat) (v:Value),its.toArray[i]? =some v->∃t,v= .int ((fun i=>ns.getD i 0) i) t:=fun i v hv=>hi i v (by simpa using hv)
        refine DS ((Nq YM _ l Vs its.toArray).toS) s.heap.objs.size
          hSf (fun i=>ns.getD i 0) hval hb' (its.toArray.size - 0) 0 _ (by omega) (Z3 _)
          ⟨mL.new k _ l,hl1.at fun o e=>Zx _ e⟩ ?xE ?hR
        case xE=>
          have hget:((s.heap.push (eY (!pQ w))).push (DF k l)).get? s.heap.objs.size=some (eY (!pQ w)):=Zx _ hS
          exact⟨_,_,_,_,hget,⟨rfl,rfl,rfl⟩,rfl,⟨fun e he=>by simp at he,acj _,by show 0 < scanBound;unfold scanBound;omega,rfl,List.Pairwise.nil,rfl⟩⟩
        case hR=>
          intro s' hm hS'
          rw[ZL] at hS'
          obtain⟨h',g',d',tk',os'⟩:=s'
          have eg:g'=s.gens:=hm.gens
          have ed:d'=s.drawn:=hm.drawn
          have eo:os'=s.os:=hm.os
          subst eg;subst ed;subst eo
          show wpAny _ _ _ _ _ _
          refine wpAny_pure ?_
          show wpAny _ _ (ret Value.none) _ _ _
          refine wpAny_pure ⟨rfl,h',tk',rfl,hS',fun b o hb e=>?_⟩
          have hb1:b≠s.heap.objs.size:=ZY hb
          have hb2:b≠(s.heap.push (eY (!pQ w))).objs.size:=by
            rw[aaD];exact ZY (abR hb)
          exact hm.heap b o (by simp only[ZV,ZG,aaG,abM,not_or];exact⟨hb1,hb2⟩) (Zx _ (Zx _ e))
      . cases r₂ with
        | error e=>exact GF
        | ok Q8=>
          cases Q8 with
          | ret r=>
            obtain⟨rfl,h',tk,rfl,hS',hk'⟩:=GF
            repeat (any_goals (first | assumption | wp_step))
            exact h _ _ hS' hk'
          | _=>exact GF.elim
    | _=>exact hr.elim
end
end L2
end
section
namespace L2
open PySem PySem.Spec PyProof.Rows PySem.Calls
variable {i n slot:Nat}{f0:Value}{Q:Option Value->Shared->Prop}{pl:List Nat}
noncomputable def slotAt (place:Array Nat) (i:Nat):Nat:=if i=0 then 0 else place.getD (i - 1) 0+1
def Bm {place:Array Nat}(h:j8 place)(hi:i<=place.size):SetTable.below place (slotAt place i)=i:=by
 unfold slotAt
 split
 ·rename_i e;subst e;exact zN h
 ·rename_i e
  rw[Bh h (by omega)]
  omega
def Cn {α:Type}{l:List α}(h:i < l.length):(l[i] :: l.eraseIdx i).Perm l:=by
 rw[List.eraseIdx_eq_take_drop_succ]
 have e:l=l.take i++l[i] :: l.drop (i+1):=by rw[List.getElem_cons_drop,List.take_append_drop]
 conv=>rhs;rw[e]
 exact List.perm_middle.symm
theorem Co {α:Type}(f:Nat->Nat):∀(fuel k:Nat) (left:List α) (out:Array α),left.length=fuel->(pickOrder.go f fuel k left out).toList.Perm (out.toList++left)
 | 0,k,left,out,h=>by
  have:left=[]:=adq.mp h
  subst this
  show out.toList.Perm (out.toList++[])
  rw[abJ]
 | fuel+1,k,left,out,h=>by
  have hl:f k % left.length < left.length:=ady _ (by omega)
  show(match left[f k % left.length]? with | some x=>pickOrder.go f fuel (k+1) (left.eraseIdx (f k % left.length)) (out.push x) | none=>out).toList.Perm _
  rw[Zz hl]
  refine(Co f fuel (k+1) _ _ (by rw[ac1 hl];omega)).trans ?_
  rw[Array.toList_push,aar]
  refine List.Perm.append (acj _) ?_
  show(left[f k % left.length] :: left.eraseIdx (f k % left.length)).Perm left
  exact Cn hl
def DT {α:Type}(f:Nat->Nat) (xs:Array α):(pickOrder f xs).toList.Perm xs.toList:=by
 have:=Co f xs.size 0 xs.toList #[] (by simp)
 rw[show(#[]:Array α).toList++xs.toList=xs.toList from rfl] at this
 exact this
def GG (h:Heap) (a:Addr) (es:Array (Int×Value)) (ep:Nat) (t:SetTable):Prop:=∃o,h.get? a=some o/\o.ExactSet/\o.data= .set es ep t
def O4 (h:Heap) (I a:Addr) (f0:Value) (i n ep:Nat):Prop:=h.get? I=some {cls:=.type "set_iterator",dict:=none,data:=.fields #[f0,.int i 0,.ref a,.int n 0,.int ep 0],slots:=#[]}
noncomputable def qV (w:World) (a:Addr) (es:Array (Int×Value)) (ep:Nat):List (Int×Value):=if pQ w then(pickOrder (w.params.setOrder a ep) es).toList else es.toList
def wH (w:World) (a:Addr) (es:Array (Int×Value)) (ep:Nat):(qV w a es ep).Perm es.toList:=by
 unfold qV
 split
 ·exact DT _ _
 ·exact acj _
section
variable {prog:Program}{w:World}{A:Around}{E:AAB}{s:Shared}{a I:Addr}{es:Array (Int×Value)}{ep:Nat}{t:SetTable}
def O4.typeIs (h:O4 s.heap I a f0 i n ep):s.TypeIs (.ref I) "set_iterator":=⟨_,h,rfl⟩
def Nx (w:World) (t:SetTable) (i:Nat):Option (Value×Nat)->Option (Int×Value)->Prop
 | some (x,j),some e=>x=e.2/\(pQ w=true\/j=slotAt t.place (i+1))
 | none,none=>True
 | _,_=>False
theorem Nt (hb:pQ w=true):∀z:Option (Int×Value),Nx w t i (z.map fun e=>(e.2,slot)) z
 | none=>trivial
 | some _=>⟨rfl,.inl hb⟩
def GH   {Q : Option (Value × Nat) -> Shared -> Prop} (hS : GG s.heap a es ep t) (hf : t.fits es.size = true) (hr : j8 t.place) (DU : t.led = !pQ w) (hpl : pQ w = true \/ (!t.plain && decide (es.size > 1)) = false) (hi : i <= es.size) (hsl : pQ w = true \/ slot = slotAt t.place i)
    (q:∀r,Nx w t i r ((qV w a es ep)[i]?)->Q r s):wpAny (model prog w) A (setNext a slot i ep) Q E s:=by
  obtain⟨o,ho,hex,hd⟩:=hS
  have hps:t.place.size=es.size:=by
    unfold SetTable.fits at hf
    rw[aaP] at hf
    simpa using hf.1
  unfold setNext
  refine Zv (abm ho hd hf ?_)
  unfold setsByText
  refine Zv (Zv (ab1 (wpAny_pure ?_)))
  refine aag (fun hb=>?_) fun hb=>?_
  . have hb':pQ w=true:=hb
    refine aag (fun h=>absurd h (by simp)) fun _=>?_
    refine Zv ?_
    unfold setWalk
    refine Zv (abm ho hd hf ?_)
    unfold setsByText
    refine Zv (Zv (ab1 (wpAny_pure ?_)))
    refine aag (fun _=>?_) fun h=>absurd hb h
    refine Zv (ab1 (wpAny_pure ?_))
    refine wpAny_pure (q _ ?_)
    unfold qV
    rw[if_pos hb',aaX]
    exact Nt hb' _
  . have hb':pQ w=false:=by
      cases e:pQ w with
      | false=>rfl
      | true=>exact absurd e hb
    refine aag (fun h=>?_) fun _=>?_
    . rcases hpl with z | z
      . rw[hb'] at z;cases z
      . exact absurd (show(!t.plain && decide (es.size > 1))=true from h) (by rw[z];decide)
    refine Zv ?_
    refine aas (Q:=fun _ s'=>s'=s) (E:=fun _ _=>False) ?_ (fun _ s' e=>?_) fun _ _ h=>h.elim
    . show wpAny _ _ (if(!t.led && !es.isEmpty)=true then _ else _) _ _ _
      refine aag (fun h=>?_) fun _=>wpAny_pure rfl
      rw[DU,hb'] at h
      simp at h
    . subst e
      have es1:slot=slotAt t.place i:=by
        rcases hsl with z | z
        . rw[hb'] at z;cases z
        . exact z
      have bl:SetTable.below t.place slot=i:=by rw[es1];exact Bm hr (by omega)
      refine wpAny_pure (q _ ?_)
      rw[bl]
      unfold qV
      rw[hb',if_neg (by decide),aaX]
      by_cases c:i < es.size
      . rw[aaj c,aaj (by omega:i < t.place.size)]
        refine⟨rfl,.inr ?_⟩
        unfold slotAt
        rw[if_neg (by omega),Nat.add_sub_cancel,aaM,aaj (by omega:i < t.place.size)]
        rfl
      . rw[Array.getElem?_eq_none (by omega)]
        trivial
end
section
variable {prog:Program}{w:World}{A:Around}{E:AAB}{s:Shared}{a I:Addr}{es:Array (Int×Value)}{ep:Nat}{t:SetTable}
def Vt (w:World) (a I:Addr) (es:Array (Int×Value)) (ep:Nat) (t:SetTable) (i:Nat) (h:Heap):Prop:=∃slot:Nat,O4 h I a (.int slot 0) i es.size ep/\GG h a es ep t/\(pQ w=true\/slot=slotAt t.place i)
def LM (hh:A.handled=none) (U9:O4 s.heap I a f0 i n ep) (hQ:∀h',Heap.ExtBut I s.heap h'->Q none {s with heap:=h'}):
    wpAny (model prog w) A.in1 (do
          setField (Value.ref I,([]:AAI)).fst 2 Value.none
          let e <-newExc (Value.type "StopIteration") []
          (raiseNew e:Sem Fin)) (fun fin s'=>∃v,fin=Fin.done (Flow.ret v)/\wpAny (model prog w) A (pure (some v)) Q E s') (fun e s'=>wpAny (model prog w) A (do
                  let b <-isInstance e (Value.type "StopIteration")
                  if b=true then pure none else throw e) Q E s') s:=by
  refine Zv (wpAny_setField U9 rfl (by simp) ?_)
  refine Zv ?_
  simp only[newExc,newTuple]
  refine Zv (aaS ?_ (by size_fits))
  refine Zv (m:=firstArgMember _ _) (wpAny_of_eq (a:=Value.none) (by first | rfl | (simp only[firstArgMember];rfl)) ?_)
  refine aaS ?_ (by size_fits)
  simp only[raiseNew]
  refine Zv (wpAny_handled ?_)
  rw[show A.in1.handled=none from hh]
  refine Zv (wpAny_pure (wpAny_throw ?_))
  refine Zv (aaR (T:="StopIteration") (b:=true) ⟨_,ZT _ rfl,rfl⟩ aci ?_)
  exact wpAny_pure (hQ _ (((aaI ..).extBut.push _).push _))
def LN (hh:A.handled=none) (st:Vt w a I es ep t i s.heap) (haI:a≠I) (hf:t.fits es.size=true) (hr:j8 t.place) (DU:t.led=!pQ w) (hpl:pQ w=true\/(!t.plain && decide (es.size > 1))=false) (hi:i<=es.size)
  (q1:∀e h',(qV w a es ep)[i]? =some e->Vt w a I es ep t (i+1) h'->Heap.SameBut I s.heap h'->Q (some e.2) {s with heap:=h'})
  (q2:∀h',(qV w a es ep)[i]? =none->Heap.ExtBut I s.heap h'->Q none {s with heap:=h'}):wpAny (model prog w) A (pyNext (.ref I)) Q E s:=by
 obtain⟨slot,hit,hS,hsl⟩:=st
 obtain⟨o,ho,hex,hd⟩:=id hS
 unfold pyNext
 refine Zv (acz (aaO (name:=Str.ofString "__next__") hit.typeIs cP
  (aaF cP hit.typeIs lF ?_ (mO _))))
 unfold Builtin.«set_iterator.__next__»
 refine Zv (wpAny_pure ?_)
 refine Zv (wpAny_fieldsOf hit rfl ?_)
 refine Zv (acQ ho hd hf ?_)
 refine aag (fun h=>absurd h (by simp)) fun _=>?_
 show wpAny _ _ (setNext a slot i ep >>= _) _ _ _
 refine Zv (GH hS hf hr DU hpl hi hsl fun r hr=>?_)
 cases r with
 | none=>
  refine LM hh hit fun h' he=>q2 h' ?_ he
  cases e:(qV w a es ep)[i]? with
  | none=>rfl
  | some e'=>rw[e] at hr;exact hr.elim
 | some p=>
  obtain⟨x,j⟩:=p
  cases e:(qV w a es ep)[i]? with
  | none=>rw[e] at hr;exact hr.elim
  | some e'=>
   rw[e] at hr
   obtain⟨rfl,hj⟩:=hr
   refine Zv (aay hit (by simp) fun h1 z1 e1=>?_)
   refine Zv (aay z1 (by simp) fun h2 z2 e2=>?_)
   have e1:Heap.SameBut I s.heap h1:=e1
   have e2:Heap.SameBut I h1 h2:=e2
   refine wpAny_pure ⟨_,rfl,wpAny_pure ?_⟩
   refine q1 e' h2 e ⟨j,z2,⟨o,(e2.2 a haI).trans ((e1.2 a haI).trans ho),hex,hd⟩,hj⟩ (e1.trans e2)
end
section
variable {prog:Program}{w:World}{A:Around}{E:AAB}{s:Shared}{a I T:Addr}{es:Array (Int×Value)}{ep:Nat}{t:SetTable}
def xR {src:Source}{Q:Nat->Shared->Prop}(hn:n≠0) (h:∀i d',i < n->Q i {s with drawn:=d'}):wpAny (model prog w) A (choose src n) Q E s:=fun Γ p hΓ=>by
 show Sem.wp _ _ (Sem.choose src n Sem.pure) _ _ _ _
 rw[Sem.wp_choose]
 exact⟨hn,wpAny_pure (h _ _ (ady _ (Nat.pos_of_ne_zero hn))) Γ p hΓ⟩
theorem uH {α:Type}:∀(n:Nat) (xs:List α) (s:Shared) (Q:List α->Shared->Prop),xs.length=n->(∀out d',out.Perm xs->Q out {s with drawn:=d'})->wpAny (model prog w) A (drawOrder n xs) Q E s
 | 0,xs,s,Q,hl,h=>by
  have:xs=[]:=adq.mp hl
  subst this
  unfold drawOrder
  exact wpAny_pure (h [] s.drawn (acj _))
 | n+1,[],s,Q,hl,h=>by cases hl
 | n+1,x :: xs,s,Q,hl,h=>by
  unfold drawOrder
  refine Zv (xR (by simp) fun i d' hi=>?_)
  rw[Zz hi]
  refine Zv (uH n ((x :: xs).eraseIdx i) {s with drawn:=d'} _ (by rw[ac1 hi];omega) fun out d2 hp=>?_)
  exact wpAny_pure (h _ d2 ((List.Perm.cons _ hp).trans (Cn hi)))
noncomputable def kP (pl:List Nat):Array Value:=(pl.map fun(i:Nat)=>rawInt i).toArray
def Vu (a I T:Addr) (es:Array (Int×Value)) (ep:Nat) (t:SetTable) (pl:List Nat) (i:Nat) (h:Heap):Prop:=O4 h I a (.ref T) i es.size ep/\TupAt h T (kP pl)/\GG h a es ep t
noncomputable def sO (es:Array (Int×Value)) (pl:List Nat):List (Int×Value):=pl.filterMap fun i=>es[i]?
theorem uI {es:Array (Int×Value)}:∀{pl:List Nat},(∀p∈pl,p < es.size)->∀i:Nat,(sO es pl)[i]? =(pl[i]?).bind fun(p:Nat)=>es[p]?
  | [],_,i=>by simp[sO]
  | p :: pl, h, i => by
    have hp:=h p ZJ
    have e:sO es (p :: pl)=es[p] :: sO es pl:=by
      show List.filterMap _ (p :: pl)=_
      rw[ab5,aaj hp]
      rfl
    rw[e]
    cases i with
    | zero=>simp[hp]
    | succ i=>simpa using uI (es:=es) (pl:=pl) (fun q hq=>h q (ZI _ hq)) i
def DV (h:pl.Perm (List.range es.size)):(sO es pl).Perm es.toList:=by
 have e:sO es (List.range es.size)=es.toList:=by
  apply aaT
  intro k
  rw[uI (fun p hp=>ZS.mp hp) k]
  by_cases c:k < es.size
  ·rw[ZX c,aaX]
   rfl
  ·rw[Z0 (by rw[ZK];omega),Z0 (by simpa using c)]
   rfl
 rw[<-e]
 exact h.filterMap _
def LO (hh:A.handled=none) (st:Vu a I T es ep t pl i s.heap) (haI:a≠I) (hTI:T≠I) (hf:t.fits es.size=true) (hp:pl.Perm (List.range es.size))
  (q1:∀e h',(sO es pl)[i]? =some e->Vu a I T es ep t pl (i+1) h'->Heap.SameBut I s.heap h'->Q (some e.2) {s with heap:=h'})
  (q2:∀h',(sO es pl)[i]? =none->Heap.ExtBut I s.heap h'->Q none {s with heap:=h'}):wpAny (model prog w) A (pyNext (.ref I)) Q E s:=by
 obtain⟨hit,hT,hS⟩:=st
 obtain⟨o,ho,hex,hd⟩:=id hS
 have lt:∀p∈pl,p < es.size:=fun p h=>ZS.mp (hp.mem_iff.mp h)
 have og:=uI lt i
 unfold pyNext
 refine Zv (acz (aaO (name:=Str.ofString "__next__") hit.typeIs cP
  (aaF cP hit.typeIs lF ?_ (mO _))))
 unfold Builtin.«set_iterator.__next__»
 refine Zv (wpAny_pure ?_)
 refine Zv (wpAny_fieldsOf hit rfl ?_)
 refine Zv (acQ ho hd hf ?_)
 refine aag (fun h=>absurd h (by simp)) fun _=>?_
 refine Zv (aaK hT rfl ?_)
 have pg:(kP pl)[i]? =(pl[i]?).map fun(p:Nat)=>rawInt p:=by
  unfold kP
  rw[List.getElem?_toArray,ZF]
 show wpAny _ _ (match(kP pl)[i]? with
  | some (.int place _)=>_
  | some _=>_
  | none=>_) _ _ _
 rw[pg]
 cases hpi:pl[i]? with
 | none=>
  rw[hpi] at og
  refine Zv (aay hit (by simp) fun h1 z1 e1=>?_)
  have e1:Heap.SameBut I s.heap h1:=e1
  exact LM (f0:=rawInt 0) (i:=i) (n:=es.size) hh z1 fun h' he=>q2 h' og fun b o hb e=>he b o hb (e1.extBut b o hb e)
 | some p=>
  rw[hpi] at og
  have hlt:=lt p (ZO hpi)
  have og:(sO es pl)[i]? =some es[p]:=by rw[og];exact aaj hlt
  show wpAny _ _ (setNextDrawn a p ep >>= _) _ _ _
  refine Zv ?_
  unfold setNextDrawn
  refine Zv (abm ho hd hf ?_)
  refine aag (fun h=>absurd h (by simp)) fun _=>?_
  rw[aaj hlt]
  refine wpAny_pure ?_
  refine Zv (aay hit (by simp) fun h1 z1 e1=>?_)
  have e1:Heap.SameBut I s.heap h1:=e1
  refine wpAny_pure ⟨_,rfl,wpAny_pure ?_⟩
  exact q1 es[p] h1 og ⟨z1,(e1.2 T hTI).trans hT,⟨o,(e1.2 a haI).trans ho,hex,hd⟩⟩ e1
end
section
variable {prog:Program}{w:World}{A:Around}{E:AAB}{s:Shared}{a I T:Addr}{es:Array (Int×Value)}{ep:Nat}{t:SetTable}
def uJ {Q:AAB}(st:O4 s.heap I a f0 i n ep) (hQ:Q (.ref I) s):wpAny (model prog w) A (pyIter (.ref I)) Q E s:=by
 refine ac4 st.typeIs mQ (aaF mQ st.typeIs qT ?_ (sL _))
 show wpAny _ _ (ret (.ref _)) _ _ s
 exact wpAny_pure ⟨_,rfl,"set_iterator",_,st.typeIs,cP.lookup,hQ⟩
def Q9 (hh:A.handled=none) (haI:a≠I) (hf:t.fits es.size=true) (hr:j8 t.place) (DU:t.led=!pQ w) (hpl:pQ w=true\/(!t.plain && decide (es.size > 1))=false):
  Walks prog w A I [I,a] [I] (qV w a es ep).length (fun i v=>∃e,(qV w a es ep)[i]? =some e/\v=e.2) (fun i h=>Vt w a I es ep t i h/\i<=es.size) where
 sub:=fun b hb=>by simp at hb;simp[hb]
 frame:=fun i h h' st k=>by
  obtain⟨⟨slot,h1,⟨o,h2,h3⟩,h4⟩,hi⟩:=st
  exact⟨⟨slot,k I (by simp) _ h1,⟨o,k a (by simp) _ h2,h3⟩,h4⟩,hi⟩
 item:=fun i s Q E hi st hQ=>by
  have hl:(qV w a es ep).length=es.size:=by rw[(wH w a es ep).length_eq,aap]
  refine LN hh st.1 haI hf hr DU hpl st.2 (fun e h' he st' sb=>?_) (fun h' he _=>?_)
  ·exact hQ e.2 h' s.toks ⟨e,he,rfl⟩ ⟨st',by omega⟩ fun b o hb q=>(sb.2 b (by simpa using hb)).trans q
  ·rw[Zz hi] at he;cases he
 done:=fun s Q E st hQ=>by
  refine LN hh st.1 haI hf hr DU hpl st.2 (fun e h' he st' sb=>?_) (fun h' he xb=>?_)
  ·have:=(Zy.mp he).1;omega
  ·exact hQ h' s.toks fun b o hb q=>xb b o (by simpa using hb) q
 self:=fun i s Q E st hQ=>by
  obtain⟨⟨slot,h1,_⟩,_⟩:=st
  exact uJ h1 hQ
def Rb (hh:A.handled=none) (haI:a≠I) (hTI:T≠I) (hf:t.fits es.size=true) (hp:pl.Perm (List.range es.size)):
  Walks prog w A I [I,a,T] [I] (sO es pl).length (fun i v=>∃e,(sO es pl)[i]? =some e/\v=e.2) (fun i h=>Vu a I T es ep t pl i h) where
 sub:=fun b hb=>by simp at hb;simp[hb]
 frame:=fun i h h' st k=>by
  obtain⟨h1,h2,o,h3,h4⟩:=st
  exact⟨k I (by simp) _ h1,k T (by simp) _ h2,o,k a (by simp) _ h3,h4⟩
 item:=fun i s Q E hi st hQ=>by
  refine LO hh st haI hTI hf hp (fun e h' he st' sb=>?_) (fun h' he _=>?_)
  ·exact hQ e.2 h' s.toks ⟨e,he,rfl⟩ st' fun b o hb q=>(sb.2 b (by simpa using hb)).trans q
  ·rw[Zz hi] at he;cases he
 done:=fun s Q E st hQ=>by
  refine LO hh st haI hTI hf hp (fun e h' he st' sb=>?_) (fun h' he xb=>?_)
  ·have:=(Zy.mp he).1;omega
  ·exact hQ h' s.toks fun b o hb q=>xb b o (by simpa using hb) q
 self:=fun i s Q E st hQ=>uJ st.1 hQ
def Rf {ns : List Int} {Q : Value -> Shared -> Prop} (hh : A.handled = none) (hS : lG prog w s.heap a ns)
    (h:∀(I:Addr) (h':Heap) (d':Drawn) (ord:List (Int×Value)) (fp:List Addr) (St:Nat->Heap->Prop),(ord.map fun e=>intOf e.2).Perm ns->(∀e∈ord,∃tk,e.2= .int (intOf e.2) tk)->s.heap.objs.size<=I->(∀b∈fp,b=a\/s.heap.objs.size<=b)->
      Walks prog w A I fp [I] ord.length (fun i v=>∃e,ord[i]? =some e/\v=e.2) St->St 0 h'->(∀b o,s.heap.get? b=some o->h'.get? b=some o)->Q (.ref I) {s with heap:=h',drawn:=d'}):
    wpAny (model prog w) A (pyIter (.ref a)) Q E s:=by
  obtain⟨o,es,ep,t,ho,hex,hd,X⟩:=hS
  have hT:s.TypeIs (.ref a) "set":=⟨o,ho,hex.1⟩
  have alt:a < s.heap.objs.size:=ZP ho
  have vals:∀ord:List (Int×Value),ord.Perm es.toList->(ord.map fun e=>intOf e.2).Perm ns/\∀e∈ord,∃tk,e.2= .int (intOf e.2) tk:=fun ord hp=>⟨(hp.map _).trans X.perm,fun e he=>by
    obtain⟨⟨k,hk,_⟩,_⟩:=X.el e (hp.mem_iff.mp he)
    obtain⟨tk,e'⟩:=acp hk
    exact⟨tk,by rw[e'];rfl⟩⟩
  refine ac4 hT PySem.F.slot_set_iter (aaF PySem.F.slot_set_iter hT xN ?_ (PySem.F.args_set_iter_1 _))
  unfold Builtin.«frozenset.__iter__»
  refine Zv (wpAny_pure ?_)
  refine Zv ?_
  unfold Builtin.Frozenset.sizeOf
  refine Zv (acQ ho hd X.fits (wpAny_pure ?_))
  refine Zv ?_
  unfold setDrawn
  refine Zv (abm ho hd X.fits ?_)
  unfold setsByText
  refine Zv (Zv (ab1 (wpAny_pure (wpAny_pure ?_))))
  refine aag (fun hc=>?_) fun hc=>?_
  . refine Zv (uH es.size (List.range es.size) s _ (by rw[ZK]) fun pl d' hp=>?_)
    refine Zv (wpAny_newTuple ?_ (hsz:=by rw[Zw,hp.length_eq,ZK];exact ac5 X.few))
    have Q3:(s.heap.push {cls:=.type "tuple",data:=.seq (kP pl)}).get? a=some o:=Zx _ ho
    refine Zv (wpAny_setEpoch_of (s:={s with heap:=s.heap.push {cls:=.type "tuple",data:=.seq (kP pl)},drawn:=d'}) Q3 hd X.fits ?_)
    have hz:(s.heap.push {cls:=.type "tuple",data:=.seq (kP pl)}).objs.size=s.heap.objs.size+1:=aaD ..
    refine Zv (aaS (wpAny_pure ⟨_,rfl,"set_iterator",_,⟨_,ZT _ rfl,rfl⟩,cP.lookup,?_⟩))
    obtain⟨v1,v2⟩:=vals _ (DV hp)
    refine h _ _ d' (sO es pl) [(s.heap.push {cls:=.type "tuple",data:=.seq (kP pl)}).objs.size,a,s.heap.objs.size] _ v1 v2 (by rw[hz];exact abE _) (fun b hb=>?_) (Rb (ep:=ep) (t:=t) hh (by rw[hz];exact ZY (abR alt)) (by rw[hz];exact ZY (abZ _)) X.fits hp) ⟨ZT _ rfl,Zx _ (ZT _ rfl),o,Zx _ Q3,hex,hd⟩ fun b o e=>Zx _ (Zx _ e)
    simp only[ZV,aaG,abM] at hb
    rcases hb with rfl | rfl | rfl
    . exact .inr (by rw[hz];exact abE _)
    . exact .inl rfl
    . exact .inr (ZM _)
  . have hpl:pQ w=true\/(!t.plain && decide (es.size > 1))=false:=by
      cases e:pQ w with
      | true=>exact .inl rfl
      | false=>
        refine .inr ?_
        cases q:(!t.plain && decide (es.size > 1)) with
        | false=>rfl
        | true=>
          refine absurd ?_ hc
          show(!pQ w && (!t.plain && decide (es.size > 1)))=true
          rw[e,q]
          rfl
    refine Zv (wpAny_pure ?_)
    refine Zv (wpAny_setEpoch_of ho hd X.fits ?_)
    refine Zv (aaS (wpAny_pure ⟨_,rfl,"set_iterator",_,⟨_,ZT _ rfl,rfl⟩,cP.lookup,?_⟩))
    obtain⟨v1,v2⟩:=vals _ (wH w a es ep)
    refine h _ _ s.drawn (qV w a es ep) [s.heap.objs.size,a] _ v1 v2 (ZM _) (fun b hb=>?_) (Q9 (ep:=ep) hh (ZY alt) X.fits X.rise X.led hpl) ⟨⟨0,ZT _ rfl,⟨o,Zx _ ho,hex,hd⟩,.inr rfl⟩,Z3 _⟩ fun b o e=>Zx _ e
    simp only[ZV,aaG,abM] at hb
    rcases hb with rfl | rfl
    . exact .inr (ZM _)
    . exact .inl rfl
end
end L2
end
section
namespace L2
open PySem PySem.Spec PyProof.Rows PySem.Calls PyProof.V
variable {ns:List Int}{Q:AAB}{o:Obj}{es:Array (Int×Value)}{ep:Nat}{n:Int}
section
variable {prog:Program}{w:World}{A:Around}{E:AAB}{s:Shared}{a:Addr}
def Rg {Q:Bool->Shared->Prop}(hT:s.TypeIs (.ref a) "set") (h:Q false s):wpAny (model prog w) A (Builtin.List.listLengthHint (.ref a)) Q E s:=by
 unfold Builtin.List.listLengthHint
 refine Zv (ab7 hT PySem.F.slot_set_len.lookup ?_)
 generalize hid:("set.__len__":String)=YN
 wp_delta
 rw[show splitId YN=some ("set","__len__") from by subst hid;decide +kernel]
 subst hid
 refine Zv (aaR (T:="set") (b:=true) hT (by rw[abF];kernel_rfl) ?_)
 refine aag (fun hab=>absurd hab (by decide)) (fun _=>?_)
 refine aag (fun _=>?_) (fun hab=>absurd (by decide +kernel) hab)
 refine Zv (acL hT ?_)
 exact wpAny_pure h
theorem zR:∀{ord:List (Int×Value)},(∀e∈ord,∃tk,e.2= .int (intOf e.2) tk)->IntsAre (ord.map (·.2)) (ord.map fun e=>intOf e.2)
 | [],_=>.nil
 | e :: ord,h=>by
  obtain⟨tk,q⟩:=h e ZJ
  have ih:=zR fun x hx=>h x (ZI _ hx)
  show IntsAre (e.2 :: ord.map (·.2)) (intOf e.2 :: ord.map fun e=>intOf e.2)
  generalize intOf e.2=k at *
  rw[q]
  exact .cons k tk ih
def DW {ord:List (Int×Value)}{acc:AAH}(h:ItemsOf (fun i v=>∃e,ord[i]? =some e/\v=e.2) acc ord.length):acc.toList=ord.map (·.2):=by
 obtain⟨h1,h2⟩:=h
 apply aaT
 intro i
 rw[ZF]
 by_cases c:i < ord.length
 ·have hv:acc[i]? =some acc[i]:=aaj (by omega)
  obtain⟨e,e1,e2⟩:=h2 i _ hv
  rw[aaX,hv,e1,e2]
  rfl
 ·rw[Z0 (by rw[aap];omega),Z0 (by omega)]
  rfl
def lG.keep {h h':Heap}(x:lG prog w h a ns) (k:∀o,h.get? a=some o->h'.get? a=some o):lG prog w h' a ns:=by
 obtain⟨o,es,ep,t,h1,r⟩:=x
 exact⟨o,es,ep,t,k o h1,r⟩
def J9 {R:Result->Shared->Prop}(hh:A.handled=none) (xE:lG prog w s.heap a ns) (S:Addr) (Xk:S≠a) (res:Value) (c₀:Nat) (hS:s.heap.get? S=some {cls:=.type "list",data:=.seq #[] c₀})
  (hR:∀h' d' tk acc' c',(∀b o,b≠S->s.heap.get? b=some o->h'.get? b=some o)->h'.get? S=some {cls:=.type "list",dict:=none,data:=.seq acc' c',slots:=#[]}->(∃ms,IntsAre acc'.toList ms/\ms.Perm ns)->R (.ok (.ret res)) {s with heap:=h',toks:=tk,drawn:=d'}) (hn:ns.length<=sizeLine):
  wpAny (model prog w) A.in1 (Builtin.List.listExtendWith (.ref S) (.ref a) res)
   (fun fin s'=>match fin with | .done f=>R (.ok f) s' | .again c'=>c'.quiet=true/\codeAny (model prog w) A c' R s') (fun e s'=>R (.error e) s') s:=by
 have Xl:S < s.heap.objs.size:=ZP hS
 have hT:s.TypeIs (.ref a) "set":=by
  obtain⟨o,es,ep,t,h1,hex,_⟩:=xE
  exact⟨o,h1,hex.1⟩
 unfold Builtin.List.listExtendWith
 refine Zv (acL (T:="set") hT ?_)
 have h1:Builtin.List.listSameRef (.ref S) (.ref a)=false:=by simp[Builtin.List.listSameRef,Xk]
 have n1:(Value.type "set" == Value.type "list")=false:=by decide
 have n2:(Value.type "set" == Value.type "tuple")=false:=by decide
 simp only[h1,n1,n2,adA,aa6,abW]
 refine Zv (Rf (A:=A.in1) hh xE fun I h1 d' ord fp St p1 p2 hI hfp W st hk=>?_)
 have hSf:S∉fp:=fun m=>by
  rcases hfp S m with z | z
  ·exact Xk z
  ·exact absurd Xl (Nat.not_lt.mpr z)
 have SI:S≠I:=ZY (ZQ Xl hI)
 have Td:ord.length<=sizeLine:=by have:=p1.length_eq;rw[Zw] at this;omega
 have key:∀(h:Heap) (c₁ tk:Nat),St 0 h->(∀b o,b≠S->s.heap.get? b=some o->h.get? b=some o)->
   h.get? S=some {cls:=.type "list",data:=.seq #[] c₁}->codeAny (model prog w) A (.builtin "list.extend.loop" ⟨[.ref S,.ref I,res],[]⟩) R {s with heap:=h,toks:=tk,drawn:=d'}:=by
  intro h c₁ tk hst hk uK
  refine codeAny_extend_loopS W.toS Td S hSf res ord.length 0 _ #[] c₁ rfl (Z3 _) hst uK (ItemsOf.nil _) fun s' acc' c' hm hS' hacc=>?_
  rw[Moved.eq_with hm]
  refine hR s'.heap d' s'.toks acc' c' (fun b o hb e=>hm.heap b o (fun hmem=>?_) (hk b o hb e)) hS' ⟨_,by rw[DW hacc];exact zR p2,p1⟩
  rcases ZV.mp hmem with e' | hmem
  ·exact hb e'
  ·have bl:=ZP e
   rw[ZG.mp hmem] at bl
   exact absurd bl (Nat.not_lt.mpr hI)
 have uK:=hk S _ hS
 have hT1:Shared.TypeIs {s with heap:=h1,drawn:=d'} (.ref a) "set":=by
  obtain⟨o,q1,q2⟩:=hT
  exact⟨o,hk a o q1,q2⟩
 refine Zv (aan (Rg hT1 ?_))
 refine aag (fun _=>?_) (fun _=>wpAny_pure ⟨abn ac8 _,key _ c₀ _ st (fun b o _ e=>hk b o e) uK⟩)
 refine Zv (abi ?_)
 refine Zv ?_
 show wpAny _ _ (updateSeq S (·.push .none) >>= fun _=>updateSeq S (·.pop)) _ _ _
 refine Zv (abx uK rfl ?_)
 have uy:=aao (Obj.mapSeq (·.push Value.none)) uK rfl
 refine abx (hz:=by seq_fits) uy rfl ?_
 have Gq:=aao (Obj.mapSeq (·.pop)) uy rfl
 refine wpAny_pure ⟨abn ac8 _,key _ _ _ ?_ (fun b o hb e=>?_) Gq⟩
 ·refine W.frame 0 _ _ st fun b hb o e=>?_
  have LF:b≠S:=fun h=>hSf (h▸hb)
  exact(aat _ _ (aaN LF)).trans ((aat _ _ (aaN LF)).trans e)
 ·exact(aat _ _ (aaN hb)).trans ((aat _ _ (aaN hb)).trans (hk b o e))
def GJ {R:List Value->Shared->Prop}(hh:A.handled=none) (xE:lG prog w s.heap a ns) (hn:ns.length<=sizeLine)
  (h:∀(h':Heap) (d':Drawn) (tk:Nat) (acc:AAH),(∀b o,s.heap.get? b=some o->h'.get? b=some o)->(∃ms,IntsAre acc.toList ms/\ms.Perm ns)->R acc.toList {s with heap:=h',toks:=tk,drawn:=d'}):
  wpAny (model prog w) A (collect (.ref a)) R E s:=by
 have alt:a < s.heap.objs.size:=by obtain⟨o,es,ep,t,h1,_⟩:=xE;exact ZP h1
 unfold collect
 refine Zv (wpAny_runValue (aaW entry_proto_collect' ?_))
 rw[aaE PySem.F.plain_proto_collect _]
 show wpAny _ A.in1 (newList [] >>= fun l=>again (.builtin "list.__iadd__" ⟨[l,.ref a],[]⟩)) _ _ s
 refine Zv (aaS ?_)
 refine wpAny_pure ⟨abn ads _,aaW entry_list_iadd' ?_⟩
 rw[aaE ads _]
 have uK:(s.heap.push {cls:=.type "list",data:=.seq ([]:AAI).toArray}).get? s.heap.objs.size=some {cls:=.type "list",data:=.seq #[]}:=ZT _ rfl
 show wpAny _ A.in1 (Builtin.List.listExtendWith (.ref s.heap.objs.size) (.ref a) (.ref s.heap.objs.size)) _ _ _
 have key:=J9 (A:=A) (s:={s with heap:=s.heap.push {cls:=.type "list",data:=.seq ([]:AAI).toArray}})
  (R:=fun(q:Result) (s':Shared)=>∃(h':Heap) (d':Drawn) (tk:Nat) (acc':AAH) (c':Nat),q= .ok (.ret (.ref s.heap.objs.size))/\s'={s with heap:=h',toks:=tk,drawn:=d'}/\
   (∀b o,s.heap.get? b=some o->h'.get? b=some o)/\h'.get? s.heap.objs.size=some {cls:=.type "list",dict:=none,data:=.seq acc' c',slots:=#[]}/\∃ms,IntsAre acc'.toList ms/\ms.Perm ns)
  hh (xE.keep fun o e=>Zx _ e) s.heap.objs.size (abe alt) (.ref s.heap.objs.size) 0 uK
  (fun h' d' tk acc' c' hk hS' hacc=>⟨h',d',tk,acc',c',rfl,rfl,fun b o e=>hk b o (ZY (ZP e)) (Zx _ e),hS',hacc⟩) hn
 refine aas key (fun fin s' x=>?_) fun e s' x=>?_
 ·cases fin with
  | done f=>
   obtain⟨h',d',tk,acc',c',e,rfl,hk,hS',hacc⟩:=x
   cases e
   show wpAny _ A (load s.heap.objs.size >>= _) _ _ _
   refine Zv (wpAny_load hS' ?_)
   exact wpAny_pure (h h' d' tk acc' hk hacc)
  | again c₁=>
   refine⟨x.1,ace x.2 fun q s₂ y=>?_⟩
   obtain⟨h',d',tk,acc',c',rfl,rfl,hk,hS',hacc⟩:=y
   show wpAny _ A (load s.heap.objs.size >>= _) _ _ _
   refine Zv (wpAny_load hS' ?_)
   exact wpAny_pure (h h' d' tk acc' hk hacc)
 ·obtain⟨_,_,_,_,_,e',_⟩:=x
  cases e'
def Ka (hh:A.handled=none) (xE:lG prog w s.heap a ns) (hn:ns.length < 64)
  (h:∀(h1 h':Heap) (d':Drawn) (tk n:Nat) (out:AAH) (ns':List Int),(∀b o,s.heap.get? b=some o->h1.get? b=some o)->(∀b o,h1.get? b=some o->h'.get? b=some o)->IntsAre out.toList ns'->ns'.Perm ns->ns'.Pairwise (·<=·)->
   h'.get? h1.objs.size=some (seqObj "list" out n)->Q (.ref h1.objs.size) {s with heap:=h',toks:=tk,drawn:=d'}):
  wpAny (model prog w) A (call (.builtin "sorted") [.ref a]) Q E s:=by
 refine call_function_entry kind_sorted plain_sorted entry_sorted (args_sorted1 _) ?_
 unfold Builtin.«sorted»
 refine Zv (m:=checkCount "sorted" 1 1 _) (wpAny_pure ?_)
 refine Zv (GJ (A:=A.in1) hh xE (Z5 (abd hn) (by decide)) fun h' d' tk acc hk ⟨ms,hm,hp⟩=>?_)
 have hl:acc.toList.length < 64:=by rw[hm.length,hp.length_eq];exact hn
 refine Zv (wpAny_newList ?_ (Z5 (abd hl) (by decide)))
 have Pu:(h'.push (seqObj "list" acc.toList.toArray 0)).get? h'.objs.size=some (seqObj "list" acc.toList.toArray 0):=ZT _ rfl
 show wpAny _ _ _ _ _ {s with heap:=h'.push (seqObj "list" acc.toList.toArray 0),toks:=tk,drawn:=d'}
 refine Zv (aan (aaF slot_list_sort ⟨_,Pu,rfl⟩ entry_list_sort (list_sort_tree (ns:=ms) Pu hm hl fun out ns' a1 a2 a3=>⟨_,rfl,?_⟩) (args_list_sort _)))
 refine wpAny_pure ⟨_,rfl,?_⟩
 obtain⟨e,he⟩:=sortedHeap_at (out:=out) Pu
 exact h _ _ d' tk e out ns' hk (fun b o hb=>by
  have:=ZP hb
  rw[sortedHeap_old (ZY this) (by rw[size_push'];exact abR this)]
  exact Zx _ hb) a1 (a2.trans hp) a3 he
end
noncomputable def sortI (ns:List Int):List Int:=(lH (fun i=>ns.getD i 0) ns.length).mergeSort (fun a b=>decide (a<=b))
def sortI_perm (ns:List Int):(sortI ns).Perm (lH (fun i=>ns.getD i 0) ns.length):=List.mergeSort_perm _ _
def wI {k:Int}:k∈sortI ns↔k∈ns:=by
 rw[(sortI_perm ns).mem_iff,Cm]
 constructor
 ·rintro⟨j,hj,rfl⟩
  rw[ZN,Zz hj]
  exact abp hj
 ·intro h
  obtain⟨j,hj,e⟩:=aaJ h
  exact⟨j,hj,by rw[ZN,Zz hj];exact e⟩
def GK (ns:List Int):(sortI ns).Nodup:=(sortI_perm ns).nodup_iff.mpr (Bk _ _)
def DX (ns:List Int):(sortI ns).Pairwise (·<=·):=by
 have:=List.pairwise_mergeSort (le:=fun a b:Int=>decide (a<=b)) (fun a b c h1 h2=>by simp at *;omega) (fun a b=>by simp;omega) (lH (fun i=>ns.getD i 0) ns.length)
 exact this.imp fun h=>by simpa using h
noncomputable def xS:List D->Option U
 | [.tup ds]=>(aV ds).bind fun ns=>if ns.length < 64 then some (.m (.lst ((sortI ns).map D.int))) else none
 | [.lst ds]=>(aV ds).bind fun ns=>if ns.length < 64 then some (.m (.lst ((sortI ns).map D.int))) else none
 | _=>none
noncomputable def xT:D->Option (List Int)
 | .tup ds=>(aV ds).bind fun ns=>if ns.length < 64 then some ns else none
 | .lst ds=>(aV ds).bind fun ns=>if ns.length < 64 then some ns else none
 | _=>none
def Rh (d:D) (ns:List Int):Prop:=∃ds,(d= .tup ds\/d= .lst ds)/\aV ds=some ns/\ns.length < 64
def Bo {d:D}{u:U}(h:xS [d]=some u):∃ns,Rh d ns/\u= .m (.lst ((sortI ns).map D.int)):=by
 have key:∀ds,(aV ds).bind (fun ns=>if ns.length < 64 then some (U.m (.lst ((sortI ns).map D.int))) else none)=some u->∃ns,aV ds=some ns/\ns.length < 64/\u= .m (.lst ((sortI ns).map D.int)):=by
  intro ds h
  obtain⟨zs,h5,h6⟩:=ah h
  split at h6
  ·rename_i hl;cases h6;exact⟨zs,h5,hl,rfl⟩
  ·cases h6
 cases d with
 | lst ds=>obtain⟨ns,h1,h2,h3⟩:=key ds h;exact⟨ns,⟨ds,.inr rfl,h1,h2⟩,h3⟩
 | tup ds=>obtain⟨ns,h1,h2,h3⟩:=key ds h;exact⟨ns,⟨ds,.inl rfl,h1,h2⟩,h3⟩
 | _=>cases h
theorem ints_getD:∀{ns:List Int}{its:AAI},Vals (ns.map V.int) its->∀(i:Nat) (v:Value),its[i]? =some v->∃t,v=Value.int (ns.getD i 0) t
  | [],_,r,i,v,h=>by cases r;cases h
  | n :: ns, _, r, i, v, h => by
    cases r with
    | cons q t=>
      obtain⟨t',rfl⟩:=q
      cases i with
      | zero=>cases h;exact⟨t',rfl⟩
      | succ i=>exact ints_getD t i v h
def DY {l:AAI}(h:IntsAre l ns):Vals (ns.map V.int) l:=by
 induction h with
 | nil=>exact .nil
 | cons k tk _ ih=>exact .cons ⟨_,rfl⟩ ih
section
variable {X:Cx}{pins:AAD}{σ:St}{F H:Hp}{s:Shared}{v:V}{u:Value}{d:D}{ns:List Int}{Q:AAB}{E:AAB}
def qW (hc:X.calm=true) (I:Inv X pins σ H s) (sb:Sub F H) (rd:Rep F v d) (ru:RelV v u) (h:Rh d ns)
  (k:∀h' tk,lG X.prog X.w h' s.heap.objs.size (lH (fun i=>ns.getD i 0) ns.length)->(∀b o,s.heap.get? b=some o->h'.get? b=some o)->Q (.ref s.heap.objs.size) {s with heap:=h',toks:=tk}):
  wpAny (model X.prog X.w) X.A (call (.type "set") [u]) Q E s:=by
 obtain⟨ds,hd,h5,hl⟩:=h
 rcases hd with rfl | rfl
 ·obtain⟨a',vs',rfl,fa,mU⟩:=rd.iO
  obtain rfl:=lZ mU h5
  cases ru
  obtain⟨its,rv,pl,hz⟩:=I.tuple (.inl (.inl (sb _ _ fa)))
  have hil:its.length=ns.length:=by have:=rv.length;simpa using this.symm
  refine wG (k:=false) (ns:=ns) (I.ok.hd hc) pl (ints_getD rv) (by rw[hil];unfold scanBound;omega) fun h' tk hS hk=>?_
  rw[hil] at hS
  exact k h' tk hS fun b o e=>hk b o (ZP e) e
 ·obtain⟨a',vs',rfl,fa,hla,mU⟩:=sb.iB rd
  obtain rfl:=lZ mU h5
  cases ru
  obtain⟨its,rv,pl,hz⟩:=I.list (.inl hla)
  have hil:its.length=ns.length:=by have:=rv.length;simpa using this.symm
  refine wG (k:=true) (ns:=ns) (I.ok.hd hc) pl.isList (ints_getD rv) (by rw[hil];unfold scanBound;omega) fun h' tk hS hk=>?_
  rw[hil] at hS
  exact k h' tk hS fun b o e=>hk b o (ZP e) e
def Inv.drawn {h':Heap}{t':Nat}{d':Drawn}(I:Inv X pins σ H s) (k:∀b o,s.heap.get? b=some o->h'.get? b=some o):Inv X pins σ H {s with heap:=h',toks:=t',drawn:=d'}:=
 I.call (g':=s.gens) (ch:=[]) (Un.kept k) (I.hok.kept k) I.bare (fun _ z=>nomatch z)
end
section
variable {X:Cx}{a:Expr}{pos p p1 p2:Pos}{ga:GD}
def zS (hc:X.calm=true) (Vl:Gl X "sorted") (hm1:X.mg "sorted" =none) (LI:Gl X "set") (hm2:X.mg "set" =none) (ha:JD X a ga)
  (hs1:starEach [.Call (.Name "set" p1) [a] [] p2] X.env=(false,eval (.Call (.Name "set" p1) [a] [] p2) X.env) :: starEach [] X.env:=by rfl)
  (hs2:starEach [a] X.env=(false,eval a X.env) :: starEach [] X.env:=by rfl):
  JE X (.Call (.Name "sorted" p) [.Call (.Name "set" p1) [a] [] p2] [] pos) (eP xS (aa ga ao)):=⟨fun B=>by
 rintro pins s σ H Q I ⟨S,F,u,S',R,hg,q⟩
 obtain⟨⟨dl,S1⟩,h1,hg⟩:=ah hg
 obtain⟨w',h2,hg⟩:=aq hg
 cases hg
 obtain⟨⟨d,S2⟩,h3,h1⟩:=ah h1
 obtain⟨⟨dr,S3⟩,h4,h1⟩:=aq h1
 cases h4
 cases h1
 obtain⟨ns,Xm,rfl⟩:=Bo h2
 refine aaL (jS I Vl hm1 PyProof.Rows.Boot.sorted ?_ (by decide) (by decide))
 refine acI ?_ hs1 rfl
 rw[hs1]
 show wpAny _ _ (spliced ((false,eval (.Call (.Name "set" p1) [a] [] p2) X.env) :: backTo pos (starEach [] X.env))) _ _ s
 refine aa7 ?_
 refine aaL (jS I LI hm2 acC ?_ (by decide) (by decide))
 refine aak (dN (jH (ha.h B) lO hs2 p2 pins s σ H (fun vs H1=>∃v F1,vs=[v]/\Rel X.K B S2 σ F1 H1/\Step S S2 σ F H F1 H1/\Rep F1 v d) I ⟨S,F,_,S2,R,h3,fun v F1 H1 R1 st1 r1=>⟨v,F1,rfl,R1,st1,r1⟩⟩) ?_) hs2 rfl
 rintro us s1 ⟨vs,H1,I1,r1,v,F1,rfl,R1,st1,rd⟩
 obtain⟨u',rfl,ru⟩:=vals1 r1
 refine qW hc I1 R1.sub rd ru Xm fun h' tk hS hk=>?_
 refine abQ ?_
 have hlen:(lH (fun i=>ns.getD i 0) ns.length).length < 64:=aa8 (Bj _ _) Xm.choose_spec.2.2
 refine Ka (I1.ok.hd hc) hS hlen fun g1 g2 d' Ri n out ns' k1 k2 hi hp ho k3=>?_
 have he:ns'=sortI ns:=PySem.W.ksm_same (hp.trans (sortI_perm ns).symm) ho (DX ns)
 subst he
 have J:=I1.drawn (h':=g1) (t':=Ri) (d':=d') fun b o e=>k1 b o (hk b o e)
 have hp:=J.hok.fresh (ZM _)
 have hv:Vals ((sortI ns).map V.int) out.toList:=DY hi
 have n1:=gf.obj (F:=F1) hp (.lst ((sortI ns).map V.int))
 have s4:=R1.sub.same n1.same
 have hr:∀l:List Int,aX F1 (l.map V.int) (l.map D.int):=fun l=>by
  induction l with
  | nil=>exact .nil
  | cons x l ih=>exact .cons (.int x) ih
 have YO:((sortI ns).map V.int).length<=sizeLine:=by
  rw[Zw,(sortI_perm ns).length_eq]
  exact Z5 (abd hlen) (by decide)
 exact⟨.ref g1.objs.size,_,J.laid (a:=g1.objs.size) (o:=.lst ((sortI ns).map V.int)) (h':=g2) (t':=Ri) k2 (ZM _) ⟨YO,out.toList,n,hv,by simpa using k3⟩,rfl,
  q _ F1 _ (R1.new n1 s4) (st1.trans n1.step) (Dr.Jf (u:=.m (.lst ((sortI ns).map D.int))) R1 st1 ⟨_,rfl,hp,R1.sub.fresh hp,(sortI ns).map V.int,aD,hr _⟩)⟩⟩
end
def xU:entryFor table "set.__ne__" =some Builtin.«frozenset.__ne__»:=
 entryFor_alias (id':="frozenset.__ne__") (by kernel_rfl) rfl (by decide +kernel) (by kernel_rfl)
section
variable {prog:Program}{w:World}{A:Around}{E:AAB}{s:Shared}{a b:Addr}
def kZ {t:SetTable}{Q:Array (Int×Value)->Shared->Prop}(ho:s.heap.get? a=some o) (hd:o.data= .set es ep t) (hf:t.fits es.size=true) (h:Q es s):
  wpAny (model prog w) A (setEntries a) Q E s:=by
 unfold setEntries
 refine Zv (abm ho hd hf ?_)
 exact wpAny_pure h
def kQ {t:SetTable}{Q:Nat->Shared->Prop}(ho:s.heap.get? a=some o) (hd:o.data= .set es ep t) (hf:t.fits es.size=true) (h:Q es.size s):
  wpAny (model prog w) A (Builtin.Frozenset.sizeOf a) Q E s:=Zv (kZ ho hd hf (wpAny_pure h))
def qp {t:SetTable}{Q:Nat->Shared->Prop}(ho:s.heap.get? a=some o) (hd:o.data= .set es ep t) (hf:t.fits es.size=true) (h:Q ep s):
  wpAny (model prog w) A (setEpoch a) Q E s:=by
 unfold setEpoch
 refine Zv (abm ho hd hf ?_)
 exact wpAny_pure h
set_option maxHeartbeats 1000000 in
def Kc {oa ob:Obj}{k:Int}{t1 t2:Tok}{pa pb:Nat}{ta tb:SetTable}(ha:s.heap.get? a=some oa) (xa:oa.ExactSet) (da:oa.data= .set #[(k,.int n t1)] pa ta) (fa:ta.fits 1=true)
  (hb:s.heap.get? b=some ob) (xb:ob.ExactSet) (db:ob.data= .set #[(k,.int n t2)] pb tb) (fb:tb.fits 1=true) (hk:k=(intKind prog w).hash n) (hu:A.units < cLine) (h:Q (.bool false) s):
  wpAny (model prog w) A (compareOp .NotEq (.ref a) (.ref b)) Q E s:=by
 have hTa:s.TypeIs (.ref a) "set":=⟨oa,ha,xa.1⟩
 have hTb:s.TypeIs (.ref b) "set":=⟨ob,hb,xb.1⟩
 show wpAny _ _ (richCompare .NotEq (.ref a) (.ref b)) Q E s
 refine wpAny_richCompare_same_room hTa hTb PySem.F.slot_set_ne (aaF PySem.F.slot_set_ne hTa xU ?_ (PySem.F.args_set_ne_2 _ _)) hu
 delta Builtin.«frozenset.__ne__»
 wp_delta
 refine Zv (Q:=_) (wpAny_pure ?_)
 dsimp only
 refine Zv ?_
 unfold Builtin.Frozenset.isAnySet
 refine Zv (aaR (T:="set") (b:=true) hTb (by rw[abF];kernel_rfl) ?_)
 refine wpAny_pure ?_
 refine aag (fun hab=>absurd hab (by decide)) (fun _=>?_)
 refine Zv (wpAny_pure ?_)
 refine Zv (wpAny_pure ?_)
 refine Zv (kQ ha da fa ?_)
 refine Zv (kQ hb db fb ?_)
 refine Zv ?_
 refine aag (fun hab=>absurd hab (by simp)) (fun _=>?_)
 refine Zv ?_
 refine Zv (aaR (T:="set") (b:=false) hTa (by rw[abF];kernel_rfl) ?_)
 refine wpAny_pure ?_
 refine aag (fun hab=>absurd hab (by decide)) (fun _=>?_)
 unfold Builtin.Frozenset.subsetOf
 refine Zv (kQ ha da fa ?_)
 refine Zv (kQ hb db fb ?_)
 refine aag (fun hab=>absurd hab (by simp)) (fun _=>?_)
 refine Zv (qp ha da fa ?_)
 refine Zv ?_
 unfold Builtin.Frozenset.walkUnseen
 refine Zv (kZ ha da fa ?_)
 refine Zv (kZ hb db fb ?_)
 have hq1:∀t,Builtin.Frozenset.quietEq (.int n t)=pure true:=fun _=>rfl
 simp only[List.cons_append,Z9,aba,abV,hq1,pure_bind,adz,aa6,abW,bind_assoc]
 refine wpAny_pure ?_
 simp only[aba,abV,bind_assoc]
 refine Zv (aan ?_)
 rw[hk]
 have hi:∀(z:Int) (t:Tok),(intKind prog w).is z (.int n t)=true↔z=n:=fun z t=>by
  show Value.isInt z (.int n t)=true↔_
  simp only[Value.isInt,beq_iff_eq]
  exact eq_comm
 refine wpAny_setFind_of (knd:=intKind prog w) (k:=n) (S:=fun z=>decide (z=n)) (n:=1) ((hi n t1).mpr rfl) rfl ⟨ob,_,pb,tb,hb,xb,db,?_,?_,by show(1:Nat) < scanBound;unfold scanBound;decide,fb,rfl⟩ fun r hr=>?_
 ·intro e he
  obtain rfl:=ZG.mp he
  exact⟨⟨n,(hi n t2).mpr rfl,hk⟩,rfl⟩
 ·intro z
  rw[abC]
  constructor
  ·rintro rfl
   exact⟨_,ZG.mpr rfl,(hi _ _).mpr rfl⟩
  ·rintro⟨e,he,q⟩
   obtain rfl:=ZG.mp he
   exact(hi _ _).mp q
 cases r with
 | none=>simp at hr
 | some j=>
  refine Zv ?_
  refine aag (fun hab=>by cases hab) (fun _=>?_)
  refine Zv ?_
  unfold Builtin.Frozenset.unchanged
  refine Zv (qp ha da fa ?_)
  refine aag (fun hab=>absurd hab (by simp)) (fun _=>?_)
  refine wpAny_pure (wpAny_pure (Zv (wpAny_pure (wpAny_pure (wpAny_pure ⟨_,rfl,⟨(by intro z;cases z),h⟩⟩)))))
end
noncomputable def qX:List D->Option U
 | [d,e]=>match xT d,xT e with
  | some ns,some ms=>match lH (fun i=>ns.getD i 0) ns.length,lH (fun i=>ms.getD i 0) ms.length with
   | [a],[b]=>if a=b then some (.t (.bl false)) else none
   | _,_=>none
  | _,_=>none
 | _=>none
def Cp {d:D}(h:xT d=some ns):Rh d ns:=by
 have key:∀ds,(aV ds).bind (fun ns=>if ns.length < 64 then some ns else none)=some ns->aV ds=some ns/\ns.length < 64:=by
  intro ds h
  obtain⟨zs,h5,h6⟩:=ah h
  split at h6
  ·rename_i hl;cases h6;exact⟨h5,hl⟩
  ·cases h6
 cases d with
 | lst ds=>exact⟨ds,.inr rfl,key ds h⟩
 | tup ds=>exact⟨ds,.inl rfl,key ds h⟩
 | _=>cases h
def Bp {d e : D} {u : U} (h : qX [d, e] = some u) : ∃ ns ms n, Rh d ns /\ Rh e ms /\ lH (fun i => ns.getD i 0) ns.length = [n] /\ lH (fun i => ms.getD i 0) ms.length = [n] /\ u = .t (.bl false) := by
  unfold qX at h
  cases h1:xT d with
  | none=>simp[h1] at h
  | some ns=>
    cases h2:xT e with
    | none=>simp[h1,h2] at h
    | some ms=>
      simp only[h1,h2] at h
      split at h
      . rename_i a b e1 e2
        split at h
        . rename_i e3;subst e3;cases h;exact⟨ns,ms,a,Cp h1,Cp h2,e1,e2,rfl⟩
        . cases h
      . cases h
def IB.one {prog:Program}{w:World}{t:SetTable}(h:IB prog w es t [n]):∃tk,es=#[((intKind prog w).hash n,.int n tk)]:=by
 have hl:es.toList.length=1:=by have:=h.perm.length_eq;simpa using this
 obtain⟨e,he⟩:=List.length_eq_one_iff.mp hl
 have hp:=h.perm
 rw[he] at hp
 have hn:intOf e.2=n:=by
  have:=List.perm_singleton.mp hp
  simpa using this
 obtain⟨⟨k,hk,hh⟩,_⟩:=h.el e (by rw[he];exact ZG.mpr rfl)
 have hk2:=intKind_is hk
 obtain⟨tk,q⟩:=acp hk
 refine⟨tk,Array.toList_inj.mp ?_⟩
 rw[he]
 have:k=n:=hk2.symm.trans hn
 subst this
 obtain⟨e1,e2⟩:=e
 simp only at hh q
 rw[hh,q]
section
variable {X:Cx}{a b:Expr}{pos p p1 p2 p3:Pos}{ga gb:GD}
set_option maxHeartbeats 1000000 in
def GL (hc:X.calm=true) (hu:X.A.units < cLine) (LI:Gl X "set") (hm2:X.mg "set" =none) (ha:JD X a ga) (hb:JD X b gb)
  (hs1:starEach [a] X.env=(false,eval a X.env) :: starEach [] X.env:=by rfl)
  (hs2:starEach [b] X.env=(false,eval b X.env) :: starEach [] X.env:=by rfl):
  JE X (.Compare (.Call (.Name "set" p) [a] [] p1) [.NotEq] [.Call (.Name "set" p2) [b] [] p3] pos) (eP qX (aa ga (aa gb ao))):=⟨fun B=>by
 rintro pins s σ H Q I ⟨S,F,u,S',R,hg,q⟩
 obtain⟨⟨dl,S1⟩,h1,hg⟩:=ah hg
 obtain⟨w',h2,hg⟩:=aq hg
 cases hg
 obtain⟨⟨d,S2⟩,h3,h1⟩:=ah h1
 obtain⟨⟨dr,S3⟩,h4,h1⟩:=aq h1
 cases h1
 obtain⟨⟨e,S4⟩,h5,h4⟩:=ah h4
 obtain⟨⟨Zp,S5⟩,h6,h4⟩:=aq h4
 cases h6
 cases h4
 obtain⟨ns,ms,n,hq1,hq2,e1,e2,rfl⟩:=Bp h2
 refine wpAny_Compare1 ?_ (AL _)
 refine aaL (jS I LI hm2 acC ?_ (by decide) (by decide))
 refine aak (dN (jH (ha.h B) lO hs1 p1 pins s σ H (fun vs H1=>∃v F1,vs=[v]/\Rel X.K B S2 σ F1 H1/\Step S S2 σ F H F1 H1/\Rep F1 v d) I ⟨S,F,_,S2,R,h3,fun v F1 H1 R1 st1 r1=>⟨v,F1,rfl,R1,st1,r1⟩⟩) ?_) hs1 rfl
 rintro us s1 ⟨vs,H1,I1,r1,v,F1,rfl,R1,st1,rd⟩
 obtain⟨u',rfl,ru⟩:=vals1 r1
 refine qW hc I1 R1.sub rd ru hq1 fun h' tk hS hk=>?_
 rw[e1] at hS
 obtain⟨oa,ea,pa,ta,YQ,xa,da,Ia⟩:=hS
 have J:=I1.kept (h':=h') (t':=tk) hk
 have ff:=I1.wY (b:=s1.heap.objs.size) (H':=H1) (ZM _) (I1.hok.fresh (ZM _))
 have J2:Inv X ((s1.heap.objs.size,oa) :: pins) σ H1 {s1 with heap:=h',toks:=tk}:=J.sY fun pp hp=>by
  rcases ZV.mp hp with rfl | hp
  ·exact⟨YQ,I1.hok.fresh (ZM _),ff.2.1,ff.2.2.1,fun v z=>by rw[da] at z;cases z⟩
  ·exact J.pin pp (ZR _ hp)
 refine aaL (jS J2 LI hm2 acC ?_ (by decide) (by decide))
 refine aak (dN (jH (hb.h B) lO hs2 p3 _ _ σ H1 (fun vs H2=>∃v F2,vs=[v]/\Rel X.K B _ σ F2 H2/\Step S2 _ σ F1 H1 F2 H2/\Rep F2 v e) J2 ⟨S2,F1,_,_,R1,h5,fun v F2 H2 R2 st2 r2=>⟨v,F2,rfl,R2,st2,r2⟩⟩) ?_) hs2 rfl
 rintro us s2 ⟨vs,H2,I2,r2,v2,F2,rfl,R2,st2,YR⟩
 obtain⟨u2,rfl,YS⟩:=vals1 r2
 refine qW hc I2 R2.sub YR YS hq2 fun h2' Ri xM hk2=>?_
 rw[e2] at xM
 obtain⟨ob,eb,pb,tb,YT,xb,db,Ib⟩:=xM
 obtain⟨t1,rfl⟩:=Ia.one
 obtain⟨t2,rfl⟩:=Ib.one
 have Vv:=I2.pin (s1.heap.objs.size,oa) (ZR _ ZJ)
 refine Kc (hk2 _ _ Vv.1) xa da Ia.fits YT xb db Ib.fits rfl hu ?_
 have J3:=I2.kept (h':=h2') (t':=Ri) hk2
 have J4:Inv X pins σ H2 {s2 with heap:=h2',toks:=Ri}:=J3.sY fun pp hp=>J3.pin pp (ZR _ (ZI _ hp))
 exact⟨.bl false,H2,J4,rfl,q (.bl false) F2 H2 R2 (st1.trans st2) (.bl false)⟩⟩
end
def Cq (h:∀k∈ns,k=n) (h0:ns≠[]):lH (fun i=>ns.getD i 0) ns.length=[n]:=by
 have hm:∀k,k∈lH (fun i=>ns.getD i 0) ns.length↔k=n:=fun k=>by
  rw[<-(sortI_perm ns).mem_iff,wI]
  refine⟨h k,?_⟩
  rintro rfl
  cases ns with
  | nil=>exact absurd rfl h0
  | cons x l=>exact(h x ZJ)▸ZJ
 have hd:=Bk (fun i=>ns.getD i 0) ns.length
 revert hm hd
 generalize lH (fun i=>ns.getD i 0) ns.length=l
 intro hm hd
 cases l with
 | nil=>exact absurd ((hm n).mpr rfl) (by simp)
 | cons x l=>
  have hx:=(hm x).mp ZJ
  subst hx
  cases l with
  | nil=>rfl
  | cons y l=>
   have hy:=(hm y).mp (ZI _ ZJ)
   subst hy
   simp at hd
end L2
end
section
namespace L2
open PySem PySem.Spec PyProof.Rows
section
variable (S:SS) (d e:D) (o:MO) (i j:Nat) (g ga gb gc:GD) (ge:GE) (q q1 q2:GT) (gA:GA) (gu:GU) (a b:GS) (f f':List D->Option U) (fm:FM) (bd:GB) (gi:GI)
@[simp] theorem Nu:aj i S=match S[i]? with | some (some (.t d))=>some (.t d,S) | some (some (.s d))=>some (.s d,S) | some (some (.f d))=>some (.f d,S) | some (some _)=>some (.v i,S) | _=>none:=rfl
@[simp] theorem YU:eC d S=some (d,S):=rfl
@[simp] theorem Vw:ao S=some ([],S):=rfl
@[simp] theorem Te:aa g gA S=(g S).bind fun p=>(gA p.2).map fun q=>(p.1 :: q.1,q.2):=rfl
@[simp] theorem YV:eP f gA S=(gA S).bind fun p=>(f p.1).map fun u=>(u,p.2):=rfl
@[simp] theorem Vx:eF ge S=(ge S).bind fun p=>fz p.1 p.2:=rfl
@[simp] theorem YW:eT g S=(g S).map fun p=>(.t p.1,p.2):=rfl
@[simp] theorem Vy:fz (.t d) S=some (d,S):=rfl
@[simp] theorem Vz (ds:List D):fz (.m (.lst ds)) S=some (.lst ds,S):=rfl
@[simp] theorem VA:fz (.v i) S=match S[i]? with | some (some (.t d))=>some (d,S) | some (some (.m (.lst ds)))=>some (.lst ds,S.set i (some (.t (.lst ds)))) | _=>none:=rfl
@[simp] theorem YX:qB g S=(g S).bind fun p=>match p.1 with | .bl k=>some (k,p.2) | _=>none:=rfl
@[simp] theorem VB:FE q S=(q S).map fun p=>(!p.1,p.2):=rfl
@[simp] theorem VC:FF q1 q2 S=(q1 S).bind fun p=>if p.1 then q2 p.2 else some (false,p.2):=rfl
@[simp] theorem Xn:UU q1 q2 S=(q1 S).bind fun p=>if p.1 then some (true,p.2) else q2 p.2:=rfl
@[simp] theorem YY:eQ q S=(q S).map fun p=>(.bl p.1,p.2):=rfl
@[simp] theorem Tf:aC S=some (true,S):=rfl
@[simp] theorem Xo (g1 g2:GE):OS q g1 g2 S=(q S).bind fun p=>if p.1 then g1 p.2 else g2 p.2:=rfl
@[simp] theorem VE:lV S=some (.nx S):=rfl
@[simp] theorem VF:aG a b S=(a S).bind fun o=>match o with | .nx S1=>b S1 | o=>some o:=rfl
@[simp] theorem xV:aR i ge S=(ge S).bind fun p=>match p.1 with | .m o=>(oJ i (.m o) p.2).map .nx | u=>(fz u p.2).bind fun q=>(oJ i (.t q.1) q.2).map .nx:=rfl
@[simp] theorem cD (u:U):oJ i u S=match S[i]? with | some (some (.b _))=>none | some _=>some (S.set i (some u)) | none=>none:=rfl
@[simp] theorem Tg:jW ge S=(ge S).map fun p=>.nx p.2:=rfl
@[simp] theorem Nv:dH ge S=(ge S).bind fun p=>match p.1 with
 | .v i=>match p.2[i]? with
  | some (some (.t d))=>some (.rt (.t d) p.2)
  | some (some (.m o))=>some (.rt (.m o) (p.2.set i none))
  | _=>none
 | .s _=>none
 | .f _=>none
 | u=>some (.rt u p.2):=rfl
@[simp] theorem Xp:v7 q a b S=(q S).bind fun p=>if p.1 then a p.2 else b p.2:=rfl
@[simp] theorem VG:Jj bd g S=(g S).bind fun p=>(bd p.1 p.2).map .nx:=rfl
@[simp] theorem Th:bName i d S=oJ i (.t d) S:=rfl
@[simp] theorem pH:gM bd gi a S=(gi S).bind fun p=>loop bd a p.1 p.2:=rfl
@[simp] theorem Ny:FQ g S=(g S).bind fun p=>match p.1 with | .tup ds=>some (ds,p.2) | .lst ds=>some (ds,p.2) | _=>none:=rfl
@[simp] theorem tF:cS gA S=(gA S).bind fun p=>match p.1 with | [.int j]=>if j < 1000000/\-1000000 < j then some (gT 0 j.toNat,p.2) else none | _=>none:=rfl
@[simp] theorem Nz:loop bd a [] S=some (.nx S):=rfl
@[simp] theorem VH:cu S=some ([],S):=rfl
@[simp] theorem NC:bg g gu S=(g S).bind fun p=>(gu p.2).map fun q=>(.t p.1 :: q.1,q.2):=rfl
@[simp] theorem VI:kK ge gu S=(ge S).bind fun p=>(gu p.2).map fun q=>(p.1 :: q.1,q.2):=rfl
@[simp] theorem Ke:bq fm gu S=(gu S).bind fun p=>if(slotsOf p.1).Nodup/\cM p.1<=1 then(cy p.2 p.1).bind fun us=>(fm us).bind fun r=>(wb p.1 r.2 p.2).map fun S2=>(r.1,S2) else none:=rfl
@[simp] theorem O5:cy S []=some []:=rfl
@[simp] theorem ND (u:U) (us:List U):cy S (u :: us)=(resolve S u).bind fun w=>(cy S us).map fun ws=>w :: ws:=rfl
@[simp] theorem Ti:resolve S (.t d)=ZA d:=rfl
@[simp] theorem Tj:resolve S (.m o)=some (.b o):=rfl
@[simp] theorem Tn (ns:List Int):resolve S (.s ns)=some (.s ns):=rfl
@[simp] theorem To:resolve S (.v i)=match S[i]? with | some (some (.m o))=>some (.b o) | some (some (.b o))=>some (.b o) | _=>none:=rfl
@[simp] theorem Rj:slotsOf []=[]:=rfl
@[simp] theorem VJ (us:List U):slotsOf (.t d :: us)=slotsOf us:=rfl
@[simp] theorem VL (us:List U):slotsOf (.m o :: us)=slotsOf us:=rfl
@[simp] theorem VM (ns:List Int) (us:List U):slotsOf (.s ns :: us)=slotsOf us:=rfl
@[simp] theorem VN (us:List U):slotsOf (.v i :: us)=i :: slotsOf us:=rfl
@[simp] theorem Rk:cM []=0:=rfl
@[simp] theorem VO (us:List U):cM (.t d :: us)=cM us:=rfl
@[simp] theorem VP (us:List U):cM (.m o :: us)=cM us+1:=rfl
@[simp] theorem VQ (ns:List Int) (us:List U):cM (.s ns :: us)=cM us:=rfl
@[simp] theorem VR (us:List U):cM (.v i :: us)=cM us:=rfl
@[simp] theorem Rm:wb [] [] S=some S:=rfl
@[simp] theorem VS (us:List U) (os:List MO):wb (.t d :: us) os S=wb us os S:=by cases os <;> rfl
@[simp] theorem VT (ns:List Int) (us:List U) (os:List MO):wb (.s ns :: us) os S=wb us os S:=by cases os <;> rfl
@[simp] theorem VU (us:List U) (os:List MO):wb (.m o :: us) (o' :: os) S=wb us os S:=rfl
@[simp] theorem VW (us:List U) (os:List MO):wb (.v i :: us) (o :: os) S=match S[i]? with | some (some (.m _))=>wb us os (S.set i (some (.m o))) | some (some (.b _))=>wb us os (S.set i (some (.b o))) | _=>none:=rfl
@[simp] theorem VX:aH i gb S=match S[i]? with | some (some _)=>(gb S).bind fun p=>(match p.2[i]? with | some (some u)=>(d7 u p.1).map fun d=>(d,p.2) | _=>none) | _=>none:=rfl
@[simp] theorem VY:dZ i S=match S[i]? with | some (some u)=>(vq u).map fun n=>(.int (n:Nat),S) | _=>none:=rfl
@[simp] theorem YZ (h:List D->MO->Option (D×MO)):eM i h gA S=if AW S i then(gA S).bind fun p=>kJ p.2 i (h p.1) else none:=rfl
@[simp] theorem VZ (gk gv:GD):vt i gk gv S=(gv S).bind fun p=>match p.2[i]? with | some (some _)=>(gk p.2).bind fun r=>(kJ r.2 i fun o=>(iS o r.1 p.1).map fun o'=>(.bV,o')).map fun z=>.nx z.2 | _=>none:=rfl
@[simp] theorem NF (ds:List D) (k:Int):d7 (.t (.tup ds)) (.int k)=dF ds k:=rfl
@[simp] theorem NG (ds:List D) (k:Int):d7 (.t (.lst ds)) (.int k)=dF ds k:=rfl
@[simp] theorem NH (ds:List D) (k:Int):d7 (.m (.lst ds)) (.int k)=dF ds k:=rfl
@[simp] theorem NI (ds:List D) (k:Int):d7 (.b (.lst ds)) (.int k)=dF ds k:=rfl
@[simp] theorem Bq (kvs:List (Key×D)) (k:D):d7 (.m (.dct kvs)) k=(keyOf k).bind (aU kvs):=by cases k <;> rfl
@[simp] theorem Br (kvs:List (Key×D)) (k:D):d7 (.b (.dct kvs)) k=(keyOf k).bind (aU kvs):=by cases k <;> rfl
@[simp] theorem O6 (ns:List Int) (k:Int):d7 (.s ns) (.int k)=(dF ns k).map D.int:=rfl
@[simp] theorem Tp (k:Int):keyOf (.int k)=some (.inl k):=rfl
@[simp] theorem Tq (k:Str):keyOf (.str k)=some (.inr k):=rfl
@[simp] theorem O7 (ds:List D):vq (.t (.tup ds))=some ds.length:=rfl
@[simp] theorem O8 (ds:List D):vq (.t (.lst ds))=some ds.length:=rfl
@[simp] theorem O9 (ds:List D):vq (.m (.lst ds))=some ds.length:=rfl
@[simp] theorem Pa (ds:List D):vq (.b (.lst ds))=some ds.length:=rfl
@[simp] theorem Rn (ns:List Int):vq (.s ns)=some ns.length:=rfl
@[simp] theorem Xq (C:Int->Int->Bool) (h:Int->Int->D) (x y:Int):FH C h [.int x,.int y]=if C x y then ZA (h x y) else none:=rfl
@[simp] theorem Rp (x y:Int):iz [.int x,.int y]=ZD (x+y):=rfl
@[simp] theorem Rq (x y:Str):iz [.str x,.str y]=if x.length+y.length<=100000 then ZA (.str (x++y)) else none:=rfl
@[simp] theorem Rr (x y:List D):iz [.tup x,.tup y]=if x.length+y.length<=100000 then ZA (.tup (x++y)) else none:=rfl
@[simp] theorem Rt (x y:List D):iz [.lst x,.lst y]=if x.length+y.length<=100000 then ZC (x++y) else none:=rfl
@[simp] theorem V0 (x y:Int):xx [.int x,.int y]=if((decide (-(2 ^ 64) < x) && decide (x < 2 ^ 64)) || (decide (-(2 ^ 64) < y) && decide (y < 2 ^ 64))) then ZD (x * y) else none:=rfl
@[simp] theorem V1 (ds:List D):gW ds=if ds.length<=100000 then ZA (.tup ds) else none:=rfl
@[simp] theorem V2 (ds:List D):gX ds=if ds.length<=100000 then ZC ds else none:=rfl
@[simp] theorem Tr (ds:List D) (k:Int):FL [.tup ds,.int k]=(dF ds k).map .t:=rfl
@[simp] theorem Tt (ds:List D) (k:Int):FL [.lst ds,.int k]=(dF ds k).map .t:=rfl
@[simp] theorem Xr:OX [d,e]=if iF d<=40 then ZA (.bl (qG d e)) else none:=rfl
@[simp] theorem Xs:SW [d,e]=if iF d<=40 then ZA (.bl (!qG d e)) else none:=rfl
@[simp] theorem Tu (x y z:Int):QF [.int x,.int y,.int z]=ZD (if y < x then(if z < y then z else y) else if z < x then z else x):=rfl
@[simp] theorem Ru (ds:List D):sH [.tup ds]=ZD ds.length:=rfl
@[simp] theorem Rv (ds:List D):sH [.lst ds]=ZD ds.length:=rfl
@[simp] theorem Pb (ds:List D):zu [.tup ds]=ZC ds:=rfl
@[simp] theorem Pc (ds:List D):zu [.lst ds]=ZC ds:=rfl
@[simp] theorem NJ (ds:List D):bK [.tup ds]=ZA (.tup ds):=rfl
@[simp] theorem NK (ds:List D):bK [.lst ds]=ZA (.tup ds):=rfl
@[simp] theorem V3 (ds:List D):U5 [.lst ds]=(j4 ds).map fun bs=>.t (.bl (bs.all id)):=rfl
@[simp] theorem V4 (ds:List D):Jq [.lst ds]=(j4 ds).map fun bs=>.t (.bl (bs.any id)):=rfl
@[simp] theorem Tv:nG [d]=if Dz d then ZA (.str (toPy d).shown) else none:=rfl
@[simp] theorem xW (x y:Str):qG (.str x) (.str y)=(x == y):=by simp[qG]
@[simp] theorem Kf (x y:Int):qG (.int x) (.int y)=(x == y):=by simp[qG]
@[simp] theorem Kg (x y:Bool):qG (.bl x) (.bl y)=(x == y):=by simp[qG]
@[simp] theorem Tw (x:Str):iF (.str x)=0:=by simp[iF]
@[simp] theorem Tz (x:Int):iF (.int x)=0:=by simp[iF]
@[simp] theorem TF (x:Bool):iF (.bl x)=0:=by simp[iF]
@[simp] theorem V5 (h:MO->Option (D×MO)):kJ S i h=match S[i]? with | some (some (.m o))=>(h o).map fun r=>(r.1,S.set i (some (.m r.2))) | some (some (.b o))=>(h o).map fun r=>(r.1,S.set i (some (.b r.2))) | _=>none:=rfl
@[simp] theorem Xu:AW S i=match S[i]? with | some (some (.m (.lst _)))=>true | some (some (.b (.lst _)))=>true | _=>false:=rfl
@[simp] theorem DZ (kvs:List (Key×D)) (k:D):iS (.dct kvs) k d=(keyOf k).bind fun kk=>if kvs.length < 100000 then some (.dct (putD kvs kk d)) else none:=rfl
@[simp] theorem Pd (ds:List D) (k:Int):iS (.lst ds) (.int k) d=(yC ds.length k).map fun j=>.lst (ds.set j d):=rfl
@[simp] theorem Rw (ds:List D):hAppend [d] (.lst ds)=if ds.length < 100000 then some (.bV,.lst (ds++[d])) else none:=rfl
@[simp] theorem Pe:aB [] S=some []:=by cases S <;> rfl
@[simp] theorem TH (us:List U) (o2:MO):aB (.b o2 :: us) (some (.b o) :: S)=(aB us S).map fun os=>o :: os:=rfl
@[simp] theorem Cr (us:List U) (x:Option U):aB (.t d :: us) (x :: S)=aB us S:=by cases x <;> rfl
end
end L2
end
section
namespace Sw
open PySem PySem.Spec PyProof.Rows L2
noncomputable def bG (T:AAG):D:=.tup (T.map fun p=>.tup [.str p.1,.int p.2])
noncomputable def upTo (n:Nat):List Int:=(List.range n).map fun(k:Nat)=>(k:Int)
def zT (n:Nat):gT 0 n=(upTo n).map D.int:=by
 unfold gT upTo
 simp
noncomputable def NL:D->Option (Str×Int)
 | .tup [.str z,.int i]=>some (z,i)
 | _=>none
noncomputable def zU:List D->Option (List (Str×Int))
 | []=>some []
 | d :: ds=>(NL d).bind fun p=>(zU ds).map fun ps=>p :: ps
noncomputable def tabOf:D->Option (List (Str×Int))
 | .tup ds=>zU ds
 | _=>none
@[simp] theorem D0 (T:AAG):zU (T.map fun p=>.tup [.str p.1,.int p.2])=some T:=by
 induction T with
 | nil=>rfl
 | cons p T ih=>simp[zU,NL,ih]
@[simp] theorem Kh (T:AAG):tabOf (bG T)=some T:=D0 T
theorem uL:∀{ds:List D}{T:AAG},zU ds=some T->ds=T.map fun p=>.tup [.str p.1,.int p.2]
  | [],T,h=>by cases h;rfl
  | d :: ds, T, h => by
    obtain⟨p,h1,h⟩:=ah h
    obtain⟨ps,h2,h⟩:=aq h
    subst h
    unfold NL at h1
    split at h1
    . cases h1
      rw[uL h2]
      rfl
    . cases h1
def Bs {d:D}{T:AAG}(h:tabOf d=some T):d=bG T:=by
 unfold tabOf at h
 split at h
 ·rw[uL h];rfl
 ·cases h
theorem GO:∀(ts:List D) (S:SS),S.length=ts.length->aB (ts.map U.t) S=some []
 | [],S,_=>by cases S <;> rfl
 | d :: ts,[],h=>by cases h
 | d :: ts,x :: S,h=>by
  show aB (U.t d :: ts.map U.t) (x :: S)=_
  rw[Cr]
  exact GO ts S (by simpa using h)
theorem LP (S:SS):∀ts:List D,cy S (ts.map U.t)=some (ts.map U.t)
 | []=>rfl
 | d :: ts=>by
  show(some (U.t d)).bind _=_
  rw[LP S ts]
  rfl
theorem Rx:∀ts:List D,slotsOf (ts.map U.t)=[]
 | []=>rfl
 | d :: ts=>Rx ts
theorem Ry:∀ts:List D,cM (ts.map U.t)=0
 | []=>rfl
 | d :: ts=>Ry ts
theorem NN (S:SS):∀ts:List D,wb (ts.map U.t) [] S=some S
 | []=>rfl
 | d :: ts=>NN S ts
theorem xX {cap:List Nat}{q:GT}{g:GD}{S:SS}{ts:List D}(hc:aY S cap=some (ts.map U.t)) (p:D->Bool) (f:D->D):∀(ds acc:List D),
    (∀d∈ds,q (ZA d :: ts.map fun x=>ZA x)=some (p d,ZA d :: ts.map fun x=>ZA x))->(∀d∈ds,p d=true->g (ZA d :: ts.map fun x=>ZA x)=some (f d,ZA d :: ts.map fun x=>ZA x))->
    aF cap q g ds S acc=some (acc++(ds.filter p).map f,S)
  | [],acc,_,_=>by simp[aF]
  | d :: ds, acc, hq, hg => by
    have em:(ts.map U.t).map some=ts.map fun x=>some (U.t x):=by simp
    have eo:aB (.t d :: ts.map U.t) (ZA d :: ts.map fun x=>ZA x)=some []:=by rw[Cr];exact GO ts _ (by simp)
    have q0:=hq d (ZJ)
    unfold aF
    rw[hc]
    simp only[ZE]
    rw[if_pos ⟨by rw[Rx];exact aa0,by rw[Ry];exact Z3 _⟩,LP]
    simp only[ZE]
    rw[em,q0]
    simp only[ZE]
    by_cases hp:p d=true
    . rw[if_pos hp,hg d ZJ hp]
      simp only[ZE]
      rw[eo]
      simp only[ZE]
      rw[NN]
      simp only[ZE]
      rw[xX hc p f ds (acc++[f d]) (fun e he=>hq e (ZI _ he)) (fun e he=>hg e (ZI _ he)),adt hp]
      simp
    . rw[if_neg hp,eo]
      simp only[ZE]
      rw[NN]
      simp only[ZE]
      rw[xX hc p f ds acc (fun e he=>hq e (ZI _ he)) (fun e he=>hg e (ZI _ he)),adu hp]
@[simp] theorem Kl (cap:List Nat) (gi:GI) (q:GT) (g:GD) (S:SS):bw cap gi q g S=(gi S).bind fun p=>if p.1.length<=100000 then(aF cap q g p.1 p.2 []).map fun r=>(.m (.lst r.1),r.2) else none:=rfl
def cz (g:GD) (S:SS):bM g S=(g S).bind fun p=>match p.1 with | .tup ds=>some (ds,p.2) | .lst ds=>some (ds,p.2) | .str z=>some (z.cps.toList.map fun c=>.str ⟨#[c]⟩,p.2) | _=>none:=rfl
noncomputable def gz (p:Str×Int):D:=.tup [.str p.1,.int p.2]
mutual
def Sane:D->Prop
 | .int i=>i.natAbs < 10 ^ 30
 | .str z=>∀c∈z.cps.toList,c < 16 ^ 8
 | .tup ds=>wJ ds
 | .lst ds=>wJ ds
 | .bV=>True
 | .bl _=>True
def wJ:List D->Prop
 | []=>True
 | d :: ds=>Sane d/\wJ ds
end
mutual
noncomputable def wD:D->Nat
 | .bV=>6
 | .bl _=>6
 | .int _=>40
 | .str z=>10 * z.length+2
 | .tup ds=>IC ds+4
 | .lst ds=>IC ds+4
noncomputable def IC:List D->Nat
 | []=>0
 | d :: ds=>wD d+2+IC ds
end
def D3 (s:String):(Str.ofString s).length=s.length:=PySem.ofString_length s
theorem Cs:∀(ts:List Str) (k:Nat) (acc:Str),(textFrom k acc ts).length<=acc.length+piled ts
  | [],k,acc=>ZM _
  | t :: ts, k, acc => by
    have ih:=Cs ts (k+1) (acc++(if k > 0 then ", " else "":String)++t)
    have e:(acc++(if k > 0 then ", " else "":String)++t).length<=acc.length+2+t.length:=by
      rw[acA,acA]
      split
      . show acc.length+2+t.length<=_;omega
      . show acc.length+0+t.length<=_;omega
    rw[piled_cons]
    show(textFrom (k+1) _ ts).length<=_
    omega
mutual
theorem shown_le:∀d:D,Sane d->(toPy d).shown.length<=wD d
 | .bV,_=>by show(Str.ofString "None").length<=6;decide
 | .bl b,_=>by cases b <;> (show(Str.ofString _).length<=6;decide)
 | .int i,h=>by
  show(Str.ofString (toString i)).length<=40
  rw[D3]
  exact Z5 (int_text_length_le10 (k:=30) (by decide) h) (by decide)
 | .str z,h=>PySem.StrLaws.reprText_len z h
 | .tup ds,h=>by
  have k:=qY ds h
  show(tupleText (PyData.shownAll (gJ ds))).length<=IC ds+4
  unfold tupleText
  rw[acA,acA]
  have e1:("(":Str).length=1:=rfl
  have e2:((if(PyData.shownAll (gJ ds)).length == 1 then ",)" else ")":String):Str).length<=2:=by split <;> decide
  by_cases hn:PyData.shownAll (gJ ds)=[]
  ·rw[hn] at e2 ⊢
   have e3:(Str.join ", " []).length=0:=rfl
   omega
  ·have:=join_length_add _ hn
   omega
 | .lst ds,h=>by
  have k:=qY ds h
  show(listText (PyData.shownAll (gJ ds))).length<=IC ds+4
  unfold listText
  rw[acA]
  have e1:=Cs (PyData.shownAll (gJ ds)) 0 "["
  have e2:("[":Str).length=1:=rfl
  have e3:("]":Str).length=1:=rfl
  omega
theorem qY:∀ds:List D,wJ ds->piled (PyData.shownAll (gJ ds))<=IC ds
 | [],_=>ZM _
 | d :: ds,h=>by
  show piled ((toPy d).shown :: PyData.shownAll (gJ ds))<=wD d+2+IC ds
  rw[piled_cons]
  have:=shown_le d h.1
  have:=qY ds h.2
  omega
end
mutual
theorem sC:∀d:D,Sane d->(toPy d).showable=true
 | .bV,_=>rfl
 | .bl b,_=>rfl
 | .int i,h=>by
  show decide (i.natAbs.log2 < 1920)=true
  rw[abC]
  by_cases hz:i.natAbs=0
  ·rw[hz];decide
  ·exact(Nat.log2_lt hz).mpr (abg h (ZQ (show(10:Nat) ^ 30 < 2 ^ 100 by decide) (Nat.pow_le_pow_right (by decide) (by decide))))
 | .str z,_=>rfl
 | .tup ds,h=>by show PyData.showableAll (gJ ds)=true;exact l6 ds h
 | .lst ds,h=>by show PyData.showableAll (gJ ds)=true;exact l6 ds h
theorem l6:∀ds:List D,wJ ds->PyData.showableAll (gJ ds)=true
 | [],_=>rfl
 | d :: ds,h=>by
  show((toPy d).showable && PyData.showableAll (gJ ds))=true
  rw[sC d h.1,l6 ds h.2]
  rfl
end
mutual
theorem depth_eq:∀d:D,(toPy d).depth=iF d
 | .bV=>rfl
 | .bl _=>rfl
 | .int _=>rfl
 | .str _=>rfl
 | .tup ds=>by show PyData.depthAll (gJ ds)+1=bH ds+1;rw[qZ ds]
 | .lst ds=>by show PyData.depthAll (gJ ds)+1=bH ds+1;rw[qZ ds]
theorem qZ:∀ds:List D,PyData.depthAll (gJ ds)=bH ds
 | []=>rfl
 | d :: ds=>by show max (toPy d).depth (PyData.depthAll (gJ ds))=max (iF d) (bH ds);rw[depth_eq d,qZ ds]
end
def GP {d:D}(h:Sane d) (hw:wD d<=1000000) (hd:iF d<=20):Dz d:=
 ⟨sC d h,by rw[depth_eq];exact hd,Z5 (shown_le d h) (Z5 hw (by decide))⟩
structure Good (n k:Nat) (d:D):Prop where
 GQ:Sane d
 w:wD d<=n
 dep:iF d<=k
def Good.mono {n k n' k':Nat}{d:D}(h:Good n k d) (a:n<=n') (b:k<=k'):Good n' k' d:=⟨h.GQ,Z5 h.w a,Z5 h.dep b⟩
def Good.Dz {n k:Nat}{d:D}(h:Good n k d) (a:n<=1000000) (b:k<=20):L2.Dz d:=GP h.GQ (Z5 h.w a) (Z5 h.dep b)
structure Bt (z:Str):Prop where
 len:z.length<=8
 Zq:∀c∈z.cps.toList,c < 16 ^ 8
structure fO (p:Str×Int):Prop where
 nm:Bt p.1
 lo:0<=p.2
 hi:p.2<=10
def getD_mem {α:Type}{l:List α}{i:Nat}{x:α}(h:i < l.length):l.getD i x∈l:=by simp[List.getD,h]
noncomputable def zV (n:Nat):FM
 | [.s ns]=>if ns.length<=n then some (.t (.bl true),[]) else none
 | _=>none
def NO {K:AAA}{H:Hp}{a:Addr}{ns:List Int}{n:Nat}{E:XK}(hl:ns.length<=n) (hO:Ja H) (hS:m5 K H a (ns.map V.int)):spT K 1 (zV n) [.ref a] H (fun v _=>v= .bl true) E:=by
 have sc:Je K H a ns:=by
  rcases hS with(h | h) | h
  ·rcases hO a with z | ⟨o,xs,z⟩
   ·rw[h] at z;cases z
   ·rw[h] at z;cases z
  ·exact .inl h
  ·exact .inr h
 exact⟨rfl,fun _=>none,[.s ns],.t (.bl true),[],(fun b o z=>by cases z),.cons ⟨a,rfl,sc⟩ .nil,aa0,by simp[zV,hl],fun v F' H' _ r=>nj r⟩
end Sw
end
section
namespace L2
open PySem PySem.Spec PyProof.Rows
variable {ps:List Str}
section
variable {X:Cx}{e elt iter:Expr}{ifs:List Expr}{b:Expr}{es:List Expr}{g:GE}{gd gb:GD}{gi:GI}{q:GT}{gu:GU}{x y y0:Str}{p pos pos' px py JR pt spos:Pos}{k0 k j:Nat}{scope:Scope}{cl:List (Str×Addr)}{aZ:List Str}{cap:List Nat}
def zs (hN:X.N.Nodup) (i:Nat) (he:JE X e g) (hi:X.N[i]? =some x:=by rfl) (hx:Loc X.env.scope x:=by first | exact Or.inl rfl | exact Or.inr rfl) (hs:swapsWith e (some (.Name x pos')) pos.line X.env=pure false:=by rfl)
  (hf:X.fn x=true\/X.env.scope.names.lookup x=some .local:=by first | exact .inl rfl | exact .inr rfl):JS X (.Assign [.Name x pos'] e pos) (aR i g):=MX hN hi hx he hs hf
def zg (hN:X.N.Nodup) (i:Nat) (hi:X.N[i]? =some x:=by rfl) (hx:Loc X.env.scope x:=by first | exact Or.inl rfl | exact Or.inr rfl) (hf:X.fn x=true\/X.env.scope.names.lookup x=some .local:=by first | exact .inl rfl | exact .inr rfl):JG X (.Name x pos) (bName i):=Ji hN hi hx hf
def za {op:Operator}{f:Int->Int->Int}(ho:SG X op (Uj f)) (hN:X.N.Nodup) (i:Nat) (he:JD X e gd) (hi:X.N[i]? =some x:=by rfl) (hx:Loc X.env.scope x:=by first | exact Or.inl rfl | exact Or.inr rfl)
  (hf:X.fn x=true\/X.env.scope.names.lookup x=some .local:=by first | exact .inl rfl | exact .inr rfl):JS X (.AugAssign (.Name x pos') op e pos) (DE f i gd):=M5 ho hN hi hx he hf
def zc (hN:X.N.Nodup) (i:Nat) (T:d8 X x aZ cap scope cl) (hi:JI X (.Name x px) iter gi) (ht:∀C s H fp,LA (bT X (x :: aZ) scope cl C s H fp) ifs q) (he:∀C s H fp,JD (bT X (x :: aZ) scope cl C s H fp) elt gd)
  (hy:X.N[i]? =some y:=by rfl) (hx:Loc X.env.scope y:=by first | exact Or.inl rfl | exact Or.inr rfl) (hc:X.calm=true:=by rfl)
  (hsw:swapsWith (.ListComp elt [⟨.Name x px,iter,ifs,0⟩] scope pos) (some (.Name y py)) spos.line X.env=pure true:=by rfl) (hf:X.fn y=true\/X.env.scope.names.lookup y=some .local:=by first | exact .inl rfl | exact .inr rfl)
  (hs:∀x,foldedSetIterable iter X.env x=pure x:=by intro _;rfl):JS X (.Assign [.Name y py] (.ListComp elt [⟨.Name x px,iter,ifs,0⟩] scope pos) spos) (aR i (bw cap gi q gd)):=F5 hN hy hx T hc hi ht he hsw hf hs
def ys (hr:jU k X.A) (i:Nat) (hb:JD X b gb) (hs:pW b:=by first | (intro _ _;rfl)) (hN:X.N[i]? =some x:=by rfl) (hv:AE X.env.scope x:=by first | exact Or.inl rfl | exact Or.inr (Or.inl rfl) | exact Or.inr (Or.inr rfl))
  (hd:(x == ("__debug__":Str))=false:=by decide) (hcd:(x == ("__classdict__":Str))=false:=by decide):JD X (.Subscript (.Name x px) b pos) (aH i gb):=M4 (jF hr) hb hs hN hv hd hcd
def jv (i:Nat) (hN:X.N[i]? =some x:=by rfl) (hv:AE X.env.scope x:=by first | exact Or.inl rfl | exact Or.inr (Or.inl rfl) | exact Or.inr (Or.inr rfl)) (hd:(x == ("__debug__":Str))=false:=by decide)
  (hcd:(x == ("__classdict__":Str))=false:=by decide):JD X (.Name x pos) (eF (aj i)):=(dG i hN hv hd hcd).d
def cp (h1:∀y∈scope.names,y.2≠.free:=by decide) (h2:∀y∈scope.names,y.2≠.cell:=by decide) (h3:scope.kind= .function:=by rfl) (h4:∀y∈scope.names,y.2= .local->scope.names.lookup y.1=some .local:=by decide) (h5:scope.names.lookup x=some .local:=by rfl):
  d8 X x [] [] scope []:=AU h1 h2 h3 h4 h5
def cc {c:Addr}(i:Nat) (clos:closureFor scope X.env=pure [(y,c)]:=by rfl) (jx:∀z∈scope.names,z.2≠.cell:=by decide) (kind:scope.kind= .function:=by rfl) (names:∀z∈scope.names,z.2= .local->scope.names.lookup z.1=some .local:=by decide)
  (loc:scope.names.lookup x=some .local:=by rfl) (hc:X.env.cells.lookup y=some c:=by rfl) (only:∀z∈scope.names,z.2= .free->z.1=y:=by decide) (ne:x≠y:=by decide) (hN:X.N[i]? =some y:=by rfl) (vis:X.env.scope.names.lookup y=some .cell:=by rfl) (rel:(relabel scope X.env).names.lookup y=some .cell:=by rfl):
  d8 X x [y] [i] scope [(y,c)]:=F9 clos jx kind names loc hc only ne hN vis rel
def cs (aZ:List Str) (cap:List Nat) (clos:closureFor scope X.env=pure cl:=by rfl) (jx:∀z∈scope.names,z.2≠.cell:=by decide) (kind:scope.kind= .function:=by rfl) (names:∀z∈scope.names,z.2= .local->scope.names.lookup z.1=some .local:=by decide)
  (loc:scope.names.lookup x=some .local:=by rfl) (hc:cl.map (fun p=>X.env.cells.lookup p.1)=cl.map (fun p=>some p.2):=by rfl) (only:∀z∈scope.names,z.2= .free->z.1∈aZ:=by decide) (hcl:cl.map (·.1)=aZ.reverse\/cl.map (·.1)=aZ:=by first | exact Or.inl rfl | exact Or.inr rfl) (nd:(x :: aZ).Nodup:=by decide)
  (slot:cap.map (fun i=>X.N[i]?)=aZ.map some:=by rfl) (vis:aZ.map (fun n=>X.env.scope.names.lookup n)=aZ.map fun _=>some .cell:=by rfl) (rel:aZ.map (fun n=>(relabel scope X.env).names.lookup n)=aZ.map fun _=>some .cell:=by rfl):
  d8 X x aZ cap scope cl:=A2 clos jx kind names loc hc only hcl nd slot vis rel
end
section
variable {P:Program}{w:World}{K:AAA}{mg:AAC}{base:Heap}{h:Heap}
structure Df (K:AAA) (mg:AAC) (x:Str) (st:Stmt):Prop where
 ex:∃f fd,Lr K x x st f fd/\mg x=some (.ref f)
def Rz {x:Str}{st:Stmt}{f:Addr}{oc:Value}{od an:Option Addr}{osl:Array (Option Value)}{kV doc pm cdv ct:Value}(X:K.In h) (G:h.Ns mainGlobals mg) (a:PySem.W.nsIn K mainGlobals x=some (some (.ref f)))
  (l:K.lookup f=some ⟨oc,od,.func (PySem.W.fnOf x x (nX st) (jI st) (aN st) .none kV doc pm an cdv ct),osl⟩) (c:PySem.W.codeIn K cdv x=true) (k:PySem.W.keepIn K (.ref f)=true):Df K mg x st:=
 ⟨_,_,MH l c k,PySem.W.mg_of X G a⟩
structure jN (P:Program) (w:World) (K:AAA) (mg:AAC) (base:Heap) (n:Nat) (x:Str) (ps:List Str) (fm:FM):Prop where
 ex:∃a d,o7 P w K mg base EE n a d ps (spT K ps.length fm)/\Binds K d ps []/\PySem.W.keepIn K (.ref a)=true/\mg x=some (.ref a)
def Bd (x:Str) (st:Stmt) (ps:List Str):Prop:=∀(kV doc pm:Value) (an:Option Addr) (cdv ct:Value) (us:AAI),us.length=ps.length->bindArgs (PySem.W.fnOf x x (nX st) (jI st) (aN st) .none kV doc pm an cdv ct) ⟨us,[]⟩=pure (ps.zip us)
def sI {N:List Str}{sc:Scope}(a:sc.kind= .function:=by rfl) (b:sc.isCoroutine=false:=by rfl) (c:sc.isGenerator=false:=by rfl) (d:N.Nodup:=by decide +kernel) (e:N.take ps.length=ps:=by rfl)
  (f:∀x∈ps,sc.names.lookup x=some .local\/sc.names.lookup x=some .cell:=by decide +kernel) (g:∀y∈sc.names,y.2≠.free:=by decide +kernel):bF N ps sc:=⟨a,b,c,d,e,f,g⟩
def vf {x:Str}{st:Stmt}{N:List Str}{k:Nat}{fm:FM}{g:GS}(D:Df K mg x st) (Sc:bF N ps (aN st))
  (hb:∀(f:Addr) (cdv:Value) (A:Around) (outer:List Env) (s:Shared) (H:Hp) (E:XK),jU k (A.deeper (envOfC x (aN st) s.heap.objs.size f cdv))->JB (yP EE P w K mg base N x (aN st) f cdv A outer s H E).OQ (jI st) g)
  (hf:∀us r,fm us=some r->bY N.length g us=some r) (bd:Bd x st ps:=by intro _ _ _ _ _ _ us hl;rcases us with _ | ⟨_,_ | ⟨_,_ | ⟨_,_ | ⟨_,_ | ⟨_,_ | ⟨_,_ | ⟨_,_⟩⟩⟩⟩⟩⟩⟩ <;> first | rfl | cases hl):jN P w K mg base (k+1) x ps fm:=by
 obtain⟨f,fd,F,m⟩:=D.ex
 exact⟨f,fd,W5 F Sc (hb f) hf,F.binds bd,F.kp,m⟩
end
section
variable {X:Cx}{e:Expr}{es:List Expr}{gu:GU}{x:Str}{p pos:Pos}{k j:Nat}{ps:List Str}{fm:FM}
def jc (c:jN X.prog X.w X.K X.mg X.base j x ps fm) (hr:jU k X.A) (ha:JU X (e :: es) gu) (hj:j<=k:=by omega) (hg:Gl X x:=by rfl) (hn:(e :: es).length=ps.length:=by rfl)
  (hdb:(x == ("__debug__":Str))=false:=by decide) (he:starEach (e :: es) X.env=(false,eval e X.env) :: starEach es X.env:=by rfl) (hpl:(backTo pos (starEach es X.env)).any (·.1)=false:=by rfl):
  JE X (.Call (.Name x p) (e :: es) [] pos) (bq fm gu):=by
 obtain⟨a,d,G,b,kp,m⟩:=c.ex
 exact Jk (G.mono hj) hr hg m kp b ha hn hdb he hpl
end
section
variable (S:SS) (d:D) (i:Nat) (g ga gb gc:GD) (gA:GA)
@[simp] theorem V6 (f:Int->Int->Int):DE f i g S=match S[i]? with
 | some (some (.t (.int n)))=>(g S).bind fun p=>match p.1 with
  | .int m=>(oJ i (.t (.int (f n m))) p.2).map .nx
  | _=>none
 | _=>none:=rfl
@[simp] theorem V7:DC [d,.bV]=ZA (.bl (lD d)):=rfl
@[simp] theorem TJ (k:Bool):Gb [.bl k]=ZD (if k then 1 else 0):=rfl
@[simp] theorem GR (ds:List D) (k:Int):zB [.lst ds,.int k]=if 0<=k/\k.toNat<=100000/\ds.length * k.toNat<=100000 then some (.m (.lst (List.replicate k.toNat ds).flatten)) else none:=rfl
@[simp] theorem Pf (es ds:List D):i8 [.lst es] (.lst ds)=if ds.length+es.length<=100000 then some (.bV,.lst (ds++es)) else none:=rfl
@[simp] theorem TL:fW gA S=(gA S).bind fun p=>match p.1 with
 | [d]=>(xH d).map fun q=>(dI q.2,p.2)
 | _=>none:=rfl
@[simp] theorem RA (ds:List D):xH (.lst ds)=some (true,ds):=rfl
@[simp] theorem RB (ds:List D):xH (.tup ds)=some (false,ds):=rfl
def bD (cap:List Nat) (gi:GI) (q:GT):bw cap gi q g S=(gi S).bind fun p=>if p.1.length<=100000 then(aF cap q g p.1 p.2 []).map fun r=>(.m (.lst r.1),r.2) else none:=rfl
@[simp] theorem TM (x y:Int):Ca [.int x,.int y]=ZD (if y < x then y else x):=rfl
end
end L2
namespace Sq
open PySem PySem.Spec PyProof.Rows L2 Sw
variable {i:Int}
theorem qq {bd:GB}{body:GS}:∀(ds:List D) (I:List D->SS->Prop) (S:SS),I ds S->(∀d r S,I (d :: r) S->∃S1 S2,bd d S=some S1/\body S1=some (.nx S2)/\I r S2)->∃S',loop bd body ds S=some (.nx S')/\I [] S'
 | [],I,S,h,_=>⟨S,rfl,h⟩
 | d :: ds,I,S,h,k=>by
  obtain⟨S1,S2,e1,e2,h2⟩:=k d ds S h
  obtain⟨S',e,h'⟩:=qq ds I S2 h2 k
  refine⟨S',?_,h'⟩
  show((bd d S).bind fun S1=>(body S1).bind _)=_
  rw[e1,ZE,e2,ZE]
  exact e
def l7 (cap : List Nat) (q : GT) (g : GD) (d : D) (ds : List D) (S : SS) (acc : List D) : aF cap q g (d :: ds) S acc = (aF cap q g [d] S acc).bind fun r => aF cap q g ds r.2 r.1 := by
  simp only[aF]
  cases aY S cap with
  | none=>rfl
  | some us =>
    simp only[ZE]
    split
    . cases cy S us with
      | none=>rfl
      | some ws =>
        simp only[ZE]
        cases q (ZA d :: ws.map some) with
        | none=>rfl
        | some p=>
          simp only[ZE]
          split
          . cases g p.2 with
            | none=>rfl
            | some r=>
              simp only[ZE]
              cases aB (.t d :: ws) r.2 with
              | none=>rfl
              | some outs=>
                simp only[ZE]
                cases wb us outs S with
                | none=>rfl
                | some S'=>rfl
          . cases aB (.t d :: ws) p.2 with
            | none=>rfl
            | some outs=>
              simp only[ZE]
              cases wb us outs S with
              | none=>rfl
              | some S'=>rfl
    . rfl
theorem tG {cap:List Nat}{g:GD}:∀(ds:List D) (I:List D->List D->SS->Prop) (S:SS) (acc:List D),I ds acc S->(∀d r acc S,I (d :: r) acc S->∃acc' S',aF cap aC g [d] S acc=some (acc',S')/\I r acc' S')->∃acc' S',aF cap aC g ds S acc=some (acc',S')/\I [] acc' S'
 | [],I,S,acc,h,_=>⟨acc,S,rfl,h⟩
 | d :: ds,I,S,acc,h,k=>by
  obtain⟨a1,S1,e1,h1⟩:=k d ds acc S h
  obtain⟨a2,S2,e2,h2⟩:=tG ds I S1 a1 h1 k
  exact⟨a2,S2,by rw[l7,e1];exact e2,h2⟩
def q8 {α:Type}{l:List α}{x:α}(h0:0<=i) (h:l[i.toNat]? =some x):dF l i=some x:=by
 have hl:=(Zy.mp h).1
 unfold dF yC
 rw[if_pos h0,if_pos (by omega)]
 exact h
def xY {α:Type}{l:List α}(h0:0<=i) (h1:i < l.length):∃x,dF l i=some x/\l[i.toNat]? =some x:=by
 have h:i.toNat < l.length:=by omega
 exact⟨l[i.toNat],q8 h0 (Zz h),Zz h⟩
def lI {gA:GA}{S S':SS}{j:Int}(h:gA S=some ([.int j],S')) (h1:j < 1000000) (h2:-1000000 < j):cS gA S=some (gT 0 j.toNat,S'):=by
 unfold cS
 rw[h]
 simp only[ZE]
 rw[if_pos ⟨h1,h2⟩]
def NP (i n:Nat) (j:Int) (S:SS) (h:S[i]? =some (ZD j)) (hj:j.toNat=n) (h1:j < 1000000) (h2:-1000000 < j):cS (aa (eF (aj i)) ao) S=some (gT 0 n,S):=by
 have e:(aa (eF (aj i)) ao) S=some ([.int j],S):=by simp[h]
 rw[lI e h1 h2,hj]
def xZ (n:Nat):(-1000000:Int) < n:=Int.lt_of_lt_of_le (by decide) (abq n)
def GV (i n:Nat) (S:SS) (h:S[i]? =some (ZD n)) (hn:n < 1000000):cS (aa (eF (aj i)) ao) S=some (gT 0 n,S):=
 NP i n n S h (aaB n) (adh.mpr hn) (xZ n)
def NQ (ds:List D) (n:Nat) (k:Int) (hk:k.toNat=n) (h:ds.length * n<=100000) (h1:0<=k) (h2:n<=100000):zB [.lst ds,.int k]=some (.m (.lst (List.replicate n ds).flatten)):=by
 subst hk
 rw[GR,if_pos ⟨h1,h2,h⟩]
def GW (ds:List D) (n:Nat) (h:ds.length * n<=100000) (hn:n<=100000):zB [.lst ds,.int n]=some (.m (.lst (List.replicate n ds).flatten)):=
 NQ ds n n (aaB n) h (abq n) hn
theorem Ct (x:D):∀n:Nat,(List.replicate n [x]).flatten=List.replicate n x
 | 0=>rfl
 | n+1=>by rw[aaU,abk,Ct x n];rfl
def GX (x:D) (n:Nat) (hn:n<=100000):zB [.lst [x],.int n]=ZC (List.replicate n x):=by
 rw[GW [x] n (by rw[aaA,Nat.one_mul];exact hn) hn,Ct]
noncomputable def l8:GS:=
 (aG (aR 2 (eP iz (aa (eF (eP iz (aa (eF (eP xx (aa (eF (eP iz (aa (eF (eP zh (aa (eF (aj 0)) (aa (eF (eP Jh (aa (eC (.int 10)) (aa (eC (.int 15)) ao)))) ao)))) (aa (eC (.int 1)) ao)))) (aa (eC (.int 48271)) ao)))) (aa (eF (eP xx (aa (eF (eP xx (aa (eF (aj 1)) (aa (eF (aj 1)) ao)))) (aa (eC (.int 16807)) ao)))) ao)))) (aa (eF (eP xx (aa (eF (aj 1)) (aa (eC (.int 7919)) ao)))) ao))))
 (dH (eP zh (aa (eF (eP xx (aa (eF (eP zh (aa (eF (aj 2)) (aa (eC (.int 2147483647)) ao)))) (aa (eC (.int 69621)) ao)))) (aa (eC (.int 2147483629)) ao)))))
noncomputable def sP:FM:=bY 3 l8
def Km:∀us r,sP us=some r->bY 3 l8 us=some r:=fun _ _ h=>h
def GY (c k:Int) (h0:0<=k) (h1:k < 1000000):∃v,sP [.t (.int c),.t (.int k)]=some (.t (.int v),[])/\0<=v/\v < 2147483629:=by
 refine⟨(((c % 10 ^ 15+1) * 48271+k * k * 16807+k * 7919) % 2147483647 * 69621) % 2147483629,?_,abK _ (by decide),abr _ (by decide)⟩
 have a1:-18446744073709551616 < k:=by omega
 have a2:k < 18446744073709551616:=by omega
 simp[sP,bY,l8,aB,a1,a2]
noncomputable abbrev fd (c i l:Int):MO:=.lst [.int c,.int i,.int l]
noncomputable def ia (q9:FM):GS:=
 (aG (aR 2 (eP iz (aa (eF (eP xx (aa (eC (.int 7919)) (aa (eF (aj 1)) ao)))) (aa (eC (.int 1)) ao))))
 (aG (v7 (qB (eF (eP B6 (aa (eF (aj 1)) (aa (dZ 0) ao))))) (aR 2 (eT (aH 0 (eF (aj 1))))) (v7 (qB (eF (eP OT (aa (dZ 0) (aa (eC (.int 0)) ao))))) (aR 2 (bq q9 (bg (aH 0 (eF (eP zh (aa (eF (aj 1)) (aa (dZ 0) ao))))) (bg (eF (aj 1)) cu)))) lV))
 (dH (eP gX (aa (eF (aj 2)) (aa (eC (.int 0)) (aa (eF (eP xx (aa (eF (eP FI (aa (eF (aj 2)) (aa (eF (eP Jh (aa (eC (.int 10)) (aa (eC (.int 18)) ao)))) ao)))) (aa (eF (eP Gb (aa (eF (eP Qu (aa (eF (aj 2)) (aa (eF (eP Jh (aa (eC (.int 10)) (aa (eC (.int 18)) ao)))) ao)))) ao))) ao)))) ao)))))))
noncomputable def oV:FM:=bY 3 (ia sP)
def GZ:∀us r,oV us=some r->bY 3 (ia sP) us=some r:=fun _ _ h=>h
def Cu {ns:List Int}{k:Int}(h0:0<=k) (h1:k < 1000) (hn:ns.length < 1000):∃c l,oV [.s ns,.t (.int k)]=some (.m (fd c 0 l),[]):=by
 have a1:-18446744073709551616 < k:=by omega
 have a2:k < 18446744073709551616:=by omega
 by_cases hk:k < ns.length
 ·obtain⟨x,hx,_⟩:=xY (l:=ns) h0 hk
  refine⟨x,(x - 10 ^ 18) * (if decide (10 ^ 18<=x)=true then 1 else 0),?_⟩
  have e:dF ns k=some x:=hx
  by_cases hc:(1000000000000000000:Int)<=x <;> simp[oV,bY,ia,aB,a1,a2,hk,e,hc]
 ·by_cases hp:0 < ns.length
  ·have Y0:(0:Int) < ns.length:=by omega
   have hne:(ns.length:Int)≠0:=by omega
   obtain⟨x,hx,_⟩:=xY (l:=ns) (i:=k % ns.length) (abK _ hne) (abr _ Y0)
   obtain⟨v,hv,v0,v1⟩:=GY x k h0 (by omega)
   have hc:¬(1000000000000000000:Int)<=v:=by omega
   refine⟨v,0,?_⟩
   simp[oV,bY,ia,aB,a1,a2,hk,hp,hx,hv,hc]
  ·have hc:¬(1000000000000000000:Int)<=7919 * k+1:=by omega
   refine⟨7919 * k+1,0,?_⟩
   simp[oV,bY,ia,aB,a1,a2,hk,hp,hc]
noncomputable def ji (q9:FM):GS:=
 (aG (vt 0 (eC (.int 1)) (eF (eP iz (aa (aH 0 (eC (.int 1))) (aa (eC (.int 1)) ao)))))
 (aG (v7 (qB (eF (eP OT (aa (aH 0 (eC (.int 2))) (aa (eC (.int 0)) ao))))) (aG (aR 2 (eP zh (aa (aH 0 (eC (.int 2))) (aa (eF (aj 1)) ao))))
 (aG (vt 0 (eC (.int 2)) (eF (eP MW (aa (aH 0 (eC (.int 2))) (aa (eF (aj 1)) ao)))))
 (dH (aj 2)))) lV)
 (dH (eP zh (aa (eF (eP MW (aa (eF (bq q9 (bg (aH 0 (eC (.int 0))) (bg (aH 0 (eC (.int 1))) cu)))) (aa (eC (.int 7)) ao)))) (aa (eF (aj 1)) ao))))))
noncomputable def dJ:FM:=bY 3 (ji sP)
def G0:∀us r,dJ us=some r->bY 3 (ji sP) us=some r:=fun _ _ h=>h
def kR (c l:Int){m:Int}(h0:0<=i) (h1:i < 900000) (m0:0 < m) (m1:m < 1000000):∃v l',dJ [.b (fd c i l),.t (.int m)]=some (.t (.int v),[fd c (i+1) l'])/\0<=v/\v < m:=by
 have q0:∀(a b c:D),dF [a,b,c] 0=some a/\dF [a,b,c] 1=some b/\dF [a,b,c] 2=some c:=fun _ _ _=>⟨rfl,rfl,rfl⟩
 have q1:yC 3 1=some 1/\yC 3 2=some 2:=⟨rfl,rfl⟩
 have m2:m < 1073741824:=by omega
 by_cases hl:0 < l
 ·refine⟨l % m,l / m,?_,abK _ (by omega),abr _ m0⟩
  simp[dJ,bY,ji,aB,q0,q1,hl,m0,m2,kJ,iS]
 ·obtain⟨v,hv,v0,v1⟩:=GY c (i+1) (by omega) (by omega)
  refine⟨v / 7 % m,l,?_,abK _ (by omega),abr _ m0⟩
  simp[dJ,bY,ji,aB,q0,q1,hl,m0,m2,kJ,iS,hv]
end Sq
end
section
namespace L2
open PySem PySem.Spec PyProof.Rows
noncomputable def dM:Option U->Bool
 | some (.b _)=>true
 | _=>false
@[simp] theorem Xv:dM none=false:=rfl
@[simp] theorem Xw (d:D):dM (ZA d)=false:=rfl
@[simp] theorem Xx (o:MO):dM (some (.m o))=false:=rfl
def bL (i:Nat) (u:U) (S:SS):oJ i u S=(S[i]?).bind fun x=>if dM x then none else some (S.set i (some u)):=by
 unfold oJ
 cases S[i]? with
 | none=>rfl
 | some x=>cases x with
  | none=>rfl
  | some u=>cases u <;> rfl
@[simp] theorem V8 (n:Nat) (bs:Iu) (ds:List D) (S:SS):lW n bs (.tup ds) S=if ds.length=n then bs ds S else none:=rfl
@[simp] theorem TN (b:GB) (bs:Iu) (d:D) (r:List D) (S:SS):cL b bs (d :: r) S=(b d S).bind fun S1=>bs r S1:=rfl
@[simp] theorem V9 (S:SS):mV [] S=some S:=rfl
@[simp] theorem TQ (S:SS):Ce S=some (.m (.oH []),S):=rfl
@[simp] theorem TR (S:SS):oR S=some (.m (.dct []),S):=rfl
@[simp] theorem Bu (kvs:List (D×D)) (k:D):d7 (.m (.oH kvs)) k=(kY k).bind (aU kvs):=by cases k <;> rfl
@[simp] theorem Bv (kvs:List (D×D)) (k:D):d7 (.b (.oH kvs)) k=(kY k).bind (aU kvs):=by cases k <;> rfl
@[simp] theorem D4 (kvs:List (D×D)) (k d:D):iS (.oH kvs) k d=(kY k).bind fun kk=>if kvs.length < 10000000 then some (.oH (putD kvs kk d)) else none:=by cases k <;> rfl
@[simp] theorem RC (z:Str):vZ (.str z)=true:=rfl
@[simp] theorem RE (b:Bool):vZ (.bl b)=true:=rfl
@[simp] theorem RG (b:Int):vZ (.int b)=true:=rfl
def jk {bd:GB}{body:GS}(ds:List D) (I:Nat->SS->Prop) (S:SS) (h0:I 0 S) (hs:∀j d S,ds[j]? =some d->I j S->∃S1 S2,bd d S=some S1/\body S1=some (.nx S2)/\I (j+1) S2):∃S',loop bd body ds S=some (.nx S')/\I ds.length S':=by
 obtain⟨S',e,j,hr,hj,hI⟩:=Sq.qq (bd:=bd) (body:=body) ds (fun r S=>∃j,ds.drop j=r/\j<=ds.length/\I j S) S ⟨0,rfl,Z3 _,h0⟩ (by
  rintro d r S ⟨j,hr,hj,hI⟩
  have hlt:j < ds.length:=by
   have:=congrArg List.length hr
   rw[abY,aaQ] at this
   omega
  rw[aai hlt] at hr
  injection hr with h1 h2
  obtain⟨S1,S2,e1,e2,h3⟩:=hs j d S (by rw[Zz hlt,h1]) hI
  exact⟨S1,S2,e1,e2,j+1,h2,hlt,h3⟩)
 have:j=ds.length:=by
  have:=congrArg List.length hr
  rw[abY,abf] at this
  omega
 subst this
 exact⟨S',e,hI⟩
def uM {cap:List Nat}{g:GD}(ds:List D) (I:Nat->List D->SS->Prop) (S:SS) (h0:I 0 [] S) (hs:∀j d acc S,ds[j]? =some d->I j acc S->∃x S',aF cap aC g [d] S acc=some (acc++[x],S')/\I (j+1) (acc++[x]) S'):∃acc S',aF cap aC g ds S []=some (acc,S')/\I ds.length acc S':=by
 obtain⟨acc,S',e,j,hr,hj,hI⟩:=Sq.tG (cap:=cap) (g:=g) ds (fun r acc S=>∃j,ds.drop j=r/\j<=ds.length/\I j acc S) S [] ⟨0,rfl,Z3 _,h0⟩ (by
  rintro d r acc S ⟨j,hr,hj,hI⟩
  have hlt:j < ds.length:=by
   have:=congrArg List.length hr
   rw[abY,aaQ] at this
   omega
  rw[aai hlt] at hr
  injection hr with h1 h2
  obtain⟨x,S',e1,h3⟩:=hs j d acc S (by rw[Zz hlt,h1]) hI
  exact⟨_,S',e1,j+1,h2,hlt,h3⟩)
 have:j=ds.length:=by
  have:=congrArg List.length hr
  rw[abY,abf] at this
  omega
 subst this
 exact⟨acc,S',e,hI⟩
theorem comp_map {cap:List Nat}{g:GD}{S:SS}(f:D->D):∀(ds acc:List D),(∀d∈ds,∀acc,aF cap aC g [d] S acc=some (acc++[f d],S))->aF cap aC g ds S acc=some (acc++ds.map f,S)
 | [],acc,_=>by simp[aF]
 | d :: ds,acc,h=>by
  rw[Sq.l7,h d ZJ,ZE,comp_map f ds (acc++[f d]) fun e he=>h e (ZI _ he)]
  simp
def qu {n j:Nat}{d:D}(h:(gT 0 n)[j]? =some d):j < n/\d= .int j:=by
 unfold gT at h
 rw[ZF] at h
 cases e:(List.range n)[j]? with
 | none=>rw[e] at h;cases h
 | some k=>
  rw[e] at h
  obtain⟨h1,h2⟩:=Zy.mp e
  rw[acX] at h2
  rw[ZK] at h1
  subst h2
  refine⟨h1,?_⟩
  have:=ZU h
  rw[<-this]
  show D.int (0+(j:Int))=_
  rw[Int.zero_add]
theorem jO (bd:GB) (body:GS) (d:D) (ds:List D) (S:SS):loop bd body (d :: ds) S=(bd d S).bind fun S1=>(body S1).bind fun o=>match o with
  | .nx S2=>loop bd body ds S2
  | .ct S2=>loop bd body ds S2
  | .bk S2=>some (.nx S2)
  | .rt u S2=>some (.rt u S2):=rfl
end L2
end
section
namespace Sw
open PySem PySem.Spec PyProof.Rows L2
noncomputable def one (p:Str×Int):List (Str×Int):=(upTo (p.2+1).toNat).map fun k=>(p.1,k)
noncomputable def cK (T:AAG):List (Str×Int):=T.flatMap one
def nI (n:Nat):(upTo n).length=n:=by simp[upTo]
theorem qw:∀{T:AAG},(∀p∈T,fO p)->(cK T).length<=11 * T.length
 | [],_=>ZM _
 | p :: T,h=>by
  have ih:=qw (T:=T) fun q hq=>h q (ZI _ hq)
  have a:=(h p ZJ).lo
  have b:=(h p ZJ).hi
  have e:(cK (p :: T)).length=(one p).length+(cK T).length:=by show(one p++cK T).length=_;rw[ZZ]
  have e2:(one p).length=(p.2+1).toNat:=by unfold one;rw[Zw,nI]
  rw[e,e2]
  show _<=11 * (T.length+1)
  omega
def at2 (a b:D):dF [a,b] 0=some a/\dF [a,b] 1=some b:=⟨rfl,rfl⟩
noncomputable def gB:GS:=
 (jW (eT (eM 1 hAppend (aa (eF (eP gW (aa (aH 2 (eC (.int 0))) (aa (eF (aj 3)) ao)))) ao))))
noncomputable def dQ:GS:=
 (gM (bName 3) (cS (aa (eF (eP iz (aa (aH 2 (eC (.int 1))) (aa (eC (.int 1)) ao)))) ao)) (gB))
noncomputable def jy:GS:=
 (aG (aR 1 (eP gX ao))
 (aG (gM (bName 2) (bM (eF (aj 0))) (dQ))
 (dH (aj 1))))
open Classical in
noncomputable def kT:FM
 | [.t td]=>(tabOf td).bind fun T=>if T.length<=4/\∀p∈T,fO p then some (.m (.lst ((cK T).map gz)),[]) else none
 | _=>none
def G1 {T:AAG}(h:T.length<=4) (h2:∀p∈T,fO p):kT [.t (bG T)]=some (.m (.lst ((cK T).map gz)),[]):=by
 unfold kT
 simp only[Kh,ZE]
 rw[if_pos ⟨h,h2⟩]
theorem Cv {td:D}{p:Str×Int}:∀(ks:List Int) (acc:List D) (x:Option U),acc.length+ks.length < 1000->(x=none\/∃a,x=ZA a)->
    ∃x',(x'=none\/∃a,x'=ZA a)/\loop (bName 3) gB (ks.map D.int) [ZA td,ZC acc,ZA (gz p),x]=some (.nx [ZA td,ZC (acc++ks.map fun k=>gz (p.1,k)),ZA (gz p),x'])
  | [],acc,x,_,hx=>⟨x,hx,by simp⟩
  | k :: ks, acc, x, hl, hx => by
    have hl:acc.length+(ks.length+1) < 1000:=hl
    obtain⟨x',hx',e⟩:=Cv (td:=td) (p:=p) ks (acc++[gz (p.1,k)]) (ZD k) (by rw[ZZ,aaA];omega) (.inr ⟨_,rfl⟩)
    refine⟨x',hx',?_⟩
    have eb:bName 3 (.int k) [ZA td,ZC acc,ZA (gz p),x]=some [ZA td,ZC acc,ZA (gz p),ZD k]:=by
      rcases hx with rfl | ⟨a,rfl⟩ <;> rfl
    have h1:acc.length < 100000:=by omega
    have ew:gB [ZA td,ZC acc,ZA (gz p),ZD k]=some (.nx [ZA td,ZC (acc++[gz (p.1,k)]),ZA (gz p),ZD k]):=by
      simp[gB,gz,at2,h1]
    show((bName 3 (.int k) _).bind fun S1=>_)=_
    rw[eb,ZE,ew,ZE]
    show loop _ _ (ks.map D.int) _=_
    rw[e]
    simp
def Kn {p:Str×Int}{td:D}{acc:List D}{x:Option U}(h:fO p):cS (aa (eF (eP iz (aa (aH 2 (eC (.int 1))) (aa (eC (.int 1)) ao)))) ao) [ZA td,ZC acc,ZA (gz p),x]=some ((upTo (p.2+1).toNat).map D.int,[ZA td,ZC acc,ZA (gz p),x]):=by
 have a:=h.lo
 have b:=h.hi
 rw[<-zT]
 have h1:p.2+1 < 1000000:=by omega
 have h2:-1000000 < p.2+1:=by omega
 simp[gz,at2,h1,h2]
theorem zW {td:D}:∀(T:AAG) (acc:List D) (x y:Option U),(∀p∈T,fO p)->acc.length+11 * T.length < 900->(x=none\/∃a,x=ZA a)->(y=none\/∃a,y=ZA a)->
    ∃x' y',loop (bName 2) dQ (T.map gz) [ZA td,ZC acc,y,x]=some (.nx [ZA td,ZC (acc++(cK T).map gz),y',x'])
  | [],acc,x,y,_,_,hx,hy=>⟨x,y,by simp[cK]⟩
  | p :: T, acc, x, y, h, hl, hx, hy => by
    have hp:=h p ZJ
    have hl:acc.length+11 * (T.length+1) < 900:=hl
    have a:=hp.lo
    have b:=hp.hi
    have e2:(one p).length=(p.2+1).toNat:=by unfold one;rw[Zw,nI]
    obtain⟨x1,DL,e1⟩:=Cv (td:=td) (p:=p) (upTo (p.2+1).toNat) acc x (by rw[nI];omega) hx
    have e3:(upTo (p.2+1).toNat).map (fun k=>gz (p.1,k))=(one p).map gz:=by unfold one;rw[aaq];rfl
    rw[e3] at e1
    obtain⟨x',y',e⟩:=zW (td:=td) T (acc++(one p).map gz) x1 (ZA (gz p)) (fun q hq=>h q (ZI _ hq)) (by rw[ZZ,Zw,e2];omega) DL (.inr ⟨_,rfl⟩)
    refine⟨x',y',?_⟩
    have eb:bName 2 (gz p) [ZA td,ZC acc,y,x]=some [ZA td,ZC acc,ZA (gz p),x]:=by
      rcases hy with rfl | ⟨a,rfl⟩ <;> rfl
    have ew:dQ [ZA td,ZC acc,ZA (gz p),x]=some (.nx [ZA td,ZC (acc++(one p).map gz),ZA (gz p),x1]):=by
      unfold dQ
      rw[pH,Kn hp,ZE]
      exact e1
    show((bName 2 (gz p) _).bind fun S1=>_)=_
    rw[eb,ZE,ew,ZE]
    show loop _ _ (T.map gz) _=_
    rw[e]
    have:cK (p :: T)=one p++cK T:=rfl
    rw[this,aaa,aar]
def G2:∀us r,kT us=some r->bY 4 jy us=some r:=by
 intro us r h
 unfold kT at h
 split at h
 ·rename_i td
  obtain⟨T,h1,h⟩:=ah h
  obtain⟨⟨h2,h3⟩,rfl⟩:=cj h
  have:=Bs h1
  subst this
  obtain⟨x',y',e⟩:=zW (td:=bG T) T [] none none h3 (by simp only[abf];omega) (.inl rfl) (.inl rfl)
  rw[Z9] at e
  have e:loop (bName 2) dQ (T.map gz) [ZA (bG T),ZC [],none,none]=_:=e
  have ei:bM (eF (aj 0)) [ZA (bG T),ZC [],none,none]=some (T.map gz,[ZA (bG T),ZC [],none,none]):=rfl
  simp[bY,jy,ei,e]
 ·cases h
end Sw
end
section
namespace Sq
open PySem PySem.Spec PyProof.Rows L2 Sw
variable {i:Int}{T:AAG}{x6 a1 a4 a5 a6 a7:Option U}{menu:List D}
def qx {n j:Nat}{d:D}{r:List D}(h:(gT 0 n).drop j=d :: r):j < n/\d= .int j/\(gT 0 n).drop (j+1)=r:=by
 have hl:j < n:=by
  have:=congrArg List.length h
  simp[gT] at this
  omega
 have h2:j < (gT 0 n).length:=by simpa[gT] using hl
 rw[aai h2] at h
 injection h with h3 h4
 refine⟨hl,?_,h4⟩
 rw[<-h3]
 simp[gT]
def i9 (n:Nat):(gT 0 n).length=n:=by simp[gT]
def AF (x:Option U):Prop:=x=none\/∃d,x=ZA d
def AF.t {d:D}:AF (ZA d):=.inr ⟨d,rfl⟩
def AF.n:AF none:=.inl rfl
noncomputable def nJ:List D:=[.str "a",.str "ab",.str "abc",.str "now",.str "any",.str "name",.str "less",.str "x",.str "zzzzzzzz"]
def Ko (h0:0<=i) (h1:i < 9):∃z,dF nJ i=some (.str z)/\Bt z:=by
 have:i=0\/i=1\/i=2\/i=3\/i=4\/i=5\/i=6\/i=7\/i=8:=by omega
 rcases this with rfl | rfl | rfl | rfl | rfl | rfl | rfl | rfl | rfl <;> exact⟨_,rfl,by decide,by decide⟩
def Kp (h0:0<=i) (h1:i < 4):∃m:Int,dF [D.int 1,.int 2,.int 2,.int 3] i=some (.int m)/\1<=m/\m<=3:=by
 have:i=0\/i=1\/i=2\/i=3:=by omega
 rcases this with rfl | rfl | rfl | rfl <;> exact⟨_,rfl,by decide,by decide⟩
noncomputable def fH (cQ:FM):GS:=
 (aG (aR 7 (eP Ca (aa (eF (bq cQ (kK (aj 0) (bg (eC (.int 3)) cu)))) (aa (eF (eP iz (aa (eF (eP FI (aa (eF (aj 4)) (aa (eF (aj 3)) ao)))) (aa (eF (aj 6)) ao)))) ao))))
 (aG (jW (eT (eM 5 hAppend (aa (eF (eP gW (aa (aH 1 (eF (eP zh (aa (eF (eP iz (aa (eF (aj 2)) (aa (eF (aj 6)) ao)))) (aa (eC (.int 9)) ao))))) (aa (eF (aj 7)) ao)))) ao))))
 (aR 4 (eP FI (aa (eF (eP FI (aa (eF (aj 4)) (aa (eF (aj 7)) ao)))) (aa (eC (.int 1)) ao))))))
noncomputable def jK (cQ:FM):GS:=
 (aG (aR 1 (eP gX (aa (eC (.str "a")) (aa (eC (.str "ab")) (aa (eC (.str "abc")) (aa (eC (.str "now")) (aa (eC (.str "any")) (aa (eC (.str "name")) (aa (eC (.str "less")) (aa (eC (.str "x")) (aa (eC (.str "zzzzzzzz")) ao)))))))))))
 (aG (aR 2 (bq cQ (kK (aj 0) (bg (eC (.int 9)) cu))))
 (aG (aR 3 (eP FL (aa (eF (eP gX (aa (eC (.int 1)) (aa (eC (.int 2)) (aa (eC (.int 2)) (aa (eC (.int 3)) ao)))))) (aa (eF (bq cQ (kK (aj 0) (bg (eC (.int 4)) cu)))) ao))))
 (aG (aR 4 (eT (eC (.int 5))))
 (aG (aR 5 (eP gX ao))
 (aG (gM (bName 6) (cS (aa (eF (aj 3)) ao)) (fH cQ))
 (dH (eP bK (aa (eF (aj 5)) ao)))))))))
noncomputable def zX:FM:=bY 8 (jK dJ)
def G3:∀us r,zX us=some r->bY 8 (jK dJ) us=some r:=fun _ _ h=>h
def G4 {c l st m left k:Int}{x7:Option U}(hi:0<=i) (hi1:i < 800000) (hs:0<=st) (hk:0<=k) (hl:0<=left - m+k) (hT:T.length < 10) (h6:AF x6) (h7:AF x7):
  ∃z v l' S1,bName 6 (.int k) [some (.b (fd c i l)),ZC nJ,ZD st,ZD m,ZD left,ZC (T.map gz),x6,x7]=some S1/\fO (z,v)/\v<=left - m+k/\
   fH dJ S1=some (.nx [some (.b (fd c (i+1) l')),ZC nJ,ZD st,ZD m,ZD (left - v - 1),ZC ((T++[(z,v)]).map gz),ZD k,ZD v]):=by
 obtain⟨v,l',e1,v0,v1⟩:=kR c l hi (by omega) (m:=3) (by omega) (by omega)
 obtain⟨z,e2,nz⟩:=Ko (i:=(st+k) % 9) (abK _ (by decide)) (abr _ (by decide))
 have hlen:(T.map gz).length < 100000:=by rw[Zw];omega
 have e3:T.length < 100000:=by omega
 refine⟨z,if left - m+k < v then left - m+k else v,l',[some (.b (fd c i l)),ZC nJ,ZD st,ZD m,ZD left,ZC (T.map gz),ZD k,x7],?_,⟨nz,?_,?_⟩,?_,?_⟩
 ·rcases h6 with rfl | ⟨d,rfl⟩ <;> rfl
 ·show(0:Int)<=if left - m+k < v then left - m+k else v;split <;> omega
 ·show(if left - m+k < v then left - m+k else v:Int)<=10;split <;> omega
 ·split <;> omega
 ·rcases h7 with rfl | ⟨d,rfl⟩ <;> simp[fH,e1,e2,e3,gz,kJ,hAppend,AW]
noncomputable def c9:GS:=
 (jW (eT (eM 1 i8 (aa (eF (bw [2] (cS (aa (eF (eP iz (aa (eF (aj 3)) (aa (eC (.int 1)) ao)))) ao)) aC (eF (eP gW (aa (eF (aj 1)) (aa (eF (aj 0)) ao)))))) ao))))
noncomputable def fR:GS:=
 (aG (aR 1 (eP gX ao))
 (aG (gM (lW 2 (cL (bName 2) (cL (bName 3) mV))) (FQ (eF (aj 0))) (c9))
 (dH (aj 1))))
noncomputable def kU:FM:=bY 4 fR
def G5:∀us r,kU us=some r->bY 4 fR us=some r:=fun _ _ h=>h
def D5 {p:Str×Int}{td:D}{acc:List D}{x2 x3:Option U}(hp:fO p) (ha:acc.length < 1000) (h2:AF x2) (h3:AF x3):∃S1,lW 2 (cL (bName 2) (cL (bName 3) mV)) (gz p) [ZA td,ZC acc,x2,x3]=some S1/\
  c9 S1=some (.nx [ZA td,ZC (acc++(one p).map gz),ZA (.str p.1),ZD p.2]):=by
 refine⟨[ZA td,ZC acc,ZA (.str p.1),ZD p.2],?_,?_⟩
 ·rcases h2 with rfl | ⟨a,rfl⟩ <;> rcases h3 with rfl | ⟨b,rfl⟩ <;> rfl
 ·have a:=hp.lo
  have b:=hp.hi
  have b1:p.2+1 < 1000000:=by omega
  have b2:-1000000 < p.2+1:=by omega
  have e:=xX (cap:=[2]) (q:=aC) (g:=eF (eP gW (aa (eF (aj 1)) (aa (eF (aj 0)) ao)))) (S:=[ZA td,ZC acc,ZA (.str p.1),ZD p.2]) (ts:=[.str p.1]) rfl (fun _=>true) (fun d=>.tup [.str p.1,d]) (gT 0 (p.2+1).toNat) [] (fun d _=>rfl) (fun d _ _=>by simp)
  have e5:(gT 0 (p.2+1).toNat).map (fun d=>D.tup [.str p.1,d])=(one p).map gz:=by rw[zT];unfold one gz;simp
  have e6:((one p).map gz).length=(p.2+1).toNat:=by unfold one;rw[Zw,Zw,nI]
  rw[List.filter_eq_self.mpr (fun _ _=>rfl),e5,Z9] at e
  have l1:(p.2+1).toNat<=100000:=by omega
  have l2:acc.length+((one p).map gz).length<=100000:=by rw[e6];omega
  simp only[Zw] at l2
  simp[c9,Kl,b1,b2,i9,l1,e,l2,AW,kJ]
def Kq (h:T.length<=4) (h2:∀p∈T,fO p):kU [.t (bG T)]=some (.m (.lst ((cK T).map gz)),[]):=by
 obtain⟨S',e,done,rest,x2,x3,hd,hr,q2,q3,hs⟩:=qq (bd:=lW 2 (cL (bName 2) (cL (bName 3) mV))) (body:=c9) (T.map gz)
  (fun r S=>∃(done rest:AAG) (x2 x3:Option U),T=done++rest/\r=rest.map gz/\AF x2/\AF x3/\S=[ZA (bG T),ZC ((cK done).map gz),x2,x3])
  [ZA (bG T),ZC [],none,none] ⟨[],T,none,none,rfl,rfl,.n,.n,rfl⟩ (by
  rintro d r S ⟨done,rest,x2,x3,hd,hr,q2,q3,rfl⟩
  cases rest with
  | nil=>cases hr
  | cons p rest=>
   injection hr with hr1 hr2
   subst hr1
   have hl:=qw (T:=done) fun q hq=>h2 q (by rw[hd];exact aac _ hq)
   have hdl:done.length<=4:=by have:=congrArg List.length hd;simp at this;omega
   obtain⟨S1,e1,e2⟩:=D5 (p:=p) (td:=bG T) (acc:=(cK done).map gz) (x2:=x2) (x3:=x3) (h2 p (by rw[hd];simp)) (by rw[Zw];omega) q2 q3
   refine⟨S1,_,e1,e2,done++[p],rest,ZA (.str p.1),ZD p.2,by rw[hd];simp,hr2,.t,.t,?_⟩
   have:cK (done++[p])=cK done++one p:=by simp[cK]
   rw[this,aaa])
 have:rest=[]:=by
  cases rest with
  | nil=>rfl
  | cons a b=>cases hr
 subst this
 rw[abJ] at hd
 subst hd
 subst hs
 have e:loop (lW 2 (cL (bName 2) (cL (bName 3) mV))) c9 (T.map gz) [ZA (bG T),ZC [],none,none]=_:=e
 have ei:FQ (eF (aj 0)) [ZA (bG T),ZC [],none,none]=some (T.map gz,[ZA (bG T),ZC [],none,none]):=rfl
 simp only[kU,bY,fR]
 simp[ei,e,aB,-Ny]
noncomputable def eZ (cQ:FM) (iV:FM):GS:=
 (jW (eT (eM 5 hAppend (aa (eF (eP bK (aa (eF (bw [0,3] (cS (aa (eF (aj 4)) ao)) aC (eF (bq cQ (kK (aj 1) (bg (eF (aj 2)) cu)))))) ao))) ao))))
noncomputable def dR (cQ:FM) (iV:FM):GS:=
 (aG (aR 3 (eP iz (aa (eC (.int 1)) (aa (eF (bq cQ (kK (aj 0) (bg (eC (.int 7)) cu)))) ao))))
 (aG (aR 4 (eP sH (aa (eF (bq iV (bg (eF (aj 1)) cu))) ao)))
 (aG (aR 5 (eP gX ao))
 (aG (gM (bName 6) (cS (aa (eF (aj 3)) ao)) (eZ cQ iV))
 (aG (aR 7 (bw [0,2] (cS (aa (eF (aj 3)) ao)) aC (aH 2 (eF (bq cQ (kK (aj 1) (bg (dZ 2) cu)))))))
 (aG (v7 (qB (eF (eP OX (aa (eF (bq cQ (kK (aj 0) (bg (eC (.int 3)) cu)))) (aa (eC (.int 0)) ao))))) (aR 7 (eP zB (aa (eF (eP gX (aa (aH 2 (eC (.int 0))) ao))) (aa (eF (aj 3)) ao)))) lV)
 (dH (eP gW (aa (eF (eP bK (aa (eF (aj 5)) ao))) (aa (eF (eP bK (aa (eF (aj 7)) ao))) ao))))))))))
noncomputable def wK:FM:=bY 8 (dR dJ kU)
def G6:∀us r,wK us=some r->bY 8 (dR dJ kU) us=some r:=fun _ _ h=>h
noncomputable def aV (r:List Int):D:=.tup (r.map D.int)
def G7 (c l : Int) {m:Int} {a2:Option U} (n : Nat) (hi : 0 <= i) (hn : i + n < 800000) (m0 : 0 < m) (m1 : m < 1000000) :
    ∃(vs:List Int) (l':Int),aF [0,3] aC (eF (bq dJ (kK (aj 1) (bg (eF (aj 2)) cu)))) (gT 0 n) [some (.b (fd c i l)),a1,a2,ZD m,a4,a5,a6,a7] []=some (vs.map D.int,[some (.b (fd c (i+n) l')),a1,a2,ZD m,a4,a5,a6,a7])/\vs.length=n/\∀v∈vs,0<=v/\v < m:=by
  obtain⟨acc',S',e,j,vs,l',hr,hj,rfl,hl,hv,rfl⟩:=tG (cap:=[0,3]) (g:=eF (bq dJ (kK (aj 1) (bg (eF (aj 2)) cu)))) (gT 0 n)
    (fun r acc S=>∃(j:Nat) (vs:List Int) (l':Int),(gT 0 n).drop j=r/\j<=n/\acc=vs.map D.int/\vs.length=j/\(∀v∈vs,0<=v/\v < m)/\S=[some (.b (fd c (i+j) l')),a1,a2,ZD m,a4,a5,a6,a7])
    [some (.b (fd c i l)),a1,a2,ZD m,a4,a5,a6,a7] [] ⟨0,[],l,rfl,Z3 _,rfl,rfl,by simp,by simp⟩ (by
      rintro d r acc S ⟨j,vs,l',hr,hj,rfl,hl,hv,rfl⟩
      obtain⟨hjn,rfl,hr'⟩:=qx hr
      obtain⟨v,l'',e1,v0,v1⟩:=kR c l' (i:=i+j) (m:=m) (by omega) (by omega) m0 m1
      refine⟨(vs++[v]).map D.int,[some (.b (fd c (i+((j+1:Nat):Int)) l'')),a1,a2,ZD m,a4,a5,a6,a7],?_,j+1,vs++[v],l'',hr',hjn,rfl,by simp[hl],?_,rfl⟩
      . have e2:i+((j+1:Nat):Int)=i+j+1:=by push_cast;omega
        rw[e2]
        simp[aF,aY,cO,e1,aB]
      . intro w hw
        rcases Z2.mp hw with q | q
        . exact hv w q
        . rw[show w=v by simpa using q];exact⟨v0,v1⟩)
  have hj:j=n:=by
    have:=congrArg List.length hr
    simp[gT] at this
    omega
  subst hj
  exact⟨vs,l',e,hl,hv⟩
def G8 (c l : Int)   {a3:Option U} (n : Nat) (hi : 0 <= i) (hn : i + n < 800000) (m0 : 0 < menu.length) (m1 : menu.length < 1000) :
    ∃(vs:List D) (l':Int),aF [0,2] aC (aH 2 (eF (bq dJ (kK (aj 1) (bg (dZ 2) cu))))) (gT 0 n) [some (.b (fd c i l)),a1,ZA (.lst menu),a3,a4,a5,a6,a7] []=some (vs,[some (.b (fd c (i+n) l')),a1,ZA (.lst menu),a3,a4,a5,a6,a7])/\vs.length=n/\∀v∈vs,v∈menu:=by
  obtain⟨acc',S',e,j,l',hr,hj,hl,hv,rfl⟩:=tG (cap:=[0,2]) (g:=aH 2 (eF (bq dJ (kK (aj 1) (bg (dZ 2) cu))))) (gT 0 n)
    (fun r acc S=>∃(j:Nat) (l':Int),(gT 0 n).drop j=r/\j<=n/\acc.length=j/\(∀v∈acc,v∈menu)/\S=[some (.b (fd c (i+j) l')),a1,ZA (.lst menu),a3,a4,a5,a6,a7])
    [some (.b (fd c i l)),a1,ZA (.lst menu),a3,a4,a5,a6,a7] [] ⟨0,l,rfl,Z3 _,rfl,by simp,by simp⟩ (by
      rintro d r acc S ⟨j,l',hr,hj,hl,hv,rfl⟩
      obtain⟨hjn,rfl,hr'⟩:=qx hr
      obtain⟨v,l'',e1,v0,v1⟩:=kR c l' (i:=i+j) (m:=menu.length) (by omega) (by omega) (by omega) (by omega)
      obtain⟨x,e3,e4⟩:=xY (l:=menu) v0 v1
      refine⟨acc++[x],[some (.b (fd c (i+((j+1:Nat):Int)) l'')),a1,ZA (.lst menu),a3,a4,a5,a6,a7],?_,j+1,l'',hr',hjn,by simp[hl],?_,rfl⟩
      . have e2:i+((j+1:Nat):Int)=i+j+1:=by push_cast;omega
        rw[e2]
        simp[aF,aY,cO,e1,aB,e3]
      . intro w hw
        rcases Z2.mp hw with q | q
        . exact hv w q
        . rw[show w=x by simpa using q];exact ZO e4)
  have hj:j=n:=by
    have:=congrArg List.length hr
    simp[gT] at this
    omega
  subst hj
  exact⟨acc',l',e,hl,hv⟩
structure gH (wide:Nat) (N:AAF):Prop where
 pos:0 < N.length
 few:N.length<=7
 row:∀r∈N,r.length=wide/\∀v∈r,0<=v/\v < N.length
def D6 (c l:Int){td md:D}{N:AAF}{n wide j:Nat}(hi:0<=i) (hi2:i < 750000) (hw:wide<=44) (hn:0 < n) (hn2:n<=7) (hN:N.length<=7) (h6:AF x6):
  ∃(vs:List Int) (l':Int) (S1:SS),bName 6 (.int j) [some (.b (fd c i l)),ZA td,ZA md,ZD n,ZD wide,ZC (N.map aV),x6,none]=some S1/\
   eZ dJ kU S1=some (.nx [some (.b (fd c (i+wide) l')),ZA td,ZA md,ZD n,ZD wide,ZC ((N++[vs]).map aV),ZD j,none])/\vs.length=wide/\∀v∈vs,0<=v/\v < (n:Int):=by
 obtain⟨vs,l'',e4,hl,hv⟩:=G7 c l (i:=i) (m:=n) (a1:=ZA td) (a2:=ZA md) (a4:=ZD wide) (a5:=ZC (N.map aV)) (a6:=ZD j) (a7:=none) wide (by omega) (by omega) (by omega) (by omega)
 refine⟨vs,l'',[some (.b (fd c i l)),ZA td,ZA md,ZD n,ZD wide,ZC (N.map aV),ZD j,none],?_,?_,hl,hv⟩
 ·rcases h6 with rfl | ⟨d,rfl⟩ <;> rfl
 ·have b1:=fun S h=>GV 4 wide S h (by omega)
  have b3:wide<=100000:=by omega
  have b4:N.length < 100000:=by omega
  simp[eZ,bD,-tF,b1,b3,b4,i9,e4,AW,kJ,hAppend,aV]
def aO {a b:GS}{S S1:SS}(h:a S=some (.nx S1)):aG a b S=b S1:=by
 show(a S).bind _=_
 rw[h]
 rfl
def G9 (c l:Int)(hi:0<=i) (hi2:i < 700000) (hT:T.length<=4) (hp:∀p∈T,fO p) (m0:0 < menu.length) (m1:menu.length < 1000):
  ∃(N:AAF) (M:List D) (i' l':Int),wK [.b (fd c i l),.t (bG T),.t (.lst menu)]=some (.t (.tup [.tup (N.map aV),.tup M]),[fd c i' l'])/\gH (cK T).length N/\M.length=N.length/\(∀x∈M,x∈menu)/\i<=i'/\i'<=i+400:=by
 obtain⟨a,l1,e1,a0,a1⟩:=kR c l hi (by omega) (m:=7) (by omega) (by omega)
 have e2:=Kq hT hp
 have hw:=qw hp
 generalize Wa:(cK T).length=wide at hw
 obtain⟨n,hn⟩:∃n:Nat,(1+a)=(n:Int):=⟨(1+a).toNat,by omega⟩
 obtain⟨S1,e3,j,N,i2,l2,x6,hr,hj,hN,NS,h6,q1,q2,rfl⟩:=qq (bd:=bName 6) (body:=eZ dJ kU) (gT 0 n)
  (fun r S=>∃(j:Nat) (N:AAF) (i' l':Int) (x6:Option U),(gT 0 n).drop j=r/\j<=n/\N.length=j/\(∀r∈N,r.length=wide/\∀v∈r,0<=v/\v < (n:Int))/\AF x6/\i<=i'/\i'<=i+1+44 * (j:Int)/\
   S=[some (.b (fd c i' l')),ZA (bG T),ZA (.lst menu),ZD n,ZD wide,ZC (N.map aV),x6,none])
  [some (.b (fd c (i+1) l1)),ZA (bG T),ZA (.lst menu),ZD n,ZD wide,ZC [],none,none] ⟨0,[],i+1,l1,none,rfl,Z3 _,rfl,by simp,.n,by omega,by omega,by simp⟩ (by
   rintro d r S ⟨j,N,i',l',x6,hr,hj,hN,NS,h6,q1,q2,rfl⟩
   obtain⟨hjn,rfl,hr'⟩:=qx hr
   obtain⟨vs,l'',S1,e4,e5,hl,hv⟩:=D6 c l' (i:=i') (td:=bG T) (md:=.lst menu) (N:=N) (n:=n) (wide:=wide) (j:=j) (x6:=x6) (by omega) (by omega) (by omega) (by omega) (by omega) (by omega) h6
   refine⟨S1,_,e4,e5,j+1,N++[vs],i'+wide,l'',ZD j,hr',hjn,by simp[hN],?_,.t,by omega,by push_cast;omega,rfl⟩
   intro q hq
   rcases Z2.mp hq with z | z
   ·exact NS q z
   ·rw[show q=vs by simpa using z];exact⟨hl,hv⟩)
 have hj:j=n:=by
  have:=congrArg List.length hr
  simp[gT] at this
  omega
 subst hj
 obtain⟨M,l3,e6,hM,Wb⟩:=G8 c l2 (i:=i2) (menu:=menu) (a1:=ZA (bG T)) (a3:=ZD j) (a4:=ZD wide) (a5:=ZC (N.map aV)) (a6:=x6) (a7:=none) j (by omega) (by omega) m0 m1
 obtain⟨b,l4,e7,b0,b1⟩:=kR c l3 (i:=i2+j) (m:=3) (by omega) (by omega) (by omega) (by omega)
 obtain⟨x0,e8,e9⟩:=xY (l:=menu) (i:=0) (by omega) (by omega)
 have c1:=fun S h=>GV 3 j S h (by omega)
 have c2:=GX x0 j (by omega)
 have c3:j<=100000:=by omega
 have mo:gH wide N:=⟨by omega,by omega,fun r hr=>by rw[hN];exact NS r hr⟩
 have h0:(aR 3 (eP iz (aa (eC (.int 1)) (aa (eF (bq dJ (kK (aj 0) (bg (eC (.int 7)) cu)))) ao)))) [some (.b (fd c i l)),ZA (bG T),ZA (.lst menu),none,none,none,none,none]=some (.nx [some (.b (fd c (i+1) l1)),ZA (bG T),ZA (.lst menu),ZD j,none,none,none,none]):=by simp[e1,hn]
 have h1:(aR 4 (eP sH (aa (eF (bq kU (bg (eF (aj 1)) cu))) ao))) [some (.b (fd c (i+1) l1)),ZA (bG T),ZA (.lst menu),ZD j,none,none,none,none]=some (.nx [some (.b (fd c (i+1) l1)),ZA (bG T),ZA (.lst menu),ZD j,ZD wide,none,none,none]):=by simp[e2,Wa]
 have h2:(aR 5 (eP gX ao)) [some (.b (fd c (i+1) l1)),ZA (bG T),ZA (.lst menu),ZD j,ZD wide,none,none,none]=some (.nx [some (.b (fd c (i+1) l1)),ZA (bG T),ZA (.lst menu),ZD j,ZD wide,ZC [],none,none]):=by simp[]
 have h3:(gM (bName 6) (cS (aa (eF (aj 3)) ao)) (eZ dJ kU)) [some (.b (fd c (i+1) l1)),ZA (bG T),ZA (.lst menu),ZD j,ZD wide,ZC [],none,none]=some (.nx [some (.b (fd c i2 l2)),ZA (bG T),ZA (.lst menu),ZD j,ZD wide,ZC (N.map aV),x6,none]):=by simp[-tF,c1,e3]
 have h4:(aR 7 (bw [0,2] (cS (aa (eF (aj 3)) ao)) aC (aH 2 (eF (bq dJ (kK (aj 1) (bg (dZ 2) cu))))))) [some (.b (fd c i2 l2)),ZA (bG T),ZA (.lst menu),ZD j,ZD wide,ZC (N.map aV),x6,none]=some (.nx [some (.b (fd c (i2+j) l3)),ZA (bG T),ZA (.lst menu),ZD j,ZD wide,ZC (N.map aV),x6,ZC M]):=by simp[-tF,c1,bD,i9,c3,e6]
 have h5:(v7 (qB (eF (eP OX (aa (eF (bq dJ (kK (aj 0) (bg (eC (.int 3)) cu)))) (aa (eC (.int 0)) ao))))) (aR 7 (eP zB (aa (eF (eP gX (aa (aH 2 (eC (.int 0))) ao))) (aa (eF (aj 3)) ao)))) lV) [some (.b (fd c (i2+j) l3)),ZA (bG T),ZA (.lst menu),ZD j,ZD wide,ZC (N.map aV),x6,ZC M]=some (.nx [some (.b (fd c (i2+j+1) l4)),ZA (bG T),ZA (.lst menu),ZD j,ZD wide,ZC (N.map aV),x6,ZC (if b=0 then List.replicate j x0 else M)]):=by
  by_cases hb:b=0
  ·subst hb;simp[e7,-GR,c2,e8]
  ·simp[hb,e7]
 have Y3:(dH (eP gW (aa (eF (eP bK (aa (eF (aj 5)) ao))) (aa (eF (eP bK (aa (eF (aj 7)) ao))) ao)))) [some (.b (fd c (i2+j+1) l4)),ZA (bG T),ZA (.lst menu),ZD j,ZD wide,ZC (N.map aV),x6,ZC (if b=0 then List.replicate j x0 else M)]=some (.rt (.t (.tup [.tup (N.map aV),.tup (if b=0 then List.replicate j x0 else M)])) [some (.b (fd c (i2+j+1) l4)),ZA (bG T),ZA (.lst menu),ZD j,ZD wide,ZA (.lst (N.map aV)),x6,ZA (.lst (if b=0 then List.replicate j x0 else M))]):=by simp
 have all:dR dJ kU [some (.b (fd c i l)),ZA (bG T),ZA (.lst menu),none,none,none,none,none]=some (.rt (.t (.tup [.tup (N.map aV),.tup (if b=0 then List.replicate j x0 else M)])) [some (.b (fd c (i2+j+1) l4)),ZA (bG T),ZA (.lst menu),ZD j,ZD wide,ZA (.lst (N.map aV)),x6,ZA (.lst (if b=0 then List.replicate j x0 else M))]):=by
  unfold dR
  rw[aO h0,aO h1,aO h2,aO h3,aO h4,aO h5,Y3]
 refine⟨N,if b=0 then List.replicate j x0 else M,i2+j+1,l4,?_,mo,?_,?_,by omega,by omega⟩
 ·show(dR dJ kU [some (.b (fd c i l)),ZA (bG T),ZA (.lst menu),none,none,none,none,none]).bind _=_
  rw[all]
  rfl
 ·split
  ·rw[abS];exact hN.symm
  ·omega
 ·split
  ·intro x hx;rw[ach hx];exact ZO e9
  ·exact Wb
end Sq
end
section
namespace Sx
open PySem PySem.Spec PyProof.Rows L2 Sw Sq
variable {i:Int}
noncomputable def mR (i:Nat):Str:=(["a","ab","abc","now","any","name","less","x","zzzzzzzz"]:List Str).getD i ""
def D7:∀a b:Fin 9,mR a=mR b->a=b:=by decide
def Hf (h0:0<=i) (h1:i < 9):dF nJ i=some (.str (mR i.toNat))/\Bt (mR i.toNat):=by
 have:i=0\/i=1\/i=2\/i=3\/i=4\/i=5\/i=6\/i=7\/i=8:=by omega
 rcases this with rfl | rfl | rfl | rfl | rfl | rfl | rfl | rfl | rfl <;> exact⟨rfl,by decide,by decide⟩
def D8 {c l st m left k:Int}{T:AAG}{x6 x7:Option U}(hi:0<=i) (hi1:i < 800000) (hs:0<=st) (hk:0<=k) (hl:0<=left - m+k) (hT:T.length < 10) (h6:AF x6) (h7:AF x7):
  ∃v l' S1,bName 6 (.int k) [some (.b (fd c i l)),ZC nJ,ZD st,ZD m,ZD left,ZC (T.map gz),x6,x7]=some S1/\fO (mR ((st+k) % 9).toNat,v)/\v<=left - m+k/\
   Sq.fH dJ S1=some (.nx [some (.b (fd c (i+1) l')),ZC nJ,ZD st,ZD m,ZD (left - v - 1),ZC ((T++[(mR ((st+k) % 9).toNat,v)]).map gz),ZD k,ZD v]):=by
 obtain⟨z,v,l',S1,b1,b2,b3,b4⟩:=G4 (c:=c) (i:=i) (l:=l) (st:=st) (m:=m) (left:=left) (k:=k) (T:=T) hi hi1 hs hk hl hT h6 h7
 have:=Hf (i:=(st+k) % 9) (abK _ (by decide)) (abr _ (by decide))
 obtain⟨v2,l2,e1,v0,v1⟩:=kR c l hi (by omega) (m:=3) (by omega) (by omega)
 have hlen:(T.map gz).length < 100000:=by rw[Zw];omega
 have e3:T.length < 100000:=by omega
 refine⟨if left - m+k < v2 then left - m+k else v2,l2,[some (.b (fd c i l)),ZC nJ,ZD st,ZD m,ZD left,ZC (T.map gz),ZD k,x7],?_,⟨this.2,?_,?_⟩,?_,?_⟩
 ·rcases h6 with rfl | ⟨d,rfl⟩ <;> rfl
 ·show(0:Int)<=if left - m+k < v2 then left - m+k else v2;split <;> omega
 ·show(if left - m+k < v2 then left - m+k else v2:Int)<=10;split <;> omega
 ·split <;> omega
 ·rcases h7 with rfl | ⟨d,rfl⟩ <;> simp[Sq.fH,e1,this.1,e3,gz,kJ,hAppend,AW]
def Hg {st:Nat}{j:Nat}(hj:j<=3):((List.range j).map fun k=>mR ((st+k) % 9)).Nodup:=by
 have go:∀(a b:Nat),a < b->b < 3->mR ((st+a) % 9)≠mR ((st+b) % 9):=fun a b h1 h2 e=>by
  have:=D7 ⟨(st+a) % 9,ady _ (by decide)⟩ ⟨(st+b) % 9,ady _ (by decide)⟩ e
  have:=congrArg Fin.val this
  simp only at this
  omega
 rw[aa5,acs]
 refine(acw).imp_of_mem fun {a b} ha hb h e=>go a b h (by have:=ZS.mp hb;omega) e
def Kr (c l:Int)(h0:0<=i) (h1:i < 700000):∃T i' l',zX [.b (fd c i l)]=some (.t (bG T),[fd c i' l'])/\0 < T.length/\T.length<=3/\(∀p∈T,fO p)/\i<=i'/\i'<=i+10/\(T.map (·.1)).Nodup:=by
 obtain⟨st,l1,e1,s0,s1⟩:=kR c l h0 (by omega) (m:=9) (by omega) (by omega)
 obtain⟨a,l2,e2,a0,a1⟩:=kR c l1 (i:=i+1) (by omega) (by omega) (m:=4) (by omega) (by omega)
 obtain⟨m,e3,m0,m1⟩:=Kp a0 a1
 obtain⟨S',e4,j,T,i',l',x6,x7,left,hr,hj,RH,hT,hi,hi2,hleft,h6,h7,rfl⟩:=qq (bd:=bName 6) (body:=Sq.fH dJ) (gT 0 m.toNat)
  (fun r S=>∃(j:Nat) (T:AAG) (i' l':Int) (x6 x7:Option U) (left:Int),(gT 0 m.toNat).drop j=r/\j<=m.toNat/\T.map (·.1)=(List.range j).map (fun k=>mR ((st.toNat+k) % 9))/\(∀p∈T,fO p)/\i<=i'/\i'=i+2+j/\0<=left - m+j/\AF x6/\AF x7/\
   S=[some (.b (fd c i' l')),ZC nJ,ZD st,ZD m,ZD left,ZC (T.map gz),x6,x7])
  [some (.b (fd c (i+1+1) l2)),ZC nJ,ZD st,ZD m,ZD 5,ZC [],none,none]
  ⟨0,[],i+1+1,l2,none,none,5,rfl,Z3 _,rfl,by simp,by omega,by push_cast;omega,by push_cast;omega,.n,.n,rfl⟩ (by
  rintro d r S ⟨j,T,i',l',x6,x7,left,hr,hj,RH,hT,hi,hi2,hleft,h6,h7,rfl⟩
  obtain⟨hjn,rfl,hr'⟩:=qx hr
  have RI:T.length=j:=by have:=congrArg List.length RH;simpa using this
  obtain⟨v,l'',S1,b1,b2,b3,b4⟩:=D8 (c:=c) (i:=i') (l:=l') (st:=st) (m:=m) (left:=left) (k:=j) (T:=T) (by omega) (by omega) s0 (by omega) hleft (by omega) h6 h7
  have en:((st+(j:Int)) % 9).toNat=(st.toNat+j) % 9:=by omega
  rw[en] at b2 b4
  refine⟨S1,_,b1,b4,j+1,T++[(mR ((st.toNat+j) % 9),v)],i'+1,l'',_,_,left - v - 1,hr',hjn,?_,?_,by omega,by push_cast;omega,by push_cast;omega,.t,.t,rfl⟩
  ·rw[aaa,RH,abz,aaa]
   rfl
  ·intro p hp
   rcases Z2.mp hp with q | q
   ·exact hT p q
   ·rw[show p=(mR ((st.toNat+j) % 9),v) by simpa using q];exact b2)
 have hj:j=m.toNat:=by
  have:=congrArg List.length hr
  simp[gT] at this
  omega
 have RI:T.length=j:=by have:=congrArg List.length RH;simpa using this
 refine⟨T,i',l',?_,by omega,by omega,hT,hi,by omega,by rw[RH];exact Hg (by omega)⟩
 have b1:m < 1000000:=by omega
 have b2:-1000000 < m:=by omega
 simp[zX,bY,Sq.jK,e1,e2,e3,b1,b2,aB,bG]
 simp only[nJ] at e4
 rw[e4]
 simp[gz]
end Sx
end
section
namespace Sl
open PySem PySem.Spec PyProof.Rows L2
variable {ns:List Nat}{i:Nat}
section
variable {κ:Type} [DecidableEq κ]
noncomputable def lN (acc:List κ):List κ->List κ
 | []=>acc
 | k :: ks=>lN (if k∈acc then acc else acc++[k]) ks
theorem l9 {x:κ}:∀{ks acc:List κ},x∈lN acc ks↔x∈acc\/x∈ks
  | [],acc=>by simp[lN]
  | k :: ks, acc => by
    show x∈lN (if k∈acc then acc else acc++[k]) ks↔_
    rw[l9]
    by_cases h:k∈acc
    . rw[if_pos h,ZV]
      constructor
      . rintro(a | a);exact .inl a;exact .inr (.inr a)
      . rintro(a | rfl | a);exact .inl a;exact .inl h;exact .inr a
    . rw[if_neg h,Z2,ZG,ZV,or_assoc]
theorem Bw:∀{ks acc:List κ},acc.Nodup->(lN acc ks).Nodup
  | [],acc,h=>h
  | k :: ks, acc, h => by
    show(lN (if k∈acc then acc else acc++[k]) ks).Nodup
    refine Bw ?_
    by_cases c:k∈acc
    . rw[if_pos c];exact h
    . rw[if_neg c,abl]
      exact⟨h,by simp,fun a ha b hb e=>c (by rw[<-ZG.mp hb,<-e];exact ha)⟩
theorem ya:∀(ks acc:List κ),∃r,lN acc ks=acc++r
 | [],acc=>⟨[],by simp[lN]⟩
 | k :: ks,acc=>by
  obtain⟨r,e⟩:=ya ks (if k∈acc then acc else acc++[k])
  by_cases h:k∈acc
  ·rw[if_pos h] at e;exact⟨r,by show lN (if k∈acc then acc else acc++[k]) ks=_;rw[if_pos h,e]⟩
  ·rw[if_neg h] at e;exact⟨k :: r,by show lN (if k∈acc then acc else acc++[k]) ks=_;rw[if_neg h,e,aar];rfl⟩
noncomputable def fX (ks:List κ):List Nat:=ks.map fun k=>(lN [] ks).idxOf k
def j9 (ks:List κ):(fX ks).length=ks.length:=Zw ..
end
noncomputable def na (ns:List Nat) (i:Nat):Nat:=ns.getD i 0
def bO (h:i < ns.length):ns[i]? =some (na ns i):=by
 unfold na
 rw[ZN,Zz h]
 rfl
def cB (h:i < ns.length):na ns i∈ns:=ZO (bO h)
structure vB (ns:List Nat) (c:Nat):Prop where
 lt:∀v∈ns,v < c
 on:∀v,v < c->v∈ns
section
variable {κ:Type} [DecidableEq κ]
def tH {ks:List κ}{k:κ}(h:ks[i]? =some k):na (fX ks) i=(lN [] ks).idxOf k:=by
 unfold na fX
 rw[ZN,ZF,h]
 rfl
def ou {ks:List κ}{j:Nat}{a b:κ}(ha:ks[i]? =some a) (hb:ks[j]? =some b):na (fX ks) i=na (fX ks) j↔a=b:=by
 rw[tH ha,tH hb]
 have ma:a∈lN [] ks:=l9.mpr (.inr (ZO ha))
 have mb:b∈lN [] ks:=l9.mpr (.inr (ZO hb))
 constructor
 ·intro e
  have la:=aau ma
  have lb:=aau mb
  have ea:(lN [] ks)[(lN [] ks).idxOf a]=a:=abt la
  have eb:(lN [] ks)[(lN [] ks).idxOf b]=b:=abt lb
  rw[<-ea,<-eb]
  simp only[e]
 ·rintro rfl;rfl
def kg (ks:List κ):vB (fX ks) (lN [] ks).length where
 lt:=fun v hv=>by
  obtain⟨k,hk,rfl⟩:=Z6.mp hv
  exact aau (l9.mpr (.inr hk))
 on:=fun v hv=>by
  have m:(lN [] ks)[v]∈ks:=by
   rcases l9.mp (abp hv) with h | h
   ·cases h
   ·exact h
  refine Z6.mpr ⟨_,m,?_⟩
  exact List.Nodup.idxOf_getElem (Bw aa0) v hv
end
def wL {ns':List Nat}{c c' n:Nat}(h:vB ns c) (h':vB ns' c') (hl:ns.length=n) (hl':ns'.length=n) (fin:∀i j,i < n->j < n->na ns' i=na ns' j->na ns i=na ns j){f g:Nat}(hf:f < n) (hg:g < n) (e:na ns f=na ns g) (ne:na ns' f≠na ns' g):c+1<=c':=by
 have rep:∀v,v < c->ns.idxOf v < n/\na ns (ns.idxOf v)=v:=fun v hv=>by
  have m:=h.on v hv
  have l:=aau m
  refine⟨by omega,?_⟩
  have a:=bO l
  rw[Zz l,abt l] at a
  exact(ZU a).symm
 have v0:na ns f < c:=h.lt _ (cB (by omega))
 obtain⟨w,hw,Y4,hwn⟩:∃w,w < n/\na ns w=na ns f/\na ns' w≠na ns' (ns.idxOf (na ns f)):=by
  by_cases q:na ns' f=na ns' (ns.idxOf (na ns f))
  ·exact⟨g,hg,e.symm,fun z=>ne (q.trans z.symm)⟩
  ·exact⟨f,hf,rfl,q⟩
 have nd:(na ns' w :: (List.range c).map fun v=>na ns' (ns.idxOf v)).Nodup:=by
  rw[aav]
  constructor
  ·intro m
   obtain⟨v,hv,ev⟩:=Z6.mp m
   have r:=rep v (ZS.mp hv)
   have z:=fin _ _ r.1 hw ev
   rw[r.2,Y4] at z
   rw[z] at ev
   exact hwn ev.symm
  ·rw[aa5,acs]
   refine List.Pairwise.imp_of_mem (R:=fun a b=>a≠b) ?_ (aa5.mp ab2)
   intro a b ha hb hab q
   have ra:=rep a (ZS.mp ha)
   have rb:=rep b (ZS.mp hb)
   have z:=fin _ _ ra.1 rb.1 q
   rw[ra.2,rb.2] at z
   exact hab z
 have sub:∀v∈(na ns' w :: (List.range c).map fun v=>na ns' (ns.idxOf v)),v∈List.range c':=fun v hv=>by
  rw[ZS]
  rcases ZV.mp hv with rfl | m
  ·exact h'.lt _ (cB (by omega))
  ·obtain⟨u,hu,rfl⟩:=Z6.mp m
   have r:=rep u (ZS.mp hu)
   exact h'.lt _ (cB (by omega))
 have:=nd.length_le_of_subset sub
 simpa using this
section
variable (nx:AAE) (wd:Nat->D) (W:Nat)
noncomputable def led:List Nat->Nat->Nat
 | [],s=>s
 | c :: cs,s=>led cs (nx s c)
def D9:Nat->Nat->Nat->Prop
 | 0,s,t=>wd s=wd t
 | i+1,s,t=>D9 i s t/\∀c,c < W->D9 i (nx s c) (nx t c)
variable {nx wd W}
theorem yc:∀{i:Nat}{s t:Nat},D9 nx wd W i s t->∀cs:List Nat,cs.length<=i->(∀c∈cs,c < W)->wd (led nx cs s)=wd (led nx cs t)
 | 0,s,t,h,cs,hl,_=>by
  cases cs with
  | nil=>exact h
  | cons=>simp at hl
 | i+1,s,t,h,cs,hl,hc=>by
  cases cs with
  | nil=>exact yc h.1 [] (Z3 _) (by simp)
  | cons c cs=>exact yc (h.2 c (hc c ZJ)) cs (by simpa using hl) fun d hd=>hc d (ZI _ hd)
end
end Sl
end
section
namespace Sl
open PySem PySem.Spec PyProof.Rows L2 Sw
variable {sd a:D}{ds M jr acc dg:List D}{ks:List Key}{N:AAF}{W c n:Nat}{ns:List Nat}{z0 z2 z1 z3 z4:Option U}
section
variable {κ:Type} [DecidableEq κ]
noncomputable def ent:Nat->List κ->List (κ×D)
 | _,[]=>[]
 | i,k :: ks=>(k,.int (i:Nat)) :: ent (i+1) ks
theorem mh:∀(ks:List κ) (i:Nat),(ent i ks).length=ks.length
 | [],_=>rfl
 | k :: ks,i=>congrArg Nat.succ (mh ks (i+1))
theorem zY:∀(ks:List κ) (i:Nat) (k:κ),ent i (ks++[k])=ent i ks++[(k,.int ((i+ks.length:Nat):Int))]
 | [],_,_=>rfl
 | g :: ks,i,k=>by
  show _ :: ent (i+1) (ks++[k])=_
  rw[zY ks (i+1) k,show i+1+ks.length=i+(ks.length+1) by omega]
  rfl
theorem zZ : ∀ {ks : List κ} {k : κ} (i : Nat), k ∈ ks -> aU (ent i ks) k = some (.int ((i + ks.idxOf k : Nat) : Int))
  | [],_,_,h=>by cases h
  | g :: ks, k, i, h => by
    unfold aU
    by_cases e:g=k
    . subst e
      simp[ent]
    . have m:k∈ks:=by
        rcases ZV.mp h with rfl | m
        . exact absurd rfl e
        . exact m
      have ih:=zZ (i+1) m
      unfold aU at ih
      rw[show ent i (g :: ks)=(g,.int (i:Nat)) :: ent (i+1) ks from rfl,abN (by simpa using e),ih]
      have:(g :: ks).idxOf k=ks.idxOf k+1:=by rw[adx,cond_eq_ite,if_neg (by simpa using e)]
      rw[this]
      congr 3
      omega
def iW {ks:List κ}{k:κ}(h:k∈ks):aU (ent 0 ks) k=some (.int (ks.idxOf k:Nat)):=by
 rw[zZ 0 h,abu]
theorem jm:∀{ks:List κ}{k:κ}(i:Nat),k∉ks->aU (ent i ks) k=none
  | [],_,_,_=>rfl
  | g :: ks, k, i, h => by
    have ih:=jm (ks:=ks) (k:=k) (i+1) fun m=>h (ZI _ m)
    unfold aU at ih ⊢
    rw[show ent i (g :: ks)=(g,.int (i:Nat)) :: ent (i+1) ks from rfl,abN (by
      simp only[abC];rintro rfl;exact h ZJ)]
    exact ih
def Aa {kvs:List (κ×D)}{k:κ}(h:aU kvs k=none):(kvs.any fun kv=>decide (kv.1=k))=false:=by
 unfold aU at h
 rw[Option.map_eq_none_iff,List.find?_eq_none] at h
 rw[List.any_eq_false]
 exact fun x hx=>h x hx
def Cw {kvs:List (κ×D)}{k:κ}{d:D}(h:aU kvs k=none):putD kvs k d=kvs++[(k,d)]:=by
 unfold putD
 rw[Aa h]
 rfl
def tK {ks:List κ}{k:κ}(h:k∉ks):putD (ent 0 ks) k (.int (ks.length:Nat))=ent 0 (ks++[k]):=by
 rw[Cw (jm 0 h),zY,abu]
structure Kk (mk:List (κ×D)->MO) (ky:D->Option κ):Prop where
 has:∀kvs d k,ky d=some k->xK (.m (mk kvs)) d=some (aU kvs k).isSome
 rd:∀kvs d k,ky d=some k->d7 (.m (mk kvs)) d=aU kvs k
 rb:∀kvs d k,ky d=some k->d7 (.b (mk kvs)) d=aU kvs k
 wr:∀kvs d k v,ky d=some k->kvs.length < 100000->iS (mk kvs) d v=some (mk (putD kvs k v))
 ln:∀kvs,vq (.m (mk kvs))=some kvs.length
 dc:∀kvs,uv (.m (mk kvs))=true
 df:∀kvs d k v,ky d=some k->kvs.length < 100000->JX (mk kvs) d v=some (match aU kvs k with | some e=>(e,mk kvs) | none=>(v,mk (putD kvs k v)))
end
def yf:Kk MO.dct keyOf where
 has:=fun kvs d k h=>by show(keyOf d).map _=_;rw[h];rfl
 rd:=fun kvs d k h=>by rw[Bq,h];rfl
 rb:=fun kvs d k h=>by rw[Br,h];rfl
 wr:=fun kvs d k v h hl=>by rw[DZ,h,ZE,if_pos hl]
 ln:=fun kvs=>rfl
 dc:=fun kvs=>rfl
 df:=fun kvs d k v h hl=>by
  show(keyOf d).bind _=_
  rw[h,ZE]
  cases aU kvs k with
  | some e=>rfl
  | none=>exact if_pos hl
def RJ:Kk MO.oH kY where
 has:=fun kvs d k h=>by show(kY d).map _=_;rw[h];rfl
 rd:=fun kvs d k h=>by rw[Bu,h];rfl
 rb:=fun kvs d k h=>by rw[Bv,h];rfl
 wr:=fun kvs d k v h hl=>by rw[D4,h,ZE,if_pos (by omega)]
 ln:=fun kvs=>rfl
 dc:=fun kvs=>rfl
 df:=fun kvs d k v h hl=>by
  show(kY d).bind _=_
  rw[h,ZE]
  cases aU kvs k with
  | some e=>rfl
  | none=>exact if_pos (by omega)
noncomputable def iD (ns:List Nat):List D:=ns.map fun n=>.int (n:Nat)
noncomputable def cJ:GS:=
 (v7 (qB (qR true 1 (eF (aj 2)))) (vt 1 (eF (aj 2)) (dZ 1)) lV)
noncomputable def Ab:GS:=
 (v7 (qB (qR true 1 (eF (aj 2)))) (vt 1 (eF (aj 2)) (dZ 1)) lV)
noncomputable def eu:GS:=
 (LJ (aG (aR 1 oR)
 (aG (gM (bName 2) (bM (eF (aj 0))) (cJ))
 (dH (bw [1] (bM (eF (aj 0))) aC (aH 1 (eF (aj 0)))))))
 (aG (aR 1 Ce)
 (aG (gM (bName 2) (bM (eF (aj 0))) (Ab))
 (dH (bw [1] (bM (eF (aj 0))) aC (aH 1 (eF (aj 0))))))))
noncomputable def rq:FM:=bY 3 eu
def Ks:∀us r,rq us=some r->bY 3 eu us=some r:=fun _ _ h=>h
section
variable {κ:Type} [DecidableEq κ] {mk:List (κ×D)->MO}{ky:D->Option κ}
def Hh (K:Kk mk ky){d:D}{k:κ}{acc:List κ}(h:ky d=some k) (hl:acc.length < 1000):cJ [ZA sd,some (.m (mk (ent 0 acc))),ZA d]=some (.nx [ZA sd,some (.m (mk (ent 0 (if k∈acc then acc else acc++[k])))),ZA d]):=by
 by_cases m:k∈acc
 ·have e:=K.has (ent 0 acc) d k h
  rw[iW m] at e
  rw[if_pos m]
  simp[cJ,qR,e]
 ·have e:=K.has (ent 0 acc) d k h
  rw[jm 0 m] at e
  have e2:=K.wr (ent 0 acc) d k (.int (acc.length:Nat)) h (by rw[mh];omega)
  rw[tK m] at e2
  have e3:=K.ln (ent 0 acc)
  rw[mh] at e3
  rw[if_neg m]
  simp[cJ,qR,e,e2,e3,kJ]
theorem Ac (K:Kk mk ky){sd:D}:∀(ds:List D) (ks:List κ) (acc:List κ) (x:Option U),ds.map ky=ks.map some->acc.length+ds.length < 1000->dM x=false->
    ∃x',loop (bName 2) cJ ds [ZA sd,some (.m (mk (ent 0 acc))),x]=some (.nx [ZA sd,some (.m (mk (ent 0 (lN acc ks)))),x'])
  | [],ks,acc,x,h,_,_=>by
    cases ks with
    | nil=>exact⟨x,rfl⟩
    | cons=>cases h
  | d :: ds, ks, acc, x, h, hl, hx => by
    cases ks with
    | nil=>cases h
    | cons k ks=>
      have hl:acc.length+(ds.length+1) < 1000:=hl
      injection h with h1 h2
      obtain⟨x',e⟩:=Ac K (sd:=sd) ds ks (if k∈acc then acc else acc++[k]) (ZA d) h2 (by split <;> (try rw[ZZ,aaA]) <;> omega) rfl
      refine⟨x',?_⟩
      have eb:bName 2 d [ZA sd,some (.m (mk (ent 0 acc))),x]=some [ZA sd,some (.m (mk (ent 0 acc))),ZA d]:=by simp[-cD,bL,hx]
      rw[jO,eb,ZE,Hh K h1 (by omega),ZE]
      exact e
theorem Ad (K : Kk mk ky) {sd : D} {acc : List κ} {x : Option U} : ∀ (ds : List D) (ks : List κ) (out : List D), ds.map ky = ks.map some -> (∀ k ∈ ks, k ∈ acc) ->
    aF [1] aC (aH 1 (eF (aj 0))) ds [ZA sd,some (.m (mk (ent 0 acc))),x] out=some (out++iD (ks.map fun k=>acc.idxOf k),[ZA sd,some (.m (mk (ent 0 acc))),x])
  | [],ks,out,h,_=>by
    cases ks with
    | nil=>simp[aF,iD]
    | cons=>cases h
  | d :: ds, ks, out, h, hm => by
    cases ks with
    | nil=>cases h
    | cons k ks=>
      injection h with h1 h2
      have e:=K.rb (ent 0 acc) d k h1
      rw[iW (hm k ZJ)] at e
      have e1:aF [1] aC (aH 1 (eF (aj 0))) [d] [ZA sd,some (.m (mk (ent 0 acc))),x] out=some (out++[.int (acc.idxOf k:Nat)],[ZA sd,some (.m (mk (ent 0 acc))),x]):=by
        simp[aF,aY,cO,e,aB]
      rw[Sq.l7,e1,ZE]
      refine(Ad K (sd:=sd) (x:=x) ds ks (out++[D.int ((acc.idxOf k:Nat):Int)]) h2 fun q hq=>hm q (ZI _ hq)).trans ?_
      simp[iD]
def Ae (K:Kk mk ky){ks:List κ}(hs:sd= .tup ds\/sd= .lst ds) (hk:ds.map ky=ks.map some) (hl:ds.length < 1000):
  ∃a S,(aG (gM (bName 2) (bM (eF (aj 0))) (cJ)) (dH (bw [1] (bM (eF (aj 0))) aC (aH 1 (eF (aj 0)))))) [ZA sd,some (.m (mk [])),none]=some (.rt (.m (.lst (iD (fX ks)))) (a :: S)):=by
 obtain⟨x,e⟩:=Ac K (sd:=sd) ds ks [] none hk (by simpa using hl) rfl
 have e2:=Ad K (sd:=sd) (acc:=lN [] ks) (x:=x) ds ks [] hk fun k h=>l9.mpr (.inr h)
 have hz:ds.length<=100000:=by omega
 rw[Z9] at e2
 have e:loop (bName 2) cJ ds [ZA sd,some (.m (mk [])),none]=some (.nx [ZA sd,some (.m (mk (ent 0 (lN [] ks)))),x]):=e
 rcases hs with rfl | rfl
 ·exact⟨_,_,by simp[cz,e,bD,e2,hz,fX];exact⟨rfl,rfl⟩⟩
 ·exact⟨_,_,by simp[cz,e,bD,e2,hz,fX];exact⟨rfl,rfl⟩⟩
end
def NT (hs:sd= .tup ds\/sd= .lst ds) (hk:ds.map keyOf=ks.map some) (hl:ds.length < 1000):rq [.t sd]=some (.m (.lst (iD (fX ks))),[]):=by
 obtain⟨a,S,e⟩:=Ae yf hs hk hl
 have eg:eu [ZA sd,none,none]=some (.rt (.m (.lst (iD (fX ks)))) (a :: S)):=by
  unfold eu LJ
  rw[show(aG (aR 1 oR) (aG (gM (bName 2) (bM (eF (aj 0))) (cJ)) (dH (bw [1] (bM (eF (aj 0))) aC (aH 1 (eF (aj 0))))))) [ZA sd,none,none]=some (.rt (.m (.lst (iD (fX ks)))) (a :: S)) from e]
  rfl
 show(eu [ZA sd,none,none]).bind _=_
 rw[eg]
 rfl
def NU   {ks : List D} (hs : sd = .tup ds \/ sd = .lst ds) (h0 : ds ≠ []) (hk : ds.map kY = ks.map some) (hl : ds.length < 1000) : rq [.t sd] = some (.m (.lst (iD (fX ks))), []) := by
  obtain⟨a,S,e⟩:=Ae RJ hs hk hl
  have no : (aG (aR 1 oR) (aG (gM (bName 2) (bM (eF (aj 0))) (cJ)) (dH (bw [1] (bM (eF (aj 0))) aC (aH 1 (eF (aj 0))))))) [ZA sd, none, none] = none := by
    cases ds with
    | nil=>exact absurd rfl h0
    | cons d ds=>
      cases ks with
      | nil=>cases hk
      | cons k ks=>
        injection hk with h1 h2
        cases d with
        | tup zs=>
          have ew:cJ [ZA sd,some (.m (.dct [])),ZA (.tup zs)]=none:=rfl
          have el:loop (bName 2) cJ (.tup zs :: ds) [ZA sd,some (.m (.dct [])),none]=none:=by
            rw[jO,show bName 2 (.tup zs) [ZA sd,some (.m (.dct [])),none]=some [ZA sd,some (.m (.dct [])),ZA (.tup zs)] from rfl,ZE,ew]
            rfl
          rcases hs with rfl | rfl <;> simp[cz,el]
        | _=>cases h1
  have eg:eu [ZA sd,none,none]=some (.rt (.m (.lst (iD (fX ks)))) (a :: S)):=by
    unfold eu LJ
    rw[no]
    exact e
  show(eu [ZA sd,none,none]).bind _=_
  rw[eg]
  rfl
noncomputable def rw' (N:AAF) (s:Nat):List Int:=N.getD s []
noncomputable def bC (N:AAF) (s c:Nat):Nat:=((rw' N s).getD c 0).toNat
noncomputable def nD (N:AAF):D:=.tup (N.map Sq.aV)
def rw_get {s:Nat}(h:s < N.length):N[s]? =some (rw' N s):=by
 unfold rw'
 rw[ZN,Zz h]
 rfl
def rw_len {s:Nat}(mo:Sq.gH W N) (h:s < N.length):(rw' N s).length=W:=(mo.row _ (ZO (rw_get h))).1
def dB {s:Nat}(mo:Sq.gH W N) (h:s < N.length) (hc:c < W):(rw' N s)[c]? =some (bC N s c:Nat)/\bC N s c < N.length:=by
 obtain⟨r1,r2⟩:=mo.row _ (ZO (rw_get h))
 have hl:c < (rw' N s).length:=by omega
 have v:=r2 _ (abp hl)
 unfold bC
 rw[ZN,Zz hl]
 simp only[ab0]
 exact⟨by congr 1;omega,by omega⟩
def Cy {s:Nat}(h:s < N.length):dF (N.map Sq.aV) (s:Int)=some (.tup ((rw' N s).map D.int)):=
 Sq.q8 (abq s) (by rw[aaB,ZF,rw_get h];rfl)
def iG {s:Nat}(h:s < ns.length):dF (iD ns) (s:Int)=some (.int (na ns s:Nat)):=
 Sq.q8 (abq s) (by rw[aaB,iD,ZF,bO h];rfl)
def look_same {κ:Type} [DecidableEq κ] {kvs:List (κ×D)}{k:κ}{d:D}(h:aU kvs k=none):aU (kvs++[(k,d)]) k=some d:=by
 unfold aU at h ⊢
 rw[Option.map_eq_none_iff] at h
 rw[List.find?_append,h]
 simp
def uN {κ:Type} [DecidableEq κ] {kvs:List (κ×D)}{k k':κ}{d:D}(h:k≠k'):aU (kvs++[(k,d)]) k'=aU kvs k':=by
 unfold aU
 rw[List.find?_append,abN (by simpa using h),List.find?_nil,Option.or_none]
def Wd (d:D):Prop:=(∃b,d= .bl b)\/∃z,d= .str z
def NV {x y:Bool}(h:bI x=bI y):x=y:=by cases x <;> cases y <;> first | rfl | (exact absurd h (by decide))
noncomputable def Ku:D->Key
 | .bl b=>.inl (bI b)
 | .str z=>.inr z
 | _=>.inl 0
def RK (ha:Wd a):keyOf a=some (Ku a):=by rcases ha with⟨x,rfl⟩ | ⟨x,rfl⟩ <;> rfl
def Kv {b:D}(ha:Wd a) (hb:Wd b) (h:Ku a=Ku b):a=b:=by
 rcases ha with⟨x,rfl⟩ | ⟨x,rfl⟩ <;> rcases hb with⟨y,rfl⟩ | ⟨y,rfl⟩
 ·injection h with h;rw[NV h]
 ·cases h
 ·cases h
 ·injection h with h;rw[h]
noncomputable def aW (M:List D) (s:Nat):D:=M.getD s .bV
def jo {s:Nat}(h:s < M.length):M[s]? =some (aW M s):=by
 unfold aW
 rw[ZN,Zz h]
 rfl
def qy {s:Nat}(h:s < M.length):dF M (s:Int)=some (aW M s):=
 Sq.q8 (abq s) (by rw[aaB];exact jo h)
def jq {s:Nat}(h:s < M.length):aW M s∈M:=ZO (jo h)
def Y5 (a b c:D):dF [a,b,c] 0=some a/\dF [a,b,c] 1=some b/\dF [a,b,c] 2=some c:=⟨rfl,rfl,rfl⟩
section
variable {f1 f2 f3 f4:FM}{td md:D}{dg jr H RD VD rf rg cr told sD:List D}{f g d a b r:Int}{hd:D}{y7 y8 y9 Hi:Option U}
end
def pI (h:ns.length=n):iD ns=(List.range n).map fun s=>D.int (na ns s:Nat):=by
 subst h
 unfold iD
 apply aaT
 intro i
 rw[ZF,ZF]
 by_cases c:i < ns.length
 ·rw[bO c,ZX c]
  rfl
 ·rw[Z0 (by omega),Z0 (by rw[ZK];omega)]
  rfl
def Hj (h:vB ns c) (hc:0 < c):kO [.lst (iD ns)]=ZD ((c - 1:Nat):Int):=by
 have e:L2.aV (iD ns)=some (ns.map fun n:Nat=>(n:Int)):=by
  unfold iD
  clear h
  induction ns with
  | nil=>rfl
  | cons n ns ih=>simp only[aae,L2.aV,ih];rfl
 have m:((c - 1:Nat):Int)∈ns.map fun n:Nat=>(n:Int):=Z6.mpr ⟨c - 1,h.on _ (by omega),rfl⟩
 have e2:qi (ns.map fun n:Nat=>(n:Int))=((c - 1:Nat):Int):=Cg m fun a ha=>by
  obtain⟨v,hv,rfl⟩:=Z6.mp ha
  have:=h.lt v hv
  omega
 show(L2.aV (iD ns)).bind _=_
 rw[e,ZE,if_neg (List.ne_nil_of_mem m),e2]
def yg (h:vB ns c):c<=ns.length:=by
 have:=ab2.length_le_of_subset (l₁:=List.range c) (l₂:=ns) fun v hv=>h.on v (ZS.mp hv)
 rwa [ZK] at this
noncomputable def bE:GS:=
 (aG (jW (eT (zJ 1 (eF (aj 3)) (dZ 1))))
 (jW (eT (eM 2 hAppend (aa (aH 1 (eF (aj 3))) ao)))))
noncomputable def rA:GS:=
 (aG (jW (eT (zJ 1 (eF (aj 3)) (dZ 1))))
 (jW (eT (eM 2 hAppend (aa (aH 1 (eF (aj 3))) ao)))))
noncomputable def bU:GS:=
 (LJ (aG (aR 1 oR)
 (aG (aR 2 (eP gX ao))
 (aG (gM (bName 3) (bM (eF (aj 0))) (bE))
 (dH (aj 2)))))
 (aG (aR 1 Ce)
 (aG (aR 2 (eP gX ao))
 (aG (gM (bName 3) (bM (eF (aj 0))) (rA))
 (dH (aj 2))))))
noncomputable def jG:FM:=bY 4 bU
def Hl:∀us r,jG us=some r->bY 4 bU us=some r:=fun _ _ h=>h
section
variable {κ:Type} [DecidableEq κ] {mk:List (κ×D)->MO}{ky:D->Option κ}
noncomputable def rB (acc:List κ) (k:κ):List κ:=if k∈acc then acc else acc++[k]
def Ho (acc:List κ) (k:κ):k∈rB acc k:=by
 unfold rB
 split
 ·assumption
 ·simp
def Hq (acc:List κ) (k:κ):(rB acc k).length<=acc.length+1:=by
 unfold rB
 split
 ·omega
 ·rw[ZZ,aaA];omega
def NW (K:Kk mk ky){d:D}{k:κ}{acc:List κ}(h:ky d=some k) (hl:acc.length < 1000):∃e,JX (mk (ent 0 acc)) d (.int (acc.length:Nat))=some (e,mk (ent 0 (rB acc k))):=by
 rw[K.df _ _ _ _ h (by rw[mh];omega)]
 unfold rB
 by_cases m:k∈acc
 ·rw[iW m,if_pos m];exact⟨_,rfl⟩
 ·rw[jm 0 m,if_neg m,tK m];exact⟨_,rfl⟩
def Hr {d e v:D}{o o':MO}{out:List D}(hd:uv (.m o)=true) (hn:vq (.m o)=some n) (h1:JX o d (.int (n:Nat))=some (e,o')) (h2:d7 (.m o') d=some v) (hl:out.length < 100000):
  bE [ZA sd,some (.m o),ZC out,ZA d]=some (.nx [ZA sd,some (.m o'),ZC (out++[v]),ZA d]):=by
 simp[bE,zJ,hd,hn,h1,h2,hl,kJ,AW,hAppend]
theorem Cz (K:Kk mk ky){sd:D}:∀(ds:List D) (ks:List κ) (acc:List κ) (out:List D) (x:Option U),ds.map ky=ks.map some->acc.length+ds.length < 1000->out.length+ds.length < 1000->dM x=false->
    ∃x',loop (bName 3) bE ds [ZA sd,some (.m (mk (ent 0 acc))),ZC out,x]=some (.nx [ZA sd,some (.m (mk (ent 0 (lN acc ks)))),ZC (out++iD (ks.map fun k=>(lN acc ks).idxOf k)),x'])
  | [],ks,acc,out,x,h,_,_,_=>by
    cases ks with
    | nil=>exact⟨x,by simp[loop,iD,lN]⟩
    | cons=>cases h
  | d :: ds, ks, acc, out, x, h, hl, ho, hx => by
    cases ks with
    | nil=>cases h
    | cons k ks=>
      have hl:acc.length+(ds.length+1) < 1000:=hl
      have ho:out.length+(ds.length+1) < 1000:=ho
      injection h with h1 h2
      have hm:=Ho acc k
      have hle:=Hq acc k
      obtain⟨x',e⟩:=Cz K (sd:=sd) ds ks (rB acc k) (out++[D.int (((rB acc k).idxOf k:Nat):Int)]) (ZA d) h2 (by omega) (by rw[ZZ,aaA];omega) rfl
      refine⟨x',?_⟩
      obtain⟨e0,df⟩:=NW K h1 (show acc.length < 1000 by omega)
      have rd:=K.rd (ent 0 (rB acc k)) d k h1
      rw[iW hm] at rd
      have Xy:=K.ln (ent 0 acc)
      rw[mh] at Xy
      have ew:=Hr (sd:=sd) (out:=out) (K.dc (ent 0 acc)) Xy df rd (by omega)
      have eb:bName 3 d [ZA sd,some (.m (mk (ent 0 acc))),ZC out,x]=some [ZA sd,some (.m (mk (ent 0 acc))),ZC out,ZA d]:=by simp[-cD,bL,hx]
      rw[jO,eb,ZE,ew,ZE]
      refine e.trans ?_
      obtain⟨r,er⟩:=ya ks (rB acc k)
      have ei:(lN (rB acc k) ks).idxOf k=(rB acc k).idxOf k:=by rw[er,ac6,if_pos hm]
      have ed:lN acc (k :: ks)=lN (rB acc k) ks:=rfl
      rw[ed,aae,ei]
      simp[iD]
def CA (K:Kk mk ky){ks:List κ}(hs:sd= .tup ds\/sd= .lst ds) (hk:ds.map ky=ks.map some) (hl:ds.length < 1000):
  ∃a S,(aG (aR 2 (eP gX ao)) (aG (gM (bName 3) (bM (eF (aj 0))) (bE)) (dH (aj 2)))) [ZA sd,some (.m (mk [])),none,none]=some (.rt (.m (.lst (iD (fX ks)))) (a :: S)):=by
 obtain⟨x,e⟩:=Cz K (sd:=sd) ds ks [] [] none hk (by simpa using hl) (by simpa using hl) rfl
 replace e:loop (bName 3) bE ds [ZA sd,some (.m (mk [])),ZC [],none]=_:=e
 rw[Z9] at e
 rcases hs with rfl | rfl
 ·exact⟨_,_,by simp[cz,e,fX];exact⟨rfl,rfl⟩⟩
 ·exact⟨_,_,by simp[cz,e,fX];exact⟨rfl,rfl⟩⟩
end
def Kw (hs:sd= .tup ds\/sd= .lst ds) (hk:ds.map keyOf=ks.map some) (hl:ds.length < 1000):jG [.t sd]=some (.m (.lst (iD (fX ks))),[]):=by
 obtain⟨a,S,e⟩:=CA yf hs hk hl
 have eg:bU [ZA sd,none,none,none]=some (.rt (.m (.lst (iD (fX ks)))) (a :: S)):=by
  unfold bU LJ
  rw[show(aG (aR 1 oR) (aG (aR 2 (eP gX ao)) (aG (gM (bName 3) (bM (eF (aj 0))) (bE)) (dH (aj 2))))) [ZA sd,none,none,none]=some (.rt (.m (.lst (iD (fX ks)))) (a :: S)) from e]
  rfl
 show(bU [ZA sd,none,none,none]).bind _=_
 rw[eg]
 rfl
def Ky   {ks : List D} (hs : sd = .tup ds \/ sd = .lst ds) (h0 : ds ≠ []) (hk : ds.map kY = ks.map some) (hl : ds.length < 1000) : jG [.t sd] = some (.m (.lst (iD (fX ks))), []) := by
  obtain⟨a,S,e⟩:=CA RJ hs hk hl
  have no : (aG (aR 1 oR) (aG (aR 2 (eP gX ao)) (aG (gM (bName 3) (bM (eF (aj 0))) (bE)) (dH (aj 2))))) [ZA sd, none, none, none] = none := by
    cases ds with
    | nil=>exact absurd rfl h0
    | cons d ds=>
      cases ks with
      | nil=>cases hk
      | cons k ks=>
        injection hk with h1 h2
        cases d with
        | tup zs=>
          have ew:bE [ZA sd,some (.m (.dct [])),ZC [],ZA (.tup zs)]=none:=rfl
          have el:loop (bName 3) bE (.tup zs :: ds) [ZA sd,some (.m (.dct [])),ZC [],none]=none:=by
            rw[jO,show bName 3 (.tup zs) [ZA sd,some (.m (.dct [])),ZC [],none]=some [ZA sd,some (.m (.dct [])),ZC [],ZA (.tup zs)] from rfl,ZE,ew]
            rfl
          rcases hs with rfl | rfl <;> simp[cz,el]
        | _=>cases h1
  have eg:bU [ZA sd,none,none,none]=some (.rt (.m (.lst (iD (fX ks)))) (a :: S)):=by
    unfold bU LJ
    rw[no]
    exact e
  show(bU [ZA sd,none,none,none]).bind _=_
  rw[eg]
  rfl
noncomputable def mW:List D:=[.bl true,.bl false,.str "yes",.str "no",.str "open",.str "True",.str ""]
noncomputable def aw (i:Nat):D:=mW.getD i .bV
noncomputable def tL (d:D):Str:=(toPy d).shown
def NX:∀i j:Fin 7,tL (aw i)=tL (aw j)->i=j:=by decide +kernel
def Hs {d:D}(h:d∈mW):∃i:Fin 7,d=aw i:=by
 obtain⟨i,hi,e⟩:=aaJ h
 refine⟨⟨i,hi⟩,?_⟩
 unfold aw
 rw[ZN,Zz hi,e]
 rfl
def Ht {b:D}(ha:a∈mW) (hb:b∈mW) (h:tL a=tL b):a=b:=by
 obtain⟨i,rfl⟩:=Hs ha
 obtain⟨j,rfl⟩:=Hs hb
 rw[NX i j h]
def Xz (ha:a∈mW):Wd a:=by
 unfold mW at ha
 simp only[ZV,aaG,abM] at ha
 rcases ha with rfl | rfl | rfl | rfl | rfl | rfl | rfl
 ·exact .inl ⟨_,rfl⟩
 ·exact .inl ⟨_,rfl⟩
 all_goals exact .inr ⟨_,rfl⟩
def Hu:∀z∈(["yes","no","open","True",""]:List Str),(z.cps.toList.all fun c=>decide (c < 16 ^ 8))=true/\z.length<=4:=by decide +kernel
def CB (ha:a∈mW):Sane a/\wD a<=42/\iF a=0:=by
 have str:∀z∈(["yes","no","open","True",""]:List Str),Sane (.str z)/\wD (.str z)<=42/\iF (.str z)=0:=fun z hz=>by
  obtain⟨h1,h2⟩:=Hu z hz
  refine⟨fun c hc=>?_,?_,rfl⟩
  ·exact abO (adi.mp h1 c hc)
  ·show 10 * z.length+2<=42;omega
 unfold mW at ha
 simp only[ZV,aaG,abM] at ha
 rcases ha with rfl | rfl | rfl | rfl | rfl | rfl | rfl
 ·exact⟨True.intro,by show 6<=42;omega,rfl⟩
 ·exact⟨True.intro,by show 6<=42;omega,rfl⟩
 all_goals exact str _ (by simp)
def Af {d:D}(h:Dz d):nG [d]=ZA (.str (tL d)):=by show(if Dz d then some (U.t (.str (toPy d).shown)) else none)=_;rw[if_pos h];rfl
def NY {d:D}(h:d∈mW):nG [d]=ZA (.str (tL d)):=by
 obtain⟨a1,a2,a3⟩:=CB h
 exact Af (GP a1 (by omega) (by omega))
noncomputable def fh (aI:FM):GS:=
 (aG (aR 4 (bw [2,0] (cS (aa (dZ 0) ao)) aC (eF (eP gW (aa (aH 1 (eF (aj 0))) (aa (eF (eP bK (aa (eF (bw [1] (bM (aH 2 (eF (aj 0)))) aC (aH 1 (eF (aj 0))))) ao))) ao))))))
 (aR 2 (bq aI (bg (eF (aj 4)) cu))))
noncomputable def dU (aI:FM):GS:=
 (aG (aR 2 (bq aI (bg (eF (bw [] (bM (eF (aj 1))) aC (eF (eP nG (aa (eF (aj 0)) ao))))) cu)))
 (aG (gM (bName 3) (cS (aa (dZ 0) ao)) (fh aI))
 (dH (aj 2))))
noncomputable def Wc (aI:FM):GS:=
 (aR 2 (bq aI (bg (eF (bw [] (bM (eF (aj 1))) aC (eF (eP nG (aa (eF (aj 0)) ao))))) cu)))
noncomputable def We (aI:FM):GS:=
 (gM (bName 3) (cS (aa (dZ 0) ao)) (fh aI))
noncomputable def XA (aI:FM):GS:=
 (dH (aj 2))
def RL (aI:FM):dU aI=aG (Wc aI) (aG (We aI) (XA aI)):=rfl
noncomputable def Wf (aI:FM):GS:=
 (aR 4 (bw [2,0] (cS (aa (dZ 0) ao)) aC (eF (eP gW (aa (aH 1 (eF (aj 0))) (aa (eF (eP bK (aa (eF (bw [1] (bM (aH 2 (eF (aj 0)))) aC (aH 1 (eF (aj 0))))) ao))) ao))))))
noncomputable def Wg (aI:FM):GS:=
 (aR 2 (bq aI (bg (eF (aj 4)) cu)))
def cb_eq (aI:FM):fh aI=aG (Wf aI) (Wg aI):=rfl
noncomputable def Ag:FM:=bY 5 (dU jG)
def NZ:∀us r,Ag us=some r->bY 5 (dU jG) us=some r:=fun _ _ h=>h
noncomputable abbrev TU:GD:=aH 1 (eF (aj 0))
noncomputable abbrev Kz:GD:=(eF (eP gW (aa (aH 1 (eF (aj 0))) (aa (eF (eP bK (aa (eF (bw [1] (bM (aH 2 (eF (aj 0)))) aC (aH 1 (eF (aj 0))))) ao))) ao))))
def KA {v:Int}{x:D}(h:dF jr v=some x):aF [1] aC TU [.int v] [z0,some (.b (.lst jr)),z2] acc=some (acc++[x],[z0,some (.b (.lst jr)),z2]):=by
 simp[aF,aY,cO,h,aB]
noncomputable def fN (ns:List Nat):D->D
 | .int v=>.int (na ns v.toNat:Nat)
 | _=>.bV
def RM {k:Nat}(mo:Sq.gH W N) (hn:ns.length=N.length) (hk:k < N.length):
  aF [1] aC TU ((rw' N k).map D.int) [z0,some (.b (.lst (iD ns))),z2] []=some ((List.range W).map fun c=>D.int (na ns (bC N k c):Nat),[z0,some (.b (.lst (iD ns))),z2]):=by
 have:=comp_map (cap:=[1]) (g:=TU) (S:=[z0,some (.b (.lst (iD ns))),z2]) (fN ns) ((rw' N k).map D.int) [] (fun d hd acc=>by
  obtain⟨v,hv,rfl⟩:=Z6.mp hd
  obtain⟨v0,v1⟩:=(mo.row _ (ZO (rw_get hk))).2 v hv
  refine KA ?_
  obtain⟨m,rfl⟩:∃m:Nat,v=m:=⟨v.toNat,by omega⟩
  rw[iG (by omega)]
  rfl)
 rw[this,Z9,aaq]
 congr 2
 apply aaT
 intro c
 rw[ZF,ZF]
 by_cases q:c < W
 ·rw[(dB mo hk q).1,ZX q]
  rfl
 ·rw[Z0 (by rw[rw_len mo hk];omega),Z0 (by rw[ZK];omega)]
  rfl
def Hv {rk outs:List D}{k nk:Int}(h1:dF jr k=some (.int nk)) (h2:dF dg k=some (.tup rk)) (hl:rk.length<=100000)
  (h3:∀z0 z2,aF [1] aC TU rk [z0,some (.b (.lst jr)),z2] []=some (outs,[z0,some (.b (.lst jr)),z2])):
  aF [2,0] aC Kz [.int k] [ZA (.tup dg),z1,ZC jr,z3,z4] acc=some (acc++[.tup [.int nk,.tup outs]],[ZA (.tup dg),z1,ZC jr,z3,z4]):=by
 simp[aF,aY,cO,h1,h2,cz,bD,hl,h3,aB]
noncomputable def kk (N:AAF) (W:Nat) (ns:List Nat) (k:Nat):D:=.tup [.int (na ns k:Nat),.tup ((List.range W).map fun c=>D.int (na ns (bC N k c):Nat))]
def N3 (mo:Sq.gH W N) (hW:W < 1000) (hn:ns.length=N.length):
  aF [2,0] aC Kz (gT 0 N.length) [ZA (.tup (N.map Sq.aV)),z1,ZC (iD ns),z3,z4] []=some ((List.range N.length).map (kk N W ns),[ZA (.tup (N.map Sq.aV)),z1,ZC (iD ns),z3,z4]):=by
 obtain⟨acc,S',e,rfl,rfl⟩:=uM (cap:=[2,0]) (g:=Kz) (gT 0 N.length)
  (fun j acc S=>acc=(List.range j).map (kk N W ns)/\S=[ZA (.tup (N.map Sq.aV)),z1,ZC (iD ns),z3,z4]) _ ⟨rfl,rfl⟩ (by
  rintro j d acc S hd ⟨rfl,rfl⟩
  obtain⟨hj,rfl⟩:=qu hd
  refine⟨kk N W ns j,_,Hv (iG (by omega)) (Cy hj) (by rw[Zw,rw_len mo hj];omega) (fun z0 z2=>RM mo hn hj),?_,rfl⟩
  rw[abz,aaa]
  rfl)
 rw[e,Sq.i9]
theorem uO:∀l:List Int,ID (l.map D.int)=l.map D.int
 | []=>rfl
 | x :: l=>by show nf (.int x) :: ID (l.map D.int)=_;rw[uO l];rfl
def N4 (N:AAF) (W:Nat) (ns:List Nat) (k:Nat):kY (kk N W ns k)=some (kk N W ns k):=by
 have e:(List.range W).map (fun c=>D.int (na ns (bC N k c):Nat))=((List.range W).map fun c=>((na ns (bC N k c):Nat):Int)).map D.int:=by rw[aaq];rfl
 unfold kk
 rw[e]
 generalize ((List.range W).map fun c=>((na ns (bC N k c):Nat):Int))=l
 generalize ((na ns k:Nat):Int)=a
 have al:(l.map D.int).all (fJ 6)=true:=by
  rw[adi]
  intro x hx
  obtain⟨v,_,rfl⟩:=Z6.mp hx
  rfl
 have k8:fJ 8 (.tup [.int a,.tup (l.map D.int)])=true:=by
  show([D.int a,D.tup (l.map D.int)]).all (fJ 7)=true
  simp only[aa4,List.all_nil,Bool.and_true]
  show(true && (l.map D.int).all (fJ 6))=true
  rw[al]
  rfl
 show(if fJ 8 (.tup [.int a,.tup (l.map D.int)])=true then some (nf (.tup [.int a,.tup (l.map D.int)])) else none)=_
 rw[if_pos k8]
 show some (D.tup [.int a,.tup (ID (l.map D.int))])=_
 rw[uO]
def RO {s t:Nat}:kk N W ns s=kk N W ns t↔na ns s=na ns t/\∀c,c < W->na ns (bC N s c)=na ns (bC N t c):=by
 unfold kk
 constructor
 ·intro h
  injection h with h
  injection h with h1 h2
  injection h1 with h1
  injection h2 with h2 _
  injection h2 with h2
  refine⟨ac2.mp h1,fun c hc=>?_⟩
  have:=congrArg (fun l=>l[c]?) h2
  simp only[ZF,ZX hc,acK] at this
  injection this with this
  injection this with this
  exact ac2.mp this
 ·rintro⟨h1,h2⟩
  rw[h1]
  congr 3
  congr 1
  exact aax fun c hc=>by rw[h2 c (ZS.mp hc)]
noncomputable def next (N:AAF) (W:Nat) (ns:List Nat):List Nat:=fX ((List.range N.length).map (kk N W ns))
def next_eq {s t:Nat}(hs:s < N.length) (ht:t < N.length):na (next N W ns) s=na (next N W ns) t↔na ns s=na ns t/\∀c,c < W->na ns (bC N s c)=na ns (bC N t c):=by
 have get:∀i,i < N.length->((List.range N.length).map (kk N W ns))[i]? =some (kk N W ns i):=fun i hi=>by
  rw[ZF,ZX hi];rfl
 unfold next
 rw[ou (get s hs) (get t ht),RO]
def Hw (mo:Sq.gH W N):jG [.t (.lst ((List.range N.length).map (kk N W ns)))]=some (.m (.lst (iD (next N W ns))),[]):=by
 have few:=mo.few
 have pos:=mo.pos
 refine Ky (.inr rfl) ?_ ?_ ?_
 ·intro h
  have:=congrArg List.length h
  rw[Zw,ZK,abf] at this
  omega
 ·rw[aaq,aaq]
  exact aax fun k _=>N4 N W ns k
 ·rw[Zw,ZK];omega
def yh {z:List (Option U)}(hl:dg.length < 1000):cS (aa (dZ 0) ao) (ZA (.tup dg) :: z)=some (gT 0 dg.length,ZA (.tup dg) :: z):=by
 have e:(aa (dZ 0) ao) (ZA (.tup dg) :: z)=some ([.int (dg.length:Nat)],ZA (.tup dg) :: z):=by simp
 have hb:dg.length < 1000000:=by omega
 rw[Sq.lI e (adh.mpr hb) (Sq.xZ _),aaB]
section
variable {f:FM}{dg jr firsts sD:List D}{z1 x3 x4:Option U}
def KC (h4:dM x4=false) (hl:dg.length < 1000) (e1:∀y3 y4,aF [2,0] aC Kz (gT 0 dg.length) [ZA (.tup dg),z1,ZC jr,y3,y4] []=some (firsts,[ZA (.tup dg),z1,ZC jr,y3,y4])) (e2:f [.t (.lst firsts)]=some (.m (.lst sD),[])):
  fh f [ZA (.tup dg),z1,ZC jr,x3,x4]=some (.nx [ZA (.tup dg),z1,ZC sD,x3,ZA (.lst firsts)]):=by
 have g:=fun z=>yh (z:=z) hl
 have hz:(gT 0 dg.length).length<=100000:=by rw[Sq.i9];omega
 rw[cb_eq]
 have s0:Wf f [ZA (.tup dg),z1,ZC jr,x3,x4]=some (.nx [ZA (.tup dg),z1,ZC jr,x3,ZC firsts]):=by
  simp[-cD,-tF,bL,Wf,bD,g,hz,e1,h4]
 have s1:Wg f [ZA (.tup dg),z1,ZC jr,x3,ZC firsts]=some (.nx [ZA (.tup dg),z1,ZC sD,x3,ZA (.lst firsts)]):=by
  simp[Wg,e2]
 rw[Sq.aO s0,s1]
end
def RP    (mo : Sq.gH W N) (hW : W < 1000) (hM : M.length = N.length) (hw : ∀ x ∈ M, x ∈ mW) :
    ∃ns c,Ag [.t (nD N),.t (.tup M)]=some (.m (.lst (iD ns)),[])/\ns.length=N.length/\vB ns c/\∀s t,s < N.length->t < N.length->(na ns s=na ns t↔D9 (bC N) (aW M) W N.length s t):=by
  have few:=mo.few
  have hr:(N.map Sq.aV).length < 1000:=by rw[Zw];omega
  have ec:=comp_map (cap:=[]) (g:=eF (eP nG (aa (eF (aj 0)) ao))) (S:=[ZA (nD N),ZA (.tup M),none,none,none]) (fun d=>.str (tL d)) M [] (fun d hd acc=>by
    have:=NY (hw d hd)
    simp[aF,aY,this,aB])
  rw[Z9] at ec
  have e1:=Kw (sd:=.lst (M.map fun d=>.str (tL d))) (ds:=M.map fun d=>.str (tL d)) (ks:=M.map fun d=>Sum.inr (tL d)) (.inr rfl) (by rw[aaq,aaq];rfl) (by rw[Zw];omega)
  have Wb:M.length<=100000:=by omega
  have s0:Wc jG [ZA (nD N),ZA (.tup M),none,none,none]=some (.nx [ZA (nD N),ZA (.tup M),ZC (iD (fX (M.map fun d=>(Sum.inr (tL d):Key)))),none,none]):=by
    generalize jG=f at e1
    generalize nD N=nd at ec
    simp[Wc,cz,bD,Wb,ec,e1]
  obtain⟨S',e,ns,c,x3,x4,h3,h4,hl,hc,heq,rfl⟩:=jk (bd:=bName 3) (body:=fh jG) (gT 0 N.length)
    (fun j S=>∃ns c x3 x4,dM x3=false/\dM x4=false/\ns.length=N.length/\vB ns c/\(∀s t,s < N.length->t < N.length->(na ns s=na ns t↔D9 (bC N) (aW M) W j s t))/\S=[ZA (nD N),ZA (.tup M),ZC (iD ns),x3,x4])
    [ZA (nD N),ZA (.tup M),ZC (iD (fX (M.map fun d=>(Sum.inr (tL d):Key)))),none,none]
    ⟨_, _, none, none, rfl, rfl, by rw [j9, Zw, hM], kg _, fun s t hs ht => by
      have get:∀i,i < N.length->(M.map fun d=>(Sum.inr (tL d):Key))[i]? =some (Sum.inr (tL (aW M i))):=fun i hi=>by
        rw[ZF,jo (by omega)];rfl
      rw[ou (get s hs) (get t ht)]
      constructor
      . intro h
        injection h with h
        exact Ht (hw _ (jq (by omega))) (hw _ (jq (by omega))) h
      . intro h
        rw[show aW M s=aW M t from h],rfl⟩ (by
    rintro j d S hd ⟨ns,c,x3,x4,h3,h4,hl,hc,heq,rfl⟩
    obtain⟨hj,rfl⟩:=qu hd
    refine⟨[ZA (nD N),ZA (.tup M),ZC (iD ns),ZD j,x4],_,?_,KC (f:=jG) h4 hr (fun y3 y4=>by rw[Zw];exact N3 mo hW hl) (Hw mo),next N W ns,_,ZD j,_,rfl,rfl,by unfold next;rw[j9,Zw,ZK],kg _,fun s t hs ht=>?_,rfl⟩
    . generalize (j:Int)=jj
      simp[-cD,bL,h3]
    . rw[next_eq hs ht,heq s t hs ht]
      constructor
      . rintro⟨a,b⟩
        exact⟨a,fun c hc=>(heq _ _ (dB mo hs hc).2 (dB mo ht hc).2).mp (b c hc)⟩
      . rintro⟨a,b⟩
        exact⟨a,fun c hc=>(heq _ _ (dB mo hs hc).2 (dB mo ht hc).2).mpr (b c hc)⟩)
  rw[Sq.i9] at heq
  refine⟨ns,c,?_,hl,hc,heq⟩
  have g:=yh (z:=[ZA (.tup M),ZC (iD (fX (M.map fun d=>(Sum.inr (tL d):Key)))),none,none]) hr
  rw[Zw] at g
  have s1:We jG [ZA (nD N),ZA (.tup M),ZC (iD (fX (M.map fun d=>(Sum.inr (tL d):Key)))),none,none]=some (.nx [ZA (nD N),ZA (.tup M),ZC (iD ns),x3,x4]):=by
    unfold We
    rw[pH,show cS (aa (dZ 0) ao) [ZA (nD N),ZA (.tup M),ZC (iD (fX (M.map fun d=>(Sum.inr (tL d):Key)))),none,none]=some (gT 0 N.length,[ZA (nD N),ZA (.tup M),ZC (iD (fX (M.map fun d=>(Sum.inr (tL d):Key)))),none,none]) from g]
    exact e
  have all:∃a b S,dU jG [ZA (nD N),ZA (.tup M),none,none,none]=some (.rt (.m (.lst (iD ns))) (a :: b :: S)):=by
    rw[RL,Sq.aO s0,Sq.aO s1]
    generalize iD ns=l
    exact⟨_,_,_,by simp[XA];exact⟨rfl,rfl,rfl⟩⟩
  obtain⟨a,b,S,all⟩:=all
  show(dU jG [ZA (nD N),ZA (.tup M),none,none,none]).bind _=_
  rw[all]
  rfl
def rC {g:GS}{us:List U}{d:D}{S:SS}(h:g (us.map some++List.replicate (n - us.length) none)=some (.rt (.t d) S)) (ho:aB us S=some []):bY n g us=some (.t d,[]):=by
 unfold bY
 rw[h]
 simp only[ZE,ho,acK]
noncomputable def wl (N:AAF) (M:List D) (Rs:List (List Nat)) (s:Nat):List D:=Rs.map fun cs=>aW M (led (bC N) cs s)
section
variable {T:AAG}{N:AAF}{M:List D}{Rs:List (List Nat)}
end
end Sl
end
section
namespace Sk
open PySem PySem.Spec PyProof.Rows L2 Sl
variable {i k:Nat}
theorem eB (nx:AAE):∀(cs ds:List Nat) (s:Nat),led nx (cs++ds) s=led nx ds (led nx cs s)
 | [],_,_=>rfl
 | c :: cs,ds,s=>eB nx cs ds (nx s c)
def Vd (W:Nat) (cs:List Nat):Prop:=∀c∈cs,c < W
def mj {W:Nat}{cs ds:List Nat}(a:Vd W cs) (b:Vd W ds):Vd W (cs++ds):=fun c hc=>(Z2.mp hc).elim (a c) (b c)
def nK {W c:Nat}(h:c < W):Vd W [c]:=fun d hd=>by rw[ZG.mp hd];exact h
def Er (s' c' s c:Nat):Prop:=s' < s\/(s'=s/\c' < c)
structure Canon (W n:Nat) (nx:AAE) (wd:Nat->D):Prop where
 pos:0 < n
 lt:∀s c,s < n->c < W->nx s c < n
 ord:∀j,0 < j->j < n->∃s c,s < j/\c < W/\nx s c=j/\∀s' c',c' < W->Er s' c' s c->nx s' c' < j
 apart:∀s t,s < n->t < n->s≠t->∃cs,Vd W cs/\wd (led nx cs s)≠wd (led nx cs t)
theorem Canon.Bx {W n:Nat}{nx:AAE}{wd:Nat->D}(A:Canon W n nx wd):∀{cs:List Nat}{s:Nat},Vd W cs->s < n->led nx cs s < n
 | [],s,_,hs=>hs
 | c :: cs,s,h,hs=>Canon.Bx A (cs:=cs) (s:=nx s c) (fun d hd=>h d (ZI _ hd)) (A.lt s c hs (h c ZJ))
section
variable {W n n':Nat}{nx nx':AAE}{wd m6:Nat->D}
def Acc (W:Nat) (nx nx':AAE) (v:Nat):Prop:=∃cs,Vd W cs/\led nx cs 0=v/\led nx' cs 0=v
def Ah (A':Canon W n' nx' m6) (h:∀cs,Vd W cs->wd (led nx cs 0)=m6 (led nx' cs 0)){rs ra:List Nat}(h1:Vd W rs) (h2:Vd W ra) (e:led nx rs 0=led nx ra 0):led nx' rs 0=led nx' ra 0:=by
 apply Z1
 intro ne
 obtain⟨ds,hd,q⟩:=A'.apart _ _ (A'.Bx h1 A'.pos) (A'.Bx h2 A'.pos) ne
 refine q ?_
 rw[<-eB,<-eB,<-h _ (mj h1 hd),<-h _ (mj h2 hd),eB,eB,e]
def Hx (A : Canon W n nx wd) (A' : Canon W n' nx' m6) (h : ∀ cs, Vd W cs -> wd (led nx cs 0) = m6 (led nx' cs 0)) {s : Nat} (hs : s < n) (hs' : s < n') (as : Acc W nx nx' s) (ih : ∀ s', s' < s -> Acc W nx nx' s' /\ ∀ c, c < W -> nx s' c = nx' s' c) : ∀ c, c < W -> nx s c = nx' s c := by
  intro c
  induction c using Nat.strongRecOn with
  | _ c Y6 =>
    intro hc
    have er:∀s' c',c' < W->Er s' c' s c->Acc W nx nx' s'/\nx s' c'=nx' s' c':=fun s' c' hc' e=>by
      rcases e with e | ⟨rfl,e⟩
      . exact⟨(ih s' e).1,(ih s' e).2 c' hc'⟩
      . exact⟨as,Y6 c' e hc'⟩
    have CC:∀s' c',c' < W->Er s' c' s c->Acc W nx nx' (nx s' c'):=fun s' c' hc' e=>by
      obtain⟨⟨cs,v,e1,e2⟩,eq⟩:=er s' c' hc' e
      refine⟨cs++[c'],mj v (nK hc'),?_,?_⟩
      . rw[eB,e1];rfl
      . rw[eB,e2,eq];rfl
    have zero:Acc W nx nx' 0:=⟨[],fun c hc=>(by cases hc),rfl,rfl⟩
    obtain⟨rs,XC,r1,r2⟩:=as
    have ra:led nx (rs++[c]) 0=nx s c:=by rw[eB,r1];rfl
    have rb:led nx' (rs++[c]) 0=nx' s c:=by rw[eB,r2];rfl
    have LQ:Acc W nx nx' (nx s c)->nx s c=nx' s c:=fun⟨cs,v,e1,e2⟩=>by
      have:=Ah A' h (mj XC (nK hc)) v (by rw[ra,e1])
      rw[rb,e2] at this
      exact this.symm
    have LR:Acc W nx nx' (nx' s c)->nx s c=nx' s c:=fun⟨cs,v,e1,e2⟩=>by
      have:=Ah A (fun cs v=>(h cs v).symm) (mj XC (nK hc)) v (by rw[rb,e2])
      rw[ra,e1] at this
      exact this
    apply Z1
    intro ne
    have a0:nx s c≠0:=fun z=>ne (LQ (by rw[z];exact zero))
    have b0:nx' s c≠0:=fun z=>ne (LR (by rw[z];exact zero))
    have XD:∀s2 c2,Er s2 c2 s c\/(s2=s/\c2=c)\/Er s c s2 c2:=fun s2 c2=>by unfold Er;omega
    rcases Nat.lt_or_gt_of_ne ne with lt | lt
    . obtain⟨s2,c2,_,hc2,e2,q⟩:=A'.ord (nx s c) (by omega) (abg lt (A'.lt s c hs' hc))
      rcases XD s2 c2 with t | ⟨rfl,rfl⟩ | t
      . refine ne (LQ ?_)
        rw[<-e2,<-(er s2 c2 hc2 t).2]
        exact CC s2 c2 hc2 t
      . exact ne e2.symm
      . have:=q s c hc t;omega
    . obtain⟨s2,c2,_,hc2,e2,q⟩:=A.ord (nx' s c) (by omega) (abg lt (A.lt s c hs hc))
      rcases XD s2 c2 with t | ⟨rfl,rfl⟩ | t
      . refine ne (LR ?_)
        rw[<-e2]
        exact CC s2 c2 hc2 t
      . exact ne e2
      . have:=q s c hc t;omega
def Ai (A : Canon W n nx wd) (A' : Canon W n' nx' m6) (h : ∀ cs, Vd W cs -> wd (led nx cs 0) = m6 (led nx' cs 0)) : ∀ s, s < n -> s < n' -> Acc W nx nx' s /\ ∀ c, c < W -> nx s c = nx' s c := by
  intro s
  induction s using Nat.strongRecOn with
  | _ s ih =>
    intro hs hs'
    have ih':∀s',s' < s->Acc W nx nx' s'/\∀c,c < W->nx s' c=nx' s' c:=fun s' l=>ih s' l (by omega) (by omega)
    have as:Acc W nx nx' s:=by
      by_cases z:s=0
      . subst z;exact⟨[],fun c hc=>(by cases hc),rfl,rfl⟩
      . obtain⟨s1,c1,l1,hc1,e1,_⟩:=A.ord s (by omega) hs
        obtain⟨⟨cs,v,a1,a2⟩,q⟩:=ih' s1 l1
        refine⟨cs++[c1],mj v (nK hc1),?_,?_⟩
        . rw[eB,a1];exact e1
        . rw[eB,a2];show nx' s1 c1=s;rw[<-q c1 hc1,e1]
    exact⟨as,Hx A A' h hs hs' as ih'⟩
def CD (A:Canon W n nx wd) (A':Canon W n' nx' m6) (h:∀cs,Vd W cs->wd (led nx cs 0)=m6 (led nx' cs 0)):¬n < n':=fun lt=>by
 obtain⟨s,c,l,hc,e,_⟩:=A'.ord n A.pos lt
 have:=(Ai A A' h s l (by omega)).2 c hc
 have:=A.lt s c l hc
 omega
def canon_one (A:Canon W n nx wd) (A':Canon W n' nx' m6) (h:∀cs,Vd W cs->wd (led nx cs 0)=m6 (led nx' cs 0)):n=n'/\∀s,s < n->wd s=m6 s/\∀c,c < W->nx s c=nx' s c:=by
 have a:=CD A A' h
 have b:=CD A' A fun cs v=>(h cs v).symm
 have e:n=n':=by omega
 refine⟨e,fun s hs=>?_⟩
 obtain⟨⟨cs,v,e1,e2⟩,q⟩:=Ai A A' h s hs (by omega)
 refine⟨?_,q⟩
 have:=h cs v
 rw[e1,e2] at this
 exact this
end
section
variable {κ:Type} [DecidableEq κ]
structure Bf (nx:AAE) (ky:Nat->κ) (W:Nat) (L:List Nat) (a col:Nat):Prop where
 zero:L[0]? =some 0
 nd:(L.map ky).Nodup
 ord:∀j v,0 < j->L[j]? =some v->∃s c u,s < j/\c < W/\L[s]? =some u/\nx u c=v/\∀s' c' u',c' < W->Er s' c' s c->L[s']? =some u'->∃i,i < j/\(L.map ky)[i]? =some (ky (nx u' c'))
 seen:∀s c u,c < W->Er s c a col->L[s]? =some u->ky (nx u c)∈L.map ky
variable {nx:AAE}{ky:Nat->κ}{W:Nat}{L:List Nat}{a col:Nat}
def CF:Bf nx ky W [0] 0 0 where
 zero:=rfl
 nd:=by simp
 ord:=fun j v h0 h=>by
  cases j with
  | zero=>omega
  | succ j=>cases h
 seen:=fun s c u _ e=>by unfold Er at e;omega
def Bf.skip (h:Bf nx ky W L a col){u:Nat}(hu:L[a]? =some u) (m:ky (nx u col)∈L.map ky):Bf nx ky W L a (col+1) where
 zero:=h.zero
 nd:=h.nd
 ord:=h.ord
 seen:=fun s c v hc e hv=>by
  by_cases q:Er s c a col
  ·exact h.seen s c v hc q hv
  ·have:s=a/\c=col:=by unfold Er at e q;omega
   obtain⟨rfl,rfl⟩:=this
   rw[hu] at hv
   cases hv
   exact m
def Bf.add (h:Bf nx ky W L a col){u:Nat}(hu:L[a]? =some u) (hc:col < W) (m:ky (nx u col)∉L.map ky):Bf nx ky W (L++[nx u col]) a (col+1):=by
 have hl:=(Zy.mp hu).1
 have old:∀{s v},s < L.length->((L++[nx u col])[s]? =some v↔L[s]? =some v):=fun {s v} l=>by rw[Z7 l]
 refine⟨?_,?_,fun j v h0 hj=>?_,fun s c v hc' e hv=>?_⟩
 ·exact(old (Zy.mp h.zero).1).mpr h.zero
 ·rw[aaa,abl]
  exact⟨h.nd,by simp,fun x hx y hy e=>m (by rw[List.map_singleton,ZG] at hy;rw[<-hy,<-e];exact hx)⟩
 ·by_cases l:j < L.length
  ·obtain⟨s,c,w,b1,b2,b3,b4,b5⟩:=h.ord j v h0 ((old l).mp hj)
   refine⟨s,c,w,b1,b2,(old (by omega)).mpr b3,b4,fun s' c' u' q1 q2 q3=>?_⟩
   have ls:s' < L.length:=by unfold Er at q2;omega
   obtain⟨i,i1,i2⟩:=b5 s' c' u' q1 q2 ((old ls).mp q3)
   refine⟨i,i1,?_⟩
   rw[aaa,Z7 (by rw[Zw];omega)]
   exact i2
  ·rw[ab4 (by omega)] at hj
   have jl:=(Zy.mp hj).1
   have jl:j - L.length < 1:=jl
   have:j=L.length:=by omega
   subst this
   rw[adk] at hj
   cases hj
   refine⟨a,col,u,hl,hc,(old hl).mpr hu,rfl,fun s' c' u' q1 q2 q3=>?_⟩
   have ls:s' < L.length:=by unfold Er at q2;omega
   obtain⟨i,i1⟩:=abD (h.seen s' c' u' q1 q2 ((old ls).mp q3))
   have il:=(Zy.mp i1).1
   rw[Zw] at il
   exact⟨i,il,by rw[aaa,Z7 (by rw[Zw];exact il)];exact i1⟩
 ·have ls:s < L.length:=by unfold Er at e;omega
  rw[aaa]
  by_cases q:Er s c a col
  ·exact aac _ (h.seen s c v hc' q ((old ls).mp hv))
  ·have:s=a/\c=col:=by unfold Er at e q;omega
   obtain⟨rfl,rfl⟩:=this
   have:=(old ls).mp hv
   rw[hu] at this
   cases this
   exact ZR _ (by simp)
def Bf.row (h:Bf nx ky W L a W):Bf nx ky W L (a+1) 0 where
 zero:=h.zero
 nd:=h.nd
 ord:=h.ord
 seen:=fun s c u hc e hu=>h.seen s c u hc (by unfold Er at e ⊢;omega) hu
def Bf.none (h:Bf nx ky W L a 0) (hl:L.length<=a):Bf nx ky W L (a+1) 0 where
 zero:=h.zero
 nd:=h.nd
 ord:=h.ord
 seen:=fun s c u hc e hu=>h.seen s c u hc (by have:=(Zy.mp hu).1;unfold Er;omega) hu
noncomputable def ix (ky:Nat->κ) (L:List Nat) (v:Nat):Nat:=(L.map ky).idxOf (ky v)
noncomputable def ow (nx:AAE) (ky:Nat->κ) (L:List Nat) (s c:Nat):Nat:=ix ky L (nx (na L s) c)
def LS {v:Nat}(h:ky v∈L.map ky):ix ky L v < L.length:=by
 have:=aau h
 rwa [Zw] at this
def RQ {v:Nat}(h:ky v∈L.map ky):ky (na L (ix ky L v))=ky v:=by
 have l:=LS h
 have e:(L.map ky)[ix ky L v]? =some (ky v):=by
  rw[Zz (by rw[Zw];exact l)]
  congr 1
  exact abt (by rw[Zw];exact l)
 rw[ZF,bO l] at e
 exact ZU e
def CG (nd:(L.map ky).Nodup){v:Nat}(h:(L.map ky)[i]? =some (ky v)):ix ky L v=i:=by
 obtain⟨hl,e⟩:=Zy.mp h
 unfold ix
 rw[<-e]
 exact nd.idxOf_getElem i hl
structure N5 (nx:AAE) (wd:Nat->D) (ky:Nat->κ) (W:Nat) (P:Nat->Prop):Prop where
 zero:P 0
 cl:∀s c,P s->c < W->P (nx s c)
 eq:∀s t c,P s->P t->c < W->ky s=ky t->ky (nx s c)=ky (nx t c)
 word:∀s t,P s->P t->ky s=ky t->wd s=wd t
 ne:∀s t,P s->P t->ky s≠ky t->∃cs,Vd W cs/\wd (led nx cs s)≠wd (led nx cs t)
def canon_of {wd:Nat->D}{P:Nat->Prop}(C:N5 nx wd ky W P) (h:Bf nx ky W L a 0) (hl:L.length<=a) (hP:∀v∈L,P v):Canon W L.length (ow nx ky L) (fun s=>wd (na L s))/\∀cs,Vd W cs->wd (na L (led (ow nx ky L) cs 0))=wd (led nx cs 0):=by
 have l0:0 < L.length:=(Zy.mp h.zero).1
 have n0:na L 0=0:=by have:=bO l0;rw[h.zero] at this;exact(ZU this).symm
 have mem:∀s c,s < L.length->c < W->ky (nx (na L s) c)∈L.map ky:=fun s c hs hc=>h.seen s c _ hc (by unfold Er;omega) (bO hs)
 have pn:∀s,s < L.length->P (na L s):=fun s hs=>hP _ (cB hs)
 have lt:∀s c,s < L.length->c < W->ow nx ky L s c < L.length:=fun s c hs hc=>LS (mem s c hs hc)
 have way:∀(cs:List Nat) (s v:Nat),Vd W cs->s < L.length->P v->ky (na L s)=ky v->led (ow nx ky L) cs s < L.length/\ky (na L (led (ow nx ky L) cs s))=ky (led nx cs v)/\P (led nx cs v):=by
  intro cs
  induction cs with
  | nil=>intro s v _ hs hv e;exact⟨hs,e,hv⟩
  | cons c cs ih=>
   intro s v hc hs hv e
   have hcc:=hc c ZJ
   refine ih (ow nx ky L s c) (nx v c) (fun d hd=>hc d (ZI _ hd)) (lt s c hs hcc) (C.cl v c hv hcc) ?_
   unfold ow
   rw[RQ (mem s c hs hcc)]
   exact C.eq _ _ c (pn s hs) hv hcc e
 refine⟨⟨l0,lt,fun j j0 hj=>?_,fun s t hs ht ne=>?_⟩,fun cs hc=>?_⟩
 ·obtain⟨s,c,u,b1,b2,b3,b4,b5⟩:=h.ord j _ j0 (bO hj)
  have us:na L s=u:=by have:=bO (ns:=L) (i:=s) (by omega);rw[b3] at this;exact(ZU this).symm
  refine⟨s,c,b1,b2,?_,fun s' c' q1 q2=>?_⟩
  ·unfold ow
   rw[us,b4]
   exact CG h.nd (by rw[ZF,bO hj];rfl)
  ·have ls:s' < L.length:=by unfold Er at q2;omega
   obtain⟨i,i1,i2⟩:=b5 s' c' _ q1 q2 (bO ls)
   unfold ow
   rw[CG h.nd i2]
   exact i1
 ·have Y7:ky (na L s)≠ky (na L t):=fun e=>ne (by
   have a1:=CG h.nd (v:=na L s) (i:=s) (by rw[ZF,bO hs];rfl)
   have a2:=CG h.nd (v:=na L t) (i:=t) (by rw[ZF,bO ht];rfl)
   rw[<-a1,<-a2]
   unfold ix
   rw[e])
  obtain⟨cs,vc,q⟩:=C.ne _ _ (pn s hs) (pn t ht) Y7
  refine⟨cs,vc,fun e=>q ?_⟩
  obtain⟨w1,w2,w3⟩:=way cs s _ vc hs (pn s hs) rfl
  obtain⟨v1,v2,v3⟩:=way cs t _ vc ht (pn t ht) rfl
  rw[<-C.word _ _ (pn _ w1) w3 w2,<-C.word _ _ (pn _ v1) v3 v2]
  exact e
 ·obtain⟨w1,w2,w3⟩:=way cs 0 0 hc l0 C.zero (by rw[n0])
  exact C.word _ _ (pn _ w1) w3 w2
end
def Fo (ns:List Nat):Prop:=∀i,i < ns.length->∀k,k < na ns i->∃i',i' < i/\na ns i'=k
theorem CH {κ:Type} [DecidableEq κ]:∀(l m acc:List κ),lN acc (l++m)=lN (lN acc l) m
 | [],m,acc=>rfl
 | x :: l,m,acc=>CH l m _
def CI {κ:Type} [DecidableEq κ] (ks:List κ):Fo (fX ks):=fun i hi k hk=>by
 rw[j9] at hi
 have ei:ks[i]? =some ks[i]:=Zz hi
 rw[tH ei] at hk
 have es:ks=ks.take i++ks[i] :: ks.drop (i+1):=by rw[<-aai hi,List.take_append_drop]
 have ed:lN [] ks=lN (if ks[i]∈lN [] (ks.take i) then lN [] (ks.take i) else lN [] (ks.take i)++[ks[i]]) (ks.drop (i+1)):=by
  conv=>lhs;rw[es]
  rw[CH]
  rfl
 generalize hx:ks[i]=x at *
 generalize hacc:lN [] (ks.take i)=acc at *
 obtain⟨r,er⟩:=ya (ks.drop (i+1)) (if x∈acc then acc else acc++[x])
 rw[er] at ed
 have kl:k < acc.length/\(lN [] ks)[k]? =acc[k]?:=by
  by_cases m:x∈acc
  ·rw[if_pos m] at ed
   rw[ed,ac6,if_pos m] at hk
   have:=aau m
   exact⟨by omega,by rw[ed,Z7 (by omega)]⟩
  ·rw[if_neg m] at ed
   rw[ed,aar,ac6,if_neg m] at hk
   have z:([x]++r).idxOf x=0:=by show(x :: r).idxOf x=0;simp
   rw[z] at hk
   exact⟨by omega,by rw[ed,aar,Z7 (by omega)]⟩
 obtain⟨hk',e⟩:=kl
 rw[Zz hk'] at e
 have m:acc[k]∈ks.take i:=by
  have mm:∀y,y∈acc->y∈lN [] (ks.take i):=fun y hy=>by rw[hacc];exact hy
  rcases l9.mp (mm _ (abp hk')) with z | z
  ·cases z
  ·exact z
 obtain⟨i',hi',e'⟩:=aaJ m
 rw[abX] at hi'
 rw[List.getElem_take] at e'
 refine⟨i',by omega,?_⟩
 rw[tH (k:=acc[k]) (by rw[Zz (by omega),e'])]
 obtain⟨hl,e2⟩:=Zy.mp e
 rw[<-e2]
 exact(Bw aa0).idxOf_getElem k hl
section
variable {ns:List Nat}{c:Nat}
def kh (h:vB ns c) (hk:k < c):ns.idxOf k < ns.length/\na ns (ns.idxOf k)=k:=by
 have l:=aau (h.on k hk)
 refine⟨l,?_⟩
 have a:=bO l
 rw[Zz l,abt l] at a
 exact(ZU a).symm
def Hy (hi:i < ns.length):ns.idxOf (na ns i)<=i:=by
 apply Z1
 intro h
 have:=List.not_of_lt_findIdx (p:=fun x=>x == na ns i) (xs:=ns) (i:=i) (by show i < ns.idxOf (na ns i);omega)
 have e:=bO hi
 rw[Zz hi] at e
 rw[ZU e] at this
 simp at this
def oz (hi:i < ns.length) (h:na ns i=k):ns.idxOf k<=i:=by rw[<-h];exact Hy hi
def Hz (h:na ns 0=0) (h0:0 < ns.length):ns.idxOf 0=0:=by have:=oz h0 h;omega
def KD (f:Fo ns) (h0:0 < ns.length):na ns 0=0:=by
 apply Z1
 intro h
 obtain⟨i',l,_⟩:=f 0 h0 0 (by omega)
 omega
def HA (f:Fo ns)(hi:i < ns.length) (h:i < ns.idxOf k):na ns i < k:=by
 apply Z1
 intro q
 by_cases e:na ns i=k
 ·have:=oz hi e;omega
 ·obtain⟨i',l,e'⟩:=f i hi k (by omega)
  have:=oz (ns:=ns) (i:=i') (by omega) e'
  omega
end
def uP {c:Nat}(h:i < c){f:Nat->Nat}:na ((List.range c).map f) i=f i:=by
 unfold na
 rw[ZN,ZF,ZX h]
 rfl
section
variable {nx:AAE}{W:Nat}{L ns:List Nat}{c a:Nat}
noncomputable def rep (L ns:List Nat) (c:Nat):List Nat:=(List.range c).map fun k=>na L (ns.idxOf k)
noncomputable def rD (L ns:List Nat) (v:Nat):Nat:=na ns (L.idxOf v)
def N6 (nd:L.Nodup)(h:i < L.length):L.idxOf (na L i)=i:=by
 have e:=bO h
 rw[Zz h] at e
 have:=nd.idxOf_getElem i h
 rw[ZU e] at this
 exact this
def k6 {v:Nat}(h:v∈L):L.idxOf v < L.length/\na L (L.idxOf v)=v:=by
 have l:=aau h
 refine⟨l,?_⟩
 have a:=bO l
 rw[Zz l,abt l] at a
 exact(ZU a).symm
def HB (nd:L.Nodup) (hl:ns.length=L.length) (h:vB ns c)(hk:k < c):rD L ns (na L (ns.idxOf k))=k:=by
 obtain⟨l,e⟩:=kh h hk
 unfold rD
 rw[N6 nd (by omega),e]
def CJ (nd:L.Nodup) (hl:ns.length=L.length) (h:vB ns c):(rep L ns c).map (rD L ns)=List.range c:=by
 unfold rep
 rw[aaq]
 conv=>rhs;rw[<-List.map_id (List.range c)]
 exact aax fun k hk=>HB nd hl h (ZS.mp hk)
def N7 (hB:Bf nx (fun v=>v) W L a 0) (ha:L.length<=a) (hl:ns.length=L.length) (h:vB ns c) (f:Fo ns) (st:∀s t col,s < L.length->t < L.length->col < W->na ns s=na ns t->rD L ns (nx (na L s) col)=rD L ns (nx (na L t) col)):
  Bf nx (rD L ns) W (rep L ns c) (rep L ns c).length 0:=by
 have nd:L.Nodup:=by have:=hB.nd;rwa [aa3] at this
 have l0:0 < L.length:=(Zy.mp hB.zero).1
 have n0:=KD f (by omega)
 have c0:0 < c:=by have:=h.lt _ (cB (ns:=ns) (i:=0) (by omega));omega
 have rl:(rep L ns c).length=c:=by unfold rep;rw[Zw,ZK]
 have rm:=CJ nd hl h
 have rat:∀{k u},(rep L ns c)[k]? =some u->k < c/\u=na L (ns.idxOf k):=fun {k u} e=>by
  have l:=(Zy.mp e).1
  rw[rl] at l
  refine⟨l,?_⟩
  unfold rep at e
  rw[ZF,ZX l] at e
  exact(ZU e).symm
 have RS:∀{k},k < c->(rep L ns c)[k]? =some (na L (ns.idxOf k)):=fun {k} l=>by
  unfold rep
  rw[ZF,ZX l]
  rfl
 have lv:∀{i v},L[i]? =some v->i < L.length/\na L i=v:=fun {i v} e=>by
  have l:=(Zy.mp e).1
  have:=bO l
  rw[e] at this
  exact⟨l,(ZU this).symm⟩
 have mem:∀s col,s < L.length->col < W->nx (na L s) col∈L:=fun s col hs hc=>by
  have:=hB.seen s col _ hc (by unfold Er;omega) (bO hs)
  rwa [aa3] at this
 refine⟨?_,by rw[rm];exact ab2,fun j v j0 hv=>?_,fun s col u hc e hu=>?_⟩
 ·rw[RS c0,Hz n0 (by omega)]
  have:=bO l0
  rw[hB.zero] at this
  rw[<-ZU this]
 ·obtain⟨jc,rfl⟩:=rat hv
  obtain⟨pl,pe⟩:=kh h jc
  have p0:0 < ns.idxOf j:=by
   apply Z1
   intro z
   have:ns.idxOf j=0:=by omega
   rw[this] at pe
   omega
  obtain⟨s0,c0,u0,b1,b2,b3,b4,b5⟩:=hB.ord (ns.idxOf j) _ p0 (bO (by omega))
  obtain⟨ls,es⟩:=lv b3
  have early:∀s' c',s' < L.length->c' < W->Er s' c' s0 c0->rD L ns (nx (na L s') c') < j:=fun s' c' q1 q2 q3=>by
   obtain⟨i,i1,i2⟩:=b5 s' c' _ q2 q3 (bO q1)
   rw[aa3] at i2
   obtain⟨il,ie⟩:=lv i2
   unfold rD
   rw[<-ie,N6 nd il]
   exact HA f (by omega) i1
  have gc:na ns s0 < c:=h.lt _ (cB (by omega))
  have Zr:ns.idxOf (na ns s0)<=s0:=Hy (by omega)
  obtain⟨Zs,Y8⟩:=kh h gc
  have req:ns.idxOf (na ns s0)=s0:=by
   apply Z1
   intro ne
   have q:=early (ns.idxOf (na ns s0)) c0 (by omega) b2 (.inl (by omega))
   rw[st _ s0 c0 (by omega) ls b2 Y8,es,b4,HB nd hl h jc] at q
   omega
  refine⟨na ns s0,c0,u0,HA f (by omega) b1,b2,?_,b4,fun s' c' u' q1 q2 q3=>?_⟩
  ·rw[RS gc,req,es]
  ·obtain⟨sc,rfl⟩:=rat q3
   obtain⟨sl,se⟩:=kh h sc
   have er:Er (ns.idxOf s') c' s0 c0:=by
    rcases q2 with q | ⟨rfl,q⟩
    ·left
     apply Z1
     intro z
     by_cases e:ns.idxOf s'=s0
     ·rw[e] at se;omega
     ·have:=HA f (i:=s0) (k:=s') (by omega) (by omega)
      omega
    ·exact .inr ⟨req,q⟩
   have q:=early (ns.idxOf s') c' (by omega) q1 er
   refine⟨_,q,?_⟩
   rw[rm,ZX (by omega)]
 ·obtain⟨sc,rfl⟩:=rat hu
  obtain⟨sl,se⟩:=kh h sc
  rw[rm,ZS]
  have m:=mem (ns.idxOf s) col (by omega) hc
  obtain⟨ml,me⟩:=k6 m
  exact h.lt _ (cB (by omega))
end
end Sk
end
section
namespace Sk
open PySem PySem.Spec PyProof.Rows L2 Sw Sl
variable {W c a k:Nat}{N:AAF}{L ns:List Nat}{kvs:List (Key×D)}{x6 x5 rE z0 z1 z2 z4 z3 y7 y8 y9 Hi LW z5 z6 z7 z8 z9 qI jL y5:Option U}{nt x wt:D}{fs row fs' nums acc outs M rest nd:List D}{u:Int}{g:Nat->Nat}{f1 f2:FM}{o:MO}
structure fP (W:Nat) (N:AAF):Prop where
 pos:0 < N.length
 few:N.length<=900
 row:∀r∈N,r.length=W/\∀v∈r,0<=v/\v < N.length
def fP.of (m:Sq.gH W N):fP W N:=⟨m.pos,by have:=m.few;omega,m.row⟩
def rw_len' {s:Nat}(mo:fP W N) (h:s < N.length):(rw' N s).length=W:=(mo.row _ (ZO (rw_get h))).1
def iH {s:Nat}(mo:fP W N) (h:s < N.length) (hc:c < W):(rw' N s)[c]? =some (bC N s c:Nat)/\bC N s c < N.length:=by
 obtain⟨r1,r2⟩:=mo.row _ (ZO (rw_get h))
 have hl:c < (rw' N s).length:=by omega
 have v:=r2 _ (abp hl)
 unfold bC
 rw[ZN,Zz hl]
 simp only[ab0]
 exact⟨by congr 1;omega,by omega⟩
def LU {s:Nat}(mo:fP W N) (h:s < N.length):(rw' N s).map D.int=(List.range W).map fun c=>D.int (bC N s c:Nat):=by
 apply aaT
 intro c
 rw[ZF,ZF]
 by_cases q:c < W
 ·rw[(iH mo h q).1,ZX q];rfl
 ·rw[Z0 (by rw[rw_len' mo h];omega),Z0 (by rw[ZK];omega)];rfl
def oA {s:Nat}(mo:fP W N) (h:s < N.length):dF (N.map Sq.aV) (s:Int)=some (.tup ((List.range W).map fun c=>D.int (bC N s c:Nat))):=by
 rw[Cy h,LU mo h]
structure Sn (L:List Nat) (kvs:List (Key×D)):Prop where
 yes:∀v:Nat,v∈L->(aU kvs (.inl (v:Int))).isSome=true
 no:∀v:Nat,v∉L->aU kvs (.inl (v:Int))=none
 few:kvs.length<=L.length
def Sn.add (h:Sn L kvs){v:Nat}{d:D}(m:v∉L):Sn (L++[v]) (putD kvs (.inl (v:Int)) d):=by
 have e:=h.no v m
 rw[Cw e]
 refine⟨fun u hu=>?_,fun u hu=>?_,?_⟩
 ·by_cases q:u=v
  ·subst q;rw[look_same e];rfl
  ·rw[uN (by intro z;injection z with z;exact q (by omega))]
   rcases Z2.mp hu with z | z
   ·exact h.yes u z
   ·exact absurd (ZG.mp z) q
 ·have q:u≠v:=fun z=>hu (by rw[z];simp)
  rw[uN (by intro z;injection z with z;exact q (by omega))]
  exact h.no u fun z=>hu (aac _ z)
 ·rw[ZZ,ZZ];have:=h.few;simp;omega
noncomputable def fY:GS:=
 (v7 (qB (qR true 3 (eF (aj 6)))) (aG (vt 3 (eF (aj 6)) (eC (.bl true)))
 (jW (eT (eM 2 hAppend (aa (eF (aj 6)) ao))))) lV)
noncomputable def mq:GS:=
 (aG (aR 5 (eT (aH 0 (aH 2 (eF (aj 4))))))
 (aG (gM (bName 6) (bM (eF (aj 5))) (fY))
 (DE (fun i j=>i+j) 4 (eC (.int 1)))))
noncomputable def jP:GS:=
 (aG (aR 2 (eP zu (aa (eF (aj 1)) ao)))
 (aG (aR 3 (eP qm (aa (eF (bw [] (bM (eF (aj 1))) aC (eF (eP gW (aa (eF (aj 0)) (aa (eC (.bl true)) ao)))))) ao)))
 (aG (aR 4 (eT (eC (.int 0))))
 (aG (lX 100000 (qB (eF (eP B6 (aa (eF (aj 4)) (aa (dZ 2) ao))))) (mq))
 (dH (aj 2))))))
noncomputable def reachF:FM:=bY 7 jP
def Ea:∀us r,reachF us=some r->bY 7 jP us=some r:=fun _ _ h=>h
section
variable {z0 z1 z4 z5:Option U}{fs:List D}{kvs:List (Key×D)}{v:Int}
def N8 (h:(aU kvs (.inl v)).isSome=true):fY [z0,z1,ZC fs,some (.m (.dct kvs)),z4,z5,ZD v]=some (.nx [z0,z1,ZC fs,some (.m (.dct kvs)),z4,z5,ZD v]):=by
 have e:xK (.m (.dct kvs)) (.int v)=some true:=by rw[yf.has kvs (.int v) (.inl v) rfl,h]
 simp[fY,qR,e]
def RU (h:aU kvs (.inl v)=none) (hk:kvs.length < 100000) (hf:fs.length < 100000):fY [z0,z1,ZC fs,some (.m (.dct kvs)),z4,z5,ZD v]=some (.nx [z0,z1,ZC (fs++[.int v]),some (.m (.dct (putD kvs (.inl v) (.bl true)))),z4,z5,ZD v]):=by
 have e:xK (.m (.dct kvs)) (.int v)=some false:=by rw[yf.has kvs (.int v) (.inl v) rfl,h];rfl
 have k:keyOf (.int v)=some (.inl v):=rfl
 simp[fY,qR,e,k,hk,hf,kJ,AW,hAppend]
end
def qz (L:List Nat) (v:Nat):iD (L++[v])=iD L++[.int (v:Nat)]:=by unfold iD;rw[aaa];rfl
def ki {n:Nat}(nd:L.Nodup) (h:∀v∈L,v < n):L.length<=n:=by
 have:=nd.length_le_of_subset (l₂:=List.range n) fun v hv=>ZS.mpr (h v hv)
 rwa [ZK] at this
section
variable {W:Nat}{N:AAF}{z0 z1 z4 z5:Option U}
def N9 (mo : fP W N)  {kvs : List (Key × D)} {u:Nat}  (h : Bf (bC N) (fun v => v) W L a 0) (hL : ∀ v ∈ L, v < N.length) (hu : L[a]? = some u) (sn : Sn L kvs) (h6 : dM x6 = false) :
    ∃L' kvs' rE,loop (bName 6) fY ((List.range W).map fun c=>D.int (bC N u c:Nat)) [z0,z1,ZC (iD L),some (.m (.dct kvs)),z4,z5,x6]=some (.nx [z0,z1,ZC (iD L'),some (.m (.dct kvs')),z4,z5,rE])/\Bf (bC N) (fun v=>v) W L' a W/\(∀v∈L',v < N.length)/\Sn L' kvs'/\dM rE=false/\L'[a]? =some u:=by
  have few:=mo.few
  have un:u < N.length:=hL u (ZO hu)
  obtain⟨S',e,L',kvs',rE,b1,b2,b3,b4,b5,rfl⟩:=jk (bd:=bName 6) (body:=fY) ((List.range W).map fun c=>D.int (bC N u c:Nat))
    (fun j S=>∃L' kvs' rE,Bf (bC N) (fun v=>v) W L' a j/\(∀v∈L',v < N.length)/\Sn L' kvs'/\dM rE=false/\L'[a]? =some u/\S=[z0,z1,ZC (iD L'),some (.m (.dct kvs')),z4,z5,rE])
    _ ⟨L,kvs,x6,h,hL,sn,h6,hu,rfl⟩ (by
    rintro j d S hd ⟨L',kvs',rE,b1,b2,b3,b4,b5,rfl⟩
    have hj:j < W:=by
      have:=(Zy.mp hd).1
      rwa [Zw,ZK] at this
    rw[ZF,ZX hj] at hd
    have hd:D.int (bC N u j:Nat)=d:=ZU hd
    subst hd
    have nd:L'.Nodup:=by have:=b1.nd;rwa [aa3] at this
    have lf:=ki nd b2
    refine⟨[z0,z1,ZC (iD L'),some (.m (.dct kvs')),z4,z5,ZD (bC N u j:Nat)],?_⟩
    by_cases m:bC N u j∈L'
    . refine⟨_,?_,N8 (b3.yes _ m),L',kvs',ZD (bC N u j:Nat),b1.skip b5 (by rw[aa3];exact m),b2,b3,rfl,b5,rfl⟩
      generalize ((bC N u j:Nat):Int)=jj
      simp[-cD,bL,b4]
    . have fw:=b3.few
      refine⟨_,?_,RU (b3.no _ m) (by omega) (by unfold iD;rw[Zw];omega),L'++[bC N u j],_,ZD (bC N u j:Nat),b1.add b5 hj (by rw[aa3];exact m),fun v hv=>?_,b3.add m,rfl,?_,by rw[qz]⟩
      . generalize ((bC N u j:Nat):Int)=jj
        simp[-cD,bL,b4]
      . rcases Z2.mp hv with q | q
        . exact b2 v q
        . rw[ZG.mp q];exact(iH mo un hj).2
      . rw[Z7 (Zy.mp b5).1];exact b5)
  rw[Zw,ZK] at b1
  exact⟨L',kvs',rE,e,b1,b2,b3,b4,b5⟩
def KG {kvs':List (Key×D)}{a:Int}(h5:dM x5=false) (e1:dF fs a=some (.int u)) (e2:d7 (.t nt) (.int u)=some (.tup row))
  (lp:loop (bName 6) fY row [ZA nt,z1,ZC fs,some (.m (.dct kvs)),ZD a,ZA (.tup row),x6]=some (.nx [ZA nt,z1,ZC fs',some (.m (.dct kvs')),ZD a,ZA (.tup row),rE])):
  mq [ZA nt,z1,ZC fs,some (.m (.dct kvs)),ZD a,x5,x6]=some (.nx [ZA nt,z1,ZC fs',some (.m (.dct kvs')),ZD (a+1),ZA (.tup row),rE]):=by
 simp[-cD,bL,mq,e1,e2,h5,cz,lp]
def KH :(qB (eF (eP B6 (aa (eF (aj 4)) (aa (dZ 2) ao))))) [ZA nt,z1,ZC fs,some (.m (.dct kvs)),ZD a,x5,x6]=some (decide (a < fs.length),[ZA nt,z1,ZC fs,some (.m (.dct kvs)),ZD a,x5,x6]):=by
 simp
def Aj {rows:List D}(h:nt= .tup rows\/nt= .lst rows) (i:Int):d7 (.t nt) (.int i)=dF rows i:=by rcases h with rfl | rfl <;> rfl
theorem CK {nt:D}(mo:fP W N) (hn:nt= .tup (N.map Sq.aV)\/nt= .lst (N.map Sq.aV)):∀(m a:Nat) (L:List Nat) (kvs:List (Key×D)) (x5 x6:Option U),N.length < a+m->a<=L.length->Bf (bC N) (fun v=>v) W L a 0->(∀v∈L,v < N.length)->Sn L kvs->dM x5=false->dM x6=false->
    ∃L' kvs' z4 z5 z6,mK (qB (eF (eP B6 (aa (eF (aj 4)) (aa (dZ 2) ao))))) mq m [ZA nt,z1,ZC (iD L),some (.m (.dct kvs)),ZD a,x5,x6]=some (.nx [ZA nt,z1,ZC (iD L'),some (.m (.dct kvs')),z4,z5,z6])/\(∀v∈L',v < N.length)/\∃a',Bf (bC N) (fun v=>v) W L' a' 0/\L'.length<=a'
  | 0,a,L,kvs,x5,x6,hm,ha,h,hL,sn,h5,h6=>by
    have nd:L.Nodup:=by have:=h.nd;rwa [aa3] at this
    have lf:=ki nd hL
    omega
  | m + 1, a, L, kvs, x5, x6, hm, ha, h, hL, sn, h5, h6 => by
    have il:(iD L).length=L.length:=by unfold iD;rw[Zw]
    unfold mK
    rw[show(qB (eF (eP B6 (aa (eF (aj 4)) (aa (dZ 2) ao))))) [ZA nt,z1,ZC (iD L),some (.m (.dct kvs)),ZD a,x5,x6]=_ from KH,ZE,il]
    by_cases c:a < L.length
    . rw[aaC c]
      simp only[if_true]
      have hu:=bO c
      have un:na L a < N.length:=hL _ (cB c)
      obtain⟨L',kvs',rE,e,b1,b2,b3,b4,b5⟩:=N9 (z0:=ZA nt) (z1:=z1) (z4:=ZD a) (z5:=ZA (.tup ((List.range W).map fun c=>D.int (bC N (na L a) c:Nat)))) mo h hL hu sn h6
      have tn:=KG (z1:=z1) h5 (iG c) (by rw[Aj hn];exact oA mo un) e
      have al:=(Zy.mp b5).1
      rw[tn,ZE]
      exact CK mo hn m (a+1) L' kvs' _ rE (by omega) (by omega) b1.row b2 b3 rfl b4
    . rw[aaf c]
      exact⟨L,kvs,_,x5,x6,rfl,hL,a,h,by omega⟩
end
def HC (mo:fP W N) (hn:nt= .tup (N.map Sq.aV)\/nt= .lst (N.map Sq.aV)):∃L,reachF [.t nt,.t (.lst [.int 0])]=some (.m (.lst (iD L)),[])/\(∀v∈L,v < N.length)/\∃a,Bf (bC N) (fun v=>v) W L a 0/\L.length<=a:=by
 have few:=mo.few
 obtain⟨L,kvs,z4,z5,z6,e,hL,hB⟩:=CK (z1:=ZA (.lst [.int 0])) mo hn 100000 0 [0] [(.inl 0,.bl true)] none none (by omega) (Z3 _) CF (fun v hv=>by rw[ZG.mp hv];exact mo.pos)
  ⟨fun v hv=>(by rw[ZG.mp hv];rfl),fun v hv=>(by
   unfold aU
   rw[abN (by simp only[abC];intro z;injection z with z;exact hv (by rw[ZG];omega))]
   rfl),ZM _⟩ rfl rfl
 refine⟨L,?_,hL,hB⟩
 have all:∃a b S,jP [ZA nt,ZA (.lst [.int 0]),none,none,none,none,none]=some (.rt (.m (.lst (iD L))) (a :: b :: S)):=by
  unfold jP
  rw[Sq.aO (S1:=[ZA nt,ZA (.lst [.int 0]),ZC [.int 0],none,none,none,none]) rfl,
   Sq.aO (S1:=[ZA nt,ZA (.lst [.int 0]),ZC [.int 0],some (.m (.dct [(.inl 0,.bl true)])),none,none,none]) (by simp[cz,bD,aF,aY,aB,keyOf]),
   Sq.aO (S1:=[ZA nt,ZA (.lst [.int 0]),ZC (iD [0]),some (.m (.dct [(.inl 0,.bl true)])),ZD ((0:Nat):Int),none,none]) rfl,Sq.aO (show lX 100000 _ _ _=_ from e)]
  generalize iD L=l
  exact⟨_,_,_,by simp;exact⟨rfl,rfl,rfl⟩⟩
 obtain⟨a,b,S,all⟩:=all
 show(jP [ZA nt,ZA (.lst [.int 0]),none,none,none,none,none]).bind _=_
 rw[all]
 rfl
def Eb (cap:List Nat) (gi:GI) (q:GT) (g:GD) (S:SS):iT cap gi q g S=(gi S).bind fun p=>if p.1.length<=100000 then(cI cap q g p.1 p.2 []).map fun r=>(.m (.lst r.1),r.2) else none:=rfl
def Ak (cap : List Nat) (q : GT) (g : GD) (a b : D) (ds : List D) (S : SS) (acc : List D) : cI cap q g (.tup [a, b] :: ds) S acc = (cI cap q g [.tup [a, b]] S acc).bind fun r => cI cap q g ds r.2 r.1 := by
  simp only[cI]
  cases aY S cap with
  | none=>rfl
  | some us =>
    simp only[ZE]
    split
    . cases cy S us with
      | none=>rfl
      | some ws =>
        simp only[ZE]
        cases q (ZA a :: ZA b :: ws.map some) with
        | none=>rfl
        | some p=>
          simp only[ZE]
          split
          . cases g p.2 with
            | none=>rfl
            | some r=>
              simp only[ZE]
              cases aB (.t a :: .t b :: ws) r.2 with
              | none=>rfl
              | some outs=>
                simp only[ZE]
                cases wb us outs S with
                | none=>rfl
                | some S'=>rfl
          . cases aB (.t a :: .t b :: ws) p.2 with
            | none=>rfl
            | some outs=>
              simp only[ZE]
              cases wb us outs S with
              | none=>rfl
              | some S'=>rfl
    . rfl
theorem rF {cap:List Nat}{g:GD}{S:SS}{α:Type}(fa fb f:α->D):∀(l:List α) (acc:List D),(∀x∈l,∀acc,cI cap aC g [.tup [fa x,fb x]] S acc=some (acc++[f x],S))->cI cap aC g (l.map fun x=>.tup [fa x,fb x]) S acc=some (acc++l.map f,S)
 | [],acc,_=>by simp[cI]
 | x :: l,acc,h=>by
  rw[aae,Ak,h x ZJ,ZE]
  refine(rF fa fb f l (acc++[f x]) fun y hy=>h y (ZI _ hy)).trans ?_
  simp
def iX (m:Nat) (f:Nat->D):dI ((List.range m).map f)=(List.range m).map fun i=>.tup [.int (i:Nat),f i]:=by
 unfold dI
 apply aaT
 intro i
 rw[List.getElem?_mapIdx,ZF,ZF]
 by_cases h:i < m
 ·rw[ZX h];rfl
 ·rw[Z0 (by rw[ZK];omega)];rfl
noncomputable def cX (W:Nat) (f:Nat->Nat):List D:=(List.range W).map fun c=>D.int (f c:Nat)
noncomputable def bz (m W:Nat) (f:AAE):List D:=(List.range m).map fun s=>.tup (cX W (f s))
def gO (W:Nat) (f:Nat->Nat):(cX W f).length=W:=by unfold cX;rw[Zw,ZK]
def Ec (m W:Nat) (f:AAE):(bz m W f).length=m:=by unfold bz;rw[Zw,ZK]
structure Part (m W:Nat) (f:AAE) (wd:Nat->D) (ns:List Nat) (c:Nat):Prop where
 len:ns.length=m
 cls:vB ns c
 fo:Fo ns
 word:∀s t,s < m->t < m->na ns s=na ns t->wd s=wd t
 ne:∀s t,s < m->t < m->na ns s≠na ns t->∃cs,Vd W cs/\wd (led f cs s)≠wd (led f cs t)
noncomputable def qA (W:Nat) (f:AAE) (ns:List Nat) (s:Nat):D:=.tup (.int (na ns s:Nat) :: cX W fun c=>na ns (f s c))
noncomputable def oW (m W:Nat) (f:AAE) (ns:List Nat):List Nat:=fX ((List.range m).map (qA W f ns))
def Ed (W:Nat) (f:AAE) (ns:List Nat) (s:Nat):qA W f ns s= .tup ((((na ns s:Nat):Int) :: (List.range W).map fun c=>((na ns (f s c):Nat):Int)).map D.int):=by
 unfold qA cX
 rw[aae,aaq]
 rfl
def Ef (l:List Int):kY (.tup (l.map D.int))=some (.tup (l.map D.int)):=by
 have al:(l.map D.int).all (fJ 7)=true:=by
  rw[adi]
  intro x hx
  obtain⟨v,_,rfl⟩:=Z6.mp hx
  rfl
 have k8:fJ 8 (.tup (l.map D.int))=true:=al
 show(if fJ 8 (.tup (l.map D.int))=true then some (nf (.tup (l.map D.int))) else none)=_
 rw[if_pos k8]
 show some (D.tup (ID (l.map D.int)))=_
 rw[uO]
def KI {f:AAE}{s t:Nat}:qA W f ns s=qA W f ns t↔na ns s=na ns t/\∀c,c < W->na ns (f s c)=na ns (f t c):=by
 unfold qA cX
 constructor
 ·intro h
  injection h with h
  injection h with h1 h2
  injection h1 with h1
  refine⟨ac2.mp h1,fun c hc=>?_⟩
  have:=congrArg (fun l=>l[c]?) h2
  simp only[ZF,ZX hc,acK] at this
  injection this with this
  injection this with this
  exact ac2.mp this
 ·rintro⟨h1,h2⟩
  rw[h1]
  congr 2
  exact aax fun c hc=>by show D.int ((na ns (f s c):Nat):Int)=D.int ((na ns (f t c):Nat):Int);rw[h2 c (ZS.mp hc)]
section
variable {m W:Nat}{f:AAE}{wd:Nat->D}{ns:List Nat}{c:Nat}
def nL {s t:Nat}(hs:s < m) (ht:t < m):na (oW m W f ns) s=na (oW m W f ns) t↔na ns s=na ns t/\∀c,c < W->na ns (f s c)=na ns (f t c):=by
 have get:∀i,i < m->((List.range m).map (qA W f ns))[i]? =some (qA W f ns i):=fun i hi=>by
  rw[ZF,ZX hi];rfl
 unfold oW
 rw[ou (get s hs) (get t ht),KI]
def Al:(oW m W f ns).length=m:=by unfold oW;rw[j9,Zw,ZK]
def Part.next (hf : ∀ s c, s < m -> c < W -> f s c < m) (P : Part m W f wd ns c) : ∃ c', Part m W f wd (oW m W f ns) c' /\ (c' <= c -> ∀ s t, s < m -> t < m -> (na (oW m W f ns) s = na (oW m W f ns) t ↔ na ns s = na ns t)) := by
  refine⟨_,⟨Al,kg _,CI _,fun s t hs ht e=>P.word s t hs ht ((nL hs ht).mp e).1,fun s t hs ht ne=>?_⟩,fun hc s t hs ht=>⟨fun e=>((nL hs ht).mp e).1,fun e=>?_⟩⟩
  . rw[ne_eq,nL hs ht] at ne
    by_cases q:na ns s=na ns t
    . have:∃c,c < W/\na ns (f s c)≠na ns (f t c):=by
        apply Z1
        intro z
        exact ne ⟨q,fun c hc=>Z1 fun y=>z ⟨c,hc,y⟩⟩
      obtain⟨c,hc,y⟩:=this
      obtain⟨cs,v,d⟩:=P.ne _ _ (hf s c hs hc) (hf t c ht hc) y
      exact⟨c :: cs,fun x hx=>by
        rcases ZV.mp hx with rfl | hx
        . exact hc
        . exact v x hx,d⟩
    . exact P.ne s t hs ht q
  . apply Z1
    intro ne
    have:=wL P.cls (kg ((List.range m).map (qA W f ns))) P.len Al (fun i j hi hj q=>((nL hi hj).mp q).1) hs ht e ne
    omega
end
noncomputable def jd (cY:FM):GS:=
 (aG (aR 4 (eP iz (aa (eF (eP kO (aa (eF (aj 3)) ao))) (aa (eC (.int 1)) ao))))
 (aG (v7 (FF (qB (eF (eP qk (aa (eF (aj 2)) (aa (eC .bV) ao))))) (qB (eF (eP OT (aa (eF (aj 4)) (aa (eF (aj 2)) ao)))))) Vg lV)
 (aR 3 (bq cY (bg (eF (iT [3] (fW (aa (eF (aj 0)) ao)) aC (eF (eP iz (aa (eF (eP gW (aa (aH 2 (eF (aj 0))) ao))) (aa (eF (eP bK (aa (eF (bw [2] (bM (eF (aj 1))) aC (aH 1 (eF (aj 0))))) ao))) ao)))))) cu)))))
noncomputable def iI (cY:FM):GS:=
 (aG (aR 3 (bq cY (bg (eF (aj 1)) cu)))
 (aG (aR 4 (eT (eC (.int 0))))
 (aG (lX 100000 (qB (eF (eP Qu (aa (eF (eP kO (aa (eF (aj 3)) ao))) (aa (eF (aj 4)) ao))))) (jd cY))
 (dH (aj 3)))))
noncomputable def Wh (cY:FM):GS:=
 (aR 4 (eP iz (aa (eF (eP kO (aa (eF (aj 3)) ao))) (aa (eC (.int 1)) ao))))
noncomputable def TV (cY:FM):GS:=
 (v7 (FF (qB (eF (eP qk (aa (eF (aj 2)) (aa (eC .bV) ao))))) (qB (eF (eP OT (aa (eF (aj 4)) (aa (eF (aj 2)) ao)))))) Vg lV)
noncomputable def Wi (cY:FM):GS:=
 (aR 3 (bq cY (bg (eF (iT [3] (fW (aa (eF (aj 0)) ao)) aC (eF (eP iz (aa (eF (eP gW (aa (aH 2 (eF (aj 0))) ao))) (aa (eF (eP bK (aa (eF (bw [2] (bM (eF (aj 1))) aC (aH 1 (eF (aj 0))))) ao))) ao)))))) cu)))
def RV (cY:FM):jd cY=aG (Wh cY) (aG (TV cY) (Wi cY)):=rfl
noncomputable def iP:FM:=bY 5 (iI rq)
def HD:∀us r,iP us=some r->bY 5 (iI rq) us=some r:=fun _ _ h=>h
noncomputable abbrev EN:GD:=aH 1 (eF (aj 0))
noncomputable abbrev Oa:GD:=(eF (eP iz (aa (eF (eP gW (aa (aH 2 (eF (aj 0))) ao))) (aa (eF (eP bK (aa (eF (bw [2] (bM (eF (aj 1))) aC (aH 1 (eF (aj 0))))) ao))) ao))))
def ki_turn {v:Int}(h:dF nums v=some x):aF [2] aC EN [.int v] [z0,z1,ZA (.lst nums)] acc=some (acc++[x],[z0,z1,ZA (.lst nums)]):=by
 simp[aF,aY,cO,h,aB]
def RW (h:∀c,c < W->g c < ns.length):aF [2] aC EN (cX W g) [z0,z1,ZA (.lst (iD ns))] []=some (cX W fun c=>na ns (g c),[z0,z1,ZA (.lst (iD ns))]):=by
 obtain⟨acc,S',e,rfl,rfl⟩:=uM (cap:=[2]) (g:=EN) (cX W g) (fun j acc S=>acc=(List.range j).map (fun c=>D.int (na ns (g c):Nat))/\S=[z0,z1,ZA (.lst (iD ns))]) _ ⟨rfl,rfl⟩ (by
  rintro j d acc S hd ⟨rfl,rfl⟩
  have hj:j < W:=by have:=(Zy.mp hd).1;rwa [gO] at this
  unfold cX at hd
  rw[ZF,ZX hj] at hd
  cases hd
  refine⟨_,_,ki_turn (iG (h j hj)),?_,rfl⟩
  rw[abz,aaa]
  rfl)
 rw[e,gO]
 rfl
def KJ {s nk:Int}(h1:dF nums s=some (.int nk)) (hl:row.length<=100000) (hl2:1+outs.length<=100000) (h2:∀z0 z1,aF [2] aC EN row [z0,z1,ZA (.lst nums)] []=some (outs,[z0,z1,ZA (.lst nums)])):
  cI [3] aC Oa [.tup [.int s,.tup row]] [z0,z1,z2,ZA (.lst nums),z4] acc=some (acc++[.tup (.int nk :: outs)],[z0,z1,z2,ZA (.lst nums),z4]):=by
 simp[cI,aY,cO,h1,cz,bD,hl,hl2,h2,aB]
def RX {m:Nat}{f:AAE}(hW:W < 1000) (hl:ns.length=m) (hf:∀s c,s < m->c < W->f s c < m):
  cI [3] aC Oa (dI (bz m W f)) [z0,z1,z2,ZA (.lst (iD ns)),z4] []=some ((List.range m).map (qA W f ns),[z0,z1,z2,ZA (.lst (iD ns)),z4]):=by
 unfold bz
 rw[iX]
 refine(rF (fun i=>D.int (i:Nat)) (fun s=>.tup (cX W (f s))) (qA W f ns) (List.range m) [] fun s hs acc=>?_).trans (by rw[Z9])
 have hs:=ZS.mp hs
 exact KJ (iG (by omega)) (by rw[gO];omega) (by rw[gO];omega) fun z0 z1=>RW fun c hc=>by rw[hl];exact hf s c hs hc
section
variable {g:FM}{rows nums keys sD:List D}{w1 md:D}{mx:Int}{x4:Option U}
def tb_turn (h4:dM x4=false) (em:kO [.lst nums]=ZD mx) (hmd:md= .bV\/∃k:Int,md= .int k/\mx+1<=k) (hr:(dI rows).length<=100000)
  (ec:∀z4,cI [3] aC Oa (dI rows) [ZA (.lst rows),ZA w1,ZA md,ZA (.lst nums),z4] []=some (keys,[ZA (.lst rows),ZA w1,ZA md,ZA (.lst nums),z4]))
  (en:g [.t (.lst keys)]=some (.m (.lst sD),[])):
  jd g [ZA (.lst rows),ZA w1,ZA md,ZA (.lst nums),x4]=some (.nx [ZA (.lst rows),ZA w1,ZA md,ZC sD,ZD (mx+1)]):=by
 rw[RV]
 have s0:Wh g [ZA (.lst rows),ZA w1,ZA md,ZA (.lst nums),x4]=some (.nx [ZA (.lst rows),ZA w1,ZA md,ZA (.lst nums),ZD (mx+1)]):=by
  simp[-cD,bL,Wh,em,h4]
 have s1:TV g [ZA (.lst rows),ZA w1,ZA md,ZA (.lst nums),ZD (mx+1)]=some (.nx [ZA (.lst rows),ZA w1,ZA md,ZA (.lst nums),ZD (mx+1)]):=by
  rcases hmd with rfl | ⟨k,rfl,hk⟩
  ·simp[TV,lD]
  ·have:¬k < mx+1:=by omega
   simp[TV,lD,this]
 have s2:Wi g [ZA (.lst rows),ZA w1,ZA md,ZA (.lst nums),ZD (mx+1)]=some (.nx [ZA (.lst rows),ZA w1,ZA md,ZC sD,ZD (mx+1)]):=by
  simp[Wi,Eb,hr,ec,en]
 rw[Sq.aO s0,Sq.aO s1,s2]
def KL {u3:U}{k:Int}(h3:u3= .m (.lst nums)\/u3= .t (.lst nums)) (em:kO [.lst nums]=ZD mx):
  (qB (eF (eP Qu (aa (eF (eP kO (aa (eF (aj 3)) ao))) (aa (eF (aj 4)) ao))))) [ZA (.lst rows),ZA w1,ZA md,some u3,ZD k]=some (decide (k<=mx),[ZA (.lst rows),ZA w1,ZA md,ZA (.lst nums),ZD k]):=by
 rcases h3 with rfl | rfl <;> simp[em]
end
noncomputable abbrev XE:GT:=(qB (eF (eP Qu (aa (eF (eP kO (aa (eF (aj 3)) ao))) (aa (eF (aj 4)) ao)))))
def HE {c':Nat}(h:vB ns c) (h':vB ns c'):c=c':=by
 apply Z1
 intro ne
 rcases Nat.lt_or_gt_of_ne ne with l | l
 ·have:=h.lt c (h'.on c l);omega
 ·have:=h'.lt c' (h.on c' l);omega
section
variable {m W:Nat}{f:AAE}{wd:Nat->D}{w1 md:D}
def Eg (h0:0 < m) (hm:m<=900):rq [.t (.lst ((List.range m).map (qA W f ns)))]=some (.m (.lst (iD (oW m W f ns))),[]):=by
 refine NU (.inr rfl) ?_ ?_ ?_
 ·intro h
  have:=congrArg List.length h
  rw[Zw,ZK,abf] at this
  omega
 ·rw[aaq,aaq]
  exact aax fun k _=>by show kY (qA W f ns k)=some (qA W f ns k);rw[Ed];exact Ef _
 ·rw[Zw,ZK];omega
def Ob (m W:Nat) (f:AAE) (ns:List Nat):Prop:=∀s t c,s < m->t < m->c < W->na ns s=na ns t->na ns (f s c)=na ns (f t c)
theorem CL (h0 : 0 < m) (hm : m <= 900) (hW : W < 1000) (hf : ∀ s c, s < m -> c < W -> f s c < m) (hmd : md = .bV \/ ∃ k : Int, md = .int k /\ ∀ ns c, Part m W f wd ns c -> (c : Int) <= k) :
    ∀(q:Nat) (ns:List Nat) (c cnt:Nat) (u3:U),Part m W f wd ns c->m < cnt+q->cnt<=m->(cnt=0\/∃n0,Part m W f wd n0 cnt/\ns=oW m W f n0)->(u3= .m (.lst (iD ns))\/u3= .t (.lst (iD ns)))->
    ∃ns' c' z4,mK XE (jd rq) q [ZA (.lst (bz m W f)),ZA w1,ZA md,some u3,ZD cnt]=some (.nx [ZA (.lst (bz m W f)),ZA w1,ZA md,ZA (.lst (iD ns')),z4])/\Part m W f wd ns' c'/\Ob m W f ns'
  | 0,ns,c,cnt,u3,P,hq,hc,_,_=>by omega
  | q + 1, ns, c, cnt, u3, P, hq, hc, pr, h3 => by
    have XF:=yg P.cls
    have Eh:=P.len
    have cpos:0 < c:=by have:=P.cls.lt _ (cB (ns:=ns) (i:=0) (by omega));omega
    have em:=Hj P.cls cpos
    have cd:=KL (rows:=bz m W f) (w1:=w1) (md:=md) (k:=cnt) h3 em
    have e1:decide ((cnt:Int)<=((c - 1:Nat):Int))=decide (cnt < c):=decide_eq_decide.mpr ⟨fun h=>by omega,fun h=>by omega⟩
    rw[e1] at cd
    unfold mK
    rw[show XE _=_ from cd,ZE]
    by_cases h:cnt < c
    . rw[aaC h]
      simp only[if_true]
      obtain⟨c',P',_⟩:=P.next hf
      have e2:((c - 1:Nat):Int)+1=(c:Nat):=by omega
      have tn:=tb_turn (g:=rq) (w1:=w1) (md:=md) (x4:=ZD cnt) rfl em (hmd.imp id fun⟨k,a,b⟩=>⟨k,a,by rw[e2];exact b ns c P⟩) (by unfold bz;rw[iX,Zw,ZK];omega) (fun z4=>RX hW Eh hf) (Eg h0 hm)
      rw[e2] at tn
      rw[tn,ZE]
      exact CL h0 hm hW hf hmd q _ c' c _ P' (by omega) (by omega) (.inr ⟨ns,P,rfl⟩) (.inl rfl)
    . rw[aaf h]
      refine⟨ns,c,_,rfl,P,?_⟩
      rcases pr with rfl | ⟨n0,P0,rfl⟩
      . omega
      . obtain⟨c',P',sm⟩:=P0.next hf
        have ec:c'=c:=by
          have a:=HE P'.cls P.cls
          exact a
        have sm:=sm (by omega)
        intro s t col hs ht uQ e
        rw[sm _ _ (hf s col hs uQ) (hf t col ht uQ)]
        exact((nL hs ht).mp e).2 col uQ
def KN (h0:0 < m) (hm:m<=900) (hW:W < 1000) (hf:∀s c,s < m->c < W->f s c < m) (hw:∀s,s < m->Wd (wd s)) (hmd:md= .bV\/∃k:Int,md= .int k/\∀ns c,Part m W f wd ns c->(c:Int)<=k):
  ∃ns c,iP [.t (.lst (bz m W f)),.t (.lst ((List.range m).map wd)),.t md]=some (.t (.lst (iD ns)),[])/\Part m W f wd ns c/\Ob m W f ns:=by
 have e1:=NT (sd:=.lst ((List.range m).map wd)) (ds:=(List.range m).map wd) (ks:=(List.range m).map fun s=>Ku (wd s)) (.inr rfl) (by
  rw[aaq,aaq]
  exact aax fun s hs=>RK (hw s (ZS.mp hs))) (by rw[Zw,ZK];omega)
 have get:∀i,i < m->((List.range m).map fun s=>Ku (wd s))[i]? =some (Ku (wd i)):=fun i hi=>by
  rw[ZF,ZX hi];rfl
 have P0:Part m W f wd (fX ((List.range m).map fun s=>Ku (wd s))) _:=⟨by rw[j9,Zw,ZK],kg _,CI _,
  fun s t hs ht e=>Kv (hw s hs) (hw t ht) ((ou (get s hs) (get t ht)).mp e),
  fun s t hs ht ne=>⟨[],fun c hc=>(by cases hc),fun z=>ne ((ou (get s hs) (get t ht)).mpr (by rw[show wd s=wd t from z]))⟩⟩
 obtain⟨ns,c,z4,e,P,st⟩:=CL (w1:=.lst ((List.range m).map wd)) h0 hm hW hf hmd 100000 _ _ 0 _ P0 (by omega) (Z3 _) (.inl rfl) (.inl rfl)
 refine⟨ns,c,?_,P,st⟩
 have all:∃a b d S,iI rq [ZA (.lst (bz m W f)),ZA (.lst ((List.range m).map wd)),ZA md,none,none]=some (.rt (.t (.lst (iD ns))) (a :: b :: d :: S)):=by
  unfold iI
  rw[Sq.aO (S1:=[ZA (.lst (bz m W f)),ZA (.lst ((List.range m).map wd)),ZA md,ZC (iD (fX ((List.range m).map fun s=>Ku (wd s)))),none]) (by
   generalize rq=g at e1
   generalize (List.range m).map wd=ws at e1
   simp[e1]),
   Sq.aO (S1:=[ZA (.lst (bz m W f)),ZA (.lst ((List.range m).map wd)),ZA md,ZC (iD (fX ((List.range m).map fun s=>Ku (wd s)))),ZD ((0:Nat):Int)]) rfl,Sq.aO (show lX 100000 _ _ _=_ from e)]
  generalize iD ns=l
  exact⟨_,_,_,_,by simp;exact⟨rfl,rfl,rfl,rfl⟩⟩
 obtain⟨a,b,d,S,all⟩:=all
 exact rC all rfl
end
noncomputable def cZ (dW:FM) (bZ:FM):GS:=
 (vt 4 (eF (aj 6)) (eF (aj 5)))
noncomputable def fj (dW:FM) (bZ:FM):GS:=
 (aG (aR 3 (bq dW (bg (eF (aj 0)) (bg (eF (eP gX (aa (eC (.int 0)) ao))) cu))))
 (aG (aR 4 oR)
 (aG (gM (lW 2 (cL (bName 5) (cL (bName 6) mV))) (fW (aa (eF (aj 3)) ao)) (cZ dW bZ))
 (aG (aR 7 (bw [0,4] (bM (eF (aj 3))) aC (eF (eP bK (aa (eF (bw [2] (bM (aH 1 (eF (aj 0)))) aC (aH 1 (eF (aj 0))))) ao)))))
 (aG (aR 8 (bq bZ (bg (eF (aj 7)) (bg (eF (bw [1] (bM (eF (aj 3))) aC (aH 1 (eF (aj 0))))) (bg (eF (aj 2)) cu)))))
 (aG (uC 9 (cS (aa (eF (eP iz (aa (eF (eP kO (aa (eF (aj 8)) ao))) (aa (eC (.int 1)) ao)))) ao)) (pG 9 (lW 2 (cL (bName 5) (cL (bName 10) mV))) (fW (aa (eF (aj 8)) ao)) (zL 9 (eF (aj 10)) (aH 3 (eF (aj 5))))))
 (aG (aR 11 (bw [0,8,4] (bM (eF (aj 9))) aC (eF (eP bK (aa (eF (bw [2,3] (bM (aH 1 (aH 0 (eC (.int 0))))) aC (aH 1 (aH 2 (eF (aj 0)))))) ao)))))
 (dH (eP gW (aa (eF (eP bK (aa (eF (aj 11)) ao))) (aa (eF (eP bK (aa (eF (bw [1] (bM (eF (aj 9))) aC (aH 1 (aH 0 (eC (.int 0)))))) ao))) (aa (eF (aj 9)) ao))))))))))))
noncomputable def Wj (dW:FM) (bZ:FM):GS:=
 (aR 3 (bq dW (bg (eF (aj 0)) (bg (eF (eP gX (aa (eC (.int 0)) ao))) cu))))
noncomputable def Wk (dW:FM) (bZ:FM):GS:=
 (aR 4 oR)
noncomputable def Wl (dW:FM) (bZ:FM):GS:=
 (gM (lW 2 (cL (bName 5) (cL (bName 6) mV))) (fW (aa (eF (aj 3)) ao)) (cZ dW bZ))
noncomputable def Wm (dW:FM) (bZ:FM):GS:=
 (aR 7 (bw [0,4] (bM (eF (aj 3))) aC (eF (eP bK (aa (eF (bw [2] (bM (aH 1 (eF (aj 0)))) aC (aH 1 (eF (aj 0))))) ao)))))
noncomputable def Wn (dW:FM) (bZ:FM):GS:=
 (aR 8 (bq bZ (bg (eF (aj 7)) (bg (eF (bw [1] (bM (eF (aj 3))) aC (aH 1 (eF (aj 0))))) (bg (eF (aj 2)) cu)))))
noncomputable abbrev Wo:GB:=(lW 2 (cL (bName 5) (cL (bName 10) mV)))
noncomputable abbrev TX:GN:=(zL 9 (eF (aj 10)) (aH 3 (eF (aj 5))))
noncomputable abbrev Wq:GI:=(cS (aa (eF (eP iz (aa (eF (eP kO (aa (eF (aj 8)) ao))) (aa (eC (.int 1)) ao)))) ao))
noncomputable def Wr (dW:FM) (bZ:FM):GS:=(uC 9 Wq (pG 9 Wo (fW (aa (eF (aj 8)) ao)) TX))
noncomputable def Ws (dW:FM) (bZ:FM):GS:=
 (aR 11 (bw [0,8,4] (bM (eF (aj 9))) aC (eF (eP bK (aa (eF (bw [2,3] (bM (aH 1 (aH 0 (eC (.int 0))))) aC (aH 1 (aH 2 (eF (aj 0)))))) ao)))))
noncomputable def Wt (dW:FM) (bZ:FM):GS:=
 (dH (eP gW (aa (eF (eP bK (aa (eF (aj 11)) ao))) (aa (eF (eP bK (aa (eF (bw [1] (bM (eF (aj 9))) aC (aH 1 (aH 0 (eC (.int 0)))))) ao))) (aa (eF (aj 9)) ao)))))
def RY (f1 f2:FM):fj f1 f2=aG (Wj f1 f2) (aG (Wk f1 f2) (aG (Wl f1 f2) (aG (Wm f1 f2) (aG (Wn f1 f2) (aG (Wr f1 f2) (aG (Ws f1 f2) (Wt f1 f2))))))):=rfl
noncomputable def pJ:FM:=bY 12 (fj reachF iP)
def Ei:∀us r,pJ us=some r->bY 12 (fj reachF iP) us=some r:=fun _ _ h=>h
noncomputable def kL (L:List Nat):List Key:=L.map fun(v:Nat)=>(Sum.inl (v:Int):Key)
def rG {v:Nat}:(Sum.inl (v:Int):Key)∈kL L↔v∈L:=by
 unfold kL
 rw[Z6]
 constructor
 ·rintro⟨u,hu,e⟩
  injection e with e
  rw[show v=u by omega];exact hu
 ·intro h;exact⟨v,h,rfl⟩
theorem idx_map {κ:Type} [DecidableEq κ] (f:Nat->κ) (inj:∀a b,f a=f b->a=b):∀(L:List Nat) (v:Nat),(L.map f).idxOf (f v)=L.idxOf v
  | [],v=>rfl
  | u :: L, v => by
    rw[aae,adx,adx,idx_map f inj L v]
    by_cases h:u=v
    . subst h;simp
    . have h1:(f u == f v)=false:=by rw[aa2];exact fun z=>h (inj u v z)
      have h2:(u == v)=false:=by rw[aa2];exact h
      rw[h1,h2]
noncomputable def qH (L:List Nat):MO:=.dct (ent 0 (kL L))
def LV {v:Nat}(h:v∈L):d7 (.b (qH L)) (.int (v:Nat))=some (.int (L.idxOf v:Nat)):=by
 unfold qH
 rw[yf.rb _ _ (Sum.inl (v:Int)) rfl,iW (rG.mpr h)]
 unfold kL
 rw[idx_map (κ:=Key) (fun v:Nat=>(Sum.inl (v:Int):Key)) (fun a b z=>by injection z with z;omega)]
def Oc {v:Nat}(h:v∉L) (hl:L.length < 1000):iS (qH L) (.int (v:Nat)) (.int (L.length:Nat))=some (qH (L++[v])):=by
 unfold qH
 rw[yf.wr _ _ (Sum.inl (v:Int)) _ rfl (by rw[mh];unfold kL;rw[Zw];omega)]
 have e:(kL L).length=L.length:=by unfold kL;rw[Zw]
 rw[<-e,tK (fun z=>h (rG.mp z))]
 unfold kL
 rw[aaa]
 rfl
def KO {o':MO}{v j:Int}(h:iS o (.int v) (.int j)=some o'):
  cZ f1 f2 [z0,z1,z2,z3,some (.m o),ZD j,ZD v,y7,y8,y9,Hi,LW]=some (.nx [z0,z1,z2,z3,some (.m o'),ZD j,ZD v,y7,y8,y9,Hi,LW]):=by
 simp[cZ,kJ,h]
def KP (nd:L.Nodup) (hl:L.length < 1000):
  ∃y5 y6,dM y5=false/\loop (lW 2 (cL (bName 5) (cL (bName 6) mV))) (cZ f1 f2) (dI (iD L)) [z0,z1,z2,z3,some (.m (.dct [])),none,none,y7,y8,y9,Hi,LW]=some (.nx [z0,z1,z2,z3,some (.m (qH L)),y5,y6,y7,y8,y9,Hi,LW]):=by
 obtain⟨S',e,y5,y6,h5,h6,rfl⟩:=jk (bd:=lW 2 (cL (bName 5) (cL (bName 6) mV))) (body:=cZ f1 f2) (dI (iD L))
  (fun j S=>∃y5 y6,dM y5=false/\dM y6=false/\S=[z0,z1,z2,z3,some (.m (qH (L.take j))),y5,y6,y7,y8,y9,Hi,LW]) _ ⟨none,none,rfl,rfl,rfl⟩ (by
  rintro j d S hd ⟨y5,y6,h5,h6,rfl⟩
  rw[pI rfl,iX] at hd
  have hj:j < L.length:=by have:=(Zy.mp hd).1;rwa [Zw,ZK] at this
  rw[ZF,ZX hj] at hd
  cases hd
  have et:L.take (j+1)=L.take j++[na L j]:=by rw[List.take_succ,bO hj];rfl
  have tl:(L.take j).length=j:=by rw[abX];omega
  have nm:na L j∉L.take j:=fun z=>by
   obtain⟨i,hi,z⟩:=aaJ z
   rw[List.getElem_take] at z
   have hij:i < j:=by rw[tl] at hi;exact hi
   have a1:=nd.idxOf_getElem i (by omega)
   rw[z] at a1
   rw[N6 nd hj] at a1
   omega
  have pw:=Oc nm (by omega)
  rw[tl,<-et] at pw
  refine⟨[z0,z1,z2,z3,some (.m (qH (L.take j))),ZD (j:Nat),ZD (na L j:Nat),y7,y8,y9,Hi,LW],_,?_,KO pw,_,_,rfl,rfl,rfl⟩
  simp[-cD,bL,h5,h6])
 have el:(dI (iD L)).length=L.length:=by unfold dI iD;rw[abL,Zw]
 rw[el,List.take_length] at e
 exact⟨y5,y6,h5,e⟩
noncomputable def wM (N:AAF) (L:List Nat) (s c:Nat):Nat:=L.idxOf (bC N (na L s) c)
noncomputable abbrev vp:GD:=aH 1 (eF (aj 0))
noncomputable abbrev inR:GD:=(eF (eP bK (aa (eF (bw [2] (bM (aH 1 (eF (aj 0)))) aC (aH 1 (eF (aj 0))))) ao)))
def HF {v:Int}(h:d7 (.b o) (.int v)=some x):aF [2] aC vp [.int v] [z0,z1,some (.b o)] acc=some (acc++[x],[z0,z1,some (.b o)]):=by
 simp[aF,aY,cO,h,aB]
def Od (h:∀c,c < W->g c∈L):aF [2] aC vp (cX W g) [z0,z1,some (.b (qH L))] []=some (cX W fun c=>L.idxOf (g c),[z0,z1,some (.b (qH L))]):=by
 obtain⟨acc,S',e,rfl,rfl⟩:=uM (cap:=[2]) (g:=vp) (cX W g) (fun j acc S=>acc=(List.range j).map (fun c=>D.int (L.idxOf (g c):Nat))/\S=[z0,z1,some (.b (qH L))]) _ ⟨rfl,rfl⟩ (by
  rintro j d acc S hd ⟨rfl,rfl⟩
  have hj:j < W:=by have:=(Zy.mp hd).1;rwa [gO] at this
  unfold cX at hd
  rw[ZF,ZX hj] at hd
  cases hd
  refine⟨_,_,HF (LV (h j hj)),?_,rfl⟩
  rw[abz,aaa]
  rfl)
 rw[e,gO]
 rfl
def HG {v:Int}(h1:d7 (.t nt) (.int v)=some (.tup row)) (hl:row.length<=100000) (h2:∀z0 z1,aF [2] aC vp row [z0,z1,some (.b o)] []=some (outs,[z0,z1,some (.b o)])):
  aF [0,4] aC inR [.int v] [ZA nt,z1,z2,z3,some (.m o),z5,z6,z7,z8,z9,qI,jL] acc=some (acc++[.tup outs],[ZA nt,z1,z2,z3,some (.m o),z5,z6,z7,z8,z9,qI,jL]):=by
 simp[aF,aY,cO,h1,cz,bD,hl,h2,aB]
theorem gP {cap:List Nat}{g:GD}{S:SS}{α:Type}(fa f:α->D):∀(l:List α) (acc:List D),(∀x∈l,∀acc,aF cap aC g [fa x] S acc=some (acc++[f x],S))->aF cap aC g (l.map fa) S acc=some (acc++l.map f,S)
 | [],acc,_=>by simp[aF]
 | x :: l,acc,h=>by
  rw[aae,Sq.l7,h x ZJ,ZE]
  refine(gP fa f l (acc++[f x]) fun y hy=>h y (ZI _ hy)).trans ?_
  simp
section
variable {W:Nat}{N:AAF}{L:List Nat}{nt:D}{z1 z2 z3 z5 z6 z7 z8 z9 qI jL:Option U}
def Oe (mo:fP W N) (hW:W < 1000) (hn:nt= .tup (N.map Sq.aV)\/nt= .lst (N.map Sq.aV)) (hL:∀v∈L,v < N.length) (cl:∀s c,s < L.length->c < W->bC N (na L s) c∈L):
  aF [0,4] aC inR (iD L) [ZA nt,z1,z2,z3,some (.m (qH L)),z5,z6,z7,z8,z9,qI,jL] []=some (bz L.length W (wM N L),[ZA nt,z1,z2,z3,some (.m (qH L)),z5,z6,z7,z8,z9,qI,jL]):=by
 rw[pI rfl]
 refine(gP (fun s=>D.int (na L s:Nat)) (fun s=>.tup (cX W (wM N L s))) (List.range L.length) [] fun s hs acc=>?_).trans (by rw[Z9];rfl)
 have hs:=ZS.mp hs
 have sn:=hL _ (cB hs)
 exact HG (row:=cX W (bC N (na L s))) (by rw[Aj hn];exact oA mo sn) (by rw[gO];omega) fun z0 z1=>Od fun c hc=>cl s c hs hc
def KQ {v:Int}(h:d7 (.t wt) (.int v)=some x):aF [1] aC (aH 1 (eF (aj 0))) [.int v] [z0,ZA wt,z2,z3,z4,z5,z6,z7,z8,z9,qI,jL] acc=some (acc++[x],[z0,ZA wt,z2,z3,z4,z5,z6,z7,z8,z9,qI,jL]):=by
 simp[aF,aY,cO,h,aB]
def RZ (hw:wt= .tup M\/wt= .lst M) (hL:∀v∈L,v < M.length):aF [1] aC (aH 1 (eF (aj 0))) (iD L) [z0,ZA wt,z2,z3,z4,z5,z6,z7,z8,z9,qI,jL] []=some ((List.range L.length).map fun s=>aW M (na L s),[z0,ZA wt,z2,z3,z4,z5,z6,z7,z8,z9,qI,jL]):=by
 rw[pI rfl]
 refine(gP (fun s=>D.int (na L s:Nat)) (fun s=>aW M (na L s)) (List.range L.length) [] fun s hs acc=>?_).trans (by rw[Z9])
 exact KQ (by rw[Aj hw];exact qy (hL _ (cB (ZS.mp hs))))
end
theorem qC {bd:GB}{g:GN}{a:Addr}{I:Nat->SS->List (List D)->Prop}:∀(ds:List D) (k:Nat) (S:SS) (n:List (List D)),I k S n->(∀j d S n,ds[j]? =some d->I (k+j) S n->∃S1 S2 n2,bd d S=some S1/\g a S1 n=some (S2,n2)/\I (k+j+1) S2 n2)->∃S' n',Cj bd g a ds S n=some (S',n')/\I (k+ds.length) S' n'
  | [],k,S,n,h,_=>⟨S,n,rfl,h⟩
  | d :: ds, k, S, n, h, hs => by
    obtain⟨S1,S2,n2,e1,e2,h2⟩:=hs 0 d S n rfl h
    obtain⟨S',n',e,h'⟩:=qC ds (k+1) S2 n2 h2 fun j d' S' n' hd hI=>by
      obtain⟨S1,S2,n2,a1,a2,a3⟩:=hs (j+1) d' S' n' hd (by rw[show k+(j+1)=k+1+j by omega];exact hI)
      rw[show k+(j+1)+1=k+1+j+1 by omega] at a3
      exact⟨S1,S2,n2,a1,a2,a3⟩
    refine⟨S',n',?_,?_⟩
    . show((bd d S).bind fun S1=>_)=_
      rw[e1,ZE,e2,ZE]
      exact e
    . rw[aaQ,show k+(ds.length+1)=k+1+ds.length by omega];exact h'
noncomputable def gr (L ns:List Nat) (j k:Nat):List D:=((List.range j).filter fun i=>na ns i == k).map fun i=>D.int (na L i:Nat)
noncomputable def sQ (L ns:List Nat) (c j:Nat):List (List D):=(List.range c).map (gr L ns j)
def oB (L ns:List Nat) (c j:Nat):(sQ L ns c j).length=c:=by unfold sQ;rw[Zw,ZK]
def By {j:Nat}(h:k < c):(sQ L ns c j)[k]? =some (gr L ns j k):=by unfold sQ;rw[ZF,ZX h];rfl
def HH (L ns:List Nat) (c:Nat):sQ L ns c 0=List.replicate c []:=by
 unfold sQ
 rw[List.eq_replicate_iff]
 exact⟨by rw[Zw,ZK],fun b hb=>by obtain⟨k,_,rfl⟩:=Z6.mp hb;rfl⟩
def CM (L ns:List Nat) (j k:Nat):gr L ns (j+1) k=gr L ns j k++if na ns j=k then [.int (na L j:Nat)] else []:=by
 unfold gr
 rw[abz,List.filter_append,aaa]
 by_cases h:na ns j=k
 ·rw[if_pos h,adt (by simpa using h)];rfl
 ·rw[if_neg h,adu (by simpa using h)];rfl
def HJ {j:Nat}(h:na ns j < c):(sQ L ns c j).set (na ns j) (gr L ns j (na ns j)++[.int (na L j:Nat)])=sQ L ns c (j+1):=by
 apply aaT
 intro k
 by_cases hk:k < c
 ·rw[By hk,CM]
  by_cases e:na ns j=k
  ·rw[if_pos e,e,aad (by rw[oB];exact hk)]
  ·rw[if_neg e,Z4 e,By hk,abJ]
 ·rw[Z0 (by rw[aaw,oB];omega),Z0 (by rw[oB];omega)]
def Of (L ns:List Nat) (j k:Nat):(gr L ns j k).length<=j:=by
 unfold gr
 rw[Zw]
 exact Z5 (acD _ _) (by rw[ZK];exact ZM _)
def CN   (h : vB ns c) (hk : k < c) : ∃ rest, gr L ns ns.length k = .int (na L (ns.idxOf k) : Nat) :: rest := by
  obtain⟨l,e⟩:=kh h hk
  have go : ∀ j, ns.idxOf k < j -> j <= ns.length -> ∃ rest, gr L ns j k = .int (na L (ns.idxOf k) : Nat) :: rest := by
    intro j
    induction j with
    | zero=>intro q;omega
    | succ j ih=>
      intro q ql
      rw[CM]
      by_cases z:ns.idxOf k < j
      . obtain⟨rest,er⟩:=ih z (by omega)
        rw[er]
        exact⟨_,List.cons_append ..⟩
      . have:ns.idxOf k=j:=by omega
        have emp:gr L ns j k=[]:=by
          unfold gr
          rw[List.map_eq_nil_iff,List.filter_eq_nil_iff]
          intro i hi
          have hi:=ZS.mp hi
          simp only[beq_iff_eq]
          intro w
          have:=oz (ns:=ns) (i:=i) (by omega) w
          omega
        rw[emp,<-this,if_pos e]
        exact⟨[],rfl⟩
  exact go ns.length l (ZM _)
section
variable {z0 z1 z2 z4 z6 z7 jL:Option U}{L ns:List Nat}{c:Nat}
noncomputable def yI (y:Option U):Nat->Option U
 | 0=>y
 | j+1=>some (.t (.int (j:Nat)))
noncomputable def yN (ns:List Nat):Nat->Option U
 | 0=>none
 | j+1=>some (.t (.int (na ns j:Nat)))
noncomputable abbrev gS (z0 z1 z2 z4 z6 z7 jL:Option U) (L ns:List Nat) (u9:U) (y5 Hi:Option U):SS:=[z0,z1,z2,ZA (.lst (iD L)),z4,y5,z6,z7,ZA (.lst (iD ns)),some u9,Hi,jL]
def KR {a:Addr}{HK:List D}{nest:List (List D)}{ds:List D}{j k:Int}{kk:Nat}{v:D}(h1:yC nest.length k=some kk) (h2:nest[kk]? =some ds) (h3:dF HK j=some v) (hl:ds.length < 100000):
  TX a [z0,z1,z2,ZA (.lst HK),z4,ZD j,z6,z7,ZA (.lst nums),some (.f a),ZD k,jL] nest=some ([z0,z1,z2,ZA (.lst HK),z4,ZD j,z6,z7,ZA (.lst nums),some (.f a),ZD k,jL],nest.set kk (ds++[v])):=by
 simp[zL,h1,h2,h3,hl,yE]
def tM {n:Nat}(h:k < n):yC n (k:Int)=some k:=by
 unfold yC
 rw[if_pos (abq k),if_pos (by omega),aaB]
def Og (h5:dM y5=false) (hc:vB ns c) (hl:ns.length=L.length) (hm:ns.length<=900) (a:Addr):
  pG 9 Wo (fW (aa (eF (aj 8)) ao)) TX a (gS z0 z1 z2 z4 z6 z7 jL L ns (.f a) y5 none) (List.replicate c [])=some (gS z0 z1 z2 z4 z6 z7 jL L ns (.f a) (yI y5 ns.length) (yN ns ns.length),sQ L ns c ns.length):=by
 obtain⟨S',n',e,rfl,rfl⟩:=qC (bd:=fun d S=>(Wo d S).bind fun S1=>if yE S1 9 a=true then some S1 else none) (g:=TX) (a:=a) (I:=fun j S n=>S=gS z0 z1 z2 z4 z6 z7 jL L ns (.f a) (yI y5 j) (yN ns j)/\n=sQ L ns c j) (dI (iD ns)) 0 (gS z0 z1 z2 z4 z6 z7 jL L ns (.f a) y5 none) (List.replicate c []) ⟨rfl,(HH L ns c).symm⟩ (by
  rintro j d S n hd ⟨rfl,rfl⟩
  rw[abu]
  rw[pI rfl,iX] at hd
  have hj:j < ns.length:=by have:=(Zy.mp hd).1;rwa [Zw,ZK] at this
  rw[ZF,ZX hj] at hd
  cases hd
  have kc:=hc.lt _ (cB hj)
  have gl:=Of L ns j (na ns j)
  have b5:dM (yI y5 j)=false:=by cases j with | zero=>exact h5 | succ j=>rfl
  have Y9:dM (yN ns j)=false:=by cases j with | zero=>rfl | succ j=>rfl
  refine⟨gS z0 z1 z2 z4 z6 z7 jL L ns (.f a) (ZD (j:Nat)) (ZD (na ns j:Nat)),_,_,?_,KR (tM (by rw[oB];exact kc)) (By kc) (iG (ns:=L) (by omega)) (by omega),?_,?_⟩
  ·simp[-cD,bL,b5,Y9,yE]
  ·rfl
  ·exact HJ kc)
 have el:(dI (iD ns)).length=ns.length:=by unfold dI iD;rw[abL,Zw]
 rw[el,abu] at e
 have eg:fW (aa (eF (aj 8)) ao) (gS z0 z1 z2 z4 z6 z7 jL L ns (.f a) y5 none)=some (dI (iD ns),gS z0 z1 z2 z4 z6 z7 jL L ns (.f a) y5 none):=rfl
 unfold pG
 rw[eg,ZE]
 have ef:yE (gS z0 z1 z2 z4 z6 z7 jL L ns (.f a) y5 none) 9 a=true:=by simp[yE]
 rw[if_pos ef]
 exact e
def HL (h5:dM y5=false) (hc:vB ns c) (hl:ns.length=L.length) (hm:ns.length<=900) (hpos:0 < ns.length):
  Wr f1 f2 [z0,z1,z2,ZA (.lst (iD L)),z4,y5,z6,z7,ZA (.lst (iD ns)),none,none,jL]=some (.nx (gS z0 z1 z2 z4 z6 z7 jL L ns (.t (.lst ((sQ L ns c ns.length).map D.lst))) (yI y5 ns.length) (yN ns ns.length))):=by
 have cpos:0 < c:=by have:=hc.lt _ (cB (ns:=ns) (i:=0) hpos);omega
 have XF:=yg hc
 have em:=Hj hc cpos
 have er:Wq [z0,z1,z2,ZA (.lst (iD L)),z4,y5,z6,z7,ZA (.lst (iD ns)),none,none,jL]=some (gT 0 c,[z0,z1,z2,ZA (.lst (iD L)),z4,y5,z6,z7,ZA (.lst (iD ns)),none,none,jL]):=by
  have e:(aa (eF (eP iz (aa (eF (eP kO (aa (eF (aj 8)) ao))) (aa (eC (.int 1)) ao)))) ao) [z0,z1,z2,ZA (.lst (iD L)),z4,y5,z6,z7,ZA (.lst (iD ns)),none,none,jL]=some ([.int (((c - 1:Nat):Int)+1)],[z0,z1,z2,ZA (.lst (iD L)),z4,y5,z6,z7,ZA (.lst (iD ns)),none,none,jL]):=by
   generalize iD ns=nn at em
   generalize ((c - 1:Nat):Int)=mx at em
   simp[em]
  have e2:((c - 1:Nat):Int)+1=((c:Nat):Int):=by omega
  rw[e2] at e
  have hb:c < 1000000:=by omega
  rw[show Wq _=_ from Sq.lI e (adh.mpr hb) (Sq.xZ _),aaB]
 unfold Wr uC
 rw[er,ZE]
 simp only[adv,ack]
 have rl:(gT 0 c).length=c:=Sq.i9 ..
 rw[rl,if_pos (by omega),uB (r:=gS z0 z1 z2 z4 z6 z7 jL L ns (.t (.lst ((sQ L ns c ns.length).map D.lst))) (yI y5 ns.length) (yN ns ns.length)) (fun a=>by
  rw[show([z0,z1,z2,ZA (.lst (iD L)),z4,y5,z6,z7,ZA (.lst (iD ns)),none,none,jL]:SS).set 9 (some (.f a))=gS z0 z1 z2 z4 z6 z7 jL L ns (.f a) y5 none from rfl,Og h5 hc hl hm a]
  rfl)]
 rfl
end
noncomputable abbrev Wu:GD:=aH 1 (aH 2 (eF (aj 0)))
noncomputable abbrev XG:GD:=(eF (eP bK (aa (eF (bw [2,3] (bM (aH 1 (aH 0 (eC (.int 0))))) aC (aH 1 (aH 2 (eF (aj 0)))))) ao)))
def HM {v p:Int}(h:d7 (.b o) (.int v)=some (.int p)) (h2:dF nums p=some x):aF [2,3] aC Wu [.int v] [z0,z1,ZA (.lst nums),some (.b o)] acc=some (acc++[x],[z0,z1,ZA (.lst nums),some (.b o)]):=by
 simp[aF,aY,cO,h,h2,aB]
def Oh (hl:ns.length=L.length) (h:∀c,c < W->g c∈L):aF [2,3] aC Wu (cX W g) [z0,z1,ZA (.lst (iD ns)),some (.b (qH L))] []=some (cX W fun c=>rD L ns (g c),[z0,z1,ZA (.lst (iD ns)),some (.b (qH L))]):=by
 unfold cX
 refine(gP (fun c=>D.int (g c:Nat)) (fun c=>D.int (rD L ns (g c):Nat)) (List.range W) [] fun c hc acc=>?_).trans (by rw[Z9])
 have m:=h c (ZS.mp hc)
 exact HM (LV m) (iG (by rw[hl];exact(k6 m).1))
def HN (h1:d7 (.t nt) (.int u)=some (.tup row)) (hl:row.length<=100000) (h2:∀z0 z1,aF [2,3] aC Wu row [z0,z1,ZA (.lst nums),some (.b o)] []=some (outs,[z0,z1,ZA (.lst nums),some (.b o)])):
  aF [0,8,4] aC XG [.lst (.int u :: rest)] [ZA nt,z1,z2,z3,some (.m o),z5,z6,z7,ZA (.lst nums),z9,qI,jL] acc=some (acc++[.tup outs],[ZA nt,z1,z2,z3,some (.m o),z5,z6,z7,ZA (.lst nums),z9,qI,jL]):=by
 have e0:dF (D.int u :: rest) 0=some (.int u):=Sq.q8 (Int.le_refl 0) rfl
 simp[aF,aY,cO,e0,h1,cz,bD,hl,h2,aB]
def KS (h:d7 (.t wt) (.int u)=some x):aF [1] aC (aH 1 (aH 0 (eC (.int 0)))) [.lst (.int u :: rest)] [z0,ZA wt,z2,z3,z4,z5,z6,z7,z8,z9,qI,jL] acc=some (acc++[x],[z0,ZA wt,z2,z3,z4,z5,z6,z7,z8,z9,qI,jL]):=by
 have e0:dF (D.int u :: rest) 0=some (.int u):=Sq.q8 (Int.le_refl 0) rfl
 simp[aF,aY,cO,e0,h,aB]
section
variable {W:Nat}{N:AAF}{L ns:List Nat}{c:Nat}{nt:D}{z1 z2 z3 z5 z6 z7 z9 qI jL:Option U}
def Oi (mo:fP W N) (hW:W < 1000) (hn:nt= .tup (N.map Sq.aV)\/nt= .lst (N.map Sq.aV)) (hL:∀v∈L,v < N.length) (cl:∀s c,s < L.length->c < W->bC N (na L s) c∈L) (hl:ns.length=L.length) (hc:vB ns c):
  aF [0,8,4] aC XG ((sQ L ns c ns.length).map D.lst) [ZA nt,z1,z2,z3,some (.m (qH L)),z5,z6,z7,ZA (.lst (iD ns)),z9,qI,jL] []=some ((List.range c).map fun k=>.tup (cX W fun col=>rD L ns (bC N (na L (ns.idxOf k)) col)),[ZA nt,z1,z2,z3,some (.m (qH L)),z5,z6,z7,ZA (.lst (iD ns)),z9,qI,jL]):=by
 unfold sQ
 rw[aaq]
 refine(gP (D.lst ∘ gr L ns ns.length) (fun k=>.tup (cX W fun col=>rD L ns (bC N (na L (ns.idxOf k)) col))) (List.range c) [] fun k hk acc=>?_).trans (by rw[Z9])
 have hk:=ZS.mp hk
 obtain⟨il,_⟩:=kh hc hk
 obtain⟨rest,er⟩:=CN (L:=L) hc hk
 show aF _ _ _ [.lst (gr L ns ns.length k)] _ _=_
 rw[er]
 exact HN (row:=cX W (bC N (na L (ns.idxOf k)))) (by rw[Aj hn];exact oA mo (hL _ (cB (by omega)))) (by rw[gO];omega) fun z0 z1=>Oh hl fun col uQ=>cl _ col (by omega) uQ
def R5 (hw:wt= .tup M\/wt= .lst M) (hL:∀v∈L,v < M.length) (hl:ns.length=L.length) (hc:vB ns c):
  aF [1] aC (aH 1 (aH 0 (eC (.int 0)))) ((sQ L ns c ns.length).map D.lst) [z0,ZA wt,z2,z3,z4,z5,z6,z7,z8,z9,qI,jL] []=some ((List.range c).map fun k=>aW M (na L (ns.idxOf k)),[z0,ZA wt,z2,z3,z4,z5,z6,z7,z8,z9,qI,jL]):=by
 unfold sQ
 rw[aaq]
 refine(gP (D.lst ∘ gr L ns ns.length) (fun k=>aW M (na L (ns.idxOf k))) (List.range c) [] fun k hk acc=>?_).trans (by rw[Z9])
 have hk:=ZS.mp hk
 obtain⟨il,_⟩:=kh hc hk
 obtain⟨rest,er⟩:=CN (L:=L) hc hk
 show aF _ _ _ [.lst (gr L ns ns.length k)] _ _=_
 rw[er]
 exact KS (by rw[Aj hw];exact qy (hL _ (cB (by omega))))
end
section
variable {W:Nat}{N:AAF}{M:List D}{L ns:List Nat}{c a:Nat}
theorem yi (cl:∀s c,s < L.length->c < W->bC N (na L s) c∈L):∀(cs:List Nat) (p:Nat),Vd W cs->p < L.length->led (wM N L) cs p < L.length/\na L (led (wM N L) cs p)=led (bC N) cs (na L p)
 | [],p,_,hp=>⟨hp,rfl⟩
 | col :: cs,p,hc,hp=>by
  have m:=cl p col hp (hc col ZJ)
  obtain⟨l,e⟩:=k6 m
  have:=yi cl cs (wM N L p col) (fun d hd=>hc d (ZI _ hd)) l
  refine⟨this.1,this.2.trans ?_⟩
  show led (bC N) cs (na L (L.idxOf (bC N (na L p) col)))=led (bC N) cs (bC N (na L p) col)
  rw[e]
def BA (hB:Bf (bC N) (fun v=>v) W L a 0) (ha:L.length<=a) (P:Part L.length W (wM N L) (fun s=>aW M (na L s)) ns c) (st:Ob L.length W (wM N L) ns):
  Canon W c (ow (bC N) (rD L ns) (rep L ns c)) (fun s=>aW M (na (rep L ns c) s))/\(∀cs,Vd W cs->aW M (na (rep L ns c) (led (ow (bC N) (rD L ns) (rep L ns c)) cs 0))=aW M (led (bC N) cs 0))/\
  ∀k col,k < c->col < W->ow (bC N) (rD L ns) (rep L ns c) k col=rD L ns (bC N (na L (ns.idxOf k)) col):=by
 have nd:L.Nodup:=by have:=hB.nd;rwa [aa3] at this
 have l0:0 < L.length:=(Zy.mp hB.zero).1
 have cl:∀s c,s < L.length->c < W->bC N (na L s) c∈L:=fun s col hs hc=>by
  have:=hB.seen s col _ hc (by unfold Er;omega) (bO hs)
  rwa [aa3] at this
 have m0:0∈L:=ZO hB.zero
 have bf:=N7 hB ha P.len P.cls P.fo fun s t col hs ht uQ e=>st s t col hs ht uQ e
 have rl:(rep L ns c).length=c:=by unfold rep;rw[Zw,ZK]
 have C:N5 (bC N) (aW M) (rD L ns) W (fun v=>v∈L):=⟨m0,fun s col hs hc=>by
   have:=cl _ col (k6 hs).1 hc
   rwa [(k6 hs).2] at this,fun s t col hs ht hc e=>by
   have:=st _ _ col (k6 hs).1 (k6 ht).1 hc e
   unfold wM at this
   rw[(k6 hs).2,(k6 ht).2] at this
   exact this,fun s t hs ht e=>by
   have:=P.word _ _ (k6 hs).1 (k6 ht).1 e
   rw[(k6 hs).2,(k6 ht).2] at this
   exact this,fun s t hs ht ne=>by
   obtain⟨cs,v,q⟩:=P.ne _ _ (k6 hs).1 (k6 ht).1 ne
   refine⟨cs,v,?_⟩
   rw[(yi cl cs _ v (k6 hs).1).2,(yi cl cs _ v (k6 ht).1).2,(k6 hs).2,(k6 ht).2] at q
   exact q⟩
 have hP:∀v∈rep L ns c,v∈L:=fun v hv=>by
  obtain⟨k,hk,rfl⟩:=Z6.mp hv
  have:=(kh P.cls (ZS.mp hk)).1
  exact cB (by rw[<-P.len];exact this)
 obtain⟨cn,bh⟩:=canon_of C bf (ZM _) hP
 rw[rl] at cn
 refine⟨cn,bh,fun k col hk uQ=>?_⟩
 have rk:na (rep L ns c) k=na L (ns.idxOf k):=uP hk
 unfold ow ix
 rw[rk,CJ nd P.len P.cls]
 have m:=cl (ns.idxOf k) col (by rw[<-P.len];exact(kh P.cls hk).1) uQ
 have lt:rD L ns (bC N (na L (ns.idxOf k)) col) < c:=P.cls.lt _ (cB (by rw[P.len];exact(k6 m).1))
 have:=ab2.idxOf_getElem (xs:=List.range c) (rD L ns (bC N (na L (ns.idxOf k)) col)) (by rw[ZK];exact lt)
 rwa [acX] at this
end
def Am {m:Nat}{f g:AAE}(h:∀s c,s < m->c < W->f s c=g s c):bz m W f=bz m W g:=by
 unfold bz
 refine aax fun s hs=>?_
 unfold cX
 congr 1
 exact aax fun c hc=>by rw[h s c (ZS.mp hs) (ZS.mp hc)]
def HP    {md:D} (mo : fP W N) (hW : W < 1000) (hn : nt = .tup (N.map Sq.aV) \/ nt = .lst (N.map Sq.aV)) (hM : M.length = N.length) (hw : wt = .tup M \/ wt = .lst M) (Wa : ∀ x ∈ M, Wd x)
    (hmd:md= .bV\/∃k:Int,md= .int k/\∀L ns c a,Bf (bC N) (fun v=>v) W L a 0->L.length<=a->(∀v∈L,v < N.length)->Part L.length W (wM N L) (fun s=>aW M (na L s)) ns c->(c:Int)<=k):
    ∃n' nx' m6 gs,pJ [.t nt,.t wt,.t md]=some (.t (.tup [.tup (bz n' W nx'),.tup ((List.range n').map m6),.lst gs]),[])/\Canon W n' nx' m6/\(∀cs,Vd W cs->m6 (led nx' cs 0)=aW M (led (bC N) cs 0))/\n'<=N.length/\(∀s,s < n'->m6 s∈M)/\gs.length<=N.length/\∀g∈gs,∃vs:List Nat,g= .lst (iD vs)/\vs.length<=N.length/\∀v∈vs,v < N.length:=by
  have few:=mo.few
  obtain⟨L,e0,hL,a,hB,ha⟩:=HC mo hn
  have nd:L.Nodup:=by have:=hB.nd;rwa [aa3] at this
  have l0:0 < L.length:=(Zy.mp hB.zero).1
  have lf:=ki nd hL
  have Oj:∀v∈L,v < M.length:=fun v hv=>by rw[hM];exact hL v hv
  have cl:∀s c,s < L.length->c < W->bC N (na L s) c∈L:=fun s col hs hc=>by
    have:=hB.seen s col _ hc (by unfold Er;omega) (bO hs)
    rwa [aa3] at this
  obtain⟨ns,c,e4,P,st⟩:=KN (m:=L.length) (W:=W) (f:=wM N L) (wd:=fun s=>aW M (na L s)) (md:=md) l0 (by omega) hW (fun s col hs hc=>(k6 (cl s col hs hc)).1) (fun s hs=>Wa _ (jq (Oj _ (cB hs)))) (hmd.imp id fun⟨k,z1,z2⟩=>⟨k,z1,fun ns c P=>z2 L ns c a hB ha hL P⟩)
  have Eh:=P.len
  have XF:=yg P.cls
  obtain⟨cn,bh,rows⟩:=BA (M:=M) hB ha P st
  refine⟨c,ow (bC N) (rD L ns) (rep L ns c),fun s=>aW M (na (rep L ns c) s),(sQ L ns c ns.length).map D.lst,?_,cn,bh,by omega,fun s hs=>?_,by rw[Zw,oB];omega,fun g hg=>?_⟩
  . have eL:(iD L).length<=100000:=by unfold iD;rw[Zw];omega
    have eG:((sQ L ns c ns.length).map D.lst).length<=100000:=by rw[Zw,oB];omega
    have s0:Wj reachF iP [ZA nt,ZA wt,ZA md,none,none,none,none,none,none,none,none,none]=some (.nx [ZA nt,ZA wt,ZA md,ZC (iD L),none,none,none,none,none,none,none,none]):=by
      generalize reachF=f1 at e0
      simp[Wj,e0]
    have s1:Wk reachF iP [ZA nt,ZA wt,ZA md,ZC (iD L),none,none,none,none,none,none,none,none]=some (.nx [ZA nt,ZA wt,ZA md,ZC (iD L),some (.m (.dct [])),none,none,none,none,none,none,none]):=by simp[Wk]
    obtain⟨y5,y6,h5,lp⟩:=KP (f1:=reachF) (f2:=iP) (z0:=ZA nt) (z1:=ZA wt) (z2:=ZA md) (z3:=ZA (.lst (iD L))) (y7:=none) (y8:=none) (y9:=none) (Hi:=none) (LW:=none) nd (by omega)
    have s2:Wl reachF iP [ZA nt,ZA wt,ZA md,ZC (iD L),some (.m (.dct [])),none,none,none,none,none,none,none]=some (.nx [ZA nt,ZA wt,ZA md,ZA (.lst (iD L)),some (.m (qH L)),y5,y6,none,none,none,none,none]):=by
      unfold Wl
      rw[pH]
      exact lp
    have s3:Wm reachF iP [ZA nt,ZA wt,ZA md,ZA (.lst (iD L)),some (.m (qH L)),y5,y6,none,none,none,none,none]=some (.nx [ZA nt,ZA wt,ZA md,ZA (.lst (iD L)),some (.m (qH L)),y5,y6,ZC (bz L.length W (wM N L)),none,none,none,none]):=by
      have:=Oe (L:=L) (z1:=ZA wt) (z2:=ZA md) (z3:=ZA (.lst (iD L))) (z5:=y5) (z6:=y6) (z7:=none) (z8:=none) (z9:=none) (qI:=none) (jL:=none) mo hW hn hL cl
      generalize iD L=l at this eL ⊢
      simp[Wm,cz,bD,eL,this]
    have s4:Wn reachF iP [ZA nt,ZA wt,ZA md,ZA (.lst (iD L)),some (.m (qH L)),y5,y6,ZC (bz L.length W (wM N L)),none,none,none,none]=some (.nx [ZA nt,ZA wt,ZA md,ZA (.lst (iD L)),some (.m (qH L)),y5,y6,ZA (.lst (bz L.length W (wM N L))),ZA (.lst (iD ns)),none,none,none]):=by
      have:=fun z7=>RZ (L:=L) (z0:=ZA nt) (z2:=ZA md) (z3:=ZA (.lst (iD L))) (z4:=some (.m (qH L))) (z5:=y5) (z6:=y6) (z7:=z7) (z8:=none) (z9:=none) (qI:=none) (jL:=none) hw Oj
      generalize iP=f2 at e4
      generalize iD L=l at this eL ⊢
      generalize bz L.length W (wM N L)=rr at e4 ⊢
      simp[Wn,cz,bD,eL,this,e4]
    have s5:=HL (f1:=reachF) (f2:=iP) (z0:=ZA nt) (z1:=ZA wt) (z2:=ZA md) (z4:=some (.m (qH L))) (z6:=y6) (z7:=ZA (.lst (bz L.length W (wM N L)))) (jL:=none) (L:=L) (y5:=y5) h5 P.cls Eh (by omega) (by omega)
    have s7:Ws reachF iP (gS (ZA nt) (ZA wt) (ZA md) (some (.m (qH L))) y6 (ZA (.lst (bz L.length W (wM N L)))) none L ns (.t (.lst ((sQ L ns c ns.length).map D.lst))) (yI y5 ns.length) (yN ns ns.length))=some (.nx (gS (ZA nt) (ZA wt) (ZA md) (some (.m (qH L))) y6 (ZA (.lst (bz L.length W (wM N L)))) (ZC (bz c W (ow (bC N) (rD L ns) (rep L ns c)))) L ns (.t (.lst ((sQ L ns c ns.length).map D.lst))) (yI y5 ns.length) (yN ns ns.length))):=by
      have:=fun z3 z5 z9 qI=>Oi (L:=L) (ns:=ns) (c:=c) (z1:=ZA wt) (z2:=ZA md) (z3:=z3) (z5:=z5) (z6:=y6) (z7:=ZA (.lst (bz L.length W (wM N L)))) (z9:=z9) (qI:=qI) (jL:=none) mo hW hn hL cl Eh P.cls
      have er:((List.range c).map fun k=>D.tup (cX W fun col=>rD L ns (bC N (na L (ns.idxOf k)) col)))=bz c W (ow (bC N) (rD L ns) (rep L ns c)):=by
        rw[<-Am fun s col hs uQ=>(rows s col hs uQ).symm]
        rfl
      rw[er] at this
      generalize bz c W (ow (bC N) (rD L ns) (rep L ns c))=rr at this ⊢
      generalize (sQ L ns c ns.length).map D.lst=gg at this eG ⊢
      simp[Ws,gS,cz,bD,eG,this]
    have all:∃S,Wt reachF iP (gS (ZA nt) (ZA wt) (ZA md) (some (.m (qH L))) y6 (ZA (.lst (bz L.length W (wM N L)))) (ZC (bz c W (ow (bC N) (rD L ns) (rep L ns c)))) L ns (.t (.lst ((sQ L ns c ns.length).map D.lst))) (yI y5 ns.length) (yN ns ns.length))=some (.rt (.t (.tup [.tup (bz c W (ow (bC N) (rD L ns) (rep L ns c))),.tup ((List.range c).map fun s=>aW M (na (rep L ns c) s)),.lst ((sQ L ns c ns.length).map D.lst)])) (ZA nt :: ZA wt :: ZA md :: S)):=by
      have:=fun z3 z5 z9 qI jL=>R5 (L:=L) (ns:=ns) (c:=c) (z0:=ZA nt) (z2:=ZA md) (z3:=z3) (z4:=some (.m (qH L))) (z5:=z5) (z6:=y6) (z7:=ZA (.lst (bz L.length W (wM N L)))) (z8:=ZA (.lst (iD ns))) (z9:=z9) (qI:=qI) (jL:=jL) hw Oj Eh P.cls
      have er:((List.range c).map fun k=>aW M (na L (ns.idxOf k)))=(List.range c).map fun s=>aW M (na (rep L ns c) s):=aax fun k hk=>by
        rw[show na (rep L ns c) k=na L (ns.idxOf k) from uP (ZS.mp hk)]
      rw[er] at this
      generalize bz c W (ow (bC N) (rD L ns) (rep L ns c))=rr at this ⊢
      generalize (sQ L ns c ns.length).map D.lst=gg at this eG ⊢
      generalize ((List.range c).map fun s=>aW M (na (rep L ns c) s))=ww at this ⊢
      exact⟨_,by simp[Wt,gS,cz,bD,eG,this];rfl⟩
    obtain⟨S,all⟩:=all
    refine rC (S:=ZA nt :: ZA wt :: ZA md :: S) ?_ rfl
    show fj reachF iP [ZA nt,ZA wt,ZA md,none,none,none,none,none,none,none,none,none]=_
    rw[RY,Sq.aO s0,Sq.aO s1,Sq.aO s2,Sq.aO s3,Sq.aO s4,Sq.aO s5,Sq.aO s7]
    exact all
  . show aW M (na (rep L ns c) s)∈M
    rw[show na (rep L ns c) s=na L (ns.idxOf s) from uP hs]
    exact jq (Oj _ (cB (by rw[<-Eh];exact(kh P.cls hs).1)))
  . obtain⟨x,hx,rfl⟩:=Z6.mp hg
    unfold sQ at hx
    obtain⟨k,_,rfl⟩:=Z6.mp hx
    have fl:((List.range ns.length).filter fun i=>na ns i == k).length<=N.length:=Z5 (acD _ _) (by rw[ZK];omega)
    refine⟨((List.range ns.length).filter fun i=>na ns i == k).map (na L),?_,by rw[Zw];exact fl,fun v hv=>?_⟩
    . unfold gr iD
      rw[aaq]
      rfl
    . obtain⟨i,hi,rfl⟩:=Z6.mp hv
      have:=ZS.mp (abb.mp hi).1
      exact hL _ (cB (by omega))
def wN {κ:Type}{f:Nat->κ}{l:List Nat}(h:(l.map f).Nodup):l.Nodup:=by
 rw[aa5,acs] at h
 rw[aa5]
 exact h.imp fun q e=>q (by rw[e])
section
variable {W:Nat}{N:AAF}{M:List D}
theorem BB (mo:Sq.gH W N) (hM:M.length=N.length) (hw:∀x∈M,x∈mW):∀i,∃(ns:List Nat) (c:Nat),ns.length=N.length/\vB ns c/\∀s t,s < N.length->t < N.length->(na ns s=na ns t↔D9 (bC N) (aW M) W i s t)
  | 0 => by
    refine⟨fX (M.map fun d=>(Sum.inr (tL d):Key)),_,by rw[j9,Zw,hM],kg _,fun s t hs ht=>?_⟩
    have get:∀i,i < N.length->(M.map fun d=>(Sum.inr (tL d):Key))[i]? =some (Sum.inr (tL (aW M i))):=fun i hi=>by
      rw[ZF,jo (by omega)];rfl
    rw[ou (get s hs) (get t ht)]
    constructor
    . intro h
      injection h with h
      exact Ht (hw _ (jq (by omega))) (hw _ (jq (by omega))) h
    . intro h
      rw[show aW M s=aW M t from h]
  | i + 1 => by
    obtain⟨ns,c,hl,hc,heq⟩:=BB mo hM hw i
    refine⟨next N W ns,_,by unfold next;rw[j9,Zw,ZK],kg _,fun s t hs ht=>?_⟩
    rw[next_eq hs ht,heq s t hs ht]
    constructor
    . rintro⟨a,b⟩
      exact⟨a,fun c hc=>(heq _ _ (dB mo hs hc).2 (dB mo ht hc).2).mp (b c hc)⟩
    . rintro⟨a,b⟩
      exact⟨a,fun c hc=>(heq _ _ (dB mo hs hc).2 (dB mo ht hc).2).mpr (b c hc)⟩
def Ol (N:AAF) (M:List D) (W i:Nat):Prop:=∀s t,s < N.length->t < N.length->D9 (bC N) (aW M) W i s t->D9 (bC N) (aW M) W (i+1) s t
theorem CO (mo : Sq.gH W N) (hM : M.length = N.length) (hw : ∀ x ∈ M, x ∈ mW) : ∀ i, Ol N M W i \/ ∃ (ns : List Nat) (c : Nat), ns.length = N.length /\ vB ns c /\ (∀ s t, s < N.length -> t < N.length -> (na ns s = na ns t ↔ D9 (bC N) (aW M) W i s t)) /\ i + 1 <= c
  | 0=>by
    obtain⟨ns,c,hl,hc,heq⟩:=BB mo hM hw 0
    have pos:=mo.pos
    have:=hc.lt _ (cB (ns:=ns) (i:=0) (by omega))
    exact .inr ⟨ns,c,hl,hc,heq,by omega⟩
  | i + 1 => by
    rcases CO mo hM hw i with st | ⟨ns,c,hl,hc,heq,le⟩
    . left
      intro s t hs ht e
      exact⟨e,fun c hc=>st _ _ (dB mo hs hc).2 (dB mo ht hc).2 (e.2 c hc)⟩
    . by_cases q:Ol N M W i
      . left
        intro s t hs ht e
        exact⟨e,fun c hc=>q _ _ (dB mo hs hc).2 (dB mo ht hc).2 (e.2 c hc)⟩
      . right
        obtain⟨n1,c1,hl1,hc1,Om⟩:=BB mo hM hw (i+1)
        refine⟨n1,c1,hl1,hc1,Om,?_⟩
        have:∃s t,s < N.length/\t < N.length/\D9 (bC N) (aW M) W i s t/\¬D9 (bC N) (aW M) W (i+1) s t:=by
          apply Z1
          intro z
          exact q fun s t hs ht e=>Z1 fun y=>z ⟨s,t,hs,ht,e,y⟩
        obtain⟨s,t,hs,ht,e1,e2⟩:=this
        have:=wL hc hc1 hl hl1 (fun a b ha hb w=>(heq a b ha hb).mpr ((Om a b ha hb).mp w).1) hs ht ((heq s t hs ht).mpr e1) fun w=>e2 ((Om s t hs ht).mp w)
        omega
def HQ (mo:Sq.gH W N) (hM:M.length=N.length) (hw:∀x∈M,x∈mW):Ol N M W N.length:=by
 rcases CO mo hM hw N.length with st | ⟨ns,c,hl,hc,_,le⟩
 ·exact st
 ·have:=yg hc;omega
theorem rows_eq {nx:AAE}{wd:Nat->D}:∀(i:Nat) (s t:Nat),(∀cs,Vd W cs->wd (led nx cs s)=wd (led nx cs t))->D9 nx wd W i s t
  | 0,s,t,h=>h [] fun c hc=>(by cases hc)
  | i + 1, s, t, h => ⟨rows_eq i s t h, fun c hc => rows_eq i _ _ fun cs v => h (c :: cs) fun x hx => by
      rcases ZV.mp hx with rfl | hx
      . exact hc
      . exact v x hx⟩
def KU (mo:Sq.gH W N) (hM:M.length=N.length) (hw:∀x∈M,x∈mW)(heq:∀s t,s < N.length->t < N.length->(na ns s=na ns t↔D9 (bC N) (aW M) W N.length s t)):N5 (bC N) (aW M) (na ns) W (fun v=>v < N.length) where
 zero:=mo.pos
 cl:=fun s c hs hc=>(dB mo hs hc).2
 eq:=fun s t c hs ht hc e=>(heq _ _ (dB mo hs hc).2 (dB mo ht hc).2).mpr ((HQ mo hM hw s t hs ht ((heq s t hs ht).mp e)).2 c hc)
 word:=fun s t hs ht e=>yc ((heq s t hs ht).mp e) [] (Z3 _) fun c hc=>(by cases hc)
 ne:=fun s t hs ht ne=>by
  apply Z1
  intro z
  exact ne ((heq s t hs ht).mpr (rows_eq _ s t fun cs v=>Z1 fun y=>z ⟨cs,v,y⟩))
end
noncomputable def mX (ns L:List Nat):MO:=.dct (ent 0 (kL (L.map (na ns))))
def HR {g:Nat}:xK (.m (mX ns L)) (.int (g:Nat))=some (decide (g∈L.map (na ns))):=by
 unfold mX
 rw[yf.has _ _ (Sum.inl (g:Int)) rfl]
 by_cases h:g∈L.map (na ns)
 ·rw[iW (rG.mpr h),aaC h];rfl
 ·rw[jm 0 (fun z=>h (rG.mp z)),aaf h];rfl
def R6 {g:Nat}(h:g∈L.map (na ns)):d7 (.b (mX ns L)) (.int (g:Nat))=some (.int ((L.map (na ns)).idxOf g:Nat)):=by
 unfold mX
 rw[yf.rb _ _ (Sum.inl (g:Int)) rfl,iW (rG.mpr h)]
 unfold kL
 rw[idx_map (κ:=Key) (fun v:Nat=>(Sum.inl (v:Int):Key)) (fun a b z=>by injection z with z;omega)]
def Oo {v:Nat}(h:na ns v∉L.map (na ns)) (hl:L.length < 1000):iS (mX ns L) (.int (na ns v:Nat)) (.int (L.length:Nat))=some (mX ns (L++[v])):=by
 unfold mX
 have e:(kL (L.map (na ns))).length=L.length:=by unfold kL;rw[Zw,Zw]
 rw[yf.wr _ _ (Sum.inl ((na ns v:Nat):Int)) _ rfl (by rw[mh,e];omega),<-e,tK (fun z=>h (rG.mp z)),aaa]
 unfold kL
 rw[aaa]
 rfl
noncomputable def cT (aJ:FM):GS:=
 (v7 (qB (qR true 3 (aH 2 (eF (aj 6))))) (aG (vt 3 (aH 2 (eF (aj 6))) (dZ 4))
 (jW (eT (eM 4 hAppend (aa (eF (aj 6)) ao))))) lV)
noncomputable def cU (aJ:FM):GS:=
 (v7 (qB (eF (eP B6 (aa (eF (aj 5)) (aa (dZ 4) ao))))) (gM (bName 6) (bM (aH 0 (aH 4 (eF (aj 5))))) (cT aJ)) lV)
noncomputable def iJ (aJ:FM):GS:=
 (aG (aR 2 (bq aJ (bg (eF (aj 0)) (bg (eF (aj 1)) cu))))
 (aG (aR 3 (xQ (aH 2 (eC (.int 0))) (eC (.int 0))))
 (aG (aR 4 (eP gX (aa (eC (.int 0)) ao)))
 (aG (gM (bName 5) (cS (aa (dZ 0) ao)) (cU aJ))
 (aG (aR 7 (bw [2,0,3] (bM (eF (aj 4))) aC (eF (eP bK (aa (eF (bw [1,3] (bM (aH 2 (eF (aj 0)))) aC (aH 2 (aH 1 (eF (aj 0)))))) ao)))))
 (aG (aR 8 (eP gW (aa (eF (eP bK (aa (eF (aj 7)) ao))) (aa (eF (eP bK (aa (eF (bw [1] (bM (eF (aj 4))) aC (aH 1 (eF (aj 0))))) ao))) ao))))
 (dH (eP gW (aa (eF (aj 8)) (aa (eF (bw [3] (bM (eF (aj 2))) aC (uw 1 (eF (aj 0)) (eC .bV)))) ao))))))))))
noncomputable def Wv (aJ:FM):GS:=
 (aR 2 (bq aJ (bg (eF (aj 0)) (bg (eF (aj 1)) cu))))
noncomputable def Ww (aJ:FM):GS:=
 (aR 3 (xQ (aH 2 (eC (.int 0))) (eC (.int 0))))
noncomputable def XH (aJ:FM):GS:=
 (aR 4 (eP gX (aa (eC (.int 0)) ao)))
noncomputable def Wx (aJ:FM):GS:=
 (gM (bName 5) (cS (aa (dZ 0) ao)) (cU aJ))
noncomputable def Wy (aJ:FM):GS:=
 (aR 7 (bw [2,0,3] (bM (eF (aj 4))) aC (eF (eP bK (aa (eF (bw [1,3] (bM (aH 2 (eF (aj 0)))) aC (aH 2 (aH 1 (eF (aj 0)))))) ao)))))
noncomputable def Wz (aJ:FM):GS:=
 (aR 8 (eP gW (aa (eF (eP bK (aa (eF (aj 7)) ao))) (aa (eF (eP bK (aa (eF (bw [1] (bM (eF (aj 4))) aC (aH 1 (eF (aj 0))))) ao))) ao))))
noncomputable def WA (aJ:FM):GS:=
 (dH (eP gW (aa (eF (aj 8)) (aa (eF (bw [3] (bM (eF (aj 2))) aC (uw 1 (eF (aj 0)) (eC .bV)))) ao))))
def R7 (aJ:FM):iJ aJ=aG (Wv aJ) (aG (Ww aJ) (aG (XH aJ) (aG (Wx aJ) (aG (Wy aJ) (aG (Wz aJ) (WA aJ)))))):=rfl
noncomputable def oE:FM:=bY 9 (iJ Ag)
def BC:∀us r,oE us=some r->bY 9 (iJ Ag) us=some r:=fun _ _ h=>h
section
variable {f:FM}{z0 z1 z5 z7 z8:Option U}{nums fs:List D}{o o':MO}{v g:Int}
def Oq (h1:dF nums v=some (.int g)) (h:xK (.m o) (.int g)=some true):cT f [z0,z1,ZC nums,some (.m o),ZC fs,z5,ZD v,z7,z8]=some (.nx [z0,z1,ZC nums,some (.m o),ZC fs,z5,ZD v,z7,z8]):=by
 simp[cT,qR,h1,h]
def R8 (h1:dF nums v=some (.int g)) (h:xK (.m o) (.int g)=some false) (h2:iS o (.int g) (.int (fs.length:Nat))=some o') (hf:fs.length < 100000):cT f [z0,z1,ZC nums,some (.m o),ZC fs,z5,ZD v,z7,z8]=some (.nx [z0,z1,ZC nums,some (.m o'),ZC (fs++[.int v]),z5,ZD v,z7,z8]):=by
 simp[cT,qR,h1,h,h2,hf,kJ,AW,hAppend]
end
section
variable {f:FM}{W:Nat}{N:AAF}{ns:List Nat}{z0 z1 z5 z7 z8:Option U}
def Ot (mo : Sq.gH W N) (hn : ns.length = N.length)  {u:Nat}  (h : Bf (bC N) (na ns) W L a 0) (hL : ∀ v ∈ L, v < N.length) (hu : L[a]? = some u) (h6 : dM x6 = false) :
    ∃L' rE,loop (bName 6) (cT f) ((List.range W).map fun c=>D.int (bC N u c:Nat)) [z0,z1,ZC (iD ns),some (.m (mX ns L)),ZC (iD L),z5,x6,z7,z8]=some (.nx [z0,z1,ZC (iD ns),some (.m (mX ns L')),ZC (iD L'),z5,rE,z7,z8])/\Bf (bC N) (na ns) W L' a W/\(∀v∈L',v < N.length)/\dM rE=false/\L.length<=L'.length:=by
  have few:=mo.few
  have un:u < N.length:=hL u (ZO hu)
  obtain⟨S',e,L',rE,b1,b2,b4,b5,b6,rfl⟩:=jk (bd:=bName 6) (body:=cT f) ((List.range W).map fun c=>D.int (bC N u c:Nat))
    (fun j S=>∃L' rE,Bf (bC N) (na ns) W L' a j/\(∀v∈L',v < N.length)/\dM rE=false/\L'[a]? =some u/\L.length<=L'.length/\S=[z0,z1,ZC (iD ns),some (.m (mX ns L')),ZC (iD L'),z5,rE,z7,z8])
    _ ⟨L,x6,h,hL,h6,hu,ZM _,rfl⟩ (by
    rintro j d S hd ⟨L',rE,b1,b2,b4,b5,b6,rfl⟩
    have hj:j < W:=by
      have:=(Zy.mp hd).1
      rwa [Zw,ZK] at this
    rw[ZF,ZX hj] at hd
    have hd:D.int (bC N u j:Nat)=d:=ZU hd
    subst hd
    have vn:=(dB mo un hj).2
    have nd:L'.Nodup:=wN b1.nd
    have lf:=ki nd b2
    have il:(iD L').length=L'.length:=by unfold iD;rw[Zw]
    refine⟨[z0,z1,ZC (iD ns),some (.m (mX ns L')),ZC (iD L'),z5,ZD (bC N u j:Nat),z7,z8],?_⟩
    by_cases m:na ns (bC N u j)∈L'.map (na ns)
    . refine⟨_,?_,Oq (iG (by omega)) (by rw[HR,aaC m]),L',ZD (bC N u j:Nat),b1.skip b5 m,b2,rfl,b5,b6,rfl⟩
      generalize ((bC N u j:Nat):Int)=jj
      simp[-cD,bL,b4]
    . refine⟨_,?_,R8 (iG (by omega)) (by rw[HR,aaf m]) (by rw[il];exact Oo m (by omega)) (by omega),L'++[bC N u j],ZD (bC N u j:Nat),b1.add b5 hj m,fun v hv=>?_,rfl,?_,by rw[ZZ];omega,by rw[qz]⟩
      . generalize ((bC N u j:Nat):Int)=jj
        simp[-cD,bL,b4]
      . rcases Z2.mp hv with q | q
        . exact b2 v q
        . rw[ZG.mp q];exact vn
      . rw[Z7 (Zy.mp b5).1];exact b5)
  rw[Zw,ZK] at b1
  exact⟨L',rE,e,b1,b2,b4,b6⟩
def R9 {o':MO}{a:Int}(ha:a < (fs.length:Nat)) (e1:dF fs a=some (.int u)) (e2:dF nd u=some (.tup row))
  (lp:loop (bName 6) (cT f) row [ZA (.tup nd),z1,ZC (iD ns),some (.m o),ZC fs,ZD a,x6,z7,z8]=some (.nx [ZA (.tup nd),z1,ZC (iD ns),some (.m o'),ZC fs',ZD a,rE,z7,z8])):
  cU f [ZA (.tup nd),z1,ZC (iD ns),some (.m o),ZC fs,ZD a,x6,z7,z8]=some (.nx [ZA (.tup nd),z1,ZC (iD ns),some (.m o'),ZC fs',ZD a,rE,z7,z8]):=by
 simp[cU,ha,e1,e2,cz,lp]
def Ov {a:Int}(ha:¬a < (fs.length:Nat)):cU f [ZA (.tup nd),z1,ZC (iD ns),some (.m o),ZC fs,ZD a,x6,z7,z8]=some (.nx [ZA (.tup nd),z1,ZC (iD ns),some (.m o),ZC fs,ZD a,x6,z7,z8]):=by
 simp[cU,ha]
def KW (mo:Sq.gH W N) (hn:ns.length=N.length):∃L z5 z6,loop (bName 5) (cU f) (gT 0 N.length) [ZA (nD N),z1,ZC (iD ns),some (.m (mX ns [0])),ZC (iD [0]),none,none,z7,z8]=some (.nx [ZA (nD N),z1,ZC (iD ns),some (.m (mX ns L)),ZC (iD L),z5,z6,z7,z8])/\Bf (bC N) (na ns) W L N.length 0/\(∀v∈L,v < N.length)/\L.length<=N.length:=by
 have few:=mo.few
 obtain⟨S',e,L,x5,x6,b1,b2,b5,b6,rfl⟩:=jk (bd:=bName 5) (body:=cU f) (gT 0 N.length)
  (fun j S=>∃L x5 x6,Bf (bC N) (na ns) W L j 0/\(∀v∈L,v < N.length)/\dM x5=false/\dM x6=false/\S=[ZA (nD N),z1,ZC (iD ns),some (.m (mX ns L)),ZC (iD L),x5,x6,z7,z8])
  _ ⟨[0],none,none,CF,fun v hv=>by rw[ZG.mp hv];exact mo.pos,rfl,rfl,rfl⟩ (by
  rintro j d S hd ⟨L,x5,x6,b1,b2,b5,b6,rfl⟩
  obtain⟨hj,rfl⟩:=qu hd
  have il:(iD L).length=L.length:=by unfold iD;rw[Zw]
  refine⟨[ZA (nD N),z1,ZC (iD ns),some (.m (mX ns L)),ZC (iD L),ZD (j:Nat),x6,z7,z8],?_⟩
  have eb:bName 5 (.int (j:Nat)) [ZA (nD N),z1,ZC (iD ns),some (.m (mX ns L)),ZC (iD L),x5,x6,z7,z8]=some [ZA (nD N),z1,ZC (iD ns),some (.m (mX ns L)),ZC (iD L),ZD (j:Nat),x6,z7,z8]:=by
   generalize (j:Int)=jj
   simp[-cD,bL,b5]
  by_cases c:j < L.length
  ·obtain⟨L',rE,e,c1,c2,c3,_⟩:=Ot (f:=f) (z0:=ZA (nD N)) (z1:=z1) (z5:=ZD (j:Nat)) (z7:=z7) (z8:=z8) mo hn b1 b2 (bO c) b6
   refine⟨_,eb,R9 (by rw[il];omega) (iG c) (oA (fP.of mo) (b2 _ (cB c))) e,L',_,rE,c1.row,c2,rfl,c3,rfl⟩
  ·exact⟨_,eb,Ov (by rw[il];omega),L,_,x6,b1.none (by omega),b2,rfl,b6,rfl⟩)
 rw[Sq.i9] at b1
 have nd:L.Nodup:=wN b1.nd
 exact⟨L,x5,x6,e,b1,b2,ki nd b2⟩
end
noncomputable abbrev WB:GD:=aH 2 (aH 1 (eF (aj 0)))
noncomputable abbrev XI:GD:=(eF (eP bK (aa (eF (bw [1,3] (bM (aH 2 (eF (aj 0)))) aC (aH 2 (aH 1 (eF (aj 0)))))) ao)))
def HS {v g:Int}(h:dF nums v=some (.int g)) (h2:d7 (.b o) (.int g)=some x):aF [1,3] aC WB [.int v] [z0,some (.b (.lst nums)),z2,some (.b o)] acc=some (acc++[x],[z0,some (.b (.lst nums)),z2,some (.b o)]):=by
 simp[aF,aY,cO,h,h2,aB]
def Ow (hg:∀c,c < W->g c < ns.length) (h:∀c,c < W->na ns (g c)∈L.map (na ns)):aF [1,3] aC WB (cX W g) [z0,some (.b (.lst (iD ns))),z2,some (.b (mX ns L))] []=some (cX W fun c=>ix (na ns) L (g c),[z0,some (.b (.lst (iD ns))),z2,some (.b (mX ns L))]):=by
 unfold cX
 refine(gP (fun c=>D.int (g c:Nat)) (fun c=>D.int (ix (na ns) L (g c):Nat)) (List.range W) [] fun c hc acc=>?_).trans (by rw[Z9])
 have hc:=ZS.mp hc
 exact HS (iG (hg c hc)) (R6 (h c hc))
def HU {dg:List D}{v:Int}(h1:dF dg v=some (.tup row)) (hl:row.length<=100000) (h2:∀z0 z2,aF [1,3] aC WB row [z0,some (.b (.lst nums)),z2,some (.b o)] []=some (outs,[z0,some (.b (.lst nums)),z2,some (.b o)])):
  aF [2,0,3] aC XI [.int v] [ZA (.tup dg),z1,ZC nums,some (.m o),z4,z5,z6,z7,z8] acc=some (acc++[.tup outs],[ZA (.tup dg),z1,ZC nums,some (.m o),z4,z5,z6,z7,z8]):=by
 simp[aF,aY,cO,h1,cz,bD,hl,h2,aB]
def KY {v:Int}(h:dF M v=some x):aF [1] aC (aH 1 (eF (aj 0))) [.int v] [z0,ZA (.tup M),z2,z3,z4,z5,z6,z7,z8] acc=some (acc++[x],[z0,ZA (.tup M),z2,z3,z4,z5,z6,z7,z8]):=by
 simp[aF,aY,cO,h,aB]
def KZ {g:Int}:aF [3] aC (uw 1 (eF (aj 0)) (eC .bV)) [.int g] [z0,z1,z2,some (.m (.dct kvs)),z4,z5,z6,z7,z8] acc=some (acc++[(aU kvs (.inl g)).getD .bV],[z0,z1,z2,some (.m (.dct kvs)),z4,z5,z6,z7,z8]):=by
 simp[aF,aY,cO,uw,uv,JK,keyOf,aB]
section
variable {W:Nat}{N:AAF}{M:List D}{ns L:List Nat}{z1 z4 z5 z6 z7 z8:Option U}
def Ox (mo:fP W N) (hW:W < 1000) (hn:ns.length=N.length) (hL:∀v∈L,v < N.length) (sn:∀s c,s < L.length->c < W->na ns (bC N (na L s) c)∈L.map (na ns)):
  aF [2,0,3] aC XI (iD L) [ZA (nD N),z1,ZC (iD ns),some (.m (mX ns L)),z4,z5,z6,z7,z8] []=some (bz L.length W (ow (bC N) (na ns) L),[ZA (nD N),z1,ZC (iD ns),some (.m (mX ns L)),z4,z5,z6,z7,z8]):=by
 rw[pI (ns:=L) rfl]
 refine(gP (fun s=>D.int (na L s:Nat)) (fun s=>.tup (cX W (ow (bC N) (na ns) L s))) (List.range L.length) [] fun s hs acc=>?_).trans (by rw[Z9];rfl)
 have hs:=ZS.mp hs
 have un:=hL _ (cB hs)
 exact HU (row:=cX W (bC N (na L s))) (oA mo un) (by rw[gO];omega) fun z0 z2=>Ow (fun c hc=>by rw[hn];exact(iH mo un hc).2) fun c hc=>sn s c hs hc
def Sa (hL:∀v∈L,v < M.length):aF [1] aC (aH 1 (eF (aj 0))) (iD L) [z0,ZA (.tup M),z2,z3,z4,z5,z6,z7,z8] []=some ((List.range L.length).map fun s=>aW M (na L s),[z0,ZA (.tup M),z2,z3,z4,z5,z6,z7,z8]):=by
 rw[pI rfl]
 refine(gP (fun s=>D.int (na L s:Nat)) (fun s=>aW M (na L s)) (List.range L.length) [] fun s hs acc=>?_).trans (by rw[Z9])
 exact KY (qy (hL _ (cB (ZS.mp hs))))
def Sd :aF [3] aC (uw 1 (eF (aj 0)) (eC .bV)) (iD ns) [z0,z1,z2,some (.m (.dct kvs)),z4,z5,z6,z7,z8] []=some ((List.range ns.length).map fun s=>(aU kvs (.inl ((na ns s:Nat):Int))).getD .bV,[z0,z1,z2,some (.m (.dct kvs)),z4,z5,z6,z7,z8]):=by
 rw[pI rfl]
 exact(gP (fun s=>D.int (na ns s:Nat)) (fun s=>(aU kvs (.inl ((na ns s:Nat):Int))).getD .bV) (List.range ns.length) [] fun s hs acc=>KZ).trans (by rw[Z9])
end
def Ej (mo:Sq.gH W N) (hW:W < 1000) (hM:M.length=N.length) (hw:∀x∈M,x∈mW):
  ∃n' nx' m6 gs,oE [.t (nD N),.t (.tup M)]=some (.t (.tup [.tup [.tup (bz n' W nx'),.tup ((List.range n').map m6)],.lst gs]),[])/\Canon W n' nx' m6/\(∀cs,Vd W cs->m6 (led nx' cs 0)=aW M (led (bC N) cs 0))/\n'<=N.length/\∀s,s < n'->m6 s∈M:=by
 have few:=mo.few
 have mk:=fP.of mo
 obtain⟨ns,c,e0,hl,hc,heq⟩:=RP mo hW hM hw
 have C:=KU mo hM hw heq
 obtain⟨L,y5,y6,lp,bf,hL,lf⟩:=KW (f:=Ag) (z1:=ZA (.tup M)) (z7:=none) (z8:=none) mo hl
 have l0:0 < L.length:=(Zy.mp bf.zero).1
 have Oj:∀v∈L,v < M.length:=fun v hv=>by rw[hM];exact hL v hv
 have sn:∀s c,s < L.length->c < W->na ns (bC N (na L s) c)∈L.map (na ns):=fun s c hs hc=>bf.seen s c _ hc (by unfold Er;omega) (bO hs)
 obtain⟨cn,bh⟩:=canon_of C bf lf hL
 refine⟨L.length,ow (bC N) (na ns) L,fun s=>aW M (na L s),(List.range ns.length).map fun s=>(aU (ent 0 (kL (L.map (na ns)))) (.inl ((na ns s:Nat):Int))).getD .bV,?_,cn,bh,lf,fun s hs=>jq (Oj _ (cB hs))⟩
 have eL:(iD L).length<=100000:=by unfold iD;rw[Zw];omega
 have eN:(iD ns).length<=100000:=by unfold iD;rw[Zw];omega
 have s0:Wv Ag [ZA (nD N),ZA (.tup M),none,none,none,none,none,none,none]=some (.nx [ZA (nD N),ZA (.tup M),ZC (iD ns),none,none,none,none,none,none]):=by
  generalize Ag=f at e0
  generalize nD N=nd at e0
  simp[Wv,e0]
 have s1:Ww Ag [ZA (nD N),ZA (.tup M),ZC (iD ns),none,none,none,none,none,none]=some (.nx [ZA (nD N),ZA (.tup M),ZC (iD ns),some (.m (mX ns [0])),none,none,none,none,none]):=by
  have e:=iG (ns:=ns) (s:=0) (by have:=mo.pos;omega)
  have e:dF (iD ns) 0=some (.int (na ns 0:Nat)):=e
  have eo:mX ns [0]= .dct [(.inl ((na ns 0:Nat):Int),.int 0)]:=rfl
  rw[eo]
  generalize iD ns=l at e
  generalize ((na ns 0:Nat):Int)=g at e
  simp[Ww,e]
 have s2:XH Ag [ZA (nD N),ZA (.tup M),ZC (iD ns),some (.m (mX ns [0])),none,none,none,none,none]=some (.nx [ZA (nD N),ZA (.tup M),ZC (iD ns),some (.m (mX ns [0])),ZC (iD [0]),none,none,none,none]):=rfl
 have s3:Wx Ag [ZA (nD N),ZA (.tup M),ZC (iD ns),some (.m (mX ns [0])),ZC (iD [0]),none,none,none,none]=some (.nx [ZA (nD N),ZA (.tup M),ZC (iD ns),some (.m (mX ns L)),ZC (iD L),y5,y6,none,none]):=by
  have g:=yh (dg:=N.map Sq.aV) (z:=[ZA (.tup M),ZC (iD ns),some (.m (mX ns [0])),ZC (iD [0]),none,none,none,none]) (by rw[Zw];omega)
  rw[Zw] at g
  unfold Wx
  rw[pH,show cS (aa (dZ 0) ao) [ZA (nD N),ZA (.tup M),ZC (iD ns),some (.m (mX ns [0])),ZC (iD [0]),none,none,none,none]=some (gT 0 N.length,[ZA (nD N),ZA (.tup M),ZC (iD ns),some (.m (mX ns [0])),ZC (iD [0]),none,none,none,none]) from g]
  exact lp
 have s4:Wy Ag [ZA (nD N),ZA (.tup M),ZC (iD ns),some (.m (mX ns L)),ZC (iD L),y5,y6,none,none]=some (.nx [ZA (nD N),ZA (.tup M),ZC (iD ns),some (.m (mX ns L)),ZA (.lst (iD L)),y5,y6,ZC (bz L.length W (ow (bC N) (na ns) L)),none]):=by
  have:=fun z4=>Ox (ns:=ns) (L:=L) (z1:=ZA (.tup M)) (z4:=z4) (z5:=y5) (z6:=y6) (z7:=none) (z8:=none) mk hW hl hL sn
  generalize iD L=l at this eL ⊢
  simp[Wy,cz,bD,eL,this]
 have s5:Wz Ag [ZA (nD N),ZA (.tup M),ZC (iD ns),some (.m (mX ns L)),ZA (.lst (iD L)),y5,y6,ZC (bz L.length W (ow (bC N) (na ns) L)),none]=some (.nx [ZA (nD N),ZA (.tup M),ZC (iD ns),some (.m (mX ns L)),ZA (.lst (iD L)),y5,y6,ZA (.lst (bz L.length W (ow (bC N) (na ns) L))),ZA (.tup [.tup (bz L.length W (ow (bC N) (na ns) L)),.tup ((List.range L.length).map fun s=>aW M (na L s))])]):=by
  have:=fun z7=>Sa (M:=M) (L:=L) (z0:=ZA (nD N)) (z2:=ZC (iD ns)) (z3:=some (.m (mX ns L))) (z4:=ZA (.lst (iD L))) (z5:=y5) (z6:=y6) (z7:=z7) (z8:=none) Oj
  generalize iD L=l at this eL ⊢
  generalize bz L.length W (ow (bC N) (na ns) L)=rr at this ⊢
  generalize ((List.range L.length).map fun s=>aW M (na L s))=ww at this ⊢
  simp[Wz,cz,bD,eL,this]
 have all:∃S,WA Ag [ZA (nD N),ZA (.tup M),ZC (iD ns),some (.m (mX ns L)),ZA (.lst (iD L)),y5,y6,ZA (.lst (bz L.length W (ow (bC N) (na ns) L))),ZA (.tup [.tup (bz L.length W (ow (bC N) (na ns) L)),.tup ((List.range L.length).map fun s=>aW M (na L s))])]=some (.rt (.t (.tup [.tup [.tup (bz L.length W (ow (bC N) (na ns) L)),.tup ((List.range L.length).map fun s=>aW M (na L s))],.lst ((List.range ns.length).map fun s=>(aU (ent 0 (kL (L.map (na ns)))) (.inl ((na ns s:Nat):Int))).getD .bV)])) (ZA (nD N) :: ZA (.tup M) :: S)):=by
  have:=fun z2=>Sd (ns:=ns) (kvs:=ent 0 (kL (L.map (na ns)))) (z0:=ZA (nD N)) (z1:=ZA (.tup M)) (z2:=z2) (z4:=ZA (.lst (iD L))) (z5:=y5) (z6:=y6) (z7:=ZA (.lst (bz L.length W (ow (bC N) (na ns) L)))) (z8:=ZA (.tup [.tup (bz L.length W (ow (bC N) (na ns) L)),.tup ((List.range L.length).map fun s=>aW M (na L s))]))
  unfold mX
  generalize ((List.range ns.length).map fun s=>(aU (ent 0 (kL (L.map (na ns)))) (.inl ((na ns s:Nat):Int))).getD .bV)=gg at this ⊢
  generalize iD ns=l at this eN ⊢
  generalize bz L.length W (ow (bC N) (na ns) L)=rr at this ⊢
  generalize ((List.range L.length).map fun s=>aW M (na L s))=ww at this ⊢
  exact⟨_,by simp[WA,cz,bD,eN,this];rfl⟩
 obtain⟨S,all⟩:=all
 refine rC (S:=ZA (nD N) :: ZA (.tup M) :: S) ?_ rfl
 show iJ Ag [ZA (nD N),ZA (.tup M),none,none,none,none,none,none,none]=_
 rw[R7,Sq.aO s0,Sq.aO s1,Sq.aO s2,Sq.aO s3,Sq.aO s4,Sq.aO s5]
 exact all
end Sk
end
section
namespace Se
open PySem PySem.Spec PyProof.Rows L2 Sw Sl Sk
variable {N:AAF}{W c a u n:Nat}{nd fs M rows:List D}{L:List Nat}{x1 x4 nt z3 z0 z1 z2 z4 x9 x8:Option U}{nx:AAE}{ps:List (Nat × Nat)}{f1 f2:FM}{T:AAG}{wd:Nat->D}
def Rc (N:AAF) (W s t:Nat):Prop:=∃cs,Vd W cs/\led (bC N) cs s=t
def oF {s:Nat}:Rc N W s s:=⟨[],(fun _ h=>nomatch h),rfl⟩
def K0 {s t:Nat}(h:Rc N W s t) (hc:c < W):Rc N W s (bC N t c):=by
 obtain⟨cs,v,rfl⟩:=h
 exact⟨cs++[c],mj v (nK hc),by rw[eB];rfl⟩
def CP {s t:Nat}(hc:c < W) (h:Rc N W (bC N s c) t):Rc N W s t:=by
 obtain⟨cs,v,rfl⟩:=h
 exact⟨c :: cs,fun d hd=>(ZV.mp hd).elim (fun z=>z▸hc) (v d),rfl⟩
def uR {s t:Nat}(mo:fP W N) (hs:s < N.length) (h:Rc N W s t):t < N.length:=by
 obtain⟨cs,v,rfl⟩:=h
 induction cs generalizing s with
 | nil=>exact hs
 | cons c cs ih=>
  have:=v c ZJ
  exact ih (iH mo hs this).2 (fun d hd=>v d (ZI _ hd))
def Ek {s t:Nat}{P:Nat->Prop}(h0:P s) (h1:∀u c,P u->c < W->P (bC N u c)) (h:Rc N W s t):P t:=by
 obtain⟨cs,v,rfl⟩:=h
 induction cs generalizing s with
 | nil=>exact h0
 | cons c cs ih=>exact ih (h1 s c h0 (v c ZJ)) (fun d hd=>v d (ZI _ hd))
noncomputable def gR:GS:=
 (aG (aR 4 (eP xS (aa (aH 0 (aH 2 (eF (aj 3)))) ao)))
 (aG (jW (eT (eM 2 i8 (aa (eF (bw [2] (bM (eF (aj 4))) (qB (A1 true 1 (eF (aj 0)))) (eF (aj 0)))) ao))))
 (aR 3 (eP iz (aa (eF (aj 3)) (aa (eC (.int 1)) ao))))))
noncomputable def dX:GS:=
 (aG (aR 2 (eP gX (aa (eF (aj 1)) ao)))
 (aG (aR 3 (eT (eC (.int 0))))
 (aG (lX 100000 (qB (eF (eP B6 (aa (eF (aj 3)) (aa (dZ 2) ao))))) (gR))
 (dH (aj 2)))))
noncomputable def je:FM:=bY 5 dX
def BD:∀us r,je us=some r->bY 5 dX us=some r:=fun _ _ h=>h
theorem uS:∀l:List Nat,aV (iD l)=some (l.map fun n=>((n:Nat):Int))
 | []=>rfl
 | n :: l=>by
  show aV (.int _ :: iD l)=_
  simp[aV,uS l]
theorem HV:∀l:List Nat,bH (iD l)=0
 | []=>by simp[iD,bH]
 | n :: l=>by
  show bH (.int _ :: iD l)=0
  simp[bH,HV l]
def Oz {v:Nat}{l:List Nat}:inD (.int (v:Nat)) (iD l)=decide (v∈l):=by
 unfold inD iD
 induction l with
 | nil=>rfl
 | cons n l ih=>
  rw[aae,abA,ih,Kf]
  by_cases h:v=n
  ·subst h;simp
  ·have:((n:Int) == (v:Int))=false:=by simpa using fun z=>h (by omega)
   rw[this];simp[h]
def HW (l:List Nat):∃l':List Nat,sortI (l.map fun n=>((n:Nat):Int))=l'.map (fun n=>((n:Nat):Int))/\l'.Nodup/\∀v,v∈l'↔v∈l:=by
 have hm:∀k,k∈sortI (l.map fun n=>((n:Nat):Int))↔∃n∈l,((n:Nat):Int)=k:=fun k=>by rw[wI,Z6]
 have nd:=GK (l.map fun n=>((n:Nat):Int))
 have hl:∀z:List Int,(∀k∈z,∃n:Nat,(n:Int)=k)->z.Nodup->∃l':List Nat,z=l'.map (fun n=>((n:Nat):Int))/\l'.Nodup:=by
  intro z
  induction z with
  | nil=>intro _ _;exact⟨[],rfl,aa0⟩
  | cons k z ih=>
   intro h nd
   obtain⟨n,rfl⟩:=h k ZJ
   obtain⟨l',rfl,WC⟩:=ih (fun k hk=>h k (ZI _ hk)) (aav.mp nd).2
   refine⟨n :: l',rfl,aav.mpr ⟨fun hn=>(aav.mp nd).1 (Z6.mpr ⟨n,hn,rfl⟩),WC⟩⟩
 obtain⟨l',e,WC⟩:=hl _ (fun k hk=>by obtain⟨n,_,q⟩:=(hm k).mp hk;exact⟨n,q⟩) nd
 refine⟨l',e,WC,fun v=>?_⟩
 have:=hm (v:Int)
 rw[e,Z6] at this
 constructor
 ·intro hv
  obtain⟨n,hn,q⟩:=this.mp ⟨v,hv,rfl⟩
  have:n=v:=by omega
  exact this▸hn
 ·intro hv
  obtain⟨n,hn,q⟩:=this.mpr ⟨v,hv,rfl⟩
  have:n=v:=by omega
  exact this▸hn
noncomputable abbrev WD:GT:=qB (A1 true 1 (eF (aj 0)))
theorem yj {L:List Nat}{z0 z1 z3 z4:Option U}:∀(vs:List Nat) (acc:List Nat),aF [2] WD (eF (aj 0)) (iD vs) [z0,z1,ZC (iD L),z3,z4] (iD acc)=some (iD (acc++vs.filter fun v=>decide (v∉L)),[z0,z1,ZC (iD L),z3,z4])
  | [],acc=>by simp[iD,aF]
  | v :: vs, acc => by
    have d0:bH (iD L)<=40:=by rw[HV];omega
    have hi:=Oz (v:=v) (l:=L)
    show aF [2] WD (eF (aj 0)) (.int (v:Nat) :: iD vs) _ _=_
    by_cases h:v∈L
    . have ih:=yj (L:=L) (z0:=z0) (z1:=z1) (z3:=z3) (z4:=z4) vs acc
      rw[aaC h] at hi
      rw[show(v :: vs).filter (fun v=>decide (v∉L))=vs.filter (fun v=>decide (v∉L)) by simp[h]]
      generalize vs.filter (fun v=>decide (v∉L))=fl at *
      generalize iD L=l at *
      generalize iD acc=a at *
      generalize ((v:Nat):Int)=k at *
      simp[aF,aY,cO,A1,sf,hi,d0,aB]
      exact ih
    . have ih:=yj (L:=L) (z0:=z0) (z1:=z1) (z3:=z3) (z4:=z4) vs (acc++[v])
      rw[aaf h] at hi
      rw[show(v :: vs).filter (fun v=>decide (v∉L))=v :: vs.filter (fun v=>decide (v∉L)) by simp[h]]
      rw[qz] at ih
      rw[aar,aa9] at ih
      generalize vs.filter (fun v=>decide (v∉L))=fl at *
      generalize iD L=l at *
      generalize iD acc=a at *
      generalize ((v:Nat):Int)=k at *
      simp[aF,aY,cO,A1,sf,hi,d0,aB]
      exact ih
def K1 {L2 row:List Nat}{l':List Nat}(h4:dM x4=false) (e1:L[a]? =some u) (e2:dF nd (u:Int)=some (.tup (iD row))) (hr:row.length < 64) (hs:sortI (row.map fun n=>((n:Nat):Int))=l'.map (fun n=>((n:Nat):Int)))
  (hl:L.length+l'.length<=2000) (h2:L2=L++l'.filter fun v=>decide (v∉L)):
  gR [ZA (.tup nd),x1,ZC (iD L),ZD (a:Nat),x4]=some (.nx [ZA (.tup nd),x1,ZC (iD L2),ZD ((a+1:Nat):Int),ZA (.lst (iD l'))]):=by
 subst h2
 have lt:=(Zy.mp e1).1
 have q1:dF (iD L) (a:Int)=some (.int (u:Nat)):=by
  rw[iG lt]
  have:=bO lt
  rw[e1] at this
  rw[<-ZU this]
 have q2:xS [.tup (iD row)]=ZC (iD l'):=by
  show(aV (iD row)).bind _=_
  rw[uS,ZE,if_pos (by rw[Zw];exact hr),hs,aaq]
  rfl
 have q3:=yj (L:=L) (z0:=ZA (.tup nd)) (z1:=x1) (z3:=ZD (a:Nat)) (z4:=ZA (.lst (iD l'))) l' []
 have q4:(iD l').length<=100000:=by unfold iD;rw[Zw];omega
 have q5:(iD L).length+(iD (l'.filter fun v=>decide (v∉L))).length<=100000:=by
  unfold iD;rw[Zw,Zw]
  have:=acD (fun v=>decide (v∉L)) l'
  omega
 have q6:iD L++iD (l'.filter fun v=>decide (v∉L))=iD (L++l'.filter fun v=>decide (v∉L)):=by unfold iD;rw[aaa]
 have q7:((a+1:Nat):Int)=(a:Int)+1:=by omega
 rw[Z9] at q3
 rw[q7,<-q6]
 generalize iD (l'.filter fun v=>decide (v∉L))=fl at *
 generalize iD L=il at *
 generalize iD l'=TY at *
 generalize iD row=ir at *
 generalize (a:Int)=ai at *
 generalize (u:Int)=ui at *
 have Za:aF [2] WD (eF (aj 0)) TY [ZA (.tup nd),x1,ZC il,ZD ai,ZA (.lst TY)] []=_:=q3
 unfold gR
 rw[Sq.aO (S1:=[ZA (.tup nd),x1,ZC il,ZD ai,ZC TY]) (by simp[-cD,bL,q1,e2,q2,h4]),
  Sq.aO (S1:=[ZA (.tup nd),x1,ZC (il++fl),ZD ai,ZA (.lst TY)]) (by simp[-cD,bL,cz,bD,q4,Za,i8,q5,AW,kJ])]
 simp
def OA {s:Nat}(mo:fP W N) (h:s < N.length):dF (N.map Sq.aV) (s:Int)=some (.tup (iD ((List.range W).map (bC N s)))):=by
 rw[oA mo h]
 unfold iD
 rw[aaq]
 rfl
def K2 :(qB (eF (eP B6 (aa (eF (aj 3)) (aa (dZ 2) ao))))) [ZA (.tup nd),x1,ZC fs,ZD (a:Nat),x4]=some (decide (a < fs.length),[ZA (.tup nd),x1,ZC fs,ZD (a:Nat),x4]):=by
 simp
theorem CQ {W : Nat} {N : List (List Int)} {s : Nat} {x1 : Option U} (mo : fP W N) (hW : W < 64) (hs : s < N.length) : ∀ (m a : Nat) (L : List Nat) (x4 : Option U), N.length < a + m -> a <= L.length -> L.Nodup -> (∀ v ∈ L, Rc N W s v) -> (∀ i, i < a -> ∀ c, c < W -> bC N (na L i) c ∈ L) -> L[0]? = some s -> dM x4 = false ->
    ∃L' z3 z4,mK (qB (eF (eP B6 (aa (eF (aj 3)) (aa (dZ 2) ao))))) gR m [ZA (nD N),x1,ZC (iD L),ZD (a:Nat),x4]=some (.nx [ZA (nD N),x1,ZC (iD L'),z3,z4])/\(∀t,t∈L'↔Rc N W s t)/\L'.length<=N.length/\L'[0]? =some s
  | 0,a,L,x4,hm,ha,nd,hr,hc,h0,h4=>by
    have lf:=ki nd (fun v hv=>uR mo hs (hr v hv))
    omega
  | m + 1, a, L, x4, hm, ha, nd, hr, hc, h0, h4 => by
    have few:=mo.few
    have lf:=ki nd (fun v hv=>uR mo hs (hr v hv))
    have il:(iD L).length=L.length:=by unfold iD;rw[Zw]
    unfold mK
    rw[show(qB (eF (eP B6 (aa (eF (aj 3)) (aa (dZ 2) ao))))) [ZA (nD N),x1,ZC (iD L),ZD (a:Nat),x4]=_ from K2,ZE,il]
    by_cases c:a < L.length
    . rw[aaC c]
      simp only[if_true]
      have hu:=bO c
      have un:na L a < N.length:=uR mo hs (hr _ (cB c))
      obtain⟨l',e,XJ,hl⟩:=HW ((List.range W).map (bC N (na L a)))
      have ll:l'.length<=N.length:=ki XJ fun v hv=>by
        obtain⟨k,hk,rfl⟩:=Z6.mp ((hl v).mp hv)
        exact(iH mo un (ZS.mp hk)).2
      rw[K1 h4 hu (OA mo un) (by rw[Zw,ZK];exact hW) e (by omega) rfl,ZE]
      refine CQ mo hW hs m (a+1) _ _ (by omega) (by rw[ZZ];omega) ?_ ?_ ?_ ?_ rfl
      . refine abl.mpr ⟨nd,XJ.filter _,fun x hx y hy z=>?_⟩
        subst z
        have:=(abb.mp hy).2
        simp at this
        exact this hx
      . intro v hv
        rcases Z2.mp hv with q | q
        . exact hr v q
        . obtain⟨k,hk,rfl⟩:=Z6.mp ((hl v).mp (abb.mp q).1)
          exact K0 (hr _ (cB c)) (ZS.mp hk)
      . intro i hi d hd
        rw[show na (L++l'.filter fun v=>decide (v∉L)) i=na L i by
          unfold na;rw[ZN,ZN,Z7 (by omega)]]
        rw[Z2]
        by_cases e:i < a
        . exact .inl (hc i e d hd)
        . have:i=a:=by omega
          subst this
          by_cases q:bC N (na L i) d∈L
          . exact .inl q
          . exact .inr (abb.mpr ⟨(hl _).mpr (Z6.mpr ⟨d,ZS.mpr hd,rfl⟩),by simpa using q⟩)
      . rw[Z7 (by omega)];exact h0
    . rw[aaf c]
      refine⟨L,_,x4,rfl,fun t=>⟨hr t,fun h=>?_⟩,lf,h0⟩
      refine Ek (P:=(·∈L)) (ZO h0) (fun u d hu hd=>?_) h
      obtain⟨i,hi,e⟩:=aaJ hu
      have:na L i=u:=by
        have:=bO hi
        rw[Zz hi,e] at this
        exact(ZU this).symm
      rw[<-this]
      exact hc i (by omega) d hd
def El {s:Nat}(mo:fP W N) (hW:W < 64) (hs:s < N.length):∃L,je [.t (nD N),.t (.int (s:Nat))]=some (.m (.lst (iD L)),[])/\(∀t,t∈L↔Rc N W s t)/\L.length<=N.length/\L[0]? =some s:=by
 have few:=mo.few
 obtain⟨L,z3,z4,e,h1,h2,h3⟩:=CQ (x1:=ZD (s:Nat)) mo hW hs 100000 0 [s] none (by omega) (Z3 _) (by simp) (fun v hv=>by rw[ZG.mp hv];exact oF) (fun i hi=>by omega) rfl rfl
 refine⟨L,?_,h1,h2,h3⟩
 have all:dX [ZA (nD N),ZD (s:Nat),none,none,none]=some (.rt (.m (.lst (iD L))) [ZA (nD N),ZD (s:Nat),none,z3,z4]):=by
  unfold dX
  rw[Sq.aO (S1:=[ZA (nD N),ZD (s:Nat),ZC (iD [s]),none,none]) rfl,Sq.aO (S1:=[ZA (nD N),ZD (s:Nat),ZC (iD [s]),ZD ((0:Nat):Int),none]) rfl,Sq.aO (show lX 100000 _ _ _=_ from e)]
  generalize iD L=l
  simp
 show(dX [ZA (nD N),ZD (s:Nat),none,none,none]).bind _=_
 rw[all]
 rfl
def fu (N:AAF) (M:List D) (W s:Nat) (b:Bool):Prop:=∃t,Rc N W s t/\aW M t= .bl b
open Classical in
noncomputable def vw (N:AAF) (M:List D) (W s:Nat):D:=if fu N M W s true then(if fu N M W s false then .str "open" else .str "yes") else .str "no"
def kM (M:List D):Prop:=∀x∈M,∃b,x= .bl b
def wO {s:Nat}(h:kM M) (hs:s < M.length):∃b,aW M s= .bl b:=h _ (jq hs)
def ym {s:Nat}(h:fu N M W s true) (h2:¬fu N M W s false):vw N M W s= .str "yes":=by unfold vw;rw[if_pos h,if_neg h2]
def yp {s:Nat}(h:fu N M W s true) (h2:fu N M W s false):vw N M W s= .str "open":=by unfold vw;rw[if_pos h,if_pos h2]
def CS {s:Nat}(h:¬fu N M W s true):vw N M W s= .str "no":=by unfold vw;rw[if_neg h]
def HX (N:AAF) (M:List D) (W s:Nat):vw N M W s= .str "yes"\/vw N M W s= .str "no"\/vw N M W s= .str "open":=by
 unfold vw
 split
 ·split
  ·exact .inr (.inr rfl)
  ·exact .inl rfl
 ·exact .inr (.inl rfl)
def An {s:Nat}(mo:fP W N) (hM:M.length=N.length) (hb:kM M) (hs:s < N.length):fu N M W s true\/fu N M W s false:=by
 obtain⟨b,e⟩:=wO hb (by omega:s < M.length)
 cases b
 ·exact .inr ⟨s,oF,e⟩
 ·exact .inl ⟨s,oF,e⟩
noncomputable def gC (k7:FM):GS:=
 (aG (aR 4 (bw [1] (bM (eF (bq k7 (bg (eF (aj 0)) (bg (eF (aj 3)) cu))))) aC (aH 1 (eF (aj 0)))))
 (jW (eT (eM 2 hAppend (aa (eF (OS (FF (qB (eF (eP Jp (aa (eC (.bl true)) (aa (eF (aj 4)) ao))))) (qB (eF (eP Jp (aa (eC (.bl false)) (aa (eF (aj 4)) ao)))))) (eT (eC (.str "open"))) (eP FL (aa (eF (eP gX (aa (eC (.str "no")) (aa (eC (.str "yes")) ao)))) (aa (eF (eP Gb (aa (aH 4 (eC (.int 0))) ao))) ao))))) ao)))))
noncomputable def fy (k7:FM):GS:=
 (aG (aR 2 (eP gX ao))
 (aG (gM (bName 3) (cS (aa (dZ 0) ao)) (gC k7))
 (dH (eP bK (aa (eF (aj 2)) ao)))))
noncomputable def rH:FM:=bY 5 (fy je)
def Em:∀us r,rH us=some r->bY 5 (fy je) us=some r:=fun _ _ h=>h
theorem CT {M:List D}{z0 z2 z3 z4:Option U}:∀(L:List Nat) (acc:List D),(∀v∈L,v < M.length)->aF [1] aC (aH 1 (eF (aj 0))) (iD L) [z0,ZA (.tup M),z2,z3,z4] acc=some (acc++L.map (aW M),[z0,ZA (.tup M),z2,z3,z4])
 | [],acc,_=>by simp[iD,aF]
 | v :: L,acc,h=>by
  have ih:=CT (M:=M) (z0:=z0) (z2:=z2) (z3:=z3) (z4:=z4) L (acc++[aW M v]) fun w hw=>h w (ZI _ hw)
  have e:=qy (h v ZJ)
  rw[aar,aa9] at ih
  rw[aae]
  show aF [1] aC (aH 1 (eF (aj 0))) (.int ((v:Nat):Int) :: iD L) _ _=_
  generalize L.map (aW M)=ll at *
  generalize iD L=il at *
  generalize ((v:Nat):Int)=k at *
  simp[aF,aY,cO,e,aB]
  exact ih
theorem HY {M:List D}(hb:kM M):∀L:List Nat,(∀v∈L,v < M.length)->bH (L.map (aW M))=0
 | [],_=>by simp[bH]
 | v :: L,h=>by
  obtain⟨b,e⟩:=wO hb (h v ZJ)
  rw[aae]
  simp[bH,e,HY hb L fun w hw=>h w (ZI _ hw)]
theorem HZ {M : List D} {b : Bool} (hb : kM M) : ∀ L : List Nat, (∀ v ∈ L, v < M.length) -> (inD (.bl b) (L.map (aW M)) = true ↔ ∃ v ∈ L, aW M v = .bl b)
  | [],_=>by simp[inD]
  | v :: L, h => by
    have ih:=HZ (b:=b) hb L fun w hw=>h w (ZI _ hw)
    obtain⟨k,e⟩:=wO hb (h v ZJ)
    unfold inD at *
    rw[aae,abA,Bool.or_eq_true,ih,e,Kg]
    constructor
    . rintro(q | ⟨w,hw,q⟩)
      . refine⟨v,ZJ,?_⟩
        rw[e];simpa using q
      . exact⟨w,ZI _ hw,q⟩
    . rintro⟨w,hw,q⟩
      rcases ZV.mp hw with rfl | hw
      . rw[e] at q;injection q with q;exact .inl (by simpa using q)
      . exact .inr ⟨w,hw,q⟩
def K3 {f:FM}{nt:D}{acc:List D}{k:Int}{b0 t1 t2:Bool}(h4:dM x4=false) (e:f [.t nt,.t (.int k)]=some (.m (.lst (iD L)),[])) (hL:∀v∈L,v < M.length) (hl:L.length<=1000) (ha:acc.length < 1000) (d0:bH (L.map (aW M))=0)
  (h1:inD (.bl true) (L.map (aW M))=t1) (h2:inD (.bl false) (L.map (aW M))=t2) (h0:dF (L.map (aW M)) 0=some (.bl b0)):
  gC f [ZA nt,ZA (.tup M),ZC acc,ZD k,x4]=some (.nx [ZA nt,ZA (.tup M),ZC (acc++[if t1 && t2 then .str "open" else if b0 then .str "yes" else .str "no"]),ZD k,ZA (.lst (L.map (aW M)))]):=by
 have q3:=CT (M:=M) (z0:=ZA nt) (z2:=ZC acc) (z3:=ZD k) (z4:=x4) L [] hL
 have q4:(iD L).length<=100000:=by unfold iD;rw[Zw];omega
 have q5:acc.length < 100000:=by omega
 have d1:bH (L.map (aW M))<=40:=by omega
 rw[Z9] at q3
 generalize L.map (aW M)=ll at *
 generalize iD L=il at *
 have i1:Jp [.bl true,.lst ll]=ZA (.bl t1):=by show(if _ then _ else _)=_;rw[if_pos d1,h1]
 have i2:Jp [.bl false,.lst ll]=ZA (.bl t2):=by show(if _ then _ else _)=_;rw[if_pos d1,h2]
 unfold gC
 rw[Sq.aO (S1:=[ZA nt,ZA (.tup M),ZC acc,ZD k,ZC ll]) (by simp[-cD,bL,cz,bD,e,q3,q4,h4])]
 cases t1 <;> cases t2 <;> cases b0 <;> simp[i1,i2,h0,q5,AW,kJ,hAppend,at2]
def Ic    (mo : fP W N) (hW : W < 64) (hM : M.length = N.length) (hb : kM M) : rH [.t (nD N), .t (.tup M)] = some (.t (.tup ((List.range N.length).map (vw N M W))), []) := by
  have few:=mo.few
  obtain⟨S',e,x3,x4,h3,h4,rfl⟩:=jk (bd:=bName 3) (body:=gC je) (gT 0 N.length)
    (fun j S=>∃x3 x4:Option U,dM x3=false/\dM x4=false/\S=[ZA (nD N),ZA (.tup M),ZC ((List.range j).map (vw N M W)),x3,x4])
    [ZA (nD N), ZA (.tup M), ZC [], none, none] ⟨none, none, rfl, rfl, rfl⟩ (by
      rintro j d S hd ⟨x3,x4,h3,h4,rfl⟩
      obtain⟨hj,rfl⟩:=qu hd
      obtain⟨L,e,hr,hl,h0⟩:=El mo hW hj
      have hL:∀v∈L,v < M.length:=fun v hv=>by rw[hM];exact uR mo hj ((hr v).mp hv)
      obtain⟨b0,eb⟩:=wO hb (by omega:j < M.length)
      have i1:=HZ (b:=true) hb L hL
      have i2:=HZ (b:=false) hb L hL
      have s1:(∃v∈L,aW M v= .bl true)↔fu N M W j true:=⟨fun⟨v,a,b⟩=>⟨v,(hr v).mp a,b⟩,fun⟨v,a,b⟩=>⟨v,(hr v).mpr a,b⟩⟩
      have s2:(∃v∈L,aW M v= .bl false)↔fu N M W j false:=⟨fun⟨v,a,b⟩=>⟨v,(hr v).mp a,b⟩,fun⟨v,a,b⟩=>⟨v,(hr v).mpr a,b⟩⟩
      rw[s1] at i1
      rw[s2] at i2
      have a0:dF (L.map (aW M)) 0=some (.bl b0):=by
        cases L with
        | nil=>cases h0
        | cons v L=>cases h0;rw[aae,eb];simp[dF,yC]
      have tn:=K3 (f:=je) (nt:=nD N) (M:=M) (acc:=(List.range j).map (vw N M W)) (x4:=x4) h4 e hL (by omega) (by rw[Zw,ZK];omega) (HY hb L hL) rfl rfl a0
      have ev:(if inD (.bl true) (L.map (aW M)) && inD (.bl false) (L.map (aW M)) then D.str "open" else if b0 then D.str "yes" else D.str "no")=vw N M W j:=by
        by_cases c1:fu N M W j true
        . rw[i1.mpr c1]
          by_cases c2:fu N M W j false
          . rw[i2.mpr c2,yp c1 c2];rfl
          . rw[Bool.eq_false_iff.mpr fun z=>c2 (i2.mp z),ym c1 c2]
            cases b0 with
            | true=>rfl
            | false=>exact absurd ⟨j,oF,eb⟩ c2
        . rw[Bool.eq_false_iff.mpr fun z=>c1 (i1.mp z),CS c1]
          cases b0 with
          | true=>exact absurd ⟨j,oF,eb⟩ c1
          | false=>rfl
      rw[ev] at tn
      refine⟨_,_,?_,tn,ZD (j:Nat),ZA (.lst (L.map (aW M))),rfl,rfl,?_⟩
      . generalize (j:Int)=jj
        simp[-cD,bL,h3]
      . rw[abz,aaa];rfl)
  have rl:(gT 0 N.length).length=N.length:=Sq.i9 ..
  rw[rl] at e
  have g:cS (aa (dZ 0) ao) [ZA (nD N),ZA (.tup M),ZC [],none,none]=some (gT 0 N.length,[ZA (nD N),ZA (.tup M),ZC [],none,none]):=by
    have g:=yh (dg:=N.map Sq.aV) (z:=[ZA (.tup M),ZC [],none,none]) (by rw[Zw];omega)
    rw[Zw] at g
    exact g
  have all:fy je [ZA (nD N),ZA (.tup M),none,none,none]=some (.rt (.t (.tup ((List.range N.length).map (vw N M W)))) [ZA (nD N),ZA (.tup M),ZA (.lst ((List.range N.length).map (vw N M W))),x3,x4]):=by
    unfold fy
    rw[Sq.aO (S1:=[ZA (nD N),ZA (.tup M),ZC [],none,none]) rfl,Sq.aO (S1:=[ZA (nD N),ZA (.tup M),ZC ((List.range N.length).map (vw N M W)),x3,x4]) (by rw[pH,g];exact e)]
    generalize (List.range N.length).map (vw N M W)=ww
    simp
  exact rC all rfl
noncomputable def pD (p:Nat×Nat):D:=.tup [.int (p.1:Nat),.int (p.2:Nat)]
noncomputable def oM (st:List (List (Nat×Nat))):List (List D):=st.map fun ps=>ps.map pD
structure St (n W:Nat) (nx:AAE) (i j:Nat) (st:List (List (Nat×Nat))):Prop where
 len:st.length=n
 mem:∀(v:Nat) (ps:List (Nat×Nat)),st[v]? =some ps->∀s c,(s,c)∈ps↔(s < n/\c < W/\Er s c i j/\nx s c=v)
 few:∀ps∈st,ps.length<=i * W+j
def St.zero :St n W nx 0 0 (List.replicate n []) where
  len:=abS
  mem := fun v ps h s c => by
    rw[acm] at h
    split at h
    . cases h
      simp[Er]
    . cases h
  few:=fun ps h=>by rw[ach h];simp
def St.row {i:Nat}{st:List (List (Nat×Nat))}(h:St n W nx i W st):St n W nx (i+1) 0 st where
 len:=h.len
 mem:=fun v ps e s c=>by
  rw[h.mem v ps e]
  unfold Er
  constructor
  ·rintro⟨a,b,q,r⟩;exact⟨a,b,by omega,r⟩
  ·rintro⟨a,b,q,r⟩;exact⟨a,b,by omega,r⟩
 few:=fun ps q=>by have:=h.few ps q;rw[Nat.add_mul];omega
def St.add  {nx : Nat -> Nat -> Nat} {i j v : Nat} {st : List (List (Nat × Nat))}  (h : St n W nx i j st) (hi : i < n) (hj : j < W) (e : nx i j = v) (hp : st[v]? = some ps) : St n W nx i (j + 1) (st.set v (ps ++ [(i, j)])) where
  len:=by rw[aaw];exact h.len
  mem := fun w qs q s c => by
    have hv:=(Zy.mp hp).1
    by_cases z:v=w
    . subst z
      rw[aad hv] at q
      cases q
      rw[Z2,h.mem v ps hp,ZG,Prod.mk.injEq]
      unfold Er
      constructor
      . rintro(⟨a,b,q,r⟩ | ⟨rfl,rfl⟩)
        . exact⟨a,b,by omega,r⟩
        . exact⟨hi,hj,by omega,e⟩
      . rintro⟨a,b,q,r⟩
        by_cases y:s=i/\c=j
        . exact .inr y
        . exact .inl ⟨a,b,by omega,r⟩
    . rw[Z4 z] at q
      rw[h.mem w qs q]
      unfold Er
      constructor
      . rintro⟨a,b,q,r⟩;exact⟨a,b,by omega,r⟩
      . rintro⟨a,b,q,r⟩
        refine⟨a,b,?_,r⟩
        by_cases y:s=i/\c=j
        . exact absurd (by rw[<-e,<-r,y.1,y.2]) z
        . omega
  few:=fun qs q=>by
    rcases List.mem_or_eq_of_mem_set q with q | rfl
    . have:=h.few qs q;omega
    . have:=h.few ps (ZO hp);rw[ZZ];simp;omega
noncomputable def kj:GS:=
 (aG (uC 1 (bM (eF (aj 0))) (pG 1 (lW 2 (cL (bName 2) (cL (bName 3) mV))) (fW (aa (eF (aj 0)) ao)) (pG 1 (lW 2 (cL (bName 4) (cL (bName 5) mV))) (fW (aa (eF (aj 3)) ao)) (zL 1 (eF (aj 5)) (eF (eP gW (aa (eF (aj 2)) (aa (eF (aj 4)) ao))))))))
 (dH (aj 1)))
noncomputable def jz:FM:=bY 6 kj
def En:∀us r,jz us=some r->bY 6 kj us=some r:=fun _ _ h=>h
noncomputable abbrev Pg:GN:=zL 1 (eF (aj 5)) (eF (eP gW (aa (eF (aj 2)) (aa (eF (aj 4)) ao))))
noncomputable abbrev OB:GB:=lW 2 (cL (bName 2) (cL (bName 3) mV))
noncomputable abbrev Ie:GB:=lW 2 (cL (bName 4) (cL (bName 5) mV))
def OC {a:Addr}{i c v:Int}{nest:List (List D)}{vv:Nat}{ds:List D}(h1:yC nest.length v=some vv) (h2:nest[vv]? =some ds) (hl:ds.length < 100000):
  Pg a [nt,some (.f a),ZD i,z3,ZD c,ZD v] nest=some ([nt,some (.f a),ZD i,z3,ZD c,ZD v],nest.set vv (ds++[.tup [.int i,.int c]])):=by
 simp[zL,h1,h2,hl,yE]
def K4 (st:List (List (Nat×Nat))) (v:Nat) (ps:List (Nat×Nat)) (i j:Nat):(oM st).set v (ps.map pD++[.tup [.int (i:Nat),.int (j:Nat)]])=oM (st.set v (ps++[(i,j)])):=by
 unfold oM
 rw[List.map_set,aaa]
 rfl
section
variable (N:AAF) (W i:Nat) (x4 x5:Option U) (st:List (List (Nat×Nat)))
noncomputable def kX:Nat->Option U×Option U×List (List (Nat×Nat))
 | 0=>(x4,x5,st)
 | j+1=>(some (.t (.int (j:Nat))),some (.t (.int (bC N i j:Nat))),(kX j).2.2.set (bC N i j) (((kX j).2.2.getD (bC N i j) [])++[(i,j)]))
variable {N W i x4 x5 st}
theorem BE (mo:fP W N) (hi:i < N.length) (h:St N.length W (bC N) i 0 st) (h4:dM x4=false) (h5:dM x5=false):∀j,j<=W->St N.length W (bC N) i j (kX N i x4 x5 st j).2.2/\dM (kX N i x4 x5 st j).1=false/\dM (kX N i x4 x5 st j).2.1=false
 | 0,_=>⟨h,h4,h5⟩
 | j+1,hj=>by
  obtain⟨a,_,_⟩:=BE mo hi h h4 h5 j (by omega)
  have lt:=(iH mo hi (by omega:j < W)).2
  refine⟨a.add hi (by omega) rfl ?_,rfl,rfl⟩
  rw[ZN,Zz (by rw[a.len];exact lt)]
  rfl
def Ig {a:Addr}(mo:fP W N) (hW:W < 100) (hi:i < N.length) (h:St N.length W (bC N) i 0 st) (h4:dM x4=false) (h5:dM x5=false):
  pG 1 Ie (fW (aa (eF (aj 3)) ao)) Pg a [nt,some (.f a),ZD (i:Nat),ZA (.tup (cX W (bC N i))),x4,x5] (oM st)=some ([nt,some (.f a),ZD (i:Nat),ZA (.tup (cX W (bC N i))),(kX N i x4 x5 st W).1,(kX N i x4 x5 st W).2.1],oM (kX N i x4 x5 st W).2.2):=by
 have few:=mo.few
 obtain⟨S',n',e,rfl,rfl⟩:=qC (bd:=fun d S=>(Ie d S).bind fun S1=>if yE S1 1 a=true then some S1 else none) (g:=Pg) (a:=a) (I:=fun j S n=>S=[nt,some (.f a),ZD (i:Nat),ZA (.tup (cX W (bC N i))),(kX N i x4 x5 st j).1,(kX N i x4 x5 st j).2.1]/\n=oM (kX N i x4 x5 st j).2.2)
  (dI (cX W (bC N i))) 0 [nt,some (.f a),ZD (i:Nat),ZA (.tup (cX W (bC N i))),x4,x5] (oM st) ⟨rfl,rfl⟩ (by
  rintro j d S n hd ⟨rfl,rfl⟩
  rw[abu] at *
  unfold cX at hd
  rw[iX] at hd
  have hj:j < W:=by have:=(Zy.mp hd).1;rwa [Zw,ZK] at this
  rw[ZF,ZX hj] at hd
  cases hd
  obtain⟨h',b4,b5⟩:=BE mo hi h h4 h5 j (by omega)
  have lt:=(iH mo hi hj).2
  have hv:bC N i j < (kX N i x4 x5 st j).2.2.length:=by rw[h'.len];exact lt
  have hp:(kX N i x4 x5 st j).2.2[bC N i j]? =some ((kX N i x4 x5 st j).2.2.getD (bC N i j) []):=by rw[ZN,Zz hv];rfl
  have pf:=h'.few _ (ZO hp)
  have pl:i * W<=900 * 100:=Nat.mul_le_mul (by omega) (by omega)
  refine⟨[nt,some (.f a),ZD (i:Nat),ZA (.tup (cX W (bC N i))),ZD (j:Nat),ZD (bC N i j:Nat)],_,_,?_,
   OC (ds:=((kX N i x4 x5 st j).2.2.getD (bC N i j) []).map pD) (vv:=bC N i j) (tM (by unfold oM;rw[Zw];exact hv)) (by unfold oM;rw[ZF,hp];rfl) (by rw[Zw];omega),rfl,K4 ..⟩
  simp[-cD,bL,b4,b5,yE])
 have el:(dI (cX W (bC N i))).length=W:=by unfold dI cX;rw[abL,Zw,ZK]
 rw[el,abu] at e
 unfold pG
 rw[show fW (aa (eF (aj 3)) ao) [nt,some (.f a),ZD (i:Nat),ZA (.tup (cX W (bC N i))),x4,x5]=some (dI (cX W (bC N i)),[nt,some (.f a),ZD (i:Nat),ZA (.tup (cX W (bC N i))),x4,x5]) from rfl,ZE]
 rw[if_pos (by simp[yE])]
 exact e
end
def K5 (mo:fP W N):N.map Sq.aV=(List.range N.length).map fun s=>D.tup (cX W (bC N s)):=by
 apply aaT
 intro s
 rw[ZF,ZF]
 by_cases hs:s < N.length
 ·rw[rw_get hs,ZX hs]
  show some (D.tup ((rw' N s).map D.int))=_
  rw[LU mo hs]
  rfl
 ·rw[Z0 (by omega),Z0 (by rw[ZK];omega)];rfl
structure Ou where
 y2:Option U
 y3:Option U
 y4:Option U
 y5:Option U
 st:List (List (Nat×Nat))
noncomputable def dD (N:AAF) (W:Nat):Nat->Ou
 | 0=>⟨none,none,none,none,List.replicate N.length []⟩
 | i+1=>⟨some (.t (.int (i:Nat))),some (.t (.tup (cX W (bC N i)))),(kX N i (dD N W i).y4 (dD N W i).y5 (dD N W i).st W).1,(kX N i (dD N W i).y4 (dD N W i).y5 (dD N W i).st W).2.1,(kX N i (dD N W i).y4 (dD N W i).y5 (dD N W i).st W).2.2⟩
theorem yq {N:AAF}{W:Nat}(mo:fP W N):∀i,i<=N.length->St N.length W (bC N) i 0 (dD N W i).st/\dM (dD N W i).y2=false/\dM (dD N W i).y3=false/\dM (dD N W i).y4=false/\dM (dD N W i).y5=false
 | 0,_=>⟨St.zero,rfl,rfl,rfl,rfl⟩
 | i+1,hi=>by
  obtain⟨a,_,_,b,c⟩:=yq mo i (by omega)
  obtain⟨d,e,f⟩:=BE mo (by omega:i < N.length) a b c W (ZM _)
  exact⟨d.row,rfl,rfl,e,f⟩
def Ih (mo:fP W N) (hW:W < 100):∃st,jz [.t (nD N)]=some (.t (.lst ((oM st).map D.lst)),[])/\St N.length W (bC N) N.length 0 st:=by
 have few:=mo.few
 have key:∀a:Addr,pG 1 OB (fW (aa (eF (aj 0)) ao)) (pG 1 Ie (fW (aa (eF (aj 3)) ao)) Pg) a [ZA (nD N),some (.f a),none,none,none,none] (List.replicate N.length [])=some ([ZA (nD N),some (.f a),(dD N W N.length).y2,(dD N W N.length).y3,(dD N W N.length).y4,(dD N W N.length).y5],oM (dD N W N.length).st):=by
  intro a
  obtain⟨S',n',e,rfl,rfl⟩:=qC (bd:=fun d S=>(OB d S).bind fun S1=>if yE S1 1 a=true then some S1 else none) (g:=pG 1 Ie (fW (aa (eF (aj 3)) ao)) Pg) (a:=a) (I:=fun i S n=>S=[ZA (nD N),some (.f a),(dD N W i).y2,(dD N W i).y3,(dD N W i).y4,(dD N W i).y5]/\n=oM (dD N W i).st)
   (dI (N.map Sq.aV)) 0 [ZA (nD N),some (.f a),none,none,none,none] (List.replicate N.length []) ⟨rfl,by unfold oM dD;rw[List.map_replicate];rfl⟩ (by
   rintro i d S n hd ⟨rfl,rfl⟩
   rw[abu] at *
   rw[K5 mo,iX] at hd
   have hi:i < N.length:=by have:=(Zy.mp hd).1;rwa [Zw,ZK] at this
   rw[ZF,ZX hi] at hd
   cases hd
   obtain⟨h',b2,b3,b4,b5⟩:=yq mo i (by omega)
   refine⟨[ZA (nD N),some (.f a),ZD (i:Nat),ZA (.tup (cX W (bC N i))),(dD N W i).y4,(dD N W i).y5],_,_,?_,Ig mo hW hi h' b4 b5,rfl,rfl⟩
   simp[-cD,bL,b2,b3,yE])
  have el:(dI (N.map Sq.aV)).length=N.length:=by unfold dI;rw[abL,Zw]
  rw[el,abu] at e
  unfold pG
  rw[show fW (aa (eF (aj 0)) ao) [ZA (nD N),some (.f a),none,none,none,none]=some (dI (N.map Sq.aV),[ZA (nD N),some (.f a),none,none,none,none]) from rfl,ZE]
  rw[if_pos (by simp[yE])]
  exact e
 refine⟨(dD N W N.length).st,?_,(yq mo N.length (ZM _)).1⟩
 have s1:uC 1 (bM (eF (aj 0))) (pG 1 OB (fW (aa (eF (aj 0)) ao)) (pG 1 Ie (fW (aa (eF (aj 3)) ao)) Pg)) [ZA (nD N),none,none,none,none,none]=some (.nx [ZA (nD N),ZA (.lst ((oM (dD N W N.length).st).map D.lst)),(dD N W N.length).y2,(dD N W N.length).y3,(dD N W N.length).y4,(dD N W N.length).y5]):=by
  unfold uC
  rw[show bM (eF (aj 0)) [ZA (nD N),none,none,none,none,none]=some (N.map Sq.aV,[ZA (nD N),none,none,none,none,none]) from rfl,ZE]
  simp only[adv,ack,Zw]
  rw[if_pos (by omega),uB (r:=[ZA (nD N),ZA (.lst ((oM (dD N W N.length).st).map D.lst)),(dD N W N.length).y2,(dD N W N.length).y3,(dD N W N.length).y4,(dD N W N.length).y5]) (fun a=>by
   rw[show([ZA (nD N),none,none,none,none,none]:SS).set 1 (some (.f a))=[ZA (nD N),some (.f a),none,none,none,none] from rfl,key a]
   rfl)]
  rfl
 have all:kj [ZA (nD N),none,none,none,none,none]=some (.rt (.t (.lst ((oM (dD N W N.length).st).map D.lst))) [ZA (nD N),ZA (.lst ((oM (dD N W N.length).st).map D.lst)),(dD N W N.length).y2,(dD N W N.length).y3,(dD N W N.length).y4,(dD N W N.length).y5]):=by
  unfold kj
  rw[Sq.aO s1]
  rfl
 exact rC all rfl
structure Ro (N:AAF) (W:Nat) (G:Nat->Prop) (L:List Nat) (rows:List D):Prop where
 len:rows.length=N.length
 nd:L.Nodup
 lt:∀v∈L,v < N.length
 yes:∀(k v:Nat),L[k]? =some v->∃r:List D,rows[v]? =some (.tup r)/\r.length<=k
 no:∀v,v < N.length->v∉L->rows[v]? =some .bV
 rc:∀v∈L,∃t,Rc N W v t/\G t
 all:∀t,t < N.length->G t->t∈L
def Ro.add {G:Nat->Prop}{r:List D}{v k:Nat}{h:D}(x:Ro N W G L rows) (hv:v < N.length) (m:v∉L) (hc:c < W) (e:bC N v c=u) (hk:L[k]? =some u) (hr:r.length<=k):Ro N W G (L++[v]) (rows.set v (.tup (h :: r))) where
  len:=by rw[aaw];exact x.len
  nd:=abl.mpr ⟨x.nd,by simp,fun a ha b hb z=>by rw[ZG.mp hb] at z;exact m (z▸ha)⟩
  lt:=fun w hw=>(Z2.mp hw).elim (x.lt w) fun q=>by rw[ZG.mp q];exact hv
  yes := fun i w hi => by
    have kl:=(Zy.mp hk).1
    by_cases q:i < L.length
    . rw[Z7 q] at hi
      obtain⟨r',a,b⟩:=x.yes i w hi
      have:v≠w:=fun z=>m (z▸ZO hi)
      exact⟨r',by rw[Z4 this];exact a,b⟩
    . have il:=(Zy.mp hi).1
      rw[ZZ,aaA] at il
      have:i=L.length:=by omega
      subst this
      rw[ab4 (ZM _),adk] at hi
      cases hi
      exact⟨h :: r,aad (by rw[x.len];exact hv),by rw[aaQ];omega⟩
  no:=fun w hw q=>by
    rw[Z2,ZG,not_or] at q
    rw[Z4 (fun z=>q.2 z.symm)]
    exact x.no w hw q.1
  rc:=fun w hw=>by
    rcases Z2.mp hw with q | q
    . exact x.rc w q
    . rw[ZG.mp q]
      obtain⟨t,a,b⟩:=x.rc u (ZO hk)
      exact⟨t,CP hc (e▸a),b⟩
  all:=fun t ht g=>aac _ (x.all t ht g)
noncomputable def fZ (f9:FM) (lJ:FM):GS:=
 (v7 (qB (eF (eP DC (aa (aH 5 (aH 9 (eC (.int 0)))) (aa (eC .bV) ao))))) (aG (vt 5 (aH 9 (eC (.int 0))) (eF (eP iz (aa (eF (eP gW (aa (aH 3 (aH 9 (eC (.int 1)))) ao))) (aa (aH 5 (eF (aj 8))) ao)))))
 (jW (eT (eM 6 hAppend (aa (aH 9 (eC (.int 0))) ao))))) lV)
noncomputable def mw (f9:FM) (lJ:FM):GS:=
 (aG (aR 8 (eT (aH 6 (eF (aj 7)))))
 (aG (gM (bName 9) (bM (aH 4 (eF (aj 8)))) (fZ f9 lJ))
 (DE (fun i j=>i+j) 7 (eC (.int 1)))))
noncomputable def jQ (f9:FM) (lJ:FM):GS:=
 (aG (aR 3 (bq f9 (bg (eF (aj 0)) cu)))
 (aG (aR 4 (bq lJ (bg (eF (aj 1)) cu)))
 (aG (aR 5 (bw [] (bM (eF (aj 2))) aC (eF (OS (qB (eF (aj 0))) (eP gW ao) (eT (eC .bV))))))
 (aG (aR 6 (iT [] (fW (aa (eF (aj 2)) ao)) (qB (eF (aj 1))) (eF (aj 0))))
 (aG (aR 7 (eT (eC (.int 0))))
 (aG (lX 100000 (qB (eF (eP B6 (aa (eF (aj 7)) (aa (dZ 6) ao))))) (mw f9 lJ))
 (dH (aj 5))))))))
noncomputable def nM:FM:=bY 10 (jQ kT jz)
def Eo:∀us r,nM us=some r->bY 10 (jQ kT jz) us=some r:=fun _ _ h=>h
section
variable {f1 f2:FM}{z0 z1 z2 z4 z7:Option U}{H rows fs r:List D}{s c u:Int}{hd:D}
def rw_skip (h1:dF rows s=some (.tup r)):
  fZ f1 f2 [z0,z1,z2,ZC H,z4,ZC rows,ZC fs,z7,ZD u,ZA (.tup [.int s,.int c])]=some (.nx [z0,z1,z2,ZC H,z4,ZC rows,ZC fs,z7,ZD u,ZA (.tup [.int s,.int c])]):=by
 simp[fZ,at2,h1,lD]
def rw_add {ss:Nat}(h1:dF rows s=some .bV) (hs:yC rows.length s=some ss) (h2:dF H c=some hd) (h3:dF rows u=some (.tup r)) (hr:r.length < 1000) (hf:fs.length < 1000):
  fZ f1 f2 [z0,z1,z2,ZC H,z4,ZC rows,ZC fs,z7,ZD u,ZA (.tup [.int s,.int c])]=some (.nx [z0,z1,z2,ZC H,z4,ZC (rows.set ss (.tup (hd :: r))),ZC (fs++[.int s]),z7,ZD u,ZA (.tup [.int s,.int c])]):=by
 have l1:1+r.length<=100000:=by omega
 have l2:fs.length < 100000:=by omega
 simp[fZ,at2,h1,h2,h3,hs,lD,l1,l2,AW,kJ,hAppend]
end
def kq {v:Nat}{d:D}(h:rows[v]? =some d):dF rows (v:Int)=some d:=by
 have:=(Zy.mp h).1
 unfold dF
 rw[tM this]
 exact h
def rw_inner  {z7:Option U}   {G : Nat -> Prop} {H : List D}      (mo : fP W N) (hH : H.length = W) (x : Ro N W G L rows) (hu : L[a]? = some u) (hp : ∀ s c, (s, c) ∈ ps -> s < N.length /\ c < W /\ bC N s c = u) (h9 : dM x9 = false) :
    ∃L' rows' y9,loop (bName 9) (fZ f1 f2) (ps.map pD) [z0,z1,z2,ZC H,z4,ZC rows,ZC (iD L),z7,ZD (u:Nat),x9]=some (.nx [z0,z1,z2,ZC H,z4,ZC rows',ZC (iD L'),z7,ZD (u:Nat),y9])/\dM y9=false/\Ro N W G L' rows'/\(∃ex,L'=L++ex)/\∀s c,(s,c)∈ps->s∈L':=by
  have few:=mo.few
  obtain⟨S',e,L',rows',y9,b9,x',⟨ex,hex⟩,hin,rfl⟩:=jk (bd:=bName 9) (body:=fZ f1 f2) (ps.map pD)
    (fun j S=>∃L' rows' y9,dM y9=false/\Ro N W G L' rows'/\(∃ex,L'=L++ex)/\(∀i s c,i < j->ps[i]? =some (s,c)->s∈L')/\S=[z0,z1,z2,ZC H,z4,ZC rows',ZC (iD L'),z7,ZD (u:Nat),y9])
    _ ⟨L,rows,x9,h9,x,⟨[],by simp⟩,fun i s c hi=>by omega,rfl⟩ (by
    rintro j d S hd ⟨L',rows',y9,b9,x',⟨ex,hex⟩,hin,rfl⟩
    rw[ZF] at hd
    cases hps:ps[j]? with
    | none=>rw[hps] at hd;cases hd
    | some sc=>
      obtain⟨s,c⟩:=sc
      rw[hps] at hd
      cases hd
      obtain⟨hs,hc,hn⟩:=hp s c (ZO hps)
      have WE:L'[a]? =some u:=by rw[hex,Z7 (Zy.mp hu).1];exact hu
      have lf:=ki x'.nd x'.lt
      have il:(iD L').length=L'.length:=by unfold iD;rw[Zw]
      refine⟨[z0,z1,z2,ZC H,z4,ZC rows',ZC (iD L'),z7,ZD (u:Nat),ZA (pD (s,c))],?_⟩
      have hb:bName 9 (pD (s,c)) [z0,z1,z2,ZC H,z4,ZC rows',ZC (iD L'),z7,ZD (u:Nat),y9]=some [z0,z1,z2,ZC H,z4,ZC rows',ZC (iD L'),z7,ZD (u:Nat),ZA (pD (s,c))]:=by
        generalize pD (s,c)=dd
        simp[-cD,bL,b9]
      by_cases m:s∈L'
      . obtain⟨k,hk,e⟩:=aaJ m
        obtain⟨r,hr,_⟩:=x'.yes k s (by rw[Zz hk,e])
        refine⟨_,hb,rw_skip (kq hr),L',rows',ZA (pD (s,c)),rfl,x',⟨ex,hex⟩,fun i s' c' hi q=>?_,rfl⟩
        by_cases z:i=j
        . subst z;rw[hps] at q;cases q;exact m
        . exact hin i s' c' (by omega) q
      . obtain⟨r,hr,rl⟩:=x'.yes a u WE
        have al:=(Zy.mp WE).1
        have hh:H[c]? =some H[c]:=Zz (by omega)
        refine⟨_,hb,rw_add (ss:=s) (kq (x'.no s hs m)) (tM (by rw[x'.len];exact hs)) (kq hh) (kq hr) (by omega) (by omega),L'++[s],rows'.set s (.tup (H[c] :: r)),ZA (pD (s,c)),rfl,x'.add hs m hc hn WE rl,⟨ex++[s],by rw[hex,aar]⟩,fun i s' c' hi q=>?_,?_⟩
        . by_cases z:i=j
          . subst z;rw[hps] at q;cases q;simp
          . exact aac _ (hin i s' c' (by omega) q)
        . rw[qz];rfl)
  refine⟨L',rows',y9,e,b9,x',⟨ex,hex⟩,fun s c q=>?_⟩
  obtain⟨i,hi,e⟩:=aaJ q
  exact hin i s c (by rw[Zw];exact hi) (by rw[Zz hi,e])
def rw_cond {z5 z8 z9:Option U}:(qB (eF (eP B6 (aa (eF (aj 7)) (aa (dZ 6) ao))))) [z0,z1,z2,z3,z4,z5,ZC fs,ZD (a:Nat),z8,z9]=some (decide (a < fs.length),[z0,z1,z2,z3,z4,z5,ZC fs,ZD (a:Nat),z8,z9]):=by
 simp
def rw_turn {Ph WG rows' fs':List D}{a u:Int}{y9:Option U}(h8:dM x8=false) (e1:dF fs a=some (.int u)) (e2:dF Ph u=some (.lst WG))
  (lp:loop (bName 9) (fZ f1 f2) WG [z0,z1,z2,z3,ZA (.lst Ph),ZC rows,ZC fs,ZD a,ZD u,x9]=some (.nx [z0,z1,z2,z3,ZA (.lst Ph),ZC rows',ZC fs',ZD a,ZD u,y9])):
  mw f1 f2 [z0,z1,z2,z3,ZA (.lst Ph),ZC rows,ZC fs,ZD a,x8,x9]=some (.nx [z0,z1,z2,z3,ZA (.lst Ph),ZC rows',ZC fs',ZD (a+1),ZD u,y9]):=by
 simp[-cD,bL,mw,e1,e2,h8,cz,lp]
theorem rw_loop {f1 f2 : FM} {z0 z1 z2 : Option U} {N : List (List Int)} {W : Nat} {G : Nat -> Prop} {H : List D} {st : List (List (Nat × Nat))} (mo : fP W N) (hH : H.length = W) (hst : St N.length W (bC N) N.length 0 st) : ∀ (m a : Nat) (L : List Nat) (rows : List D) (x8 x9 : Option U), N.length < a + m -> a <= L.length -> Ro N W G L rows -> (∀ i, i < a -> ∀ s c, s < N.length -> c < W -> bC N s c = na L i -> s ∈ L) -> dM x8 = false -> dM x9 = false ->
    ∃L' rows' y7 y8 y9,mK (qB (eF (eP B6 (aa (eF (aj 7)) (aa (dZ 6) ao))))) (mw f1 f2) m [z0,z1,z2,ZC H,ZA (.lst ((oM st).map D.lst)),ZC rows,ZC (iD L),ZD (a:Nat),x8,x9]=some (.nx [z0,z1,z2,ZC H,ZA (.lst ((oM st).map D.lst)),ZC rows',ZC (iD L'),y7,y8,y9])/\Ro N W G L' rows'/\∀s c,s < N.length->c < W->bC N s c∈L'->s∈L'
  | 0,a,L,rows,x8,x9,hm,ha,x,hc,h8,h9=>by
    have lf:=ki x.nd x.lt
    omega
  | m + 1, a, L, rows, x8, x9, hm, ha, x, hc, h8, h9 => by
    have few:=mo.few
    have lf:=ki x.nd x.lt
    have il:(iD L).length=L.length:=by unfold iD;rw[Zw]
    unfold mK
    rw[rw_cond,ZE,il]
    by_cases c:a < L.length
    . rw[aaC c]
      simp only[if_true]
      have hu:=bO c
      have un:na L a < N.length:=x.lt _ (cB c)
      have sl:na L a < st.length:=by rw[hst.len];exact un
      obtain⟨ps,hps⟩:∃ps,st[na L a]? =some ps:=⟨_,Zz sl⟩
      have hm':=hst.mem _ ps hps
      obtain⟨L',rows',y9,e,b9,x',⟨ex,hex⟩,hin⟩:=rw_inner (f1:=f1) (f2:=f2) (z0:=z0) (z1:=z1) (z2:=z2) (z4:=ZA (.lst ((oM st).map D.lst))) (z7:=ZD (a:Nat)) (ps:=ps) mo hH x hu (fun s c q=>by
        obtain⟨q1,q2,_,q4⟩:=(hm' s c).mp q
        exact⟨q1,q2,q4⟩) h9
      have tn:=rw_turn (f1:=f1) (f2:=f2) (z0:=z0) (z1:=z1) (z2:=z2) (z3:=ZC H) (Ph:=(oM st).map D.lst) (WG:=ps.map pD) h8 (iG c) (kq (by unfold oM;rw[ZF,ZF,hps];rfl)) e
      rw[tn,ZE]
      have all:=rw_loop (f1:=f1) (f2:=f2) (z0:=z0) (z1:=z1) (z2:=z2) mo hH hst m (a+1) L' rows' (ZD (na L a:Nat)) y9 (by omega) (by rw[hex,ZZ];omega) x' (fun i hi s d hs hd q=>by
        rw[show na L' i=na L i by unfold na;rw[hex,ZN,ZN,Z7 (by omega)]] at q
        by_cases z:i < a
        . rw[hex];exact aac _ (hc i z s d hs hd q)
        . have:i=a:=by omega
          subst this
          exact hin s d ((hm' s d).mpr ⟨hs,hd,.inl hs,q⟩)) rfl b9
      exact all
    . rw[aaf c]
      refine⟨L,rows,_,x8,x9,rfl,x,fun s d hs hd q=>?_⟩
      obtain⟨i,hi,e⟩:=aaJ q
      have:na L i=bC N s d:=by
        have:=bO hi
        rw[Zz hi,e] at this
        exact(ZU this).symm
      exact hc i (by omega) s d hs hd this.symm
noncomputable def vC:D->D
 | .bl true=>.tup []
 | _=>.bV
theorem CU {z1 z2 z3 z4 z5 z6 z7 z8 z9 z0:Option U}:∀(M acc:List D),kM M->aF [] aC (eF (OS (qB (eF (aj 0))) (eP gW ao) (eT (eC .bV)))) M [z0,z1,z2,z3,z4,z5,z6,z7,z8,z9] acc=some (acc++M.map vC,[z0,z1,z2,z3,z4,z5,z6,z7,z8,z9])
  | [],acc,_=>by simp[aF]
  | d :: M, acc, h => by
    have ih:=CU (z0:=z0) (z1:=z1) (z2:=z2) (z3:=z3) (z4:=z4) (z5:=z5) (z6:=z6) (z7:=z7) (z8:=z8) (z9:=z9) M (acc++[vC d]) fun x hx=>h x (ZI _ hx)
    rw[aar,aa9,<-aae] at ih
    obtain⟨b,rfl⟩:=h d ZJ
    cases b
    . simp only[aF,aY,ZE]
      simp[aB]
      simpa[vC] using ih
    . simp only[aF,aY,ZE]
      simp[aB]
      simpa[vC] using ih
noncomputable def en:Nat->List D->List D
 | _,[]=>[]
 | k,d :: M=>.tup [.int (k:Nat),d] :: en (k+1) M
theorem LX:∀(M:List D) (k:Nat),M.mapIdx (fun i d=>D.tup [.int ((k+i:Nat):Int),d])=en k M
  | [],k=>rfl
  | d :: M, k => by
    rw[List.mapIdx_cons]
    have:=LX M (k+1)
    have q:(fun i d=>D.tup [.int ((k+(i+1):Nat):Int),d])=fun i d=>D.tup [.int ((k+1+i:Nat):Int),d]:=by
      funext i d
      rw[show k+(i+1)=k+1+i by omega]
    rw[q,this]
    rfl
def CV (M:List D):dI M=en 0 M:=by
 rw[<-LX M 0]
 unfold dI
 congr 1
 funext i d
 rw[abu]
noncomputable def Sg:D->Bool
 | .bl b=>b
 | _=>false
def K6 {d:D}:Sg d=true↔d= .bl true:=by
 cases d with
 | bl b=>simp[Sg]
 | _=>simp[Sg]
noncomputable def idxs:Nat->List D->List Nat
 | _,[]=>[]
 | k,d :: M=>if Sg d then k :: idxs (k+1) M else idxs (k+1) M
theorem yr {z1 z2 z3 z4 z5 z6 z7 z8 z9 z0:Option U}:∀(M:List D) (k:Nat) (acc:List D),kM M->cI [] (qB (eF (aj 1))) (eF (aj 0)) (en k M) [z0,z1,z2,z3,z4,z5,z6,z7,z8,z9] acc=some (acc++iD (idxs k M),[z0,z1,z2,z3,z4,z5,z6,z7,z8,z9])
  | [],k,acc,_=>by simp[cI,en,idxs,iD]
  | d :: M, k, acc, h => by
    have hM:kM M:=fun x hx=>h x (ZI _ hx)
    obtain⟨b,rfl⟩:=h d ZJ
    cases b
    . have ih:=yr (z0:=z0) (z1:=z1) (z2:=z2) (z3:=z3) (z4:=z4) (z5:=z5) (z6:=z6) (z7:=z7) (z8:=z8) (z9:=z9) M (k+1) acc hM
      show cI [] _ _ (.tup [.int (k:Nat),.bl false] :: en (k+1) M) _ _=_
      simp only[cI,aY,ZE]
      simp[aB]
      exact ih
    . have ih:=yr (z0:=z0) (z1:=z1) (z2:=z2) (z3:=z3) (z4:=z4) (z5:=z5) (z6:=z6) (z7:=z7) (z8:=z8) (z9:=z9) M (k+1) (acc++[.int (k:Nat)]) hM
      rw[aar,aa9] at ih
      show cI [] _ _ (.tup [.int (k:Nat),.bl true] :: en (k+1) M) _ _=_
      simp only[cI,aY,ZE]
      simp[aB]
      exact ih
theorem uT : ∀ (M : List D) (k v : Nat), v ∈ idxs k M ↔ k <= v /\ v - k < M.length /\ aW M (v - k) = .bl true
  | [],k,v=>by simp[idxs]
  | d :: M, k, v => by
    have ih:=uT M (k+1) v
    have key:(k+1<=v/\v - (k+1) < M.length/\aW M (v - (k+1))= .bl true)↔(k < v/\v - k < (d :: M).length/\aW (d :: M) (v - k)= .bl true):=by
      constructor
      . rintro⟨a,b,c⟩
        refine⟨a,by rw[aaQ];omega,?_⟩
        rw[show v - k=(v - (k+1))+1 by omega]
        exact c
      . rintro⟨a,b,c⟩
        rw[aaQ] at b
        refine⟨a,by omega,?_⟩
        rw[show v - k=(v - (k+1))+1 by omega] at c
        exact c
    rw[key] at ih
    have h0:∀e,aW (e :: M) 0=e:=fun e=>rfl
    by_cases hd:d= .bl true
    . subst hd
      show v∈k :: idxs (k+1) M↔_
      rw[ZV,ih]
      constructor
      . rintro(rfl | ⟨a,b,c⟩)
        . rw[adk];exact⟨ZM _,by rw[aaQ];omega,rfl⟩
        . exact⟨by omega,b,c⟩
      . rintro⟨a,b,c⟩
        by_cases z:v=k
        . exact .inl z
        . exact .inr ⟨by omega,b,c⟩
    . have:idxs k (d :: M)=idxs (k+1) M:=if_neg fun z=>hd (K6.mp z)
      rw[this,ih]
      constructor
      . rintro⟨a,b,c⟩;exact⟨by omega,b,c⟩
      . rintro⟨a,b,c⟩
        refine⟨?_,b,c⟩
        rcases Nat.lt_or_eq_of_le a with z | rfl
        . exact z
        . rw[adk,h0] at c;exact absurd c hd
theorem CW:∀(M:List D) (k:Nat),(idxs k M).Nodup
  | [],k=>aa0
  | d :: M, k => by
    have ih:=CW M (k+1)
    show(if Sg d then k :: idxs (k+1) M else idxs (k+1) M).Nodup
    split
    . refine aav.mpr ⟨fun h=>?_,ih⟩
      have:=(uT M (k+1) k).mp h
      omega
    . exact ih
def CY {gd:D}(mo:fP W N) (hT:T.length<=4) (hp:∀p∈T,fO p) (hW:(cK T).length=W) (LY:W < 100) (hM:M.length=N.length) (hb:kM M) (hg:gd= .tup M\/gd= .lst M):
  ∃rows,nM [.t (bG T),.t (nD N),.t gd]=some (.m (.lst rows),[])/\rows.length=N.length/\(∀s,s < N.length->fu N M W s true->∃r,rows[s]? =some (.tup r))/\∀s,s < N.length->¬fu N M W s true->rows[s]? =some .bV:=by
 have few:=mo.few
 obtain⟨st,es,hst⟩:=Ih mo LY
 have eh:=G1 hT hp
 have Ii:∀v,v∈idxs 0 M↔v < M.length/\aW M v= .bl true:=fun v=>by
  rw[uT,Nat.sub_zero]
  exact⟨fun h=>h.2,fun h=>⟨Z3 _,h⟩⟩
 have Zt:∀t,aW M t= .bl true->t < M.length:=fun t h=>by
  rcases Nat.lt_or_ge t M.length with q | q
  ·exact q
  ·unfold aW at h;rw[ZN,Z0 q] at h;cases h
 have x0:Ro N W (fun t=>aW M t= .bl true) (idxs 0 M) (M.map vC):=by
  refine⟨by rw[Zw];exact hM,CW M 0,fun v hv=>by rw[<-hM];exact((Ii v).mp hv).1,fun k v hk=>?_,fun v hv hn=>?_,fun v hv=>⟨v,oF,((Ii v).mp hv).2⟩,fun t ht g=>(Ii t).mpr ⟨by omega,g⟩⟩
  ·have:=(Ii v).mp (ZO hk)
   refine⟨[],?_,Z3 _⟩
   rw[ZF,jo this.1,this.2]
   rfl
  ·have hv':v < M.length:=by omega
   obtain⟨b,e⟩:=wO hb hv'
   rw[ZF,jo hv',e]
   cases b with
   | false=>rfl
   | true=>exact absurd ((Ii v).mpr ⟨hv',e⟩) hn
 obtain⟨L',rows',y7,y8,y9,e,x',hcl⟩:=rw_loop (f1:=kT) (f2:=jz) (z0:=ZA (bG T)) (z1:=ZA (nD N)) (z2:=ZA gd) (H:=(cK T).map gz) mo (by rw[Zw];exact hW) hst 100000 0 (idxs 0 M) (M.map vC) none none (by omega) (Z3 _) x0 (fun i hi=>by omega) rfl rfl
 have go:∀(cs:List Nat) (s:Nat),s < N.length->Vd W cs->aW M (led (bC N) cs s)= .bl true->s∈L':=by
  intro cs
  induction cs with
  | nil=>intro s hs _ g;exact x'.all s hs g
  | cons c cs ih=>
   intro s hs v g
   have hc:=v c ZJ
   exact hcl s c hs hc (ih (bC N s c) (iH mo hs hc).2 (fun d hd=>v d (ZI _ hd)) g)
 have hin:∀s,s < N.length->(s∈L'↔fu N M W s true):=fun s hs=>
  ⟨fun h=>x'.rc s h,fun⟨t,⟨cs,v,q⟩,g⟩=>go cs s hs v (by rw[q];exact g)⟩
 refine⟨rows',?_,x'.len,fun s hs h=>?_,fun s hs h=>x'.no s hs fun q=>h ((hin s hs).mp q)⟩
 ·have e2:bM (eF (aj 2)) [ZA (bG T),ZA (nD N),ZA gd,ZC ((cK T).map gz),ZA (.lst ((oM st).map D.lst)),none,none,none,none,none]=some (M,[ZA (bG T),ZA (nD N),ZA gd,ZC ((cK T).map gz),ZA (.lst ((oM st).map D.lst)),none,none,none,none,none]):=by
   rcases hg with rfl | rfl <;> rfl
  have e3:∀z5,fW (aa (eF (aj 2)) ao) [ZA (bG T),ZA (nD N),ZA gd,ZC ((cK T).map gz),ZA (.lst ((oM st).map D.lst)),z5,none,none,none,none]=some (en 0 M,[ZA (bG T),ZA (nD N),ZA gd,ZC ((cK T).map gz),ZA (.lst ((oM st).map D.lst)),z5,none,none,none,none]):=by
   intro z5
   rw[<-CV]
   rcases hg with rfl | rfl <;> rfl
  have lM:M.length<=100000:=by omega
  have lE:(en 0 M).length<=100000:=by rw[<-CV];unfold dI;rw[abL];omega
  have s0:aR 3 (bq kT (bg (eF (aj 0)) cu)) [ZA (bG T),ZA (nD N),ZA gd,none,none,none,none,none,none,none]=some (.nx [ZA (bG T),ZA (nD N),ZA gd,ZC ((cK T).map gz),none,none,none,none,none,none]):=by
   generalize kT=f1 at eh
   generalize bG T=td at eh
   simp[eh]
  have s1:aR 4 (bq jz (bg (eF (aj 1)) cu)) [ZA (bG T),ZA (nD N),ZA gd,ZC ((cK T).map gz),none,none,none,none,none,none]=some (.nx [ZA (bG T),ZA (nD N),ZA gd,ZC ((cK T).map gz),ZA (.lst ((oM st).map D.lst)),none,none,none,none,none]):=by
   generalize jz=f2 at es
   generalize nD N=nd at es
   simp[es]
  have s2:aR 5 (bw [] (bM (eF (aj 2))) aC (eF (OS (qB (eF (aj 0))) (eP gW ao) (eT (eC .bV))))) [ZA (bG T),ZA (nD N),ZA gd,ZC ((cK T).map gz),ZA (.lst ((oM st).map D.lst)),none,none,none,none,none]=some (.nx [ZA (bG T),ZA (nD N),ZA gd,ZC ((cK T).map gz),ZA (.lst ((oM st).map D.lst)),ZC (M.map vC),none,none,none,none]):=by
   rw[xV,bD,e2,ZE]
   simp only[if_pos lM]
   rw[CU M [] hb]
   simp
  have s3:aR 6 (iT [] (fW (aa (eF (aj 2)) ao)) (qB (eF (aj 1))) (eF (aj 0))) [ZA (bG T),ZA (nD N),ZA gd,ZC ((cK T).map gz),ZA (.lst ((oM st).map D.lst)),ZC (M.map vC),none,none,none,none]=some (.nx [ZA (bG T),ZA (nD N),ZA gd,ZC ((cK T).map gz),ZA (.lst ((oM st).map D.lst)),ZC (M.map vC),ZC (iD (idxs 0 M)),none,none,none]):=by
   rw[xV]
   unfold iT
   rw[e3,ZE]
   simp only[if_pos lE]
   rw[yr M 0 [] hb]
   simp
  have all:jQ kT jz [ZA (bG T),ZA (nD N),ZA gd,none,none,none,none,none,none,none]=some (.rt (.m (.lst rows')) [ZA (bG T),ZA (nD N),ZA gd,ZC ((cK T).map gz),ZA (.lst ((oM st).map D.lst)),none,ZC (iD L'),y7,y8,y9]):=by
   unfold jQ
   rw[Sq.aO s0,Sq.aO s1,Sq.aO s2,Sq.aO s3,Sq.aO (S1:=[ZA (bG T),ZA (nD N),ZA gd,ZC ((cK T).map gz),ZA (.lst ((oM st).map D.lst)),ZC (M.map vC),ZC (iD (idxs 0 M)),ZD ((0:Nat):Int),none,none]) rfl,Sq.aO (show lX 100000 _ _ _=_ from e)]
   rfl
  show(jQ kT jz [ZA (bG T),ZA (nD N),ZA gd,none,none,none,none,none,none,none]).bind _=_
  rw[all]
  rfl
 ·obtain⟨k,hk,q⟩:=aaJ ((hin s hs).mpr h)
  obtain⟨r,hr,_⟩:=x'.yes k s (by rw[Zz hk,q])
  exact⟨r,hr⟩
noncomputable def sR:D->D
 | .bl b=>.bl (!b)
 | d=>d
def OD (h:kM M):kM (M.map sR):=fun x hx=>by
 obtain⟨d,hd,rfl⟩:=Z6.mp hx
 obtain⟨b,rfl⟩:=h d hd
 exact⟨!b,rfl⟩
def Ij {t:Nat}(h:kM M):aW (M.map sR) t= .bl true↔aW M t= .bl false:=by
 rcases Nat.lt_or_ge t M.length with q | q
 ·obtain⟨b,e⟩:=wO h q
  have:aW (M.map sR) t=sR (aW M t):=by
   unfold aW
   rw[ZN,ZN,ZF,Zz q]
   rfl
  rw[this,e]
  cases b <;> simp[sR]
 ·unfold aW
  rw[ZN,ZN,Z0 (by rw[Zw];exact q),Z0 q]
  simp
def uU {s:Nat}(h:kM M):fu N (M.map sR) W s true↔fu N M W s false:=
 ⟨fun⟨t,a,b⟩=>⟨t,a,(Ij h).mp b⟩,fun⟨t,a,b⟩=>⟨t,a,(Ij h).mpr b⟩⟩
theorem CZ {z0 z1 z2 z3 z4:Option U}:∀(M acc:List D),kM M->aF [] aC (eQ (FE (qB (eF (aj 0))))) M [z0,z1,z2,z3,z4] acc=some (acc++M.map sR,[z0,z1,z2,z3,z4])
 | [],acc,_=>by simp[aF]
 | d :: M,acc,h=>by
  have ih:=CZ (z0:=z0) (z1:=z1) (z2:=z2) (z3:=z3) (z4:=z4) M (acc++[sR d]) fun x hx=>h x (ZI _ hx)
  rw[aar,aa9,<-aae] at ih
  obtain⟨b,rfl⟩:=h d ZJ
  simp only[aF,aY,ZE]
  simp[aB]
  simpa[sR] using ih
noncomputable def dY (Ao:FM):GS:=
 (aG (aR 3 (bq Ao (bg (eF (aj 0)) (bg (eF (aj 1)) (bg (eF (aj 2)) cu)))))
 (aG (aR 4 (bq Ao (bg (eF (aj 0)) (bg (eF (aj 1)) (bg (eF (bw [] (bM (eF (aj 2))) aC (eQ (FE (qB (eF (aj 0))))))) cu)))))
 (dH (eP wB (aa (eF (aj 3)) (aa (eF (aj 4)) ao))))))
noncomputable def ig:GS:=
 (aG (v7 (qB (eF (eP DC (aa (eF (aj 1)) (aa (eC .bV) ao))))) (dH (eT (eC (.str "yes")))) lV)
 (aG (v7 (qB (eF (eP DC (aa (eF (aj 0)) (aa (eC .bV) ao))))) (dH (eT (eC (.str "no")))) lV)
 (dH (eT (eC (.str "open"))))))
noncomputable def gD (vD:FM) (BF:FM):GS:=
 (dH (iT [] (FQ (eF (bq vD (bg (eF (aj 0)) (bg (eF (aj 1)) (bg (eF (aj 2)) cu)))))) aC (eF (bq BF (bg (eF (aj 0)) (bg (eF (aj 1)) cu))))))
noncomputable def iK (uV:FM) (Aq:FM):GS:=
 (aG (aR 2 (bq uV (bg (aH 1 (eC (.int 0))) (bg (eF (bq Aq (bg (eF (aj 0)) (bg (aH 1 (eC (.int 0))) (bg (aH 1 (eC (.int 1))) cu))))) (bg (eC .bV) cu)))))
 (dH (eP gW (aa (aH 2 (eC (.int 0))) (aa (aH 2 (eC (.int 1))) ao)))))
noncomputable def qD:FM:=bY 5 (dY nM)
def Ik:∀us r,qD us=some r->bY 5 (dY nM) us=some r:=fun _ _ h=>h
noncomputable def AG:FM:=bY 2 ig
def sw_run:∀us r,AG us=some r->bY 2 ig us=some r:=fun _ _ h=>h
noncomputable def Ar:FM:=bY 3 (gD qD AG)
def K7:∀us r,Ar us=some r->bY 3 (gD qD AG) us=some r:=fun _ _ h=>h
noncomputable def Ep:FM:=bY 3 (iK pJ Ar)
def K8:∀us r,Ep us=some r->bY 3 (iK pJ Ar) us=some r:=fun _ _ h=>h
def OE (p:D):AG [.t p,.t .bV]=some (.t (.str "yes"),[]):=by
 simp[AG,bY,ig,lD,aB]
def Sh (r:List D):AG [.t .bV,.t (.tup r)]=some (.t (.str "no"),[]):=by
 simp[AG,bY,ig,lD,aB]
def K9 (r q:List D):AG [.t (.tup q),.t (.tup r)]=some (.t (.str "open"),[]):=by
 simp[AG,bY,ig,lD,aB]
def La    {T : List (Str × Int)} (mo : fP W N) (hT : T.length <= 4) (hp : ∀ p ∈ T, fO p) (hW : (cK T).length = W) (LY : W < 100) (hM : M.length = N.length) (hb : kM M) :
    ∃mY cons,qD [.t (bG T),.t (nD N),.t (.tup M)]=some (.m (.lst (uz mY cons)),[])/\mY.length=N.length/\cons.length=N.length/\∀s,s < N.length->AG [.t (aW mY s),.t (aW cons s)]=some (.t (vw N M W s),[]):=by
  have few:=mo.few
  obtain⟨mY,e1,l1,y1,n1⟩:=CY (gd:=.tup M) mo hT hp hW LY hM hb (.inl rfl)
  obtain⟨cons,e2,l2,y2,n2⟩:=CY (M:=M.map sR) (gd:=.lst (M.map sR)) mo hT hp hW LY (by rw[Zw];exact hM) (OD hb) (.inr rfl)
  refine⟨mY,cons,?_,l1,l2,fun s hs=>?_⟩
  . have ec:=CZ (z0:=ZA (bG T)) (z1:=ZA (nD N)) (z2:=ZA (.tup M)) (z3:=ZC mY) (z4:=none) M [] hb
    have lM:M.length<=100000:=by omega
    rw[Z9] at ec
    have ez:wB [.lst mY,.lst cons]=ZC (uz mY cons):=rfl
    unfold qD
    generalize nM=f at e1 e2
    generalize bG T=td at *
    generalize nD N=nd at *
    generalize M.map sR=mm at *
    have s0:aR 3 (bq f (bg (eF (aj 0)) (bg (eF (aj 1)) (bg (eF (aj 2)) cu)))) [ZA td,ZA nd,ZA (.tup M),none,none]=some (.nx [ZA td,ZA nd,ZA (.tup M),ZC mY,none]):=by simp[e1]
    have s1:aR 4 (bq f (bg (eF (aj 0)) (bg (eF (aj 1)) (bg (eF (bw [] (bM (eF (aj 2))) aC (eQ (FE (qB (eF (aj 0))))))) cu)))) [ZA td,ZA nd,ZA (.tup M),ZC mY,none]=some (.nx [ZA td,ZA nd,ZA (.tup M),ZC mY,ZC cons]):=by
      simp only[xV,Ke,NC,Vx,bD,Nu]
      simp[cz,lM,ec,e2]
    have all:dY f [ZA td,ZA nd,ZA (.tup M),none,none]=some (.rt (.m (.lst (uz mY cons))) [ZA td,ZA nd,ZA (.tup M),ZA (.lst mY),ZA (.lst cons)]):=by
      unfold dY
      rw[Sq.aO s0,Sq.aO s1]
      simp[ez]
    show(dY f [ZA td,ZA nd,ZA (.tup M),none,none]).bind _=_
    rw[all]
    rfl
  . have gp:∀{l:List D}{d:D},l[s]? =some d->aW l s=d:=fun h=>by unfold aW;rw[ZN,h];rfl
    by_cases c1:fu N M W s true
    . obtain⟨r,hr⟩:=y1 s hs c1
      rw[gp hr]
      by_cases c2:fu N M W s false
      . obtain⟨q,hq⟩:=y2 s hs ((uU hb).mpr c2)
        rw[gp hq,yp c1 c2]
        exact K9 ..
      . rw[gp (n2 s hs fun z=>c2 ((uU hb).mp z)),ym c1 c2]
        exact OE _
    . have c2:=(An mo hM hb hs).resolve_left c1
      obtain⟨q,hq⟩:=y2 s hs ((uU hb).mpr c2)
      rw[gp (n1 s hs c1),gp hq,CS c1]
      exact Sh _
def Es {a b:List D}(ha:a.length=n) (hb:b.length=n):uz a b=(List.range n).map fun s=>.tup [aW a s,aW b s]:=by
 unfold uz
 apply aaT
 intro s
 rw[List.getElem?_zipWith,ZF]
 by_cases hs:s < n
 ·rw[ZX hs,jo (by omega:s < a.length),jo (by omega:s < b.length)];rfl
 ·rw[Z0 (by omega:a.length<=s),Z0 (by omega:b.length<=s),Z0 (by rw[ZK];omega)];rfl
def OF (mo:fP W N) (hT:T.length<=4) (hp:∀p∈T,fO p) (hW:(cK T).length=W) (LY:W < 100) (hM:M.length=N.length) (hb:kM M):
  Ar [.t (bG T),.t (nD N),.t (.tup M)]=some (.m (.lst ((List.range N.length).map (vw N M W))),[]):=by
 have few:=mo.few
 obtain⟨mY,cons,e,l1,l2,hs⟩:=La mo hT hp hW LY hM hb
 rw[Es l1 l2] at e
 have ec:=rF (cap:=[]) (g:=eF (bq AG (bg (eF (aj 0)) (bg (eF (aj 1)) cu)))) (S:=[ZA (bG T),ZA (nD N),ZA (.tup M)]) (aW mY) (aW cons) (vw N M W) (List.range N.length) [] (fun s hs' acc=>by
  have:=hs s (ZS.mp hs')
  generalize AG=f at this
  generalize aW mY s=p at *
  generalize aW cons s=c at *
  simp[cI,aY,this,aB])
 rw[Z9] at ec
 have ll:((List.range N.length).map fun s=>D.tup [aW mY s,aW cons s]).length<=100000:=by rw[Zw,ZK];omega
 generalize ((List.range N.length).map fun s=>D.tup [aW mY s,aW cons s])=zz at *
 generalize (List.range N.length).map (vw N M W)=ww at *
 unfold Ar
 generalize qD=f1 at *
 generalize AG=f2 at *
 generalize bG T=td at *
 generalize nD N=nd at *
 have all:gD f1 f2 [ZA td,ZA nd,ZA (.tup M)]=some (.rt (.m (.lst ww)) [ZA td,ZA nd,ZA (.tup M)]):=by
  unfold gD
  simp only[Nv,iT]
  simp[e,ll,ec]
 show(gD f1 f2 [ZA td,ZA nd,ZA (.tup M)]).bind _=_
 rw[all]
 rfl
def Si {td nd md a b g:D}{ws:List D}(h2:f2 [.t td,.t nd,.t md]=some (.m (.lst ws),[])) (h1:f1 [.t nd,.t (.lst ws),.t .bV]=some (.t (.tup [a,b,g]),[])):bY 3 (iK f1 f2) [.t td,.t (.tup [nd,md])]=some (.t (.tup [a,b]),[]):=by
 simp[bY,iK,at2,Y5,h1,h2,aB]
def OG (C:Canon W n nx wd) (mo:fP W N) (hT:T.length<=4) (hp:∀p∈T,fO p) (hW:(cK T).length=W) (LY:W < 100) (hM:M.length=N.length) (hb:kM M) (Zb:∀cs,Vd W cs->vw N M W (led (bC N) cs 0)=wd (led nx cs 0)):
  Ep [.t (bG T),.t (.tup [nD N,.tup M])]=some (.t (.tup [.tup (bz n W nx),.tup ((List.range n).map wd)]),[]):=by
 have es:=OF mo hT hp hW LY hM hb
 have wl:∀s,s < N.length->aW ((List.range N.length).map (vw N M W)) s=vw N M W s:=fun s hs=>by
  unfold aW;rw[ZN,ZF,ZX hs];rfl
 obtain⟨n',nx',m6,gs,e,C',b',_,_⟩:=HP (M:=(List.range N.length).map (vw N M W)) (nt:=nD N) (wt:=.lst ((List.range N.length).map (vw N M W))) (md:=.bV) mo (by omega) (.inl rfl) (by rw[Zw,ZK]) (.inr rfl) (fun x hx=>by
  obtain⟨s,_,rfl⟩:=Z6.mp hx
  rcases HX N M W s with q | q | q <;> exact .inr ⟨_,q⟩) (.inl rfl)
 have lt:∀cs,Vd W cs->led (bC N) cs 0 < N.length:=fun cs v=>uR mo mo.pos ⟨cs,v,rfl⟩
 obtain⟨en,q⟩:=canon_one C C' fun cs v=>by rw[b' cs v,wl _ (lt cs v),Zb cs v]
 subst en
 have e1:bz n W nx=bz n W nx':=Am fun s c hs hc=>(q s hs).2 c hc
 have e2:(List.range n).map wd=(List.range n).map m6:=aax fun s hs=>(q s (ZS.mp hs)).1
 rw[e1,e2]
 exact Si es e
theorem As {c k:Nat}:∀{l:List D},(∀d∈l,Good c k d)->wJ l/\IC l<=(c+2) * l.length/\bH l<=k
  | [],_=>⟨True.intro,Z3 _,Z3 _⟩
  | d :: l, h => by
    obtain⟨a,b,e⟩:=As (l:=l) fun x hx=>h x (ZI _ hx)
    have g:=h d ZJ
    have gw:=g.w
    have gd:=g.dep
    refine⟨⟨g.GQ,a⟩,?_,?_⟩
    . show wD d+2+IC l<=(c+2) * (l.length+1)
      rw[Nat.mul_add,Nat.mul_one];omega
    . show max (iF d) (bH l)<=k;omega
def uW {k m:Nat}{l:List D}(h:∀d∈l,Good c k d) (hl:l.length<=m):Good ((c+2) * m+4) (k+1) (.tup l):=by
 obtain⟨a,b,e⟩:=As h
 have:=Nat.mul_le_mul_left (c+2) hl
 exact⟨a,by show IC l+4<=_;omega,by show bH l+1<=_;omega⟩
def Et {m:Nat}{h:AAE}{w:Nat->D}(hm:m<=14) (hW:W<=44) (hh:∀p c,p < m->c < W->h p c < m) (hw:∀p,p < m->w p∈mW):Good 60000 3 (.tup [.tup (bz m W h),.tup ((List.range m).map w)]):=by
 have g1:Good 30000 2 (.tup (bz m W h)):=(uW (c:=1852) (k:=1) (m:=14) (fun d hd=>by
  obtain⟨p,hp,rfl⟩:=Z6.mp hd
  refine(uW (c:=40) (k:=0) (m:=44) (fun x hx=>?_) (by rw[gO];exact hW)).mono (by decide) (by decide)
  obtain⟨c,hc,rfl⟩:=Z6.mp hx
  have:=hh p c (ZS.mp hp) (ZS.mp hc)
  exact⟨(by show(((h p c:Nat):Int)).natAbs < 10 ^ 30;omega),by show 40<=40;omega,ZM _⟩) (by rw[Ec];exact hm)).mono (by decide) (by decide)
 have g2:Good 29000 2 (.tup ((List.range m).map w)):=(uW (c:=42) (k:=0) (m:=14) (fun d hd=>by
  obtain⟨p,hp,rfl⟩:=Z6.mp hd
  obtain⟨a,b,e⟩:=CB (hw p (ZS.mp hp))
  exact⟨a,b,by omega⟩) (by rw[Zw,ZK];exact hm)).mono (by decide) (by decide)
 refine⟨⟨g1.GQ,g2.GQ,True.intro⟩,?_,?_⟩
 ·have:=g1.w;have:=g2.w
  show wD (.tup (bz m W h))+2+(wD (.tup ((List.range m).map w))+2+0)+4<=_
  omega
 ·have:=g1.dep;have:=g2.dep
  show max (iF (.tup (bz m W h))) (max (iF (.tup ((List.range m).map w))) 0)+1<=_
  omega
def Eu (C:Canon W n nx wd):∀s,s < n->∃cs,Vd W cs/\led nx cs 0=s:=by
  intro s
  induction s using Nat.strongRecOn with
  | _ s ih =>
    intro hs
    rcases Nat.eq_zero_or_pos s with rfl | h0
    . exact⟨[],(fun _ h=>nomatch h),rfl⟩
    . obtain⟨p,c,hp,hc,e,_⟩:=C.ord s h0 hs
      obtain⟨cs,v,q⟩:=ih p hp (by omega)
      exact⟨cs++[c],mj v (nK hc),by rw[eB,q];exact e⟩
def Ew (d:D):Prop:=d= .str "yes"\/d= .str "no"
def Lb {s:Nat}(mo:fP W N) (hM:M.length=N.length) (hb:kM M) (hs:s < N.length) (hc:c < W) (h:Ew (vw N M W s)):vw N M W (bC N s c)=vw N M W s:=by
 have up:∀b,fu N M W (bC N s c) b->fu N M W s b:=fun b ⟨t,a,e⟩=>⟨t,CP hc a,e⟩
 have lt:=(iH mo hs hc).2
 have any:=An mo hM hb lt
 by_cases c1:fu N M W s true
 ·by_cases c2:fu N M W s false
  ·rw[yp c1 c2] at h
   rcases h with h | h
   ·exact absurd (D.str.inj h) (by decide)
   ·exact absurd (D.str.inj h) (by decide)
  ·have n2:¬fu N M W (bC N s c) false:=fun z=>c2 (up _ z)
   rw[ym c1 c2,ym (any.resolve_right n2) n2]
 ·rw[CS c1,CS fun z=>c1 (up _ z)]
section
variable {W n:Nat}{nx:AAE}{wd:Nat->D}{N:AAF}{M:List D}
def rJ (C:Canon W n nx wd) (mo:fP W N) (hM:M.length=N.length) (hb:kM M) (bh:∀cs,Vd W cs->vw N M W (led (bC N) cs 0)=wd (led nx cs 0)){s:Nat}(hs:s < n) (h:Ew (wd s)):∀cs,Vd W cs->wd (led nx cs s)=wd s:=by
 have one:∀s c,s < n->c < W->Ew (wd s)->wd (nx s c)=wd s:=fun s c hs hc h=>by
  obtain⟨cs,v,rfl⟩:=Eu C s hs
  have a:=bh cs v
  have b:=bh (cs++[c]) (mj v (nK hc))
  rw[eB,eB] at b
  rw[<-a] at h ⊢
  rw[<-Lb mo hM hb (uR mo mo.pos ⟨cs,v,rfl⟩) hc h]
  exact b.symm
 intro cs
 induction cs generalizing s with
 | nil=>intro _;rfl
 | cons c cs ih=>
  intro v
  have hc:=v c ZJ
  have e:=one s c hs hc h
  show wd (led nx cs (nx s c))=_
  rw[ih (C.lt s c hs hc) (by rw[e];exact h) fun d hd=>v d (ZI _ hd),e]
def Au (C:Canon W n nx wd) (mo:fP W N) (hM:M.length=N.length) (hb:kM M) (bh:∀cs,Vd W cs->vw N M W (led (bC N) cs 0)=wd (led nx cs 0)){s t:Nat}(hs:s < n) (ht:t < n) (h:Ew (wd s)) (e:wd s=wd t):s=t:=by
 apply Z1
 intro ne
 obtain⟨cs,v,q⟩:=C.apart s t hs ht ne
 exact q (by rw[rJ C mo hM hb bh hs h cs v,rJ C mo hM hb bh ht (e▸h) cs v,e])
def Ex (C:Canon W n nx wd) (mo:fP W N) (hM:M.length=N.length) (hb:kM M) (bh:∀cs,Vd W cs->vw N M W (led (bC N) cs 0)=wd (led nx cs 0)){s:Nat}(hs:s < n) (hc:c < W) (h:Ew (wd s)):nx s c=s:=by
 have e:=rJ C mo hM hb bh hs h [c] (nK hc)
 exact(Au C mo hM hb bh hs (C.lt s c hs hc) h e.symm).symm
end
noncomputable def pK (bx:FM) (bA:FM) (aQ:FM) (br:FM) (aM:FM) (bu:FM):GS:=
 (aG (aR 8 (bw [6,7] (cS (aa (eF (eP sH (aa (aH 6 (eC (.int 1))) ao))) ao)) (qB (eF (eP OX (aa (eF (eP FL (aa (aH 1 (eC (.int 1))) (aa (eF (aj 0)) ao)))) (aa (eF (aj 2)) ao))))) (eF (aj 0))))
 (v7 (UU (qB (eF (eP OT (aa (dZ 8) (aa (eC (.int 1)) ao))))) (qB (eF (eP Jq (aa (eF (bw [6] (bM (eF (aj 8))) aC (eF (eP qX (aa (eF (eP FL (aa (aH 1 (eC (.int 0))) (aa (eF (aj 0)) ao)))) (aa (eF (eP gX (aa (eF (aj 0)) ao))) ao)))))) ao))))) (dH (eT (eC (.bl false)))) lV))
noncomputable def uX (bx:FM) (bA:FM) (aQ:FM) (br:FM) (aM:FM) (bu:FM):GS:=
 (aG (Jj (lW 2 (cL (bName 3) (cL (bName 4) mV))) (eF (bq aQ (kK (bq bA (kK (aj 0) (bg (eF (eP iz (aa (eC (.int 1)) (aa (eF (aj 2)) ao)))) cu))) (bg (eF (aj 1)) (bg (eF (eP gX (aa (eC (.bl true)) (aa (eC (.bl false)) ao)))) cu))))))
 (aG (aR 5 (eP FL (aa (eF (bq br (bg (eF (aj 3)) (bg (eF (bq aM (bg (eF (aj 3)) (bg (eF (aj 4)) cu)))) cu)))) (aa (eC (.int 0)) ao))))
 (aG (aR 6 (bq bu (bg (eF (aj 1)) (bg (eF (eP gW (aa (eF (aj 3)) (aa (eF (aj 4)) ao)))) cu))))
 (aG (v7 (qB (eF (eP SW (aa (eF (eP nG (aa (eF (aj 6)) ao))) (aa (eF (eP nG (aa (eF (aj 5)) ao))) ao))))) (dH (eT (eC (.bl false)))) lV)
 (gM (bName 7) (bM (eF (eP gX (aa (eC (.str "yes")) (aa (eC (.str "no")) ao))))) (pK bx bA aQ br aM bu))))))
noncomputable def C0 (bx:FM) (bA:FM) (aQ:FM) (br:FM) (aM:FM) (bu:FM):GS:=
 (aG (aR 1 (bq bx (kK (bq bA (kK (aj 0) (bg (eC (.int 0)) cu))) cu)))
 (aG (gM (bName 2) (cS (aa (eC (.int 5)) ao)) (uX bx bA aQ br aM bu))
 (dH (eT (eC (.bl true))))))
noncomputable def WH (bx:FM) (bA:FM) (aQ:FM) (br:FM) (aM:FM) (bu:FM):GS:=
 (Jj (lW 2 (cL (bName 3) (cL (bName 4) mV))) (eF (bq aQ (kK (bq bA (kK (aj 0) (bg (eF (eP iz (aa (eC (.int 1)) (aa (eF (aj 2)) ao)))) cu))) (bg (eF (aj 1)) (bg (eF (eP gX (aa (eC (.bl true)) (aa (eC (.bl false)) ao)))) cu))))))
noncomputable def WI (bx:FM) (bA:FM) (aQ:FM) (br:FM) (aM:FM) (bu:FM):GS:=
 (aR 5 (eP FL (aa (eF (bq br (bg (eF (aj 3)) (bg (eF (bq aM (bg (eF (aj 3)) (bg (eF (aj 4)) cu)))) cu)))) (aa (eC (.int 0)) ao))))
noncomputable def WJ (bx:FM) (bA:FM) (aQ:FM) (br:FM) (aM:FM) (bu:FM):GS:=
 (aR 6 (bq bu (bg (eF (aj 1)) (bg (eF (eP gW (aa (eF (aj 3)) (aa (eF (aj 4)) ao)))) cu))))
noncomputable def WK (bx:FM) (bA:FM) (aQ:FM) (br:FM) (aM:FM) (bu:FM):GS:=
 (v7 (qB (eF (eP SW (aa (eF (eP nG (aa (eF (aj 6)) ao))) (aa (eF (eP nG (aa (eF (aj 5)) ao))) ao))))) (dH (eT (eC (.bl false)))) lV)
noncomputable def WL (bx:FM) (bA:FM) (aQ:FM) (br:FM) (aM:FM) (bu:FM):GS:=
 (gM (bName 7) (bM (eF (eP gX (aa (eC (.str "yes")) (aa (eC (.str "no")) ao))))) (pK bx bA aQ br aM bu))
def lw_eq (bx:FM) (bA:FM) (aQ:FM) (br:FM) (aM:FM) (bu:FM):uX bx bA aQ br aM bu=aG (WH bx bA aQ br aM bu) (aG (WI bx bA aQ br aM bu) (aG (WJ bx bA aQ br aM bu) (aG (WK bx bA aQ br aM bu) (WL bx bA aQ br aM bu)))):=rfl
noncomputable abbrev TZ:GT:=qB (eF (eP OX (aa (eF (eP FL (aa (aH 1 (eC (.int 1))) (aa (eF (aj 0)) ao)))) (aa (eF (aj 2)) ao))))
def Lc (a b:Str):qG (.str a) (.str b)=decide (a=b):=by
 rw[xW]
 by_cases h:a=b
 ·subst h;simp
 ·rw[aaf h];exact aa2.mpr h
theorem yt {ra:D}{ws:List D}{word:Str}{z0 z1 z2 z3 z4 z5 z8:Option U}:∀(l:List Nat) (acc:List Nat),(∀s∈l,∃z,ws[s]? =some (.str z))->aF [6,7] TZ (eF (aj 0)) (iD l) [z0,z1,z2,z3,z4,z5,ZA (.tup [ra,.tup ws]),ZA (.str word),z8] (iD acc)=some (iD (acc++l.filter fun s=>decide (ws[s]? =some (.str word))),[z0,z1,z2,z3,z4,z5,ZA (.tup [ra,.tup ws]),ZA (.str word),z8])
  | [],acc,_=>by simp[iD,aF]
  | s :: l, acc, h => by
    obtain⟨z,hz⟩:=h s ZJ
    have hl:=fun t ht=>h t (ZI _ ht)
    have ea:=kq hz
    have d0:iF (.str z)<=40:=by simp
    have eq:=Lc z word
    show aF [6,7] TZ (eF (aj 0)) (.int (s:Nat) :: iD l) _ _=_
    by_cases q:z=word
    . have ih:=yt (ra:=ra) (ws:=ws) (word:=word) (z0:=z0) (z1:=z1) (z2:=z2) (z3:=z3) (z4:=z4) (z5:=z5) (z8:=z8) l (acc++[s]) hl
      rw[aaC q] at eq
      rw[show(s :: l).filter (fun s=>decide (ws[s]? =some (.str word)))=s :: l.filter fun s=>decide (ws[s]? =some (.str word)) by simp[hz,q]]
      rw[qz,aar,aa9] at ih
      generalize l.filter (fun s=>decide (ws[s]? =some (.str word)))=fl at *
      generalize iD acc=a at *
      generalize ((s:Nat):Int)=k at *
      simp[-xW,aF,aY,cO,at2,ea,eq,aB]
      exact ih
    . have ih:=yt (ra:=ra) (ws:=ws) (word:=word) (z0:=z0) (z1:=z1) (z2:=z2) (z3:=z3) (z4:=z4) (z5:=z5) (z8:=z8) l acc hl
      rw[aaf q] at eq
      rw[show(s :: l).filter (fun s=>decide (ws[s]? =some (.str word)))=l.filter fun s=>decide (ws[s]? =some (.str word)) by simp[hz,q]]
      generalize l.filter (fun s=>decide (ws[s]? =some (.str word)))=fl at *
      generalize iD acc=a at *
      generalize ((s:Nat):Int)=k at *
      simp[-xW,aF,aY,cO,at2,ea,eq,aB]
      exact ih
def OH (n:Nat):gT 0 n=iD (List.range n):=by
 unfold gT iD
 refine aax fun j _=>?_
 show D.int (0+(j:Int))=_
 rw[Int.zero_add]
def OI {l:List Nat}{s:Nat}(hl:l.length < 64) (h0:l≠[]) (h:∀v∈l,v=s):qX [.tup (iD l),.lst [.int (s:Nat)]]=ZA (.bl false):=by
 have e1:xT (.tup (iD l))=some (l.map fun n=>((n:Nat):Int)):=by
  show(aV (iD l)).bind _=_
  rw[uS,ZE,if_pos (by rw[Zw];exact hl)]
 have e2:xT (.lst [.int (s:Nat)])=some [((s:Nat):Int)]:=rfl
 have m1:lH (fun i=>(l.map fun n=>((n:Nat):Int)).getD i 0) (l.map fun n=>((n:Nat):Int)).length=[((s:Nat):Int)]:=Cq (fun k hk=>by
  obtain⟨n,hn,rfl⟩:=Z6.mp hk
  rw[h n hn]) (by simpa using h0)
 have m2:lH (fun i=>[((s:Nat):Int)].getD i 0) [((s:Nat):Int)].length=[((s:Nat):Int)]:=Cq (fun k hk=>ZG.mp hk) (by simp)
 show(match xT (.tup (iD l)),xT (.lst [.int (s:Nat)]) with
  | some ns,some ms=>match lH (fun i=>ns.getD i 0) ns.length,lH (fun i=>ms.getD i 0) ms.length with
   | [a],[b]=>if a=b then some (U.t (.bl false)) else none
   | _,_=>none
  | _,_=>none)=_
 rw[e1,e2]
 simp only[m1,m2,if_true]
section
variable {f1 f2 f3 f4 f5 f6:FM}{rows ws row:List D}{word:Str}{z0 z1 z2 z3 z4 z5 x8:Option U}{F:List Nat}{s:Nat}
def C1 (h8:dM x8=false) (hw:∀s,s < ws.length->∃z,ws[s]? =some (.str z)) (hl:ws.length < 1000) (hF:(List.range ws.length).filter (fun s=>decide (ws[s]? =some (.str word)))=F):
  (aR 8 (bw [6,7] (cS (aa (eF (eP sH (aa (aH 6 (eC (.int 1))) ao))) ao)) TZ (eF (aj 0)))) [z0,z1,z2,z3,z4,z5,ZA (.tup [.tup rows,.tup ws]),ZA (.str word),x8]=some (.nx [z0,z1,z2,z3,z4,z5,ZA (.tup [.tup rows,.tup ws]),ZA (.str word),ZC (iD F)]):=by
 have e:=yt (ra:=.tup rows) (ws:=ws) (word:=word) (z0:=z0) (z1:=z1) (z2:=z2) (z3:=z3) (z4:=z4) (z5:=z5) (z8:=x8) (List.range ws.length) [] (fun s hs=>hw s (ZS.mp hs))
 rw[Z9,hF,<-OH] at e
 have e':aF [6,7] TZ (eF (aj 0)) (gT 0 ws.length) [z0,z1,z2,z3,z4,z5,ZA (.tup [.tup rows,.tup ws]),ZA (.str word),x8] []=some (iD F,[z0,z1,z2,z3,z4,z5,ZA (.tup [.tup rows,.tup ws]),ZA (.str word),x8]):=e
 have g:cS (aa (eF (eP sH (aa (aH 6 (eC (.int 1))) ao))) ao) [z0,z1,z2,z3,z4,z5,ZA (.tup [.tup rows,.tup ws]),ZA (.str word),x8]=some (gT 0 ws.length,[z0,z1,z2,z3,z4,z5,ZA (.tup [.tup rows,.tup ws]),ZA (.str word),x8]):=by
  have hb:ws.length < 1000000:=by omega
  have:=Sq.lI (gA:=aa (eF (eP sH (aa (aH 6 (eC (.int 1))) ao))) ao) (S:=[z0,z1,z2,z3,z4,z5,ZA (.tup [.tup rows,.tup ws]),ZA (.str word),x8]) (S':=[z0,z1,z2,z3,z4,z5,ZA (.tup [.tup rows,.tup ws]),ZA (.str word),x8]) (j:=(ws.length:Nat)) (by simp[at2]) (adh.mpr hb) (Sq.xZ _)
  rw[aaB] at this
  exact this
 have lr:(gT 0 ws.length).length<=100000:=by rw[show(gT 0 ws.length).length=ws.length from Sq.i9 ..];omega
 rw[xV,bD,g,ZE]
 simp only[if_pos lr]
 rw[e']
 simp[-cD,bL,h8]
def Ld (h8:dM x8=false) (hw:∀s,s < ws.length->∃z,ws[s]? =some (.str z)) (hl:ws.length < 1000) (hF:(List.range ws.length).filter (fun s=>decide (ws[s]? =some (.str word)))=[]):
  pK f1 f2 f3 f4 f5 f6 [z0,z1,z2,z3,z4,z5,ZA (.tup [.tup rows,.tup ws]),ZA (.str word),x8]=some (.nx [z0,z1,z2,z3,z4,z5,ZA (.tup [.tup rows,.tup ws]),ZA (.str word),ZA (.lst [])]):=by
 unfold pK
 rw[Sq.aO (C1 h8 hw hl hF)]
 simp[iD,bD,cz,aF,j4]
def OJ (h8:dM x8=false) (hw:∀s,s < ws.length->∃z,ws[s]? =some (.str z)) (hl:ws.length < 1000) (hF:(List.range ws.length).filter (fun s=>decide (ws[s]? =some (.str word)))=[s]) (hr:rows[s]? =some (.tup row)) (hn:qX [.tup row,.lst [.int (s:Nat)]]=ZA (.bl false)):
  pK f1 f2 f3 f4 f5 f6 [z0,z1,z2,z3,z4,z5,ZA (.tup [.tup rows,.tup ws]),ZA (.str word),x8]=some (.nx [z0,z1,z2,z3,z4,z5,ZA (.tup [.tup rows,.tup ws]),ZA (.str word),ZA (.lst [.int (s:Nat)])]):=by
 have ea:=kq hr
 unfold pK
 rw[Sq.aO (C1 h8 hw hl hF)]
 rw[show iD [s]=[.int (s:Nat)] from rfl]
 generalize ((s:Nat):Int)=k at *
 simp[bD,cz,aF,aY,cO,at2,ea,hn,aB,j4]
end
section
variable {f1 f2 f3 f4 f5 f6:FM}{ns:List Int}{td j0 j1 V g:D}{rows ws:List D}{k c l i1 l1:Int}{x3 x4 x5 x6 x7 x8:Option U}
def Le (h3:dM x3=false) (h4:dM x4=false) (h5:dM x5=false) (h6:dM x6=false) (h7:dM x7=false) (h8:dM x8=false)
  (e1:f2 [.s ns,.t (.int (1+k))]=some (.m (Sq.fd c 0 l),[])) (e2:f3 [.b (Sq.fd c 0 l),.t td,.t (.lst [.bl true,.bl false])]=some (.t (.tup [j0,j1]),[Sq.fd c i1 l1]))
  (e3:f5 [.t j0,.t j1]=some (.t V,[])) (e4:f4 [.t j0,.t V]=some (.t (.tup [.tup [.tup rows,.tup ws],g]),[]))
  (e5:f6 [.t td,.t (.tup [j0,j1])]=some (.t (.tup [.tup rows,.tup ws]),[])) (ok:Dz (.tup [.tup rows,.tup ws]))
  (w1:∀word,word="yes"\/word="no"->∀x8,dM x8=false->∃y8,dM y8=false/\pK f1 f2 f3 f4 f5 f6 [some (.s ns),ZA td,ZD k,ZA j0,ZA j1,ZA (.tup [.tup rows,.tup ws]),ZA (.tup [.tup rows,.tup ws]),ZA (.str word),x8]=some (.nx [some (.s ns),ZA td,ZD k,ZA j0,ZA j1,ZA (.tup [.tup rows,.tup ws]),ZA (.tup [.tup rows,.tup ws]),ZA (.str word),y8])):
  ∃y3 y4 y5 y6 y7 y8,dM y3=false/\dM y4=false/\dM y5=false/\dM y6=false/\dM y7=false/\dM y8=false/\
  uX f1 f2 f3 f4 f5 f6 [some (.s ns),ZA td,ZD k,x3,x4,x5,x6,x7,x8]=some (.nx [some (.s ns),ZA td,ZD k,y3,y4,y5,y6,y7,y8]):=by
 obtain⟨y8,b8,t1⟩:=w1 "yes" (.inl rfl) x8 h8
 obtain⟨v8,c8,t2⟩:=w1 "no" (.inr rfl) y8 b8
 refine⟨ZA j0,ZA j1,ZA (.tup [.tup rows,.tup ws]),ZA (.tup [.tup rows,.tup ws]),ZA (.str "no"),v8,rfl,rfl,rfl,rfl,rfl,c8,?_⟩
 have r:=Af ok
 have q:qG (.str (tL (.tup [.tup rows,.tup ws]))) (.str (tL (.tup [.tup rows,.tup ws])))=true:=zp _
 have d0:iF (.str (tL (.tup [.tup rows,.tup ws])))<=40:=Z3 _
 have s0:WH f1 f2 f3 f4 f5 f6 [some (.s ns),ZA td,ZD k,x3,x4,x5,x6,x7,x8]=some (.nx [some (.s ns),ZA td,ZD k,ZA j0,ZA j1,x5,x6,x7,x8]):=by simp[-cD,bL,WH,e1,e2,h3,h4]
 have s1:WI f1 f2 f3 f4 f5 f6 [some (.s ns),ZA td,ZD k,ZA j0,ZA j1,x5,x6,x7,x8]=some (.nx [some (.s ns),ZA td,ZD k,ZA j0,ZA j1,ZA (.tup [.tup rows,.tup ws]),x6,x7,x8]):=by simp[-cD,bL,WI,e3,e4,at2,h5]
 have s2:WJ f1 f2 f3 f4 f5 f6 [some (.s ns),ZA td,ZD k,ZA j0,ZA j1,ZA (.tup [.tup rows,.tup ws]),x6,x7,x8]=some (.nx [some (.s ns),ZA td,ZD k,ZA j0,ZA j1,ZA (.tup [.tup rows,.tup ws]),ZA (.tup [.tup rows,.tup ws]),x7,x8]):=by simp[-cD,bL,WJ,e5,h6]
 have s3:WK f1 f2 f3 f4 f5 f6 [some (.s ns),ZA td,ZD k,ZA j0,ZA j1,ZA (.tup [.tup rows,.tup ws]),ZA (.tup [.tup rows,.tup ws]),x7,x8]=some (.nx [some (.s ns),ZA td,ZD k,ZA j0,ZA j1,ZA (.tup [.tup rows,.tup ws]),ZA (.tup [.tup rows,.tup ws]),x7,x8]):=by
  generalize D.tup [.tup rows,.tup ws]=due at *
  simp[WK,r,q,d0]
 have s4:WL f1 f2 f3 f4 f5 f6 [some (.s ns),ZA td,ZD k,ZA j0,ZA j1,ZA (.tup [.tup rows,.tup ws]),ZA (.tup [.tup rows,.tup ws]),x7,x8]=some (.nx [some (.s ns),ZA td,ZD k,ZA j0,ZA j1,ZA (.tup [.tup rows,.tup ws]),ZA (.tup [.tup rows,.tup ws]),ZA (.str "no"),v8]):=by
  generalize D.tup [.tup rows,.tup ws]=due at *
  have b:∀(d:D) (x z:Option U),dM x=false->bName 7 d [some (.s ns),ZA td,ZD k,ZA j0,ZA j1,ZA due,ZA due,x,z]=some [some (.s ns),ZA td,ZD k,ZA j0,ZA j1,ZA due,ZA due,ZA d,z]:=fun d x z hx=>by simp[-cD,bL,hx]
  have ei:bM (eF (eP gX (aa (eC (.str "yes")) (aa (eC (.str "no")) ao)))) [some (.s ns),ZA td,ZD k,ZA j0,ZA j1,ZA due,ZA due,x7,x8]=some ([.str "yes",.str "no"],[some (.s ns),ZA td,ZD k,ZA j0,ZA j1,ZA due,ZA due,x7,x8]):=by simp[cz]
  unfold WL
  rw[pH,ei,ZE]
  show loop _ _ [.str "yes",.str "no"] _=_
  rw[jO,b _ _ _ h7,ZE,t1,ZE]
  show loop _ _ [.str "no"] _=_
  rw[jO,b _ _ _ rfl,ZE,t2,ZE]
  rfl
 rw[lw_eq,Sq.aO s0,Sq.aO s1,Sq.aO s2,Sq.aO s3,s4]
end
noncomputable abbrev Sj (g:FM->FM->FM->FM->FM->FM->GS):GS:=g Sq.zX Sq.oV Sq.wK oE rH Ep
def yu {p:Nat->Bool}(h:∀s t,s < n->t < n->p s=true->p t=true->s=t):(List.range n).filter p=[]\/∃s,s < n/\p s=true/\(List.range n).filter p=[s]:=by
 have nd:((List.range n).filter p).Nodup:=ab2.filter p
 have hm:∀s,s∈(List.range n).filter p->s < n/\p s=true:=fun s hs=>⟨ZS.mp (abb.mp hs).1,(abb.mp hs).2⟩
 revert nd hm
 generalize (List.range n).filter p=l
 intro nd hm
 cases l with
 | nil=>exact .inl rfl
 | cons s l=>
  have a:=hm s ZJ
  refine .inr ⟨s,a.1,a.2,?_⟩
  cases l with
  | nil=>rfl
  | cons t l=>
   have b:=hm t (ZI _ ZJ)
   have e:=h s t a.1 b.1 a.2 b.2
   subst e
   simp at nd
def OL {ns:List Int}{j:Nat}{x3 x5 x6 x7:Option U}(hT:T.length<=4) (hp:∀p∈T,fO p) (hns:ns.length < 1000) (hj:j < 5) (hh:(cK T).length<=44) (h0:0 < (cK T).length) (h3:dM x3=false) (h4:dM x4=false) (h5:dM x5=false) (h6:dM x6=false) (h7:dM x7=false) (h8:dM x8=false):
  ∃y3 y4 y5 y6 y7 y8,dM y3=false/\dM y4=false/\dM y5=false/\dM y6=false/\dM y7=false/\dM y8=false/\Sj uX [some (.s ns),ZA (bG T),ZD (j:Nat),x3,x4,x5,x6,x7,x8]=some (.nx [some (.s ns),ZA (bG T),ZD (j:Nat),y3,y4,y5,y6,y7,y8]):=by
 obtain⟨c,l,e1⟩:=Sq.Cu (ns:=ns) (k:=1+j) (by omega) (by omega) hns
 obtain⟨N,M,i1,l1,e2,mo,hM,hm,q1,q2⟩:=Sq.G9 c l (i:=0) (T:=T) (menu:=[.bl true,.bl false]) (by omega) (by omega) hT hp (by decide) (by decide)
 have few:=mo.few
 have pos:=mo.pos
 have mk:=fP.of mo
 have hb:kM M:=fun x hx=>by
  have:=hm x hx
  simp only[ZV,aaG,abM] at this
  rcases this with rfl | rfl
  ·exact⟨true,rfl⟩
  ·exact⟨false,rfl⟩
 have e3:=Ic mk (by omega) hM hb
 have wl:∀s,s < N.length->aW ((List.range N.length).map (vw N M (cK T).length)) s=vw N M (cK T).length s:=fun s hs=>by
  unfold aW;rw[ZN,ZF,ZX hs];rfl
 have hv:∀x∈(List.range N.length).map (vw N M (cK T).length),x= .str "yes"\/x= .str "no"\/x= .str "open":=fun x hx=>by
  obtain⟨s,_,rfl⟩:=Z6.mp hx
  exact HX ..
 have hw:∀x∈(List.range N.length).map (vw N M (cK T).length),x∈mW:=fun x hx=>by
  rcases hv x hx with rfl | rfl | rfl <;> simp[mW]
 obtain⟨n',nx',m6,gs,e4,C,bd,Zu,wm⟩:=Ej (M:=(List.range N.length).map (vw N M (cK T).length)) mo (by omega) (by rw[Zw,ZK]) hw
 have bh:∀cs,Vd (cK T).length cs->vw N M (cK T).length (led (bC N) cs 0)=m6 (led nx' cs 0):=fun cs v=>by
  rw[bd cs v,wl _ (uR mk pos ⟨cs,v,rfl⟩)]
 have e5:=OG C mk hT hp rfl (by omega) hM hb bh
 have ok:Dz (.tup [.tup (bz n' (cK T).length nx'),.tup ((List.range n').map m6)]):=(Et (m:=n') (W:=(cK T).length) (h:=nx') (w:=m6) (by omega) hh C.lt fun p hp=>hw _ (wm p hp)).Dz (by decide) (by decide)
 refine Le h3 h4 h5 h6 h7 h8 e1 e2 e3 e4 e5 ok fun word Sm x8 XM=>?_
 have So:((List.range n').map m6).length=n':=by rw[Zw,ZK]
 have XN:∀s,s < n'->((List.range n').map m6)[s]? =some (m6 s):=fun s hs=>by rw[ZF,ZX hs];rfl
 have hstr:∀s,s < ((List.range n').map m6).length->∃z,((List.range n').map m6)[s]? =some (.str z):=fun s hs=>by
  rw[So] at hs
  rw[XN s hs]
  rcases hv _ (wm s hs) with q | q | q <;> exact⟨_,congrArg some q⟩
 have sure:∀s,s < n'->((List.range n').map m6)[s]? =some (.str word)->Ew (m6 s)/\m6 s= .str word:=fun s hs h=>by
  rw[XN s hs] at h
  have h:=ZU h
  refine⟨?_,h⟩
  rw[h]
  rcases Sm with rfl | rfl
  ·exact .inl rfl
  ·exact .inr rfl
 rcases yu (n:=n') (p:=fun s=>decide (((List.range n').map m6)[s]? =some (.str word))) (fun s t hs ht a b=>by
  obtain⟨s1,s2⟩:=sure s hs (abO a)
  obtain⟨t1,t2⟩:=sure t ht (abO b)
  exact Au C mk hM hb bh hs ht s1 (s2.trans t2.symm)) with hF | ⟨s,hs,hps,hF⟩
 ·refine⟨_,rfl,Ld XM hstr (by rw[So];omega) (by rw[So];exact hF)⟩
 ·obtain⟨s1,s2⟩:=sure s hs (abO hps)
  refine⟨_,rfl,OJ (row:=cX (cK T).length (nx' s)) XM hstr (by rw[So];omega) (by rw[So];exact hF) (by unfold bz;rw[ZF,ZX hs];rfl) ?_⟩
  have er:cX (cK T).length (nx' s)=iD ((List.range (cK T).length).map (nx' s)):=by unfold cX iD;rw[aaq];rfl
  rw[er]
  refine OI (by rw[Zw,ZK];omega) (fun z=>?_) fun v hv=>?_
  ·have:=congrArg List.length z
   rw[Zw,ZK,abf] at this
   exact absurd this (abe h0)
  ·obtain⟨d,hd,rfl⟩:=Z6.mp hv
   exact Ex C mk hM hb bh hs (ZS.mp hd) s1
def Il (h:0 < T.length) (hp:∀p∈T,fO p):0 < (cK T).length:=by
 cases T with
 | nil=>simp at h
 | cons p T=>
  have a:=(hp p ZJ).lo
  show 0 < (one p++cK T).length
  rw[ZZ]
  have:(one p).length=(p.2+1).toNat:=by unfold one;rw[Zw,nI]
  omega
def Ey : ∀ us r, zV 63 us = some r -> bY 9 (Sj C0) us = some r := by
  intro us r h
  unfold zV at h
  split at h
  . rename_i ns
    obtain⟨hl,rfl⟩:=cj h
    obtain⟨c,l,e1⟩:=Sq.Cu (ns:=ns) (k:=0) (by omega) (by omega) (by omega)
    obtain⟨T,i',l',e2,t0,t1,t2,_,_,nn⟩:=Sx.Kr c l (i:=0) (by omega) (by omega)
    have hh:=qw t2
    obtain⟨S',e7,x2,x3,x4,x5,x6,x7,x8,h2,h3,h4,h5,h6,h7,h8,rfl⟩:=jk (bd:=bName 2) (body:=Sj uX) (gT 0 5)
      (fun j S=>∃x2 x3 x4 x5 x6 x7 x8:Option U,dM x2=false/\dM x3=false/\dM x4=false/\dM x5=false/\dM x6=false/\dM x7=false/\dM x8=false/\S=[some (.s ns),ZA (bG T),x2,x3,x4,x5,x6,x7,x8])
      [some (.s ns),ZA (bG T),none,none,none,none,none,none,none] ⟨none,none,none,none,none,none,none,rfl,rfl,rfl,rfl,rfl,rfl,rfl,rfl⟩ (by
        rintro j d S hd ⟨x2,x3,x4,x5,x6,x7,x8,h2,h3,h4,h5,h6,h7,h8,rfl⟩
        obtain⟨hj,rfl⟩:=qu hd
        obtain⟨y3,y4,y5,y6,y7,y8,g3,g4,g5,g6,g7,g8,e⟩:=OL (ns:=ns) (T:=T) (j:=j) (by omega) t2 (by omega) hj (by omega) (Il t0 t2) h3 h4 h5 h6 h7 h8
        refine⟨_,_,?_,e,ZD (j:Nat),y3,y4,y5,y6,y7,y8,rfl,g3,g4,g5,g6,g7,g8,rfl⟩
        generalize (j:Int)=jj
        simp[-cD,bL,h2])
    have g:cS (aa (eC (.int 5)) ao) [some (.s ns),ZA (bG T),none,none,none,none,none,none,none]=some (gT 0 5,[some (.s ns),ZA (bG T),none,none,none,none,none,none,none]):=Sq.lI (j:=5) rfl (by decide) (by decide)
    have all:Sj C0 [some (.s ns),none,none,none,none,none,none,none,none]=some (.rt (.t (.bl true)) [some (.s ns),ZA (bG T),x2,x3,x4,x5,x6,x7,x8]):=by
      unfold Sj C0 at *
      rw[Sq.aO (S1:=[some (.s ns),ZA (bG T),none,none,none,none,none,none,none]),Sq.aO (S1:=[some (.s ns),ZA (bG T),x2,x3,x4,x5,x6,x7,x8])]
      . rfl
      . rw[pH,g]
        exact e7
      . generalize Sq.zX=f1 at e2
        generalize Sq.oV=f2 at e1
        generalize bG T=td at e2
        simp[e1,e2]
    exact rC all rfl
  . cases h
end Se
end
namespace K43
open PySem PySem.Spec PyProof.Rows L2 Sw Sq Sl Sk Se
variable {l:PySem.W.OpenLaw}
def top (i:Nat):Stmt:=PySem.Challenge.pw_surewatch_k43_watchers_of_judges.main.body.getD i (.Pass ⟨0,0,0,0⟩)
variable {P:Program}{w:World}{K:AAA}{mg:AAC}{base:Heap}
structure Nb (mg:AAC):Prop where
 iY:mg "range" =none
 LZ:mg "list" =none
 Ss:mg "dict" =none
 lK:mg "len" =none
 iZ:mg "enumerate" =none
 WM:mg "zip" =none
 OM:mg "max" =none
 iL:mg "tuple" =none
 Su:mg "int" =none
 WN:mg "min" =none
 Im:mg "repr" =none
 Lf:mg "sorted" =none
 Sv:mg "set" =none
 WO:mg "any" =none
abbrev jA:Stmt:=top 4
def gF:bF ["table","happenings","entry","k"] ["table"] (aN jA):=sI
def rK (D:Df K mg "happenings_of" jA) (N:Nb mg):jN P w K mg base 1 "happenings_of" ["table"] kT:=
 vf (g:=jy) D gF (fun _ _ _ _ _ _ _ hr=>(au (zs gF.nd 1 (fL aA))
  (au (fV Z8 rfl (bW (jv 0)) (zg gF.nd 2) (aK (fV Z8 rfl (cW rfl N.iY (ak (JE.d (cg dO (ys hr 2 aE) aE)) aA)) (zg gF.nd 3) (aK (gm (JD.e (iE (i:=1) aal aam fG gn gq (ak (JE.d (gY (ak (ys hr 2 aE) (ak (jv 3) aA)))) aA))))))))
  (aK (b7 (dG 1)))))) G2
abbrev rL:Stmt:=top 6
def gZ:bF ["nexts","begin","found","seen","at","leads","later"] ["nexts","begin"] (aN rL):=sI
def BG (D:Df K mg "reached" rL) (N:Nb mg):jN P w K mg base 1 "reached" ["nexts","begin"] reachF:=
 vf (g:=jP) D gZ (fun _ _ _ _ _ _ _ hr=>(au (zs gZ.nd 2 (bX AY rfl N.LZ PyProof.Rows.Boot.list (ak (jv 1) aA)))
  (au (zs gZ.nd 3 (DP rfl rfl N.Ss (JE.d (dj cp rfl (bW (jv 1)) (fun _ _ _ _=>bR) (fun _ _ _ _=>(JE.d (gY (ak (jv 0) (ak pZ aA)))))))))
  (au (zs gZ.nd 4 (JD.e aE))
  (au (p8 Z8 (d9 uo (jv 4) (fM (i:=2) rfl N.lK)) (au (zs gZ.nd 5 (JD.e (ys hr 0 (ys hr 2 (jv 4)))))
  (au (fV Z8 rfl (bW (jv 5)) (zg gZ.nd 6) (aK (jX (oh (i:=3) (jF hr) (jv 6)) (au (nF (i:=3) (jF hr) (jv 6) pZ)
  (aK (gm (JD.e (iE (i:=2) aal aam fG gn gq (ak (jv 6) aA)))))) iC)))
  (aK (za EW gZ.nd 4 aE)))))
  (aK (b7 (dG 2)))))))) Ea
abbrev pL:Stmt:=top 7
def iu:bF ["nexts","steps","spot","leads","column","later"] ["nexts"] (aN pL):=sI
def Av (D:Df K mg "steps_to" pL) (N:Nb mg):jN P w K mg base 1 "steps_to" ["nexts"] jz:=
 vf (g:=kj) D iu (fun _ _ _ _ _ _ _ hr=>(Ck (i:=1) iu.nd rfl (by first | exact Or.inl rfl | exact Or.inr rfl) cp rfl (bW (jv 0)) (Bc Z8 rfl (n9 rfl N.iZ (ak (jv 0) aA)) (qO rfl (eV (zg iu.nd 2) (eV (zg iu.nd 3) nY))) (Bc Z8 rfl (n9 rfl N.iZ (ak (jv 3) aA)) (qO rfl (eV (zg iu.nd 4) (eV (zg iu.nd 5) nY))) (Gw (i:=1) (jv 5) (JE.d (gY (ak (jv 2) (ak (jv 4) aA)))) (by intro _ _;rfl)))) (aK (b7 (dG 1))))) En
abbrev rM:Stmt:=top 8
def eO:bF ["table","nexts","goals","happenings","steps","rows","found","at","later","step"] ["table","nexts","goals"] (aN rM):=sI
def BH (D:Df K mg "rows_to" rM) (N:Nb mg) (kr:jN P w K mg base 1 "happenings_of" ["table"] kT) (rN:jN P w K mg base 1 "steps_to" ["nexts"] jz):jN P w K mg base 2 "rows_to" ["table","nexts","goals"] nM:=
 vf (g:=jQ kT jz) D eO (fun _ _ _ _ _ _ _ hr=>(au (zs eO.nd 3 (jc kr hr (aP (jv 0) bN)))
  (au (zs eO.nd 4 (jc rN hr (aP (jv 1) bN)))
  (au (zc eO.nd 5 cp (bW (jv 2)) (fun _ _ _ _=>bR) (fun _ _ _ _=>(JE.d (Lv (AV (jv 0)) (gY aA) (JD.e o9)))))
  (au (A9 (i:=6) eO.nd rfl (by first | exact Or.inl rfl | exact Or.inr rfl) ⟨cp,rfl,by decide⟩ rfl (n9 rfl N.iZ (ak (jv 2) aA)) (fun _ _ _ _=>(xC (AV (jv 1)))) (fun _ _ _ _=>(jv 0)))
  (au (zs eO.nd 7 (JD.e aE))
  (au (p8 Z8 (d9 uo (jv 7) (fM (i:=6) rfl N.lK)) (au (zs eO.nd 8 (JD.e (ys hr 6 (jv 7))))
  (au (fV Z8 rfl (bW (ys hr 4 (jv 8))) (zg eO.nd 9) (aK (jX (d9 xF (ys hr 5 (ys hr 9 aE)) o9) (au (nF (i:=5) (jF hr) (ys hr 9 aE) (JE.d (cg dO (JE.d (gY (ak (ys hr 3 (ys hr 9 aE)) aA))) (ys hr 5 (jv 8)))))
  (aK (gm (JD.e (iE (i:=6) aal aam fG gn gq (ak (ys hr 9 aE) aA)))))) iC)))
  (aK (za EW eO.nd 7 aE)))))
  (aK (b7 (dG 5)))))))))) Eo
abbrev kB:Stmt:=top 9
def jB:bF ["table","nexts","truths","pros","cons"] ["table","nexts","truths"] (aN kB):=sI
def sS (D:Df K mg "rows_to_both" kB) (N:Nb mg) (qE:jN P w K mg base 2 "rows_to" ["table","nexts","goals"] nM):jN P w K mg base 3 "rows_to_both" ["table","nexts","truths"] qD:=
 vf (g:=dY nM) D jB (fun _ _ _ _ _ _ _ hr=>(au (zs jB.nd 3 (jc qE hr (aP (jv 0) (aP (jv 1) (aP (jv 2) bN)))))
  (au (zs jB.nd 4 (jc qE hr (aP (jv 0) (aP (jv 1) (aP (JE.d (dj cp rfl (bW (jv 2)) (fun _ _ _ _=>bR) (fun _ _ _ _=>(MV (jv 0))))) bN)))))
  (aK (b7 (A8 rfl rfl N.LZ rfl N.WM (ak (jv 3) (ak (jv 4) aA)))))))) Ik
abbrev nN:Stmt:=top 10
def yw:bF ["pro","con"] ["pro","con"] (aN nN):=sI
def yx (D:Df K mg "sure_word" nN):jN P w K mg base 1 "sure_word" ["pro","con"] AG:=
 vf (g:=ig) D yw (fun _ _ _ _ _ _ _ hr=>(au (jX (d9 xF (jv 1) o9) (aK (b7 (JD.e fU))) iC)
  (au (jX (d9 xF (jv 0) o9) (aK (b7 (JD.e fU))) iC)
  (aK (b7 (JD.e fU)))))) sw_run
abbrev mz:Stmt:=top 11
def vE:bF ["table","nexts","truths"] ["table","nexts","truths"] (aN mz):=sI
def vF (D:Df K mg "sure_words" mz) (k9:jN P w K mg base 3 "rows_to_both" ["table","nexts","truths"] qD) (pM:jN P w K mg base 1 "sure_word" ["pro","con"] AG):jN P w K mg base 4 "sure_words" ["table","nexts","truths"] Ar:=
 vf (g:=gD qD AG) D vE (fun _ _ _ _ _ _ _ hr=>(aK (b7 (Gk ⟨cp,rfl,by decide⟩ rfl (FU (JE.d (jc k9 hr (aP (jv 0) (aP (jv 1) (aP (jv 2) bN)))))) (fun _ _ _ _=>bR) (fun _ _ _ _=>(JE.d (jc pM hr (aP (jv 0) (aP (jv 1) bN))))))))) K7
abbrev pN:Stmt:=top 12
def ju:bF ["signs","numbers","sign"] ["signs"] (aN pN):=sI
def Aw (D:Df K mg "numbered" pN) (N:Nb mg):jN P w K mg base 1 "numbered" ["signs"] rq:=
 vf (g:=eu) D ju (fun _ _ _ _ _ _ _ hr=>(LK (au (zs ju.nd 1 xJ)
  (au (fV Z8 rfl (bW (jv 0)) (zg ju.nd 2) (aK (jX (oh (i:=1) (jF hr) (jv 2)) (aK (nF (i:=1) (jF hr) (jv 2) (fM (i:=1) rfl N.lK))) iC)))
  (aK (b7 (dj (cc 1) rfl (bW (jv 0)) (fun _ _ _ _=>bR) (fun _ _ _ _=>(ys hr 1 (jv 0))))))))
  (au (zs ju.nd 1 Cf)
  (au (fV Z8 rfl (bW (jv 0)) (zg ju.nd 2) (aK (jX (oh (i:=1) (jF hr) (jv 2)) (aK (nF (i:=1) (jF hr) (jv 2) (fM (i:=1) rfl N.lK))) iC)))
  (aK (b7 (dj (cc 1) rfl (bW (jv 0)) (fun _ _ _ _=>bR) (fun _ _ _ _=>(ys hr 1 (jv 0)))))))))) Ks
abbrev mC:Stmt:=top 13
def gQ:bF ["nexts","words","most","numbers","count"] ["nexts","words","most"] (aN mC):=sI
def vG (D:Df K mg "told_apart" mC) (N:Nb mg) (oG:jN P w K mg base 1 "numbered" ["signs"] rq):jN P w K mg base 2 "told_apart" ["nexts","words","most"] iP:=
 vf (g:=iI rq) D gQ (fun _ _ _ _ _ _ _ hr=>(au (zs gQ.nd 3 (jc oG hr (aP (jv 1) bN)))
  (au (zs gQ.nd 4 (JD.e aE))
  (au (p8 Z8 (d9 FJ (JE.d (gK (pC rfl) rfl N.OM acE (ak (jv 3) aA))) (jv 4)) (au (zs gQ.nd 4 (cg dO (JE.d (gK (pC rfl) rfl N.OM acE (ak (jv 3) aA))) aE))
  (au (jX (JW.t (FG (d9 Ba (jv 2) o9) (um (d9 xr (jv 4) (jv 2))))) (aK QS) iC)
  (aK (zs gQ.nd 3 (jc oG hr (aP (JE.d (DN ⟨(cc 3),rfl,by decide⟩ rfl (n9 rfl N.iZ (ak (jv 0) aA)) (fun _ _ _ _=>bR) (fun _ _ _ _=>(JE.d (cg dO (JE.d (gY (ak (ys hr 2 (jv 0)) aA))) (JE.d (bX bS rfl N.iL aab (ak (JE.d (dj (cc 2) rfl (bW (jv 1)) (fun _ _ _ _=>bR) (fun _ _ _ _=>(ys hr 1 (jv 0))))) aA)))))))) bN)))))))
  (aK (b7 (dG 3))))))) HD
abbrev jC:Stmt:=top 14
def bB:bF ["nexts","words","most","spots","places","place","spot","inner","numbers","groups","number","least"] ["nexts","words","most"] (aN jC):=sI
def rO (D:Df K mg "least_machine" jC) (N:Nb mg) (uY:jN P w K mg base 1 "reached" ["nexts","begin"] reachF) (nO:jN P w K mg base 2 "told_apart" ["nexts","words","most"] iP):jN P w K mg base 3 "least_machine" ["nexts","words","most"] pJ:=
 vf (g:=fj reachF iP) D bB (fun _ _ _ _ _ _ _ hr=>(au (zs bB.nd 3 (jc uY hr (aP (jv 0) (aP (JE.d (fL (ak aE aA))) bN))))
  (au (zs bB.nd 4 xJ)
  (au (JF Z8 rfl (n9 rfl N.iZ (ak (jv 3) aA)) (qO rfl (eV (zg bB.nd 5) (eV (zg bB.nd 6) nY))) (aK (nF (i:=4) (jF hr) (jv 6) (jv 5))))
  (au (zc bB.nd 7 (cs ["nexts","places"] [0,4]) (bW (jv 3)) (fun _ _ _ _=>bR) (fun _ _ _ _=>(JE.d (bX bS rfl N.iL aab (ak (JE.d (dj (cc 2) rfl (bW (ys hr 1 (jv 0))) (fun _ _ _ _=>bR) (fun _ _ _ _=>(ys hr 1 (jv 0))))) aA)))))
  (au (zs bB.nd 8 (jc nO hr (aP (jv 7) (aP (JE.d (dj (cc 1) rfl (bW (jv 3)) (fun _ _ _ _=>bR) (fun _ _ _ _=>(ys hr 1 (jv 0))))) (aP (jv 2) bN)))))
  (Ck (i:=9) bB.nd rfl (by first | exact Or.inl rfl | exact Or.inr rfl) cp rfl (cW rfl N.iY (ak (JE.d (cg dO (JE.d (gK (pC rfl) rfl N.OM acE (ak (jv 8) aA))) aE)) aA)) (Bc Z8 rfl (n9 rfl N.iZ (ak (jv 8) aA)) (qO rfl (eV (zg bB.nd 5) (eV (zg bB.nd 10) nY))) (Gw (i:=9) (jv 10) (ys hr 3 (jv 5)) (by intro _ _;rfl))) (au (zc bB.nd 11 (cs ["nexts","numbers","places"] [0,8,4]) (bW (jv 9)) (fun _ _ _ _=>bR) (fun _ _ _ _=>(JE.d (bX bS rfl N.iL aab (ak (JE.d (dj (cs ["numbers","places"] [2,3]) rfl (bW (ys hr 1 (ys hr 0 aE))) (fun _ _ _ _=>bR) (fun _ _ _ _=>(ys hr 1 (ys hr 2 (jv 0)))))) aA)))))
  (aK (b7 (gY (ak (JE.d (bX bS rfl N.iL aab (ak (jv 11) aA))) (ak (JE.d (bX bS rfl N.iL aab (ak (JE.d (dj (cc 1) rfl (bW (jv 9)) (fun _ _ _ _=>bR) (fun _ _ _ _=>(ys hr 1 (ys hr 0 aE))))) aA))) (ak (jv 9) aA)))))))))))))) Ei
abbrev mD:Stmt:=top 16
def oX:bF ["table","judge","least"] ["table","judge"] (aN mD):=sI
def vH (D:Df K mg "watcher_by" mD) (kC:jN P w K mg base 3 "least_machine" ["nexts","words","most"] pJ) (nP:jN P w K mg base 4 "sure_words" ["table","nexts","truths"] Ar):jN P w K mg base 5 "watcher_by" ["table","judge"] Ep:=
 vf (g:=iK pJ Ar) D oX (fun _ _ _ _ _ _ _ hr=>(au (zs oX.nd 2 (jc kC hr (aP (ys hr 1 aE) (aP (JE.d (jc nP hr (aP (jv 0) (aP (ys hr 1 aE) (aP (ys hr 1 aE) bN))))) (aP o9 bN)))))
  (aK (b7 (gY (ak (ys hr 2 aE) (ak (ys hr 2 aE) aA))))))) K8
abbrev pO:Stmt:=top 18
def sE:bF ["_law_cell","_law_k","_law_by"] ["_law_cell","_law_k"] (aN pO):=sI
def Ax (D:Df K mg "_law_mix" pO):jN P w K mg base 1 "_law_mix" ["_law_cell","_law_k"] sP:=
 vf (g:=l8) D sE (fun _ _ _ _ _ _ _ hr=>(au (zs sE.nd 2 (cg dO (JE.d (cg dO (JE.d (cg lU (JE.d (cg dO (JE.d (cg lT (jv 0) (JE.d (cg xw aE aE)))) aE)) aE)) (JE.d (cg lU (JE.d (cg lU (jv 1) (jv 1))) aE)))) (JE.d (cg lU (jv 1) aE))))
  (aK (b7 (cg lT (JE.d (cg lU (JE.d (cg lT (jv 2) aE)) aE)) aE))))) Km
abbrev nQ:Stmt:=top 19
def jM:bF ["_law_script","_law_k","_law_cell"] ["_law_script","_law_k"] (aN nQ):=sI
def yy (D:Df K mg "_law_feed" nQ) (N:Nb mg) (jR:jN P w K mg base 1 "_law_mix" ["_law_cell","_law_k"] sP):jN P w K mg base 2 "_law_feed" ["_law_script","_law_k"] oV:=
 vf (g:=ia sP) D jM (fun _ _ _ _ _ _ _ hr=>(au (zs jM.nd 2 (cg dO (JE.d (cg lU aE (jv 1))) aE))
  (au (jX (d9 uo (jv 1) (fM (i:=0) rfl N.lK)) (aK (zs jM.nd 2 (JD.e (ys hr 0 (jv 1))))) (aK (jX (d9 xr (fM (i:=0) rfl N.lK) aE) (aK (zs jM.nd 2 (jc jR hr (aP (ys hr 0 (JE.d (cg lT (jv 1) (fM (i:=0) rfl N.lK)))) (aP (jv 1) bN))))) iC)))
  (aK (b7 (fL (ak (jv 2) (ak aE (ak (JE.d (cg lU (JE.d (cg tu (jv 2) (JE.d (cg xw aE aE)))) (JE.d (bX wg rfl N.Su PyProof.Rows.Boot.int (ak (JE.d (MU FJ (jv 2) (JE.d (cg xw aE aE)))) aA))))) aA))))))))) GZ
abbrev nR:Stmt:=top 20
def qF:bF ["_law_feed_here","_law_many","_law_found"] ["_law_feed_here","_law_many"] (aN nR):=sI
def yz (D:Df K mg "_law_take" nR) (jR:jN P w K mg base 1 "_law_mix" ["_law_cell","_law_k"] sP):jN P w K mg base 2 "_law_take" ["_law_feed_here","_law_many"] dJ:=
 vf (g:=ji sP) D qF (fun _ _ _ _ _ _ _ hr=>(au (nF (i:=0) (jF hr) aE (JE.d (cg dO (ys hr 0 aE) aE)))
  (au (jX (d9 xr (ys hr 0 aE) aE) (au (zs qF.nd 2 (cg lT (ys hr 0 aE) (jv 1)))
  (au (nF (i:=0) (jF hr) aE (JE.d (cg B7 (ys hr 0 aE) (jv 1))))
  (aK (b7 (dG 2))))) iC)
  (aK (b7 (cg lT (JE.d (cg B7 (JE.d (jc jR hr (aP (ys hr 0 aE) (aP (ys hr 0 aE) bN)))) aE)) (jv 1))))))) G0
abbrev mF:Stmt:=top 21
def cG:bF ["_law_feed_here","_law_pool","_law_start","_law_many","_law_left","_law_table_here","_law_k","_law_most"] ["_law_feed_here"] (aN mF):=sI
def vI (D:Df K mg "_law_table" mF) (N:Nb mg) (dh:jN P w K mg base 2 "_law_take" ["_law_feed_here","_law_many"] dJ):jN P w K mg base 3 "_law_table" ["_law_feed_here"] zX:=
 vf (g:=jK dJ) D cG (fun _ _ _ _ _ _ _ hr=>(au (zs cG.nd 1 (fL (ak fU (ak fU (ak fU (ak fU (ak fU (ak fU (ak fU (ak fU (ak fU aA)))))))))))
  (au (zs cG.nd 2 (jc dh hr (jY (dG 0) (aP aE bN))))
  (au (zs cG.nd 3 (zf FO (JE.d (fL (ak aE (ak aE (ak aE (ak aE aA)))))) (JE.d (jc dh hr (jY (dG 0) (aP aE bN)))) (fun _ _=>rfl)))
  (au (zs cG.nd 4 (JD.e aE))
  (au (zs cG.nd 5 (fL aA))
  (au (fV Z8 rfl (cW rfl N.iY (ak (jv 3) aA)) (zg cG.nd 6) (au (zs cG.nd 7 (gK (AX rfl) rfl N.WN PyProof.Rows.Boot.min (ak (JE.d (jc dh hr (jY (dG 0) (aP aE bN)))) (ak (JE.d (cg dO (JE.d (cg tu (jv 4) (jv 3))) (jv 6))) aA))))
  (au (gm (JD.e (iE (i:=5) aal aam fG gn gq (ak (JE.d (gY (ak (ys hr 1 (JE.d (cg lT (JE.d (cg dO (jv 2) (jv 6))) aE))) (ak (jv 7) aA)))) aA))))
  (aK (zs cG.nd 4 (cg tu (JE.d (cg tu (jv 4) (jv 7))) aE))))))
  (aK (b7 (bX bS rfl N.iL aab (ak (jv 5) aA))))))))))) G3
abbrev iM:Stmt:=top 22
def eU:bF ["_law_table_here","_law_found","_law_name","_law_most"] ["_law_table_here"] (aN iM):=sI
def pP (D:Df K mg "_law_happenings" iM) (N:Nb mg):jN P w K mg base 1 "_law_happenings" ["_law_table_here"] kU:=
 vf (g:=fR) D eU (fun _ _ _ _ _ _ _ hr=>(au (zs eU.nd 1 (fL aA))
  (au (fV Z8 rfl (FU (jv 0)) (qO rfl (eV (zg eU.nd 2) (eV (zg eU.nd 3) nY))) (aK (gm (JD.e (iE (i:=1) adl adm uu wj wk (ak (JE.d (dj (cc 2) rfl (cW rfl N.iY (ak (JE.d (cg dO (jv 3) aE)) aA)) (fun _ _ _ _=>bR) (fun _ _ _ _=>(JE.d (gY (ak (jv 1) (ak (jv 0) aA))))))) aA))))))
  (aK (b7 (dG 1)))))) G5
abbrev kD:Stmt:=top 23
def cR:bF ["_law_feed_here","_law_table_here","_law_menu","_law_many","_law_wide","_law_nexts","_law_spot","_law_marks"] ["_law_feed_here","_law_table_here","_law_menu"] (aN kD):=sI
def sU (D:Df K mg "_law_machine" kD) (N:Nb mg) (dh:jN P w K mg base 2 "_law_take" ["_law_feed_here","_law_many"] dJ) (i6:jN P w K mg base 1 "_law_happenings" ["_law_table_here"] kU):jN P w K mg base 3 "_law_machine" ["_law_feed_here","_law_table_here","_law_menu"] wK:=
 vf (g:=dR dJ kU) D cR (fun _ _ _ _ _ _ _ hr=>(au (zs cR.nd 3 (cg dO aE (JE.d (jc dh hr (jY (dG 0) (aP aE bN))))))
  (au (zs cR.nd 4 (gK v5 rfl N.lK abU (ak (JE.d (jc i6 hr (aP (jv 1) bN))) aA)))
  (au (zs cR.nd 5 (fL aA))
  (au (fV Z8 rfl (cW rfl N.iY (ak (jv 3) aA)) (zg cR.nd 6) (aK (gm (JD.e (iE (i:=5) aal aam fG gn gq (ak (JE.d (bX bS rfl N.iL aab (ak (JE.d (dj (cs ["_law_feed_here","_law_many"] [0,3]) rfl (cW rfl N.iY (ak (jv 4) aA)) (fun _ _ _ _=>bR) (fun _ _ _ _=>(JE.d (jc dh hr (jY (dG 1) (aP (jv 2) bN))))))) aA))) aA))))))
  (au (zc cR.nd 7 (cs ["_law_feed_here","_law_menu"] [0,2]) (cW rfl N.iY (ak (jv 3) aA)) (fun _ _ _ _=>bR) (fun _ _ _ _=>(ys hr 2 (JE.d (jc dh hr (jY (dG 1) (aP (fM (i:=2) rfl N.lK) bN)))))))
  (au (jX (d9 (F6 hr.units) (JE.d (jc dh hr (jY (dG 0) (aP aE bN)))) aE) (aK (zs cR.nd 7 (cg Jv (JE.d (fL (ak (ys hr 2 aE) aA))) (jv 3)))) iC)
  (aK (b7 (gY (ak (JE.d (bX bS rfl N.iL aab (ak (jv 5) aA))) (ak (JE.d (bX bS rfl N.iL aab (ak (jv 7) aA))) aA)))))))))))) G6
abbrev jD:Stmt:=top 24
def cE:bF ["_law_firsts","_law_numbers","_law_found","_law_first"] ["_law_firsts"] (aN jD):=sI
def rQ (D:Df K mg "_law_numbered" jD) (N:Nb mg):jN P w K mg base 1 "_law_numbered" ["_law_firsts"] jG:=
 vf (g:=bU) D cE (fun _ _ _ _ _ _ _ hr=>(LK (au (zs cE.nd 1 xJ)
  (au (zs cE.nd 2 (fL aA))
  (au (fV Z8 rfl (bW (jv 0)) (zg cE.nd 3) (au (gm (JD.e (Ci (i:=1) (jF hr) (jv 3) (fM (i:=1) rfl N.lK))))
  (aK (gm (JD.e (iE (i:=2) aal aam fG gn gq (ak (ys hr 1 (jv 3)) aA)))))))
  (aK (b7 (dG 2))))))
  (au (zs cE.nd 1 Cf)
  (au (zs cE.nd 2 (fL aA))
  (au (fV Z8 rfl (bW (jv 0)) (zg cE.nd 3) (au (gm (JD.e (Ci (i:=1) (jF hr) (jv 3) (fM (i:=1) rfl N.lK))))
  (aK (gm (JD.e (iE (i:=2) aal aam fG gn gq (ak (ys hr 1 (jv 3)) aA)))))))
  (aK (b7 (dG 2)))))))) Hl
abbrev kE:Stmt:=top 25
def fB:bF ["_law_nexts","_law_marks","_law_found","_law_turn","_law_firsts"] ["_law_nexts","_law_marks"] (aN kE):=sI
def sV (D:Df K mg "_law_classes" kE) (N:Nb mg) (iN:jN P w K mg base 1 "_law_numbered" ["_law_firsts"] jG):jN P w K mg base 2 "_law_classes" ["_law_nexts","_law_marks"] Ag:=
 vf (g:=dU jG) D fB (fun _ _ _ _ _ _ _ hr=>(au (zs fB.nd 2 (jc iN hr (aP (JE.d (dj cp rfl (bW (jv 1)) (fun _ _ _ _=>bR) (fun _ _ _ _=>(JE.d (gK (pB hr.gd hr.units) rfl N.Im acy (ak (jv 0) aA)))))) bN)))
  (au (fV Z8 rfl (cW rfl N.iY (ak (fM (i:=0) rfl N.lK) aA)) (zg fB.nd 3) (au (zc fB.nd 4 (cs ["_law_found","_law_nexts"] [2,0]) (cW rfl N.iY (ak (fM (i:=0) rfl N.lK) aA)) (fun _ _ _ _=>bR) (fun _ _ _ _=>(JE.d (gY (ak (ys hr 1 (jv 0)) (ak (JE.d (bX bS rfl N.iL aab (ak (JE.d (dj (cc 1) rfl (bW (ys hr 2 (jv 0))) (fun _ _ _ _=>bR) (fun _ _ _ _=>(ys hr 1 (jv 0))))) aA))) aA))))))
  (aK (zs fB.nd 2 (jc iN hr (aP (jv 4) bN))))))
  (aK (b7 (dG 2)))))) NZ
abbrev mG:Stmt:=top 26
def cV:bF ["_law_nexts","_law_marks","_law_groups","_law_order","_law_firsts","_law_turn","_law_other","_law_rows","_law_machine_here"] ["_law_nexts","_law_marks"] (aN mG):=sI
def vJ (D:Df K mg "_law_least" mG) (N:Nb mg) (lg:jN P w K mg base 2 "_law_classes" ["_law_nexts","_law_marks"] Ag):jN P w K mg base 3 "_law_least" ["_law_nexts","_law_marks"] oE:=
 vf (g:=iJ Ag) D cV (fun _ _ _ _ _ _ _ hr=>(au (zs cV.nd 2 (jc lg hr (aP (jv 0) (aP (jv 1) bN))))
  (au (zs cV.nd 3 (Gx (ys hr 2 aE) aE))
  (au (zs cV.nd 4 (fL (ak aE aA)))
  (au (fV Z8 rfl (cW rfl N.iY (ak (fM (i:=0) rfl N.lK) aA)) (zg cV.nd 5) (aK (jX (d9 uo (jv 5) (fM (i:=4) rfl N.lK)) (aK (fV Z8 rfl (bW (ys hr 0 (ys hr 4 (jv 5)))) (zg cV.nd 6) (aK (jX (oh (i:=3) (jF hr) (ys hr 2 (jv 6))) (au (nF (i:=3) (jF hr) (ys hr 2 (jv 6)) (fM (i:=4) rfl N.lK))
  (aK (gm (JD.e (iE (i:=4) aal aam fG gn gq (ak (jv 6) aA)))))) iC)))) iC)))
  (au (zc cV.nd 7 (cs ["_law_groups","_law_nexts","_law_order"] [2,0,3]) (bW (jv 4)) (fun _ _ _ _=>bR) (fun _ _ _ _=>(JE.d (bX bS rfl N.iL aab (ak (JE.d (dj (cs ["_law_groups","_law_order"] [1,3]) rfl (bW (ys hr 2 (jv 0))) (fun _ _ _ _=>bR) (fun _ _ _ _=>(ys hr 2 (ys hr 1 (jv 0)))))) aA)))))
  (au (zs cV.nd 8 (gY (ak (JE.d (bX bS rfl N.iL aab (ak (jv 7) aA))) (ak (JE.d (bX bS rfl N.iL aab (ak (JE.d (dj (cc 1) rfl (bW (jv 4)) (fun _ _ _ _=>bR) (fun _ _ _ _=>(ys hr 1 (jv 0))))) aA))) aA))))
  (aK (b7 (gY (ak (jv 8) (ak (JE.d (dj (cc 3) rfl (bW (jv 2)) (fun _ _ _ _=>bR) (fun _ _ _ _=>(JM (i:=1) (jF hr) (jv 0) o9)))) aA)))))))))))) BC
abbrev kF:Stmt:=top 27
def fC:bF ["_law_nexts","_law_spot","_law_line","_law_at","_law_some"] ["_law_nexts","_law_spot"] (aN kF):=sI
def sW (D:Df K mg "_law_reached" kF) (N:Nb mg):jN P w K mg base 1 "_law_reached" ["_law_nexts","_law_spot"] je:=
 vf (g:=dX) D fC (fun _ _ _ _ _ _ _ hr=>(au (zs fC.nd 2 (fL (ak (jv 1) aA)))
  (au (zs fC.nd 3 (JD.e aE))
  (au (p8 Z8 (d9 uo (jv 3) (fM (i:=2) rfl N.lK)) (au (zs fC.nd 4 (zS rfl rfl N.Lf rfl N.Sv (ys hr 0 (ys hr 2 (jv 3)))))
  (au (gm (JD.e (iE (i:=2) adl adm uu wj wk (ak (JE.d (dj (cc 2) rfl (bW (jv 4)) (fun _ _ _ _=>(xC (DB (i:=1) hr.units (jv 0)))) (fun _ _ _ _=>(jv 0)))) aA))))
  (aK (zs fC.nd 3 (cg dO (jv 3) aE))))))
  (aK (b7 (dG 2))))))) BD
abbrev jE:Stmt:=top 28
def gG:bF ["_law_nexts","_law_truths","_law_found","_law_spot","_law_some"] ["_law_nexts","_law_truths"] (aN jE):=sI
def rR (D:Df K mg "_law_verdicts" jE) (N:Nb mg) (lq:jN P w K mg base 1 "_law_reached" ["_law_nexts","_law_spot"] je):jN P w K mg base 2 "_law_verdicts" ["_law_nexts","_law_truths"] rH:=
 vf (g:=fy je) D gG (fun _ _ _ _ _ _ _ hr=>(au (zs gG.nd 2 (fL aA))
  (au (fV Z8 rfl (cW rfl N.iY (ak (fM (i:=0) rfl N.lK) aA)) (zg gG.nd 3) (au (zc gG.nd 4 (cc 1) (bW (JE.d (jc lq hr (aP (jv 0) (aP (jv 3) bN))))) (fun _ _ _ _=>bR) (fun _ _ _ _=>(ys hr 1 (jv 0))))
  (aK (gm (JD.e (iE (i:=2) aal aam fG gn gq (ak (JE.d (Lv (JW.t (FG (d9 (F8 hr.units) pZ (jv 4) (by with_unfolding_all rfl)) (um (d9 (F8 hr.units) pZ (jv 4) (by with_unfolding_all rfl))))) (JD.e fU) (zf FO (JE.d (fL (ak fU (ak fU aA)))) (JE.d (bX wg rfl N.Su PyProof.Rows.Boot.int (ak (ys hr 4 aE) aA))) (fun _ _=>rfl)))) aA)))))))
  (aK (b7 (bX bS rfl N.iL aab (ak (jv 2) aA))))))) Em
abbrev Io:Stmt:=top 29
def mH:bF ["_law_script","_law_table_here","_law_k","_law_nexts","_law_truths","_law_due","_law_found","_law_word","_law_some"] ["_law_script"] (aN Io):=sI
def ON {f:Addr}{fd:FuncData}(F:Lr K "law" "law" Io f fd) (N:Nb mg) (nT:jN P w K mg base 3 "_law_table" ["_law_feed_here"] zX) (mJ:jN P w K mg base 2 "_law_feed" ["_law_script","_law_k"] oV) (lu:jN P w K mg base 3 "_law_machine" ["_law_feed_here","_law_table_here","_law_menu"] wK) (nU:jN P w K mg base 3 "_law_least" ["_law_nexts","_law_marks"] oE) (kG:jN P w K mg base 2 "_law_verdicts" ["_law_nexts","_law_truths"] rH) (nW:jN P w K mg base 5 "watcher_by" ["table","judge"] Ep):o7 P w K mg base EE 6 f fd ["_law_script"] (spT K 1 (zV 63)):=
 W5 (g:=C0 zX oV wK oE rH Ep) F mH (fun _ _ _ _ _ _ hr=>(au (zs mH.nd 1 (jc nT hr (jY (jc mJ hr (jY (dG 0) (aP aE bN))) bN)))
  (au (fV Z8 rfl (cW rfl N.iY (ak aE aA)) (zg mH.nd 2) (au (MY (JE.d (jc lu hr (jY (jc mJ hr (jY (dG 0) (aP (JE.d (cg dO aE (jv 2))) bN))) (aP (jv 1) (aP (JE.d (fL (ak pZ (ak pZ aA)))) bN))))) (qO rfl (eV (zg mH.nd 3) (eV (zg mH.nd 4) nY))))
  (au (zs mH.nd 5 (zf FO (JE.d (jc nU hr (aP (jv 3) (aP (JE.d (jc kG hr (aP (jv 3) (aP (jv 4) bN)))) bN)))) aE (fun _ _=>rfl)))
  (au (zs mH.nd 6 (jc nW hr (aP (jv 1) (aP (JE.d (gY (ak (jv 3) (ak (jv 4) aA)))) bN))))
  (au (jX (d9 (M3 hr.units) (JE.d (gK (pB hr.gd hr.units) rfl N.Im acy (ak (jv 6) aA))) (JE.d (gK (pB hr.gd hr.units) rfl N.Im acy (ak (jv 5) aA)))) (aK (b7 (JD.e pZ))) iC)
  (aK (fV Z8 rfl (bW (JE.d (fL (ak fU (ak fU aA))))) (zg mH.nd 7) (au (zc mH.nd 8 (cs ["_law_found","_law_word"] [6,7]) (cW rfl N.iY (ak (JE.d (gK v5 rfl N.lK abU (ak (ys hr 6 aE) aA))) aA)) (fun _ _ _ _=>(xC (d9 (F6 hr.units) (JE.d (zf FO (ys hr 1 aE) (jv 0) (fun _ _=>rfl))) (jv 2)))) (fun _ _ _ _=>(jv 0)))
  (aK (jX (JW.t (Qt (d9 xr (fM (i:=8) rfl N.lK) aE) (Ds (AV (JE.d (gK (Dw rfl) rfl N.WO PyProof.Rows.Boot.any (ak (JE.d (dj (cc 6) rfl (bW (jv 8)) (fun _ _ _ _=>bR) (fun _ _ _ _=>(JE.d (GL rfl (aa8 (Nat.le_add_right _ 64) hr.units) rfl N.Sv (JE.d (zf FO (ys hr 1 aE) (jv 0) (fun _ _=>rfl))) (JE.d (fL (ak (jv 0) aA)))))))) aA))))))) (aK (b7 (JD.e pZ))) iC))))))))))
  (aK (b7 (JD.e pZ)))))) Ey
set_option maxHeartbeats 0 in
def all_mk {fa:Addr}(uZ:Df K mg "happenings_of" jA) (Ip:Df K mg "reached" rL) (Ez:Df K mg "steps_to" pL) (Iq:Df K mg "rows_to" rM) (vK:Df K mg "rows_to_both" kB) (BI:Df K mg "sure_word" nN) (Ay:Df K mg "sure_words" mz) (EA:Df K mg "numbered" pN) (Az:Df K mg "told_apart" mC) (u5:Df K mg "least_machine" jC) (AA:Df K mg "watcher_by" mD) (EB:Df K mg "_law_mix" pO) (BJ:Df K mg "_law_feed" nQ) (BK:Df K mg "_law_take" nR) (AB:Df K mg "_law_table" mF) (rS:Df K mg "_law_happenings" iM) (vL:Df K mg "_law_machine" kD) (u6:Df K mg "_law_numbered" jD) (vM:Df K mg "_law_classes" kE) (AD:Df K mg "_law_least" mG) (vN:Df K mg "_law_reached" kF) (vd:Df K mg "_law_verdicts" jE) (WQ:Df K mg "law" Io) (N:Nb mg) (Qy:mg "law" =some (.ref fa)):
  ∃fd:FuncData,(∀(s:Shared) (v:Value),BindsTo s fd ⟨[v],[]⟩ [("_law_script",v)])/\∀base:Heap,K.In base->base.Ns mainGlobals mg->o7 l.prog w K mg base EE 6 fa fd ["_law_script"] (spT K 1 (zV 63)):=by
 obtain⟨f,fd,F,m⟩:=WQ.ex
 cases Qy.symm.trans m
 refine⟨fd,fun s v=>?_,fun base _ _=>?_⟩
 ·obtain⟨_,_,_,_,_,_,_,_,_,rfl,_,_⟩:=F.ex
  exact .of_eq rfl
 ·have kr:=rK (P:=l.prog) (w:=w) (base:=base) uZ N
  have uY:=BG (P:=l.prog) (w:=w) (base:=base) Ip N
  have rN:=Av (P:=l.prog) (w:=w) (base:=base) Ez N
  have pM:=yx (P:=l.prog) (w:=w) (base:=base) BI
  have oG:=Aw (P:=l.prog) (w:=w) (base:=base) EA N
  have jR:=Ax (P:=l.prog) (w:=w) (base:=base) EB
  have i6:=pP (P:=l.prog) (w:=w) (base:=base) rS N
  have iN:=rQ (P:=l.prog) (w:=w) (base:=base) u6 N
  have lq:=sW (P:=l.prog) (w:=w) (base:=base) vN N
  have qE:=BH (P:=l.prog) (w:=w) (base:=base) Iq N kr rN
  have nO:=vG (P:=l.prog) (w:=w) (base:=base) Az N oG
  have mJ:=yy (P:=l.prog) (w:=w) (base:=base) BJ N jR
  have dh:=yz (P:=l.prog) (w:=w) (base:=base) BK jR
  have lg:=sV (P:=l.prog) (w:=w) (base:=base) vM N iN
  have kG:=rR (P:=l.prog) (w:=w) (base:=base) vd N lq
  have k9:=sS (P:=l.prog) (w:=w) (base:=base) vK N qE
  have kC:=rO (P:=l.prog) (w:=w) (base:=base) u5 N uY nO
  have nT:=vI (P:=l.prog) (w:=w) (base:=base) AB N dh
  have lu:=sU (P:=l.prog) (w:=w) (base:=base) vL N dh i6
  have nU:=vJ (P:=l.prog) (w:=w) (base:=base) AD N lg
  have nP:=vF (P:=l.prog) (w:=w) (base:=base) Ay k9 pM
  have nW:=vH (P:=l.prog) (w:=w) (base:=base) AA kC nP
  exact ON F N nT mJ lu nU kG nW
def walk {q:Program}{loose:List Str}{XP:(Str->Option Value)->Heap->Prop}{YP:World->Heap->Prop}{d:DefRec}{K:Params->PySem.W.Frag}(hn:l.most=some 63) (hdf:d.params.defaults=[])
  (hY:∀(w:World) (h:Heap),YP w h->(K w.params).In h)
  (F:∀(w:World) (mg:AAC) (fa:Addr) (h:Heap),(K w.params).In h->h.Ns mainGlobals mg->mg d.name=some (.ref fa)->
   ∃fd:FuncData,(∀(s:Shared) (u:Value),BindsTo s fd ⟨[u],[]⟩ [("_law_script",u)])/\∀base:Heap,(K w.params).In base->base.Ns mainGlobals mg->o7 l.prog w (K w.params) mg base EE 6 fa fd ["_law_script"] (spT (K w.params) 1 (zV 63))):
  PySem.W.WalkO q loose XP YP l.row.toRowW d [] (fun f vs=>PySem.call f vs):=
 L2.Jb (n:=63) (k:=6) (x:="_law_script") (CX:=fun _=>EE) (sp:=fun w=>spT (K w.params) 1 (zV 63)) hn (by decide) hdf ⟨rfl,by decide,by decide,rfl⟩ hY F (fun w H a ns hl hO hS=>NO hl hO hS) fun _ _ _ _ _ z=>z
end K43
open PySem PySem.W PyProof.Rows
noncomputable def PySem.W.Fast.tw16253071334130155649:Nat->Stmt:=K43.top
theorem PySem.W.Fast.te16253071334130155649:K43.top=PySem.W.Fast.tw16253071334130155649:=rfl
def K43.sc:Scope:=PySem.Challenge.pw_surewatch_k43_watchers_of_judges.main.scope
noncomputable def PySem.W.Fast.tw3008431812184420109:Scope:=K43.sc
theorem PySem.W.Fast.te3008431812184420109:K43.sc=PySem.W.Fast.tw3008431812184420109:=rfl
def K43.pw:Program:={main:={body:=[K43.top 0,K43.top 1,K43.top 2,K43.top 3,K43.top 4,K43.top 5,K43.top 6,K43.top 7,K43.top 8,K43.top 9,K43.top 10,K43.top 11,K43.top 12,K43.top 13,K43.top 14,K43.top 15,K43.top 16,K43.top 17,K43.top 18,K43.top 19,K43.top 20,K43.top 21,K43.top 22,K43.top 23,K43.top 24,K43.top 25,K43.top 26,K43.top 27,K43.top 28,K43.top 29],scope:=K43.sc,futureAnnotations:=false,file:="/claim/cut.py",more:=[]},modules:=[],parses:=[],absent:=[],harvested:=[],given:={argv:=[],stdin:=[],environ:=some [([76,67,95,65,76,76],[67,46,85,84,70,45,56])]}}
def K43.rw:OpenLaw:={prog:=K43.pw,name:=(PySem.Str.ofString "law"),about:=[(PySem.Str.ofString "watcher_by")],foot:=12,most:=some 63,bound:=none,writes:=false}
def PySem.W.Fast.tw14192721251756173569:=0
def PySem.W.Fast.tw13964757547285210719:=0
def PySem.W.Fast.tw4696294472270802480:=0
def PySem.W.Fast.tw8904158423566529580:=0
def PySem.W.Fast.tw16786262428444400426:=0
def PySem.W.Fast.tw16256088817982103274:=0
def PySem.W.Fast.tw13108935792911865958:=0
def PySem.W.Fast.tw1294987708004807920:=0
def PySem.W.Fast.tw3255579578383094664:=0
def PySem.W.Fast.tw10381374350532839965:=0
def PySem.W.Fast.tw516236057325058156:=0
def PySem.W.Fast.tw2204734702615116091:=0
def PySem.W.Fast.tw5398024431291050582:=0
def PySem.W.Fast.tw4177754065938635268:=0
def PySem.W.Fast.tw8507654333365597592:=0
def PySem.W.Fast.tw13165406077925833425:=0
def PySem.W.Fast.tw2497132122679214135:=0
def PySem.W.Fast.tw16165989673446012848:=0
def PySem.W.Fast.tw12968872556604770920:=0
def PySem.W.Fast.tw10065925537548965702:=0
def PySem.W.Fast.tw11554209020837534298:=0
def PySem.W.Fast.tw18406580876522745253:=0
def PySem.W.Fast.tw15092384910510949640:=0
def PySem.W.Fast.tw15703631521362843923:=0
def PySem.W.Fast.tw13998476653138528910:=0
def PySem.W.Fast.tw17653309243685143703:=0
def PySem.W.Fast.tw8563538736493692156:=0
def PySem.W.Fast.tw4932843809192218291:=0
def PySem.W.Fast.tw5746207812929095509:=0
def PySem.W.Fast.tw4281790251890152902:=0
def PySem.W.Fast.tw260635502155458672:=0
def PySem.W.Fast.tw11216739843481034300:=0
def PySem.W.Fast.tw16584862302481302718:=0
def PySem.W.Fast.tw12250495674757040501:=0
def PySem.W.Fast.tw6620614124184417172:=0
def PySem.W.Fast.tw9783958426344102980:=0
def PySem.W.Fast.tw5262540480262966090:=0
def PySem.W.Fast.tw9360303936377597162:=0
def PySem.W.Fast.tw8423671467700391143:=0
def PySem.W.Fast.tw4244704229354731081:=0
def PySem.W.Fast.tw6566554842356753430:=0
def PySem.W.Fast.tw1983494047038890496:=0
def PySem.W.Fast.tw8322447321197703283:=0
def PySem.W.Fast.tw7973555808389006501:=0
def PySem.W.Fast.tw7116255510210992341:=0
set_option maxRecDepth 100000 in
set_option maxHeartbeats 0 in
def K43.holds:K43.rw.Holds:=by
 w_on;o_law;k_head;(case hw=>w_witness2)
 k_fill
 refine K43.walk (l:=K43.rw) rfl rfl (fun w h Y=>PySem.W.kIn_of Y) ?F
 case F=>
  intro w mg fa h KX G hmg
  refine' K43.all_mk ?_ ?_ ?_ ?_ ?_ ?_ ?_ ?_ ?_ ?_ ?_ ?_ ?_ ?_ ?_ ?_ ?_ ?_ ?_ ?_ ?_ ?_ ?_ ?_ hmg
  iterate 23 (refine' L2.Rz KX G ?a ?l ?c ?k;(case a=>k_is);(case l=>k_is);(case c=>k_is);(case k=>k_is))
  refine' ⟨aah KX G ?_,aah KX G ?_,aah KX G ?_,aah KX G ?_,aah KX G ?_,aah KX G ?_,aah KX G ?_,aah KX G ?_,aah KX G ?_,aah KX G ?_,aah KX G ?_,aah KX G ?_,aah KX G ?_,aah KX G ?_⟩ <;> k_is
theorem PySem.Challenge.cw_surewatch_k43_watchers_of_judges_holds : PySem.Challenge.rw_surewatch_k43_watchers_of_judges.Holds :=
 K43.holds
