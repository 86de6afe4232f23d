import PyProof.Rows.All
import Wide.All
import OpenK.AllK
import Wide.FinOn
import PyProof.EqAt
import PyProof.EqKinds
import PyProof.TupleCall
import Lean
import PySem.Challenge.RW_surewatch_k14_whole_put_otherwise
set_option Elab.async false
set_option linter.all false
set_option maxRecDepth 100000
noncomputable section
abbrev AAD:=PySem.W.Frag
abbrev AAE:=PySem.Value->PySem.Shared->Prop
abbrev AAF:=PySem.Str->Option PySem.Value
abbrev AAG:=List (PySem.Addr×PySem.Obj)
abbrev AAJ:=List (PySem.Str×Int)
abbrev AAK:=Array PySem.Value
abbrev AAL:=List PySem.Value
abbrev aae:=@PySem.wpAny_bind
abbrev aaf:=@PySem.Heap.get?_push_of_some
abbrev aag:=@PySem.wpAny_pure
abbrev aaj:=@List.size_toArray
abbrev aar:=@List.length_cons
abbrev aau:=@Option.bind_some
abbrev aaw:=@List.length_map
abbrev aax:=@List.mem_singleton
abbrev aaA:=@List.mem_cons
abbrev aaB:=@List.length_append
abbrev aaC:=@Nat.le_refl
abbrev aaD:=@List.getElem?_eq_getElem
abbrev aaF:=@PySem.Heap.lt_size
abbrev aaG:=@List.getElem?_eq_some_iff
abbrev aaJ:=@PySem.Heap.get?_push_size
abbrev aaM:=@Nat.lt_of_lt_of_le
abbrev aaO:=@List.getElem?_map
abbrev aaP:=@List.mem_cons_of_mem
abbrev aaQ:=@List.map_cons
abbrev aaR:=@List.mem_cons_self
abbrev aaS:=@List.mem_append_right
abbrev aaT:=@List.filter_cons_of_neg
abbrev aaU:=@PySem.F.slot_list_append
abbrev aaV:=@PySem.F.type_list_append
abbrev aaW:=@Nat.le_trans
abbrev aaX:=@List.mem_append
abbrev aaY:=@Nat.ne_of_lt
abbrev aa0:=@Option.some.inj
abbrev aa5:=@Classical.byContradiction
abbrev aa6:=@decide_eq_false
abbrev aa7:=@Bool.and_eq_true
abbrev aa8:=@List.append_nil
abbrev aa9:=@List.all_eq_true
abbrev abb:=@List.not_mem_nil
abbrev abe:=@List.getElem?_eq_none
abbrev ab2:=@List.getElem?_set_ne
abbrev ab3:=@List.mem_of_getElem?
abbrev ab4:=@List.find?_cons
abbrev ab5:=@PySem.W.mg_none_of
abbrev ab6:=@decide_eq_true
abbrev ab7:=@PySem.wpAny_field
abbrev ab8:=@List.mem_range
abbrev ab9:=@List.replicate_succ
abbrev acf:=@PySem.wpAny_seqItems
abbrev acg:=@List.all_cons
abbrev acm:=@List.any_cons
abbrev acy:=@List.length_drop
abbrev acC:=@PyProof.Rows.callWith_type1
abbrev acD:=@PyProof.Rows.slot_tuple_getitem
abbrev acE:=@PySem.wpAny_callSpecial?_slot
abbrev acF:=@List.filter_cons_of_pos
abbrev acG:=@PySem.wpAny_setField_rec
abbrev acH:=@List.map_append
abbrev acI:=@List.getElem?_set_self
abbrev acJ:=@Nat.zero_le
abbrev acK:=@PySem.mem_of_lookup
abbrev acL:=@PySem.wpAny_mono
abbrev acM:=@Nat.lt_irrefl
abbrev acN:=@List.map_nil
abbrev acT:=@PySem.W.mg_of
abbrev acU:=@decide_eq_true_eq
abbrev acV:=@PySem.Heap.get?_update_self
abbrev acW:=@PySem.wpAny_holding
abbrev acX:=@PySem.Heap.size_push
abbrev acY:=@PySem.wpAny_truthy_bool
abbrev acZ:=@List.flatten_cons
abbrev ac0:=@List.nodup_cons
abbrev ac1:=@PySem.PassesOwn.never
abbrev ac2:=@Ne.symm
abbrev ac3:=@PySem.Heap.get?_update_other
abbrev ac4:=@List.map_map
abbrev ac5:=@PySem.wpAny_call_entry
abbrev ac6:=@List.any_eq_true
abbrev ac7:=@or_false
abbrev ac8:=@List.cons_ne_nil
abbrev ac9:=@Bool.false_ne_true
abbrev ada:=@List.getElem?_append_left
abbrev adb:=@List.drop_eq_getElem_cons
abbrev ade:=@PySem.lookup_relabel_local
abbrev adf:=@Int.toNat_natCast
abbrev adg:=@PySem.wpAny_newObj_type
abbrev adh:=@beq_eq_false_iff_ne
abbrev adi:=@if_false
abbrev adk:=@List.range_succ_eq_map
abbrev adl:=@List.take_of_length_le
abbrev adx:=@Bool.false_eq_true
abbrev ady:=@PySem.wpAny_Call_Name_kw
abbrev adz:=@List.mem_map
abbrev adA:=@List.forIn_cons
abbrev adB:=@List.mem_filter
abbrev adC:=@List.length_set
abbrev adD:=@Bool.eq_iff_iff
abbrev adE:=@PySem.F.slot_zip_next
abbrev adF:=@PySem.F.slot_tuple_iterator_next
abbrev adG:=@List.length_range
abbrev adH:=@List.mem_append_left
abbrev adI:=@Nat.pow_le_pow_right
abbrev adJ:=@Bool.and_eq_true_iff
abbrev adK:=@List.nodup_nil
abbrev adL:=@PySem.boot_len
abbrev adM:=@Nat.ne_of_gt
abbrev adN:=@List.map_congr_left
abbrev adO:=@PySem.wpAny_getItem_str_slice
abbrev adP:=@PySem.wpAny_pyIter_tuple
abbrev adQ:=@PySem.Calls.spliced_cons
abbrev adR:=@PySem.call_meets
abbrev adS:=@PySem.W.kia_one
abbrev adT:=@List.nil_append
abbrev adU:=@Int.emod_lt_of_pos
abbrev adV:=@List.filter_append
abbrev adW:=@PySem.Calls.callWith_builtin
abbrev adX:=@PySem.F.slot_str_split
abbrev adY:=@List.append_assoc
abbrev adZ:=@List.ext_getElem?
abbrev ad0:=@List.length_singleton
abbrev ad1:=@Nat.zero_add
abbrev ad2:=@Nat.pow_succ
abbrev ad3:=@PySem.wpAny_isInstance
abbrev ad4:=@List.length_take
abbrev ad5:=@List.lookup_cons
abbrev ad6:=@List.getElem?_append_right
abbrev ad7:=@PySem.wpAny_onRaise
abbrev ad8:=@PySem.wpAny_letGo
abbrev ad9:=@PySem.F.plain_extend_loop
abbrev aea:=@PySem.wpAny_passesOwn
abbrev aeb:=@List.length_nil
abbrev aec:=@PySem.wpAny_updateSeq
abbrev aed:=@Int.emod_nonneg
abbrev aee:=@Array.forIn_toList
abbrev aef:=@Nat.le_of_eq
abbrev aeg:=@PySem.F.args_tuple_add_2
abbrev aeh:=@PySem.F.args_str_split_2
abbrev aei:=@PySem.typeIs_str
abbrev aej:=@PySem.wpAny_rule
abbrev aek:=@Bool.and_false
abbrev ael:=@List.forIn_nil
abbrev aem:=@List.getElem?_replicate
abbrev aen:=@PySem.F.entry_tuple_add
abbrev aeo:=@PySem.F.entry_str_split
abbrev aep:=@of_decide_eq_true
abbrev aer:=@PySem.wpAny_pyIter_list
abbrev aes:=@PySem.Calls.spliced_nil
abbrev aet:=@List.reverse_cons
abbrev aeu:=@List.flatMap_cons
abbrev aev:=@PySem.F.slot_tuple_add
abbrev aex:=@Nat.add_mul
abbrev aey:=@Option.getD_some
abbrev aez:=@List.getElem_mem
abbrev aeA:=@List.drop_length
abbrev aeB:=@List.length_replicate
abbrev aeC:=@Classical.choose_spec
abbrev aeD:=@PyProof.Rows.Boot.str
abbrev aeE:=@PySem.SeqAt.EqAt.bool_bool
abbrev aeF:=@PySem.SeqAt.EqAt.same
abbrev aeG:=@PySem.wpAny_specialOf
abbrev aeH:=@Nat.le_of_lt
abbrev aeI:=@PySem.Calls.evalArgs_plain
abbrev aeJ:=@PySem.Txt.slice_le
abbrev aeK:=@PySem.post_val_or_str
abbrev aeL:=@Option.map_some
abbrev aeM:=@List.range_succ
abbrev aeN:=@List.filter_nil
abbrev aeO:=@Bool.not_not
abbrev aeP:=@PySem.SeqAt.EqAt.int_bool
abbrev aeQ:=@PySem.SeqAt.EqAt.bool_int
abbrev aeR:=@PySem.SeqAt.EqAt.bool_str
abbrev aeS:=@PySem.SeqAt.EqAt.str_bool
abbrev aeT:=@List.filterMap_cons
abbrev aeU:=@Array.length_toList
abbrev aeV:=@PySem.W.plainGet_of
abbrev aeW:=@List.length_reverse
abbrev aeX:=@PySem.Heap.SameBut.update
abbrev aeY:=@Nat.mul_le_mul_left
abbrev aeZ:=@List.getElem?_range
abbrev ae7:=@Bool.false_and
abbrev ae8:=@PySem.isSubtype_stop
abbrev ae9:=@Nat.mul_le_mul
abbrev afa:=@PySem.sizeLine_eq
abbrev afb:=@Nat.one_mul
abbrev afc:=@PySem.SeqAt.EqAt.int_str
abbrev afd:=@PySem.SeqAt.EqAt.str_int
abbrev afe:=@PySem.SeqAt.EqAt.of_refs
abbrev afg:=@PySem.W.callWith_K
abbrev afh:=@Nat.lt_of_le_of_lt
abbrev afi:=@List.getElem?_take
abbrev afj:=@List.getElem?_drop
abbrev afk:=@PySem.Paired.length
abbrev afl:=@PySem.wpAny_standAt
abbrev afm:=@List.map_take
abbrev afn:=@Nat.mul_assoc
abbrev afo:=@Bool.and_true
abbrev afp:=@PySem.wpAny_assign_Name
abbrev afq:=@PySem.F.args_zip_next_1
abbrev afr:=@beq_iff_eq
abbrev afs:=@PySem.F.slot_dict_getitem
abbrev aft:=@List.getElem?_eq_none_iff
abbrev afu:=@PySem.Around.in1_units
abbrev afv:=@Nat.lt_succ_self
abbrev afw:=@PySem.codeAny_mono
abbrev afx:=@PySem.noFill_tuple_add
abbrev afy:=@PySem.wpAny_typeOf
abbrev afz:=@Nat.sub_zero
abbrev afA:=@PySem.F.entry_zip_next
abbrev afB:=@List.zipIdx_cons
abbrev afC:=@List.any_map
abbrev afD:=@PySem.F.plainAttrs_list
abbrev afE:=@Int.eq_ofNat_of_zero_le
abbrev afF:=@List.of_mem_zip
abbrev afG:=@List.zipIdx_nil
abbrev afH:=@List.length_zip
abbrev afI:=@Nat.le_succ
abbrev afJ:=@List.drop_zero
abbrev afK:=@Bool.not_true
abbrev afL:=@List.map_drop
section
section
namespace L2
open PySem PySem.Spec PyProof.Rows
inductive D where
 | cU | bl (b:Bool) | int (i:Int) | str (z:Str) | tup (ds:List D) | lst (ds:List D)
mutual
noncomputable def D.same:D->D->Bool
 | .cU,.cU=>true
 | .bl a,.bl b=>a == b
 | .int a,.int b=>a == b
 | .str a,.str b=>decide (a=b)
 | .tup a,.tup b=>D.sR a b
 | .lst a,.lst b=>D.sR a b
 | _,_=>false
noncomputable def D.sR:List D->List D->Bool
 | [],[]=>true
 | a :: as,b :: bs=>D.same a b && D.sR as bs
 | _,_=>false
end
mutual
theorem D.same_refl:∀a:D,D.same a a=true
 | .cU=>rfl
 | .bl _=>by simp[D.same]
 | .int _=>by simp[D.same]
 | .str _=>by simp[D.same]
 | .tup a=>by unfold D.same;exact D.rJ a
 | .lst a=>by unfold D.same;exact D.rJ a
theorem D.rJ:∀a:List D,D.sR a a=true
 | []=>rfl
 | a :: as=>by unfold D.sR;rw[D.same_refl a,D.rJ as];rfl
end
mutual
theorem D.same_eq:∀{a b:D},D.same a b=true->a=b
 | .cU,b,h=>by cases b <;> simp[D.same] at h ⊢
 | .bl _,b,h=>by cases b <;> simp[D.same] at h ⊢;exact h
 | .int _,b,h=>by cases b <;> simp[D.same] at h ⊢;exact h
 | .str _,b,h=>by cases b <;> simp[D.same] at h ⊢;exact h
 | .tup a,b,h=>by
  cases b with
  | tup b=>unfold D.same at h;rw[D.xN h]
  | _=>simp[D.same] at h
 | .lst a,b,h=>by
  cases b with
  | lst b=>unfold D.same at h;rw[D.xN h]
  | _=>simp[D.same] at h
theorem D.xN:∀{a b:List D},D.sR a b=true->a=b
 | [],b,h=>by cases b <;> simp[D.sR] at h ⊢
 | a :: as,b,h=>by
  cases b with
  | nil=>simp[D.sR] at h
  | cons b bs=>
   unfold D.sR at h
   rw[aa7] at h
   rw[D.same_eq h.1,D.xN h.2]
end
noncomputable instance:DecidableEq D:=fun a b=>if h:D.same a b=true then isTrue (D.same_eq h) else isFalse fun e=>h (e▸D.same_refl a)
noncomputable def bI (b:Bool):Int:=if b then 1 else 0
mutual
noncomputable def nf:D->D
 | .bl b=>.int (bI b)
 | .tup ds=>.tup (Wn ds)
 | d=>d
noncomputable def Wn:List D->List D
 | []=>[]
 | d :: ds=>nf d :: Wn ds
end
noncomputable def fK:Nat->D->Bool
 | _,.bl _=>true
 | _,.int _=>true
 | _,.str _=>true
 | n+1,.tup ds=>ds.all (fK n)
 | _,_=>false
mutual
theorem Gj:∀(d:D) (n:Nat),fK n d=true->fK n (nf d)=true
 | .bl _,n,_=>by cases n <;> rfl
 | .int _,n,_=>by cases n <;> rfl
 | .str _,n,_=>by cases n <;> rfl
 | .cU,n,h=>by cases n <;> exact h
 | .lst _,n,h=>by cases n <;> exact h
 | .tup ds,0,h=>by exact h
 | .tup ds,n+1,h=>CF ds n h
theorem CF:∀(ds:List D) (n:Nat),ds.all (fK n)=true->(Wn ds).all (fK n)=true
 | [],n,_=>rfl
 | d :: ds,n,h=>by
  rw[acg,aa7] at h
  show((nf d :: Wn ds).all (fK n))=true
  rw[acg,Gj d n h.1,CF ds n h.2]
  rfl
end
mutual
inductive zH (h:Heap):Value->D->Prop
 | bool (b:Bool):zH h (.bool b) (.int (bI b))
 | int (i:Int) (t:Tok):zH h (.int i t) (.int i)
 | str (x:Str) (t:Tok):zH h (.str x t) (.str x)
 | tup {a:Addr}{its:AAL}{ds:List D}(p:h.IsTuple a its.toArray) (r:lN h its ds):zH h (.ref a) (.tup ds)
inductive lN (h:Heap):List Value->List D->Prop
 | nil:lN h [] []
 | cons {u:Value}{d:D}{us:AAL}{ds:List D}(r:zH h u d) (rs:lN h us ds):lN h (u :: us) (d :: ds)
end
mutual
noncomputable def J9 (w:World):D->Int
 | .int i=>hashInt i
 | .str x=>hashStr w x
 | .tup ds=>reduceHash (Builtin.Tuple.tupleHashOf (rK w ds))
 | _=>0
noncomputable def rK (w:World):List D->List Int
 | []=>[]
 | d :: ds=>J9 w d :: rK w ds
end
mutual
noncomputable def Bk:D->Nat
 | .tup ds=>xm ds+1
 | _=>1
noncomputable def xm:List D->Nat
 | []=>0
 | d :: ds=>Bk d+xm ds
end
theorem lN.length {h:Heap}:∀{us:AAL}{ds:List D},lN h us ds->us.length=ds.length
 | _,_,.nil=>rfl
 | _,_,.cons _ rs=>congrArg Nat.succ (lN.length rs)
mutual
theorem zH.inj {h:Heap}:∀{v:Value}{d e:D},zH h v d->zH h v e->d=e
 | _,_,_,.bool b,r=>by cases r;rfl
 | _,_,_,.int i t,r=>by cases r;rfl
 | _,_,_,.str x t,r=>by cases r;rfl
 | _,_,_,@zH.tup _ a its ds p r,q=>by
  cases q with
  | @tup _ its' ds' p' r'=>
   obtain⟨o,h1,_,n,h2⟩:=p
   obtain⟨o',Wo,_,n',h2'⟩:=p'
   rw[h1] at Wo
   cases Wo
   rw[h2] at h2'
   injection h2' with e1 _
   have e:its=its':=by simpa using congrArg Array.toList e1
   subst e
   rw[lN.inj r r']
theorem lN.inj {h:Heap}:∀{vs:AAL}{ds es:List D},lN h vs ds->lN h vs es->ds=es
 | _,_,_,.nil,r=>by cases r;rfl
 | _,_,_,.cons r1 s1,r=>by
  cases r with
  | cons r2 s2=>rw[zH.inj r1 r2,lN.inj s1 s2]
end
mutual
theorem zH.keeps {h h':Heap}{d:Addr}{o:Obj}{es:Array DictEntry}{ep:Nat}(ho:h.get? d=some o) (hd:o.data= .dict es ep) (hs:Heap.SameBut d h h'):∀{v:Value}{k:D},zH h v k->zH h' v k
 | _,_,.bool b=>.bool b
 | _,_,.int i t=>.int i t
 | _,_,.str x t=>.str x t
 | _,_,@zH.tup _ a its ds p r=>by
  obtain⟨o',h1,h2,n,h3⟩:=p
  have hne:a≠d:=by
   intro z
   subst z
   rw[ho] at h1
   cases h1
   rw[hd] at h3
   cases h3
  exact .tup ⟨o',(hs.2 a hne).trans h1,h2,n,h3⟩ (lN.keeps ho hd hs r)
theorem lN.keeps {h h':Heap}{d:Addr}{o:Obj}{es:Array DictEntry}{ep:Nat}(ho:h.get? d=some o) (hd:o.data= .dict es ep) (hs:Heap.SameBut d h h'):∀{v:AAL}{k:List D},lN h v k->lN h' v k
 | _,_,.nil=>.nil
 | _,_,.cons r1 s1=>.cons (zH.keeps ho hd hs r1) (lN.keeps ho hd hs s1)
end
section
variable {prog:Program}{w:World}{E:AAE}
def vP {A:Around}{s:Shared}{b:Bool}{Q:Int->Shared->Prop}(h:Q (hashInt (bI b)) {s with toks:=s.toks+1}):wpAny (model prog w) A (pyHash (.bool b)) Q E s:=by
 refine PySem.W.pyHash_slot (T:="bool") rfl F.slot_bool_hash F.entry_int_hash (F.args_int_hash_1 _) (beq_builtin_none _) (.inl rfl) ?_
 cases b
 ·exact(show wpAny _ _ (do ret (<-mkInt 0)) _ _ s from aae (wpAny_mkInt (aag ⟨_,_,rfl,h⟩)))
 ·exact(show wpAny _ _ (do ret (<-mkInt 1)) _ _ s from aae (wpAny_mkInt (aag ⟨_,_,rfl,h⟩)))
mutual
theorem CG:∀(d:D){n:Nat}{v:Value}{A:Around}{s:Shared}{Q:Int->Shared->Prop},zH s.heap v d->fK n d=true->A.units+n < cLine->Q (J9 w d) {s with toks:=s.toks+Bk d}->wpAny (model prog w) A (pyHash v) Q E s
 | .int i,n,v,A,s,Q,x,_,_,h=>by
  cases x with
  | int=>exact wpAny_pyHash_int h
  | bool b=>exact vP h
 | .str y,n,v,A,s,Q,x,_,_,h=>by cases x;exact wpAny_pyHash_str h
 | .cU,n,v,A,s,Q,x,_,_,h=>by cases x
 | .bl _,n,v,A,s,Q,x,_,_,h=>by cases x
 | .lst _,n,v,A,s,Q,x,_,_,h=>by cases x
 | .tup ds,n,v,A,s,Q,x,hk,hu,h=>by
  cases n with
  | zero=>simp[fK] at hk
  | succ n=>
   cases x with
   | @tup a its _ p r=>
    obtain⟨o,hg,hc,m,hd⟩:=p
    refine PySem.W.pyHash_slot (T:="tuple") ⟨_,hg,hc⟩ F.slot_tuple_hash F.entry_tuple_hash (F.args_tuple_hash_1 _) (beq_builtin_none _) (.inr (by omega)) ?_
    show wpAny _ _ (Builtin.Tuple.tupleItemsOf (.ref a) >>= _) _ _ s
    refine aae (wpAny_tupleItemsOf hg hd ?_)
    refine aae ?_
    rw[<-aee]
    refine Ak ds (n:=n) (A:=A.in1) (b:=#[]) r hk (by rw[afu];omega) fun b hb=>?_
    show wpAny _ _ (retInt (Builtin.Tuple.tupleHashOf b.toList)) _ _ _
    rw[hb]
    refine aae (wpAny_mkInt (aag ⟨_,_,rfl,?_⟩))
    have e:(#[]:Array Int).toList++rK w ds=rK w ds:=by simp
    rw[e]
    exact h
theorem Ak:∀(ds:List D){n:Nat}{vs:AAL}{A:Around}{s:Shared}{b:Array Int}{Q:Array Int->Shared->Prop},lN s.heap vs ds->ds.all (fK n)=true->A.units+n < cLine->
  (∀b',b'.toList=b.toList++rK w ds->Q b' {s with toks:=s.toks+xm ds})->
  wpAny (model prog w) A (forIn vs b fun x r=>do let h <-pyHash x;pure PUnit.unit;pure (ForInStep.yield (r.push h))) Q E s
 | [],n,_,A,s,b,Q,x,_,_,h=>by cases x;exact aag (h b (by simp[rK]))
 | d :: ds,n,_,A,s,b,Q,x,hk,hu,h=>by
  cases x with
  | cons x1 x2=>
   rw[acg,aa7] at hk
   rw[adA]
   refine aae (aae (CG d (n:=n) x1 hk.1 hu ?_))
   refine aae (aag (aag ?_))
   refine Ak ds (n:=n) x2 hk.2 hu fun b' hb=>?_
   have q:=h b' (by simp[hb,rK])
   show Q b' {s with toks:=s.toks+Bk d+xm ds}
   rw[Nat.add_assoc]
   exact q
end
end
def Bl (n:Nat) (f:Nat->Bool):(List.range (n+1)).all f=(f 0 && (List.range n).all fun j=>f (j+1)):=by
 rw[adk,acg,List.all_map];rfl
theorem CH:∀ds es:List D,((List.range (min ds.length es.length)).all (fun j=>decide (ds[j]? =es[j]?)) && ds.length == es.length)=decide (ds=es)
 | [],[]=>by simp
 | [],e :: es=>by simp
 | d :: ds,[]=>by simp
 | d :: ds,e :: es=>by
  have ih:=CH ds es
  have e1:min (d :: ds).length (e :: es).length=min ds.length es.length+1:=by simp only[aar];omega
  rw[e1,Bl]
  have e2:(fun j=>decide ((d :: ds)[j+1]? =(e :: es)[j+1]?))=fun j=>decide (ds[j]? =es[j]?):=by funext j;simp
  have e3:((d :: ds).length == (e :: es).length)=(ds.length == es.length):=by simp
  have e4:decide ((d :: ds)[0]? =(e :: es)[0]?)=decide (d=e):=by simp
  have e5:decide (d :: ds=e :: es)=(decide (d=e) && decide (ds=es)):=by
   by_cases a:d=e
   ·subst a;by_cases b:ds=es <;> simp[b]
   ·simp[a]
  rw[e2,e3,e4,Bool.and_assoc,ih,e5]
def Ka {α:Type}(l:List α) (j:Nat) (h:j < l.toArray.size):l[j]? =some l.toArray[j]:=by
 have z:j < l.length:=by simpa using h
 simp[z]
mutual
theorem eqK:∀(d:D){e:D}{n:Nat}{A:Around}{s:Shared}{u v:Value},zH s.heap u d->zH s.heap v e->fK n d=true->A.units+n < cLine->SeqAt.EqAt A s u v (decide (d=e))
  | .int i,e,n,A,s,u,v,r1,r2,_,hu=>by
    have di:∀i j:Int,decide (D.int i=D.int j)=(i == j):=fun i j=>by by_cases z:i=j <;> simp[z]
    cases r1 with
    | int _ t=>
      cases r2 with
      | int j t'=>rw[di];exact SeqAt.EqAt.int_int i t j t'
      | bool b=>rw[di];exact aeP i t b
      | str x t'=>exact afc i t x t'
      | tup p r=>exact SeqAt.EqAt.int_tuple i t p (by omega)
    | bool a=>
      cases r2 with
      | int j t'=>rw[di];exact aeQ a j t'
      | bool b=>
        have:(bI a == bI b)=(a == b):=by cases a <;> cases b <;> rfl
        rw[di,this];exact aeE a b
      | str x t'=>exact aeR a x t'
      | tup p r=>exact SeqAt.EqAt.bool_tuple a p (by omega)
  | .str i,e,n,A,s,u,v,r1,r2,_,hu=>by
    cases r1 with
    | str _ t=>
    cases r2 with
    | int j t'=>exact afd i t j t'
    | bool b=>exact aeS i t b
    | str x t' => have : decide (D.str i = D.str x) = (i == x) := by by_cases z : i = x <;> simp [z]
                  rw[this];exact SeqAt.EqAt.str_str i t x t'
    | tup p r=>exact SeqAt.EqAt.str_tuple i t p (by omega)
  | .cU,e,n,A,s,u,v,r1,r2,hk,hu=>by cases r1
  | .bl _,e,n,A,s,u,v,r1,r2,hk,hu=>by cases r1
  | .lst _,e,n,A,s,u,v,r1,r2,hk,hu=>by cases r1
  | .tup ds,e,n,A,s,u,v,r1,r2,hk,hu=>by
    cases n with
    | zero=>simp[fK] at hk
    | succ n=>
    cases r1 with
    | @tup ca gq _ pa ra=>
    cases r2 with
    | int j t'=>exact SeqAt.EqAt.tuple_int j t' pa (by omega)
    | bool b=>exact SeqAt.EqAt.tuple_bool b pa (by omega)
    | str x t'=>exact SeqAt.EqAt.tuple_str x t' pa (by omega)
    | @tup cb cB es pb rb=>
      have items:∀j (h1:j < gq.toArray.size) (h2:j < cB.toArray.size),SeqAt.EqAt A.in1 s gq.toArray[j] cB.toArray[j] (decide (ds[j]? =es[j]?)):=fun j h1 h2=>
        Wq ds (n:=n) (A:=A.in1) ra rb hk (by rw[afu];omega) (Ka gq j h1) (Ka cB j h2)
      by_cases hc:ca=cb
      . subst hc
        have z:=zH.inj (.tup pa ra) (.tup pb rb)
        rw[z,ab6 rfl]
        exact aeF _
      . have q:=SeqAt.RcAt.tuples (e:=fun j=>decide (ds[j]? =es[j]?)) pa pb (by omega) items
        rw[aaj,aaj,ra.length,rb.length,CH] at q
        have z:decide (D.tup ds=D.tup es)=decide (ds=es):=by by_cases a:ds=es <;> simp[a]
        rw[z]
        exact afe hc q
theorem Wq:∀(ds:List D){es:List D}{n:Nat}{A:Around}{s:Shared}{us vs:AAL}{j:Nat}{u v:Value},lN s.heap us ds->lN s.heap vs es->ds.all (fK n)=true->A.units+n < cLine->us[j]? =some u->vs[j]? =some v->
  SeqAt.EqAt A s u v (decide (ds[j]? =es[j]?))
 | [],es,n,A,s,us,vs,j,u,v,r1,r2,hk,hu,h1,h2=>by cases r1;simp at h1
 | d :: ds,es,n,A,s,us,vs,j,u,v,r1,r2,hk,hu,h1,h2=>by
  rw[acg,aa7] at hk
  cases r1 with
  | cons a as=>
  cases r2 with
  | nil=>simp at h2
  | @cons v' e' vs' es' b bs=>
   cases j with
   | zero=>
    simp only[List.getElem?_cons_zero,Option.some.injEq] at h1 h2
    subst h1
    subst h2
    have z:decide ((d :: ds)[0]? =(e' :: es')[0]?)=decide (d=e'):=by simp
    rw[z]
    exact eqK d a b hk.1 hu
   | succ j=>
    have z:decide ((d :: ds)[j+1]? =(e' :: es')[j+1]?)=decide (ds[j]? =es'[j]?):=by simp
    rw[z]
    exact Wq ds as bs hk.2 hu (by simpa using h1) (by simpa using h2)
end
section
variable {prog:Program}{w:World}{A:Around}{E:AAE}{s:Shared}
mutual
theorem Kc:∀(d:D){n:Nat}{v:Value}{Q:Bool->Shared->Prop},zH s.heap v d->fK n d=true->Q true s->wpAny (model prog w) A (eqIsQuiet n v) Q E s
 | .int i,n,v,Q,x,_,h=>by cases x <;> (rw[eqIsQuiet_byValue n rfl];exact aag h)
 | .str y,n,v,Q,x,_,h=>by cases x;rw[eqIsQuiet_byValue n rfl];exact aag h
 | .cU,n,v,Q,x,_,h=>by cases x
 | .bl _,n,v,Q,x,_,h=>by cases x
 | .lst _,n,v,Q,x,_,h=>by cases x
 | .tup ds,n,v,Q,x,hk,h=>by
  cases n with
  | zero=>simp[fK] at hk
  | succ n=>
   cases x with
   | @tup a its _ p r=>
    obtain⟨o,hg,hc,m,hd⟩:=p
    have hT:s.TypeIs (.ref a) "tuple":=⟨o,hg,hc⟩
    unfold eqIsQuiet
    refine aae (aeG hT F.slot_tuple_eq.lookup ?_)
    show wpAny _ _ (isInstance (.ref a) (.type "tuple") >>= _) _ _ s
    refine aae (ad3 hT isSubtype_tuple_tuple ?_)
    simp only[afK,adx,adi]
    refine aae (acf hg hd ?_)
    refine aae ?_
    show wpAny _ _ (forIn its.toArray _ _) _ _ s
    rw[<-aee]
    exact Am ds r hk (aag h)
theorem Am:∀(ds:List D){n:Nat}{vs:AAL}{Q:Option Bool×Unit->Shared->Prop},lN s.heap vs ds->ds.all (fK n)=true->Q (none,()) s->
  wpAny (model prog w) A (forIn vs ((none,()):Option Bool×Unit) fun y __s=>do
   let __do_lift <-eqIsQuiet n y
   if(!__do_lift)=true then pure (ForInStep.done (some false,())) else pure (ForInStep.yield (none,()))) Q E s
 | [],n,_,Q,x,_,h=>by cases x;exact aag h
 | d :: ds,n,_,Q,x,hk,h=>by
  cases x with
  | cons x1 x2=>
   rw[acg,aa7] at hk
   rw[adA]
   refine aae (aae (Kc d x1 hk.1 ?_))
   simp only[afK,adx,adi]
   refine aag ?_
   exact Am ds x2 hk.2 h
end
end
def mO (prog:Program) (w:World):HeapKind prog w D where
 is:=fun h k a=>zH h (.ref a) k/\fK 8 k=true
 hash:=J9 w
 draws:=Bk
 room:=fun A=>A.units+8 < cLine
 inj:=fun hx hy=>hx.1.inj hy.1
 keeps:=fun x ho hd hs=>⟨x.1.keeps ho hd hs,x.2⟩
 pyHash:=fun hu hk h=>CG _ hk.1 hk.2 hu h
 eqBool:=fun hu hx hy h=>eqK _ hx.1 hy.1 hx.2 hu _ _ _ _ h
 quiet:=fun hk h=>Kc _ hk.1 hk.2 h
def l7 {prog:Program}{w:World}{A:Around}(hu:A.units+20 < cLine):(mO prog w).room A.in1:=by
 show A.in1.units+8 < cLine
 rw[afu]
 omega
end L2
end
namespace L2
open PySem PySem.Spec PyProof.Rows
variable {H H':Hp}{a C:Addr}{o:Obj}{u:Value}{P prog:Program}{w:World}{g':Array GenState}{t' i k:Nat}{ch fp:List Addr}{N ps:List Str}{x qual:Str}{M:Model}{A:Around}{E Q:AAE}{X:Cx}{pos:Pos}{pins:AAG}{σ:St}{op:CmpOp}{K:AAD}{es:List Expr}{tg:Expr}{body:List Stmt}{r:R2}{g:Int->Int->Int}{us:AAL}{y:V}{mA mg:AAF}{pl:Sem Bool}{kw:List (Str×Value)}{base:Heap}{outer:List Env}{vs:List V}{scope:Scope}{kvs:List (D×V)}{xs:List (D×Addr×Value)}{OF:List (TE×TE)}
abbrev Key:=Sum Int Str
def xO:Key->Value->Bool
 | .inl k,.bool b=>decide (k=bI b)
 | .inl k,v=>Value.isInt k v
 | .inr x,v=>Value.isStrOf x v
noncomputable def ZZ (w:World):Key->Int
 | .inl k=>hashInt k
 | .inr x=>hashStr w x
theorem dI:∀{k:Key}{v:Value},xO k v=true->(∃i t,k=Sum.inl i/\v=Value.int i t)\/(∃b,k=Sum.inl (bI b)/\v=Value.bool b)\/(∃x t,k=Sum.inr x/\v=Value.str x t)
 | .inl i,v,h=>by
  cases v with
  | bool b=>exact .inr (.inl ⟨b,by rw[aep (show decide (i=bI b)=true from h)],rfl⟩)
  | int j t=>obtain⟨t,e⟩:=Value.isInt_shape (k:=i) (v:=Value.int j t) h;exact .inl ⟨i,t,rfl,e⟩
  | _=>exact absurd h (by simp[xO,Value.isInt])
 | .inr x,v,h=>by
  obtain⟨t,e⟩:=Value.isStrOf_shape (x:=x) (v:=v) h
  exact .inr (.inr ⟨x,t,rfl,e⟩)
def HF (i:Int) (t:Tok):xO (.inl i) (.int i t)=true:=by simp[xO,Value.isInt]
def HG (x:Str) (t:Tok):xO (.inr x) (.str x t)=true:=by simp[xO,Value.isStrOf]
def Bm (a b:Int):decide ((Sum.inl a:Key)=Sum.inl b)=(a == b):=by
 by_cases e:a=b
 ·subst e;simp
 ·have h:¬(Sum.inl a:Key)=Sum.inl b:=fun q=>e (Sum.inl.inj q)
  rw[aa6 h]
  exact(adh.mpr e).symm
def RW (a b:Str):decide ((Sum.inr a:Key)=Sum.inr b)=decide (a=b):=by
 by_cases e:a=b
 ·subst e;simp
 ·have h:¬(Sum.inr a:Key)=Sum.inr b:=fun q=>e (Sum.inr.inj q)
  rw[aa6 h,aa6 e]
def Ke (a:Int) (b:Str):decide ((Sum.inl a:Key)=Sum.inr b)=false:=aa6 (fun q=>nomatch q)
def Kf (a:Str) (b:Int):decide ((Sum.inr a:Key)=Sum.inl b)=false:=aa6 (fun q=>nomatch q)
def dU (prog:Program) (w:World):PySem.KeyKind prog w Key where
 is:=xO
 hash:=ZZ w
 inj:=fun v a b ha hb=>by
  rcases dI ha with⟨i,t,rfl,rfl⟩ | ⟨c,rfl,rfl⟩ | ⟨x,t,rfl,rfl⟩
  ·rcases dI hb with⟨j,u,rfl,e⟩ | ⟨c',rfl,e⟩ | ⟨y,u,rfl,e⟩
   ·injection e with e1 _;rw[e1]
   ·exact nomatch e
   ·exact nomatch e
  ·rcases dI hb with⟨j,u,rfl,e⟩ | ⟨c',rfl,e⟩ | ⟨y,u,rfl,e⟩
   ·exact nomatch e
   ·injection e with e1;rw[e1]
   ·exact nomatch e
  ·rcases dI hb with⟨j,u,rfl,e⟩ | ⟨c',rfl,e⟩ | ⟨y,u,rfl,e⟩
   ·exact nomatch e
   ·exact nomatch e
   ·injection e with e1 _;rw[e1]
 byValue:=fun k v h=>by
  rcases dI h with⟨i,t,rfl,rfl⟩ | ⟨c,rfl,rfl⟩ | ⟨x,t,rfl,rfl⟩ <;> rfl
 pyHash:=fun hv h=>by
  rcases dI hv with⟨i,t,rfl,rfl⟩ | ⟨c,rfl,rfl⟩ | ⟨x,t,rfl,rfl⟩
  ·exact wpAny_pyHash_int h
  ·exact vP h
  ·exact wpAny_pyHash_str h
 eqBool:=fun hu hv h=>by
  rcases dI hu with⟨i,t,rfl,rfl⟩ | ⟨c,rfl,rfl⟩ | ⟨x,t,rfl,rfl⟩
  ·rcases dI hv with⟨j,u,rfl,rfl⟩ | ⟨c',rfl,rfl⟩ | ⟨y,u,rfl,rfl⟩
   ·rw[Bm] at h;exact wpAny_eqBool_int h
   ·rw[Bm] at h;exact aeP i t c' _ _ _ _ h
   ·rw[Ke] at h;exact afc i t y u _ _ _ _ h
  ·rcases dI hv with⟨j,u,rfl,rfl⟩ | ⟨c',rfl,rfl⟩ | ⟨y,u,rfl,rfl⟩
   ·rw[Bm] at h;exact aeQ c j u _ _ _ _ h
   ·have e:(bI c == bI c')=(c == c'):=by cases c <;> cases c' <;> rfl
    rw[Bm,e] at h;exact aeE c c' _ _ _ _ h
   ·rw[Ke] at h;exact aeR c y u _ _ _ _ h
  ·rcases dI hv with⟨j,u,rfl,rfl⟩ | ⟨c',rfl,rfl⟩ | ⟨y,u,rfl,rfl⟩
   ·rw[Kf] at h;exact afd x t j u _ _ _ _ h
   ·rw[Kf] at h;exact aeS x t c' _ _ _ _ h
   ·rw[RW] at h;exact wpAny_eqBool_str h
 «strs»:=fun k x t v h=>by
  rcases dI h with⟨i,u,rfl,e⟩ | ⟨c,rfl,e⟩ | ⟨y,u,rfl,e⟩
  ·exact nomatch e
  ·exact nomatch e
  ·injection e with e1 _
   subst e1
   cases v <;> rfl
def CI (prog:Program) (w:World) (i:Int) (t:Tok):(dU prog w).is (.inl i) (.int i t)=true:=HF i t
def oR (prog:Program) (w:World) (x:Str) (t:Tok):(dU prog w).is (.inr x) (.str x t)=true:=HG x t
inductive V where
 | cU | bl (b:Bool) | int (i:Int) | str (x:Str) | YQ (b:Array UInt8) | flt (b:UInt64) | ref (a:Addr) | ty (n:String)
 deriving DecidableEq
def RelV:V->Value->Prop
 | .cU,u=>u=Value.none
 | .bl b,u=>u=Value.bool b
 | .int i,u=>∃t,u=Value.int i t
 | .str x,u=>∃t,u=Value.str x t
 | .YQ b,u=>∃t,u=Value.bytes b t
 | .flt b,u=>∃t,u=Value.float b t
 | .ref a,u=>u=Value.ref a
 | .ty n,u=>u=Value.type n
abbrev Vals:List V->List Value->Prop:=Paired RelV
def Vals.length {xs:List V}{us:AAL}(r:Vals xs us):xs.length=us.length:=afk r
theorem Vals.get:∀{xs:List V}{us:AAL}{i:Nat}{x:V},Vals xs us->xs[i]? =some x->∃u,us[i]? =some u/\RelV x u
 | _,_,_,_,.nil,e=>by simp at e
 | _,_,0,_,.cons r _,e=>by simp at e;subst e;exact⟨_,rfl,r⟩
 | _,_,i+1,x,.cons _ t,e=>by
  obtain⟨u,h1,h2⟩:=Vals.get (i:=i) (x:=x) t (by simpa using e)
  exact⟨u,by simpa using h1,h2⟩
theorem Vals.set {x:V}{u:Value}(r:RelV x u):∀{xs:List V}{us:AAL}(i:Nat),Vals xs us->Vals (xs.set i x) (us.set i u)
 | _,_,_,.nil=>.nil
 | _,_,0,.cons _ t=>.cons r t
 | _,_,i+1,.cons q t=>.cons q (Vals.set r i t)
theorem Vals.append:∀{xs ys:List V}{us ws:AAL},Vals xs us->Vals ys ws->Vals (xs++ys) (us++ws)
 | _,_,_,_,.nil,s=>s
 | _,_,_,_,.cons r t,s=>.cons r (Vals.append t s)
theorem Vals.take:∀{xs:List V}{us:AAL}(n:Nat),Vals xs us->Vals (xs.take n) (us.take n)
 | _,_,0,_=>.nil
 | _,_,_+1,.nil=>.nil
 | _,_,n+1,.cons r t=>.cons r (Vals.take n t)
theorem Vals.drop:∀{xs:List V}{us:AAL}(n:Nat),Vals xs us->Vals (xs.drop n) (us.drop n)
 | _,_,0,r=>r
 | _,_,_+1,.nil=>.nil
 | _,_,n+1,.cons _ t=>Vals.drop n t
def qW:Option V->Option Value->Prop
 | some v,some u=>RelV v u
 | none,none=>True
 | _,_=>False
def KV {κ:Type}:List (κ×V)->List (κ×Value)->Prop:=Paired fun(p:κ×V) (q:κ×Value)=>p.1=q.1/\RelV p.2 q.2
noncomputable def kV:Key->V
 | .inl i=>.int i
 | .inr x=>.str x
inductive HO where
 | lst (xs:List V)
 | tup (xs:List V)
 | dK (kvs:List (Key×V)) | dT (kvs:List (D×V))
 | set (S:Int->Bool) (n:Nat)
 | ins (C dx:Addr) (fs:List (Str×V))
 | own (x:Addr)
 | xd (fs:List (Str×V))
 | met (f x:Addr)
 | oU (lo hi:Int)
 | kL (o:Obj) (u:HO)
 | RX (ps:AAK)
 | ext (φ:Heap->Prop)
abbrev Hp:=Addr->Option HO
mutual
inductive Rep (H:Hp):V->D->Prop
 | cU:Rep H .cU .cU
 | bl (b:Bool):Rep H (.bl b) (.bl b)
 | int (i:Int):Rep H (.int i) (.int i)
 | str (z:Str):Rep H (.str z) (.str z)
 | tup {a:Addr}{vs:List V}{ds:List D}(e:H a=some (.tup vs)) (r:bH H vs ds):Rep H (.ref a) (.tup ds)
 | lst {a:Addr}{vs:List V}{ds:List D}(e:H a=some (.lst vs)\/∃o,H a=some (.kL o (.lst vs))) (r:bH H vs ds):Rep H (.ref a) (.lst ds)
inductive bH (H:Hp):List V->List D->Prop
 | nil:bH H [] []
 | cons {v:V}{d:D}{vs:List V}{ds:List D}(r:Rep H v d) (rs:bH H vs ds):bH H (v :: vs) (d :: ds)
end
mutual
theorem Rep.tups {H H':Hp}(ht:∀b xs,H b=some (.tup xs)->H' b=some (.tup xs)):∀(d:D){n:Nat}{v:V},Rep H v d->fK n d=true->Rep H' v d
 | .cU,n,_,_,k=>by simp[fK] at k
 | .bl b,n,_,r,k=>by cases r;exact .bl b
 | .lst _,n,_,_,k=>by simp[fK] at k
 | .int i,n,_,r,k=>by cases r;exact .int i
 | .str i,n,_,r,k=>by cases r;exact .str i
 | .tup ds,n,_,r,k=>by
  cases n with
  | zero=>simp[fK] at k
  | succ n=>
   cases r with
   | @tup a vs _ e rs=>exact .tup (ht _ _ e) (bH.tups ht ds rs k)
theorem bH.tups {H H':Hp}(ht:∀b xs,H b=some (.tup xs)->H' b=some (.tup xs)):∀(ds:List D){n:Nat}{vs:List V},bH H vs ds->ds.all (fK n)=true->bH H' vs ds
 | [],n,_,r,k=>by cases r;exact .nil
 | d :: ds,n,_,r,k=>by
  rw[acg,aa7] at k
  cases r with
  | cons r1 r2=>exact .cons (Rep.tups ht d r1 k.1) (bH.tups ht ds r2 k.2)
end
def Kd (H:Hp) (b:Addr) (k:D):Prop:=∃d,Rep H (.ref b) d/\fK 8 d=true/\nf d=k
def Kd.tups {H H':Hp}{b:Addr}{k:D}(x:Kd H b k) (ht:∀b xs,H b=some (.tup xs)->H' b=some (.tup xs)):Kd H' b k:=by
 obtain⟨d,r,hk,e⟩:=x
 exact⟨d,Rep.tups ht d r hk,hk,e⟩
noncomputable def upd (H:Hp) (a:Addr) (o:HO):Hp:=fun b=>if b=a then some o else H b
def bq {o:HO}:upd H a o a=some o:=by unfold upd;rw[if_pos rfl]
def bf {b:Addr}{o:HO}(h:b≠a):upd H a o b=H b:=by unfold upd;rw[if_neg h]
def Wr {b:Addr}{o u:HO}(h:H a=some o) (h':H b=some u) (d:o≠u):a≠b:=by
 intro e;subst e;rw[h] at h';exact d (aa0 h')
def bK {b:Addr}{o:HO}(h:H a=some o) (h':H b=none):a≠b:=by
 intro e;subst e;rw[h] at h';cases h'
section
variable (P:Program) (w:World)
def eY (H:Hp) (h:Heap) (a:Addr):HO->Prop
 | .lst xs=>xs.length<=sizeLine/\∃(its:AAL) (n:Nat),Vals xs its/\h.get? a=some {cls:=.type "list",data:=.seq its.toArray n}
 | .tup xs=>xs.length<=sizeLine/\∃its:List Value,Vals xs its/\IsTup h a its.toArray
 | .dK kvs=>kvs.length<=sizeLine/\(a == sysModules)=false/\∃vs,KV kvs vs/\h.DictOf (dU P w) a vs
 | .dT kvs=>kvs.length<=sizeLine/\(a == sysModules)=false/\∃xs:List (D×Addr×Value),
   Paired (fun(p:D×V) (q:D×Addr×Value)=>p.1=q.1/\Kd H q.2.1 p.1/\RelV p.2 q.2.2) kvs xs/\
   ∃o es ep,h.get? a=some o/\o.ExactDict/\o.data= .dict es ep/\es.toList=xs.map (entryOfKey (mO P w))/\(xs.map (·.1)).Nodup
 | .set S n=>h.SetOf (intKind P w) a S n
 | .ins C dx fs=>H dx=some (.own a)/\fs.length<=1000/\dx≠a/\h.get? a=some (PySem.W.instObj C dx)/\
   ∃mA,h.Ns1 dx mA/\(∀f,qW (fs.lookup f) (mA f))/\PySem.Within mA (fs.map (·.1))
 | .own _=>∃o,h.get? a=some o
 | .xd fs=>∃mA,h.Ns1 a mA/\∀f,qW (fs.lookup f) (mA f)
 | .oU lo hi=>∃t u v,h.get? a=some {cls:=.type "range",data:=.fields #[.int lo t,.int hi u,.int 1 v]}
 | .kL o u=>h.get? a=some o/\eY H h a u
 | .RX ps=>h.get? a=some {cls:=.none,data:=.fields ps}
 | .met f x=>h.get? a=some (PySem.W.methodObj (.ref f) (.ref x))
 | .ext φ=>φ h/\(∃o,h.get? a=some o)/\∀h1 h2:Heap,φ h1->(∀o,h1.get? a=some o->h2.get? a=some o)->φ h2
def oN (H:Hp) (h:Heap):Prop:=∀a o,H a=some o->eY P w H h a o
end
section
variable {P:Program}{w:World}{H H':Hp}{h h':Heap}{a:Addr}{o:HO}
def eY.lt (x:eY P w H h a o):a < h.objs.size:=by
 cases o with
 | lst xs=>obtain⟨_,_,_,_,e⟩:=x;exact aaF e
 | tup xs=>obtain⟨_,_,_,p⟩:=x;exact p.lt
 | dK kvs=>obtain⟨_,_,_,_,o,_,_,e,_⟩:=x;exact aaF e
 | dT kvs=>obtain⟨_,_,_,_,o,_,_,e,_⟩:=x;exact aaF e
 | set S n=>obtain⟨o,_,_,_,e,_⟩:=x;exact aaF e
 | ins C dx fs=>obtain⟨_,_,_,e,_⟩:=x;exact aaF e
 | own y=>obtain⟨_,e⟩:=x;exact aaF e
 | xd fs=>obtain⟨_,⟨_,_,_,e,_⟩,_⟩:=x;exact aaF e
 | oU lo hi=>obtain⟨_,_,_,e⟩:=x;exact aaF e
 | kL ob u=>obtain⟨e,_⟩:=x;exact aaF e
 | RX ps=>exact aaF (show h.get? a=some _ from x)
 | met f y=>exact aaF (show h.get? a=some _ from x)
 | ext φ=>obtain⟨_,⟨_,e⟩,_⟩:=x;exact aaF e
theorem Paired.HH {α β:Type}{F G:α->β->Prop}:∀{l₁:List α}{l₂:List β},Paired F l₁ l₂->(∀a b,F a b->G a b)->Paired G l₁ l₂
 | _,_,.nil,_=>.nil
 | _,_,.cons r t,f=>.cons (f _ _ r) (Paired.HH t f)
def eY.stay (x:eY P w H h a o) (k:∀b u,(b=a\/H b=some (.own a))->h.get? b=some u->h'.get? b=some u)
  (ho:∀b,H b=some (.own a)->H' b=some (.own a)) (ht:∀b xs,H b=some (.tup xs)->H' b=some (.tup xs)):eY P w H' h' a o:=by
 induction o with
 | lst xs=>obtain⟨z,its,n,r,e⟩:=x;exact⟨z,its,n,r,k _ _ (.inl rfl) e⟩
 | tup xs=>obtain⟨z,its,r,ob,e,c⟩:=x;exact⟨z,its,r,ob,k _ _ (.inl rfl) e,c⟩
 | dK kvs=>obtain⟨z,y,vs,r,ob,es,ep,e,c⟩:=x;exact⟨z,y,vs,r,ob,es,ep,k _ _ (.inl rfl) e,c⟩
 | dT kvs=>
  obtain⟨z,y,xs,r,ob,es,ep,e,c⟩:=x
  exact⟨z,y,xs,Paired.HH r fun p q z=>⟨z.1,z.2.1.tups ht,z.2.2⟩,ob,es,ep,k _ _ (.inl rfl) e,c⟩
 | set S n=>obtain⟨ob,es,ep,t,e,c⟩:=x;exact⟨ob,es,ep,t,k _ _ (.inl rfl) e,c⟩
 | ins C dx fs=>
  obtain⟨d,z,ne,e,mA,⟨od,es,ep,e2,c⟩,r⟩:=x
  exact⟨ho _ d,z,ne,k _ _ (.inl rfl) e,mA,⟨od,es,ep,k _ _ (.inr d) e2,c⟩,r⟩
 | own y=>obtain⟨ob,e⟩:=x;exact⟨ob,k _ _ (.inl rfl) e⟩
 | xd fs=>obtain⟨mA,⟨od,es,ep,e,c⟩,r⟩:=x;exact⟨mA,⟨od,es,ep,k _ _ (.inl rfl) e,c⟩,r⟩
 | oU lo hi=>obtain⟨t,u,v,e⟩:=x;exact⟨t,u,v,k _ _ (.inl rfl) e⟩
 | kL ob u ih=>obtain⟨e,q⟩:=x;exact⟨k _ _ (.inl rfl) e,ih q⟩
 | RX ps=>
  have e:h.get? a=some {cls:=.none,data:=.fields ps}:=x
  show h'.get? a=some {cls:=.none,data:=.fields ps}
  exact k a _ (.inl rfl) e
 | met f y=>
  have e:h.get? a=some (PySem.W.methodObj (.ref f) (.ref y)):=x
  show h'.get? a=some (PySem.W.methodObj (.ref f) (.ref y))
  exact k a _ (.inl rfl) e
 | ext φ=>obtain⟨p,⟨o,e⟩,st⟩:=x;exact⟨st _ _ p fun o q=>k _ _ (.inl rfl) q,⟨o,k _ _ (.inl rfl) e⟩,st⟩
def oN.lt (x:oN P w H h) (e:H a=some o):a < h.objs.size:=(x a o e).lt
def oN.fresh (x:oN P w H h) (e:h.objs.size<=a):H a=none:=by
 cases q:H a with
 | none=>rfl
 | some u=>exact absurd (aaM (x.lt q) e) (acM _)
def oN.kept (x:oN P w H h) (k:∀b u,h.get? b=some u->h'.get? b=some u):oN P w H h':=fun a o e=>
 (x a o e).stay (fun b u c q=>k b u q) (fun c q=>q) fun c c q=>q
def oN.laid (x:oN P w H h) (k:∀b u,h.get? b=some u->h'.get? b=some u) (hp:h.objs.size<=a) (new:eY P w (upd H a o) h' a o):oN P w (upd H a o) h':=fun b u e=>by
 have hn:=x.fresh hp
 by_cases hb:b=a
 ·subst hb;rw[bq] at e;cases e;exact new
 ·rw[bf hb] at e
  exact(x b u e).stay (fun c v d q=>k c v q) (fun c q=>by rw[bf (bK q hn)];exact q) fun c xs q=>by rw[bf (bK q hn)];exact q
end
def Rd (H:Hp) (a:Addr) (u:HO):Prop:=H a=some u\/∃o,H a=some (.kL o u)
def Rd.of {u:HO}(h:H a=some u):Rd H a u:=.inl h
def Rd.ok {h:Heap}{u:HO}(r:Rd H a u) (x:oN P w H h):eY P w H h a u:=by
 rcases r with r | ⟨o,r⟩
 ·exact x a u r
 ·obtain⟨_,q⟩:=x a _ r
  exact q
def Ws:Option HO->Prop
 | some (.lst _)=>True
 | some (.dK _)=>True
 | some (.dT _)=>True
 | some (.set _ _)=>True
 | some (.ins _ _ _)=>True
 | some (.ext _)=>True
 | _=>False
section
variable {P:Program}{w:World}{H:Hp}{h h':Heap}{x e:Addr}{o':HO}
def oN.write (ok:oN P w H h) (mu:Ws (H x)) (he:e=x\/H e=some (.own x)) (k:∀b u,b≠e->h.get? b=some u->h'.get? b=some u) (VM:∃u,h'.get? e=some u)
  (new:eY P w (upd H x o') h' x o'):oN P w (upd H x o') h':=fun b u q=>by
 have Wt:∀c y,H c=some (.own y)->c≠x:=fun c y r z=>by subst z;rw[r] at mu;exact mu
 have Z0:∀c xs,H c=some (.tup xs)->c≠x:=fun c xs r z=>by subst z;rw[r] at mu;exact mu
 by_cases hb:b=x
 ·subst hb;rw[bq] at q;cases q;exact new
 ·rw[bf hb] at q
  by_cases RY:b=e
  ·have q':H b=some (.own x):=by
    rcases he with z | z
    ·exact absurd (RY.trans z) hb
    ·rw[RY];exact z
   rw[q] at q';cases q'
   obtain⟨v,hv⟩:=VM
   exact⟨v,by rw[RY];exact hv⟩
  ·refine(ok b u q).stay (fun c v hc r=>k c v ?_ r) (fun c r=>by rw[bf (Wt c b r)];exact r) fun c xs r=>by rw[bf (Z0 c xs r)];exact r
   rcases hc with rfl | hc
   ·exact RY
   ·rintro rfl
    rcases he with z | z
    ·exact Wt c b hc z
    ·rw[hc] at z;cases z;exact hb rfl
end
structure Un (fs ex:List Addr) (H H':Hp) (h h':Heap):Prop where
 keep:∀b o,h.get? b=some o->H b=none->b∉fs->b∉ex->h'.get? b=some o
 slot:∀b o,h.get? b=some o->H b=none->b∈fs->b∉ex->∃sl,h'.get? b=some {o with slots:=sl}
 free:∀b o,h.get? b=some o->H b=none->b∉ex->H' b=none
 there:∀b o,h.get? b=some o->b∉ex->∃o',h'.get? b=some o'
 tups:∀b xs,H b=some (.tup xs)->H' b=some (.tup xs)
 zJ:∀b o u,H b=some (.kL o u)->H' b=some (.kL o u)
 Bo:∀b ps,H b=some (.RX ps)->∃more,H' b=some (.RX (ps++more))
section
variable {fs fs' ex ex':List Addr}{H H1 H2:Hp}{h h1 h2 h':Heap}{a x e:Addr}{o:HO}
def Un.any (u:Un fs ex H H1 h h1){b:Addr}{ob:Obj}(q:h.get? b=some ob) (n:H b=none) (hx:b∉ex):∃sl,h1.get? b=some {ob with slots:=sl}:=by
 by_cases hb:b∈fs
 ·exact u.slot b ob q n hb hx
 ·exact⟨ob.slots,u.keep b ob q n hb hx⟩
def Un.kept (k:∀b u,h.get? b=some u->h'.get? b=some u):Un fs ex H H h h':=
 ⟨fun b ob q a a a=>k b ob q,fun b ob q a a a=>⟨ob.slots,k b ob q⟩,fun a a a n a=>n,fun b ob q a=>⟨ob,k b ob q⟩,fun a a q=>q,fun a a a q=>q,fun a ps q=>⟨#[],by rw[q];simp⟩⟩
def Un.refl:Un fs ex H H h h:=Un.kept fun a a q=>q
def Un.laid (k:∀b u,h.get? b=some u->h'.get? b=some u) (hp:h.objs.size<=a) (hn:H a=none):Un fs ex H (upd H a o) h h' where
 keep:=fun b u q c c c=>k b u q
 slot:=fun b u q c c c=>⟨u.slots,k b u q⟩
 free:=fun b u q n c=>by rw[bf (aaY (aaM (aaF q) hp))];exact n
 there:=fun b u q c=>⟨u,k b u q⟩
 tups:=fun b xs q=>by rw[bf (bK q hn)];exact q
 zJ:=fun b u xs q=>by rw[bf (bK q hn)];exact q
 Bo:=fun b ps q=>⟨#[],by rw[bf (bK q hn),q];simp⟩
def Un.write (mu:Ws (H x)) (he:e=x\/H e=some (.own x)) (k:∀b u,b≠e->h.get? b=some u->h'.get? b=some u) (VM:∃u,h'.get? e=some u):Un fs ex H (upd H x o) h h':=by
 have hx:∀b,H b=none->b≠x:=fun b n z=>by subst z;rw[n] at mu;exact mu
 have hb:∀b,H b=none->b≠e:=fun b n z=>by
  subst z
  rcases he with r | r
  ·exact hx b n r
  ·rw[n] at r;cases r
 have hm:∀b u,H b=some u->¬Ws (some u)->b≠x:=fun b u q nm z=>by subst z;rw[q] at mu;exact nm mu
 refine⟨fun b u q n a a=>k b u (hb b n) q,fun b u q n a a=>⟨u.slots,k b u (hb b n) q⟩,fun b u q n a=>by rw[bf (hx b n)];exact n,fun b u q a=>?_,
  fun b xs q=>by rw[bf (hm b _ q fun z=>z)];exact q,fun b u xs q=>by rw[bf (hm b _ q fun z=>z)];exact q,fun b ps q=>⟨#[],by rw[bf (hm b _ q fun z=>z),q];simp⟩⟩
 by_cases RY:b=e
 ·subst RY;exact VM
 ·exact⟨u,k b u RY q⟩
end
noncomputable def YR (h:Heap) (H:Hp):List Addr:=(List.range h.objs.size).filter fun a=>(H a).isSome
def Bp (h:Heap) (H:Hp):Heap:=PySem.W.hideAll h (YR h H)
def HJ (h:Heap) (H:Hp):(Bp h H).objs.size=h.objs.size:=PySem.W.hideAll_size _ _
def Kg {h:Heap}{b:Addr}(e:h.get? b=some o) (n:H b=none):(Bp h H).get? b=some o:=
 PySem.W.hideAll_get _ e fun hm=>by
  have q:(H b).isSome=true:=(adB.mp hm).2
  rw[n] at q;simp at q
def Oh {h:Heap}{b:Addr}(e:(Bp h H).get? b=some o):h.get? b=some o/\H b=none:=by
 have e':h.get? b=some o:=PySem.W.of_hideAll (YR h H) e
 refine⟨e',?_⟩
 cases q:H b with
 | none=>rfl
 | some x=>
  have hm:b∈YR h H:=adB.mpr ⟨ab8.mpr (aaF e'),by simp[q]⟩
  have z:(Bp h H).get? b=none:=PySem.W.hideAll_none (YR h H) hm
  rw[z] at e;cases e
structure Mod (K:AAD) (mg:AAF) (base:Heap):Prop where
 Wu:K.In base
 glob:base.Ns mainGlobals mg
 blt:∃mb,base.Ns builtinsNs mb/\∀x:Str,x≠"__name__"->mb x=bootBuiltins x
 nolimit:base.NoLimit
structure Cx where
 prog:Program
 w:World
 K:PySem.W.Frag
 mg:Str->Option Value
 base:Heap
 A:Around
 N:List Str
 s₀:Shared
 H₀:Hp
 env:Env
 outer:List Env
 stack:List Env
 ex:List Addr
 fn:Str->Bool
 calm:Bool
 pn:List (Addr×Obj)
 xe:Value->Shared->Prop
noncomputable def frs (l:List Env):List Addr:=l.filterMap (·.frame)
abbrev Cx.fs (X:Cx):List Addr:=frs X.outer
def An (sc:Scope) (x:Str):Prop:=sc.names.lookup x=some .local\/sc.names.lookup x=some .cell\/sc.names.lookup x=some .free
def Loc (sc:Scope) (x:Str):Prop:=sc.names.lookup x=some .local\/sc.names.lookup x=some .cell
def Look (env:Env) (h:Heap) (m:AAF) (x:Str) (u:Value):Prop:=
 (env.kindOf x=some .local/\m x=some u)\/((env.kindOf x=some .cell\/env.kindOf x=some .free)/\∃c,env.cells.lookup x=some c/\h.IsCell c (some u))
structure Cx.Ok (X:Cx):Prop where
 mod:Mod X.K X.mg X.base
 kind:X.env.scope.kind= .function
 glob:X.env.globals=mainGlobals
 blt:X.env.builtins=builtinsNs
 above:X.s₀.heap.objs.size<=X.env.locals
 inj:∀x y c,X.env.cells.lookup x=some c->X.env.cells.lookup y=some c->x=y
 has:∀x,(X.env.kindOf x=some .cell\/X.env.kindOf x=some .free)->∃c,X.env.cells.lookup x=some c
 Wv:∀x c,X.fn x=true->X.env.cells.lookup x=some c->X.s₀.heap.objs.size<=c
 hd:X.calm=true->X.A.handled=none
 frames:X.A.frames=some X.stack
 stk:X.stack=X.outer\/(X.stack=X.env :: X.outer/\X.env.frame=some X.env.locals)
 Z1:∀b∈X.ex,b≠X.env.locals/\∀x c,X.env.cells.lookup x=some c->c≠b
 bs:∀b o,X.base.get? b=some o->X.s₀.heap.get? b=some o/\X.H₀ b=none
 Kh:X.base.objs.size<=X.s₀.heap.objs.size
 HK:∀b o,X.base.get? b=some o->b∉X.ex
 Kl:∀b∈X.ex,b∉X.fs
 wJ:X.s₀.heap.FunFrames X.base X.outer
 RZ:∀b∈X.fs,X.H₀ b=none
structure Inv (X:Cx) (pins:AAG) (σ:List (Option V)) (H:Hp) (s:Shared):Prop where
 ok:X.Ok
 os:s.os=X.s₀.os
 bare:AllBare s.gens
 base:Un X.fs X.ex X.H₀ H X.s₀.heap s.heap
 loc:∃m,s.heap.Ns X.env.locals m/\∀(i:Nat) (x:Str) (v:V),X.N[i]? =some x->σ[i]? =some (some v)->An X.env.scope x->∃u,RelV v u/\Look X.env s.heap m x u
 cell:∀x c,X.env.cells.lookup x=some c->∃v,s.heap.IsCell c v
 free:H X.env.locals=none
 oV:∀x c,X.env.cells.lookup x=some c->H c=none
 pin:∀p∈X.pn++pins,s.heap.get? p.1=some p.2/\H p.1=none/\p.1≠X.env.locals/\p.1∉X.fs/\∀v,p.2.data≠.cell v
 hok:oN X.prog X.w H s.heap
 len:σ.length=X.N.length
section
variable {X:Cx}{pins:AAG}{σ:List (Option V)}{H H':Hp}{s:Shared}{h':Heap}
def Cx.Ok.jV (ok:X.Ok){b:Addr}(e:X.base.get? b=some o):b∉X.fs:=fun hb=>by
 have:=(ok.wJ.mem hb).1
 rw[e] at this;cases this
def Inv.bs (I:Inv X pins σ H s):∀b o,X.base.get? b=some o->s.heap.get? b=some o/\H b=none:=fun b o e=>
 ⟨I.base.keep b o (I.ok.bs b o e).1 (I.ok.bs b o e).2 (I.ok.jV e) (I.ok.HK b o e),I.base.free b o (I.ok.bs b o e).1 (I.ok.bs b o e).2 (I.ok.HK b o e)⟩
def Inv.bk (I:Inv X pins σ H s):∀b o,X.base.get? b=some o->s.heap.get? b=some o:=fun b o e=>(I.bs b o e).1
def Inv.mod (I:Inv X pins σ H s):Mod X.K X.mg X.base:=I.ok.mod
def Inv.xP (I:Inv X pins σ H s):X.K.In s.heap:=I.ok.mod.Wu.keeps I.bk
def Inv.lt (I:Inv X pins σ H s):X.env.locals < s.heap.objs.size:=let⟨_,hn,_⟩:=I.loc;hn.lt
def Inv.sz (I:Inv X pins σ H s):X.s₀.heap.objs.size<=s.heap.objs.size:=aaW I.ok.above (aeH I.lt)
def Inv.Ww (I:Inv X pins σ H s)(h:s.heap.objs.size<=a):a∉X.fs:=fun hb=>by
 obtain⟨_,o,ho,_⟩:=I.ok.wJ.mem hb
 exact absurd (aaM (aaF ho) (aaW I.sz h)) (acM _)
def Inv.R5 (I:Inv X pins σ H s):∀x c,X.env.cells.lookup x=some c->c≠X.env.locals:=fun x c e z=>by
 obtain⟨v,o,ho,hd⟩:=I.cell x c e
 obtain⟨m,⟨o',es,ep,ho',hd',_⟩,_⟩:=I.loc
 rw[z,ho'] at ho;cases ho;rw[hd'] at hd;cases hd
def Inv.wJ (I:Inv X pins σ H s):s.heap.FunFrames X.base X.outer:=by
 have all:∀(l:List Env),(∀b∈frs l,b∈X.fs)->X.s₀.heap.FunFrames X.base l->s.heap.FunFrames X.base l:=by
  intro l
  induction l with
  | nil=>intro _ _;trivial
  | cons env r ih=>
   intro hs hl
   obtain⟨hk,⟨L,o,hf,hn,ho,hd⟩,hr⟩:=hl
   have hL:L∈X.fs:=hs L (by unfold frs;rw[aeT,hf];exact aaR)
   obtain⟨sl,e⟩:=I.base.slot L o ho (I.ok.RZ L hL) hL fun z=>I.ok.Kl L z hL
   exact⟨hk,⟨L,_,hf,hn,e,hd⟩,ih (fun b hb=>hs b (by unfold frs;rw[aeT,hf];exact aaP _ hb)) hr⟩
 exact all X.outer (fun a hb=>hb) I.ok.wJ
def Inv.stack (I:Inv X pins σ H s):s.heap.FunFrames X.base X.stack:=by
 rcases I.ok.stk with e | ⟨e,hf⟩
 ·rw[e];exact I.wJ
 ·rw[e]
  obtain⟨m,hn,_⟩:=I.loc
  refine .cons (by rw[I.ok.kind];decide) hf hn ?_ I.wJ
  exact Heap.get?_none_of_le (aaW I.ok.Kh I.ok.above)
def Inv.xQ (I:Inv X pins σ H s):∀b∈frs X.stack,b∈X.env.locals :: X.fs:=fun b hb=>by
 rcases I.ok.stk with e | ⟨e,hf⟩
 ·rw[e] at hb;exact aaP _ hb
 ·rw[e] at hb
  unfold frs at hb
  rw[aeT,hf] at hb
  exact hb
def Inv.Bq (I:Inv X pins σ H s):∀b∈frs X.stack,H b=none:=fun b hb=>by
 rcases aaA.mp (I.xQ b hb) with e | hb
 ·rw[e];exact I.free
 ·obtain⟨_,o,ho,_⟩:=I.ok.wJ.mem hb
  exact I.base.free b o ho (I.ok.RZ b hb) fun z=>I.ok.Kl b z hb
def Inv.step {d':Drawn}(I:Inv X pins σ H s)
  (hch:∀b∈ch,(b∈X.ex\/X.s₀.heap.objs.size<=b)/\b≠X.env.locals/\(∀x c,X.env.cells.lookup x=some c->c≠b)/\∀p∈X.pn++pins,p.1≠b)
  (keep:∀b o,b≠X.env.locals->b∉X.fs->b∉ch->s.heap.get? b=some o->H b=none->h'.get? b=some o)
  (slot:∀b o,b≠X.env.locals->b∈X.fs->b∉ch->s.heap.get? b=some o->H b=none->∃sl,h'.get? b=some {o with slots:=sl}) (free:∀b o,b∉ch->s.heap.get? b=some o->H b=none->H' b=none)
  (there:∀b o,b∉ch->s.heap.get? b=some o->∃o',h'.get? b=some o')
  (tups:∀b xs,H b=some (.tup xs)->H' b=some (.tup xs)) (zJ:∀b o u,H b=some (.kL o u)->H' b=some (.kL o u)) (Bo:∀b ps,H b=some (.RX ps)->∃more,H' b=some (.RX (ps++more)))
  (ns:∀m,s.heap.Ns X.env.locals m->h'.Ns X.env.locals m) (hok:oN X.prog X.w H' h') (hg:AllBare g'):
  Inv X pins σ H' {s with heap:=h',gens:=g',drawn:=d',toks:=t'}:=by
 have neL:∀b o,X.s₀.heap.get? b=some o->b≠X.env.locals:=fun b o e=>aaY (aaM (aaF e) I.ok.above)
 have YS:∀b o,X.s₀.heap.get? b=some o->b∉X.ex->b∉ch:=fun b o e hx hb=>by
  rcases(hch b hb).1 with z | z
  ·exact hx z
  ·exact absurd (aaM (aaF e) z) (acM _)
 have cellK:∀x c,X.env.cells.lookup x=some c->∀v,s.heap.IsCell c v->h'.IsCell c v:=fun x c e v ⟨o,ho,hd⟩=>by
  have Wx:c∉ch:=fun z=>(hch c z).2.2.1 x c e rfl
  by_cases hc:c∈X.fs
  ·obtain⟨sl,q⟩:=slot c o (I.R5 x c e) hc Wx ho (I.oV x c e)
   exact⟨_,q,hd⟩
  ·exact⟨o,keep c o (I.R5 x c e) hc Wx ho (I.oV x c e),hd⟩
 refine⟨I.ok,I.os,hg,⟨fun b o e n hb hx=>?_,fun b o e n hb hx=>?_,fun b o e n hx=>?_,fun b o e hx=>?_,fun b xs e=>tups b xs (I.base.tups b xs e),fun b o xs e=>zJ b o xs (I.base.zJ b o xs e),fun b ps e=>?_⟩,?_,fun x c e=>?_,?_,fun x c e=>?_,fun p hp=>?_,hok,I.len⟩
 ·exact keep b o (neL b o e) hb (YS b o e hx) (I.base.keep b o e n hb hx) (I.base.free b o e n hx)
 ·obtain⟨sl,e1⟩:=I.base.slot b o e n hb hx
  obtain⟨sl',e2⟩:=slot b _ (neL b o e) hb (YS b o e hx) e1 (I.base.free b o e n hx)
  exact⟨sl',e2⟩
 ·obtain⟨o',e1⟩:=I.base.there b o e hx
  exact free b o' (YS b o e hx) e1 (I.base.free b o e n hx)
 ·obtain⟨o',e1⟩:=I.base.there b o e hx
  exact there b o' (YS b o e hx) e1
 ·obtain⟨m1,e1⟩:=I.base.Bo b ps e
  obtain⟨m2,e2⟩:=Bo b _ e1
  exact⟨m1++m2,by rw[e2,Array.append_assoc]⟩
 ·obtain⟨m,hn,hl⟩:=I.loc
  refine⟨m,ns m hn,fun i x v e1 e2 e3=>?_⟩
  obtain⟨u,r,l⟩:=hl i x v e1 e2 e3
  refine⟨u,r,?_⟩
  rcases l with l | ⟨k,c,e,z⟩
  ·exact .inl l
  ·exact .inr ⟨k,c,e,cellK x c e _ z⟩
 ·obtain⟨v,z⟩:=I.cell x c e
  exact⟨v,cellK x c e v z⟩
 ·obtain⟨m,⟨o,_,_,ho,_⟩,_⟩:=I.loc
  exact free _ o (fun z=>(hch _ z).2.1 rfl) ho I.free
 ·obtain⟨v,o,ho,hd⟩:=I.cell x c e
  exact free c o (fun z=>(hch c z).2.2.1 x c e rfl) ho (I.oV x c e)
 ·obtain⟨e,n,ne,nf,d⟩:=I.pin p hp
  have Wx:p.1∉ch:=fun z=>(hch p.1 z).2.2.2 p hp rfl
  exact⟨keep p.1 p.2 ne nf Wx e n,free p.1 p.2 Wx e n,ne,nf,d⟩
def Inv.un (I:Inv X pins σ H s) (u:Un X.fs [] H H' s.heap h') (hok:oN X.prog X.w H' h'):Inv X pins σ H' {s with heap:=h',toks:=t'}:=by
 obtain⟨m,⟨o,es,ep,ho,r⟩,_⟩:=id I.loc
 obtain⟨sl,hL⟩:=u.any ho I.free (by simp)
 exact I.step (g':=s.gens) (d':=s.drawn) (ch:=[]) (fun a z=>nomatch z) (fun b o a hb a e n=>u.keep b o e n hb (by simp)) (fun b o a hb a e n=>u.slot b o e n hb (by simp)) (fun b o a e n=>u.free b o e n (by simp)) (fun b o a e=>u.there b o e (by simp)) u.tups u.zJ u.Bo (fun m' hm=>by
  obtain⟨o',es',Z2,ho',r'⟩:=hm
  rw[ho] at ho';cases ho'
  exact⟨_,es',Z2,hL,r'⟩) hok I.bare
def Inv.call {d':Drawn}(I:Inv X pins σ H s) (u:Un (frs X.stack) ch H H' s.heap h') (hok:oN X.prog X.w H' h') (hg:AllBare g')
  (hch:∀b∈ch,(b∈X.ex\/X.s₀.heap.objs.size<=b)/\b≠X.env.locals/\(∀x c,X.env.cells.lookup x=some c->c≠b)/\∀p∈X.pn++pins,p.1≠b):
  Inv X pins σ H' {s with heap:=h',gens:=g',drawn:=d',toks:=t'}:=by
 obtain⟨m,⟨o,es,ep,ho,r⟩,_⟩:=id I.loc
 obtain⟨sl,hL⟩:=u.any ho I.free fun z=>(hch _ z).2.1 rfl
 exact I.step (ch:=ch) hch (fun b o hL hb hc e n=>u.keep b o e n (fun z=>(aaA.mp (I.xQ b z)).elim hL hb) hc) (fun b o a a hc e n=>u.any e n hc) (fun b o hc e n=>u.free b o e n hc) (fun b o hc e=>u.there b o e hc) u.tups u.zJ u.Bo (fun m' hm=>by
  obtain⟨o',es',Z2,ho',r'⟩:=hm
  rw[ho] at ho';cases ho'
  exact⟨_,es',Z2,hL,r'⟩) hok hg
def Inv.turned {it:Addr}(I:Inv X pins σ H s) (k:∀b o,b≠it->s.heap.get? b=some o->h'.get? b=some o) (hn:H it=none) (hL:it≠X.env.locals)
  (h1:it∈X.ex\/X.s₀.heap.objs.size<=it) (h2:∀x c,X.env.cells.lookup x=some c->c≠it) (h3:∀p∈X.pn++pins,p.1≠it):Inv X pins σ H {s with heap:=h',toks:=t'}:=by
 have Wy:∀b u,H b=some u->b≠it:=fun b u e z=>by rw[z,hn] at e;cases e
 refine I.step (g':=s.gens) (d':=s.drawn) (ch:=[it]) (fun b hb=>?_) (fun b o a a hc e a=>k b o (fun z=>hc (by simp[z])) e) (fun b o a a hc e a=>⟨o.slots,k b o (fun z=>hc (by simp[z])) e⟩) (fun a a a a n=>n)
  (fun b o hc e=>⟨o,k b o (fun z=>hc (by simp[z])) e⟩) (fun a a e=>e) (fun a a a e=>e) (fun b ps e=>⟨#[],by rw[e];simp⟩) (fun m hm=>?_) (fun b u e=>?_) I.bare
 ·have e:b=it:=by simpa using hb
  subst e
  exact⟨h1,hL,h2,h3⟩
 ·obtain⟨o,es,ep,ho,r⟩:=hm
  exact⟨o,es,ep,k _ o (ac2 hL) ho,r⟩
 ·refine(I.hok b u e).stay (fun c v hc q=>k c v ?_ q) (fun a q=>q) fun a a q=>q
  rcases hc with z | z
  ·rw[z];exact Wy b u e
  ·exact Wy c _ z
def Inv.tok (I:Inv X pins σ H s) (t:Nat):Inv X pins σ H {s with toks:=t}:=I.un (h':=s.heap) (t':=t) Un.refl I.hok
def Inv.kept {t':Nat}(I:Inv X pins σ H s) (k:∀b u,s.heap.get? b=some u->h'.get? b=some u):Inv X pins σ H {s with heap:=h',toks:=t'}:=I.un (Un.kept k) (I.hok.kept k)
def Inv.laid {a:Addr}{o:HO}{t':Nat}(I:Inv X pins σ H s) (k:∀b u,s.heap.get? b=some u->h'.get? b=some u) (hp:s.heap.objs.size<=a) (new:eY X.prog X.w (upd H a o) h' a o):
  Inv X pins σ (upd H a o) {s with heap:=h',toks:=t'}:=I.un (Un.laid k hp (I.hok.fresh hp)) (I.hok.laid k hp new)
def Inv.write {x e:Addr}{o:HO}{t':Nat}(I:Inv X pins σ H s) (mu:Ws (H x)) (he:e=x\/H e=some (.own x)) (k:∀b u,b≠e->s.heap.get? b=some u->h'.get? b=some u) (VM:∃u,h'.get? e=some u)
  (new:eY X.prog X.w (upd H x o) h' x o):Inv X pins σ (upd H x o) {s with heap:=h',toks:=t'}:=I.un (Un.write mu he k VM) (I.hok.write mu he k VM new)
def Inv.Gk {Rh:AAG}(I:Inv X pins σ H s) (h:∀p∈Rh,s.heap.get? p.1=some p.2/\H p.1=none/\p.1≠X.env.locals/\p.1∉X.fs/\∀v,p.2.data≠.cell v):Inv X Rh σ H s:=
 ⟨I.ok,I.os,I.bare,I.base,I.loc,I.cell,I.free,I.oV,fun p hp=>(aaX.mp hp).elim (fun z=>I.pin p (adH _ z)) (h p),I.hok,I.len⟩
def CJ (hN:N.Nodup){j:Nat}(a:N[i]? =some x) (b:N[j]? =some x):i=j:=by
 obtain⟨h1,e1⟩:=aaG.mp a
 obtain⟨h2,e2⟩:=aaG.mp b
 exact(List.getElem_inj hN).mp (e1.trans e2.symm)
def uI {v:V}{Q:Unit->Shared->Prop}(I:Inv X pins σ H s) (hN:X.N.Nodup) (hi:X.N[i]? =some x) (hx:Loc X.env.scope x) (r:RelV v u)
  (h:∀s',Inv X pins (σ.set i (some v)) H s'->(∃a,Heap.SameBut a s.heap s'.heap/\(a=X.env.locals\/X.env.cells.lookup x=some a))->Q () s') (hf:X.fn x=true\/X.env.scope.names.lookup x=some .local:=by first | exact .inl rfl | exact .inr rfl | assumption):wpAny M A (storeName X.env x u) Q E s:=by
 obtain⟨m,hn,hl⟩:=id I.loc
 have hcls:(X.env.scope.kind == .class || (X.env.scope.kind == .module && X.env.locals != X.env.globals))=false:=by rw[I.ok.kind];rfl
 have Wz:i < σ.length:=by rw[I.len];exact(aaG.mp hi).1
 have R5:=I.R5
 have tracked:∀{a:Addr}{h':Heap},(∃o,s.heap.get? a=some o/\H a=none)->Heap.SameBut a s.heap h'->oN X.prog X.w H h':=fun {a h'} ha hs b ob e=>by
  obtain⟨_,_,hfree⟩:=ha
  refine(I.hok b ob e).stay (fun c w' hc q=>(hs.2 c ?_).trans q) (fun f q=>q) fun f f q=>q
  rintro rfl
  rcases hc with rfl | hc
  ·rw[hfree] at e;cases e
  ·rw[hfree] at hc;cases hc
 rcases hx with hk | hk
 ·refine wpAny_storeName_local hk hn (fun h' hn' hs=>?_) hcls
  obtain⟨oL,_,_,hoL,_⟩:=id hn
  refine h _ ⟨I.ok,I.os,I.bare,⟨fun b o e n hb hx=>?_,fun b o e n hb hx=>?_,I.base.free,fun b o e hx=>?_,I.base.tups,I.base.zJ,I.base.Bo⟩,⟨_,hn',fun j y v' e1 e2 e3=>?_⟩,fun y c e=>?_,I.free,I.oV,fun p hp=>?_,tracked ⟨oL,hoL,I.free⟩ hs,by simpa using I.len⟩ ⟨_,hs,.inl rfl⟩
  ·exact(hs.2 b (aaY (aaM (aaF e) I.ok.above))).trans (I.base.keep b o e n hb hx)
  ·obtain⟨sl,e1⟩:=I.base.slot b o e n hb hx
   exact⟨sl,(hs.2 b (aaY (aaM (aaF e) I.ok.above))).trans e1⟩
  ·obtain⟨o',e1⟩:=I.base.there b o e hx
   exact⟨o',(hs.2 b (aaY (aaM (aaF e) I.ok.above))).trans e1⟩
  ·by_cases hj:j=i
   ·subst hj
    rw[hi] at e1;cases e1
    rw[acI Wz] at e2
    cases e2
    exact⟨u,r,.inl ⟨hk,by simp⟩⟩
   ·rw[ab2 (ac2 hj)] at e2
    obtain⟨u',r',q⟩:=hl j y v' e1 e2 e3
    refine⟨u',r',?_⟩
    rcases q with⟨k,e⟩ | ⟨k,c,e,z⟩
    ·refine .inl ⟨k,?_⟩
     have:y≠x:=fun e=>hj (CJ hN e1 (e▸hi))
     simp[this,e]
    ·exact .inr ⟨k,c,e,z.sameBut hs (R5 y c e)⟩
  ·obtain⟨w',z⟩:=I.cell y c e
   exact⟨w',z.sameBut hs (R5 y c e)⟩
  ·obtain⟨e,n,ne,nf,d⟩:=I.pin p hp
   exact⟨(hs.2 p.1 ne).trans e,n,ne,nf,d⟩
 ·have hfn:X.fn x=true:=by
   rcases hf with z | z
   ·exact z
   ·rw[z] at hk;cases hk
  obtain⟨c,hc⟩:=I.ok.has x (.inl hk)
  obtain⟨w',z⟩:=I.cell x c hc
  refine wpAny_storeName_cell I.ok.kind hk hc z (fun h' hc' hs=>?_)
  obtain⟨oc,hoc,Z3⟩:=id z
  refine h {s with heap:=h'} ⟨I.ok,I.os,I.bare,⟨fun b o e n hb hx=>?_,fun b o e n hb hx=>?_,I.base.free,fun b o e hx=>?_,I.base.tups,I.base.zJ,I.base.Bo⟩,⟨m,hn.sameBut hs (ac2 (R5 x c hc)),fun j y v' e1 e2 e3=>?_⟩,fun y c' e=>?_,I.free,I.oV,fun p hp=>?_,tracked ⟨oc,hoc,I.oV x c hc⟩ hs,by simpa using I.len⟩ ⟨c,hs,.inr hc⟩
  ·exact(hs.2 b (aaY (aaM (aaF e) (I.ok.Wv x c hfn hc)))).trans (I.base.keep b o e n hb hx)
  ·obtain⟨sl,e1⟩:=I.base.slot b o e n hb hx
   exact⟨sl,(hs.2 b (aaY (aaM (aaF e) (I.ok.Wv x c hfn hc)))).trans e1⟩
  ·obtain⟨o',e1⟩:=I.base.there b o e hx
   exact⟨o',(hs.2 b (aaY (aaM (aaF e) (I.ok.Wv x c hfn hc)))).trans e1⟩
  ·by_cases hj:j=i
   ·subst hj
    rw[hi] at e1;cases e1
    rw[acI Wz] at e2
    cases e2
    exact⟨u,r,.inr ⟨.inl hk,c,hc,hc'⟩⟩
   ·rw[ab2 (ac2 hj)] at e2
    obtain⟨u',r',q⟩:=hl j y v' e1 e2 e3
    refine⟨u',r',?_⟩
    rcases q with q | ⟨k,c',e,z'⟩
    ·exact .inl q
    ·refine .inr ⟨k,c',e,z'.sameBut hs ?_⟩
     rintro rfl
     exact hj (CJ hN e1 (I.ok.inj _ _ _ e hc▸hi))
  ·by_cases hcc:c'=c
   ·subst hcc;exact⟨_,hc'⟩
   ·obtain⟨w2,z2⟩:=I.cell y c' e
    exact⟨w2,z2.sameBut hs hcc⟩
  ·obtain⟨e,n,ne,nf,d⟩:=I.pin p hp
   refine⟨(hs.2 p.1 ?_).trans e,n,ne,nf,d⟩
   intro q
   rw[q,hoc] at e
   have q':oc=p.2:=aa0 e
   exact d w' (by rw[<-q'];exact Z3)
def CK {v:V}{Q:Unit->Shared->Prop}(I:Inv X pins σ H s) (hN:X.N.Nodup) (hi:X.N[i]? =some x) (hx:Loc X.env.scope x) (r:RelV v u)
  (h:∀s',Inv X pins (σ.set i (some v)) H s'->Q () s') (hf:X.fn x=true\/X.env.scope.names.lookup x=some .local:=by first | exact .inl rfl | exact .inr rfl | assumption):wpAny M A (storeName X.env x u) Q E s:=
 uI I hN hi hx r (fun s' I' a=>h s' I') hf
def Inv.WA {s':Shared}(I:Inv X pins σ H s) (ho:s'.os=s.os) (u:Un (frs X.stack) ch H H' s.heap s'.heap) (hok:oN X.prog X.w H' s'.heap) (hg:AllBare s'.gens)
  (hch:∀b∈ch,(b∈X.ex\/X.s₀.heap.objs.size<=b)/\b≠X.env.locals/\(∀x c,X.env.cells.lookup x=some c->c≠b)/\∀p∈X.pn++pins,p.1≠b):Inv X pins σ H' s':=by
 obtain⟨h',g',d',t',o'⟩:=s'
 have e:o'=s.os:=ho
 subst e
 exact I.call (g':=g') (t':=t') (d':=d') u hok hg hch
end
abbrev XK:=Value->Option Addr->Hp->Prop
abbrev St:=List (Option V)
abbrev VK:=V->Hp->Prop
abbrev TE:=St->Hp->VK->Prop
abbrev TT:=St->Hp->(Bool->Hp->Prop)->Prop
abbrev TA:=St->Hp->(List V->Hp->Prop)->Prop
structure Ends where
 nx:St->Hp->Prop
 rt:VK
 bk:St->Hp->Prop:=fun a a=>False
 ct:St->Hp->Prop:=fun a a=>False
abbrev TS:=Ends->St->Hp->Prop
inductive EP (X:Cx) (pins:AAG) (σ:St) (Q:VK) (u:Value) (s':Shared):Prop
 | mk (v:V) (H':Hp) (I:Inv X pins σ H' s') (r:RelV v u) (q:Q v H')
def TP (X:Cx) (pins:AAG) (σ:St) (Q:Bool->Hp->Prop) (b:Bool) (s':Shared):Prop:=∃H',Inv X pins σ H' s'/\Q b H'
inductive AP (X:Cx) (pins:AAG) (σ:St) (Q:List V->Hp->Prop) (us:AAL) (s':Shared):Prop
 | mk (vs:List V) (H':Hp) (I:Inv X pins σ H' s') (r:Vals vs us) (q:Q vs H')
def SP (X:Cx) (pins:AAG) (D:Ends) (f:Flow) (s':Shared):Prop:=
 match f with
 | .next=>∃σ' H',Inv X pins σ' H' s'/\D.nx σ' H'
 | .brk=>∃σ' H',Inv X pins σ' H' s'/\D.bk σ' H'
 | .cont=>∃σ' H',Inv X pins σ' H' s'/\D.ct σ' H'
 | .ret u=>∃v σ' H',Inv X pins σ' H' s'/\RelV v u/\D.rt v H'
def PE (X:Cx) (e:Expr) (t:TE):Prop:=
 ∀(pins:AAG) (s:Shared) (σ:St) (H:Hp) (Q:VK),Inv X pins σ H s->t σ H Q->wpAny (model X.prog X.w) X.A (eval e X.env) (EP X pins σ Q) X.xe s
def PT (X:Cx) (e:Expr) (t:TT):Prop:=
 ∀(pins:AAG) (s:Shared) (σ:St) (H:Hp) (Q:Bool->Hp->Prop),Inv X pins σ H s->t σ H Q->wpAny (model X.prog X.w) X.A (isTrue e X.env (eval e X.env)) (TP X pins σ Q) X.xe s
def PW (X:Cx) (e:Expr) (t:TT):Prop:=
 ∀(whole:Sem Value) (pins:AAG) (s:Shared) (σ:St) (H:Hp) (Q:Bool->Hp->Prop),Inv X pins σ H s->t σ H Q->wpAny (model X.prog X.w) X.A (isTrue e X.env whole) (TP X pins σ Q) X.xe s
def PW.pt {e:Expr}{t:TT}(h:PW X e t):PT X e t:=h _
def PA (X:Cx) (es:List Expr) (t:TA):Prop:=
 ∀(pos:Pos) (pins:AAG) (s:Shared) (σ:St) (H:Hp) (Q:List V->Hp->Prop),Inv X pins σ H s->t σ H Q->wpAny (model X.prog X.w) X.A (spliced (backTo pos (starEach es X.env))) (AP X pins σ Q) X.xe s
def PS (X:Cx) (st:Stmt) (t:TS):Prop:=
 ∀(pins:AAG) (s:Shared) (σ:St) (H:Hp) (D:Ends),Inv X pins σ H s->t D σ H->wpAny (model X.prog X.w) X.A (exec st X.env) (SP X pins D) X.xe s
def Em (X:Cx) (st:List Stmt) (t:TS):Prop:=
 ∀(pins:AAG) (s:Shared) (σ:St) (H:Hp) (D:Ends),Inv X pins σ H s->t D σ H->wpAny (model X.prog X.w) X.A (execs st X.env) (SP X pins D) X.xe s
def eB {α:Type}{t:Sem α}{Q Q':α->Shared->Prop}{s:Shared}(h:wpAny M A t Q E s) (hQ:∀a s,Q a s->Q' a s):wpAny M A t Q' E s:=acL h hQ fun b b x=>x
section
variable {X:Cx}
def Oi (i:Nat):TE:=fun σ H Q=>∃v,σ[i]? =some (some v)/\Q v H
def tC (v:V):TE:=fun a H Q=>Q v H
def gw (hN:X.N[i]? =some x) (hv:An X.env.scope x) (hd:(x == ("__debug__":Str))=false:=by decide) (hcd:(x == ("__classdict__":Str))=false:=by decide):PE X (.Name x pos) (Oi i):=by
 intro pins s σ H Q I h
 obtain⟨v,e,h⟩:=h
 obtain⟨m,hn,hl⟩:=I.loc
 obtain⟨u,r,l⟩:=hl i x v hN e hv
 have fin:EP X pins σ Q u s:=⟨v,H,I,r,h⟩
 rcases l with⟨hk,hm⟩ | ⟨hk,c,hc,hcell⟩
 ·exact wpAny_Name (wpAny_loadName_local I.ok.kind hk hn hm fin) hd
 ·rcases hk with hk | hk
  ·exact wpAny_Name (wpAny_loadName_cell I.ok.kind hk hc hcell fin) hd
  ·exact wpAny_Name (wpAny_loadName_free I.ok.kind hk hc hcell fin hcd) hd
def R6 {i j pos}:PE X (.Constant (.int i) j pos) (tC (.int i)):=fun a a a H a I h=>wpAny_Constant_int ⟨.int i,H,I.tok _,⟨_,rfl⟩,h⟩
def WB {b j pos}:PE X (.Constant (.bool b) j pos) (tC (.bl b)):=fun a a a H a I h=>Constant_bool ⟨.bl b,H,I,rfl,h⟩
def Km {x j pos}:PE X (.Constant (.str x) j pos) (tC (.str x)):=fun a a a H a I h=>Calls.Constant_str ⟨.str x,H,I.tok _,⟨_,rfl⟩,h⟩
def Gl (X:Cx) (x:Str):Prop:=X.env.kindOf x=some .globalImplicit
def xq {s:Shared}(I:Inv X pins σ H s) (hg:Gl X x) (hm:X.mg x=some u) (h:Q u s)
  (hd:(x == ("__debug__":Str))=false:=by decide):wpAny (model X.prog X.w) X.A (eval (.Name x pos) X.env) Q E s:=
 Calls.Name_function_global I.ok.kind hg (Calls.loadGlobal_global (by rw[I.ok.glob];exact I.mod.glob.keeps I.bk) hm h) hd
def nA {s:Shared}(I:Inv X pins σ H s) (hg:Gl X x) (hm:X.mg x=none) (hv:bootBuiltins x=some u) (h:Q u s)
  (hn:x≠"__name__":=by decide) (hd:(x == ("__debug__":Str))=false:=by decide):wpAny (model X.prog X.w) X.A (eval (.Name x pos) X.env) Q E s:=by
 obtain⟨mb,h1,h2⟩:=I.mod.blt
 exact Calls.Name_function_global I.ok.kind hg (Calls.loadGlobal_builtin (by rw[I.ok.glob];exact I.mod.glob.keeps I.bk) hm (by rw[I.ok.blt];exact h1.keeps I.bk) ((h2 x hn).trans hv) h) hd
def qx {v:V}(hg:Gl X x) (hm:X.mg x=some u) (r:RelV v u) (hd:(x == ("__debug__":Str))=false:=by decide):PE X (.Name x pos) (tC v):=
 fun a a a H a I h=>xq I hg hm ⟨v,H,I,r,h⟩ hd
def Oj {v:V}(hg:Gl X x) (hm:X.mg x=none) (hv:bootBuiltins x=some u) (r:RelV v u) (hn:x≠"__name__":=by decide) (hd:(x == ("__debug__":Str))=false:=by decide):PE X (.Name x pos) (tC v):=
 fun a a a H a I h=>nA I hg hm hv ⟨v,H,I,r,h⟩ hn hd
variable {a b:Expr}{ta tb:TE}{pos:Pos}
def PC (X:Cx) (op:CmpOp) (a b:Expr) (t:TE):Prop:=
 ∀(pins:AAG) (s:Shared) (σ:St) (H:Hp) (Q:VK),Inv X pins σ H s->t σ H Q->
  wpAny (model X.prog X.w) X.A (eval a X.env) (fun v s₁=>wpAny (model X.prog X.w) X.A (eval b X.env) (fun u s₂=>wpAny (model X.prog X.w) X.A (compareOp op v u) (EP X pins σ Q) X.xe s₂) X.xe s₁) X.xe s
def CL (b:Expr)(h:op≠.In) (h2:op≠.NotIn):behindInMarks op b=false:=by
 have e1:(op == CmpOp.In)=false:=by cases op <;> first | rfl | exact absurd rfl h
 have e2:(op == CmpOp.NotIn)=false:=by cases op <;> first | rfl | exact absurd rfl h2
 cases b <;> simp[behindInMarks,e1,e2]
def tB (t:TE):TT:=fun σ H Q=>t σ H fun x H1=>∃c,x= .bl c/\Q c H1
def R7 {t:TE}(h:PC X op a b t) (h1:behindInMarks op b=false:=by first | exact CL _ (by decide) (by decide) | rfl):PE X (.Compare a [op] [b] pos) t:=fun pins s σ H Q I hw=>wpAny_Compare1 (h pins s σ H Q I hw) h1
def Ko {t:TE}(h:PC X op a b t) (h1:behindInMarks op b=false:=by first | exact CL _ (by decide) (by decide) | rfl):PT X (.Compare a [op] [b] pos) (tB t):=by
 intro pins s σ H Q I hw
 refine wpAny_isTrue_Compare1 (eB (h pins s σ H _ I hw) fun v s1 h1=>eB h1 fun u s2 h2=>eB h2 fun c s3 hh=>?_) h1
 obtain⟨x,H1,I1,r1,q1⟩:=hh
 obtain⟨d,rfl,q⟩:=q1
 cases r1
 exact acY ⟨H1,I1,q⟩
def R8 {e:Expr}{t:TE}(h:PE X e t) (he:∀whole,isTrue e X.env whole=(do let v <-whole;standAt e.pos;holding [v] (truthy v)):=by intro _;rfl):PT X e (tB t):=by
 intro pins s σ H Q I hw
 refine isTrue_plain (eB (h pins s σ H _ I hw) fun v s1 hh=>?_) (he _)
 obtain⟨x,H1,I1,r1,q1⟩:=hh
 obtain⟨d,rfl,q⟩:=q1
 cases r1
 exact acY ⟨H1,I1,q⟩
variable {tA YT:TT}{rest:List Expr}
def Z4 (t u:TT):TT:=fun σ H Q=>t σ H fun c H1=>if c=true then u σ H1 Q else Q false H1
def tOr (t u:TT):TT:=fun σ H Q=>t σ H fun c H1=>if c=true then Q true H1 else u σ H1 Q
def Z5 (t:TT):TT:=fun σ H Q=>t σ H fun c H1=>Q (!c) H1
def pw_and1 (ha:PT X a tA):PW X (.BoolOp .And [a] pos) tA:=by
 intro wh pins s σ H Q I h
 refine isTrue_and (eB (ha pins s σ H Q I h) fun c s1 e=>?_)
 cases c with
 | true=>exact isTrue_and_nil e
 | false=>exact e
def pw_or1 (ha:PT X a tA):PW X (.BoolOp .Or [a] pos) tA:=by
 intro wh pins s σ H Q I h
 refine isTrue_or (eB (ha pins s σ H Q I h) fun c s1 e=>?_)
 cases c with
 | false=>exact isTrue_or_nil e
 | true=>exact e
def pw_and (ha:PT X a tA) (hb:PW X (.BoolOp .And (b :: rest) pos) YT):PW X (.BoolOp .And (a :: b :: rest) pos) (Z4 tA YT):=by
 intro wh pins s σ H Q I h
 refine isTrue_and (eB (ha pins s σ H _ I h) fun c s1 hh=>?_)
 obtain⟨H1,I1,q1⟩:=hh
 cases c with
 | true=>exact hb wh pins s1 σ H1 Q I1 q1
 | false=>exact⟨H1,I1,q1⟩
def pw_or (ha:PT X a tA) (hb:PW X (.BoolOp .Or (b :: rest) pos) YT):PW X (.BoolOp .Or (a :: b :: rest) pos) (tOr tA YT):=by
 intro wh pins s σ H Q I h
 refine isTrue_or (eB (ha pins s σ H _ I h) fun c s1 hh=>?_)
 obtain⟨H1,I1,q1⟩:=hh
 cases c with
 | true=>exact⟨H1,I1,q1⟩
 | false=>exact hb wh pins s1 σ H1 Q I1 q1
def R9 (ha:PT X a tA):PT X (.UnaryOp .Not a pos) (Z5 tA):=by
 intro pins s σ H Q I h
 exact isTrue_not (ha pins s σ H (fun c H1=>Q (!c) H1) I h)
def WC (ta tb:TE):TE:=fun σ H Q=>ta σ H fun x H1=>∃c,x= .bl c/\if c=true then tb σ H1 Q else Q (.bl false) H1
def Z6 (ta tb:TE):TE:=fun σ H Q=>ta σ H fun x H1=>∃c,x= .bl c/\if c=true then Q (.bl true) H1 else tb σ H1 Q
def WD (ta:TE):TE:=fun σ H Q=>ta σ H fun x H1=>∃c,x= .bl c/\Q (.bl (!c)) H1
def Se {op}{t:TE}(h:PE X a t):PE X (.BoolOp op [a] pos) t:=fun pins s σ H Q I hw=>BoolOp_one (h pins s σ H Q I hw)
def Sg (ha:PE X a ta) (hb:PE X (.BoolOp .And (b :: rest) pos) tb):PE X (.BoolOp .And (a :: b :: rest) pos) (WC ta tb):=by
 intro pins s σ H Q I h
 refine BoolOp_and (eB (ha pins s σ H _ I h) fun v s1 hh=>?_)
 obtain⟨x,H1,I1,r1,q1⟩:=hh
 obtain⟨c,rfl,q1⟩:=q1
 cases r1
 refine acY ?_
 cases c with
 | true=>exact hb pins s1 σ H1 Q I1 q1
 | false=>exact⟨.bl false,H1,I1,rfl,q1⟩
def WE (ha:PE X a ta) (hb:PE X (.BoolOp .Or (b :: rest) pos) tb):PE X (.BoolOp .Or (a :: b :: rest) pos) (Z6 ta tb):=by
 intro pins s σ H Q I h
 refine BoolOp_or (eB (ha pins s σ H _ I h) fun v s1 hh=>?_)
 obtain⟨x,H1,I1,r1,q1⟩:=hh
 obtain⟨c,rfl,q1⟩:=q1
 cases r1
 refine acY ?_
 cases c with
 | false=>exact hb pins s1 σ H1 Q I1 q1
 | true=>exact⟨.bl true,H1,I1,rfl,q1⟩
def Si (ha:PE X a ta):PE X (.UnaryOp .Not a pos) (WD ta):=by
 intro pins s σ H Q I h
 refine UnaryOp_ (eB (ha pins s σ H _ I h) fun v s1 hh=>?_)
 obtain⟨x,H1,I1,r1,q1⟩:=hh
 obtain⟨c,rfl,q1⟩:=q1
 cases r1
 exact not_of (acY ⟨.bl (!c),H1,I1,rfl,q1⟩)
def tIf (t:TT) (ta tb:TE):TE:=fun σ H Q=>t σ H fun c H1=>if c=true then ta σ H1 Q else tb σ H1 Q
def Kp {c:Expr}(hc:PT X c tA) (ha:PE X a ta) (hb:PE X b tb):PE X (.IfExp c a b pos) (tIf tA ta tb):=by
 intro pins s σ H Q I h
 refine wpAny_IfExp (eB (hc pins s σ H _ I h) fun d s1 hh=>?_)
 obtain⟨H1,I1,q1⟩:=hh
 cases d with
 | true=>exact ha pins s1 σ H1 Q I1 q1
 | false=>exact hb pins s1 σ H1 Q I1 q1
end
def oO (K:AAD) (H:Hp) (a:Addr) (xs:List V):Prop:=
 Rd H a (.lst xs)\/
  ∃(o:Obj) (its:AAK) (n:Nat),K.lookup a=some o/\o.cls= .type "list"/\o.dict=none/\o.data= .seq its n/\its.size<=sizeLine/\Vals xs its.toList
def Ao (K:AAD) (H:Hp) (a:Addr) (xs:List V):Prop:=
 Rd H a (.tup xs)\/
  ∃(o:Obj) (its:AAK) (n:Nat),K.lookup a=some o/\o.cls= .type "tuple"/\o.data= .seq its n/\its.size<=sizeLine/\Vals xs its.toList
noncomputable def Z7:Value->Option V
 | .none=>some .cU
 | .bool b=>some (.bl b)
 | .int i _=>some (.int i)
 | .str x _=>some (.str x)
 | .bytes b _=>some (.YQ b)
 | .float b _=>some (.flt b)
 | .ref a=>some (.ref a)
 | .type n=>some (.ty n)
 | _=>none
def RelV.abs {x:V}(r:RelV x u):Z7 u=some x:=by
 cases x with
 | cU=>cases r;rfl
 | bl _=>cases r;rfl
 | int _=>obtain⟨t,rfl⟩:=r;rfl
 | str _=>obtain⟨t,rfl⟩:=r;rfl
 | YQ _=>obtain⟨t,rfl⟩:=r;rfl
 | flt _=>obtain⟨t,rfl⟩:=r;rfl
 | ref _=>cases r;rfl
 | ty _=>cases r;rfl
def RelV.inj {x y:V}{u:Value}(r:RelV x u) (q:RelV y u):x=y:=aa0 (r.abs.symm.trans q.abs)
theorem Vals.inj:∀{xs ys:List V}{us:AAL},Vals xs us->Vals ys us->xs=ys
 | _,_,_,.nil,.nil=>rfl
 | _,_,_,.cons r t,.cons r' t'=>by rw[r.inj r',Vals.inj t t']
section
variable {X:Cx}{pins:AAG}{σ:St}{H:Hp}{s:Shared}{a:Addr}{xs ys:List V}
def oO.of (h:H a=some (.lst xs)):oO K H a xs:=.inl (.inl h)
def Inv.list (I:Inv X pins σ H s) (h:oO X.K H a xs):∃its:List Value,Vals xs its/\PlainL s.heap a its.toArray/\xs.length<=sizeLine:=by
 rcases h with h | ⟨o,its,n,hk,hc,hd,hs,hz,r⟩
 ·obtain⟨z,its,n,r,e⟩:=h.ok I.hok
  exact⟨its,r,⟨_,n,e,rfl,rfl,rfl⟩,z⟩
 ·refine⟨its.toList,r,⟨o,n,I.xP a o hk,hc,hd,by simpa using hs⟩,?_⟩
  have e:=r.length
  simp only[aeU] at e
  omega
def Inv.tuple (I:Inv X pins σ H s) (h:Ao X.K H a xs):∃its:List Value,Vals xs its/\IsTup s.heap a its.toArray/\xs.length<=sizeLine:=by
 rcases h with h | ⟨o,its,n,hk,hc,hs,hz,r⟩
 ·obtain⟨z,its,r,p⟩:=h.ok I.hok
  exact⟨its,r,p,z⟩
 ·refine⟨its.toList,r,⟨o,I.xP a o hk,hc,n,by simpa using hs⟩,?_⟩
  have e:=r.length
  simp only[aeU] at e
  omega
def Inv.xR (I:Inv X pins σ H s) (h:oO X.K H a xs) (h':oO X.K H a ys):xs=ys:=by
 obtain⟨its,r,⟨o,n,e,_,_,d⟩,_⟩:=I.list h
 obtain⟨its',r',⟨o',n',e',_,_,d'⟩,_⟩:=I.list h'
 rw[e] at e';cases e'
 rw[d] at d'
 injection d' with d1 _
 have:its=its':=by simpa using congrArg Array.toList d1
 subst this
 exact r.inj r'
def Inv.Aq (I:Inv X pins σ H s) (h:Ao X.K H a xs) (h':Ao X.K H a ys):xs=ys:=by
 obtain⟨its,r,⟨o,e,_,n,d⟩,_⟩:=I.tuple h
 obtain⟨its',r',⟨o',e',_,n',d'⟩,_⟩:=I.tuple h'
 rw[e] at e';cases e'
 rw[d] at d'
 injection d' with d1 _
 have:its=its':=by simpa using congrArg Array.toList d1
 subst this
 exact r.inj r'
end
noncomputable abbrev Cx.zK (X:Cx) (E:AAE):Cx:={X with xe:=E}
noncomputable abbrev Cx.Sk (X:Cx):Cx:=X.zK fun a a=>False
def Cx.Ok.zK {X:Cx}(ok:X.Ok) (E:AAE):(X.zK E).Ok:=
 ⟨ok.mod,ok.kind,ok.glob,ok.blt,ok.above,ok.inj,ok.has,ok.Wv,ok.hd,ok.frames,ok.stk,ok.Z1,ok.bs,ok.Kh,ok.HK,ok.Kl,ok.wJ,ok.RZ⟩
def Cx.Ok.oW (ok:(X.zK E).Ok):X.Ok:=
 ⟨ok.mod,ok.kind,ok.glob,ok.blt,ok.above,ok.inj,ok.has,ok.Wv,ok.hd,ok.frames,ok.stk,ok.Z1,ok.bs,ok.Kh,ok.HK,ok.Kl,ok.wJ,ok.RZ⟩
section
variable {X:Cx}{pins:AAG}{σ:St}{H:Hp}{s:Shared}{E:AAE}
def Inv.zK (I:Inv X pins σ H s) (E:AAE):Inv (X.zK E) pins σ H s:=⟨I.ok.zK E,I.os,I.bare,I.base,I.loc,I.cell,I.free,I.oV,I.pin,I.hok,I.len⟩
def Inv.oW (I:Inv (X.zK E) pins σ H s):Inv X pins σ H s:=⟨I.ok.oW,I.os,I.bare,I.base,I.loc,I.cell,I.free,I.oV,I.pin,I.hok,I.len⟩
def SP.oW {D:Ends}{f:Flow}{s':Shared}(h:SP (X.zK E) pins D f s'):SP X pins D f s':=by
 cases f with
 | next=>obtain⟨σ',H',I,q⟩:=h;exact⟨σ',H',I.oW,q⟩
 | brk=>obtain⟨σ',H',I,q⟩:=h;exact⟨σ',H',I.oW,q⟩
 | cont=>obtain⟨σ',H',I,q⟩:=h;exact⟨σ',H',I.oW,q⟩
 | ret u=>obtain⟨v,σ',H',I,r,q⟩:=h;exact⟨v,σ',H',I.oW,r,q⟩
def Em.Sk {st:List Stmt}{t:TS}(h:Em X.Sk st t):Em X st t:=fun pins s σ H D I hw=>
 acL (h pins s σ H D (I.zK _) hw) (fun a a q=>q.oW) fun a a z=>False.elim z
end
section
variable {X:Cx}{st:Stmt}{rest:List Stmt}{t u:TS}{e:Expr}{te:TE}{pos:Pos}
def WG:TS:=fun D σ H=>D.nx σ H
def Z8 (t u:TS):TS:=fun D σ H=>t {D with nx:=u D} σ H
def Ol:Em X [] WG:=fun _ _ σ H _ I h=>wpAny_execs_nil ⟨σ,H,I,h⟩
def Kq (h1:PS X st t) (h2:Em X rest u):Em X (st :: rest) (Z8 t u):=by
 intro pins s σ H D I h
 refine wpAny_execs_cons (eB (h1 pins s σ H {D with nx:=u D} I h) fun f s1 q=>?_)
 cases f with
 | next=>
  obtain⟨σ',H',I',q⟩:=q
  exact h2 pins s1 σ' H' D I' q
 | ret v=>exact q
 | brk=>exact q
 | cont=>exact q
def Om (h1:PS X st t):Em X [st] t:=by
 intro pins s σ H D I h
 refine wpAny_execs_cons (eB (h1 pins s σ H D I h) fun f s1 q=>?_)
 cases f with
 | next=>exact wpAny_execs_nil q
 | ret v=>exact q
 | brk=>exact q
 | cont=>exact q
def Inv.quiet {s:Shared}(I:Inv X pins σ H s):interactive X.env=false:=by simp[interactive,I.ok.kind]
def WH (te:TE):TS:=fun D σ H=>te σ H fun a H1=>D.nx σ H1
def Oo (he:PE X e te) (hs:swapsWith e none pos.line X.env=pure false:=by rfl):PS X (.Expr e pos) (WH te):=by
 intro pins s σ H D I h
 exact wpAny_Expr_any (eB (he pins s σ H _ I h) fun v s1 ⟨x,H1,I1,r1,q1⟩=>⟨σ,H1,I1,q1⟩) I.quiet hs
def Z9 (te:TE):TS:=fun D σ H=>te σ H D.rt
def Sl (he:PE X e te):PS X (.Return (some e) pos) (Z9 te):=by
 intro pins s σ H D I h
 exact wpAny_Return_some (eB (he pins s σ H _ I h) fun v s1 ⟨x,H1,I1,r1,q1⟩=>⟨x,σ,H1,I1,r1,q1⟩)
def aaa (c:TT) (t u:TS):TS:=fun D σ H=>c σ H fun b H1=>if b=true then t D σ H1 else u D σ H1
def WI {c:Expr}{a b:List Stmt}{tc:TT}(hc:PT X c tc) (ha:Em X a t) (hb:Em X b u):PS X (.If c a b pos) (aaa tc t u):=by
 intro pins s σ H D I h
 refine wpAny_If (eB (hc pins s σ H _ I h) fun d s1 hh=>?_)
 obtain⟨H1,I1,q1⟩:=hh
 cases d with
 | true=>exact ha pins s1 σ H1 D I1 q1
 | false=>exact hb pins s1 σ H1 D I1 q1
end
abbrev TG:=V->St->Hp->(St->Hp->Prop)->Prop
abbrev Ri:=List V->St->Hp->(St->Hp->Prop)->Prop
def PG (X:Cx) (target:Expr) (t:TG):Prop:=
 ∀(pins:AAG) (s:Shared) (σ:St) (H:Hp) (v:V) (u:Value) (Q:St->Hp->Prop),Inv X pins σ H s->RelV v u->t v σ H Q->
  wpAny (model X.prog X.w) X.A (assign target X.env u) (fun a s'=>∃σ' H',Inv X pins σ' H' s'/\Q σ' H') X.xe s
def Rj (X:Cx) (ts:List Expr) (t:Ri):Prop:=
 ∀(pins:AAG) (s:Shared) (σ:St) (H:Hp) (vs:List V) (us:AAL) (Q:St->Hp->Prop),Inv X pins σ H s->Vals vs us->t vs σ H Q->
  wpAny (model X.prog X.w) X.A (assignInOrder ((assignEach ts X.env).map (·.2)) us) (fun a s'=>∃σ' H',Inv X pins σ' H' s'/\Q σ' H') X.xe s
abbrev Sm:=V->V->V->Hp->(Hp->Prop)->Prop
def WJ (X:Cx) (t:Sm):Prop:=
 ∀(pins:AAG) (s:Shared) (σ:St) (H:Hp) (o i v:V) (ov iv u:Value) (Q:Hp->Prop),Inv X pins σ H s->RelV o ov->RelV i iv->RelV v u->t o i v H Q->
  wpAny (model X.prog X.w) X.A (setItem ov iv u) (fun a s'=>∃H',Inv X pins σ H' s'/\Q H') X.xe s
section
variable {X:Cx}{pos:Pos}
def Ar (i:Nat):TG:=fun v σ H Q=>Q (σ.set i (some v)) H
def xr (hN:X.N.Nodup) (hi:X.N[i]? =some x) (hx:Loc X.env.scope x) (hf:X.fn x=true\/X.env.scope.names.lookup x=some .local:=by first | exact .inl rfl | exact .inr rfl | assumption):PG X (.Name x pos) (Ar i):=by
 intro pins s σ H v u Q I r h
 exact afp (CK I hN hi hx r (fun s' I'=>⟨_,H,I',h⟩) hf)
noncomputable def aab:Ri:=fun vs σ H Q=>vs=[]/\Q σ H
noncomputable def WK (t:TG) (u:Ri):Ri:=fun vs σ H Q=>∃v r,vs=v :: r/\t v σ H fun σ' H'=>u r σ' H' Q
def Gm:Rj X [] aab:=by
 intro pins s σ H vs us Q I r h
 obtain⟨e,h⟩:=h
 subst e
 cases r
 exact assignInOrder_nil ⟨σ,H,I,h⟩
def xS {e:Expr}{t:TG}{u:Ri}(h1:PG X e t) (h2:Rj X es u)
  (hs:(assignEach (e :: es) X.env).map (·.2)=assign e X.env :: (assignEach es X.env).map (·.2):=by rfl):Rj X (e :: es) (WK t u):=by
 intro pins s σ H vs us Q I r h
 obtain⟨v,vr,e1,h⟩:=h
 subst e1
 cases r with
 | cons r rr=>
  rw[hs]
  refine assignInOrder_cons (eB (h1 pins s σ H _ _ _ I r h) fun a s1 hh=>?_)
  obtain⟨σ1,H1,I1,q1⟩:=hh
  exact h2 pins s1 σ1 H1 _ _ Q I1 rr q1
def aac (K:AAD) (n:Nat) (t:Ri):TG:=fun v σ H Q=>∃a xs,v= .ref a/\Ao K H a xs/\xs.length=n/\t xs σ H Q
def Kr {t:Ri}{n:Nat}(hc:X.calm=true) (h:Rj X es t)
  (hn:(assignEach es X.env).length=n:=by rfl) (hst:(assignEach es X.env).findIdx? (·.1)=none:=by rfl):PG X (.Tuple es k pos) (aac X.K n t):=by
 intro pins s σ H v u Q I r hw
 obtain⟨a,xs,e1,hq,hl,hw⟩:=hw
 subst e1
 cases r
 obtain⟨its,rv,ht,hz⟩:=I.tuple hq
 refine assign_Tuple_tuple (I.ok.hd hc) ht (by simp[hn,<-hl,rv.length]) hst fun h' hx=>?_
 have I1:Inv X pins σ H {s with heap:=h'}:=I.kept (t':=s.toks) fun b o e=>hx b o (aaY (aaF e)) e
 exact h pins _ σ H xs _ Q I1 (by simpa using rv) hw
def aad (to ti:TE) (t:Sm):TG:=fun v σ H Q=>to σ H fun o H1=>ti σ H1 fun i H2=>t o i v H2 fun H3=>Q σ H3
def So {o i:Expr}{to ti:TE}{t:Sm}(ho:PE X o to) (hi:PE X i ti) (hs:WJ X t)
  (ha:∀v,assign (.Subscript o i pos) X.env v=(do
   let ov <-holding [v] (eval o X.env)
   let iv <-holding [v,ov] (eval i X.env)
   standAt pos
   holding [v,ov,iv] (setItem ov iv v)
   release [v,ov,iv] []):=by intro _;rfl):PG X (.Subscript o i pos) (aad to ti t):=by
 intro pins s σ H v u Q I r h
 rw[ha]
 refine aae (acW (eB (ho pins s σ H _ I h) fun ov s1 hh=>?_))
 obtain⟨x,H1,I1,r1,q1⟩:=hh
 refine aae (acW (eB (hi pins s1 σ H1 _ I1 q1) fun iv s2 hh=>?_))
 obtain⟨y,H2,I2,r2,q2⟩:=hh
 refine aae (afl (aae (acW (eB (hs pins s2 σ H2 x y v ov iv u _ I2 r1 r2 r q2) fun a s3 hh=>?_))))
 obtain⟨H3,I3,q3⟩:=hh
 exact wpAny_release ⟨σ,H3,I3,q3⟩
def Ks (te:TE) (g:TG):TS:=fun D σ H=>te σ H fun x H1=>g x σ H1 D.nx
def Ku {e:Expr}{te:TE}{g:TG}(he:PE X e te) (hg:PG X tg g) (hs:swapsWithSole [tg] e pos.line X.env=pure false:=by rfl) (hw:swappedStores [tg] e X.env=pure none:=by rfl)
  (h1:(assignEach [tg] X.env).map (·.2)=[assign tg X.env]:=by rfl):PS X (.Assign [tg] e pos) (Ks te g):=by
 intro pins s σ H D I h
 refine wpAny_Assign_stores (eB (he pins s σ H _ I h) fun v s1 hh=>?_) hs hw
 obtain⟨x,H1,I1,r1,q1⟩:=hh
 rw[h1]
 exact eB (hg pins s1 σ H1 x v _ I1 r1 q1) fun a s2 q=>q
def Su {e:Expr}{te:TE}{pos':Pos}(hN:X.N.Nodup) (hi:X.N[i]? =some x) (hx:Loc X.env.scope x) (he:PE X e te) (hs:swapsWith e (some (.Name x pos')) pos.line X.env=pure false:=by rfl) (hf:X.fn x=true\/X.env.scope.names.lookup x=some .local:=by first | exact .inl rfl | exact .inr rfl | assumption):
  PS X (.Assign [.Name x pos'] e pos) (Ks te (Ar i)):=by
 intro pins s σ H D I h
 refine wpAny_Assign_Name (eB (he pins s σ H _ I h) fun v s1 hh=>?_) hs
 obtain⟨y,H1,I1,r1,q1⟩:=hh
 exact CK I1 hN hi hx r1 (fun s2 I2=>⟨_,H1,I2,q1⟩) hf
end
section
variable {X:Cx}{pos:Pos}
end
structure It where
 go:Nat->Hp->Prop
 Sv:Nat->Hp->V->Hp->Prop
 stop:Nat->Hp->Prop
def l9 (X:Cx) (pins:AAG) (H:Hp) (b:Addr):Prop:=
 H b=none/\b≠X.env.locals/\b∉X.fs/\(b∈X.ex\/X.s₀.heap.objs.size<=b)/\(∀x c,X.env.cells.lookup x=some c->c≠b)/\∀p∈X.pn++pins,p.1≠b
def Inv.Br {s:Shared}{b:Addr}(I:Inv X pins σ H s) (hb:s.heap.objs.size<=b) (hn:H' b=none):l9 X pins H' b:=by
 refine⟨hn,adM (aaM I.lt hb),I.Ww hb,.inr (aaW I.sz hb),fun x c e z=>?_,fun p hp z=>?_⟩
 ·obtain⟨v,q⟩:=I.cell x c e
  exact absurd (aaM q.lt (by rw[z];exact hb)) (acM _)
 ·exact absurd (aaM (aaF (I.pin p hp).1) (by rw[z];exact hb)) (acM _)
structure Turn (P:Program) (w:World) (K:AAD) (tg:Expr) (J:It) (fp:List Addr) (it:Addr) (tn:Nat->Heap->Prop):Prop where
 mem:it∈fp
 obj:∀i h,tn i h->∀b∈fp,∃o,h.get? b=some o/\∀v,o.data≠.cell v
 keep:∀i h h',tn i h->(∀b∈fp,∀o,h.get? b=some o->h'.get? b=some o)->tn i h'
 item:∀(X:Cx),X.prog=P->X.w=w->X.K=K->X.calm=true->∀(i:Nat) (pins:AAG) (s:Shared) (σ:St) (H:Hp) (E:AAE),Inv X pins σ H s->(∀b∈fp,l9 X pins H b)->tn i s.heap->J.go i H->
  wpAny (model P w) X.A (pyNext (.ref it)) (fun r s1=>∃u,r=some u/\
   wpAny (model P w) X.A (letOwnedTupleGo tg (.ref it) u) (fun a s2=>∃x H',Inv X pins σ H' s2/\RelV x u/\J.Sv i H x H'/\tn (i+1) s2.heap/\∀b∈fp,H' b=none) E s1) E s
 done:∀(X:Cx),X.prog=P->X.w=w->X.K=K->X.calm=true->∀(i:Nat) (pins:AAG) (s:Shared) (σ:St) (H:Hp) (E:AAE),Inv X pins σ H s->(∀b∈fp,l9 X pins H b)->tn i s.heap->J.stop i H->
  wpAny (model P w) X.A (pyNext (.ref it)) (fun r s1=>r=none/\Inv X pins σ H s1) E s
 self:∀(A:Around) (i:Nat) (s:Shared) (Q:AAE) (E:AAE),tn i s.heap->Q (.ref it) s->wpAny (model P w) A (pyIter (.ref it)) Q E s
abbrev TI:=St->Hp->(It->Hp->Prop)->Prop
def PIE (X:Cx) (pins:AAG) (σ:St) (tg:Expr) (R:It->Hp->Prop) (itv:Value) (s2:Shared):Prop:=
 ∃(it:Addr) (fp:List Addr) (tn:Nat->Heap->Prop) (J:It) (H':Hp),itv= .ref it/\Inv X pins σ H' s2/\Turn X.prog X.w X.K tg J fp it tn/\tn 0 s2.heap/\(∀b∈fp,l9 X pins H' b)/\R J H'
def PI (X:Cx) (tg iter:Expr) (wi:TI):Prop:=
 ∀(pins:AAG) (s:Shared) (σ:St) (H:Hp) (R:It->Hp->Prop),Inv X pins σ H s->wi σ H R->
  wpAny (model X.prog X.w) X.A (eval iter X.env) (fun v s1=>wpAny (model X.prog X.w) X.A (pyIter v) (PIE X pins σ tg R) X.xe s1) X.xe s
def Gn {s:Shared}{it:Addr}{n:String}{vs:AAK}{Q:Unit->Shared->Prop}(ho:s.heap.get? it=some o) (hc:o.cls= .type n) (hd:o.data= .fields vs)
    (hn:["enumerate","zip","dict_itemiterator","dict_reverseitemiterator","odict_iterator","itertools.zip_longest","itertools.pairwise"].contains n=false) (hQ:Q () s):wpAny M A (letOwnedTupleGo tg (.ref it) u) Q E s:=by
  unfold letOwnedTupleGo
  cases tg <;> first
    | exact aag hQ
    | (cases u <;> first
        | exact aag hQ
        | (refine aae (wpAny_load ho ?_)
           rw[hc,hd]
           show wpAny M A (if(["enumerate","zip","dict_itemiterator","dict_reverseitemiterator","odict_iterator","itertools.zip_longest","itertools.pairwise"].contains n && vs[0]? == some (rawInt _))=true then _ else _) Q E s
           rw[if_neg (by intro h;rw[hn,ae7] at h;cases h)]
           exact aag hQ))
noncomputable def Itl (K:AAD) (a:Addr):It:=
 ⟨fun i H=>∃xs x,oO K H a xs/\xs[i]? =some x,fun i H x H'=>H'=H/\∀xs,oO K H a xs->xs[i]? =some x,fun i H=>∃xs,oO K H a xs/\xs.length<=i⟩
noncomputable def Itt (K:AAD) (a:Addr):It:=
 ⟨fun i H=>∃xs x,Ao K H a xs/\xs[i]? =some x,fun i H x H'=>H'=H/\∀xs,Ao K H a xs->xs[i]? =some x,fun i H=>∃xs,Ao K H a xs/\xs.length<=i⟩
noncomputable def YU (lo:Int) (n:Nat):It:=⟨fun i a=>i < n,fun i H x H'=>H'=H/\x= .int (lo+i),fun i a=>n<=i⟩
def HL (a it:Addr):Turn P w K tg (Itl K a) [it] it (fun i h=>h.IsListIter it a i) where
 mem:=by simp
 obj:=fun i h st b hb=>by
  have e:b=it:=by simpa using hb
  subst e
  obtain⟨o,e,c,d⟩:=st
  exact⟨o,e,fun v z=>by rw[d] at z;cases z⟩
 keep:=fun i h h' st k=>st.at fun o e=>k it (by simp) o e
 item:=by
  intro X hP hw hK hc i pins s σ H E I hf st hg
  subst hP hw hK
  obtain⟨xs,x,hq,hx⟩:=hg
  obtain⟨its,rv,p,hz⟩:=I.list hq
  obtain⟨u,hu,ru⟩:=rv.get hx
  obtain⟨f0,f1,f2,f3,f4,f5⟩:=hf it (by simp)
  refine wpAny_pyNext_list_item st p.isList (x:=u) (by simpa using hu) fun h' st' sb=>?_
  have I1:Inv X pins σ H {s with heap:=h'}:=I.turned (t':=s.toks) (fun b o hb e=>(sb.2 b hb).trans e) f0 f1 f3 f4 f5
  obtain⟨o,e,c,d⟩:=id st'
  exact⟨u,rfl,Gn (s:={s with heap:=h'}) e c d (by decide) ⟨x,H,I1,ru,⟨rfl,fun ys hy=>by rw[I.xR hy hq];exact hx⟩,st',fun b hb=>(hf b hb).1⟩⟩
 done:=by
  intro X hP hw hK hc i pins s σ H E I hf st hg
  subst hP hw hK
  obtain⟨xs,hq,hx⟩:=hg
  obtain⟨its,rv,p,hz⟩:=I.list hq
  obtain⟨f0,f1,f2,f3,f4,f5⟩:=hf it (by simp)
  have hl:=rv.length
  exact wpAny_pyNext_list_end (I.ok.hd hc) st p.isList (by simp;omega) fun h' eb=>⟨rfl,I.turned (t':=s.toks) (fun b o hb e=>eb b o hb e) f0 f1 f3 f4 f5⟩
 self:=fun f f f f f st h=>wpAny_pyIter_listiter st h
def Ey (a it:Addr):Turn P w K tg (Itt K a) [it] it (fun i h=>h.IsTupleIter it a i) where
 mem:=by simp
 obj:=fun i h st b hb=>by
  have e:b=it:=by simpa using hb
  subst e
  obtain⟨o,e,c,d⟩:=st
  exact⟨o,e,fun v z=>by rw[d] at z;cases z⟩
 keep:=fun i h h' st k=>st.at fun o e=>k it (by simp) o e
 item:=by
  intro X hP hw hK hc i pins s σ H E I hf st hg
  subst hP hw hK
  obtain⟨xs,x,hq,hx⟩:=hg
  obtain⟨its,rv,p,hz⟩:=I.tuple hq
  obtain⟨u,hu,ru⟩:=rv.get hx
  obtain⟨f0,f1,f2,f3,f4,f5⟩:=hf it (by simp)
  refine wpAny_pyNext_tuple_item st (show s.heap.IsTuple a its.toArray from p) (x:=u) (by simpa using hu) fun h' st' sb=>?_
  have I1:Inv X pins σ H {s with heap:=h'}:=I.turned (t':=s.toks) (fun b o hb e=>(sb.2 b hb).trans e) f0 f1 f3 f4 f5
  obtain⟨o,e,c,d⟩:=id st'
  exact⟨u,rfl,Gn (s:={s with heap:=h'}) e c d (by decide) ⟨x,H,I1,ru,⟨rfl,fun ys hy=>by rw[I.Aq hy hq];exact hx⟩,st',fun b hb=>(hf b hb).1⟩⟩
 done:=by
  intro X hP hw hK hc i pins s σ H E I hf st hg
  subst hP hw hK
  obtain⟨xs,hq,hx⟩:=hg
  obtain⟨its,rv,p,hz⟩:=I.tuple hq
  obtain⟨f0,f1,f2,f3,f4,f5⟩:=hf it (by simp)
  have hl:=rv.length
  exact wpAny_pyNext_tuple_end (I.ok.hd hc) st (show s.heap.IsTuple a its.toArray from p) (by simp;omega) fun h' eb=>⟨rfl,I.turned (t':=s.toks) (fun b o hb e=>eb b o hb e) f0 f1 f3 f4 f5⟩
 self:=fun f f f f f st h=>wpAny_pyIter_tupleiter st h
def Ez (it:Addr) (lo:Int) (n:Nat):Turn P w K tg (YU lo n) [it] it (fun i h=>IsRangeIter h it (lo+(i:Nat) * 1) ((n:Int) - (i:Nat)) 1) where
 mem:=by simp
 obj:=fun i h st b hb=>by
  have e:b=it:=by simpa using hb
  subst e
  exact⟨_,st,fun v z=>by
   have z':Data.fields _=Data.cell v:=z
   cases z'⟩
 keep:=fun i h h' st k=>k it (by simp) _ st
 item:=by
  intro X hP hw hK hc i pins s σ H E I hf st hg
  subst hP hw hK
  obtain⟨f0,f1,f2,f3,f4,f5⟩:=hf it (by simp)
  have W:=Walks.range (prog:=X.prog) (w:=X.w) (I.ok.hd hc) it lo 1 n
  refine W.item i s _ _ hg st fun v h' tk hv st' kk=>?_
  obtain⟨t,rfl⟩:=hv
  have I1:Inv X pins σ H {s with heap:=h',toks:=tk}:=I.turned (fun b o hb e=>kk b o (by simpa using hb) e) f0 f1 f3 f4 f5
  refine⟨_,rfl,Gn (s:={s with heap:=h',toks:=tk}) (n:="range_iterator") st' rfl rfl (by decide) ⟨.int (lo+i),H,I1,⟨t,?_⟩,⟨rfl,rfl⟩,st',fun b hb=>(hf b hb).1⟩⟩
  rw[Int.mul_one]
 done:=by
  intro X hP hw hK hc i pins s σ H E I hf st hg
  subst hP hw hK
  obtain⟨f0,f1,f2,f3,f4,f5⟩:=hf it (by simp)
  exact wpAny_pyNext_range_end (I.ok.hd hc) st (by have:n<=i:=hg;omega) fun h' eb=>⟨rfl,I.turned (t':=s.toks) (fun b o hb e=>eb b o hb e) f0 f1 f3 f4 f5⟩
 self:=fun a a a a a st h=>wpAny_pyIter_rangeiter st h
section
variable {X:Cx}{tg:Expr}
def WL (K:AAD) (tl:TE):TI:=fun σ H R=>tl σ H fun x H1=>∃a,x= .ref a/\(∃xs,oO K H1 a xs)/\R (Itl K a) H1
def aah (K:AAD) (tl:TE):TI:=fun σ H R=>tl σ H fun x H1=>∃a,x= .ref a/\(∃xs,Ao K H1 a xs)/\R (Itt K a) H1
def Gp {l:Expr}{tl:TE}(hl:PE X l tl):PI X tg l (WL X.K tl):=by
 intro pins s σ H R I h
 refine eB (hl pins s σ H _ I h) fun v s1 hh=>?_
 obtain⟨x,H1,I1,r1,q1⟩:=hh
 obtain⟨a,e,⟨xs,hq⟩,q⟩:=q1
 subst e
 cases r1
 obtain⟨its,rv,p,hz⟩:=I1.list hq
 refine aer p.isList ?_
 refine⟨s1.heap.objs.size,[s1.heap.objs.size],_,_,H1,rfl,I1.kept (t':=s1.toks) fun b o e=>aaf _ e,HL a _,⟨_,aaJ _ rfl,rfl,rfl⟩,fun b hb=>?_,q⟩
 have e:b=s1.heap.objs.size:=by simpa using hb
 subst e
 exact I1.Br (aaC _) (I1.hok.fresh (aaC _))
def Kv {l:Expr}{tl:TE}(hl:PE X l tl):PI X tg l (aah X.K tl):=by
 intro pins s σ H R I h
 refine eB (hl pins s σ H _ I h) fun v s1 hh=>?_
 obtain⟨x,H1,I1,r1,q1⟩:=hh
 obtain⟨a,e,⟨xs,hq⟩,q⟩:=q1
 subst e
 cases r1
 obtain⟨its,rv,p,hz⟩:=I1.tuple hq
 refine adP (show s1.heap.IsTuple a its.toArray from p) ?_
 refine⟨s1.heap.objs.size,[s1.heap.objs.size],_,_,H1,rfl,I1.kept (t':=s1.toks) fun b o e=>aaf _ e,Ey a _,⟨_,aaJ _ rfl,rfl,rfl⟩,fun b hb=>?_,q⟩
 have e:b=s1.heap.objs.size:=by simpa using hb
 subst e
 exact I1.Br (aaC _) (I1.hok.fresh (aaC _))
def Kw {s:Shared}{R:It->Hp->Prop}{lo hi:Int}{t u v:Tok}{tk:Nat}(I:Inv X pins σ H s) (h1:-(2 ^ 62)<=lo) (h2:lo < 2 ^ 62) (h3:-(2 ^ 62)<=hi) (h4:hi < 2 ^ 62)
  (q:R (YU lo (hi - lo).toNat) H):wpAny (model X.prog X.w) X.A (pyIter (.ref s.heap.objs.size)) (PIE X pins σ tg R) E {s with heap:=s.heap.push {cls:=.type "range",data:=.fields #[.int lo t,.int hi u,.int 1 v]},toks:=tk}:=by
 refine wpAny_pyIter_range (IsRange.new ..) (small_one h1 h2 h3 h4) ?_
 have I1:Inv X pins σ H {s with heap:=s.heap.push {cls:=.type "range",data:=.fields #[.int lo t,.int hi u,.int 1 v]},toks:=tk}:=I.kept fun b o e=>aaf _ e
 refine⟨(s.heap.push {cls:=.type "range",data:=.fields #[.int lo t,.int hi u,.int 1 v]}).objs.size,[(s.heap.push {cls:=.type "range",data:=.fields #[.int lo t,.int hi u,.int 1 v]}).objs.size],_,_,H,rfl,
  I1.kept (t':=tk) fun b o e=>aaf _ e,Ez _ lo (hi - lo).toNat,?_,fun b hb=>?_,q⟩
 ·have e1:lo+((0:Nat):Int) * 1=lo:=by simp
  have e2:(((hi - lo).toNat:Nat):Int) - ((0:Nat):Int)=Builtin.Range.rangeSize lo hi 1:=by rw[rangeSize_one];split <;> omega
  show IsRangeIter _ _ (lo+((0:Nat):Int) * 1) ((((hi - lo).toNat:Nat):Int) - ((0:Nat):Int)) 1
  rw[e1,e2]
  exact aaJ _ rfl
 ·have e:b=(s.heap.push {cls:=.type "range",data:=.fields #[.int lo t,.int hi u,.int 1 v]}).objs.size:=by simpa using hb
  subst e
  exact I1.Br (aaC _) (I1.hok.fresh (aaC _))
def WM (ta:TA):TI:=fun σ H R=>ta σ H fun vs H1=>∃j:Int,vs=[.int j]/\-(2 ^ 62)<=j/\j < 2 ^ 62/\R (YU 0 j.toNat) H1
def HM {a:Expr}{ta:TA}{p:Pos}(hg:Gl X "range") (hm:X.mg "range" =none) (ha:PA X [a] ta) (hs:starEach [a] X.env=[(false,eval a X.env)]:=by rfl):PI X tg (.Call (.Name "range" p) [a] [] pos) (WM ta):=by
 intro pins s σ H R I h
 refine Call_ (nA I hg hm boot_range (acC (eB (ha pos pins s σ H _ I h) fun us s1 hh=>?_) hs rfl))
 obtain⟨vs,H1,I1,r1,q1⟩:=hh
 obtain⟨j,e,q1,q2,q⟩:=q1
 subst e
 cases r1 with
 | cons r rr=>
  cases rr
  obtain⟨t,rfl⟩:=r
  exact call_range_1 (Kw I1 (by omega) (by omega) q1 q2 (by simpa using q))
def aai (wi:TI) (g:TG) (tb:TS):TS:=fun D σ H=>wi σ H fun J H1=>∃W:Nat->Nat->St->Hp->Prop,(∃m,W 0 m σ H1)/\∀i m σ H,W i m σ H->
 (J.stop i H/\D.nx σ H)\/(J.go i H/\∃N:St->Hp->Prop,(∀σ' H',N σ' H'->∃m',m' < m/\W (i+1) m' σ' H')/\∀x H',J.Sv i H x H'->g x σ H' fun σ2 H2=>tb {D with nx:=N,ct:=N,bk:=D.nx} σ2 H2)
noncomputable def rL (fp:List Addr) (h:Heap):List (Addr×Obj):=fp.filterMap fun b=>(h.get? b).map fun o=>(b,o)
def iR {h:Heap}{b:Addr}(hb:b∈fp) (e:h.get? b=some o):(b,o)∈rL fp h:=List.mem_filterMap.mpr ⟨b,hb,by rw[e];rfl⟩
def As {h:Heap}{p:Addr×Obj}(hp:p∈rL fp h):p.1∈fp/\h.get? p.1=some p.2:=by
 obtain⟨b,hb,e⟩:=List.mem_filterMap.mp hp
 cases q:h.get? b with
 | none=>rw[q] at e;cases e
 | some o=>
  rw[q] at e
  have e':(b,o)=p:=aa0 e
  subst e'
  exact⟨hb,q⟩
def Inv.pinned {s:Shared}(I:Inv X pins σ H s) (hf:∀b∈fp,l9 X pins H b) (ho:∀b∈fp,∃o,s.heap.get? b=some o/\∀v,o.data≠.cell v):Inv X (pins++rL fp s.heap) σ H s:=
 I.Gk fun p hp=>(aaX.mp hp).elim (fun z=>I.pin p (aaS _ z)) fun z=>by
  obtain⟨hb,e⟩:=As z
  obtain⟨f0,f1,f2,_⟩:=hf p.1 hb
  obtain⟨o,e',d⟩:=ho p.1 hb
  rw[e] at e';cases e'
  exact⟨e,f0,f1,f2,d⟩
def Inv.oX {pl:AAG}{s:Shared}(I:Inv X (pins++pl) σ H s):Inv X pins σ H s:=I.Gk fun p hp=>I.pin p (aaS _ (adH _ hp))
def Ky {iter:Expr}{wi:TI}{g:TG}{tb:TS}(hp:PassesOwn (model X.prog X.w) X.A X.env X.xe) (hc:X.calm=true) (hi:PI X tg iter wi) (hg:PG X tg g) (hb:Em X body tb)
  (hs:∀x,foldedSetIterable iter X.env x=pure x:=by intro _;rfl):PS X (.For tg iter body [] pos) (aai wi g tb):=by
 intro pins s σ H D I h
 refine wpAny_For (eB (hi pins s σ H _ I h) fun v s1 h1=>eB h1 fun itv s2 h2=>?_) hs
 obtain⟨it,fp,tn,J,H2,e,I2,T,st2,f2,W,⟨m0,w0⟩,turn⟩:=h2
 subst e
 have Sx:∀{H':Hp},(∀b∈fp,H' b=none)->∀b∈fp,l9 X pins H' b:=fun hn b hb=>⟨hn b hb,(f2 b hb).2⟩
 refine codeAny_forLoop_any (fun n s'=>∃i σ' H',Inv X pins σ' H' s'/\tn i s'.heap/\(∀b∈fp,H' b=none)/\W i n σ' H') ?_ m0 ⟨0,σ,H2,I2,st2,fun b hb=>(f2 b hb).1,w0⟩
 rintro n s3 ⟨i,σ3,H3,I3,st3,fr3,w3⟩
 rcases turn i n σ3 H3 w3 with⟨stop,qn⟩ | ⟨go,N,hN,step⟩
 ·refine aea hp (eB (T.done X rfl rfl rfl hc i pins s3 σ3 H3 X.xe I3 (Sx fr3) st3 stop) fun r s4 hh=>?_)
  obtain⟨hr,I4⟩:=hh
  subst hr
  exact wpAny_execs_nil ⟨σ3,H3,I4,qn⟩
 ·refine aea hp (eB (T.item X rfl rfl rfl hc i pins s3 σ3 H3 X.xe I3 (Sx fr3) st3 go) fun r s4 hh=>?_)
  obtain⟨u,hr,h4⟩:=hh
  subst hr
  refine aea hp (eB h4 fun a s5 hh=>?_)
  obtain⟨x,H5,I5,r5,y5,st5,fr5⟩:=hh
  have I5':=I5.pinned (Sx fr5) (T.obj _ _ st5)
  refine aea hp (eB (hg _ s5 σ3 H5 x u _ I5' r5 (step x H5 y5)) fun a s6 hh=>?_)
  obtain⟨σ6,H6,I6,q6⟩:=hh
  refine aea hp (eB (hb _ s6 σ6 H6 _ I6 q6) fun f s7 q7=>?_)
  have again:∀{Kz:St}{H7:Hp},Inv X (pins++rL fp s5.heap) Kz H7 s7->N Kz H7->∃m,m < n/\∃i σ' H',Inv X pins σ' H' s7/\tn i s7.heap/\(∀b∈fp,H' b=none)/\W i m σ' H':=fun {Kz H7} I7 n7=>by
   obtain⟨m',hm,w7⟩:=hN Kz H7 n7
   refine⟨m',hm,i+1,Kz,H7,I7.oX,T.keep _ _ _ st5 fun b hb o e=>(I7.pin (b,o) (aaS _ (aaS _ (iR hb e)))).1,fun b hb=>?_,w7⟩
   obtain⟨o,e,d⟩:=T.obj _ _ st5 b hb
   exact(I7.pin (b,o) (aaS _ (aaS _ (iR hb e)))).2.1
  cases f with
  | next=>obtain⟨Kz,H7,I7,n7⟩:=q7;exact again I7 n7
  | cont=>obtain⟨Kz,H7,I7,n7⟩:=q7;exact again I7 n7
  | brk=>obtain⟨Kz,H7,I7,q7⟩:=q7;exact⟨Kz,H7,I7.oX,q7⟩
  | ret v=>obtain⟨x7,Kz,H7,I7,r7,q7⟩:=q7;exact⟨x7,Kz,H7,I7.oX,r7,q7⟩
end
abbrev R2:=V->V->Hp->VK->Prop
def zI (X:Cx) (f:Value->Value->Sem Value) (r:R2):Prop:=
 ∀(pins:AAG) (s:Shared) (σ:St) (H:Hp) (x y:V) (v u:Value) (Q:VK),Inv X pins σ H s->RelV x v->RelV y u->r x y H Q->
  wpAny (model X.prog X.w) X.A (f v u) (EP X pins σ Q) X.xe s
def WN (X:Cx) (f:Value->Sem Value) (r:V->Hp->VK->Prop):Prop:=
 ∀(pins:AAG) (s:Shared) (σ:St) (H:Hp) (x:V) (v:Value) (Q:VK),Inv X pins σ H s->RelV x v->r x H Q->
  wpAny (model X.prog X.w) X.A (f v) (EP X pins σ Q) X.xe s
def gJ (X:Cx) (f:Value) (r:List V->Hp->VK->Prop):Prop:=
 ∀(pins:AAG) (s:Shared) (σ:St) (H:Hp) (xs:List V) (us:AAL) (Q:VK),Inv X pins σ H s->Vals xs us->r xs H Q->
  wpAny (model X.prog X.w) X.A (call f us) (EP X pins σ Q) X.xe s
def VN (r:R2) (ta tb:TE):TE:=fun σ H Q=>ta σ H fun x H1=>tb σ H1 fun y H2=>r x y H2 Q
def tUn (r:V->Hp->VK->Prop) (ta:TE):TE:=fun σ H Q=>ta σ H fun x H1=>r x H1 Q
def rI (C:Int->Int->Prop) (g:Int->Int->V):R2:=fun x y H Q=>∃i j,x= .int i/\y= .int j/\C i j/\Q (g i j) H
def SD (g:Int->Int->V):R2:=fun x y H Q=>∃i j,x= .int i/\y= .int j/\Q (g i j) H
def rU (g:Int->V):V->Hp->VK->Prop:=fun x H Q=>∃i,x= .int i/\Q (g i) H
section
variable {X:Cx}{a b c:Expr}{ta tb tc:TE}{pos:Pos}
def SE (ha:PE X a ta) (hb:PE X b tb){s:Shared}{R:V->V->Hp->Prop}(I:Inv X pins σ H s)
  (h:ta σ H fun x H1=>tb σ H1 fun y H2=>R x y H2){f:Value->Value->Sem Value}
  (hf:∀v u s2 x y H2,Inv X pins σ H2 s2->RelV x v->RelV y u->R x y H2->wpAny (model X.prog X.w) X.A (f v u) Q X.xe s2):
  wpAny (model X.prog X.w) X.A (eval a X.env) (fun v s₁=>wpAny (model X.prog X.w) X.A (eval b X.env) (fun u s₂=>wpAny (model X.prog X.w) X.A (f v u) Q X.xe s₂) X.xe s₁) X.xe s:=by
 refine eB (ha pins s σ H _ I h) fun v s1 hh=>?_
 obtain⟨x,H1,I1,r1,q1⟩:=hh
 refine eB (hb pins s1 σ H1 _ I1 q1) fun u s2 hh=>?_
 obtain⟨y,H2,I2,r2,q2⟩:=hh
 exact hf v u s2 x y H2 I2 r1 r2 q2
def WO {op:Operator}(ho:zI X (binaryOp op) r) (ha:PE X a ta) (hb:PE X b tb):PE X (.BinOp a op b pos) (VN r ta tb):=by
 intro pins s σ H Q I h
 exact wpAny_BinOp (SE ha hb I h fun v u s2 x y H2 I2 rx ry q=>ho pins s2 σ H2 x y v u Q I2 rx ry q)
def WQ {op:UnaryOp}{r:V->Hp->VK->Prop}(ho:WN X (unaryOp op) r) (ha:PE X a ta):PE X (.UnaryOp op a pos) (tUn r ta):=by
 intro pins s σ H Q I h
 exact UnaryOp_ (eB (ha pins s σ H _ I h) fun v s1 ⟨x,H1,I1,r1,q1⟩=>ho pins s1 σ H1 x v Q I1 r1 q1)
def YV {f:Value->Value->Sem Value}{C:Int->Int->Prop}
  (rule:∀(i j:Int) (t u:Tok) (s:Shared) (Q:AAE) (E:AAE),C i j->Q (.int (g i j) s.toks) {s with toks:=s.toks+1}->wpAny (model X.prog X.w) X.A (f (.int i t) (.int j u)) Q E s):
  zI X f (rI C fun i j=>.int (g i j)):=by
 intro pins s σ H x y v u Q I rx ry h
 obtain⟨i,j,rfl,rfl,hc,q⟩:=h
 obtain⟨t,rfl⟩:=rx
 obtain⟨t',rfl⟩:=ry
 exact rule i j t t' s _ _ hc ⟨.int (g i j),H,I.tok _,⟨_,rfl⟩,q⟩
def WR {f:Value->Value->Sem Value}
  (rule:∀(i j:Int) (t u:Tok) (s:Shared) (Q:AAE) (E:AAE),Q (.int (g i j) s.toks) {s with toks:=s.toks+1}->wpAny (model X.prog X.w) X.A (f (.int i t) (.int j u)) Q E s):
  zI X f (SD fun i j=>.int (g i j)):=by
 intro pins s σ H x y v u Q I rx ry h
 obtain⟨i,j,rfl,rfl,q⟩:=h
 obtain⟨t,rfl⟩:=rx
 obtain⟨t',rfl⟩:=ry
 exact rule i j t t' s _ _ ⟨.int (g i j),H,I.tok _,⟨_,rfl⟩,q⟩
def SG {f:Value->Value->Sem Value}{g:Int->Int->Bool}
  (rule:∀(i j:Int) (t u:Tok) (s:Shared) (Q:AAE) (E:AAE),Q (.bool (g i j)) s->wpAny (model X.prog X.w) X.A (f (.int i t) (.int j u)) Q E s):
  zI X f (SD fun i j=>.bl (g i j)):=by
 intro pins s σ H x y v u Q I rx ry h
 obtain⟨i,j,rfl,rfl,q⟩:=h
 obtain⟨t,rfl⟩:=rx
 obtain⟨t',rfl⟩:=ry
 exact rule i j t t' s _ _ ⟨.bl (g i j),H,I,rfl,q⟩
def WS (i j:Int):Prop:=0 < j/\j < 1073741824
def aak (i j:Int):Prop:=0<=j/\j<=1000000/\i.natAbs < 2 ^ 64
def SH (i j:Int):Prop:=(-(2 ^ 64) < i/\i < 2 ^ 64)\/(-(2 ^ 64) < j/\j < 2 ^ 64)
def SH.ok {i j:Int}(h:SH i j):IntMulOk i j:=by
 rcases h with⟨h1,h2⟩ | ⟨h1,h2⟩
 ·exact .of_left (intBits_le_64 h1 h2)
 ·exact .of_right (intBits_le_64 h1 h2)
def SI:zI X (binaryOp .Add) (SD fun i j=>.int (i+j)):=WR fun a a a a a a a q=>add_int q
def SJ:zI X (binaryOp .Sub) (SD fun i j=>.int (i - j)):=WR fun a a a a a a a q=>sub_int q
def SK:zI X (binaryOp .Mult) (rI SH fun i j=>.int (i * j)):=YV fun a a a a a a a hc q=>mul_int q hc.ok
def Oq:zI X (binaryOp .FloorDiv) (rI WS fun i j=>.int (i / j)):=YV fun i j a a a a a hc q=>by
 have h1:(0:Int) < j:=hc.1
 have h2:j < 1073741824:=hc.2
 exact floordiv_int (by omega) (by rw[Int.fdiv_eq_ediv_of_nonneg i (by omega)];exact q) (.inl (PyProof.noPylong_small (by omega)))
def SM:zI X (binaryOp .Mod) (rI (fun a j=>0 < j) fun i j=>.int (i % j)):=YV fun i j a a a a a hc q=>by
 have h1:(0:Int) < j:=hc
 exact mod_int' (by omega) (by rw[Int.fmod_eq_emod_of_nonneg i (by omega)];exact q)
def SN:zI X (binaryOp .Pow) (rI aak fun i j=>.int (i ^ j.toNat)):=YV fun a a a a a a a hc q=>pow_int_small hc.1 hc.2.1 hc.2.2 q
def unI {f:Value->Sem Value}{g:Int->Int}
  (rule:∀(i:Int) (t:Tok) (s:Shared) (Q:AAE) (E:AAE),Q (.int (g i) s.toks) {s with toks:=s.toks+1}->wpAny (model X.prog X.w) X.A (f (.int i t)) Q E s):
  WN X f (rU fun i=>.int (g i)):=by
 intro pins s σ H x v Q I rx h
 obtain⟨i,rfl,q⟩:=h
 obtain⟨t,rfl⟩:=rx
 exact rule i t s _ _ ⟨.int (g i),H,I.tok _,⟨_,rfl⟩,q⟩
def SO:WN X (unaryOp .USub) (rU fun i=>.int (-i)):=unI fun a a a a a q=>neg_int q
end
section
variable {X:Cx}{a b c:Expr}{ta tb tc:TE}{pos:Pos}
def KA {s:Shared}{Q:VK}{k k':Bool}(I:Inv X pins σ H s) (q:Q (.bl k) H) (e:k=k'):EP X pins σ Q (.bool k') s:=by
 subst e
 exact⟨.bl k,H,I,rfl,q⟩
def WT:zI X (compareOp .Lt) (SD fun i j=>.bl (decide (i < j))):=SG fun a a a a a a a q=>lt_int q
def WU:zI X (compareOp .LtE) (SD fun i j=>.bl (decide (i<=j))):=SG fun a a a a a a a q=>le_int q
def WV:zI X (compareOp .Gt) (SD fun i j=>.bl (decide (j < i))):=SG fun a a a a a a a q=>gt_int q
def HN:zI X (compareOp .In) (fun x y H Q=>∃i j,x= .str i/\y= .str j/\Q (.bl (!(Builtin.Str.occurrences j i 0 j.length 1).isEmpty)) H):=by
 intro pins s σ H x y v u Q I rx ry h
 obtain⟨i,j,rfl,rfl,q⟩:=h
 obtain⟨t,rfl⟩:=rx
 obtain⟨t',rfl⟩:=ry
 exact in_str (KA I q rfl)
def Bs:zI X (compareOp .NotIn) (fun x y H Q=>∃i j,x= .str i/\y= .str j/\Q (.bl (!(!(Builtin.Str.occurrences j i 0 j.length 1).isEmpty))) H):=by
 intro pins s σ H x y v u Q I rx ry h
 obtain⟨i,j,rfl,rfl,q⟩:=h
 obtain⟨t,rfl⟩:=rx
 obtain⟨t',rfl⟩:=ry
 exact notIn_str (KA I q rfl)
def KC (b:Expr)(h:op≠.In:=by decide) (h2:op≠.NotIn:=by decide):behindInMarks op b=false:=by
 have e1:(op == CmpOp.In)=false:=by cases op <;> first | rfl | exact absurd rfl h
 have e2:(op == CmpOp.NotIn)=false:=by cases op <;> first | rfl | exact absurd rfl h2
 cases b <;> simp[behindInMarks,e1,e2]
def Ot (ho:zI X (compareOp op) r) (ha:PE X a ta) (hb:PE X b tb) (hm:behindInMarks op b=false):PE X (.Compare a [op] [b] pos) (VN r ta tb):=by
 intro pins s σ H Q I h
 exact wpAny_Compare1 (SE ha hb I h fun v u s2 x y H2 I2 rx ry q=>ho pins s2 σ H2 x y v u Q I2 rx ry q) hm
def WW (t:TE):TT:=fun σ H Q=>t σ H fun x H'=>∃k,x= .bl k/\Q k H'
def Ou (ho:zI X (compareOp op) r) (ha:PE X a ta) (hb:PE X b tb) (hm:behindInMarks op b=false):PT X (.Compare a [op] [b] pos) (WW (VN r ta tb)):=by
 intro pins s σ H Q I h
 refine wpAny_isTrue_Compare1 (eB (ha pins s σ H _ I h) fun v s1 ⟨x,H1,I1,r1,q1⟩=>eB (hb pins s1 σ H1 _ I1 q1) fun u s2 ⟨y,H2,I2,r2,q2⟩=>
  eB (ho pins s2 σ H2 x y v u _ I2 r1 r2 q2) fun c s3 ⟨z,H3,I3,r3,k,e,q3⟩=>?_) hm
 subst e
 cases r3
 exact acY ⟨H3,I3,q3⟩
def uJ:(sizeLine:Nat) < 2 ^ 63:=by rw[afa];decide
def EA:zI X (binaryOp .Add) (fun x y H Q=>∃i j,x= .str i/\y= .str j/\i.length+j.length<=sizeLine/\Q (.str (i++j)) H):=by
 intro pins s σ H x y v u Q I rx ry h
 obtain⟨i,j,rfl,rfl,hz,q⟩:=h
 obtain⟨t,rfl⟩:=rx
 obtain⟨t',rfl⟩:=ry
 exact add_str (fun t' tk=>⟨.str (i++j),H,I.tok _,⟨_,rfl⟩,q⟩) hz
def vals1 {x:V}(r:Vals [x] us):∃u,us=[u]/\RelV x u:=by
 cases r with
 | cons r1 r2=>cases r2;exact⟨_,rfl,r1⟩
def vals2 {x:V}(r:Vals [x,y] us):∃u w',us=[u,w']/\RelV x u/\RelV y w':=by
 cases r with
 | cons r1 r2=>
  cases r2 with
  | cons r3 r4=>cases r4;exact⟨_,_,rfl,r1,r3⟩
def HP (hc:X.calm=true):gJ X (.builtin "max") (fun xs H Q=>∃i j,xs=[.int i,.int j]/\Q (.int (if j > i then j else i)) H):=by
 intro pins s σ H xs us Q I r h
 obtain⟨i,j,rfl,q⟩:=h
 obtain⟨u,w',rfl,⟨t,rfl⟩,⟨t',rfl⟩⟩:=vals2 r
 refine max_two_ints (I.ok.hd hc) fun h' tk k=>⟨_,H,I.kept k,?_,q⟩
 by_cases hj:j > i
 ·rw[if_pos hj,if_pos hj];exact⟨_,rfl⟩
 ·rw[if_neg hj,if_neg hj];exact⟨_,rfl⟩
end
structure EB (h:Heap) (x dx C:Addr) (mA:AAF):Prop where
 obj:h.get? x=some (PySem.W.instObj C dx)
 ns:h.Ns1 dx mA
 ne:dx≠x
def HQ {h:Heap}{dx:Addr}(n:h.Ns1 dx mA):∃od,h.get? dx=some od/\∀name,PySem.W.lookIn name od=some (mA name):=by
 obtain⟨o,es,ep,ho,hd,hk,_,hm⟩:=n
 refine⟨o,ho,fun name=>?_⟩
 have e:=hm name
 unfold nsFind findBy at e
 rw[<-Array.find?_toList] at e
 unfold PySem.W.lookIn
 rw[hd]
 dsimp only
 split
 ·rename_i y q
  rw[q] at e
  exact congrArg some e
 ·rename_i q
  rw[q] at e
  have a:es.toList.any (·.refKey)=false:=by
   rw[List.any_eq_false]
   intro y hy
   obtain⟨z,t,hkey⟩:=hk y (Array.mem_toList_iff.mp hy)
   simp[DictEntry.refKey,hkey]
  have a':¬es.toList.any (·.refKey)=true:=by rw[a];exact ac9
  rw[if_neg a']
  exact congrArg some e
def EB.look {h:Heap}{x dx:Addr}(I:EB h x dx C mA):∃od,PySem.W.InstAt h x (PySem.W.instObj C dx) C (some od)/\∀name,PySem.W.lookIn name od=some (mA name):=
 let⟨od,ho,hl⟩:=HQ I.ns
 ⟨od,⟨I.obj,rfl,rfl,ho⟩,hl⟩
section
variable {prog:Program}{w:World}{A:Around}{E:AAE}{s:Shared}{K:AAD}{x dx C f:Addr}{mA:AAF}{name:Str}{v:Value}
def get_map {expr:Bool}(X:K.In s.heap) (I:EB s.heap x dx C mA) (hg:PySem.W.plainGet K C name=true) (hh:PySem.W.hasDictIn K C=true)
  (ha:PySem.W.findIn K (.ref C) name=some none) (hv:mA name=some v) (hv':PySem.W.handedIn v=true) (h:Q v {s with toks:=s.toks+1}):
  wpAny (model prog w) A (getAttr (.ref x) name expr) Q E s:=by
 obtain⟨od,J,hl⟩:=I.look
 exact PySem.W.get_value X J (aeV hg).1 (PySem.W.findObj_own hh ha rfl (by rw[hl,hv])) hv' h
def KD {Q:Value×List Value->Shared->Prop}(X:K.In s.heap) (I:EB s.heap x dx C mA) (hg:PySem.W.plainGet K C name=true)
  (hf:PySem.W.findIn K (.ref C) name=some (some (.ref f))) (ht:PySem.W.isFn K (.ref f)=true) (hv:mA name=none) (h:Q (.ref f,[.ref x]) s):
  wpAny (model prog w) A (getMethod (.ref x) name pl) Q E s:=by
 obtain⟨od,J,hl⟩:=I.look
 exact PySem.W.method_fn X J (aeV hg).1 (aeV hg).2 hf (afr.mp ht) (by show(PySem.W.lookIn name od).map (·.isSome)=some false;rw[hl,hv];rfl) h
def Ov {ns:List Str}{Q:Unit->Shared->Prop}(X:K.In s.heap) (I:EB s.heap x dx C mA)
  (hs:PySem.W.findIn K (.ref C) "__setattr__" =some (some (.builtin "object.__setattr__"))) (hp:PySem.W.plainOver K C=true) (ht:PySem.W.takerIn K C name=some none) (hh:PySem.W.hasDictIn K C=true)
  (hw:PySem.Within mA ns) (hsz:ns.length<=sizeLine)
  (h:∀h',EB h' x dx C (fun y=>if y=name then some v else mA y)->Heap.SameBut dx s.heap h'->Q () {s with heap:=h',toks:=s.toks+2}):
  wpAny (model prog w) A (setAttr (.ref x) name v) Q E s:=by
 obtain⟨od,J,hl⟩:=I.look
 refine PySem.W.set_plain X J hs (PySem.W.osa_open (s:={s with toks:=s.toks+1}) (r:=none) X J hp ht fun b=>?_)
 obtain⟨cd,hc,hd'⟩:=PySem.W.any_some hh
 have hx:s.heap.get? x=some ⟨.ref C,some dx,.plain,#[]⟩:=I.obj
 refine aae (aag (aae (aae (wpAny_loadPart hx (aae (PySem.W.Looks.here (s:={s with toks:=s.toks+1}) (PySem.W.looks_clsIn X hc) ?_))))))
 rw[hd']
 refine aag (a:=some dx) (aae (aag (aae ?_)))
 refine wpAny_nsSet1 (s:={s with toks:=s.toks+1}) I.ns fun h' hn2 hs2=>?_
 obtain⟨oD,esD,epD,hoD,hdD,hcD⟩:=hn2.count (PySem.Within.cons name v hw)
 refine aae (wpAny_lookBehind hoD (by rw[hdD];exact pastItsLine_dict (aaW hcD (by rw[aar];omega))) ?_)
 exact aag (h _ ⟨(hs2.2 _ (ac2 I.ne)).trans I.obj,hn2,I.ne⟩ hs2)
def KG {R:Result->Shared->Prop}{vs:AAL}(X:K.In s.heap) (hm:PySem.W.makesIn K C=true)
  (hi:PySem.W.findIn K (.ref C) "__init__" =some (some (.ref f))) (hf:PySem.W.typeIn K (.ref f)=some (.type "function"))
  (h:codeAny (model prog w) (A.under (.builtin "type.__call__" ⟨.ref C :: vs,kw⟩)) (.call (.ref f) ⟨.ref (s.heap.objs.size+1) :: vs,kw⟩) (PySem.W.InitBack (s.heap.objs.size+1) R)
   {s with heap:=(s.heap.push PySem.W.emptyDict).push (PySem.W.instObj C s.heap.objs.size)}):
  codeAny (model prog w) A (.call (.ref C) ⟨vs,kw⟩) R s:=by
 obtain⟨hh,g,d,t,os⟩:=s
 exact PySem.W.make_core (PySem.W.makes_of X hm) (PySem.W.looks_findIn X hi) (fun self=>PySem.W.bind_fn X self hf) (.inl rfl) h
end
noncomputable def d8 (f:Str) (v:V):List (Str×V)->List (Str×V)
 | []=>[(f,v)]
 | (g,x) :: r=>if g=f then(g,v) :: r else(g,x) :: d8 f v r
theorem vQ (f g:Str) (v:V):∀fs:List (Str×V),(d8 f v fs).lookup g=if g=f then some v else fs.lookup g
 | []=>by
  show List.lookup g [(f,v)]=_
  by_cases h:g=f
  ·have hb:(g == f)=true:=afr.mpr h
   simp only[List.lookup,hb,if_pos h]
  ·have hb:(g == f)=false:=adh.mpr h
   simp only[List.lookup,hb,if_neg h]
 | (k,x) :: r=>by
  have ih:=vQ f g v r
  rw[show d8 f v ((k,x) :: r)=(if k=f then(k,v) :: r else(k,x) :: d8 f v r) from rfl]
  by_cases hk:k=f
  ·rw[if_pos hk]
   by_cases h:g=k
   ·have hb:(g == k)=true:=afr.mpr h
    simp only[List.lookup,hb,if_pos (h.trans hk)]
   ·have hb:(g == k)=false:=adh.mpr h
    simp only[List.lookup,hb,if_neg (fun e:g=f=>h (e.trans hk.symm))]
  ·rw[if_neg hk]
   by_cases h:g=k
   ·have hb:(g == k)=true:=afr.mpr h
    simp only[List.lookup,hb,if_neg (fun e:g=f=>hk (h.symm.trans e))]
   ·have hb:(g == k)=false:=adh.mpr h
    simp only[List.lookup,hb]
    exact ih
theorem uK (f:Str) (v:V):∀fs:List (Str×V),f∈(d8 f v fs).map (·.1)/\∀g,g∈fs.map (·.1)->g∈(d8 f v fs).map (·.1)
 | []=>⟨by simp[d8],fun g h=>by simp at h⟩
 | (k,x) :: r=>by
  obtain⟨i1,i2⟩:=uK f v r
  rw[show d8 f v ((k,x) :: r)=(if k=f then(k,v) :: r else(k,x) :: d8 f v r) from rfl]
  by_cases hk:k=f
  ·rw[if_pos hk]
   subst hk
   exact⟨by simp,fun g h=>by simpa using h⟩
  ·rw[if_neg hk]
   refine⟨?_,fun g h=>?_⟩
   ·rw[aaQ]
    exact aaP _ i1
   ·rw[aaQ] at h ⊢
    rcases aaA.mp h with e | e
    ·exact aaA.mpr (.inl e)
    ·exact aaP _ (i2 g e)
theorem vR (f:Str) (v:V):∀fs:List (Str×V),(d8 f v fs).length<=fs.length+1
 | []=>by simp[d8]
 | (k,x) :: r=>by
  have ih:=vR f v r
  rw[show d8 f v ((k,x) :: r)=(if k=f then(k,v) :: r else(k,x) :: d8 f v r) from rfl]
  by_cases hk:k=f
  ·rw[if_pos hk,aar,aar];omega
  ·rw[if_neg hk,aar,aar];omega
def qW.some_of {v:V}{o:Option Value}(r:qW (some v) o):∃u,o=some u/\RelV v u:=by
 cases o with
 | none=>exact(show False from r).elim
 | some u=>exact⟨u,rfl,r⟩
def qW.none_of {o:Option Value}(r:qW none o):o=none:=by
 cases o with
 | none=>rfl
 | some u=>exact(show False from r).elim
def HR {v:V}(r:RelV v u):PySem.W.handedIn u=true:=by
 cases v with
 | cU=>cases(show u=Value.none from r);rfl
 | bl b=>cases(show u=Value.bool b from r);rfl
 | int i=>obtain⟨t,e⟩:=(show ∃t,u=Value.int i t from r);cases e;rfl
 | str x=>obtain⟨t,e⟩:=(show ∃t,u=Value.str x t from r);cases e;rfl
 | YQ b=>obtain⟨t,e⟩:=(show ∃t,u=Value.bytes b t from r);cases e;rfl
 | flt b=>obtain⟨t,e⟩:=(show ∃t,u=Value.float b t from r);cases e;rfl
 | ref a=>cases(show u=Value.ref a from r);rfl
 | ty n=>cases(show u=Value.type n from r);rfl
section
variable {P:Program}{w:World}{H H':Hp}{h h':Heap}{a C dx:Addr}{fs fs':List (Str×V)}
def Bt (hok:oN P w H h) (e:H a=some (.ins C dx fs)):∃mA,EB h a dx C mA/\(∀f,qW (fs.lookup f) (mA f))/\PySem.Within mA (fs.map (·.1))/\fs.length<=1000/\H dx=some (.own a):=by
 obtain⟨d,z,ne,ob,mA,n,r,q⟩:=(show eY P w H h a (.ins C dx fs) from hok a _ e)
 exact⟨mA,⟨ob,n,ne⟩,r,q,z,d⟩
end
structure CA (K:AAD) (C:Addr):Prop where
 pg:PySem.W.plainGet K C Str.empty=true
 hd:PySem.W.hasDictIn K C=true
 po:PySem.W.plainOver K C=true
 sa:PySem.W.findIn K (.ref C) "__setattr__" =some (some (.builtin "object.__setattr__"))
def CA.get (c:CA K C) (f:Str):PySem.W.plainGet K C f=true:=c.pg
def mh (K:AAD) (C:Addr) (f:Str):Prop:=PySem.W.findIn K (.ref C) f=some none
def mh.WX {f:Str}(n:mh K C f):PySem.W.takerIn K C f=some none:=by
 unfold PySem.W.takerIn
 rw[show PySem.W.findIn K (.ref C) f=some none from n]
 rfl
structure Meth (K:AAD) (C:Addr) (m:Str) (f:Addr):Prop where
 at_:PySem.W.findIn K (.ref C) m=some (some (.ref f))
 fn:PySem.W.isFn K (.ref f)=true
 kp:PySem.W.keepIn K (.ref f)=true
section
variable {X:Cx}{pins:AAG}{σ:St}{H:Hp}{s:Shared}{a C dx:Addr}{fs:List (Str×V)}{f:Str}{v:V}{A:Around}{E:AAE}
def xT {b:Bool}(I:Inv X pins σ H s) (e:H a=some (.ins C dx fs)) (c:CA X.K C) (n:mh X.K C f) (l:fs.lookup f=some v)
  (h:∀u s',Inv X pins σ H s'->RelV v u->Q u s'):wpAny (model X.prog X.w) A (getAttr (.ref a) f b) Q E s:=by
 obtain⟨mA,O,r,_,_,_⟩:=Bt I.hok e
 obtain⟨u,hu,ru⟩:=qW.some_of (v:=v) (o:=mA f) (by rw[<-l];exact r f)
 exact get_map I.xP O (c.get f) c.hd n hu (HR ru) (h u _ (I.tok _) ru)
def xU {m:Str}{g:Addr}{Q:Value×List Value->Shared->Prop}(I:Inv X pins σ H s) (e:H a=some (.ins C dx fs)) (c:CA X.K C) (k:Meth X.K C m g) (l:fs.lookup m=none)
  (h:Q (.ref g,[.ref a]) s):wpAny (model X.prog X.w) A (getMethod (.ref a) m pl) Q E s:=by
 obtain⟨mA,O,r,_,_,_⟩:=Bt I.hok e
 have hn:mA m=none:=qW.none_of (by rw[<-l];exact r m)
 exact KD I.xP O (c.get m) k.at_ k.fn hn h
def xV {Q:Unit->Shared->Prop}(I:Inv X pins σ H s) (e:H a=some (.ins C dx fs)) (c:CA X.K C) (n:mh X.K C f) (hl:fs.length < 1000) (ry:RelV y u)
  (h:∀s',Inv X pins σ (upd H a (.ins C dx (d8 f y fs))) s'->Q () s'):wpAny (model X.prog X.w) A (setAttr (.ref a) f u) Q E s:=by
 obtain⟨mA,O,r,wi,_,ho⟩:=Bt I.hok e
 have hz:(fs.map (·.1)).length<=sizeLine:=by rw[aaw,afa];omega
 refine Ov I.xP O c.sa c.po n.WX c.hd wi hz fun h' O' sb=>h _ ?_
 have hd:∃o,h'.get? dx=some o:=let⟨o,_,_,e',_⟩:=O'.ns;⟨o,e'⟩
 refine I.write (x:=a) (e:=dx) (by rw[e];exact True.intro) (.inr ho) (fun b q hb z=>(sb.2 b hb).trans z) hd ?_
 refine⟨by rw[bf O.ne];exact ho,?_,O.ne,O'.obj,_,O'.ns,fun g=>?_,fun g hg=>?_⟩
 ·have:=vR f y fs;omega
 ·show qW ((d8 f y fs).lookup g) (if g=f then some u else mA g)
  rw[vQ]
  by_cases q:g=f
  ·rw[if_pos q,if_pos q];exact ry
  ·rw[if_neg q,if_neg q];exact r g
 ·by_cases q:g=f
  ·rw[q];exact(uK f y fs).1
  ·refine(uK f y fs).2 g (wi g fun z=>hg ?_)
   show(if g=f then some u else mA g)=none
   rw[if_neg q];exact z
def Inv.made (I:Inv X pins σ H s):Inv X pins σ (upd (upd H s.heap.objs.size (.own (s.heap.objs.size+1))) (s.heap.objs.size+1) (.ins C s.heap.objs.size []))
  {s with heap:=(s.heap.push PySem.W.emptyDict).push (PySem.W.instObj C s.heap.objs.size)}:=by
 have e1:(s.heap.push PySem.W.emptyDict).get? s.heap.objs.size=some PySem.W.emptyDict:=aaJ s.heap rfl
 have e2:((s.heap.push PySem.W.emptyDict).push (PySem.W.instObj C s.heap.objs.size)).get? (s.heap.objs.size+1)=some (PySem.W.instObj C s.heap.objs.size):=by
  have:=aaJ (s.heap.push PySem.W.emptyDict) (o:=PySem.W.instObj C s.heap.objs.size) rfl
  rwa [acX] at this
 have e3:(s.heap.push PySem.W.emptyDict).Ns s.heap.objs.size (fun c=>none):=⟨PySem.W.emptyDict,#[],_,e1,rfl,(fun e he=>absurd he (by simp)),fun c=>rfl⟩
 have I1:=I.laid (a:=s.heap.objs.size) (o:=.own (s.heap.objs.size+1)) (h':=s.heap.push PySem.W.emptyDict) (t':=s.toks) (fun b u q=>aaf _ q) (aaC _) ⟨_,e1⟩
 refine I1.laid (a:=s.heap.objs.size+1) (o:=.ins C s.heap.objs.size []) (t':=s.toks) (fun b u q=>aaf _ q) (aef (acX _ _)) ?_
 have ne:s.heap.objs.size≠s.heap.objs.size+1:=aaY (afv _)
 refine⟨by rw[bf ne,bq],acJ _,ne,e2,fun c=>none,(Heap.Ns1.of_empty e3).at fun o q=>aaf _ q,fun c=>True.intro,fun y hy=>absurd rfl hy⟩
def Ow {env:Env}{e:Expr}(hb:attributeBase e f env (eval e env)=eval e env)
  (h:wpAny (model prog w) A (eval e env) (fun o s₁=>wpAny (model prog w) A (getAttr o f true) Q E s₁) E s):wpAny (model prog w) A (eval (.Attribute e f pos) env) Q E s:=
 Attribute_any_ h (by rw[arm_eval_Attribute,hb])
end
def aal (K:AAD) (ta:TE) (f:Str):TE:=fun σ H Q=>ta σ H fun x H1=>∃a C dx fs v,x= .ref a/\H1 a=some (.ins C dx fs)/\CA K C/\mh K C f/\fs.lookup f=some v/\Q v H1
def aam (K:AAD) (ta tv:TE) (f:Str):TS:=fun D σ H=>tv σ H fun y H1=>ta σ H1 fun x H2=>∃a C dx fs,x= .ref a/\H2 a=some (.ins C dx fs)/\CA K C/\mh K C f/\fs.length < 1000/\
 D.nx σ (upd H2 a (.ins C dx (d8 f y fs)))
def SQ (X:Cx) (op:Operator) (rd:V->V->Hp->VK->Prop):Prop:=
 ∀(pins:AAG) (s:Shared) (σ:St) (H:Hp) (x y:V) (u v:Value) (Q:VK),Inv X pins σ H s->RelV x u->RelV y v->rd x y H Q->wpAny (model X.prog X.w) X.A (inplaceOp op u v) (EP X pins σ Q) X.xe s
def Ox (K:AAD) (ta tv:TE) (rd:V->V->Hp->VK->Prop) (f:Str):TS:=fun D σ H=>ta σ H fun x H1=>∃a C dx fs v,x= .ref a/\H1 a=some (.ins C dx fs)/\CA K C/\mh K C f/\fs.lookup f=some v/\
 tv σ H1 fun y H2=>rd v y H2 fun z H3=>∃WY fs',H3 a=some (.ins C WY fs')/\fs'.length < 1000/\D.nx σ (upd H3 a (.ins C WY (d8 f z fs')))
section
variable {X:Cx}{o e value:Expr}{f:Str}{pos pos' tpos:Pos}{ta tv:TE}
def SR (he:PE X e ta) (hb:attributeBase e f X.env (eval e X.env)=eval e X.env):PE X (.Attribute e f pos) (aal X.K ta f):=by
 intro pins s σ H Q I h
 refine Ow hb (eB (he pins s σ H _ I h) fun u s1 hh=>?_)
 obtain⟨x,H1,I1,rx,a,C,dx,fs,v,ex,ea,c,n,l,q⟩:=hh
 subst ex
 obtain rfl:u=Value.ref a:=rx
 exact xT I1 ea c n l fun u' s2 I2 ru=>⟨v,H1,I2,ru,q⟩
def SV (ha:PE X o ta) (hv:PE X value tv) (hs:swapsWith value (some (.Attribute o f pos')) pos.line X.env=pure false):PS X (.Assign [.Attribute o f pos'] value pos) (aam X.K ta tv f):=by
 intro pins s σ H D I h
 refine plainObj_wpAny_Assign_Attribute (eB (hv pins s σ H _ I h) fun u s1 ⟨y,H1,I1,ry,q⟩=>eB (ha pins s1 σ H1 _ I1 q) fun ov s2 hh=>?_) hs
 obtain⟨x,H2,I2,rx,a,C,dx,fs,ex,ea,c,n,l,q2⟩:=hh
 subst ex
 obtain rfl:ov=Value.ref a:=rx
 exact xV I2 ea c n l ry fun s3 I3=>⟨σ,_,I3,q2⟩
def HS {op:Operator}{rd:V->V->Hp->VK->Prop}(ha:PE X o ta) (hv:PE X value tv) (hop:SQ X op rd):PS X (.AugAssign (.Attribute o f tpos) op value pos) (Ox X.K ta tv rd f):=by
 intro pins s σ H D I h
 refine wpAny_AugAssign_AttributeAny (eB (ha pins s σ H _ I h) fun ov s1 hh=>?_)
 obtain⟨x,H1,I1,rx,a,C,dx,fs,v,ex,ea,c,n,l,q⟩:=hh
 subst ex
 obtain rfl:ov=Value.ref a:=rx
 refine xT I1 ea c n l fun u s2 I2 ru=>eB (hv pins s2 σ H1 _ I2 q) fun w3 s3 ⟨y,H2,I3,ry,q3⟩=>eB (hop pins s3 σ H2 v y u w3 _ I3 ru ry q3) fun w4 s4 hh=>?_
 obtain⟨z,H3,I4,rz,WY,fs',ea',l',q4⟩:=hh
 exact xV I4 ea' c n l' rz fun s5 I5=>⟨σ,_,I5,q4⟩
def aan:V->V->Hp->VK->Prop:=fun x y H Q=>∃i j,x= .int i/\y= .int j/\Q (.int (i+j)) H
def EC:SQ X .Add aan:=by
 rintro pins s σ H x y u v Q I rx ry ⟨i,j,rfl,rfl,q⟩
 obtain⟨t,rfl⟩:=(show ∃t,u=Value.int i t from rx)
 obtain⟨t',rfl⟩:=(show ∃t',v=Value.int j t' from ry)
 exact PyProof.Rows.iadd_int ⟨.int (i+j),H,I.tok _,⟨_,rfl⟩,q⟩
end
section
variable {X:Cx}{pins:AAG}{σ:St}{H:Hp}{s:Shared}{A:Around}{E:AAE}{Q:AAE}{c:Value}{b:Bool}
end
structure fQ (k:Nat) (A:Around):Prop where
 hd:A.handled=none
 dp:A.depth+3 * k+5 < recursionLimit
 un:A.units+16 * k+200 < cLine
 gd:A.guards=some []
def fQ.mono {j:Nat}(r:fQ k A) (h:j<=k):fQ j A:=⟨r.hd,by have:=r.dp;omega,by have:=r.un;omega,r.gd⟩
def fQ.deeper {k:Nat}{A:Around}(r:fQ (k+1) A) (env:Env):fQ k (A.deeper env):=
 ⟨r.hd,by have:=r.dp;show A.depth+1+3 * k+5 < _;omega,by have:=r.un;show A.units+3+16 * k+200 < _;omega,r.gd⟩
def ED :(A.under (.builtin "type.__call__" ⟨.ref C :: us,kw⟩)).depth=A.depth+1:=by
 first | rfl | simp[Around.under,Code.weight,Code.isCreation,Code.isGuard,Code.isCaller,Code.frames,Code.isFrame,guardIds]
def EE :(A.under (.builtin "type.__call__" ⟨.ref C :: us,kw⟩)).units=A.units+1:=by
 first | rfl | simp[Around.under,Code.cUnits,Code.frames,Code.isFrame]
def fQ.make (r:fQ (k+1) A) (C:Addr) (us:AAL) (kw:List (Str×Value)):fQ k (A.under (.builtin "type.__call__" ⟨.ref C :: us,kw⟩)):=
 ⟨r.hd,by have:=r.dp;rw[ED];omega,by have:=r.un;rw[EE];omega,r.gd⟩
def fQ.depth {k:Nat}{A:Around}(r:fQ k A):A.depth < recursionLimit:=by have:=r.dp;omega
def fQ.units {k:Nat}{A:Around}(r:fQ k A):A.units+64 < cLine:=by have:=r.un;omega
def Oz:TA:=fun a H Q=>Q [] H
def Rk (ta:TE) (tr:TA):TA:=fun σ H Q=>ta σ H fun x H1=>tr σ H1 fun xs H2=>Q (x :: xs) H2
section
variable {X:Cx}{e:Expr}{es:List Expr}{te:TE}{t:TA}{pos:Pos}
def Bu:PA X [] Oz:=fun a a a a H Q I h=>aes ⟨[],H,I,.nil,h⟩
def qy (ha:PE X e te) (hr:PA X es t) (hs:starEach (e :: es) X.env=(false,eval e X.env) :: starEach es X.env:=by rfl):PA X (e :: es) (Rk te t):=by
 intro pos pins s σ H Q I h
 rw[hs]
 show wpAny _ _ (spliced ((false,eval e X.env) :: backTo pos (starEach es X.env))) _ _ s
 refine adQ (eB (ha pins s σ H _ I h) fun u s1 hh=>?_)
 obtain⟨x,H1,I1,r1,q1⟩:=hh
 exact eB (hr pos pins s1 σ H1 _ I1 q1) fun us s2 ⟨xs,H2,I2,r2,q2⟩=>⟨x :: xs,H2,I2,.cons r1 r2,q2⟩
def aao (t:TA):TE:=fun σ H Q=>t σ H fun xs H1=>xs.length<=sizeLine/\∀p,H1 p=none->Q (.ref p) (upd H1 p (.tup xs))
def aap (t:TA):TE:=fun σ H Q=>t σ H fun xs H1=>xs.length<=sizeLine/\∀p,H1 p=none->Q (.ref p) (upd H1 p (.lst xs))
def SW {x1}(h:PA X es t):PE X (.Tuple es x1 pos) (aao t):=by
 intro pins s σ H Q I hq
 refine wpAny_Tuple_spliced (eB (h pos pins s σ H _ I hq) fun us s1 ⟨xs,H1,I1,r,z,q⟩=>⟨by rw[<-r.length];exact z,?_⟩)
 have hf:H1 s1.heap.objs.size=none:=I1.hok.fresh (aaC _)
 refine⟨.ref s1.heap.objs.size,upd H1 s1.heap.objs.size (.tup xs),I1.laid (t':=s1.toks) (fun b u e=>aaf _ e) (aaC _) ?_,rfl,q _ hf⟩
 exact⟨z,us,r,⟨_,aaJ _ rfl,rfl,_,rfl⟩⟩
def SX (h:PA X es t):PE X (.List es pos) (aap t):=by
 intro pins s σ H Q I hq
 refine wpAny_List_spliced (eB (h pos pins s σ H _ I hq) fun us s1 ⟨xs,H1,I1,r,z,q⟩=>⟨by rw[<-r.length];exact z,?_⟩)
 have hf:H1 s1.heap.objs.size=none:=I1.hok.fresh (aaC _)
 refine⟨.ref s1.heap.objs.size,upd H1 s1.heap.objs.size (.lst xs),I1.laid (t':=s1.toks) (fun b u e=>aaf _ e) (aaC _) ?_,rfl,q _ hf⟩
 exact⟨z,us,0,r,aaJ _ rfl⟩
end
abbrev Sp:=List V->Hp->VK->XK->Prop
abbrev JR:=List Env->Hp->Shared->XK->Value->Shared->Prop
structure EF (P:Program) (w:World) (K:AAD) (mg:AAF) (base:Heap) (A:Around) (outer:List Env) (s:Shared) (H:Hp):Prop where
 frames:A.frames=some outer
 mod:Mod K mg base
 bs:∀b o,base.get? b=some o->s.heap.get? b=some o/\H b=none
 Kh:base.objs.size<=s.heap.objs.size
 wJ:s.heap.FunFrames base outer
 RZ:∀b∈frs outer,H b=none
 hok:oN P w H s.heap
 bare:AllBare s.gens
def CE (outer:List Env) (P:Program) (w:World) (H:Hp) (s:Shared) (Q:VK) (u:Value) (s':Shared):Prop:=
 ∃v H',s'.os=s.os/\AllBare s'.gens/\Un (frs outer) [] H H' s.heap s'.heap/\oN P w H' s'.heap/\RelV v u/\Q v H'
def CR (CX:JR) (outer:List Env) (P:Program) (w:World) (H:Hp) (s:Shared) (Q:VK) (E:XK) (r:Result) (s':Shared):Prop:=
 match r with
 | .ok (.ret u)=>CE outer P w H s Q u s'
 | .ok _=>False
 | .error e=>CX outer H s E e s'
structure jW (P:Program) (w:World) (K:AAD) (mg:AAF) (base:Heap) (CX:JR) (k:Nat) (f:Addr) (fd:FuncData) (ps:List Str) (sp:Sp):Prop where
 len:∀vs H Q E,sp vs H Q E->vs.length=ps.length
 run:∀(A:Around) (outer:List Env) (s:Shared) (H:Hp) (args:Args) (us:AAL) (vs:List V) (Q:VK) (E:XK),fQ k A->EF P w K mg base A outer s H->BindsTo s fd args (ps.zip us)->Vals vs us->sp vs H Q E->
  codeAny (model P w) A (.call (.ref f) args) (CR CX outer P w H s Q E) s
def jW.mono {P:Program}{w:World}{K:AAD}{mg:AAF}{base:Heap}{CX:JR}{j k:Nat}{f:Addr}{fd:FuncData}{ps:List Str}{sp:Sp}(F:jW P w K mg base CX j f fd ps sp) (h:j<=k):
  jW P w K mg base CX k f fd ps sp:=⟨F.len,fun A outer s H args us vs Q E hr=>F.run A outer s H args us vs Q E (hr.mono h)⟩
def EF.make {s:Shared}(e:EF P w K mg base A outer s H) (C:Addr) (us:AAL) (kw:List (Str×Value)):
  EF P w K mg base (A.under (.builtin "type.__call__" ⟨.ref C :: us,kw⟩)) outer s H:=⟨by first | exact e.frames | (simpa[Around.under,Code.envs,Code.isFrame,pushEnvs] using e.frames),e.mod,e.bs,e.Kh,e.wJ,e.RZ,e.hok,e.bare⟩
section
variable {X:Cx}{pins:AAG}{σ:St}{H:Hp}{s s':Shared}
def Inv.WZ (I:Inv X pins σ H s):EF X.prog X.w X.K X.mg X.base X.A X.stack s H:=
 ⟨I.ok.frames,I.ok.mod,I.bs,aaW I.ok.Kh I.sz,I.stack,I.Bq,I.hok,I.bare⟩
def Inv.after {Q:VK}(I:Inv X pins σ H s) (h:CE X.stack X.prog X.w H s Q u s'):EP X pins σ Q u s':=by
 obtain⟨v,H',os,bare,un,hok,r,q⟩:=h
 obtain⟨hh,g,d,t,os'⟩:=s'
 obtain rfl:os'=s.os:=os
 exact⟨v,H',I.call (h':=hh) (g':=g) (d':=d) (t':=t) (ch:=[]) un hok bare (fun b z=>absurd z (by simp)),r,q⟩
end
def Rl (sp:Sp) (xW:List V) (E:XK) (t:TA):TE:=fun σ H Q=>t σ H fun vs H1=>sp (vs++xW) H1 Q E
def Rm (C:Addr) (m:Str) (sp:Sp) (xW:List V) (E:XK) (ta:TE) (t:TA):TE:=fun σ H Q=>ta σ H fun x H1=>∃a dx fs,x= .ref a/\H1 a=some (.ins C dx fs)/\fs.lookup m=none/\
 t σ H1 fun vs H2=>sp (x :: (vs++xW)) H2 Q E
def W2 (C:Addr) (sp:Sp) (xW:List V) (E:XK) (t:TA):TE:=fun σ H Q=>t σ H fun vs H1=>∀x dx,H1 x=none->H1 dx=none->dx≠x->
 sp (.ref x :: (vs++xW)) (upd (upd H1 dx (.own x)) x (.ins C dx [])) (fun v H2=>v= .cU/\Q (.ref x) H2) E
def Binds (K:AAD) (fd:FuncData) (ps:List Str) (ds:AAL):Prop:=
 ∀(s:Shared) (us:AAL),K.In s.heap->(us++ds).length=ps.length->BindsTo s fd ⟨us,[]⟩ (ps.zip (us++ds))
def Binds.all {fd:FuncData}(h:∀us:List Value,us.length=ps.length->bindArgs fd ⟨us,[]⟩=pure (ps.zip us)):Binds K fd ps []:=fun s us a hl=>by
 rw[aa8] at hl ⊢
 exact .of_eq (h us hl)
def Passes (CX:JR) (X:Cx) (E:XK):Prop:=∀(pins:AAG) (σ:St) (H:Hp) (s:Shared) (e:Value) (s':Shared),Inv X pins σ H s->CX X.stack H s E e s'->X.xe e s'
section
variable {X:Cx}{CX:JR}{k:Nat}{f C:Addr}{fd:FuncData}{ps:List Str}{sp:Sp}{xW:List V}{ds:AAL}{E:XK}{x m:Str}{p pos apos:Pos}{e o:Expr}{es:List Expr}{ta:TE}{t:TA}
def Bv {s:Shared}{Q:VK}(F:jW X.prog X.w X.K X.mg X.base CX k f fd ps sp) (hr:fQ k X.A) (hb:Binds X.K fd ps ds) (hd:Vals xW ds) (hx:Passes CX X E)
  (I:Inv X pins σ H s) (r:Vals vs us) (h:sp (vs++xW) H Q E):wpAny (model X.prog X.w) X.A (call (.ref f) us) (EP X pins σ Q) X.xe s:=by
 have r2:Vals (vs++xW) (us++ds):=r.append hd
 have hl:(us++ds).length=ps.length:=by rw[<-r2.length];exact F.len _ _ _ _ h
 refine wpAny_call (afw (F.run X.A X.stack s H ⟨us,[]⟩ (us++ds) (vs++xW) Q E hr I.WZ (hb s us I.xP hl) r2 h) fun r s' hq=>?_)
 cases r with
 | error e=>exact hx pins σ H s e s' I hq
 | ok fl=>
  cases fl with
  | ret u=>exact I.after hq
  | next=>exact False.elim hq
  | brk=>exact False.elim hq
  | cont=>exact False.elim hq
def OA (F:jW X.prog X.w X.K X.mg X.base CX k f fd ps sp) (hr:fQ k X.A) (hg:Gl X x) (hm:X.mg x=some (.ref f)) (hk:PySem.W.keepIn X.K (.ref f)=true) (hb:Binds X.K fd ps ds) (hd:Vals xW ds) (hx:Passes CX X E)
  (ha:PA X (e :: es) t) (hdb:(x == ("__debug__":Str))=false:=by decide) (he:starEach (e :: es) X.env=(false,eval e X.env) :: starEach es X.env:=by rfl) (hpl:(backTo pos (starEach es X.env)).any (·.1)=false:=by rfl):
  PE X (.Call (.Name x p) (e :: es) [] pos) (Rl sp xW E t):=by
 intro pins s σ H Q I h
 refine ady (xq I hg hm ?_ hdb)
 refine afg (h₀:=X.base) I.ok.mod.Wu hk (eB (ha pos pins s σ H _ I h) fun us s1 ⟨vs,H1,I1,r,q⟩=>⟨I1.xP,?_⟩) he hpl
 exact Bv F hr hb hd hx I1 r q
def KH (F:jW X.prog X.w X.K X.mg X.base CX k f fd ps sp) (hr:fQ k X.A) (hg:Gl X x) (hm:X.mg x=some (.ref f)) (hk:PySem.W.keepIn X.K (.ref f)=true) (hb:Binds X.K fd ps ds) (hd:Vals xW ds) (hx:Passes CX X E)
  (hdb:(x == ("__debug__":Str))=false:=by decide):PE X (.Call (.Name x p) [] [] pos) (Rl sp xW E Oz):=by
 intro pins s σ H Q I h
 refine ady (xq I hg hm ?_ hdb)
 exact PySem.W.callWith_K0 I.xP hk (Bv (us:=[]) F hr hb hd hx I .nil h)
def OB (he:PE X o ta) (c:CA X.K C) (hm:Meth X.K C m f) (F:jW X.prog X.w X.K X.mg X.base CX k f fd ps sp) (hr:fQ k X.A) (hb:Binds X.K fd ps ds) (hd:Vals xW ds) (hx:Passes CX X E) (ha:PA X (e :: es) t)
  (hst:starEach (e :: es) X.env=(false,eval e X.env) :: starEach es X.env:=by rfl) (hpl:(backTo pos (starEach es X.env)).any (·.1)=false:=by rfl)
  (ht:eval (.Call (.Attribute o m apos) (e :: es) [] pos) X.env=(do
   let ov <-eval o X.env
   standAt apos.atName
   let(f,first) <-holding [ov] (getMethod ov m pl)
   callWith pos f first (backTo pos (starEach (e :: es) X.env)) (backToKw pos (keywordEach [] X.env))):=by rfl):
  PE X (.Call (.Attribute o m apos) (e :: es) [] pos) (Rm C m sp xW E ta t):=by
 intro pins s σ H Q I h
 refine PySem.W.methodCall_KW (pl:=pl) (eB (he pins s σ H _ I h) fun u s1 hh=>?_) ht
 obtain⟨x,H1,I1,rx,a,dx,fs,ex,ea,l,q⟩:=hh
 subst ex
 obtain rfl:u=Value.ref a:=rx
 refine xU I1 ea c hm l ?_
 refine afg (first:=[.ref a]) (h₀:=X.base) I.ok.mod.Wu hm.kp (eB (ha pos pins s1 σ H1 _ I1 q) fun us s2 ⟨vs,H2,I2,r,q2⟩=>⟨I2.xP,?_⟩) hst hpl
 exact Bv (us:=.ref a :: us) (vs:=.ref a :: vs) F hr hb hd hx I2 (.cons rfl r) q2
def KI (he:PE X o ta) (c:CA X.K C) (hm:Meth X.K C m f) (F:jW X.prog X.w X.K X.mg X.base CX k f fd ps sp) (hr:fQ k X.A) (hb:Binds X.K fd ps ds) (hd:Vals xW ds) (hx:Passes CX X E)
  (ht:eval (.Call (.Attribute o m apos) [] [] pos) X.env=(do
   let ov <-eval o X.env
   standAt apos.atName
   let(f,first) <-holding [ov] (getMethod ov m pl)
   callWith pos f first (backTo pos (starEach [] X.env)) (backToKw pos (keywordEach [] X.env))):=by rfl):
  PE X (.Call (.Attribute o m apos) [] [] pos) (Rm C m sp xW E ta Oz):=by
 intro pins s σ H Q I h
 refine PySem.W.methodCall_KW (pl:=pl) (eB (he pins s σ H _ I h) fun u s1 hh=>?_) ht
 obtain⟨x,H1,I1,rx,a,dx,fs,ex,ea,l,q⟩:=hh
 subst ex
 obtain rfl:u=Value.ref a:=rx
 refine xU I1 ea c hm l ?_
 exact PySem.W.callWith_K0 (first:=[.ref a]) I1.xP hm.kp (Bv (us:=[.ref a]) (vs:=[.ref a]) F hr hb hd hx I1 (.cons rfl .nil) q)
structure Mk (K:AAD) (C f:Addr):Prop where
 makes:PySem.W.makesIn K C=true
 init:PySem.W.findIn K (.ref C) "__init__" =some (some (.ref f))
 fn:PySem.W.isFn K (.ref f)=true
 kp:PySem.W.keepIn K (.ref C)=true
def KJ {s:Shared}{Q:VK}(M:Mk X.K C f) (F:jW X.prog X.w X.K X.mg X.base CX k f fd ps sp) (hr:fQ (k+1) X.A) (hb:Binds X.K fd ps ds) (hd:Vals xW ds)
  (hx:Passes CX X E) (I:Inv X pins σ H s) (r:Vals vs us)
  (h:∀x dx,H x=none->H dx=none->dx≠x->sp (.ref x :: (vs++xW)) (upd (upd H dx (.own x)) x (.ins C dx [])) (fun v H2=>v= .cU/\Q (.ref x) H2) E):
  wpAny (model X.prog X.w) X.A (call (.ref C) us) (EP X pins σ Q) X.xe s:=by
 have hq:=h (s.heap.objs.size+1) s.heap.objs.size (I.hok.fresh (afI _)) (I.hok.fresh (aaC _)) (aaY (afv _))
 have I2:=Inv.made (C:=C) I
 have r2:Vals (V.ref (s.heap.objs.size+1) :: (vs++xW)) (Value.ref (s.heap.objs.size+1) :: (us++ds)):=.cons rfl (r.append hd)
 have hl:(Value.ref (s.heap.objs.size+1) :: us++ds).length=ps.length:=by
  have e:=r2.length
  rw[F.len _ _ _ _ hq] at e
  exact e.symm
 refine wpAny_call (KG (f:=f) I.xP M.makes M.init (afr.mp M.fn) (afw (F.run _ X.stack _ _ ⟨Value.ref (s.heap.objs.size+1) :: us,[]⟩ (Value.ref (s.heap.objs.size+1) :: (us++ds)) _ _ E (hr.make C us [])
  (I2.WZ.make C us []) (hb _ (Value.ref (s.heap.objs.size+1) :: us) I2.xP hl) r2 hq) fun r s' hq'=>?_))
 cases r with
 | error e=>exact hx pins σ _ _ e s' I2 hq'
 | ok fl=>
  cases fl with
  | ret u=>
   obtain⟨v,H',I3,rv,ev,q3⟩:=I2.after hq'
   subst ev
   exact⟨rv,⟨V.ref (s.heap.objs.size+1),H',I3,rfl,q3⟩⟩
  | next=>exact False.elim hq'
  | brk=>exact False.elim hq'
  | cont=>exact False.elim hq'
def OC (M:Mk X.K C f) (F:jW X.prog X.w X.K X.mg X.base CX k f fd ps sp) (hr:fQ (k+1) X.A) (hg:Gl X x) (hm:X.mg x=some (.ref C)) (hb:Binds X.K fd ps ds) (hd:Vals xW ds) (hx:Passes CX X E)
  (ha:PA X (e :: es) t) (hdb:(x == ("__debug__":Str))=false:=by decide) (he:starEach (e :: es) X.env=(false,eval e X.env) :: starEach es X.env:=by rfl) (hpl:(backTo pos (starEach es X.env)).any (·.1)=false:=by rfl):
  PE X (.Call (.Name x p) (e :: es) [] pos) (W2 C sp xW E t):=by
 intro pins s σ H Q I h
 refine ady (xq I hg hm ?_ hdb)
 refine afg (h₀:=X.base) I.ok.mod.Wu M.kp (eB (ha pos pins s σ H _ I h) fun us s1 ⟨vs,H1,I1,r,q⟩=>⟨I1.xP,?_⟩) he hpl
 exact KJ M F hr hb hd hx I1 r q
end
section
variable {X:Cx}{CX:JR}{k:Nat}{f C:Addr}{fd:FuncData}{ps ks:List Str}{sp:Sp}{E:XK}{x m:Str}{p pos apos kpos:Pos}{e o:Expr}{es:List Expr}{kws:List Keyword}{te ta:TE}{t tk:TA}{nm:Option Str}
variable {g:List Value->List Value->List Value}{gV:List V->List V->List V}
end
structure bA (N P:List Str) (sc:Scope):Prop where
 kind:sc.kind= .function
 co:sc.isCoroutine=false
 gen:sc.isGenerator=false
 nd:N.Nodup
 pre:N.take P.length=P
 par:∀x∈P,sc.names.lookup x=some .local\/sc.names.lookup x=some .cell
 SY:∀y∈sc.names,y.2≠.free
theorem Au {kindOf:Str->Option NameKind}{x:Str}:∀{binds:List (Str×Value)}{m:AAF},(∀v,(x,v)∉binds)->bindL kindOf binds m x=m x
 | [],_,_=>rfl
 | (n,v) :: r,m,h=>by
  unfold bindL
  rw[Au fun w hw=>h w (aaP _ hw)]
  split
  ·have:x≠n:=by rintro rfl;exact h v aaR
   simp[this]
  ·rfl
theorem Av {kindOf:Str->Option NameKind}{x:Str}:∀{binds:List (Str×Value)}{m:AAF},(∀v,(x,v)∉binds)->bindC kindOf binds m x=m x
 | [],_,_=>rfl
 | (n,v) :: r,m,h=>by
  unfold bindC
  rw[Av fun w hw=>h w (aaP _ hw)]
  split
  ·rfl
  ·have:x≠n:=by rintro rfl;exact h v aaR
   simp[this]
theorem Aw {kindOf:Str->Option NameKind}{x:Str}{v:Value}:∀{P:List Str}{vs:AAL}{i:Nat}{m:AAF},P.Nodup->P[i]? =some x->vs[i]? =some v->kindOf x=some .local->
  bindL kindOf (P.zip vs) m x=some v
 | [],_,_,_,_,h,_,_=>by simp at h
 | _ :: _,[],_,_,_,_,h,_=>by simp at h
 | p :: P,w :: vs,0,m,nd,h1,h2,hk=>by
  simp at h1 h2;subst h1;subst h2
  show bindL kindOf ((p,w) :: P.zip vs) m p=_
  unfold bindL
  rw[Au fun v hv=>(ac0.mp nd).1 (afF hv).1,if_pos hk]
  simp
 | p :: P,w :: vs,i+1,m,nd,h1,h2,hk=>by
  show bindL kindOf ((p,w) :: P.zip vs) m x=_
  unfold bindL
  exact Aw (i:=i) (ac0.mp nd).2 (by simpa using h1) (by simpa using h2) hk
theorem Ax {kindOf:Str->Option NameKind}{x:Str}{v:Value}:∀{P:List Str}{vs:AAL}{i:Nat}{m:AAF},P.Nodup->P[i]? =some x->vs[i]? =some v->kindOf x≠some .local->
  bindC kindOf (P.zip vs) m x=some v
 | [],_,_,_,_,h,_,_=>by simp at h
 | _ :: _,[],_,_,_,_,h,_=>by simp at h
 | p :: P,w :: vs,0,m,nd,h1,h2,hk=>by
  simp at h1 h2;subst h1;subst h2
  show bindC kindOf ((p,w) :: P.zip vs) m p=_
  unfold bindC
  rw[Av fun v hv=>(ac0.mp nd).1 (afF hv).1,if_neg hk]
  simp
 | p :: P,w :: vs,i+1,m,nd,h1,h2,hk=>by
  show bindC kindOf ((p,w) :: P.zip vs) m x=_
  unfold bindC
  exact Ax (i:=i) (ac0.mp nd).2 (by simpa using h1) (by simpa using h2) hk
noncomputable def start (N:List Str) (vs:List V):St:=vs.map some++List.replicate (N.length - vs.length) none
noncomputable def Bw (CX:JR) (P:Program) (w:World) (K:AAD) (mg:AAF) (base:Heap) (N:List Str) (qual:Str) (scope:Scope) (f:Addr) (cd:Value) (A:Around) (outer:List Env) (s:Shared) (H:Hp) (E:XK):Cx where
 prog:=P
 w:=w
 K:=K
 mg:=mg
 base:=base
 A:=A.deeper (envOfC qual scope s.heap.objs.size f cd)
 N:=N
 s₀:=s
 H₀:=H
 env:=envOfC qual scope s.heap.objs.size f cd
 outer:=outer
 stack:=envOfC qual scope s.heap.objs.size f cd :: outer
 ex:=[]
 calm:=true
 fn:=fun a=>true
 pn:=[]
 xe:=fun e s'=>wpAny (model P w) (A.deeper (envOfC qual scope s.heap.objs.size f cd)) (leaving (envOfC qual scope s.heap.objs.size f cd) e) (fun a s''=>CX outer H s E e s'') (fun e' s''=>CX outer H s E e' s'') s'
def CM {sc:Scope}{n:Nat}(h:sc.names.lookup x=some .cell):∃c,(cellsFrom n sc.names []).lookup x=some c:=by
 have q:=PySem.W.cellsFrom_some sc.names n [] (.inl h)
 exact Option.isSome_iff_exists.mp q
def HU {CX:JR}{f:Addr}{cd:Value}{s s1:Shared}{E:XK}
  (S:bA N ps scope) (hd:A.handled=none) (e0:EF P w K mg base A outer s H) (hl:vs.length=ps.length) (r:Vals vs us)
  (x:InCallC s s.heap.objs.size (bindL (envOfC qual scope s.heap.objs.size f cd).kindOf (ps.zip us) fun d=>none) (cellsFrom (s.heap.objs.size+1) scope.names []) (bindC (envOfC qual scope s.heap.objs.size f cd).kindOf (ps.zip us) fun d=>none) s1):
  Inv (Bw CX P w K mg base N qual scope f cd A outer s H E) [] (start N vs) H s1:=by
 have hpl:ps.length<=N.length:=by have:=congrArg List.length S.pre;rw[ad4] at this;omega
 obtain⟨h1,tk,rfl,hk⟩:=x.done
 have W3:∀b:Addr,b∉(Bw CX P w K mg base N qual scope f cd A outer s H E).ex:=fun b z=>absurd (show b∈([]:List Addr) from z) (by simp)
 refine⟨⟨e0.mod,S.kind,rfl,rfl,aaC _,fun y z c h1 h2=>?_,fun y hy=>?_,fun y c d h=>?_,fun d=>hd,Around.frames_deeper e0.frames,.inr ⟨rfl,rfl⟩,fun b z=>absurd z (W3 b),e0.bs,e0.Kh,fun b d d=>W3 b,fun b z=>absurd z (W3 b),e0.wJ,e0.RZ⟩,
  rfl,e0.bare,Un.kept hk,⟨_,x.toInCall.ns,fun i y v h1 h2 h3=>?_⟩,fun y c h=>⟨_,x.cell y c h⟩,e0.hok.fresh (aaC _),fun y c h=>?_,fun p hp=>absurd (show p∈([]:AAG) from hp) (by simp),e0.hok.kept hk,?_⟩
 ·exact name_of_addr x.apart (acK h1) (acK h2)
 ·have hy:scope.names.lookup y=some .cell\/scope.names.lookup y=some .free:=hy
  rcases hy with hy | hy
  ·exact CM hy
  ·exact absurd rfl (S.SY _ (acK hy))
 ·exact aeH (x.above y c (acK h))
 ·have hi:i < vs.length:=by
   unfold start at h2
   by_cases hi:i < vs.length
   ·exact hi
   ·rw[ad6 (by simpa using hi)] at h2
    rw[aem] at h2
    split at h2 <;> cases h2
  have ha:vs[i]? =some v:=by
   unfold start at h2
   rw[ada (by simpa using hi),aaO] at h2
   cases e:vs[i]? with
   | none=>rw[e] at h2;cases h2
   | some a=>rw[e] at h2;cases h2;rfl
  obtain⟨u,hu,rv⟩:=r.get ha
  have hp:ps[i]? =some y:=by
   rw[<-S.pre,List.getElem?_take_of_lt (by omega)];exact h1
  have ndP:ps.Nodup:=by rw[<-S.pre];exact S.nd.sublist (List.take_sublist _ _)
  refine⟨u,rv,?_⟩
  rcases S.par y (ab3 hp) with k | k
  ·exact .inl ⟨k,Aw ndP hp hu k⟩
  ·obtain⟨c,e⟩:=CM (n:=s.heap.objs.size+1) k
   refine .inr ⟨.inl k,c,e,?_⟩
   have q:=x.cell y c e
   rw[Ax ndP hp hu (by show scope.names.lookup y≠_;rw[k];decide)] at q
   exact q
 ·exact e0.hok.fresh (aeH (x.above y c (acK h)))
 ·unfold start
  show _=N.length
  rw[aaB,aaw,aeB]
  omega
def W4 {CX:JR}{f:Addr}{name:Str}{params:Arguments}{dV kV doc pm cdv ct oc:Value}{an od:Option Addr}
  {osl:Array (Option Value)}{sp:Sp}(lk:K.lookup f=some ⟨oc,od,.func (PySem.W.fnOf name qual params body scope dV kV doc pm an cdv ct),osl⟩) (hcd:PySem.W.codeIn K cdv qual=true) (S:bA N ps scope)
  (len:∀vs H Q E,sp vs H Q E->vs.length=ps.length)
  (hbody:∀(A:Around) (outer:List Env) (s:Shared) (H:Hp) (vs:List V) (Q:VK) (E:XK),fQ k (A.deeper (envOfC qual scope s.heap.objs.size f cdv))->sp vs H Q E->
   ∃t,Em (Bw CX P w K mg base N qual scope f cdv A outer s H E) body t/\t {nx:=fun a H'=>Q .cU H',rt:=Q} (start N vs) H):
  jW P w K mg base CX (k+1) f (PySem.W.fnOf name qual params body scope dV kV doc pm an cdv ct) ps sp:=by
 refine⟨len,fun A outer s H args us vs Q E hr e0 hb r Rn=>?_⟩
 have hl:=len _ _ _ _ Rn
 have KX:K.In s.heap:=e0.mod.Wu.keeps fun b o e=>(e0.bs b o e).1
 have lim:s.heap.NoLimit:=e0.mod.nolimit.keeps fun b o e=>(e0.bs b o e).1
 have hkind:∀y∈ps.zip us,scope.names.lookup y.1=some .local\/(scope.names.lookup y.1=some .cell/\((cellsFrom (s.heap.objs.size+1) scope.names []).lookup y.1).isSome=true):=fun⟨n,v⟩ hy=>by
  rcases S.par n (afF hy).1 with q | q
  ·exact .inl q
  ·exact .inr ⟨q,PySem.W.cellsFrom_some _ _ _ (.inl q)⟩
 refine codeAny_call_function hr.depth (KX _ _ lk) rfl S.co S.gen rfl (PySem.W.codeRec_of KX hcd) (hb _ _ _ _ ?_)
 refine wpAny_newFunctionEnv_cells S.kind hkind fun env he s1 x=>?_
 subst he
 refine⟨lim.keeps x.toInCall.keep,codeAny_func ?_⟩
 obtain⟨t,ht,hq⟩:=hbody A outer s H vs Q E (hr.deeper _) Rn
 have I:Inv (Bw CX P w K mg base N qual scope f cdv A outer s H E) [] (start N vs) H s1:=HU S hr.hd e0 hl r x
 refine acL (ht [] s1 (start N vs) H _ I hq) (fun fl s' hs=>?_) fun e s' hs=>hs
 have fin:∀{σ':St}{H':Hp}{v:V}{u:Value},Inv (Bw CX P w K mg base N qual scope f cdv A outer s H E) [] σ' H' s'->RelV v u->Q v H'->CE outer P w H s Q u s':=
  fun {σ' H' v u} J rv q=>⟨v,H',J.os,J.bare,J.base,J.hok,rv,q⟩
 cases fl with
 | ret u=>
  obtain⟨v,σ',H',J,rv,q⟩:=hs
  exact fin J rv q
 | next=>
  obtain⟨σ',H',J,q⟩:=hs
  exact fin (v:=V.cU) (u:=Value.none) J rfl q
 | brk=>
  obtain⟨_,_,_,q⟩:=hs
  exact False.elim q
 | cont=>
  obtain⟨_,_,_,q⟩:=hs
  exact False.elim q
section
variable {X:Cx}{x:Str}{p pos:Pos}{e:Expr}{es:List Expr}{t:TA}{id T:String}{r:List V->Hp->VK->Prop}
def tCB (r:List V->Hp->VK->Prop) (t:TA):TE:=fun σ H Q=>t σ H fun vs H1=>r vs H1 Q
def mQ (hc:gJ X (.builtin id) r) (hg:Gl X x) (hm:X.mg x=none) (hv:bootBuiltins x=some (.builtin id)) (ha:PA X (e :: es) t) (hn:x≠"__name__":=by decide) (hdb:(x == ("__debug__":Str))=false:=by decide)
  (he:starEach (e :: es) X.env=(false,eval e X.env) :: starEach es X.env:=by rfl) (hpl:(backTo pos (starEach es X.env)).any (·.1)=false:=by rfl):PE X (.Call (.Name x p) (e :: es) [] pos) (tCB r t):=by
 intro pins s σ H Q I h
 refine ady (nA I hg hm hv ?_ hn hdb)
 exact PyProof.Rows.callWith_builtin1 (eB (ha pos pins s σ H _ I h) fun us s1 ⟨vs,H1,I1,r1,q1⟩=>hc pins s1 σ H1 vs us Q I1 r1 q1) he hpl
def HV (hc:gJ X (.type T) r) (hg:Gl X x) (hm:X.mg x=none) (hv:bootBuiltins x=some (.type T)) (ha:PA X (e :: es) t) (hn:x≠"__name__":=by decide) (hdb:(x == ("__debug__":Str))=false:=by decide)
  (he:starEach (e :: es) X.env=(false,eval e X.env) :: starEach es X.env:=by rfl) (hpl:(backTo pos (starEach es X.env)).any (·.1)=false:=by rfl):PE X (.Call (.Name x p) (e :: es) [] pos) (tCB r t):=by
 intro pins s σ H Q I h
 refine ady (nA I hg hm hv ?_ hn hdb)
 exact acC (eB (ha pos pins s σ H _ I h) fun us s1 ⟨vs,H1,I1,r1,q1⟩=>hc pins s1 σ H1 vs us Q I1 r1 q1) he hpl
end
section
variable {κ:Type} [DecidableEq κ]
noncomputable def rM (kvs:List (κ×V)) (k:κ):Option V:=(kvs.find? fun kv=>decide (kv.1=k)).map (·.2)
noncomputable def putK (kvs:List (κ×V)) (k:κ) (v:V):List (κ×V):=
 if(kvs.any fun kv=>decide (kv.1=k))=true then kvs.map (fun kv=>if kv.1=k then(kv.1,v) else kv) else kvs++[(k,v)]
def sS {p:κ×V}{r:List (κ×V)}{k:κ}(e:p.1=k):rM (p :: r) k=some p.2:=by simp[rM,ab4,e]
def oY {p:κ×V}{r:List (κ×V)}{k:κ}(e:¬p.1=k):rM (p :: r) k=rM r k:=by simp[rM,ab4,e]
theorem CN (k:κ):∀kvs:List (κ×V),(kvs.any fun kv=>decide (kv.1=k))=(rM kvs k).isSome
 | []=>rfl
 | p :: r=>by
  rw[acm]
  by_cases e:p.1=k
  ·simp only[sS e,ab6 e,Bool.true_or,Option.isSome_some]
  ·rw[oY e,aa6 e,Bool.false_or];exact CN k r
def oZ (kvs:List (κ×V)) (k:κ) (v:V):(putK kvs k v).length<=kvs.length+1:=by
 unfold putK
 split
 ·rw[aaw];omega
 ·rw[aaB,aar,aeb];omega
def qW.uL {o:Option V}{u:Option Value}(r:qW o u):o.isSome=u.isSome:=by
 cases o with
 | none=>cases u with
  | none=>rfl
  | some _=>exact(show False from r).elim
 | some _=>cases u with
  | none=>exact(show False from r).elim
  | some _=>rfl
def KV.val {kvs:List (κ×V)}{vs:List (κ×Value)}(r:KV kvs vs) (k:κ):qW (rM kvs k) (valueAt vs k):=by
 unfold KV at r
 induction r with
 | nil=>exact True.intro
 | @cons p q ps qs h t ih=>
  obtain⟨h1,h2⟩:=h
  by_cases e:p.1=k
  ·have e':q.1=k:=h1.symm.trans e
   have b:valueAt (q :: qs) k=some q.2:=by simp[valueAt,ab4,e']
   rw[sS e,b];exact h2
  ·have e':¬q.1=k:=fun z=>e (h1.trans z)
   have b:valueAt (q :: qs) k=valueAt qs k:=by simp[valueAt,ab4,e']
   rw[oY e,b];exact ih
def KV.any {kvs:List (κ×V)}{vs:List (κ×Value)}(r:KV kvs vs) (k:κ):(kvs.any fun kv=>decide (kv.1=k))=vs.any fun kv=>decide (kv.1=k):=by
 unfold KV at r
 induction r with
 | nil=>rfl
 | cons h t ih=>rw[acm,acm,ih,h.1]
def KV.repl {kvs:List (κ×V)}{vs:List (κ×Value)}(r:KV kvs vs) (k:κ)(ry:RelV y u):
  KV (kvs.map fun kv=>if kv.1=k then(kv.1,y) else kv) (vs.map fun kv=>if kv.1=k then(kv.1,u) else kv):=by
 unfold KV at r ⊢
 induction r with
 | nil=>exact .nil
 | @cons p q ps qs h t ih=>
  rw[aaQ,aaQ]
  refine .cons ?_ ih
  obtain⟨h1,h2⟩:=h
  by_cases e:p.1=k
  ·rw[if_pos e,if_pos (h1.symm.trans e)];exact⟨h1,ry⟩
  ·rw[if_neg e,if_neg (fun z=>e (h1.trans z))];exact⟨h1,h2⟩
def KV.put {kvs:List (κ×V)}{vs:List (κ×Value)}(r:KV kvs vs) (k:κ)(ry:RelV y u):KV (putK kvs k y) (stored vs k u):=by
 unfold putK stored
 rw[r.any k]
 by_cases e:(vs.any fun kv=>decide (kv.1=k))=true
 ·rw[if_pos e,if_pos e];exact r.repl k ry
 ·rw[if_neg e,if_neg e];exact Paired.snoc r ⟨rfl,ry⟩
def KV.length {kvs:List (κ×V)}{vs:List (κ×Value)}(r:KV kvs vs):kvs.length=vs.length:=afk r
end
def CO {k:Key}(r:RelV (kV k) u):(dU P w).is k u=true:=by
 cases k with
 | inl i=>obtain⟨t,e⟩:=(show ∃t,u=Value.int i t from r);subst e;exact CI P w i t
 | inr x=>obtain⟨t,e⟩:=(show ∃t,u=Value.str x t from r);subst e;exact oR P w x t
abbrev KT (H:Hp):List (D×V)->List (D×Addr×Value)->Prop:=Paired fun p q=>p.1=q.1/\Kd H q.2.1 p.1/\RelV p.2 q.2.2
def KT.val (r:KT H kvs xs) (k:D):qW (rM kvs k) ((atKey xs k).map (·.2)):=by
 induction r with
 | nil=>exact True.intro
 | @cons p q ps qs h t ih=>
  obtain⟨h1,_,h2⟩:=h
  by_cases e:p.1=k
  ·have e':q.1=k:=h1.symm.trans e
   have b:atKey (q :: qs) k=some q.2:=by simp[atKey,ab4,e']
   rw[sS e,b];exact h2
  ·have e':¬q.1=k:=fun z=>e (h1.trans z)
   have b:atKey (q :: qs) k=atKey qs k:=by simp[atKey,ab4,e']
   rw[oY e,b];exact ih
def KT.repl (r:KT H kvs xs) (k:D)(ry:RelV y u):
  KT H (kvs.map fun kv=>if kv.1=k then(kv.1,y) else kv) (xs.map (putAt k u)):=by
 induction r with
 | nil=>exact .nil
 | @cons p q ps qs h t ih=>
  rw[aaQ,aaQ]
  refine .cons ?_ ih
  obtain⟨h1,h2,h3⟩:=h
  unfold putAt
  by_cases e:p.1=k
  ·rw[if_pos e,if_pos (h1.symm.trans e)];exact⟨h1,h2,ry⟩
  ·rw[if_neg e,if_neg (fun z=>e (h1.trans z))];exact⟨h1,h2,h3⟩
def KT.put (r:KT H kvs xs) (k:D){b:Addr}(hb:Kd H b k) (ry:RelV y u):
  KT H (putK kvs k y) (storedH xs k b u):=by
 have e:(kvs.any fun kv=>decide (kv.1=k))=(atKey xs k).isSome:=by
  rw[CN,(r.val k).uL,Option.isSome_map]
 unfold putK storedH
 rw[e]
 by_cases q:(atKey xs k).isSome=true
 ·rw[if_pos q,if_pos q];exact r.repl k ry
 ·rw[if_neg q,if_neg q];exact Paired.snoc r ⟨rfl,hb,ry⟩
def KT.keeps (r:KT H kvs xs) (ht:∀b ys,H b=some (.tup ys)->H' b=some (.tup ys)):KT H' kvs xs:=
 Paired.HH r fun a a z=>⟨z.1,z.2.1.tups ht,z.2.2⟩
section
variable {P:Program}{w:World}{H:Hp}{h:Heap}{a:Addr}
def Ro {u:HO}(ok:oN P w H h) (e:Rd H a u):eY P w H h a u:=e.ok ok
def CP {kvs:List (Key×V)}(ok:oN P w H h) (e:Rd H a (.dK kvs)):kvs.length<=sizeLine/\(a == sysModules)=false/\∃vs,KV kvs vs/\h.DictOf (dU P w) a vs:=
 show eY P w H h a (.dK kvs) from Ro ok e
def Rp {kvs:List (Key×V)}(ok:oN P w H h) (e:H a=some (.dK kvs)):kvs.length<=sizeLine/\(a == sysModules)=false/\∃vs,KV kvs vs/\h.DictOf (dU P w) a vs:=CP ok (.inl e)
mutual
theorem KL (ok:oN P w H h):∀(d:D){n:Nat}{v:V}{u:Value},Rep H v d->RelV v u->fK n d=true->zH h u (nf d)
 | .cU,n,_,_,_,_,k=>by simp[fK] at k
 | .lst _,n,_,_,_,_,k=>by simp[fK] at k
 | .bl b,n,_,_,r,q,k=>by cases r;cases q;exact .bool b
 | .int i,n,_,_,r,q,k=>by cases r;obtain⟨t,rfl⟩:=q;exact .int i t
 | .str i,n,_,_,r,q,k=>by cases r;obtain⟨t,rfl⟩:=q;exact .str i t
 | .tup ds,n,_,_,r,q,k=>by
  cases n with
  | zero=>simp[fK] at k
  | succ n=>
   cases r with
   | @tup a vs _ e rs=>
    cases q
    obtain⟨_,its,rv,o,h1,h2,m,h3⟩:=(show eY P w H h a (.tup vs) from ok a _ e)
    exact .tup ⟨o,h1,h2,m,h3⟩ (Gq ok ds rs rv k)
theorem Gq (ok:oN P w H h):∀(ds:List D){n:Nat}{vs:List V}{us:AAL},bH H vs ds->Vals vs us->ds.all (fK n)=true->lN h us (Wn ds)
 | [],n,_,_,r,q,k=>by cases r;cases q;exact .nil
 | d :: ds,n,_,_,r,q,k=>by
  rw[acg,aa7] at k
  cases r with
  | cons r1 r2=>
   cases q with
   | cons q1 q2=>exact .cons (KL ok d r1 q1 k.1) (Gq ok ds r2 q2 k.2)
end
def Bx {ks:D}(ok:oN P w H h) (e:Kd H a ks):(mO P w).is h ks a:=by
 obtain⟨d,r,hk,rfl⟩:=e
 exact⟨KL ok d r rfl hk,Gj d 8 hk⟩
def Gr (ok:oN P w H h) (e:Rd H a (.dT kvs)):kvs.length<=sizeLine/\(a == sysModules)=false/\
  ∃xs,KT H kvs xs/\h.DictOfH (mO P w) a xs:=by
 obtain⟨z,y,xs,r,o,es,ep,h1,h2,h3,h4,h5⟩:=(show eY P w H h a (.dT kvs) from Ro ok e)
 refine⟨z,y,xs,r,o,es,ep,h1,h2,h3,h4,fun x hx=>?_,h5⟩
 have all:∀{l:List (D×V)}{m:List (D×Addr×Value)},KT H l m->∀x∈m,(mO P w).is h x.1 x.2.1:=by
  intro l m q
  induction q with
  | nil=>intro x hx;exact nomatch hx
  | @cons p q ps qs hq t ih=>
   intro x hx
   rcases aaA.mp hx with e | hx
   ·subst e
    exact Bx ok (by rw[<-hq.1];exact hq.2.1)
   ·exact ih x hx
 exact all r x hx
def Rq (ok:oN P w H h) (e:H a=some (.dT kvs)):kvs.length<=sizeLine/\(a == sysModules)=false/\
  ∃xs,KT H kvs xs/\h.DictOfH (mO P w) a xs:=Gr ok (.inl e)
end
def S4 (y:V) (k:Key):Prop:=y=kV k\/∃b,y= .bl b/\k= .inl (bI b)
def S4.is {P:Program}{w:World}{y:V}{k:Key}{u:Value}(e:S4 y k) (r:RelV y u):(dU P w).is k u=true:=by
 rcases e with rfl | ⟨b,rfl,rfl⟩
 ·exact CO r
 ·cases r;exact ab6 rfl
def o7 (H:Hp) (a:Addr) (y:V) (r:Option V):Prop:=
 (∃kvs k,Rd H a (.dK kvs)/\S4 y k/\r=rM kvs k)\/∃kvs k b,Rd H a (.dT kvs)/\y= .ref b/\Kd H b k/\r=rM kvs k
def CQ (H:Hp) (a:Addr) (y v:V) (H':Hp):Prop:=
 (∃kvs k,H a=some (.dK kvs)/\S4 y k/\kvs.length < sizeLine/\H'=upd H a (.dK (putK kvs k v)))\/
 ∃kvs k b,H a=some (.dT kvs)/\y= .ref b/\Kd H b k/\kvs.length < sizeLine/\H'=upd H a (.dT (putK kvs k v))
def o7.t {b:Addr}{k:D}(e:H a=some (.dT kvs)) (eb:Kd H b k):o7 H a (.ref b) (rM kvs k):=.inr ⟨kvs,k,b,.inl e,rfl,eb,rfl⟩
def CQ.t {b:Addr}{k:D}{v:V}(e:H a=some (.dT kvs)) (eb:Kd H b k) (hl:kvs.length < sizeLine):
  CQ H a (.ref b) v (upd H a (.dT (putK kvs k v))):=.inr ⟨kvs,k,b,e,rfl,eb,hl,rfl⟩
section
variable {X:Cx}{pins:AAG}{σ:St}{H:Hp}{s:Shared}{a:Addr}{y v:V}{u r:Value}{o:Option V}{A:Around}{E:AAE}
def Inv.big (I:Inv X pins σ H s):sysModules < s.heap.objs.size:=by
 have h:mainGlobals < s.heap.objs.size:=(I.mod.glob.keeps I.bk).lt
 exact Nat.lt_trans (by decide) h
def HW (hu:A.units+20 < cLine) (I:Inv X pins σ H s) (g:o7 H a y (some v)) (ry:RelV y u) (h:∀w' s',Inv X pins σ H s'->RelV v w'->Q w' s'):
  wpAny (model X.prog X.w) A (getItem (.ref a) u) Q E s:=by
 rcases g with⟨kvs,k,e,ey,l⟩ | ⟨kvs,k,b,e,ey,eb,l⟩
 ·obtain⟨z,hd,vs,rel,dd⟩:=CP I.hok e
  obtain⟨w',hw,rw'⟩:=qW.some_of (v:=v) (o:=valueAt vs k) (by rw[l];exact rel.val k)
  exact wpAny_getItem_of (ey.is ry) dd.mapOf hw (h w' _ (I.tok _) rw')
 ·subst ey
  cases(show u=Value.ref b from ry)
  obtain⟨z,hd,xs,rel,dd⟩:=Gr I.hok e
  obtain⟨w',hw,rw'⟩:=qW.some_of (v:=v) (o:=(atKey xs k).map (·.2)) (by rw[l];exact rel.val k)
  obtain⟨p,hp,hp2⟩:=Option.map_eq_some_iff.mp hw
  refine wpAny_getItem_heap (l7 hu) (Bx I.hok eb) dd hp ?_
  rw[hp2]
  exact h w' _ (I.tok _) rw'
def OD (hu:A.units+20 < cLine) (I:Inv X pins σ H s) (g:o7 H a y o) (ry:RelV y u) (h:∀s',Inv X pins σ H s'->Q (.bool (!o.isSome)) s'):
  wpAny (model X.prog X.w) A (compareOp .NotIn u (.ref a)) Q E s:=by
 rcases g with⟨kvs,k,e,ey,l⟩ | ⟨kvs,k,b,e,ey,eb,l⟩
 ·obtain⟨z,hd,vs,rel,dd⟩:=CP I.hok e
  refine wpAny_notIn_of (ey.is ry) hd dd.mapOf ?_
  rw[<-(rel.val k).uL,<-l]
  exact h _ (I.tok _)
 ·subst ey
  cases(show u=Value.ref b from ry)
  obtain⟨z,hd,xs,rel,dd⟩:=Gr I.hok e
  refine wpAny_notIn_heap (l7 hu) (Bx I.hok eb) hd dd ?_
  have q:=(rel.val k).uL
  rw[Option.isSome_map] at q
  rw[<-q,<-l]
  exact h _ (I.tok _)
def By {h':Heap}{ob:HO}(I:Inv X pins σ H s) (mu:Ws (H a)) (hs:Heap.SameBut a s.heap h') (he:∃q,h'.get? a=some q) (new:eY X.prog X.w (upd H a ob) h' a ob):
  Inv X pins σ (upd H a ob) {s with heap:=h',toks:=t'}:=
 I.write (x:=a) (e:=a) mu (.inl rfl) (fun b q hb z=>(hs.2 b hb).trans z) he new
def KN {h':Heap}{kvs:List (Key×V)}{vs:List (Key×Value)}(z:kvs.length<=sizeLine) (hd:(a == sysModules)=false) (rel:KV kvs vs) (dd:h'.DictOf (dU P w) a vs):
  eY P w H' h' a (.dK kvs):=⟨z,hd,vs,rel,dd⟩
def HX {Q:Unit->Shared->Prop}(hu:A.units+20 < cLine) (I:Inv X pins σ H s) (g:CQ H a y v H') (ry:RelV y u) (rv:RelV v r) (h:∀s',Inv X pins σ H' s'->Q () s'):
  wpAny (model X.prog X.w) A (setItem (.ref a) u r) Q E s:=by
 rcases g with⟨kvs,k,e,ey,l,eH⟩ | ⟨kvs,k,b,e,ey,eb,l,eH⟩
 ·subst eH
  obtain⟨z,hd,vs,rel,dd⟩:=Rp I.hok e
  have hz:vs.length<=sizeLine:=by rw[<-rel.length];exact z
  have hl:(putK kvs k v).length<=sizeLine:=by have:=oZ kvs k v;omega
  refine wpAny_setItem_pairs (hsz:=hz) (ey.is ry) dd fun h' S5 hs=>h _ ?_
  have he:∃q,h'.get? a=some q:=let⟨q,_,_,hq,_⟩:=S5;⟨q,hq⟩
  exact By I (by rw[e];exact True.intro) hs he (KN hl hd (rel.put k rv) S5)
 ·subst ey eH
  cases(show u=Value.ref b from ry)
  obtain⟨z,hd,xs,rel,dd⟩:=Rq I.hok e
  have hz:xs.length<=sizeLine:=by rw[<-afk rel];exact z
  have hl:(putK kvs k v).length<=sizeLine:=by have:=oZ kvs k v;omega
  refine wpAny_setItem_heap (hsz:=hz) (l7 hu) (Bx I.hok eb) dd fun h' S5 hs=>h _ ?_
  obtain⟨q,es,ep,hq,h2,h3,h4,_,h5⟩:=S5
  refine By I (by rw[e];exact True.intro) hs ⟨q,hq⟩ ⟨hl,hd,_,(rel.put k eb rv).keeps fun c ys ec=>?_,q,es,ep,hq,h2,h3,h4,h5⟩
  rw[bf (Wr ec e (fun z=>nomatch z))]
  exact ec
end
section
variable {X:Cx}{pins:AAG}{σ:St}{H:Hp}{s:Shared}{a:Addr}{kvs:List (Key×V)}{k:Key}{u:Value}{A:Around}{E:AAE}
def W5 (I:Inv X pins σ H s) (e:Rd H a (.dK kvs)) (h:∀t s',Inv X pins σ H s'->Q (.int kvs.length t) s'):wpAny (model X.prog X.w) A (call (.builtin "len") [.ref a]) Q E s:=by
 obtain⟨z,hd,vs,rel,dd⟩:=CP I.hok e
 refine call_len_dict hd dd (by rw[<-rel.length];rw[afa] at z;omega) ?_
 rw[<-rel.length]
 exact h _ _ (I.tok _)
end
def OE (i:Expr):Prop:=∀ov iv,subscripted i false ov iv=operate [ov,iv] (getItem ov iv)
def Gs {s:Shared}{env:Env}{value slice:Expr}{T id:String}
  (hl:typeLookup (.type T) "__getitem__" =pure (some (.builtin id))) (hs:OE slice)
  (h:wpAny (model prog w) A (eval value env) (fun o s₁=>wpAny (model prog w) A (eval slice env) (fun i s₂=>s₂.TypeIs o T/\wpAny (model prog w) A (getItem o i) Q E s₂) E s₁) E s):
  wpAny (model prog w) A (eval (.Subscript value slice pos) env) Q E s:=by
 refine Subscript_ (acL h (fun o s₁ h₁=>acL h₁ (fun i s₂ h₂=>?_) fun a a x=>x) fun a a x=>x)
 obtain⟨hT,h₂⟩:=h₂
 unfold subscriptTail
 refine aae ?_
 rw[getitemInPython_of_ne hT.not_modules]
 refine aae (aeG hT hl ?_)
 have fin:wpAny (model prog w) A (subscripted slice false o i) (fun r s₃=>wpAny (model prog w) A (letTemporaryGo value o r >>= fun a=>pure r) Q E s₃) E s₂:=by
  rw[hs o i]
  exact wpAny_operating (acL h₂ (fun r s₃ h₃=>aae (wpAny_letTemporaryGo (aag h₃))) fun a a x=>x)
 first
  | exact aag (aae fin)
  | exact aae (aag (aae fin))
  | exact aae fin
def CS {s:Shared}{o:Option V}(I:Inv X pins σ H s) (g:o7 H a y o):s.TypeIs (.ref a) "dict":=by
 rcases g with⟨kvs,k,e,_,_⟩ | ⟨kvs,k,b,e,_,_,_⟩
 ·obtain⟨_,_,vs,_,dd⟩:=CP I.hok e
  exact dd.typeIs
 ·obtain⟨_,_,xs,_,dd⟩:=Gr I.hok e
  exact dd.typeIs
def W6 (td ty:TE):TE:=fun σ H Q=>td σ H fun x H1=>ty σ H1 fun y H2=>∃a v,x= .ref a/\o7 H2 a y (some v)/\Q v H2
def Gu (ty td:TE):TE:=fun σ H Q=>ty σ H fun y H1=>td σ H1 fun x H2=>∃a o,x= .ref a/\o7 H2 a y o/\Q (.bl (!o.isSome)) H2
def W7 (td ty tv:TE):TS:=fun D σ H=>tv σ H fun v H1=>td σ H1 fun x H2=>ty σ H2 fun y H3=>∃a H4,x= .ref a/\CQ H3 a y v H4/\D.nx σ H4
section
variable {X:Cx}{o i e value:Expr}{pos pos' tpos:Pos}{td ty tv:TE}
def Gv (hu:X.A.units+20 < cLine) (ho:PE X o td) (hi:PE X i ty) (hs:OE i):PE X (.Subscript o i pos) (W6 td ty):=by
 intro pins s σ H Q I h
 refine Gs afs.lookup hs (eB (ho pins s σ H _ I h) fun u s1 ⟨x,H1,I1,rx,q1⟩=>eB (hi pins s1 σ H1 _ I1 q1) fun iv s2 hh=>?_)
 obtain⟨y,H2,I2,ry,a,v,ex,g,q2⟩:=hh
 subst ex
 obtain rfl:u=Value.ref a:=rx
 exact⟨CS I2 g,HW hu I2 g ry fun w' s3 I3 rw'=>⟨v,H2,I3,rw',q2⟩⟩
def HY (hu:X.A.units+20 < cLine) (hi:PE X i ty) (ho:PE X o td):PC X .NotIn i o (Gu ty td):=by
 intro pins s σ H Q I h
 refine eB (hi pins s σ H _ I h) fun iv s1 ⟨y,H1,I1,ry,q1⟩=>eB (ho pins s1 σ H1 _ I1 q1) fun u s2 hh=>?_
 obtain⟨x,H2,I2,rx,a,ov,ex,g,q2⟩:=hh
 subst ex
 obtain rfl:u=Value.ref a:=rx
 exact OD hu I2 g ry fun s3 I3=>⟨.bl (!ov.isSome),H2,I3,rfl,q2⟩
def Gw (hu:X.A.units+20 < cLine) (ho:PE X o td) (hi:PE X i ty) (hv:PE X value tv) (hs:swapsWith value (some (.Subscript o i pos')) pos.line X.env=pure false):
  PS X (.Assign [.Subscript o i pos'] value pos) (W7 td ty tv):=by
 intro pins s σ H D I h
 refine wpAny_Assign_Subscript (eB (hv pins s σ H _ I h) fun r s1 ⟨v,H1,I1,rv,q1⟩=>eB (ho pins s1 σ H1 _ I1 q1) fun u s2 ⟨x,H2,I2,rx,q2⟩=>eB (hi pins s2 σ H2 _ I2 q2) fun iv s3 hh=>?_) hs
 obtain⟨y,H3,I3,ry,a,H4,ex,g,q3⟩:=hh
 subst ex
 obtain rfl:u=Value.ref a:=rx
 exact HX hu I3 g ry rv fun s4 I4=>⟨σ,H4,I4,q3⟩
end
def KO (h:Heap) (hb:sysModules < h.objs.size):eY P w H (h.push {cls:=.type "dict",data:=.dict #[]}) h.objs.size (.dK []):=
 ⟨acJ _,adh.mpr (ac2 (aaY hb)),[],.nil,Heap.DictOf.new h⟩
def KP (h:Heap) (hb:sysModules < h.objs.size):eY P w H (h.push {cls:=.type "dict",data:=.dict #[]}) h.objs.size (.dT []):=
 ⟨acJ _,adh.mpr (ac2 (aaY hb)),[],.nil,_,#[],0,aaJ _ rfl,⟨rfl,rfl,rfl⟩,rfl,rfl,adK⟩
def S6:TE:=fun a H Q=>∀p,H p=none->Q (.ref p) (upd H p (.dT []))
section
variable {X:Cx}{pos:Pos}
def KQ:PE X (.Dict [] [] pos) S6:=fun pins s σ H Q I h=>
 wpAny_Dict_empty ⟨.ref s.heap.objs.size,_,I.laid (a:=s.heap.objs.size) (o:=.dT []) (t':=s.toks) (fun b b q=>aaf _ q) (aaC _) (KP s.heap I.big),rfl,h _ (I.hok.fresh (aaC _))⟩
end
def xX:List (TE×TE)->St->Hp->(List (V×V)->Hp->Prop)->Prop
 | [],_,H,Q=>Q [] H
 | (tk,tv) :: r,σ,H,Q=>tk σ H fun x H1=>tv σ H1 fun y H2=>xX r σ H2 fun ps H3=>Q ((x,y) :: ps) H3
abbrev VV:List (V×V)->List (Value×Value)->Prop:=Paired fun p q=>RelV p.1 q.1/\RelV p.2 q.2
def W8 (X:Cx) (pos:Pos) (keys:List (Option Expr)) (values:List Expr) (OF:List (TE×TE)):Prop:=
 ∀(pins:AAG) (s:Shared) (σ:St) (H:Hp) (Q:List (V×V)->Hp->Prop),Inv X pins σ H s->xX OF σ H Q->
  wpAny (model X.prog X.w) X.A (evalPairs (pairTrees keys values X.env pos)) (fun vs s'=>∃ps H',Inv X pins σ H' s'/\VV ps vs/\Q ps H') X.xe s
def OG :W8 X pos [] [] []:=fun pins s σ H Q I h=>pairTrees_nil_walk ⟨[],H,I,.nil,h⟩
def KR {k v:Expr}{ks:List (Option Expr)}{vs:List Expr}{tk tv:TE}(hk:PE X k tk) (hv:PE X v tv) (hr:W8 X pos ks vs OF):
  W8 X pos (some k :: ks) (v :: vs) ((tk,tv) :: OF):=fun pins s σ H Q I h=>
 pairTrees_cons_walk (eB (hk pins s σ H _ I h) fun u s1 ⟨x,H1,I1,rx,q1⟩=>eB (hv pins s1 σ H1 _ I1 q1) fun w2 s2 ⟨y,H2,I2,ry,q2⟩=>
  eB (hr pins s2 σ H2 _ I2 q2) fun ws s3 ⟨ps,H3,I3,rel,q3⟩=>⟨(x,y) :: ps,H3,I3,.cons ⟨rx,ry⟩ rel,q3⟩)
def o8 (kvs more:List (Key×V)):List (Key×V):=more.foldl (fun acc kv=>putK acc kv.1 kv.2) kvs
def KV.merge:∀{more:List (Key×V)}{rs:List (Key×Value)}{kvs:List (Key×V)}{vs:List (Key×Value)},KV more rs->KV kvs vs->KV (o8 kvs more) (merged vs rs):=by
 intro more rs kvs vs r
 unfold KV at r
 induction r generalizing kvs vs with
 | nil=>intro q;exact q
 | @cons p q ps qs h t ih=>
  intro r0
  have e:KV (putK kvs p.1 p.2) (stored vs q.1 q.2):=by
   have:=r0.put p.1 h.2
   rw[<-h.1];exact this
  exact ih e
theorem qZ:∀(more kvs:List (Key×V)),(o8 kvs more).length<=kvs.length+more.length
 | [],kvs=>by show kvs.length<=kvs.length+0;omega
 | p :: r,kvs=>by
  have h1:=qZ r (putK kvs p.1 p.2)
  have h2:=oZ kvs p.1 p.2
  show(o8 (putK kvs p.1 p.2) r).length<=_
  rw[aar];omega
theorem xY {P:Program}{w:World}:∀{kvs:List (Key×V)}{ws:List (Value×Value)},VV (kvs.map fun kv=>(kV kv.1,kv.2)) ws->∃rs,Carries (dU P w) ws rs/\KV kvs rs
 | [],_,r=>by rw[acN] at r;cases r;exact⟨[],True.intro,.nil⟩
 | p :: kvs,_,r=>by
  rw[aaQ] at r
  cases r with
  | @cons a b as bs h t=>
   obtain⟨rs,c,q⟩:=xY (P:=P) (w:=w) t
   obtain⟨b1,b2⟩:=b
   exact⟨(p.1,b2) :: rs,⟨CO h.1,rfl,c⟩,.cons ⟨rfl,h.2⟩ q⟩
def W9 (OF:List (TE×TE)):TE:=fun σ H Q=>∀p,H p=none->xX OF σ (upd H p (.dK [])) fun ps H2=>H2 p=some (.dK [])/\∃kvs:List (Key×V),ps=kvs.map (fun kv=>(kV kv.1,kv.2))/\kvs.length<=15/\Q (.ref p) (upd H2 p (.dK (o8 [] kvs)))
def OH {keys:List (Option Expr)}{values:List Expr}(h:W8 X pos keys values OF) (hall:keys.all (·.isSome)=true) (hl:keys.length=values.length) (h0:keys≠[])
  (JV:keys.length<=15):PE X (.Dict keys values pos) (W9 OF):=by
 intro pins s σ H Q I q
 have hn:=I.hok.fresh (aaC s.heap.objs.size)
 have I1:=I.laid (a:=s.heap.objs.size) (o:=.dK []) (h':=s.heap.push {cls:=.type "dict",data:=.dict #[]}) (t':=s.toks) (fun b b q=>aaf _ q) (aaC _) (KO s.heap I.big)
 refine wpAny_Dict_walk (knd:=dU X.prog X.w) hall hl h0 JV (eB (h pins _ σ _ _ I1 (q _ hn)) fun ws s2 hh=>?_)
 obtain⟨ps,H2,I2,rel,e,kvs,ep,lk,q2⟩:=hh
 subst ep
 obtain⟨rs,c,rk⟩:=xY (P:=X.prog) (w:=X.w) rel
 obtain⟨z,hd,YW,r0,dd⟩:=Rp I2.hok e
 cases r0
 refine⟨rs,c,dd,fun h' S5 hs=>⟨.ref s.heap.objs.size,_,?_,rfl,q2⟩⟩
 have hz:(o8 [] kvs).length<=sizeLine:=by
  have h1:=qZ kvs []
  rw[aeb] at h1
  rw[afa];omega
 have he:∃q,h'.get? s.heap.objs.size=some q:=let⟨q,_,_,hq,_⟩:=S5;⟨q,hq⟩
 exact By I2 (by rw[e];exact True.intro) hs he (KN hz hd (rk.merge .nil) S5)
structure M2 (X:Cx) (o:Expr) (m:Str) (apos:Pos) (e f:Expr) (cpos:Pos):Prop where
 base:attributeBase o m X.env (eval o X.env)=eval o X.env
 few:((backTo cpos (starEach [e,f] X.env)).all (fun x=>!x.1) && (backToKw cpos (keywordEach [] X.env)).all (fun x=>x.1.isSome)
  && decide (([e,f]:List Expr).length+([]:List Keyword).length+(if([]:List Keyword).isEmpty then 0 else 1) < 30))=true
 line:(apos.endLine == cpos.line)=true
 trees:backTo cpos (starEach [e,f] X.env)=[(false,eval e X.env),(false,eval f X.env)]
section
variable {X:Cx}{pins:AAG}{σ:St}{H:Hp}{s:Shared}{a:Addr}{y d:V}{u r:Value}{o:Option V}{A:Around}{E:AAE}
end
section
variable {X:Cx}{o e f:Expr}{apos cpos:Pos}{td ty tx:TE}
end
section
variable {X:Cx}{pins:AAG}{σ:St}{H:Hp}{s:Shared}{a:Addr}{kvs:List (Key×V)}{A:Around}{E:AAE}
end
section
variable {X:Cx}{pins:AAG}{σ:St}{H:Hp}{s:Shared}{a:Addr}{y:V}{u:Value}{A:Around}{E:AAE}
end
end L2
namespace HT
open PySem PyProof.Rows
variable {Q:AAE}{lo hi:Option Int}
section
open PySem.SeqAt
open PySem.AutoSeq1 (wpAny_loadPart')
open PySem.MeetsSeq PySem.MeetsSeq2 PySem.MeetsSeq3
end
section
variable {prog:Program}{w:World}{A:Around}{E:AAE}{s:Shared}
def OI {t b:Addr}{vs ws:AAL}(ht:IsTup s.heap t vs.toArray) (hb:IsTup s.heap b ws.toArray) (hv:vs≠[])
  (h1:ws=[]->Q (.ref t) s) (h2:ws≠[]->Q (.ref s.heap.objs.size) {s with heap:=s.heap.push {cls:=.type "tuple",data:=.seq (vs++ws).toArray}})
  (hsz:vs.length+ws.length<=sizeLine):wpAny (model prog w) A (binaryOp .Add (.ref t) (.ref b)) Q E s:=by
 obtain⟨⟨cls,dd,data,sl⟩,ho,hc,n,hd⟩:=id ht
 obtain⟨⟨aaq,dd2,data2,sl2⟩,ho2,hc2,n2,hd2⟩:=id hb
 simp only at hc hd hc2 hd2
 subst hc hd hc2 hd2
 have e:vs.toArray++ws.toArray=(vs++ws).toArray:=by simp
 by_cases hw:ws=[]
 ·exact concat_meets ⟨_,ho,rfl⟩ ⟨_,ho2,rfl⟩ afx seq_tuple_add aev aen (aeg _ _)
   (tuple_addW1 t b vs.toArray ws.toArray n n2 dd dd2 sl sl2 (by simpa using hv) (by simp[hw])) ⟨ho,ho2,h1 hw⟩
 ·refine concat_meets ⟨_,ho,rfl⟩ ⟨_,ho2,rfl⟩ afx seq_tuple_add aev aen (aeg _ _)
   (tuple_addW2 t b vs.toArray ws.toArray n n2 dd dd2 sl sl2 (by simpa using hv) (by simpa using hw) (by rw[aaj,aaj];exact hsz)) ⟨ho,ho2,?_⟩
  rw[e]
  exact h2 hw
noncomputable def gT (n d:Nat):Option Int->Nat
 | none=>d
 | some v=>if v < 0 then(v+(n:Int)).toNat else min v.toNat n
def CT (n d:Nat):gT n d none=d:=rfl
def Gx (n d k:Nat):gT n d (some (k:Int))=min k n:=by
 show(if(k:Int) < 0 then((k:Int)+(n:Int)).toNat else min (k:Int).toNat n)=min k n
 rw[if_neg (by omega),adf]
def S7 (n d:Nat) (hd:d<=n) (o:Option Int):gT n d o<=n:=by
 cases o with
 | none=>exact hd
 | some v=>
  show(if v < 0 then(v+(n:Int)).toNat else min v.toNat n)<=n
  by_cases hv:v < 0
  ·rw[if_pos hv];omega
  ·rw[if_neg hv];exact Nat.min_le_right _ _
def Gy (v:Int) (n d:Nat):(if v < 0 then max (v+(n:Int)) 0 else min v (n:Int))=((gT n d (some v):Nat):Int):=by
 show(if v < 0 then max (v+(n:Int)) 0 else min v (n:Int))=(((if v < 0 then(v+(n:Int)).toNat else min v.toNat n):Nat):Int)
 by_cases hv:v < 0
 ·simp only[if_pos hv];omega
 ·simp only[if_neg hv];omega
def EG (lo hi:Option Int) (n:Nat):Builtin.Slice.sliceAdjust lo hi 1 (n:Int)=(((gT n 0 lo:Nat):Int),((gT n n hi:Nat):Int)):=by
 have h1:¬((1:Int) < 0):=by omega
 unfold Builtin.Slice.sliceAdjust
 simp only[h1,adi]
 refine Prod.ext ?_ ?_
 ·cases lo with
  | none=>rfl
  | some v=>exact Gy v n 0
 ·cases hi with
  | none=>rfl
  | some v=>exact Gy v n n
def EH (i j:Nat):Builtin.Slice.slicePlaces (i:Int) (j:Int) 1=j - i:=by
 unfold Builtin.Slice.slicePlaces
 have h1:(1:Int) > 0:=by omega
 simp only[h1,if_true,Int.ediv_one]
 split <;> omega
def xZ {v:Value}{o:Option Int}{Q:Option Int->Shared->Prop}(p:IsPart v o) (h:Q o s):wpAny (model prog w) A (Builtin.Slice.slicePartIndex v) Q E s:=by
 cases p with
 | none=>exact slicePart_none h
 | int i t=>exact slicePart_int h
def mR {sl:Addr}{vl vu:Value}{n:Nat}{Q:Int×Int×Nat->Shared->Prop}(hs:s.heap.IsSliceOf sl vl vu .none) (pl:IsPart vl lo) (pu:IsPart vu hi)
  (h:Q (((gT n 0 lo:Nat):Int),1,gT n n hi - gT n 0 lo) s):wpAny (model prog w) A (Builtin.Slice.sliceApplied (.ref sl) (pure (n:Int))) Q E s:=by
 obtain⟨os,hos,hcs,hds⟩:=id hs
 unfold Builtin.Slice.sliceApplied Builtin.Slice.sliceFields
 refine aae (aae (ab7 hos hds (x:=vl) rfl (aae (ab7 hos hds (x:=vu) rfl (aae (ab7 hos hds (x:=.none) rfl (aag ?_)))))))
 refine aae (slicePart_none ?_)
 show wpAny _ _ (if((1:Int) == 0)=true then _ else _) _ _ s
 rw[if_neg (by decide)]
 refine aae (xZ pl (aae (xZ pu (aae (aag ?_)))))
 show wpAny _ _ (match Builtin.Slice.sliceAdjust lo hi 1 (n:Int) with | (lo,hi)=>pure (lo,(1:Int),Builtin.Slice.slicePlaces lo hi 1)) _ _ s
 rw[EG lo hi n]
 show wpAny _ _ (pure (((gT n 0 lo:Nat):Int),(1:Int),Builtin.Slice.slicePlaces ((gT n 0 lo:Nat):Int) ((gT n n hi:Nat):Int) 1)) _ _ s
 rw[EH]
 exact aag h
def KS (xs:AAK) (i k:Nat):((List.range k).filterMap fun(m:Nat)=>xs[((i:Int)+(m:Int) * 1).toNat]?).toArray=((xs.toList.drop i).take k).toArray:=by
 have e:(fun(m:Nat)=>xs[((i:Int)+(m:Int) * 1).toNat]?)=fun m=>xs[i+m]?:=by
  funext m
  have:((i:Int)+(m:Int) * 1).toNat=i+m:=by omega
  rw[this]
 rw[e]
 have:=pick_run xs i k
 rw[List.filterMap_map] at this
 have e2:((fun x=>xs[x]?) ∘ fun x=>i+x)=fun m=>xs[i+m]?:=rfl
 rw[e2] at this
 rw[this]
def sU {t sl:Addr}{items:AAK}{vl vu:Value}(ht:IsTup s.heap t items) (hs:s.heap.IsSliceOf sl vl vu .none) (pl:IsPart vl lo) (pu:IsPart vu hi)
  (hw:¬(gT items.size 0 lo=0/\gT items.size items.size hi=items.size))
  (h:Q (.ref s.heap.objs.size) {s with heap:=s.heap.push {cls:=.type "tuple",data:=.seq ((items.toList.drop (gT items.size 0 lo)).take (gT items.size items.size hi - gT items.size 0 lo)).toArray}})
  (hsz:items.size<=sizeLine):wpAny (model prog w) A (getItem (.ref t) (.ref sl)) Q E s:=by
 have Gz:sizeOk (.seq ((items.toList.drop (gT items.size 0 lo)).take (gT items.size items.size hi - gT items.size 0 lo)).toArray):=by
  show((items.toList.drop (gT items.size 0 lo)).take (gT items.size items.size hi - gT items.size 0 lo)).toArray.size<=sizeLine
  rw[aaj,ad4,acy,aeU]
  omega
 have hj:gT items.size items.size hi<=items.size:=S7 _ _ (aaC _) hi
 obtain⟨os,hos,hcs,hds⟩:=id hs
 have hTs:s.TypeIs (.ref sl) "slice":=⟨os,hos,hcs⟩
 unfold getItem
 try with_reducible refine acW ?_
 first | refine aae (aag ?_) | skip
 refine aae (wpAny_sequenceKey ht.typeIs (by decide) ?_)
 refine aae (acE (name:=Str.ofString "__getitem__") ht.typeIs acD
  (ac5 acD ht.typeIs entry_tuple_getitem ?_ (args_tuple_getitem _ _)))
 show wpAny _ _ (Builtin.Tuple.tupleItemsOf (.ref t) >>= _) _ _ s
 refine aae (tupleItemsOf_ ht ?_)
 refine aae (afy hTs ?_)
 rw[if_pos (by decide)]
 refine aae (mR hs pl pu ?_)
 have hno:¬((((gT items.size 0 lo:Nat):Int) == 0 && (1:Int) == 1 && (gT items.size items.size hi - gT items.size 0 lo) == items.size)=true):=by
  intro q
  rw[aa7,aa7] at q
  have q1:((gT items.size 0 lo:Nat):Int)=0:=eq_of_beq q.1.1
  have q2:gT items.size items.size hi - gT items.size 0 lo=items.size:=eq_of_beq q.2
  exact hw ⟨by omega,by omega⟩
 show wpAny _ _ (if(((gT items.size 0 lo:Nat):Int) == 0 && (1:Int) == 1 && (gT items.size items.size hi - gT items.size 0 lo) == items.size)=true then _ else _) _ _ s
 rw[if_neg hno,KS]
 first
  | exact aae (m:=Builtin.Tuple.tupleExact _) (adg (aag ⟨_,rfl,aag h⟩) Gz)
  | exact aae (m:=Builtin.Tuple.tupleExact _) (adg (aae (aag (aag ⟨_,rfl,aag h⟩))) Gz)
  | exact aae (aae (m:=Builtin.Tuple.tupleExact _) (adg (aag (aag ⟨_,rfl,aag h⟩)) Gz))
  | exact aae (aae (m:=Builtin.Tuple.tupleExact _) (adg (aag ⟨_,rfl,aag h⟩) Gz))
end
end HT
namespace L2
open PySem PySem.Spec PyProof.Rows
variable {xs:List V}{n:Nat}{pins:AAG}{its its':AAL}
abbrev TO:=St->Hp->(Option Int->Hp->Prop)->Prop
def PO (X:Cx) (e:Option Expr) (t:TO):Prop:=
 ∀(pins:AAG) (s:Shared) (σ:St) (H:Hp) (Q:Option Int->Hp->Prop),Inv X pins σ H s->t σ H Q->
  wpAny (model X.prog X.w) X.A (evalPart e X.env) (fun u s'=>∃o H',Inv X pins σ H' s'/\IsPart u o/\Q o H') X.xe s
def OJ:TO:=fun a H Q=>Q none H
def Xa (t:TE):TO:=fun σ H Q=>t σ H fun x H1=>∃i,x= .int i/\Q (some i) H1
section
variable {X:Cx}{e:Expr}{te:TE}{lo hi:Option Expr}{tl th:TO}{pos p2:Pos}
def OL:PO X none OJ:=by
 intro pins s σ H Q I h
 rw[evalPart_none]
 exact aag ⟨none,H,I,.none,h⟩
def OM (h:PE X e te):PO X (some e) (Xa te):=by
 intro pins s σ H Q I hw
 rw[evalPart_some]
 refine eB (h pins s σ H _ I hw) fun u s1 hh=>?_
 obtain⟨x,H1,I1,r1,q1⟩:=hh
 obtain⟨i,rfl,q⟩:=q1
 obtain⟨t,rfl⟩:=r1
 exact⟨some i,H1,I1,.int i t,q⟩
def Xb (X:Cx) (r:V->Option Int->Option Int->Hp->VK->Prop):Prop:=
 ∀(pins:AAG) (s:Shared) (σ:St) (H:Hp) (x:V) (v vl vu:Value) (lo hi:Option Int) (sl:Addr) (Q:VK),Inv X pins σ H s->RelV x v->s.heap.IsSliceOf sl vl vu .none->IsPart vl lo->IsPart vu hi->r x lo hi H Q->
  ∃T id,typeLookup (.type T) "__getitem__" =pure (some (.builtin id))/\s.TypeIs v T/\wpAny (model X.prog X.w) X.A (getItem v (.ref sl)) (EP X pins σ Q) X.xe s
def tSl (r:V->Option Int->Option Int->Hp->VK->Prop) (te:TE) (tl th:TO):TE:=fun σ H Q=>te σ H fun x H1=>tl σ H1 fun l H2=>th σ H2 fun u H3=>r x l u H3 Q
def CU {r:V->Option Int->Option Int->Hp->VK->Prop}(hr:Xb X r) (he:PE X e te) (hl:PO X lo tl) (hu:PO X hi th):PE X (.Subscript e (.Slice lo hi none p2) pos) (tSl r te tl th):=by
 intro pins s σ H Q I h
 refine Subscript_ (eB (he pins s σ H _ I h) fun v s1 hh=>?_)
 obtain⟨x,H1,I1,r1,q1⟩:=hh
 refine wpAny_Slice (eB (hl pins s1 σ H1 _ I1 q1) fun vl s2 ⟨l,H2,I2,pl,q2⟩=>eB (hu pins s2 σ H2 _ I2 q2) fun vu s3 hh=>?_)
 obtain⟨u,H3,I3,pu,q3⟩:=hh
 rw[evalPart_none]
 refine aag ?_
 have I4:Inv X pins σ H3 {s3 with heap:=s3.heap.push {cls:=.type "slice",data:=.fields #[vl,vu,.none]}}:=I3.kept (t':=s3.toks) fun b ob q=>aaf _ q
 obtain⟨T,id,hT,ht,hg⟩:=hr pins {s3 with heap:=s3.heap.push {cls:=.type "slice",data:=.fields #[vl,vu,.none]}} σ H3 x v vl vu l u s3.heap.objs.size Q I4 r1 (Heap.IsSliceOf.new ..) pl pu q3
 show wpAny (model X.prog X.w) X.A (subscriptTail e (.Slice lo hi none p2) v (.ref s3.heap.objs.size)) (EP X pins σ Q) X.xe {s3 with heap:=s3.heap.push {cls:=.type "slice",data:=.fields #[vl,vu,.none]}}
 exact tail_any (ops:=[.ref s3.heap.objs.size,v]) ht hT hg (by with_unfolding_all rfl)
noncomputable def zL (xs:List V) (lo hi:Option Int):List V:=(xs.drop (HT.gT xs.length 0 lo)).take (HT.gT xs.length xs.length hi - HT.gT xs.length 0 lo)
def vU (xs:List V) (lo hi:Option Int):(zL xs lo hi).length<=xs.length:=by
 unfold zL
 rw[ad4,acy]
 omega
def aas (K:AAD):V->Option Int->Option Int->Hp->VK->Prop:=fun x lo hi H Q=>∃a xs,x= .ref a/\Ao K H a xs/\
 ¬(HT.gT xs.length 0 lo=0/\HT.gT xs.length xs.length hi=xs.length)/\∀p,H p=none->Q (.ref p) (upd H p (.tup (zL xs lo hi)))
def S8:Xb X (aas X.K):=by
 intro pins s σ H x v vl vu lo hi sl Q I rx hs pl pu h
 obtain⟨a,xs,rfl,hx,hw,q⟩:=h
 cases rx
 obtain⟨its,r,ht,hz⟩:=I.tuple hx
 have hlen:its.toArray.size=xs.length:=by rw[aaj];exact r.length.symm
 refine⟨"tuple",_,acD.lookup,ht.typeIs,?_⟩
 refine HT.sU ht hs pl pu (by rw[hlen];exact hw) ?_ (by rw[hlen];exact hz)
 rw[hlen]
 refine⟨.ref s.heap.objs.size,_,I.laid (t':=s.toks) (o:=.tup (zL xs lo hi)) (fun b ob q=>aaf _ q) (aaC _) ?_,rfl,q _ (I.hok.fresh (aaC _))⟩
 exact⟨aaW (vU xs lo hi) hz,_,(r.drop (HT.gT xs.length 0 lo)).take (HT.gT xs.length xs.length hi - HT.gT xs.length 0 lo),IsTup.new _ _⟩
def Xc (K:AAD):R2:=fun x y H Q=>∃a b xs ys,x= .ref a/\y= .ref b/\Ao K H a xs/\Ao K H b ys/\xs≠[]/\xs.length+ys.length<=sizeLine/\
 (ys=[]->Q (.ref a) H)/\(ys≠[]->∀p,H p=none->Q (.ref p) (upd H p (.tup (xs++ys))))
def Vals.BA {us:AAL}(r:Vals xs us):us=[]↔xs=[]:=by
 cases r with
 | nil=>simp
 | cons _ _=>simp
def ON:zI X (binaryOp .Add) (Xc X.K):=by
 intro pins s σ H x y v u Q I rx ry h
 obtain⟨a,b,xs,ys,rfl,rfl,ha,hb,hx,hz,q1,q2⟩:=h
 cases rx
 cases ry
 obtain⟨its,r1,p1,_⟩:=I.tuple ha
 obtain⟨its2,r2,p2,_⟩:=I.tuple hb
 refine HT.OI p1 p2 (fun z=>hx (r1.BA.mp z)) (fun z=>⟨.ref a,H,I,rfl,q1 (r2.BA.mp z)⟩) (fun z=>?_) (by rw[<-r1.length,<-r2.length];exact hz)
 refine⟨.ref s.heap.objs.size,_,I.laid (t':=s.toks) (o:=.tup (xs++ys)) (fun b ob q=>aaf _ q) (aaC _) ?_,rfl,q2 (fun w=>z (r2.BA.mpr w)) _ (I.hok.fresh (aaC _))⟩
 exact⟨by rw[aaB];exact hz,_,r1.append r2,IsTup.new _ _⟩
end
noncomputable def EI (n:Nat) (i:Int):Option Nat:=if 0<=i then(if i < n then some i.toNat else none) else if -(n:Int)<=i then some (i+n).toNat else none
def gz {α:Type}(xs:List α) (i:Int):Option α:=(EI xs.length i).bind fun j=>xs[j]?
def GC {i:Int}{j:Nat}(h:EI n i=some j):seqIndex? i n=some j/\j < n/\-(n:Int)<=i/\i < n:=by
 unfold EI at h
 by_cases h0:0<=i
 ·rw[if_pos h0] at h
  by_cases h1:i < n
  ·rw[if_pos h1] at h
   have e:i.toNat=j:=aa0 h
   exact⟨by rw[seqIndex_of h0 h1,e],by omega,by omega,h1⟩
  ·rw[if_neg h1] at h;cases h
 ·rw[if_neg h0] at h
  by_cases h1:-(n:Int)<=i
  ·rw[if_pos h1] at h
   have e:(i+n).toNat=j:=aa0 h
   exact⟨by rw[seqIndex_neg (by omega) h1,e],by omega,h1,by omega⟩
  ·rw[if_neg h1] at h;cases h
def BB {α:Type}{xs:List α}{i:Int}{v:α}(h:gz xs i=some v):∃j,seqIndex? i xs.length=some j/\xs[j]? =some v/\j < xs.length/\-(xs.length:Int)<=i/\i < xs.length:=by
 unfold gz at h
 cases e:EI xs.length i with
 | none=>rw[e] at h;cases h
 | some j=>
  rw[e] at h
  obtain⟨h1,h2,h3,h4⟩:=GC e
  exact⟨j,h1,h,h2,h3,h4⟩
def xu (b:Expr):Prop:=∀o i,subscripted b false o i=operate [o,i] (getItem o i)
def KU (X:Cx) (r:R2):Prop:=
 ∀(value slice:Expr) (pins:AAG) (s:Shared) (σ:St) (H:Hp) (x y:V) (v u:Value) (Q:VK),Inv X pins σ H s->RelV x v->RelV y u->r x y H Q->
  subscripted slice false v u=operate [v,u] (getItem v u)->wpAny (model X.prog X.w) X.A (subscriptTail value slice v u) (EP X pins σ Q) X.xe s
def Xd (X:Cx) (id:String) (r:V->List V->Hp->VK->Prop):Prop:=
 ∀(pins:AAG) (s:Shared) (σ:St) (H:Hp) (x:V) (xs:List V) (v:Value) (us:AAL) (Q:VK),Inv X pins σ H s->RelV x v->Vals xs us->r x xs H Q->
  wpAny (model X.prog X.w) X.A (call (.builtin id) (v :: us)) (EP X pins σ Q) X.xe s
section
variable {X:Cx}{a b:Expr}{ta tb:TE}{pos:Pos}
def KU.or {r r':R2}(h:KU X r) (h':KU X r'):KU X (fun x y H Q=>r x y H Q\/r' x y H Q):=by
 intro value slice pins s σ H x y v u Q I rx ry q hs
 rcases q with q | q
 ·exact h value slice pins s σ H x y v u Q I rx ry q hs
 ·exact h' value slice pins s σ H x y v u Q I rx ry q hs
def KW {r:R2}(hr:KU X r) (ha:PE X a ta) (hb:PE X b tb) (hs:xu b):PE X (.Subscript a b pos) (VN r ta tb):=by
 intro pins s σ H Q I h
 exact Subscript_ (SE ha hb I h fun v u s2 x y H2 I2 rx ry q=>hr a b pins s2 σ H2 x y v u Q I2 rx ry q (hs _ _))
def Xe (K:AAD):R2:=fun x y H Q=>∃p xs i v,x= .ref p/\y= .int i/\oO K H p xs/\gz xs i=some v/\Q v H
def Xf (K:AAD):R2:=fun x y H Q=>∃p xs i v,x= .ref p/\y= .int i/\Ao K H p xs/\gz xs i=some v/\Q v H
def Xg:R2:=fun x y H Q=>∃z i c,x= .str z/\y= .int i/\z.length<=sizeLine/\gz z.cps.toList i=some c/\Q (.str ⟨#[c]⟩) H
def GF:KU X (Xe X.K):=by
 intro value slice pins s σ H x y v u Q I rx ry h hs
 obtain⟨p,xs,i,z,rfl,rfl,hq,he,q⟩:=h
 cases rx
 obtain⟨t,rfl⟩:=ry
 obtain⟨its,r,pl,hz⟩:=I.list hq
 obtain⟨j,h1,h2,h3,h4,h5⟩:=BB he
 obtain⟨w,ew,rw'⟩:=r.get h2
 have hl:=r.length
 have hn:=uJ
 have fin:EP X pins σ Q w s:=⟨z,H,I,rw',q⟩
 by_cases h0:0<=i
 ·have hj:i.toNat=j:=by
   rw[seqIndex_of h0 h5] at h1
   exact aa0 h1
  exact item_listR pl.isList h0 (by omega) (by rw[hj];simpa using ew) fin hs
 ·have hj:(i+(its.toArray.size:Int)).toNat=j:=by
   rw[seqIndex_neg (by omega) h4] at h1
   rw[aaj,<-hl]
   exact aa0 h1
  exact subscriptTail_builtinR (x:=w) pl.isList.typeIs slot_list_getitem.lookup
   (wpAny_getItem_list_neg (Q:=fun r s'=>r=w/\EP X pins σ Q r s') pl.isList (by omega) (by rw[aaj] <;> omega) (by omega) (by rw[hj];simpa using ew) ⟨rfl,fin⟩) hs
def KY:KU X (Xf X.K):=by
 intro value slice pins s σ H x y v u Q I rx ry h hs
 obtain⟨p,xs,i,z,rfl,rfl,hq,he,q⟩:=h
 cases rx
 obtain⟨t,rfl⟩:=ry
 obtain⟨its,r,pl,hz⟩:=I.tuple hq
 obtain⟨j,h1,h2,h3,h4,h5⟩:=BB he
 obtain⟨w,ew,rw'⟩:=r.get h2
 have hl:=r.length
 have hn:=uJ
 have fin:EP X pins σ Q w s:=⟨z,H,I,rw',q⟩
 exact subscriptTail_builtinR (x:=w) pl.typeIs slot_tuple_getitem.lookup
  (getItem_tuple (j:=j) (Q:=fun r s'=>r=w/\EP X pins σ Q r s') pl (by omega) (by omega) (by rw[aaj,<-hl];exact h1) (by simpa using ew) ⟨rfl,fin⟩) hs
def KZ:KU X Xg:=by
 intro value slice pins s σ H x y v u Q I rx ry h hs
 obtain⟨z,i,c,rfl,rfl,hz,he,q⟩:=h
 obtain⟨t,rfl⟩:=rx
 obtain⟨t',rfl⟩:=ry
 obtain⟨j,h1,h2,h3,h4,h5⟩:=BB he
 have hl:z.cps.toList.length=z.length:=by simp[Str.length]
 rw[hl] at h1 h4 h5
 have hn:=uJ
 exact tail_any (aei s z t) slot_str_getitem.lookup (getItem_str (c:=c) (by
  have e1:decide (i < -(2 ^ 63:Int))=false:=aa6 (by omega)
  have e2:decide (i≥2 ^ 63)=false:=aa6 (by omega)
  rw[e1,e2,Bool.or_false]) (by rw[h1];simpa using h2) ⟨.str ⟨#[c]⟩,H,I.tok _,⟨_,rfl⟩,q⟩) hs
def rIx (K:AAD):R2:=fun x y H Q=>Xe K x y H Q\/Xf K x y H Q\/Xg x y H Q
def K0:KU X (rIx X.K):=GF.or (KY.or KZ)
def EJ (its:AAL) (n j:Nat) (u:Value):Obj.mapSeq (·.setIfInBounds j u) {cls:=.type "list",data:=.seq its.toArray n}={cls:=.type "list",data:=.seq (its.set j u).toArray n}:=by
 simp[Obj.mapSeq]
def Inv.lst {pins:AAG}{σ:St}{H:Hp}{s:Shared}{p:Addr}{xs:List V}(I:Inv X pins σ H s) (h:H p=some (.lst xs)):
  ∃(its:AAL) (n:Nat),Vals xs its/\s.heap.get? p=some {cls:=.type "list",data:=.seq its.toArray n}/\xs.length<=sizeLine:=by
 obtain⟨z,its,n,r,e⟩:=I.hok p _ h
 exact⟨its,n,r,e,z⟩
def Inv.S9 {σ:St}{H:Hp}{s:Shared}{p:Addr}{ys:List V}{n':Nat}{f:Obj->Obj}(I:Inv X pins σ H s) (h:H p=some (.lst xs))
  (ho:s.heap.get? p=some {cls:=.type "list",data:=.seq its.toArray n}) (hf:f {cls:=.type "list",data:=.seq its.toArray n}={cls:=.type "list",data:=.seq its'.toArray n'}) (r:Vals ys its') (hz:ys.length<=sizeLine) (t:Nat):
  Inv X pins σ (upd H p (.lst ys)) {s with heap:=s.heap.update p f,toks:=t}:=by
 have e:(s.heap.update p f).get? p=some {cls:=.type "list",data:=.seq its'.toArray n'}:=by
  rw[acV f ho (by rw[hf] <;> rfl),hf]
 refine I.write (x:=p) (e:=p) (by rw[h];trivial) (.inl rfl) (fun b u hb q=>(ac3 _ _ (ac2 hb)).trans q) ⟨_,e⟩ ?_
 exact⟨hz,its',n',r,e⟩
def Xh:V->V->V->Hp->(Hp->Prop)->Prop:=fun o i v H Q=>∃p xs k j,o= .ref p/\i= .int k/\H p=some (.lst xs)/\EI xs.length k=some j/\Q (upd H p (.lst (xs.set j v)))
def set_list:WJ X Xh:=by
 intro pins s σ H o i v ov iv u Q I ro ri rv h
 obtain⟨p,xs,k,j,rfl,rfl,hp,hj,q⟩:=h
 cases ro
 obtain⟨t,rfl⟩:=ri
 obtain⟨its,n,r,ho,hz⟩:=I.lst hp
 obtain⟨h1,h2,h3,h4⟩:=GC hj
 have hl:=r.length
 have hn:=uJ
 have I':Inv X pins σ (upd H p (.lst (xs.set j v))) {s with heap:=s.heap.update p (Obj.mapSeq (·.setIfInBounds j u))}:=
  I.S9 hp ho (EJ its n j u) (r.set rv j) (by rw[adC];exact hz) s.toks
 by_cases h0:0<=k
 ·have hk:k.toNat=j:=by
   rw[seqIndex_of h0 h4] at h1
   exact aa0 h1
  exact PySem.W.ki_setAt ho h0 (by omega) (by rw[aaj,<-hl];exact h4) (by rw[hk];exact⟨_,I',q⟩)
 ·have hk:(k+(its.toArray.size:Int)).toNat=j:=by
   rw[seqIndex_neg (by omega) h3] at h1
   rw[aaj,<-hl]
   exact aa0 h1
  exact PySem.W.ki_setBack ho (by omega) (by rw[aaj,<-hl];exact h3) (by omega) (by rw[hk];exact⟨_,I',q⟩)
def BC (lo hi:Option Int) (n:Nat):(sliceBounds lo hi none n).1=((HT.gT n 0 lo:Nat):Int)/\(sliceBounds lo hi none n).2.1=((HT.gT n n hi:Nat):Int)/\(sliceBounds lo hi none n).2.2=1:=by
 refine⟨?_,?_,rfl⟩
 ·cases lo with
  | none=>simp[sliceBounds,HT.gT]
  | some i=>
   simp only[sliceBounds,HT.gT,Option.getD_none,show(1:Int) > 0 by decide,if_true]
   by_cases h:i < 0
   ·simp only[h,if_true] <;> omega
   ·simp only[h,adi] <;> omega
 ·cases hi with
  | none=>simp[sliceBounds,HT.gT]
  | some i=>
   simp only[sliceBounds,HT.gT,Option.getD_none,show(1:Int) > 0 by decide,if_true]
   by_cases h:i < 0
   ·simp only[h,if_true] <;> omega
   ·simp only[h,adi] <;> omega
def zM (its:AAL) (lo hi:Option Int):slicePick its.toArray lo hi none=((its.drop (HT.gT its.length 0 lo)).take (HT.gT its.length its.length hi - HT.gT its.length 0 lo)).toArray:=by
 obtain⟨h1,h2,h3⟩:=BC lo hi its.toArray.size
 unfold slicePick
 rw[h1,h2,h3]
 simp only[sliceRange_one,pick_run,aaj] <;> rfl
def aat (K:AAD):V->Option Int->Option Int->Hp->VK->Prop:=fun x lo hi H Q=>∃a xs,x= .ref a/\oO K H a xs/\∀p,H p=none->Q (.ref p) (upd H p (.lst (zL xs lo hi)))
def GG:Xb X (aat X.K):=by
 intro pins s σ H x v vl vu lo hi sl Q I rx hs pl pu h
 obtain⟨a,xs,rfl,hx,q⟩:=h
 cases rx
 obtain⟨its,r,ht,hz⟩:=I.list hx
 have hlen:=r.length
 refine⟨"list",_,slot_list_getitem.lookup,ht.isList.typeIs,?_⟩
 refine wpAny_getItem_list_slice ht.isList hs pl pu .none (by simp) ?_ (by rw[aaj] <;> omega)
 rw[zM,<-hlen]
 refine⟨.ref s.heap.objs.size,_,I.laid (t':=s.toks) (o:=.lst (zL xs lo hi)) (fun b ob q=>aaf _ q) (aaC _) ?_,rfl,q _ (I.hok.fresh (aaC _))⟩
 exact⟨aaW (vU xs lo hi) hz,_,0,(r.drop (HT.gT xs.length 0 lo)).take (HT.gT xs.length xs.length hi - HT.gT xs.length 0 lo),aaJ _ rfl⟩
def nB:gJ X (.builtin "len") (fun xs H Q=>∃p ys,xs=[.ref p]/\(oO X.K H p ys\/Ao X.K H p ys)/\Q (.int ys.length) H):=by
 intro pins s σ H xs us Q I r h
 obtain⟨p,ys,rfl,hq,q⟩:=h
 obtain⟨u,rfl,rx⟩:=vals1 r
 cases rx
 have hn:=uJ
 rcases hq with hq | hq
 ·obtain⟨its,r',pl,hz⟩:=I.list hq
  have hlen:=r'.length
  exact Calls.call_len_list pl.isList (by simp only[aaj] <;> omega) ⟨.int ys.length,H,I.tok _,⟨s.toks+1,by rw[aaj,hlen]⟩,q⟩
 ·obtain⟨its,r',pl,hz⟩:=I.tuple hq
  have hlen:=r'.length
  exact len_tuple pl (by simp only[aaj] <;> omega) ⟨.int ys.length,H,I.tok _,⟨s.toks+1,by rw[aaj,hlen]⟩,q⟩
def sV:gJ X (.builtin "len") (fun xs H Q=>∃z,xs=[.str z]/\z.length<=sizeLine/\Q (.int z.length) H):=by
 intro pins s σ H xs us Q I r h
 obtain⟨z,rfl,hz,q⟩:=h
 obtain⟨u,rfl,t,rfl⟩:=vals1 r
 have hn:=uJ
 exact len_str (by omega) ⟨.int z.length,H,I.tok _,⟨_,rfl⟩,q⟩
def q8:gJ X (.type "tuple") (fun xs H Q=>∃p ys,xs=[.ref p]/\((oO X.K H p ys/\∀l,H l=none->Q (.ref l) (upd H l (.tup ys)))\/(Ao X.K H p ys/\Q (.ref p) H))):=by
 intro pins s σ H xs us Q I r h
 obtain⟨p,ys,rfl,h⟩:=h
 obtain⟨u,rfl,rx⟩:=vals1 r
 cases rx
 rcases h with⟨hq,q⟩ | ⟨hq,q⟩
 ·obtain⟨its,r',pl,hz⟩:=I.list hq
  have hlen:=r'.length
  refine call_tuple_list pl.isList (fun h' kp=>?_) (by simp only[aaj] <;> omega)
  have I1:Inv X pins σ H {s with heap:=h'}:=I.kept (t':=s.toks) kp
  have I2:Inv X pins σ (upd H h'.objs.size (.tup ys)) {s with heap:=h'.push {cls:=.type "tuple",data:=.seq its.toArray}}:=
   I1.laid (t':=s.toks) (fun b o e=>aaf _ e) (aaC _) (show eY X.prog X.w _ _ _ (.tup ys) from⟨hz,its,r',IsTup.new _ _⟩)
  exact⟨.ref h'.objs.size,_,I2,rfl,q _ (I1.hok.fresh (aaC _))⟩
 ·obtain⟨its,r',pl,hz⟩:=I.tuple hq
  exact call_tuple_same pl ⟨.ref p,H,I,rfl,q⟩
def tyV (K:AAD) (T:String) (x:V) (H:Hp):Prop:=match x with
 | .str _=>T="str"
 | .int _=>T="int"
 | .ref p=>(T="list"/\∃xs,oO K H p xs)\/(T="tuple"/\∃o,K.lookup p=some o/\o.cls= .type "tuple"/\o.dict=none)\/
   (T="dict"/\((∃kvs,H p=some (.dK kvs))\/∃kvs,H p=some (.dT kvs)))\/(T="set"/\∃S n,H p=some (.set S n))
 | _=>False
def K1 {σ:St}{H:Hp}{s:Shared}{T:String}{x:V}{v:Value}(I:Inv X pins σ H s) (r:RelV x v) (ty:tyV X.K T x H):
  s.TypeIs v T/\∀a,v= .ref a->∃ob,s.heap.get? a=some ob/\ob.dict=none:=by
 cases x with
 | str z=>
  obtain⟨t,rfl⟩:=r
  cases(show T="str" from ty)
  exact⟨aei s z t,fun b e=>nomatch e⟩
 | int i=>
  obtain⟨t,rfl⟩:=r
  cases(show T="int" from ty)
  exact⟨typeIs_int s i t,fun b e=>nomatch e⟩
 | ref p=>
  cases r
  rcases ty with⟨rfl,xs,hq⟩ | ⟨rfl,o,hk,hc,hd⟩ | ⟨rfl,hk⟩ | ⟨rfl,S,n,hk⟩
  ·obtain⟨its,_,pl,_⟩:=I.list hq
   refine⟨pl.isList.typeIs,fun a e=>?_⟩
   cases e
   obtain⟨o,n,e,c,hd,_⟩:=pl
   exact⟨o,e,hd⟩
  ·refine⟨⟨o,I.xP p o hk,hc⟩,fun a e=>?_⟩
   cases e
   exact⟨o,I.xP _ o hk,hd⟩
  ·have z:∃o,s.heap.get? p=some o/\o.ExactDict:=by
    rcases hk with⟨kvs,hk⟩ | ⟨kvs,hk⟩
    ·obtain⟨_,_,_,_,o,_,_,e,ex,_⟩:=I.hok p _ hk
     exact⟨o,e,ex⟩
    ·obtain⟨_,_,_,_,o,_,_,e,ex,_⟩:=I.hok p _ hk
     exact⟨o,e,ex⟩
   obtain⟨o,e,ex⟩:=z
   refine⟨⟨o,e,ex.1⟩,fun a e2=>?_⟩
   cases e2
   exact⟨o,e,ex.2.1⟩
  ·obtain⟨o,_,_,_,e,ex,_⟩:=I.hok p _ hk
   refine⟨⟨o,e,ex.1⟩,fun a e2=>?_⟩
   cases e2
   exact⟨o,e,ex.2.1⟩
 | _=>exact False.elim ty
def aav (K:AAD) (T:String) (r:V->List V->Hp->VK->Prop) (to:TE):TE:=fun σ H Q=>to σ H fun x H1=>tyV K T x H1/\r x [] H1 Q
def tBM (K:AAD) (T:String) (r:V->List V->Hp->VK->Prop) (to:TE) (t:TA):TE:=fun σ H Q=>to σ H fun x H1=>tyV K T x H1/\t σ H1 fun xs H2=>r x xs H2 Q
variable {o e:Expr}{es:List Expr}{to:TE}{t:TA}{name:Str}{apos cpos:Pos}{T id:String}{r:V->List V->Hp->VK->Prop}
def Tc (pa:PlainAttrs T) (slot:Slot T name id) (hty:typeOf (.builtin id)=pure (.type "method_descriptor")) (hm:Xd X id r) (ho:PE X o to)
  (hbase:attributeBase o name X.env (eval o X.env)=eval o X.env:=by rfl) (hline:(apos.endLine == cpos.line)=true:=by rfl):PE X (.Call (.Attribute o name apos) [] [] cpos) (aav X.K T r to):=by
 intro pins s σ H Q I h
 refine wpAny_Call_method0_late hbase hline (eB (ho pins s σ H _ I h) fun v s1 hh=>?_)
 obtain⟨x,H1,I1,r1,ty,q1⟩:=hh
 obtain⟨h1,h2⟩:=K1 I1 r1 ty
 exact⟨T,id,pa,slot,hty,h1,h2,adW rfl (PySem.evalArgs_none (hm pins s1 σ H1 x [] v [] Q I1 r1 .nil q1))⟩
def Xi (pa:PlainAttrs T) (slot:Slot T name id) (hty:typeOf (.builtin id)=pure (.type "method_descriptor")) (hm:Xd X id r) (ho:PE X o to) (ha:PA X (e :: es) t)
  (hbase:attributeBase o name X.env (eval o X.env)=eval o X.env:=by rfl)
  (hfew:((backTo cpos (starEach (e :: es) X.env)).all (fun x=>!x.1) && (backToKw cpos (keywordEach [] X.env)).all (fun x=>x.1.isSome)
   && decide ((e :: es).length+([]:List Keyword).length+(if([]:List Keyword).isEmpty then 0 else 1) < 30))=true:=by rfl)
  (hline:(apos.endLine == cpos.line)=true:=by rfl) (hs:starEach (e :: es) X.env=(false,eval e X.env) :: starEach es X.env:=by rfl) (hplain:(backTo cpos (starEach es X.env)).any (·.1)=false:=by rfl):
  PE X (.Call (.Attribute o name apos) (e :: es) [] cpos) (tBM X.K T r to t):=by
 intro pins s σ H Q I h
 refine wpAny_Call_method_late hbase hfew hline rfl (eB (ho pins s σ H _ I h) fun v s1 hh=>?_)
 obtain⟨x,H1,I1,r1,ty,q1⟩:=hh
 obtain⟨h1,h2⟩:=K1 I1 r1 ty
 refine⟨T,id,pa,slot,hty,h1,h2,?_⟩
 have hA:=ha cpos pins s1 σ H1 _ I1 q1
 rw[hs] at hA ⊢
 refine adW (by show(false || (backTo cpos (starEach es X.env)).any (·.1))=false;rw[hplain] <;> rfl) (aeI ?_)
 exact eB hA fun us s2 ⟨vs,H2,I2,r2,q2⟩=>hm pins s2 σ H2 x vs v us Q I2 r1 r2 q2
end
def MtM (X:Cx) (id:String) (r:V->List V->Hp->VK->Prop):Prop:=
 ∀(pins:AAG) (s:Shared) (σ:St) (H:Hp) (x:V) (xs:List V) (v:Value) (us:AAL) (Q:VK),Inv X pins σ H s->RelV x v->Vals xs us->r x xs H Q->
  wpAny (model X.prog X.w) X.A (call (.builtin id) (v :: us)) (EP X pins σ Q) X.xe s
theorem Vals.one:∀{x:V}{us:AAL},Vals [x] us->∃u,us=[u]/\RelV x u
 | _,_,.cons r .nil=>⟨_,rfl,r⟩
theorem Vals.two:∀{x y:V}{us:AAL},Vals [x,y] us->∃u v,us=[u,v]/\RelV x u/\RelV y v
 | _,_,_,.cons r (.cons q .nil)=>⟨_,_,rfl,r,q⟩
theorem Vals.zero:∀{us:AAL},Vals [] us->us=[]
 | _,.nil=>rfl
def Vals.dropLast {xs:List V}{us:AAL}(h:Vals xs us):Vals xs.dropLast us.dropLast:=by
 induction h with
 | nil=>exact .nil
 | cons r t ih=>
  cases t with
  | nil=>exact .nil
  | cons q t'=>exact .cons r ih
theorem Vals.eraseIdx:∀{xs:List V}{us:AAL}(i:Nat),Vals xs us->Vals (xs.eraseIdx i) (us.eraseIdx i)
 | _,_,_,.nil=>.nil
 | _,_,0,.cons _ t=>t
 | _,_,i+1,.cons r t=>.cons r (Vals.eraseIdx i t)
def Vals.reverse {xs:List V}{us:AAL}(h:Vals xs us):Vals xs.reverse us.reverse:=by
 induction h with
 | nil=>exact .nil
 | cons r t ih=>rw[aet,aet];exact Vals.append ih (.cons r .nil)
theorem Vals.rep {xs:List V}{us:AAL}(h:Vals xs us):∀k:Nat,Vals (List.replicate k xs).flatten (List.replicate k us).flatten
 | 0=>.nil
 | k+1=>by
  rw[ab9,ab9,acZ,acZ]
  exact Vals.append h (Vals.rep h k)
theorem Ay {α:Type}:∀(l:List α) (i:Nat),(l.eraseIdx i).length<=l.length
 | [],_=>aaC _
 | _ :: _,0=>afI _
 | _ :: r,i+1=>Nat.succ_le_succ (Ay r i)
theorem foldl_rep (its:AAL):∀(k:Nat) (acc:AAL),
  List.foldl (fun x1 x2=>x1++x2) acc.toArray (List.replicate k its.toArray)=(acc++(List.replicate k its).flatten).toArray
 | 0,acc=>by simp
 | k+1,acc=>by
  have e:acc.toArray++its.toArray=(acc++its).toArray:=by simp
  have e2:(acc++its)++(List.replicate k its).flatten=acc++(List.replicate (k+1) its).flatten:=by
   rw[ab9,acZ,adY]
  rw[<-e2,<-foldl_rep its k (acc++its),<-e,ab9,List.foldl_cons]
section
variable {X:Cx}{pins:AAG}{σ:St}{H:Hp}{s:Shared}{l b:Addr}{xs ys zs:List V}
def Inv.OO {f:Array Value->Array Value}{t':Nat}(I:Inv X pins σ H s) (hH:H l=some (.lst xs))
  (e:s.heap.get? l=some {cls:=.type "list",data:=.seq its.toArray n}) (hf:f its.toArray=its'.toArray) (hv:Vals ys its') (hz:ys.length<=sizeLine):
  Inv X pins σ (upd H l (.lst ys)) {s with heap:=s.heap.update l (Obj.mapSeq f),toks:=t'}:=by
 have q:=PySem.IsL.update e f
 rw[hf] at q
 refine I.write (x:=l) (e:=l) (by rw[hH];exact trivial) (.inl rfl) (fun b' u hb hu=>(ac3 s.heap (Obj.mapSeq f) (ac2 hb)).trans hu) ⟨_,q⟩ ?_
 exact⟨hz,its',_,hv,q⟩
def Inv.Xj {t':Nat}(I:Inv X pins σ H s) (hv:Vals ys its) (hz:ys.length<=sizeLine):
  Inv X pins σ (upd H s.heap.objs.size (.lst ys)) {s with heap:=s.heap.push {cls:=.type "list",data:=.seq its.toArray},toks:=t'}:=
 I.laid (fun a a q=>aaf _ q) (aaC _) ⟨hz,its,0,hv,aaJ _ rfl⟩
def Inv.fresh (I:Inv X pins σ H s):H s.heap.objs.size=none:=I.hok.fresh (aaC _)
def Inv.BD (I:Inv X pins σ H s) (hH:H l=some (.lst xs)):xs.length<=sizeLine/\∃(its:AAL) (n:Nat),Vals xs its/\xs.length=its.length/\s.heap.get? l=some {cls:=.type "list",data:=.seq its.toArray n}:=by
 obtain⟨z,its,n,r,e⟩:=I.hok l _ hH
 exact⟨z,its,n,r,r.length,e⟩
def CV (h:n<=sizeLine):Builtin.List.listTooLong n=false:=by
 unfold Builtin.List.listTooLong
 exact aa6 (by omega)
end
section
variable {X:Cx}
def GH:V->List V->Hp->VK->Prop:=fun x vs H Q=>∃l xs y,x= .ref l/\vs=[y]/\H l=some (.lst xs)/\xs.length < sizeLine/\Q .cU (upd H l (.lst (xs++[y])))
def dw:MtM X "list.append" GH:=by
 intro pins s σ H x vs v us Q I rx rv h
 obtain⟨l,xs,y,rfl,rfl,hH,hz,q⟩:=h
 cases rx
 obtain⟨u,rfl,ru⟩:=rv.one
 obtain⟨z,its,n,r,hl,e⟩:=I.BD hH
 refine adR F.slot_list_append ⟨_,e,rfl⟩ F.entry_list_append (F.args_list_append_2 _ _) (PySem.list_append l its.toArray n u (by rw[aaj];omega)) ⟨e,?_⟩
 refine⟨.cU,_,I.OO (its':=its++[u]) hH e (by simp) (r.append (.cons ru .nil)) ?_,rfl,q⟩
 rw[aaB,ad0]
 omega
def K2:V->List V->Hp->VK->Prop:=fun x vs H Q=>∃l xs i k y,x= .ref l/\vs=[.int i]/\H l=some (.lst xs)/\-(2 ^ 63)<=i/\i < 2 ^ 63/\seqIndex? i xs.length=some k/\xs[k]? =some y/\Q y (upd H l (.lst (xs.eraseIdx k)))
def K3:MtM X "list.pop" K2:=by
 intro pins s σ H x vs v us Q I rx rv h
 obtain⟨l,xs,i,k,y,rfl,rfl,hH,h1,h2,hk,hy,q⟩:=h
 cases rx
 obtain⟨u,rfl,ru⟩:=rv.one
 obtain⟨t,rfl⟩:=ru
 obtain⟨z,its,n,r,hl,e⟩:=I.BD hH
 obtain⟨w,hw,rw'⟩:=r.get hy
 refine adR F.slot_list_pop ⟨_,e,rfl⟩ F.entry_list_pop (F.args_list_pop_2 _ _)
  (MeetsSeq.list_pop_at l its.toArray n i t k w (fitsIndex_both h1 h2) (by rw[aaj,<-hl];exact hk) (by rw[<-Array.getElem?_toList];exact hw) (by rw[aaj];omega)) ⟨e,?_⟩
 refine⟨y,_,I.OO (its':=its.eraseIdx k) hH e ?_ (r.eraseIdx k) ?_,rw',q⟩
 ·show its.toArray.eraseIdxIfInBounds k=(its.eraseIdx k).toArray
  rw[List.eraseIdxIfInBounds_toArray]
 ·have:=Ay xs k
  omega
def CW:V->List V->Hp->VK->Prop:=fun x vs H Q=>∃l xs,x= .ref l/\vs=[]/\H l=some (.lst xs)/\Q .cU (upd H l (.lst xs.reverse))
def EK:MtM X "list.reverse" CW:=by
 intro pins s σ H x vs v us Q I rx rv h
 obtain⟨l,xs,rfl,rfl,hH,q⟩:=h
 cases rx
 have hus:=rv.zero
 subst hus
 obtain⟨z,its,n,r,hl,e⟩:=I.BD hH
 refine adR F.slot_list_reverse ⟨_,e,rfl⟩ F.entry_list_reverse (F.args_list_reverse_1 _) (AutoSeq1.list_reverse_list_0 l its.toArray n (by rw[aaj];omega)) ⟨e,?_⟩
 refine⟨.cU,_,I.OO (its':=its.reverse) hH e (by simp) r.reverse ?_,rfl,q⟩
 rw[aeW]
 omega
def len_rep {α:Type}(xs:List α) (k:Nat):(List.replicate k xs).flatten.length=k * xs.length:=by
 induction k with
 | zero=>simp
 | succ k ih=>rw[ab9,acZ,aaB,ih,Nat.succ_mul,Nat.add_comm]
end
section
variable {prog:Program}{w:World}{A:Around}{E:AAE}{s:Shared}
end
section
variable {X:Cx}
end
end L2
namespace Att
open PySem PySem.W PySem.Calls PyProof.Rows
def wK {P:Params}{h:Heap}:∀(ns:List Int) (vs:AAL),WellAll P h vs (ns.map WData.int)->IntsAre vs ns:=by
 intro ns
 induction ns with
 | nil=>
  intro vs w
  rw[acN] at w
  cases w
  exact .nil
 | cons n ns ih=>
  intro vs w
  rw[aaQ] at w
  cases w with
  | cons a b=>
   cases a
   exact .cons _ _ (ih _ b)
def HZ {l:OpenLaw}{n:Nat}(hn:l.most=some n){P:Params}{h:Heap}{args:List WData}{vals:AAL}
  (hpre:l.row.toRowW.claim.pre args=true) (hwl:WellAll P h vals args):
  ∃a vs ns,vals=[Value.ref a]/\args=[WData.list (ns.map WData.int)]/\h.get? a=some {cls:=.type "list",data:=.seq vs.toArray}/\IntsAre vs ns/\ns.length<=n:=by
 have hsh:WShape.hasAll [] args [.list .int]=true:=(pre_splitW hpre).1
 have hc:l.pre.holds [] {args:=args}=true:=(pre_splitW hpre).2
 obtain⟨d,r,rfl,h1,h2⟩:=hasAllW_cons hsh
 obtain rfl:=hasAllW_nil h2
 obtain⟨xs,rfl,h3⟩:=hasW_list h1
 obtain⟨ns,rfl⟩:=items_int h3
 have hlen:ns.length<=n:=by
  unfold OpenLaw.pre at hc
  have h4:(WTm.not (.lt (.lit (.int (n:Int))) (.len (.arg 0)))).holds [] {args:=[.list (ns.map .int)]}=true:=by
   have h4:=(holds_andW hc).1
   rw[hn] at h4
   exact h4
  have h5:=condW_of h4 (w_not (w_lt w_lit (w_len_list (w_arg rfl))))
  rw[aaw] at h5
  refine Nat.le_of_not_lt fun q=>?_
  have q':(n:Int) < ((ns.length:Nat):Int):=by omega
  first
   | (rw[ab6 q'] at h5;exact absurd h5 (by decide))
   | (simp at h5;omega)
 cases hwl with
 | cons w1 w2=>
  cases w2
  cases w1 with
  | list ho hall=>exact⟨_,_,ns,rfl,rfl,ho,wK ns _ hall,hlen⟩
def Ia (l:OpenLaw) (args:List WData):l.row.toRowW.claim.post args (.bool true) args=true:=
 postW_of (r:=l.row.toRowW) (X:=(true == true))
  (show WShape.has [] (.bool true) .bool=true by first | rfl | decide | simp[WShape.has,WShape.arms,WShape.armsAll])
  (show(WTm.eq .res (.lit (.bool true))).value [] {args:=args,res:=some (.bool true),after:=args}=some (.bool (true == true)) from w_eq_bool (w_res rfl) w_lit) rfl
def CY {l:OpenLaw}{n:Nat}{q:Program}{loose:List Str}{XP:(Str->Option Value)->Heap->Prop}{YP:World->Heap->Prop}{d:DefRec}
  (hn:l.most=some n) (hdf:d.params.defaults=[])
  (call:∀(w:World) (s₀ s₁:Shared) (mg mb:AAF) (fa:Addr) (o:Obj) (pm cd doc:Value) (a:Addr) (vs:AAL) (ns:List Int),
   Ground q loose [] XP w s₀ mg mb s₁.heap->YP w s₁.heap->
   s₁.heap.get? fa=some o->o.data= .func (docDef d.name d.params d.body d.scope pm cd doc)->s₁.heap.CodeRec cd d.name->mg d.name=some (.ref fa)->
   s₁.heap.get? a=some {cls:=.type "list",data:=.seq vs.toArray}->IntsAre vs ns->ns.length<=n->s₁.gens=#[]->
   codeAny (model l.prog w) callerA (.call (.ref fa) ⟨[.ref a],[]⟩) (fun r s'=>r= .ok (.ret (.bool true))/\OldK s₁.heap s'.heap/\s'.os=s₁.os/\AllBare s'.gens) s₁):
  WalkO q loose XP YP l.row.toRowW d [] (fun f vs=>PySem.call f vs):=by
 intro w s₀ s₁ mg mb G Y fa o pm cd doc dV kV ho hd hcd hD hmg hg args vals as hpre hlay hrd hwl hlo
 obtain rfl:dV= .none:=Dflts.none hD hdf
 obtain rfl:kV= .none:=Dflts.noKw hD
 obtain⟨a,vs,ns,rfl,rfl,hobj,hints,hlen⟩:=HZ hn hpre hwl
 refine enter_call (afw (call w s₀ s₁ mg mb fa o pm cd doc a vs ns G Y ho (fd_plain hd) hcd hmg hobj hints hlen hg) fun r s' hq=>?_)
 obtain⟨rfl,h2,h3,h4⟩:=hq
 exact⟨.inl ⟨.bool true,.bool true,[],rfl,fun b=>rfl,.bool true,Ia l _,fun b=>⟨List.Pairwise.nil,fun b hm=>(nomatch hm)⟩⟩,h2,h3,h4⟩
section
variable {prog:Program}{w:World}{A:Around}{E:AAE}{s:Shared}{K:Frag}
end
end Att
namespace L2
open PySem PySem.Spec PyProof.Rows
variable {P:Program}{w:World}{K:AAD}{k:Nat}{fd:FuncData}{x qual:Str}{X:Cx}{st:Stmt}{ps bQ:List Str}{H:Hp}{pins:AAG}{σ:St}{cap:List Nat}{scope:Scope}{cl:List (Str×Addr)}{elt iter:Expr}{ifs:List Expr}{pos pos2 px:Pos}{wi:TI}{tc:TT}{te:TE}{use:Option (Value->Sem Unit)}{Qf:AAE}
theorem Az:∀{vs:AAL}{ns:List Int},IntsAre vs ns->Vals (ns.map V.int) vs
 | _,_,.nil=>.nil
 | _,_,.cons n t h=>.cons ⟨t,rfl⟩ (Az h)
def OP (H:Hp):Prop:=∀b,H b=none\/∃o xs,H b=some (.kL o (.lst xs))
def K4 {mg mb:AAF}{CX:JR}{fa a:Addr}{sp:Sp}{s₁:Shared}{vs:AAL}{ns:List Int}
  (KX:K.In s₁.heap) (hns:s₁.heap.Ns mainGlobals mg) (hb:s₁.heap.Ns builtinsNs mb) (hbb:∀x:Str,x≠"__name__"->mb x=bootBuiltins x) (hlim:s₁.heap.NoLimit) (hg:s₁.gens=#[])
  (ha:s₁.heap.get? a=some {cls:=.type "list",data:=.seq vs.toArray}) (hi:IntsAre vs ns) (hl:ns.length<=sizeLine) (hr:fQ k callerA)
  (F:∀base:Heap,K.In base->base.Ns mainGlobals mg->jW P w K mg base CX k fa fd [x] sp) (hbind:∀(s:Shared) (u:Value),BindsTo s fd ⟨[u],[]⟩ [(x,u)])
  (Rn:∀H:Hp,OP H->oO K H a (ns.map V.int)->sp [.ref a] H (fun v c=>v= .bl true) fun c c c=>False)
  (hCX:∀H e s',CX [] H s₁ (fun c c c=>False) e s'->False):
  codeAny (model P w) callerA (.call (.ref fa) ⟨[.ref a],[]⟩) (fun r s'=>r= .ok (.ret (.bool true))/\OldK s₁.heap s'.heap/\s'.os=s₁.os/\AllBare s'.gens) s₁:=by
 have rv:=Az hi
 have lenV:=hi.length
 have core:∀H:Hp,OP H->oO K H a (ns.map V.int)->oN P w H s₁.heap->(∀b,H b≠none->b=a)->(H a≠none->K.lookup a=none)->
   codeAny (model P w) callerA (.call (.ref fa) ⟨[.ref a],[]⟩) (fun r s'=>r= .ok (.ret (.bool true))/\OldK s₁.heap s'.heap/\s'.os=s₁.os/\AllBare s'.gens) s₁:=by
  intro H hO hS hok hA hK
  have GJ:∀{b:Addr}{o:Obj},s₁.heap.get? b=some o->H b=none->(Bp s₁.heap H).get? b=some o:=fun e n=>Kg e n
  have W3:∀{b:Addr}{o:Obj}{es:Array DictEntry}{ep:Nat},s₁.heap.get? b=some o->o.data= .dict es ep->H b=none:=fun {b o es ep} e d=>by
   cases q:H b with
   | none=>rfl
   | some u=>
    have e':b=a:=hA b (by rw[q];simp)
    subst e'
    rw[ha] at e;cases e
    have d':Data.seq vs.toArray _=Data.dict es ep:=d
    cases d'
  have YX:∀{b:Addr}{m:AAF},s₁.heap.Ns b m->(Bp s₁.heap H).Ns b m:=fun {b m} ⟨o,es,ep,e,d,r⟩=>⟨o,es,ep,GJ e (W3 e d),d,r⟩
  have hKb:K.In (Bp s₁.heap H):=fun b o e=>GJ (KX b o e) (by
   cases q:H b with
   | none=>rfl
   | some u=>
    have e':b=a:=hA b (by rw[q];simp)
    subst e'
    rw[hK (by rw[q];simp)] at e;cases e)
  have hM:Mod K mg (Bp s₁.heap H):=⟨hKb,YX hns,⟨mb,YX hb,hbb⟩,let⟨mc,h1,h2⟩:=hlim;⟨mc,YX h1,h2⟩⟩
  have e0:EF P w K mg (Bp s₁.heap H) callerA [] s₁ H:=⟨rfl,hM,fun b o e=>Oh e,aef (HJ _ _),trivial,fun b hb=>absurd (show b∈([]:List Addr) from hb) (by simp),hok,.of_eq hg⟩
  refine afw ((F _ hKb (YX hns)).run callerA [] s₁ H ⟨[.ref a],[]⟩ [.ref a] [.ref a] _ _ hr e0 (hbind s₁ (.ref a)) (.cons rfl .nil) (Rn H hO hS)) fun r s' h=>?_
  cases r with
  | error e=>exact(hCX H e s' h).elim
  | ok fl=>
   cases fl with
   | next=>exact False.elim h
   | brk=>exact False.elim h
   | cont=>exact False.elim h
   | ret u=>
    obtain⟨v,H',os,bare,un,aay,r',q⟩:=h
    have q':v= .bl true:=q
    subst q'
    obtain rfl:u=Value.bool true:=r'
    refine⟨rfl,OldK.of_keep fun b o e=>?_,os,bare⟩
    cases q:H b with
    | none=>exact un.keep b o e q (by intro z;exact absurd (show b∈([]:List Addr) from z) (by simp)) (by simp)
    | some u=>
     rcases hO b with z | ⟨ob,xs,z⟩
     ·rw[q] at z;cases z
     ·have z2:=un.zJ b ob _ z
      obtain⟨e1,_⟩:=hok b _ z
      obtain⟨e2,_⟩:=aay b _ z2
      rw[e] at e1;cases e1
      exact e2
 cases hk:K.lookup a with
 | some o=>
  have e:=KX a o hk
  rw[ha] at e
  cases e
  refine core (fun c=>none) (fun c=>.inl rfl) (.inr ⟨_,vs.toArray,_,hk,rfl,rfl,rfl,by rw[aaj,lenV];exact hl,by simpa using rv⟩) (fun b u z=>by have z':(none:Option HO)=some u:=z;cases z') (fun b z=>absurd rfl z) fun z=>absurd rfl z
 | none=>
  refine core (fun b=>if b=a then some (.kL {cls:=.type "list",data:=.seq vs.toArray} (.lst (ns.map V.int))) else none) (fun b=>?_) (.inl (.inr ⟨{cls:=.type "list",data:=.seq vs.toArray},if_pos rfl⟩)) (fun b u z=>?_) (fun b z=>?_) fun c=>hk
  ·by_cases hb:b=a
   ·exact .inr ⟨_,_,if_pos hb⟩
   ·exact .inl (if_neg hb)
  ·by_cases hb:b=a
   ·have z':=(if_pos hb).symm.trans z
    cases z'
    subst hb
    exact⟨ha,by rw[aaw];exact hl,vs,_,rv,ha⟩
   ·have z':=(if_neg hb).symm.trans z
    cases z'
  ·by_cases hb:b=a
   ·exact hb
   ·exact absurd (if_neg hb) z
noncomputable abbrev KOf {K:AAD}{h:Heap}(_:K.In h):PySem.W.Frag:=K
def OQ {l:PySem.W.OpenLaw}{n:Nat}{q:Program}{loose:List Str}{XP:(Str->Option Value)->Heap->Prop}{YP:World->Heap->Prop}{d:DefRec}{K:Params->PySem.W.Frag}{CX:World->JR}{sp:World->Sp}
  (hn:l.most=some n) (hn2:n<=sizeLine) (hdf:d.params.defaults=[]) (hr:fQ k callerA)
  (hY:∀(w:World) (h:Heap),YP w h->(K w.params).In h)
  (F:∀(w:World) (mg:AAF) (fa:Addr) (h:Heap),(K w.params).In h->h.Ns mainGlobals mg->mg d.name=some (.ref fa)->
   ∃fd:FuncData,(∀(s:Shared) (u:Value),BindsTo s fd ⟨[u],[]⟩ [(x,u)])/\
    ∀base:Heap,(K w.params).In base->base.Ns mainGlobals mg->jW l.prog w (K w.params) mg base (CX w) k fa fd [x] (sp w))
  (Rn:∀(w:World) (H:Hp) (a:Addr) (ns:List Int),ns.length<=n->OP H->oO (K w.params) H a (ns.map V.int)->sp w [.ref a] H (fun v c=>v= .bl true) fun c c c=>False)
  (hCX:∀(w:World) (H:Hp) (s:Shared) (e:Value) (s':Shared),CX w [] H s (fun c c c=>False) e s'->False):
  PySem.W.WalkO q loose XP YP l.row.toRowW d [] (fun f vs=>PySem.call f vs):=by
 refine Att.CY hn hdf fun w s₀ s₁ mg mb fa o pm cd doc a vs ns G Y ho hd hcd hmg hobj hints hlen hg=>?_
 have KX:=hY w _ Y
 obtain⟨fd,hb,hF⟩:=F w mg fa _ KX G.T.g hmg
 exact K4 KX G.T.g G.T.b G.T.builtins G.T.nolimit hg hobj hints (aaW hlen hn2) hr hF hb (fun H hO hS=>Rn w H a ns hlen hO hS) fun H e s'=>hCX w H s₁ e s'
noncomputable def lQ (s:Stmt):Arguments:=match s with
 | .FunctionDef _ a _ _ _ _ _ _ _ _=>a
 | _=>{posonlyargs:=[],args:=[],vararg:=none,kwonlyargs:=[],kw_defaults:=[],kwarg:=none,defaults:=[]}
noncomputable def iO (s:Stmt):List Stmt:=match s with
 | .FunctionDef _ _ b _ _ _ _ _ _ _=>b
 | _=>[]
noncomputable def aP (s:Stmt):Scope:=match s with
 | .FunctionDef _ _ _ _ _ _ sc _ _ _=>sc
 | _=>{kind:=.function,names:=[],isGenerator:=false,isCoroutine:=false}
noncomputable abbrev BE:JR:=fun a a a a a a=>False
noncomputable abbrev E0:XK:=fun a a a=>False
def CZ :Passes BE X E0:=fun a a a a a a a h=>h.elim
structure OR (K:AAD) (x qual:Str) (st:Stmt) (f:Addr) (fd:FuncData):Prop where
 ex:∃(oc:Value) (od:Option Addr) (kV doc pm:Value) (an:Option Addr) (cdv ct:Value) (osl:Array (Option Value)),
  fd=PySem.W.fnOf x qual (lQ st) (iO st) (aP st) .none kV doc pm an cdv ct/\K.lookup f=some ⟨oc,od,.func fd,osl⟩/\PySem.W.codeIn K cdv qual=true
 kp:PySem.W.keepIn K (.ref f)=true
section
variable {P:Program}{w:World}{K:AAD}{mg:AAF}{base:Heap}
def OR.ok {f:Addr}{N:List Str}{sp:Sp}(F:OR K x qual st f fd) (S:bA N ps (aP st)) (len:∀vs H Q E,sp vs H Q E->vs.length=ps.length)
  (hbody:∀(cdv:Value) (A:Around) (outer:List Env) (s:Shared) (H:Hp) (vs:List V) (Q:VK) (E:XK),fQ k (A.deeper (envOfC qual (aP st) s.heap.objs.size f cdv))->sp vs H Q E->
   ∃t,Em (Bw BE P w K mg base N qual (aP st) f cdv A outer s H E).Sk (iO st) t/\t {nx:=fun a H'=>Q .cU H',rt:=Q} (start N vs) H):jW P w K mg base BE (k+1) f fd ps sp:=by
 obtain⟨oc,od,kV,doc,pm,an,cdv,ct,osl,rfl,lk,hcd⟩:=F.ex
 refine W4 lk hcd S len fun A outer s H vs Q E hr Rn=>?_
 obtain⟨t,h,q⟩:=hbody cdv A outer s H vs Q E hr Rn
 exact⟨t,h.Sk,q⟩
def OR.binds {f:Addr}(F:OR K x qual st f fd)
  (h:∀(kV doc pm:Value) (an:Option Addr) (cdv ct:Value) (us:AAL),us.length=ps.length->bindArgs (PySem.W.fnOf x qual (lQ st) (iO st) (aP st) .none kV doc pm an cdv ct) ⟨us,[]⟩=pure (ps.zip us)):Binds K fd ps []:=by
 obtain⟨oc,od,kV,doc,pm,an,cdv,ct,osl,rfl,lk,hcd⟩:=F.ex
 exact .all (h kV doc pm an cdv ct)
def K5 {f:Addr}{oc:Value}{od an:Option Addr}{osl:Array (Option Value)}{kV doc pm cdv ct:Value}(l:K.lookup f=some ⟨oc,od,.func (PySem.W.fnOf x qual (lQ st) (iO st) (aP st) .none kV doc pm an cdv ct),osl⟩)
  (c:PySem.W.codeIn K cdv qual=true) (k:PySem.W.keepIn K (.ref f)=true):OR K x qual st f (PySem.W.fnOf x qual (lQ st) (iO st) (aP st) .none kV doc pm an cdv ct):=⟨⟨oc,od,kV,doc,pm,an,cdv,ct,osl,rfl,l,c⟩,k⟩
end
def AA {A:Around}(hr:fQ k A):A.units+20 < cLine:=afh (Nat.add_le_add_left (by decide:20<=64) _) hr.units
section
variable {X:Cx}
def Ib:gJ X (.builtin "len") (fun xs H Q=>∃a kvs,xs=[V.ref a]/\H a=some (.dK kvs)/\Q (.int kvs.length) H):=by
 intro pins s σ H xs us Q I r h
 obtain⟨a,kvs,rfl,ha,q⟩:=h
 obtain⟨u,rfl,ru⟩:=vals1 r
 cases ru
 exact W5 I (.inl ha) fun t s' I'=>⟨.int kvs.length,H,I',⟨t,rfl⟩,q⟩
end
def C0 {A B:Prop}(h:B):if false=true then A else B:=by
 rw[if_neg ac9]
 exact h
def C1 {A B:Prop}(h:A):if true=true then A else B:=by
 rw[if_pos rfl]
 exact h
section
variable {κ:Type} [DecidableEq κ]
end
def oN.Xk {h:Heap}{a:Addr}{o:HO}(x:oN P w H h) (hn:H a=none) (new:eY P w (upd H a o) h a o):oN P w (upd H a o) h:=fun b u e=>by
 by_cases hb:b=a
 ·subst hb;rw[bq] at e;cases e;exact new
 ·rw[bf hb] at e
  exact(x b u e).stay (fun c v d q=>q) (fun c q=>by rw[bf (bK q hn)];exact q) fun c xs q=>by rw[bf (bK q hn)];exact q
noncomputable def cM (X:Cx) (N':List Str) (scope:Scope) (cl:List (Str×Addr)) (C:Addr) (s:Shared) (H:Hp) (fp:List Addr):Cx:=
 {X with N:=N',s₀:=s,H₀:=H,env:=compEnvC scope cl C X.env,outer:=X.stack,stack:=X.stack,ex:=fp,fn:=fun a=>false,pn:=[],xe:=fun a a=>False}
noncomputable def fL (cap:List Nat) (σ:St):St:=cap.map fun i=>(σ[i]?).join
structure fV (X:Cx) (x:Str) (bQ:List Str) (cap:List Nat) (scope:Scope) (cl:List (Str×Addr)):Prop where
 clos:closureFor scope X.env=pure cl
 kM:∀y∈scope.names,y.2≠.cell
 kind:scope.kind= .function
 names:∀y∈scope.names,y.2= .local->scope.names.lookup y.1=some .local
 loc:scope.names.lookup x=some .local
 cells:∀n c,cl.lookup n=some c->X.env.cells.lookup n=some c
 has:∀n,((relabel scope X.env).names.lookup n=some .cell\/(relabel scope X.env).names.lookup n=some .free)->∃c,cl.lookup n=some c
 nd:(x :: bQ).Nodup
 len:cap.length=bQ.length
 slot:∀(j:Nat) n,bQ[j]? =some n->∃i:Nat,cap[j]? =some i/\X.N[i]? =some n/\An X.env.scope n
 vis:∀n,n∈bQ->((relabel scope X.env).names.lookup n=some .cell\/(relabel scope X.env).names.lookup n=some .free)/\(∃c,cl.lookup n=some c)/\X.env.scope.names.lookup n≠some .local
def YY (wi:TI) (cap:List Nat) (tc:TT) (te:TE):TE:=fun σ H Q=>wi σ H fun J H1=>∃W:Nat->Nat->List V->Hp->Prop,(∃m,W 0 m [] H1)/\∀i m ys H,W i m ys H->ys.length < sizeLine/\
  ((J.stop i H/\∀p,H p=none->Q (.ref p) (upd H p (.lst ys)))\/
   (J.go i H/\∀x H',J.Sv i H x H'->tc (some x :: fL cap σ) H' fun b H2=>if b=true then te (some x :: fL cap σ) H2 fun y H3=>∃m',m' < m/\W (i+1) m' (ys++[y]) H3 else ∃m',m' < m/\W (i+1) m' ys H2))
def aaz:TT:=fun a H Q=>Q true H
def N3 (X:Cx) (ifs:List Expr) (tc:TT):Prop:=
 ∀(pins:AAG) (s:Shared) (σ:St) (H:Hp) (Q:Bool->Hp->Prop),Inv X pins σ H s->tc σ H Q->
  wpAny (model X.prog X.w) X.A (forIn ifs true fun c r=>if r=true then do let ok <-isTrue c X.env (eval c X.env);pure (ForInStep.yield ok) else pure (ForInStep.yield r)) (TP X pins σ Q) X.xe s
def OS :N3 X [] aaz:=fun pins s σ H Q I h=>wpAny_tests_nil ⟨H,I,h⟩
def Td (ys:AAL) (y:Value):({cls:=.type "list",data:=.seq (ys.toArray.push y) (ys.length+1)}:Obj)={cls:=.type "list",data:=.seq (ys++[y]).toArray (ys++[y]).length}:=by
 rw[aaB,ad0,List.push_toArray]
def K6 {s s4:Shared}{C:Addr}{fp:List Addr}{m':AAF}
  (I:Inv X pins σ H s) (T:fV X x bQ cap scope cl) (hfp:∀b∈fp,l9 X pins H b) (hfo:∀b∈fp,∃o,s.heap.get? b=some o)
  (hC:s.heap.objs.size<=C) (hns:s4.heap.Ns C m') (hos:s4.os=s.os) (hg:s4.gens=s.gens)
  (kept:∀b o,s.heap.get? b=some o->s4.heap.get? b=some o):
  Inv (cM X (x :: bQ) scope cl C s H fp) [] (none :: fL cap σ) H s4:=by
 have fr:∀b,s.heap.objs.size<=b->H b=none:=fun b hb=>I.hok.fresh hb
 refine⟨⟨I.ok.mod,T.kind,I.ok.glob,I.ok.blt,hC,fun y z c h1 h2=>I.ok.inj y z c (T.cells _ _ h1) (T.cells _ _ h2),fun y hy=>T.has y hy,fun y c h=>(by cases h),I.ok.hd,I.ok.frames,.inl rfl,fun b hb=>⟨?_,fun y c e z=>?_⟩,I.bs,aaW I.ok.Kh I.sz,fun b o e hb=>?_,fun b hb z=>?_,I.stack,I.Bq⟩,
  hos,by rw[hg];exact I.bare,Un.kept kept,⟨m',hns,fun i y v h1 h2 h3=>?_⟩,fun y c h=>?_,fr C hC,fun y c h=>I.oV y c (T.cells _ _ h),fun p hp=>?_,I.hok.kept kept,?_⟩
 ·obtain⟨o,e⟩:=hfo b hb
  exact aaY (aaM (aaF e) hC)
 ·exact(hfp b hb).2.2.2.2.1 y c (T.cells _ _ e) z
 ·rcases(hfp b hb).2.2.2.1 with z | z
  ·exact I.ok.HK b o e z
  ·exact absurd (aaM (aaF e) (aaW I.ok.Kh z)) (acM _)
 ·rcases aaA.mp (I.xQ b z) with q | q
  ·exact(hfp b hb).2.1 q
  ·exact(hfp b hb).2.2.1 q
 ·cases i with
  | zero=>cases h2
  | succ j=>
   have h1:bQ[j]? =some y:=by simpa[cM] using h1
   have h2:(fL cap σ)[j]? =some (some v):=by simpa using h2
   obtain⟨i,e1,e2,e3⟩:=T.slot j y h1
   have e4:σ[i]? =some (some v):=by
    unfold fL at h2
    rw[aaO,e1] at h2
    have h2:some ((σ[i]?).join)=some (some v):=h2
    have h2:=aa0 h2
    cases q:σ[i]? with
    | none=>rw[q] at h2;cases h2
    | some o=>rw[q] at h2;cases h2;rfl
   obtain⟨m,hn,hl⟩:=I.loc
   obtain⟨u,r,l⟩:=hl i y v e2 e4 e3
   obtain⟨k1,⟨c,hc⟩,k3⟩:=T.vis y (ab3 h1)
   refine⟨u,r,.inr ⟨k1,c,hc,?_⟩⟩
   rcases l with⟨hk,_⟩ | ⟨hk,c',hc',z⟩
   ·exact absurd hk k3
   ·rw[T.cells _ _ hc] at hc'
    cases hc'
    obtain⟨o,ho,hd⟩:=z
    exact⟨o,kept _ _ ho,hd⟩
 ·obtain⟨v,o,ho,hd⟩:=I.cell y c (T.cells _ _ h)
  exact⟨v,o,kept _ _ ho,hd⟩
 ·exact absurd (show p∈([]:AAG) from hp) (by simp)
 ·show(none :: fL cap σ).length=(x :: bQ).length
  simp[fL,T.len]
def uM (P:Program) (w:World) (A:Around) (env:Env) (R:Result->Shared->Prop):Value->Shared->Prop:=notedBy (model P w) A env fun e s'=>R (.error e) s'
theorem BF {A:Around}{R:Result->Shared->Prop}{s:Shared}{tg:Expr}{it acc:Value}{env:Env}(J:Nat->Shared->Prop)
  (turn:∀n s,J n s->wpAny (model P w) A (pyNext it) (fun r s1=>match r with
   | none=>R (.ok .next) s1
   | some v=>wpAny (model P w) A (letOwnedTupleGo tg it v) (fun a s1=>wpAny (model P w) A (assign tg env v) (fun a s2=>
     wpAny (model P w) A (forIn ifs true fun c r=>if r=true then do let ok <-isTrue c env (eval c env);pure (ForInStep.yield ok) else pure (ForInStep.yield r)) (fun ok s3=>
      if ok=true then wpAny (model P w) A (eval elt env) (fun x s4=>wpAny (model P w) A (call (.builtin "list.append") [acc,x]) (fun a s5=>∃m,m < n/\J m s5) (uM P w A env R) s4) (uM P w A env R) s3
      else ∃m,m < n/\J m s3) (uM P w A env R) s2) (uM P w A env R) s1) (uM P w A env R) s1) (uM P w A env R) s)
  (n:Nat) (h:J n s):codeAny (model P w) A (.compLoop (.ListComp elt [⟨tg,iter,ifs,0⟩] scope pos) 0 it acc env) R s:=by
 refine codeAny_loop rfl J (fun n s hJ=>?_) n h
 show wpAny _ A ((compTurn (.ListComp elt [⟨tg,iter,ifs,0⟩] scope pos) 0 it acc env).onRaise (fun x=>do noteFrame x env;theTreesLotGoes x)) _ _ s
 refine wpAny_noted ?_
 rw[compTurn_list]
 refine aae (afl (aae (acL (turn n s hJ) (fun r s1 k1=>?_) fun a a z=>z)))
 cases r with
 | none=>exact aag k1
 | some v=>
  refine aae (acL k1 (fun a s1 k1=>?_) fun a a z=>z)
  refine aae (acL k1 (fun a s2 k2=>aae (acL k2 (fun ok s3 k3=>?_) fun a a z=>z)) fun a a z=>z)
  cases ok with
  | false=>exact aag ⟨rfl,k3⟩
  | true=>exact aae (aae (acL k3 (fun x s4 k4=>aae (acL k4 (fun a s5 k5=>aag (aag ⟨rfl,k5⟩)) fun a a z=>z)) fun a a z=>z))
inductive CompI (Y:Cx) (Z:St->Prop) (tn:Nat->Heap->Prop) (fp:List Addr) (D:Addr) (W:Nat->Nat->List V->Hp->Prop) (n:Nat) (s':Shared):Prop
 | mk (i:Nat) (ys:List V) (us:AAL) (H':Hp) (z:St) (hz:Z z) (I:Inv Y [] z H' s') (st:tn i s'.heap) (fr:∀b∈fp,H' b=none) (d:H' D=none) (a:s'.heap.get? D=some {cls:=.type "list",data:=.seq us.toArray us.length}) (v:Vals ys us) (w:W i n ys H')
def vV {tg:Expr}{N:List Str}{s:Shared}{z0:St}{Q:VK}{Z:St->Prop}{pt:V->Hp->St->Prop}{R:It->Hp->Prop}
    (T:fV X x bQ cap scope cl) (hc:X.calm=true) (hi:PI X tg iter wi)
    (ht:∀C s H fp,N3 (cM X N scope cl C s H fp) ifs tc) (he:∀C s H fp,PE (cM X N scope cl C s H fp) elt te)
    (hs:∀x,foldedSetIterable iter X.env x=pure x) (I:Inv X pins σ H s) (h:wi σ H R)
    (hR:∀J H1,R J H1->∃W:Nat->Nat->List V->Hp->Prop,(∃m,W 0 m [] H1)/\∀i m ys H,W i m ys H->ys.length < sizeLine/\
      ((J.stop i H/\∀p,H p=none->Q (.ref p) (upd H p (.lst ys)))\/
       (J.go i H/\∀x H',J.Sv i H x H'->∃z,pt x H' z/\tc z H' fun b H2=>if b=true then te z H2 fun y H3=>∃m',m' < m/\W (i+1) m' (ys++[y]) H3 else ∃m',m' < m/\W (i+1) m' ys H2)))
    (hZ:Z z0) (hI:∀{s s4:Shared}{H:Hp}{C:Addr}{fp:List Addr}{m':AAF},Inv X pins σ H s->(∀b∈fp,l9 X pins H b)->(∀b∈fp,∃o,s.heap.get? b=some o)->s.heap.objs.size<=C->s4.heap.Ns C m'->s4.os=s.os->s4.gens=s.gens->(∀b o,s.heap.get? b=some o->s4.heap.get? b=some o)->Inv (cM X N scope cl C s H fp) [] z0 H s4)
    (hG:∀{Y:Cx}{C:Addr}{z z':St}{xv:V}{H:Hp},Y.N=N->Y.env=compEnvC scope cl C X.env->Y.K=X.K->Y.calm=true->Z z->pt xv H z'->Z z'/\∃g,PG Y tg g/\g xv z H fun σ' H'=>σ'=z'/\H'=H)
    (hend:∀(D C:Addr) (s7:Shared) (H6:Hp) (ys:List V),Inv X pins σ (upd H6 D (.lst ys)) s7->(∃m,s7.heap.Ns C m)->l9 X pins (upd H6 D (.lst ys)) C->Q (.ref D) (upd H6 D (.lst ys))->compPost (model X.prog X.w) X.A X.xe use Qf (.ref D) C (.ok .next) s7):
    wpAny (model X.prog X.w) X.A (comprehension (.ListComp elt [⟨tg,iter,ifs,0⟩] scope pos) scope X.env pos2 (newList []) false (eval iter X.env) use) Qf X.xe s:=by
  refine wpAny_comprehension_free (use:=use) rfl hs T.clos T.kind T.names (eB (hi pins s σ H _ I h) fun v s1 h1=>eB h1 fun itv s2 h2=>aa5 fun ng=>?_)
  obtain⟨it,fp,tn,J,H2,rfl,I2,OT,st2,f2,hJ⟩:=h2
  obtain⟨W,⟨m0,w0⟩,turn⟩:=hR J H2 hJ
  refine ng (adg (wpAny_newFunctionEnv T.kM (by intro y hy;simp at hy) (fun h4 OU K7=>?_) T.kind))
  clear ng
  dsimp only at OU K7 ⊢
  generalize hH3:s2.heap.push {cls:=.type "list",dict:=none,data:=.seq ([]:AAL).toArray}=H3 at OU K7 ⊢
  have eC:H3.objs.size=s2.heap.objs.size+1:=by rw[<-hH3,acX]
  generalize eC':H3.objs.size=C at eC OU K7 ⊢
  generalize eD:s2.heap.objs.size=D at eC ⊢
  have Xl:C=D+1:=eC
  have hDC:D≠C:=by rw[Xl];exact aaY (afv D)
  have hC:s2.heap.objs.size<=C:=by rw[eD,Xl];exact afI D
  have hD:s2.heap.objs.size<=D:=by rw[eD];exact aaC D
  have kept:∀b o,s2.heap.get? b=some o->h4.get? b=some o:=fun b o e=>K7.extBut b o (aaY (aaM (aaF e) hC)) (aaf _ (hH3▸aaf _ e))
  have hacc:h4.get? D=some {cls:=.type "list",data:=.seq ([]:AAL).toArray ([]:AAL).length}:=K7.extBut _ _ hDC (aaf _ (hH3▸eD▸aaJ _ rfl))
  have fo2:∀b∈fp,∃o,s2.heap.get? b=some o:=fun b hb=>let⟨o,e,_⟩:=OT.obj _ _ st2 b hb;⟨o,e⟩
  have hDf:D∉fp:=fun hb=>by
    obtain⟨o,e⟩:=fo2 D hb
    exact absurd (aaM (aaF e) hD) (acM _)
  have st4:tn 0 h4:=OT.keep _ _ _ st2 fun b a o e=>kept b o e
  have key:∀s5:Shared,s5={s2 with heap:=h4,toks:=s2.toks+([]:List (Str×Value)).length}->
      codeAny (model X.prog X.w) X.A (.compLoop (.ListComp elt [⟨tg,iter,ifs,0⟩] scope pos) 0 (.ref it) (.ref D) (compEnvC scope cl C X.env)) (compPost (model X.prog X.w) X.A X.xe use Qf (.ref D) C) s5:=by
    rintro s5 rfl
    have I4:Inv (cM X N scope cl C s2 H2 fp) [] z0 H2 {s2 with heap:=h4,toks:=s2.toks+([]:List (Str×Value)).length}:=
      hI (s4:={s2 with heap:=h4,toks:=s2.toks+([]:List (Str×Value)).length}) I2 f2 fo2 hC OU rfl rfl kept
    generalize hY:cM X N scope cl C s2 H2 fp=Y at I4
    have fD:∀{H':Hp},H' D=none->l9 Y [] H' D:=fun {H'} hn=>by
      subst hY
      refine⟨hn,hDC,fun z=>(aaA.mp (I2.xQ D z)).elim (fun q=>absurd (aaM (q▸I2.lt) hD) (acM _)) fun q=>I2.Ww hD q,.inr hD,fun y c e z=>?_,fun p hp=>absurd (show p∈([]:AAG) from hp) (by simp)⟩
      obtain⟨v,q⟩:=I2.cell y c (T.cells _ _ e)
      exact absurd (aaM q.lt (by rw[z];exact hD)) (acM _)
    have exY:fp=Y.ex:=hY▸rfl
    have pnY:Y.pn++([]:AAG)=[]:=hY▸rfl
    have fF:∀{H':Hp},(∀b∈fp,H' b=none)->∀b∈fp,l9 Y [] H' b:=fun {H'} hn b hb=>by
      have q:=I4.ok.Z1 b (exY▸hb)
      exact⟨hn b hb,fun z=>q.1 z,I4.ok.Kl b (exY▸hb),.inl (exY▸hb),fun y c e z=>q.2 y c e z,fun p hp=>absurd (pnY▸hp) (by simp)⟩
    have eA:Y.A=X.A:=hY▸rfl
    have eP:Y.prog=X.prog:=hY▸rfl
    have eW:Y.w=X.w:=hY▸rfl
    have eK:Y.K=X.K:=hY▸rfl
    have eE:Y.env=compEnvC scope cl C X.env:=hY▸rfl
    have eX:Y.xe=fun a a=>False:=hY▸rfl
    have eN:Y.N=N:=hY▸rfl
    have Xm:Y.calm=true:=hY▸hc
    have htY:N3 Y ifs tc:=hY▸ht _ _ _ _
    have heY:PE Y elt te:=hY▸he _ _ _ _
    have EL:∀(E':AAE) (e:Value) (s':Shared),Y.xe e s'->E' e s':=fun E' e s' z=>by rw[eX] at z;exact z.elim
    refine BF (CompI Y Z tn fp D W) ?_ m0
      ⟨0,[],[],H2,z0,hZ,I4,st4,fun b hb=>(f2 b hb).1,I2.hok.fresh hD,hacc,.nil,w0⟩
    rintro n s6 ⟨i,ys,us,H6,z6,hz6,I6,st6,fr6,d6,a6,v6,w6⟩
    refine aa5 fun ng=>?_
    have hul:us.length=ys.length:=v6.length.symm
    obtain⟨hz,Xn⟩:=turn i n ys H6 w6
    have fF':∀{H':Hp},(∀b∈fp,H' b=none)->∀b∈fp,l9 Y ([]++rL [D] s6.heap) H' b:=fun {H'} hn b hb=>by
      obtain⟨f0,f1,f2',f3,f4,f5⟩:=fF hn b hb
      refine⟨f0,f1,f2',f3,f4,fun p hp z=>?_⟩
      rcases aaX.mp hp with q' | q'
      . exact f5 p (adH _ q') z
      . rcases aaX.mp q' with q' | q'
        . exact absurd q' (by simp)
        . have:=(As q').1
          rw[aax.mp this] at z
          exact hDf (z▸hb)
    rcases Xn with⟨stop,qn⟩ | ⟨go,step⟩
    . have I6p:=I6.pinned (fp:=[D]) (fun b hb=>by rw[aax.mp hb];exact fD d6) (fun b hb=>by rw[aax.mp hb];exact⟨_,a6,fun v z=>by cases z⟩)
      have q:=OT.done Y eP eW eK Xm i _ s6 z6 H6 (notedBy (model X.prog X.w) X.A (compEnvC scope cl C X.env) fun e s'=>compPost (model X.prog X.w) X.A X.xe use Qf (.ref D) C (.error e) s') I6p (fF' fr6) st6 stop
      rw[eA] at q
      refine ng (eB q fun r s7 hh=>?_)
      obtain⟨hr,I7⟩:=hh
      subst hr
      have a7:s7.heap.get? D=_:=(I7.pin (D,{cls:=.type "list",data:=.seq us.toArray us.length}) (aaS _ (aaS _ (iR (aax.mpr rfl) a6)))).1
      obtain⟨m7,N4,_⟩:=I7.loc
      rw[eE] at N4
      have Xo:H6 D=none:=d6
      have hCn:H6 C=none:=by have:=I7.free;rw[eE] at this;exact this
      have aaE:oN X.prog X.w H6 s7.heap:=by have q:=I7.hok;rw[eP,eW] at q;exact q
      have new:eY X.prog X.w (upd H6 D (.lst ys)) s7.heap D (.lst ys):=⟨aeH hz,us,us.length,v6,a7⟩
      have u7:Un (frs X.stack) fp H2 H6 s2.heap s7.heap:=by have:=I7.base;rw[<-hY] at this;exact this
      have neD:∀b o,s2.heap.get? b=some o->b≠D:=fun b o e=>aaY (aaM (aaF e) hD)
      have u8:Un (frs X.stack) fp H2 (upd H6 D (.lst ys)) s2.heap s7.heap:=
        ⟨u7.keep,u7.slot,fun b o e n hx=>by rw[bf (neD b o e)];exact u7.free b o e n hx,u7.there,
         fun b xs e=>by have z:=u7.tups b xs e;rw[bf (bK z Xo)];exact z,fun b o u e=>by have z:=u7.zJ b o u e;rw[bf (bK z Xo)];exact z,
         fun b ps e=>by obtain⟨more,z⟩:=u7.Bo b ps e;exact⟨more,by rw[bf (bK z Xo)];exact z⟩⟩
      have os7:s7.os=s2.os:=by have:=I7.os;rw[<-hY] at this;exact this
      have I9:Inv X pins σ (upd H6 D (.lst ys)) s7:=I2.WA (ch:=fp) os7 u8 (aaE.Xk Xo new) I7.bare fun b hb=>⟨(f2 b hb).2.2.2.1,(f2 b hb).2.1,(f2 b hb).2.2.2.2.1,(f2 b hb).2.2.2.2.2⟩
      exact hend D C s7 H6 ys I9 ⟨m7,N4⟩ (I2.Br hC (by rw[bf (ac2 hDC)];exact hCn)) (qn D Xo)
    . have I6p:=I6.pinned (fp:=[D]) (fun b hb=>by rw[aax.mp hb];exact fD d6) (fun b hb=>by rw[aax.mp hb];exact⟨_,a6,fun v z=>by cases z⟩)
      have q:=OT.item Y eP eW eK Xm i _ s6 z6 H6 (notedBy (model X.prog X.w) X.A (compEnvC scope cl C X.env) fun e s'=>compPost (model X.prog X.w) X.A X.xe use Qf (.ref D) C (.error e) s') I6p (fF' fr6) st6 go
      rw[eA] at q
      refine ng (eB q fun r s6' hh=>aa5 fun ng=>?_)
      obtain⟨u,hr,h7⟩:=hh
      subst hr
      refine ng (eB h7 fun a s7 hh=>aa5 fun ng=>?_)
      obtain⟨xv,H8,I8,r8,y8,st8,fr8⟩:=hh
      have I8':=I8.pinned (fF' fr8) (OT.obj _ _ st8)
      obtain⟨z8,p8,stp⟩:=step xv _ y8
      obtain⟨hz8,g,hgY,gx⟩:=hG eN eE eK Xm hz6 p8
      have qa:=hgY _ s7 z6 H8 xv u (fun σ' H'=>σ'=z8/\H'=H8) I8' r8 gx
      rw[eP,eW,eA,eE] at qa
      refine ng (acL qa (fun a s9 h9=>aa5 fun ng=>?_) (EL _))
      obtain⟨Xp,H9,I9,e9,e9'⟩:=h9
      subst e9 e9'
      have qt:=htY _ s9 _ _ _ I9 stp
      rw[eP,eW,eA,eE] at qt
      refine ng (acL qt (fun ok s10 h10=>?_) (EL _))
      obtain⟨H10,I10,YZ⟩:=h10
      have back:∀{s':Shared}{H':Hp},Inv Y (([]++rL [D] s6.heap)++rL fp s7.heap) Xp H' s'->Inv Y [] Xp H' s'/\tn (i+1) s'.heap/\(∀b∈fp,H' b=none)/\H' D=none/\s'.heap.get? D=some {cls:=.type "list",data:=.seq us.toArray us.length}:=fun {s' H'} J=>by
        refine⟨J.oX.oX,OT.keep _ _ _ st8 fun b hb o e=>(J.pin (b,o) (aaS _ (aaS _ (iR hb e)))).1,fun b hb=>?_,?_,?_⟩
        . obtain⟨o,e,d⟩:=OT.obj _ _ st8 b hb
          exact(J.pin (b,o) (aaS _ (aaS _ (iR hb e)))).2.1
        . exact(J.pin (D,_) (aaS _ (adH _ (aaS _ (iR (aax.mpr rfl) a6))))).2.1
        . exact(J.pin (D,_) (aaS _ (adH _ (aaS _ (iR (aax.mpr rfl) a6))))).1
      cases ok with
      | false=>
        rw[if_neg (by decide)] at YZ ⊢
        obtain⟨m',hm,w10⟩:=YZ
        obtain⟨b1,b2,b3,b4,b5⟩:=back I10
        exact⟨m',hm,i+1,ys,us,H10,Xp,hz8,b1,b2,b3,b4,b5,v6,w10⟩
      | true=>
        rw[if_pos rfl] at YZ ⊢
        have qe:=heY _ s10 _ _ _ I10 YZ
        rw[eP,eW,eA,eE] at qe
        refine acL qe (fun y s11 h11=>?_) (EL _)
        obtain⟨yv,H11,I11,r11,m',hm,w11⟩:=h11
        obtain⟨b1,b2,b3,b4,b5⟩:=back I11
        refine append_at (hsz:=by rw[aaj,hul];exact aeH hz) b5 fun h12 aaH aaI=>?_
        have k12:∀b o,b≠D->s11.heap.get? b=some o->h12.get? b=some o:=fun b o hb e=>aaH.extBut b o hb e
        obtain⟨g0,g1,g2,g3,g4,g5⟩:=fD b4
        have I12:Inv Y [] Xp H11 {s11 with heap:=h12}:=b1.turned (t':=s11.toks) k12 g0 g1 g3 g4 g5
        refine⟨m',hm,i+1,ys++[yv],us++[y],H11,Xp,hz8,I12,OT.keep _ _ _ b2 fun b hb o e=>k12 b o (fun z=>hDf (z▸hb)) e,b3,b4,aaI.trans (congrArg some (Td us y)),v6.append (.cons r11 .nil),w11⟩
  exact codeAny_compStart_list (key _ rfl) (OT.self _ 0 _ _ _ st4 (key _ rfl))
def ya {s:Shared}{Q:VK}
  (T:fV X x bQ cap scope cl) (hc:X.calm=true) (hi:PI X (.Name x px) iter wi)
  (ht:∀C s H fp,N3 (cM X (x :: bQ) scope cl C s H fp) ifs tc) (he:∀C s H fp,PE (cM X (x :: bQ) scope cl C s H fp) elt te)
  (hs:∀x,foldedSetIterable iter X.env x=pure x) (I:Inv X pins σ H s) (h:YY wi cap tc te σ H Q)
  (hend:∀(D C:Addr) (s7:Shared) (H6:Hp) (ys:List V),Inv X pins σ (upd H6 D (.lst ys)) s7->(∃m,s7.heap.Ns C m)->l9 X pins (upd H6 D (.lst ys)) C->Q (.ref D) (upd H6 D (.lst ys))->compPost (model X.prog X.w) X.A X.xe use Qf (.ref D) C (.ok .next) s7):
  wpAny (model X.prog X.w) X.A (comprehension (.ListComp elt [⟨.Name x px,iter,ifs,0⟩] scope pos) scope X.env pos2 (newList []) false (eval iter X.env) use) Qf X.xe s:=
 vV (N:=x :: bQ) (z0:=none :: fL cap σ) (Z:=fun z=>∃o,z=o :: fL cap σ) (pt:=fun v a z=>z=some v :: fL cap σ) T hc hi ht he hs I h
  (fun J H1 ⟨W,w0,t⟩=>⟨W,w0,fun i m ys H w=>⟨(t i m ys H w).1,(t i m ys H w).2.imp id fun⟨g,k⟩=>⟨g,fun v H' y=>⟨_,rfl,k v H' y⟩⟩⟩⟩) ⟨none,rfl⟩ (fun I2=>K6 I2 T)
  (by
   rintro Y C _ _ xv H eN eE _ _ ⟨o,rfl⟩ rfl
   exact⟨⟨_,rfl⟩,Ar 0,xr (by rw[eN];exact T.nd) (by rw[eN];rfl) (by rw[eE];exact .inl (ade T.loc)) (.inr (by rw[eE];exact ade T.loc)),rfl,rfl⟩) hend
def K8 
  (T:fV X x bQ cap scope cl) (hc:X.calm=true) (hi:PI X (.Name x px) iter wi)
  (ht:∀C s H fp,N3 (cM X (x :: bQ) scope cl C s H fp) ifs tc) (he:∀C s H fp,PE (cM X (x :: bQ) scope cl C s H fp) elt te)
  (hs:∀x,foldedSetIterable iter X.env x=pure x:=by intro _;rfl):
  PE X (.ListComp elt [⟨.Name x px,iter,ifs,0⟩] scope pos) (YY wi cap tc te):=by
 intro pins s σ H Q I h
 rw[eval_ListComp]
 refine ya T hc hi ht he hs I h ?_
 rintro p C s7 H6 ys I9 ⟨m7,N4⟩ ⟨g0,g1,g2,g3,g4,g5⟩ q
 exact⟨m7,N4,fun h' hs'=>⟨.ref p,_,I9.turned (t':=s7.toks) (fun b o hb e=>hs'.extBut b o hb e) g0 g1 g3 g4 g5,rfl,q⟩⟩
def K9 {i:Nat}{y:Str}{py spos:Pos}
  (T:fV X x bQ cap scope cl) (hc:X.calm=true) (hi:PI X (.Name x px) iter wi)
  (ht:∀C s H fp,N3 (cM X (x :: bQ) scope cl C s H fp) ifs tc) (he:∀C s H fp,PE (cM X (x :: bQ) scope cl C s H fp) elt te)
  (hs:∀x,foldedSetIterable iter X.env x=pure x) (hN:X.N.Nodup) (hy:X.N[i]? =some y) (hx:Loc X.env.scope y)
  (hsw:swapsWith (.ListComp elt [⟨.Name x px,iter,ifs,0⟩] scope pos) (some (.Name y py)) spos.line X.env=pure true) (hf:X.fn y=true\/X.env.scope.names.lookup y=some .local):
  PS X (.Assign [.Name y py] (.ListComp elt [⟨.Name x px,iter,ifs,0⟩] scope pos) spos) (Ks (YY wi cap tc te) (Ar i)):=by
 intro pins s σ H D I h
 rw[exec_Assign_Name_used _ _ _ _ hsw]
 refine aae (afl (aae ?_))
 show wpAny _ X.A (do let _ <-comprehension (.ListComp elt [⟨.Name x px,iter,ifs,0⟩] scope pos) scope X.env _ (newList []) false (eval iter X.env) (some (assign (.Name y py) X.env))) _ _ s
 refine aae (acL (ya (Qf:=fun c s'=>SP X pins D .next s') T hc hi ht he hs I h ?_) (fun c s' hq=>aag (aag hq)) fun c c e=>e)
 rintro p C s7 H6 ys I9 ⟨m7,N4⟩ ⟨g0,g1,g2,g3,g4,g5⟩ q
 refine afp (uI I9 hN hy hx (v:=.ref p) (show RelV (.ref p) (.ref p) from rfl) (fun s8 I8 hh=>?_) hf)
 obtain⟨a,hsb,ha⟩:=hh
 have hne:C≠a:=ha.elim (fun z=>by rw[z];exact g1) fun z=>ac2 (g4 _ _ z)
 refine⟨m7,N4.sameBut hsb hne,fun h' hs'=>?_⟩
 exact⟨_,_,I8.turned (t':=s8.toks) (fun b o hb e=>hs'.extBut b o hb e) g0 g1 g3 g4 g5,q⟩
noncomputable def Its (z:Str):It:=⟨fun i a=>i < z.cps.size,fun i H x H'=>H'=H/\∃c,z.cps[i]? =some c/\x= .str ⟨#[c]⟩,fun i a=>z.cps.size<=i⟩
def La (z:Str) (it:Addr) (t:Tok) (ty:String) (hW:∀A':Around,A'.handled=none->Walks P w A' it [it] [it] z.cps.size (SignAt z) fun i h=>h.IsStrIter it ty z t i)
  (hself:∀(A:Around) (i:Nat) (s:Shared) (Q:AAE) (E:AAE),s.heap.IsStrIter it ty z t i->Q (.ref it) s->wpAny (model P w) A (pyIter (.ref it)) Q E s):
  Turn P w K (.Name x px) (Its z) [it] it (fun i h=>i<=z.cps.size/\h.IsStrIter it ty z t i) where
 mem:=by simp
 obj:=fun i h st b hb=>by
  obtain rfl:b=it:=by simpa using hb
  obtain⟨o,e,c,d⟩:=st.2
  exact⟨o,e,fun v q=>by rw[d] at q;cases q⟩
 keep:=fun i h h' st k=>by
  obtain⟨o,e,r⟩:=st.2
  exact⟨st.1,o,k it (by simp) o e,r⟩
 item:=by
  intro X hP hw hK hc i pins s σ H E I hf st hg
  subst hP hw hK
  obtain⟨f0,f1,f2,f3,f4,f5⟩:=hf it (by simp)
  refine(hW X.A (I.ok.hd hc)).item i s _ _ hg st.2 fun v h' tk hv st' kk=>?_
  obtain⟨c,u,hc',rfl⟩:=hv
  exact⟨_,rfl,aag ⟨.str ⟨#[c]⟩,H,I.turned (fun b o hb e=>kk b o (by simpa using hb) e) f0 f1 f3 f4 f5,⟨u,rfl⟩,⟨rfl,c,hc',rfl⟩,⟨hg,st'⟩,fun b hb=>(hf b hb).1⟩⟩
 done:=by
  intro X hP hw hK hc i pins s σ H E I hf st hg
  subst hP hw hK
  obtain⟨f0,f1,f2,f3,f4,f5⟩:=hf it (by simp)
  obtain⟨s1,s2⟩:=st
  have e:i=z.cps.size:=Nat.le_antisymm s1 hg
  subst e
  exact(hW X.A (I.ok.hd hc)).done s _ _ s2 fun h' tk kk=>⟨rfl,I.turned (fun b o hb e=>kk b o (by simpa using hb) e) f0 f1 f3 f4 f5⟩
 self:=fun A i s Q E st h=>hself A i s Q E st.2 h
def aaK (tl:TE):TI:=fun σ H R=>tl σ H fun x H1=>∃z,x= .str z/\R (Its z) H1
def Te {l:Expr}{tl:TE}(hl:PE X l tl):PI X (.Name x px) l (aaK tl):=by
 intro pins s σ H R I h
 refine eB (hl pins s σ H _ I h) fun v s1 hh=>?_
 obtain⟨y,H1,I1,r1,q1⟩:=hh
 obtain⟨z,rfl,q⟩:=q1
 obtain⟨t,rfl⟩:=r1
 refine wpAny_pyIter_strU ?_
 have hst:∀ty,strIterType z=ty->(s1.heap.push {cls:=.type (strIterType z),data:=.fields #[.str z t,.int 0 0]}).IsStrIter s1.heap.objs.size ty z t 0:=fun ty e=>⟨_,aaJ _ rfl,by rw[<-e],rfl⟩
 have go:∀ty,strIterType z=ty->(∀A':Around,A'.handled=none->Walks X.prog X.w A' s1.heap.objs.size [s1.heap.objs.size] [s1.heap.objs.size] z.cps.size (SignAt z) fun i h=>h.IsStrIter s1.heap.objs.size ty z t i)->
   (∀(A:Around) (i:Nat) (s:Shared) (Q:AAE) (E:AAE),s.heap.IsStrIter s1.heap.objs.size ty z t i->Q (.ref s1.heap.objs.size) s->wpAny (model X.prog X.w) A (pyIter (.ref s1.heap.objs.size)) Q E s)->
   PIE X pins σ (.Name x px) R (.ref s1.heap.objs.size) {s1 with heap:=s1.heap.push {cls:=.type (strIterType z),data:=.fields #[.str z t,.int 0 0]}}:=fun ty e hW hself=>by
  refine⟨s1.heap.objs.size,[s1.heap.objs.size],_,_,H1,rfl,I1.kept (t':=s1.toks) fun b o e=>aaf _ e,La z _ t ty hW hself,⟨acJ _,hst ty e⟩,fun b hb=>?_,q⟩
  obtain rfl:b=s1.heap.objs.size:=by simpa using hb
  exact I1.Br (aaC _) (I1.hok.fresh (aaC _))
 cases ha:z.cps.all (· < 128)
 ·exact go "str_iterator" (by simp[strIterType,ha]) (fun A' hA=>Walks.strWide hA _ z t) fun A i s Q E st h=>wpAny_pyIter_striter_wide st h
 ·exact go "str_ascii_iterator" (by simp[strIterType,ha]) (fun A' hA=>Walks.strAscii hA _ z t) fun A i s Q E st h=>wpAny_pyIter_striter_ascii st h
def C2 {bs:List Bool}:∀{us:AAL},Vals (bs.map V.bl) us->us=bs.map Value.bool:=by
 induction bs with
 | nil=>intro us r;cases r;rfl
 | cons b bs ih=>
  intro us r
  cases r with
  | cons r1 r2=>
   cases r1
   rw[ih r2]
   rfl
def EM (bs:List Bool):((List.range bs.length).all fun i=>(bs[i]?).getD true)=bs.all id:=by
 rw[adD,aa9,aa9]
 constructor
 ·intro h b hb
  obtain⟨i,hi,rfl⟩:=List.mem_iff_getElem.mp hb
  have:=h i (ab8.mpr hi)
  simpa[hi] using this
 ·intro h i hi
  have hi:=ab8.mp hi
  simp only[aaD hi,aey]
  exact h _ (aez hi)
def EN (bs:List Bool):((List.range bs.length).any fun i=>(bs[i]?).getD false)=bs.any id:=by
 rw[adD,ac6,ac6]
 constructor
 ·rintro⟨i,hi,h⟩
  have hi:=ab8.mp hi
  simp only[aaD hi,aey] at h
  exact⟨_,aez hi,h⟩
 ·rintro⟨b,hb,h⟩
  obtain⟨i,hi,rfl⟩:=List.mem_iff_getElem.mp hb
  exact⟨i,ab8.mpr hi,by simpa[hi] using h⟩
def Ic (hc:X.calm=true):gJ X (.builtin "all") (fun xs H Q=>∃(p:Addr) (bs:List Bool),xs=[.ref p]/\oO X.K H p (bs.map V.bl)/\Q (.bl (bs.all id)) H):=by
 intro pins s σ H xs us Q I r h
 obtain⟨p,bs,rfl,hp,q⟩:=h
 obtain⟨u,rfl,ru⟩:=vals1 r
 cases ru
 obtain⟨its,rv,pl,hz⟩:=I.list hp
 obtain rfl:=C2 rv
 have hlt:p < s.heap.objs.size:=by obtain⟨_,e,_⟩:=pl.isList;exact aaF e
 refine call_all_walk (aer pl.isList ?_)
 refine⟨s.heap.objs.size,[s.heap.objs.size,p],[s.heap.objs.size],_,_,_,fun i=>(bs[i]?).getD true,rfl,Walks.list (A:=X.A.in1) (I.ok.hd hc) _ p (aaY hlt) _,
  ⟨⟨_,aaJ _ rfl,rfl,rfl⟩,pl.isList.push _⟩,fun i v s' Q' E' hP hQ=>?_,fun h' tk hk=>?_⟩
 ·have hP:(bs.map Value.bool)[i]? =some v:=by simpa using hP
  rw[aaO] at hP
  cases e:bs[i]? with
  | none=>rw[e] at hP;cases hP
  | some b=>
   rw[e] at hP
   cases hP
   simp only[e,aey] at hQ
   exact acY hQ
 ·have e:((List.range (bs.map Value.bool).toArray.size).all fun i=>(bs[i]?).getD true)=bs.all id:=by
   rw[aaj,aaw];exact EM bs
  rw[e]
  exact⟨.bl (bs.all id),H,I.kept (t':=tk) fun b o e=>hk b o (fun hm=>by rw[aax.mp hm] at e;exact acM _ (aaF e)) (aaf _ e),rfl,q⟩
def Ie (hc:X.calm=true):gJ X (.builtin "any") (fun xs H Q=>∃(p:Addr) (bs:List Bool),xs=[.ref p]/\oO X.K H p (bs.map V.bl)/\Q (.bl (bs.any id)) H):=by
 intro pins s σ H xs us Q I r h
 obtain⟨p,bs,rfl,hp,q⟩:=h
 obtain⟨u,rfl,ru⟩:=vals1 r
 cases ru
 obtain⟨its,rv,pl,hz⟩:=I.list hp
 obtain rfl:=C2 rv
 have hlt:p < s.heap.objs.size:=by obtain⟨_,e,_⟩:=pl.isList;exact aaF e
 refine call_any_walk (aer pl.isList ?_)
 refine⟨s.heap.objs.size,[s.heap.objs.size,p],[s.heap.objs.size],_,_,_,fun i=>(bs[i]?).getD false,rfl,Walks.list (A:=X.A.in1) (I.ok.hd hc) _ p (aaY hlt) _,
  ⟨⟨_,aaJ _ rfl,rfl,rfl⟩,pl.isList.push _⟩,fun i v s' Q' E' hP hQ=>?_,fun h' tk hk=>?_⟩
 ·have hP:(bs.map Value.bool)[i]? =some v:=by simpa using hP
  rw[aaO] at hP
  cases e:bs[i]? with
  | none=>rw[e] at hP;cases hP
  | some b=>
   rw[e] at hP
   cases hP
   simp only[e,aey] at hQ
   exact acY hQ
 ·have e:((List.range (bs.map Value.bool).toArray.size).any fun i=>(bs[i]?).getD false)=bs.any id:=by
   rw[aaj,aaw];exact EN bs
  rw[e]
  exact⟨.bl (bs.any id),H,I.kept (t':=tk) fun b o e=>hk b o (fun hm=>by rw[aax.mp hm] at e;exact acM _ (aaF e)) (aaf _ e),rfl,q⟩
def aaL:V->Option Int->Option Int->Hp->VK->Prop:=fun x lo hi H Q=>∃z,x= .str z/\z.length<=sizeLine/\((Txt.slice z lo hi).length<=z.length->Q (.str (Txt.slice z lo hi)) H)
def Tf :Xb X aaL:=by
 intro pins s σ H x v vl vu lo hi sl Q I rx hs pl pu h
 obtain⟨z,rfl,hz,q⟩:=h
 obtain⟨t,rfl⟩:=rx
 have q:=q (aeJ z _ _)
 refine⟨"str",_,F.slot_str_getitem.lookup,aei _ _ _,?_⟩
 cases pl with
 | none=>
  cases pu with
  | none=>exact adO (l:=none) (u:=none) (st:=none) hs rfl (aeK ⟨aaW (aeJ z _ _) hz,fun t' k=>⟨V.str (Txt.slice z none none),H,I.tok k,⟨t',rfl⟩,q⟩⟩)
  | int j u=>exact adO (l:=none) (u:=some (j,u)) (st:=none) hs rfl (aeK ⟨aaW (aeJ z _ _) hz,fun t' k=>⟨V.str (Txt.slice z none (some j)),H,I.tok k,⟨t',rfl⟩,q⟩⟩)
 | int i u'=>
  cases pu with
  | none=>exact adO (l:=some (i,u')) (u:=none) (st:=none) hs rfl (aeK ⟨aaW (aeJ z _ _) hz,fun t' k=>⟨V.str (Txt.slice z (some i) none),H,I.tok k,⟨t',rfl⟩,q⟩⟩)
  | int j u=>exact adO (l:=some (i,u')) (u:=some (j,u)) (st:=none) hs rfl (aeK ⟨aaW (aeJ z _ _) hz,fun t' k=>⟨V.str (Txt.slice z (some i) (some j)),H,I.tok k,⟨t',rfl⟩,q⟩⟩)
theorem bH.length {H:Hp}:∀{vs:List V}{ds:List D},bH H vs ds->vs.length=ds.length
 | _,_,.nil=>rfl
 | _,_,.cons _ rs=>congrArg Nat.succ (bH.length rs)
theorem bH.get {H:Hp}:∀{vs:List V}{ds:List D}{i:Nat}{d:D},bH H vs ds->ds[i]? =some d->∃v,vs[i]? =some v/\Rep H v d
 | _,_,_,_,.nil,e=>by simp at e
 | _,_,0,_,.cons r _,e=>by simp at e;subst e;exact⟨_,rfl,r⟩
 | _,_,i+1,_,.cons _ rs,e=>by
  obtain⟨v,h1,h2⟩:=bH.get (i:=i) rs (by simpa using e)
  exact⟨v,by simpa using h1,h2⟩
theorem bH.append {H:Hp}:∀{vs ws:List V}{ds es:List D},bH H vs ds->bH H ws es->bH H (vs++ws) (ds++es)
 | _,_,_,_,.nil,s=>s
 | _,_,_,_,.cons r rs,s=>.cons r (bH.append rs s)
theorem bH.take {H:Hp}:∀{vs:List V}{ds:List D}(n:Nat),bH H vs ds->bH H (vs.take n) (ds.take n)
 | _,_,0,_=>.nil
 | _,_,_+1,.nil=>.nil
 | _,_,n+1,.cons r rs=>.cons r (bH.take n rs)
theorem bH.drop {H:Hp}:∀{vs:List V}{ds:List D}(n:Nat),bH H vs ds->bH H (vs.drop n) (ds.drop n)
 | _,_,0,rs=>rs
 | _,_,_+1,.nil=>.nil
 | _,_,n+1,.cons _ rs=>bH.drop n rs
noncomputable def Tg:D->String
 | .cU=>"NoneType" | .bl _=>"bool" | .int _=>"int" | .str _=>"str" | .tup _=>"tuple" | .lst _=>"list"
open PySem.W in
noncomputable def i6 (T U:String):Option Bool:=if(Value.type T == Value.type U)=true then some true else if kitMeta U=true then(fastBuiltinMro T).map (·.contains (Value.type U)) else none
noncomputable def Lb:D->Bool
 | .tup _=>true
 | _=>false
noncomputable def Lc:D->Bool
 | .lst _=>true
 | _=>false
noncomputable def rN:D->Bool
 | .str _=>true
 | _=>false
noncomputable def Rr:D->Bool
 | .bl _=>true
 | _=>false
noncomputable def Ld:D->Bool
 | .int _=>true
 | .bl _=>true
 | _=>false
def OV (d:D):PySem.W.kitOne K (.type (Tg d)) (.type "tuple")=some (Lb d):=by
 cases d with
 | cU=>exact(show i6 "NoneType" "tuple" =some false by decide +kernel)
 | bl b=>exact(show i6 "bool" "tuple" =some false by decide +kernel)
 | int i=>exact(show i6 "int" "tuple" =some false by decide +kernel)
 | str z=>exact(show i6 "str" "tuple" =some false by decide +kernel)
 | tup ds=>exact(show i6 "tuple" "tuple" =some true by decide +kernel)
 | lst ds=>exact(show i6 "list" "tuple" =some false by decide +kernel)
def OW (d:D):PySem.W.kitOne K (.type (Tg d)) (.type "list")=some (Lc d):=by
 cases d with
 | cU=>exact(show i6 "NoneType" "list" =some false by decide +kernel)
 | bl b=>exact(show i6 "bool" "list" =some false by decide +kernel)
 | int i=>exact(show i6 "int" "list" =some false by decide +kernel)
 | str z=>exact(show i6 "str" "list" =some false by decide +kernel)
 | tup ds=>exact(show i6 "tuple" "list" =some false by decide +kernel)
 | lst ds=>exact(show i6 "list" "list" =some true by decide +kernel)
def Le (d:D):PySem.W.kitOne K (.type (Tg d)) (.type "str")=some (rN d):=by
 cases d with
 | cU=>exact(show i6 "NoneType" "str" =some false by decide +kernel)
 | bl b=>exact(show i6 "bool" "str" =some false by decide +kernel)
 | int i=>exact(show i6 "int" "str" =some false by decide +kernel)
 | str z=>exact(show i6 "str" "str" =some true by decide +kernel)
 | tup ds=>exact(show i6 "tuple" "str" =some false by decide +kernel)
 | lst ds=>exact(show i6 "list" "str" =some false by decide +kernel)
def Th (d:D):PySem.W.kitOne K (.type (Tg d)) (.type "bool")=some (Rr d):=by
 cases d with
 | cU=>exact(show i6 "NoneType" "bool" =some false by decide +kernel)
 | bl b=>exact(show i6 "bool" "bool" =some true by decide +kernel)
 | int i=>exact(show i6 "int" "bool" =some false by decide +kernel)
 | str z=>exact(show i6 "str" "bool" =some false by decide +kernel)
 | tup ds=>exact(show i6 "tuple" "bool" =some false by decide +kernel)
 | lst ds=>exact(show i6 "list" "bool" =some false by decide +kernel)
def OX (d:D):PySem.W.kitOne K (.type (Tg d)) (.type "int")=some (Ld d):=by
 cases d with
 | cU=>exact(show i6 "NoneType" "int" =some false by decide +kernel)
 | bl b=>exact(show i6 "bool" "int" =some true by decide +kernel)
 | int i=>exact(show i6 "int" "int" =some true by decide +kernel)
 | str z=>exact(show i6 "str" "int" =some false by decide +kernel)
 | tup ds=>exact(show i6 "tuple" "int" =some false by decide +kernel)
 | lst ds=>exact(show i6 "list" "int" =some false by decide +kernel)
end L2
end
section
namespace HT
open PySem PySem.Spec PyProof.Rows
section
variable {prog:Program}{w:World}{A:Around}{E:AAE}{s:Shared}
def Ig {t sl:Addr}{items:AAK}{vl vu:Value}{lo hi:Option Int}{Q:AAE}(ht:IsTup s.heap t items) (hs:s.heap.IsSliceOf sl vl vu .none) (pl:IsPart vl lo) (pu:IsPart vu hi)
  (hw:gT items.size 0 lo=0/\gT items.size items.size hi=items.size) (h:Q (.ref t) s):wpAny (model prog w) A (getItem (.ref t) (.ref sl)) Q E s:=by
 obtain⟨os,hos,hcs,hds⟩:=id hs
 have hTs:s.TypeIs (.ref sl) "slice":=⟨os,hos,hcs⟩
 unfold getItem
 try with_reducible refine acW ?_
 first | refine aae (aag ?_) | skip
 refine aae (wpAny_sequenceKey ht.typeIs (by decide) ?_)
 refine aae (acE (name:=Str.ofString "__getitem__") ht.typeIs acD
  (ac5 acD ht.typeIs entry_tuple_getitem ?_ (args_tuple_getitem _ _)))
 show wpAny _ _ (Builtin.Tuple.tupleItemsOf (.ref t) >>= _) _ _ s
 refine aae (tupleItemsOf_ ht ?_)
 refine aae (afy hTs ?_)
 rw[if_pos (by decide)]
 refine aae (mR hs pl pu ?_)
 have hyes:(((gT items.size 0 lo:Nat):Int) == 0 && (1:Int) == 1 && (gT items.size items.size hi - gT items.size 0 lo) == items.size)=true:=by
  rw[hw.1,hw.2];simp
 show wpAny _ _ (if(((gT items.size 0 lo:Nat):Int) == 0 && (1:Int) == 1 && (gT items.size items.size hi - gT items.size 0 lo) == items.size)=true then _ else _) _ _ s
 rw[if_pos hyes]
 have hex:∀{α:Type}{k:Bool->Sem α}{Q':α->Shared->Prop}{E':AAE}{A':Around},wpAny (model prog w) A' (k true) Q' E' s->wpAny (model prog w) A' (Builtin.Tuple.tupleIsExact (.ref t) >>= k) Q' E' s:=fun {α k Q' E' A'} hk=>by
  refine aae ?_
  unfold Builtin.Tuple.tupleIsExact
  exact aae (afy ht.typeIs (aag hk))
 first
  | (refine hex ?_;exact aej (aag ⟨_,rfl,aag h⟩))
  | (refine hex ?_;refine aae (aej ?_);exact aag ⟨_,rfl,aag h⟩)
end
end HT
end
section
namespace L2
open PySem PySem.Spec PyProof.Rows
variable {scope:Scope}{X:Cx}{x z:Str}{y:V}{K:AAD}{H F1 H1 F' H' H0 F0:Hp}{a p ca cb ad:Addr}{ns:List Int}{α β:Type}{i j n:Nat}{o:HO}{B:Base}{S S' S0:SS}{σ:St}{u:U}{Q E:AAE}{T:String}{k:Bool}{q1 q2 q:GT}{r Lo ifs:List Expr}{ds es:List D}{xs vs:List V}{tg iter elt:Expr}{bd:GB}{gd g:GD}{gi:GI}{us ws:List U}{cap:List Nat}{pos:Pos}{cl:List (Str×Addr)}{bQ:List Str}{A:Around}{gq cB:AAL}{kvs:List (Key×V)}{prog:Program}{w:World}{xw:List (Str×GD)}{h':Heap}{its vals:AAK}{fp:List Addr}
section
variable {X:Cx}
noncomputable def cutD (ds:List D) (lo hi:Option Int):List D:=(ds.drop (HT.gT ds.length 0 lo)).take (HT.gT ds.length ds.length hi - HT.gT ds.length 0 lo)
def bH.gz {H:Hp}{vs:List V}{ds:List D}{i:Int}{d:D}(r:bH H vs ds) (h:L2.gz ds i=some d):∃v,L2.gz vs i=some v/\Rep H v d:=by
 have hl:=r.length
 unfold L2.gz at h ⊢
 rw[hl]
 cases e:EI ds.length i with
 | none=>rw[e] at h;cases h
 | some j=>
  rw[e] at h
  exact r.get h
end
def C3 {env:Env}{n:Str}{k:NameKind}(h:(relabel scope env).names.lookup n=some k):(n,k)∈(relabel scope env).names:=acK h
def EO (h1:∀y∈scope.names,y.2≠.free) (h2:∀y∈scope.names,y.2≠.cell) (h3:scope.kind= .function) (h4:∀y∈scope.names,y.2= .local->scope.names.lookup y.1=some .local) (h5:scope.names.lookup x=some .local):
  fV X x [] [] scope []:=by
 refine⟨closureFor_none h1,h2,h3,h4,h5,fun n c h=>(by cases h),fun n h=>?_,by simp,rfl,fun j n h=>(by simp at h),fun n h=>(by simp at h)⟩
 have no:∀k,(k=NameKind.cell\/k=NameKind.free)->(relabel scope X.env).names.lookup n≠some k:=fun k hk e=>by
  have m:=C3 e
  unfold relabel at m
  obtain⟨⟨n',k'⟩,hm,q⟩:=adz.mp m
  have z:(k' == NameKind.free)=false:=by simpa using h1 _ hm
  simp only[z,ae7,adi] at q
  have q2:k'=k:=by
   have:=congrArg Prod.snd q
   simpa using this
  rcases hk with rfl | rfl
  ·exact h2 _ hm q2
  ·exact h1 _ hm q2
 rcases h with h | h
 ·exact absurd h (no _ (.inl rfl))
 ·exact absurd h (no _ (.inr rfl))
mutual
def Lf (n:Nat):D->Prop
 | .str z=>z.length<=n
 | .tup ds=>ds.length<=n/\Fits n ds
 | .lst ds=>ds.length<=n/\Fits n ds
 | .cU=>True
 | .bl _=>True
 | .int _=>True
def Fits (n:Nat):List D->Prop
 | []=>True
 | d :: ds=>Lf n d/\Fits n ds
end
noncomputable def jB (d:D) (l m:Int):Bool:=match d with
 | .int i=>decide (l<=i) && decide (i<=m)
 | _=>false
theorem lookup_some {α:Type}:∀{l:List (Str×α)}{n:Str},n∈l.map (·.1)->∃c,l.lookup n=some c
 | [],_,h=>by simp at h
 | (m,c) :: l,n,h=>by
  rw[ad5]
  cases e:n == m with
  | true=>exact⟨c,rfl⟩
  | false=>
   rcases aaA.mp h with h | h
   ·have h:n=m:=h
    rw[h,beq_self_eq_true] at e
    cases e
   ·exact lookup_some h
def vals3 {x z:V}{us:AAL}(r:Vals [x,y,z] us):∃u v w',us=[u,v,w']/\RelV x u/\RelV y v/\RelV z w':=by
 cases r with
 | cons r1 r=>
  obtain⟨v,w',rfl,r2,r3⟩:=vals2 r
  exact⟨_,_,_,rfl,r1,r2,r3⟩
def Ih (hc:X.calm=true):gJ X (.builtin "min") (fun xs H Q=>∃i j k:Int,xs=[.int i,.int j,.int k]/\Q (.int (if j < i then(if k < j then k else j) else if k < i then k else i)) H):=by
 intro pins s σ H xs us Q I r h
 obtain⟨i,j,k,rfl,q⟩:=h
 obtain⟨u,v,w',rfl,⟨t,rfl⟩,⟨t',rfl⟩,⟨t'',rfl⟩⟩:=vals3 r
 refine min_three_ints (I.ok.hd hc) fun h' tk kk=>⟨_,H,I.kept kk,?_,q⟩
 by_cases h1:j < i
 ·rw[if_pos h1,if_pos h1]
  by_cases h2:k < j
  ·rw[if_pos h2,if_pos h2];exact⟨_,rfl⟩
  ·rw[if_neg h2,if_neg h2];exact⟨_,rfl⟩
 ·rw[if_neg h1,if_neg h1]
  by_cases h2:k < i
  ·rw[if_pos h2,if_pos h2];exact⟨_,rfl⟩
  ·rw[if_neg h2,if_neg h2];exact⟨_,rfl⟩
mutual
noncomputable def toPy:D->PyData
 | .cU=>.none
 | .bl b=>.bool b
 | .int i=>.int i
 | .str z=>.str z
 | .tup ds=>.tuple (Lg ds)
 | .lst ds=>.list (Lg ds)
noncomputable def Lg:List D->List PyData
 | []=>[]
 | d :: ds=>toPy d :: Lg ds
end
section
variable {X:Cx}{pins:AAG}{σ:St}{H:Hp}{s:Shared}
end
inductive MO where
 | lst (ds:List D)
 | dct (kvs:List (Key×D))
 | cI (kvs:List (D×D))
 | ins (C:Addr) (kvs:List (Str×D))
inductive U where
 | t (d:D) | m (o:MO) | b (o:MO) | v (i:Nat) | s (ns:List Int) | f (a:Addr)
abbrev AAA (d:D):Option U:=some (.t d)
abbrev AAB (d:List D):Option U:=some (.m (.lst d))
abbrev AAC (i:Int):Option U:=some (.t (.int i))
abbrev SS:=List (Option U)
def Sub (F H:Hp):Prop:=∀a o,F a=some o->H a=some o
def fR {κ:Type}(F:Hp) (p:κ×V) (q:κ×D):Prop:=p.1=q.1/\Rep F p.2 q.2
def At (F H:Hp) (a:Addr):MO->Prop
 | .lst ds=>∃vs,H a=some (.lst vs)/\bH F vs ds
 | .dct kvs=>∃ws,H a=some (.dK ws)/\Paired (fR F) ws kvs
 | .cI kvs=>∃ws,H a=some (.dT ws)/\Paired (fR F) ws kvs
 | .ins C kvs=>∃ws,(∃dx,H a=some (.ins C dx ws))/\Paired (fR F) ws kvs
noncomputable def gf:U->Bool
 | .m _=>true
 | .b _=>true
 | _=>false
def dQ (S:SS) (σ:St) (a:Addr):Prop:=∃(i:Nat) (u:U),S[i]? =some (some u)/\gf u=true/\σ[i]? =some (some (.ref a))
def OY (K:AAD) (H:Hp) (a:Addr) (ns:List Int):Prop:=
 (∃o,H a=some (.kL o (.lst (ns.map V.int))))\/∃(o:Obj) (its:AAK) (n:Nat),K.lookup a=some o/\o.cls= .type "list"/\o.dict=none/\o.data= .seq its n/\its.size<=sizeLine/\Vals (ns.map V.int) its.toList
theorem OY.sq :OY K H a ns->oO K H a (ns.map V.int)
 | .inl h=>.inl (.inr h)
 | .inr h=>.inr h
def BG (K:AAD) (F H:Hp) (v:V):U->Prop
 | .t d=>Rep F v d
 | .m o=>∃a,v= .ref a/\F a=none/\At F H a o
 | .b o=>∃a,v= .ref a/\F a=none/\At F H a o
 | .v _=>False
 | .s ns=>∃a,v= .ref a/\OY K H a ns
 | .f a=>v= .ref a
structure Ext (M:Addr->Prop) (F H F' H':Hp):Prop where
 le:∀b o,F b=some o->F' b=some o
 keep:∀b o,H b=some o->¬M b->H' b=some o
 jV:∀b o,H b=some o->¬M b->F b=none->F' b=none
 there:∀b o,H b=some o->∃o',H' b=some o'
 kL:∀b o u,H b=some (.kL o u)->H' b=some (.kL o u)
structure Base where
 P:List (Option Addr)
 F:Hp
 H:Hp
def Base.M (B:Base) (a:Addr):Prop:=some a∈B.P
structure Rel (K:AAD) (B:Base) (S:SS) (σ:St) (F H:Hp):Prop where
 sub:Sub F H
 len:S.length=σ.length
 rep:∀(i:Nat) u,S[i]? =some (some u)->∃v,σ[i]? =some (some v)/\BG K F H v u
 GK:∀(i j:Nat) u w a,S[i]? =some (some u)->gf u=true->S[j]? =some (some w)->gf w=true->σ[i]? =some (some (.ref a))->σ[j]? =some (some (.ref a))->i=j
 own:∀(i:Nat) o a,S[i]? =some (some (.m o))->σ[i]? =some (some (.ref a))->B.H a=none
 bor:∀(i:Nat) o a,S[i]? =some (some (.b o))->σ[i]? =some (some (.ref a))->B.M a
 par:∀(i:Nat) a,B.P[i]? =some (some a)->σ[i]? =some (some (.ref a))/\∃o,S[i]? =some (some (.b o))
 ext:Ext B.M B.F B.H F H
structure Step (S S':SS) (σ:St) (F H F' H':Hp):Prop where
 ext:Ext (dQ S σ) F H F' H'
 mu:∀a,dQ S' σ a->dQ S σ a
 slots:∀(i:Nat) u,S[i]? =some (some u)->∃u',S'[i]? =some (some u')
def Ext.refl (M:Addr->Prop) (F H:Hp):Ext M F H F H:=⟨fun a a h=>h,fun a a h a=>h,fun a a a a h=>h,fun a o h=>⟨o,h⟩,fun a a a h=>h⟩
def Ext.trans {M M':Addr->Prop}{F F2 H2:Hp}(x:Ext M F H F1 H1) (y:Ext M' F1 H1 F2 H2) (s:∀b,M' b->M b\/H b=none):Ext M F H F2 H2 where
 le:=fun b o h=>y.le b o (x.le b o h)
 keep:=fun b o h n=>y.keep b o (x.keep b o h n) fun q=>(s b q).elim n fun z=>by rw[h] at z;cases z
 jV:=fun b o h n f=>y.jV b o (x.keep b o h n) (fun q=>(s b q).elim n fun z=>by rw[h] at z;cases z) (x.jV b o h n f)
 there:=fun b o h=>let⟨o',h'⟩:=x.there b o h;y.there b o' h'
 kL:=fun b o u h=>y.kL b o u (x.kL b o u h)
def Step.refl (S:SS) (σ:St) (F H:Hp):Step S S σ F H F H:=⟨Ext.refl _ _ _,fun a h=>h,fun a u h=>⟨u,h⟩⟩
def Step.trans {S S1 S2:SS}{σ:St}{F H F1 H1 F2 H2:Hp}(x:Step S S1 σ F H F1 H1) (y:Step S1 S2 σ F1 H1 F2 H2):Step S S2 σ F H F2 H2:=
 ⟨x.ext.trans y.ext fun b q=>.inl (x.mu b q),fun a q=>x.mu a (y.mu a q),fun i u h=>let⟨u',h'⟩:=x.slots i u h;y.slots i u' h'⟩
mutual
theorem Rep.le {F F':Hp}(g:∀b o,F b=some o->F' b=some o):∀{v:V}{d:D},Rep F v d->Rep F' v d
 | _,_,.cU=>.cU
 | _,_,.bl b=>.bl b
 | _,_,.int i=>.int i
 | _,_,.str z=>.str z
 | _,_,.tup e r=>.tup (g _ _ e) (bH.le g r)
 | _,_,.lst e r=>.lst (e.imp (g _ _) fun⟨o,h⟩=>⟨o,g _ _ h⟩) (bH.le g r)
theorem bH.le {F F':Hp}(g:∀b o,F b=some o->F' b=some o):∀{vs:List V}{ds:List D},bH F vs ds->bH F' vs ds
 | _,_,.nil=>.nil
 | _,_,.cons r rs=>.cons (Rep.le g r) (bH.le g rs)
end
def yc {κ:Type}{F:Hp}(g:∀b o,F b=some o->F' b=some o){ws:List (κ×V)}{kvs:List (κ×D)}(r:Paired (fR F) ws kvs):Paired (fR F') ws kvs:=
 Paired.HH r fun a a z=>⟨z.1,z.2.le g⟩
theorem At.le {F F' H H':Hp}{a:Addr}(g:∀b o,F b=some o->F' b=some o) (k:∀o,H a=some o->H' a=some o):∀{o:MO},At F H a o->At F' H' a o
 | .lst _,⟨vs,e,r⟩=>⟨vs,k _ e,r.le g⟩
 | .dct _,⟨ws,e,r⟩=>⟨ws,k _ e,yc g r⟩
 | .cI _,⟨ws,e,r⟩=>⟨ws,k _ e,yc g r⟩
 | .ins _ _,⟨ws,⟨dx,e⟩,r⟩=>⟨ws,⟨dx,k _ e⟩,yc g r⟩
theorem At.has {F:Hp}:∀{o:MO},At F H a o->∃u,H a=some u
 | .lst _,⟨_,e,_⟩=>⟨_,e⟩
 | .dct _,⟨_,e,_⟩=>⟨_,e⟩
 | .cI _,⟨_,e,_⟩=>⟨_,e⟩
 | .ins _ _,⟨_,⟨_,e⟩,_⟩=>⟨_,e⟩
def iA (K:AAD) (B:Base) (S:SS) (σ:St) (H0 F H:Hp) (v:V):U->Prop
 | .t d=>Rep F v d
 | .m o=>∃a,v= .ref a/\H0 a=none/\F a=none/\At F H a o/\¬dQ S σ a/\B.H a=none
 | .v i=>σ[i]? =some (some v)/\∃u,S[i]? =some (some u)
 | .b _=>False
 | .s ns=>∃a,v= .ref a/\OY K H a ns
 | .f a=>v= .ref a
def PE.imp {e:Expr}{t t':TE}(h:PE X e t) (k:∀σ H Q,t' σ H Q->t σ H Q):PE X e t':=fun pins s σ H Q I q=>h pins s σ H Q I (k σ H Q q)
def PT.imp {e:Expr}{t t':TT}(h:PT X e t) (k:∀σ H Q,t' σ H Q->t σ H Q):PT X e t':=fun pins s σ H Q I q=>h pins s σ H Q I (k σ H Q q)
def PW.imp {e:Expr}{t t':TT}(h:PW X e t) (k:∀σ H Q,t' σ H Q->t σ H Q):PW X e t':=fun w pins s σ H Q I q=>h w pins s σ H Q I (k σ H Q q)
def PA.imp {e:List Expr}{t t':TA}(h:PA X e t) (k:∀σ H Q,t' σ H Q->t σ H Q):PA X e t':=fun p pins s σ H Q I q=>h p pins s σ H Q I (k σ H Q q)
def PS.imp {e:Stmt}{t t':TS}(h:PS X e t) (k:∀D σ H,t' D σ H->t D σ H):PS X e t':=fun pins s σ H Q I q=>h pins s σ H Q I (k Q σ H q)
def Em.imp {e:List Stmt}{t t':TS}(h:Em X e t) (k:∀D σ H,t' D σ H->t D σ H):Em X e t':=fun pins s σ H Q I q=>h pins s σ H Q I (k Q σ H q)
def PE.orelse {e:Expr}{t:TE}(h:∀σ H Q,t σ H Q->∃t',PE X e t'/\t' σ H Q):PE X e t:=fun pins s σ H Q I q=>let⟨_,h1,h2⟩:=h σ H Q q;h1 pins s σ H Q I h2
def PS.orelse {e:Stmt}{t:TS}(h:∀D σ H,t D σ H->∃t',PS X e t'/\t' D σ H):PS X e t:=fun pins s σ H Q I q=>let⟨_,h1,h2⟩:=h Q σ H q;h1 pins s σ H Q I h2
abbrev GE:=SS->Option (U×SS)
abbrev GD:=SS->Option (D×SS)
abbrev GT:=SS->Option (Bool×SS)
abbrev GA:=SS->Option (List D×SS)
inductive Out where
 | nx (S:SS) | rt (u:U) (S:SS) | bk (S:SS) | ct (S:SS)
abbrev GS:=SS->Option Out
inductive tE (K:AAD) (B:Base) (g:GE) (σ:St) (H:Hp) (Q:VK):Prop
 | mk (S:SS) (F:Hp) (u:U) (S':SS) (R:Rel K B S σ F H) (hg:g S=some (u,S')) (q:∀v F' H',Rel K B S' σ F' H'->Step S S' σ F H F' H'->iA K B S' σ H F' H' v u->Q v H')
inductive tD (K:AAD) (B:Base) (g:GD) (σ:St) (H:Hp) (Q:VK):Prop
 | mk (S:SS) (F:Hp) (d:D) (S':SS) (R:Rel K B S σ F H) (hg:g S=some (d,S')) (q:∀v F' H',Rel K B S' σ F' H'->Step S S' σ F H F' H'->Rep F' v d->Q v H')
inductive tQ (K:AAD) (B:Base) (g:GT) (σ:St) (H:Hp) (Q:Bool->Hp->Prop):Prop
 | mk (S:SS) (F:Hp) (b:Bool) (S':SS) (R:Rel K B S σ F H) (hg:g S=some (b,S')) (q:∀F' H',Rel K B S' σ F' H'->Step S S' σ F H F' H'->Q b H')
inductive tAs (K:AAD) (B:Base) (g:GA) (σ:St) (H:Hp) (Q:List V->Hp->Prop):Prop
 | mk (S:SS) (F:Hp) (ds:List D) (S':SS) (R:Rel K B S σ F H) (hg:g S=some (ds,S')) (q:∀vs F' H',Rel K B S' σ F' H'->Step S S' σ F H F' H'->bH F' vs ds->Q vs H')
def GL (K:AAD) (B:Base) (F:Hp) (D:Ends):Out->Prop
 | .nx S=>∀σ' F' H',Rel K B S σ' F' H'->(∀b o,F b=some o->F' b=some o)->D.nx σ' H'
 | .bk S=>∀σ' F' H',Rel K B S σ' F' H'->(∀b o,F b=some o->F' b=some o)->D.bk σ' H'
 | .ct S=>∀σ' F' H',Rel K B S σ' F' H'->(∀b o,F b=some o->F' b=some o)->D.ct σ' H'
 | .rt u S=>∀v σ' F' H',Rel K B S σ' F' H'->(∀b o,F b=some o->F' b=some o)->iA K B S σ' B.H F' H' v u->D.rt v H'
inductive tO (K:AAD) (B:Base) (g:GS) (D:Ends) (σ:St) (H:Hp):Prop
 | mk (S:SS) (F:Hp) (o:Out) (R:Rel K B S σ F H) (hg:g S=some o) (q:GL K B F D o)
structure JE (X:Cx) (e:Expr) (g:GE):Prop where
 h:∀B,PE X e (tE X.K B g)
structure JD (X:Cx) (e:Expr) (g:GD):Prop where
 h:∀B,PE X e (tD X.K B g)
structure JT (X:Cx) (e:Expr) (g:GT):Prop where
 h:∀B,PT X e (tQ X.K B g)
structure JW (X:Cx) (e:Expr) (g:GT):Prop where
 h:∀B,PW X e (tQ X.K B g)
structure JA (X:Cx) (es:List Expr) (g:GA):Prop where
 h:∀B,PA X es (tAs X.K B g)
structure JS (X:Cx) (st:Stmt) (g:GS):Prop where
 h:∀B,PS X st (tO X.K B g)
structure JB (X:Cx) (st:List Stmt) (g:GS):Prop where
 h:∀B,Em X st (tO X.K B g)
noncomputable def fz:U->SS->Option (D×SS)
 | .t d,S=>some (d,S)
 | .m (.lst ds),S=>some (.lst ds,S)
 | .v i,S=>match S[i]? with
  | some (some (.t d))=>some (d,S)
  | some (some (.m (.lst ds)))=>some (.lst ds,S.set i (some (.t (.lst ds))))
  | _=>none
 | _,_=>none
def get_set {α:Type}{l:List α}{x y:α}(h:(l.set i x)[j]? =some y):(i=j/\x=y/\i < l.length)\/(i≠j/\l[j]? =some y):=by
 by_cases e:i=j
 ·subst e
  by_cases hl:i < l.length
  ·rw[acI hl] at h;exact .inl ⟨rfl,aa0 h,hl⟩
  ·rw[abe (by simpa using hl)] at h;cases h
 ·rw[ab2 e] at h;exact .inr ⟨e,h⟩
def Sub.kL {F:Hp}(s:Sub F H) (h:H a=some o):Sub (upd F a o) H:=fun b u e=>by
 by_cases hb:b=a
 ·subst hb;rw[bq] at e;cases e;exact h
 ·rw[bf hb] at e;exact s b u e
def Sub.fresh {F:Hp}(s:Sub F H) (h:H p=Option.none):F p=Option.none:=by
 cases e:F p with
 | none=>rfl
 | some o=>have q:=s p o e;rw[h] at q;cases q
def mj {F:Hp}(h:F a=none):∀b u,F b=some u->upd F a o b=some u:=fun b u e=>by rw[bf (bK e h)];exact e
theorem OY.le (k:∀b o u,H b=some (.kL o u)->H' b=some (.kL o u)):OY K H a ns->OY K H' a ns
 | .inl ⟨o,h⟩=>.inl ⟨o,k _ _ _ h⟩
 | .inr h=>.inr h
theorem BG.le {K:AAD}{F F' H H':Hp}{v:V}(g:∀b o,F b=some o->F' b=some o) (kf:∀b o u,H b=some (.kL o u)->H' b=some (.kL o u)):∀{u:U},BG K F H v u->(∀a,gf u=true->v= .ref a->(∀o,H a=some o->H' a=some o)/\F' a=none)->BG K F' H' v u
 | .t _,h,_=>Rep.le g h
 | .m _,⟨a,e,_,h⟩,k=>let⟨k1,k2⟩:=k a rfl e;⟨a,e,k2,h.le g k1⟩
 | .b _,⟨a,e,_,h⟩,k=>let⟨k1,k2⟩:=k a rfl e;⟨a,e,k2,h.le g k1⟩
 | .v _,h,_=>h
 | .s _,⟨a,e,h⟩,_=>⟨a,e,h.le kf⟩
 | .f _,h,_=>h
def Lh {F:Hp}{v:V}{d:D}(R:Rel K B S σ F H) (st:Step S0 S σ F0 H0 F H) (r:iA K B S σ H0 F H v u) (e:fz u S=some (d,S')):
  ∃F',Rel K B S' σ F' H/\Step S0 S' σ F0 H0 F' H/\Rep F' v d:=by
 cases u with
 | t d'=>cases e;exact⟨F,R,st,r⟩
 | b o=>cases r
 | s o=>cases e
 | f o=>cases e
 | m o=>
  cases o with
  | dct kvs=>cases e
  | cI kvs=>cases e
  | ins C kvs=>cases e
  | lst ds=>
   cases e
   obtain⟨a,rfl,h0,hf,⟨vs,ha,rs⟩,nm,hB⟩:=r
   have g:=mj (o:=.lst vs) hf
   refine⟨upd F a (.lst vs),⟨R.sub.kL ha,R.len,fun i u h=>?_,R.GK,R.own,R.bor,R.par,?_⟩,⟨⟨fun b o h=>g b o (st.ext.le b o h),st.ext.keep,fun b o h n f=>?_,st.ext.there,st.ext.kL⟩,st.mu,st.slots⟩,.lst (.inl bq) (rs.le g)⟩
   ·obtain⟨w,h1,h2⟩:=R.rep i u h
    refine⟨w,h1,h2.le g (fun l l l z=>z) fun c hm hc=>⟨fun o q=>q,?_⟩⟩
    have hca:c≠a:=fun z=>nm ⟨i,u,h,hm,by rw[h1,hc,z]⟩
    rw[bf hca]
    cases u with
    | m o=>obtain⟨c',e',f',_⟩:=h2;rw[hc] at e';cases e';exact f'
    | b o=>obtain⟨c',e',f',_⟩:=h2;rw[hc] at e';cases e';exact f'
    | t d=>cases hm
    | v j=>cases hm
    | s j=>cases hm
    | f j=>cases hm
   ·exact⟨fun b o h=>g b o (R.ext.le b o h),R.ext.keep,fun b o h n f=>by rw[bf (fun z=>by rw[z,hB] at h;cases h)];exact R.ext.jV b o h n f,R.ext.there,R.ext.kL⟩
   ·rw[bf (fun z=>by rw[z,h0] at h;cases h)]
    exact st.ext.jV b o h n f
 | v i=>
  obtain⟨hv,u,hu⟩:=r
  unfold fz at e
  simp only[hu] at e
  cases u with
  | t d'=>
   cases e
   obtain⟨w,h1,h2⟩:=R.rep i _ hu
   rw[hv] at h1
   cases h1
   exact⟨F,R,st,h2⟩
  | b o=>cases e
  | v j=>cases e
  | s j=>cases e
  | f j=>cases e
  | m o=>
   cases o with
   | dct kvs=>cases e
   | cI kvs=>cases e
   | ins C kvs=>cases e
   | lst ds=>
    cases e
    obtain⟨w,h1,a,rfl,hf,⟨vs,ha,rs⟩⟩:=R.rep i _ hu
    have hiv:σ[i]? =some (some (.ref a)):=h1
    rw[hv] at h1
    cases h1
    have hB:=R.own i _ a hu hiv
    have g:=mj (o:=.lst vs) hf
    have back:∀j w,(S.set i (AAA (.lst ds)))[j]? =some (some w)->gf w=true->i≠j/\S[j]? =some (some w):=fun j w h hm=>by
     rcases get_set h with⟨_,q,_⟩ | q
     ·cases q;cases hm
     ·exact q
    have mu:∀c,dQ (S.set i (AAA (.lst ds))) σ c->dQ S σ c:=fun c ⟨j,w,h,hm,z⟩=>⟨j,w,(back j w h hm).2,hm,z⟩
    refine⟨upd F a (.lst vs),⟨R.sub.kL ha,by rw[adC];exact R.len,fun j u h=>?_,fun j k u w c h1 m1 h2 m2=>R.GK j k u w c (back j u h1 m1).2 m1 (back k w h2 m2).2 m2,fun j o c h=>R.own j o c (back j _ h rfl).2,fun j o c h=>R.bor j o c (back j _ h rfl).2,fun j c h=>?_,?_⟩,
     ⟨⟨fun b o h=>g b o (st.ext.le b o h),st.ext.keep,fun b o h n f=>?_,st.ext.there,st.ext.kL⟩,fun c q=>st.mu c (mu c q),fun j u h=>?_⟩,.lst (.inl bq) (rs.le g)⟩
    ·rcases get_set h with⟨rfl,q,_⟩ | ⟨ne,q⟩
     ·cases q
      exact⟨.ref a,hiv,.lst (.inl bq) (rs.le g)⟩
     ·obtain⟨w,h1,h2⟩:=R.rep j u q
      refine⟨w,h1,h2.le g (fun l l l z=>z) fun c hm hc=>⟨fun o q=>q,?_⟩⟩
      have hca:c≠a:=fun z=>ne (R.GK i j _ u a hu rfl q hm hiv (by rw[h1,hc,z]))
      rw[bf hca]
      cases u with
      | m o=>obtain⟨c',e',f',_⟩:=h2;rw[hc] at e';cases e';exact f'
      | b o=>obtain⟨c',e',f',_⟩:=h2;rw[hc] at e';cases e';exact f'
      | t d=>cases hm
      | v j=>cases hm
      | s j=>cases hm
      | f j=>cases hm
    ·obtain⟨h1,o,h2⟩:=R.par j c h
     refine⟨h1,o,?_⟩
     have ne:i≠j:=fun z=>by subst z;rw[hu] at h2;cases h2
     rw[ab2 ne]
     exact h2
    ·exact⟨fun b o h=>g b o (R.ext.le b o h),R.ext.keep,fun b o h n f=>by rw[bf (fun z=>by rw[z,hB] at h;cases h)];exact R.ext.jV b o h n f,R.ext.there,R.ext.kL⟩
    ·have hb:b≠a:=fun z=>n (st.mu b ⟨i,_,hu,rfl,by rw[z];exact hiv⟩)
     rw[bf hb]
     exact st.ext.jV b o h n f
    ·obtain⟨u',h'⟩:=st.slots j u h
     by_cases hj:i=j
     ·subst hj
      exact⟨.t (.lst ds),acI (aaG.mp h').1⟩
     ·exact⟨u',by rw[ab2 hj];exact h'⟩
def eF (g:GE):GD:=fun S=>(g S).bind fun p=>fz p.1 p.2
def JE.d {X:Cx}{e:Expr}{g:GE}(h:JE X e g):JD X e (eF g):=⟨fun B=>(h.h B).imp fun σ H Q hh=>by
 obtain⟨S,F,d,S',R,hg,q⟩:=hh
 unfold eF at hg
 cases e1:g S with
 | none=>rw[e1] at hg;cases hg
 | some p=>
  obtain⟨u,S1⟩:=p
  rw[e1] at hg
  refine⟨S,F,u,S1,R,e1,fun v F1 H1 R1 st1 r1=>?_⟩
  obtain⟨F2,R2,st2,r2⟩:=Lh R1 st1 r1 hg
  exact q v F2 H1 R2 st2 r2⟩
noncomputable def eT (g:GD):GE:=fun S=>(g S).map fun p=>(.t p.1,p.2)
def JD.e {X:Cx}{e:Expr}{g:GD}(h:JD X e g):JE X e (eT g):=⟨fun B=>(h.h B).imp fun σ H Q hh=>by
 obtain⟨S,F,u,S',R,hg,q⟩:=hh
 unfold eT at hg
 cases e1:g S with
 | none=>rw[e1] at hg;cases hg
 | some p=>
  obtain⟨d,S1⟩:=p
  rw[e1] at hg
  cases hg
  exact⟨S,F,d,S1,R,e1,fun v F1 H1 R1 st1 r1=>q v F1 H1 R1 st1 r1⟩⟩
structure gK (F H F' H':Hp):Prop where
 le:∀b o,F b=some o->F' b=some o
 same:∀b o,H b=some o->H' b=some o
 jV:∀b o,H b=some o->F b=none->F' b=none
def gK.refl (F H:Hp):gK F H F H:=⟨fun a a h=>h,fun a a h=>h,fun a a a h=>h⟩
def gK.trans {F F2 H2:Hp}(x:gK F H F1 H1) (y:gK F1 H1 F2 H2):gK F H F2 H2:=
 ⟨fun b o h=>y.le b o (x.le b o h),fun b o h=>y.same b o (x.same b o h),fun b o h f=>y.jV b o (x.same b o h) (x.jV b o h f)⟩
def gK.step {F:Hp}(n:gK F H F' H'):Step S S σ F H F' H':=
 ⟨⟨n.le,fun b o h a=>n.same b o h,fun b o h a f=>n.jV b o h f,fun b o h=>⟨o,n.same b o h⟩,fun b o u h=>n.same b _ h⟩,fun a h=>h,fun a u h=>⟨u,h⟩⟩
def gK.obj {F:Hp}(h:H p=none) (o:HO):gK F H F (upd H p o):=
 ⟨fun a a q=>q,fun b u q=>by rw[bf (bK q h)];exact q,fun a a a q=>q⟩
theorem Rd.same {u:HO}(k:∀b o,H b=some o->H' b=some o):Rd H a u->Rd H' a u
 | .inl h=>.inl (k _ _ h)
 | .inr ⟨o,h⟩=>.inr ⟨o,k _ _ h⟩
def Sub.same {F:Hp}(s:Sub F H) (k:∀b o,H b=some o->H' b=some o):Sub F H':=fun a o e=>k a o (s a o e)
def Sub.uN {F:Hp}(s:Sub F H) (h:H p=none):Sub (upd F p o) (upd H p o):=fun b u e=>by
 by_cases hb:b=p
 ·subst hb;rw[bq] at e;cases e;exact bq
 ·rw[bf hb] at e;have q:=s b u e;rw[bf (bK q h)];exact q
def gK.root {F:Hp}(s:Sub F H) (h:H p=none) (o:HO):gK F H (upd F p o) (upd H p o):=
 ⟨mj (s.fresh h),fun b u q=>by rw[bf (bK q h)];exact q,fun b u q f=>by rw[bf (bK q h)];exact f⟩
def Rel.has {K:AAD}{B:Base}{S:SS}{σ:St}{F H:Hp}(R:Rel K B S σ F H){a:Addr}(m:dQ S σ a):∃o,H a=some o:=by
 obtain⟨i,u,h,hm,hv⟩:=m
 obtain⟨v,h1,h2⟩:=R.rep i u h
 rw[hv] at h1
 cases h1
 cases u with
 | t d=>cases hm
 | v j=>cases hm
 | s j=>cases hm
 | f j=>cases hm
 | m o=>obtain⟨b,e,_,h⟩:=h2;cases e;exact h.has
 | b o=>obtain⟨b,e,_,h⟩:=h2;cases e;exact h.has
def Rel.new {F:Hp}(R:Rel K B S σ F H) (n:gK F H F' H') (s:Sub F' H'):Rel K B S σ F' H' where
 sub:=s
 len:=R.len
 rep:=fun i u h=>by
  obtain⟨v,h1,h2⟩:=R.rep i u h
  refine⟨v,h1,h2.le n.le (fun b o u z=>n.same b _ z) fun a hm ha=>⟨fun o q=>n.same a o q,?_⟩⟩
  obtain⟨o,ho⟩:=R.has ⟨i,u,h,hm,by rw[h1,ha]⟩
  refine n.jV a o ho ?_
  cases u with
  | t d=>cases hm
  | v j=>cases hm
  | s j=>cases hm
  | f j=>cases hm
  | m o=>obtain⟨b,e,f,_⟩:=h2;rw[ha] at e;cases e;exact f
  | b o=>obtain⟨b,e,f,_⟩:=h2;rw[ha] at e;cases e;exact f
 GK:=R.GK
 own:=R.own
 bor:=R.bor
 par:=R.par
 ext:=⟨fun b o h=>n.le b o (R.ext.le b o h),fun b o h m=>n.same b o (R.ext.keep b o h m),fun b o h m f=>n.jV b o (R.ext.keep b o h m) (R.ext.jV b o h m f),fun b o h=>let⟨o',h'⟩:=R.ext.there b o h;⟨o',n.same b o' h'⟩,fun b o u h=>n.same b _ (R.ext.kL b o u h)⟩
def Ii (H0 F H:Hp) (v:V):U->Prop
 | .t d=>Rep F v d
 | .m o=>∃a,v= .ref a/\H0 a=none/\F a=none/\At F H a o
 | _=>False
def none_of (t:∀b o,H b=some o->∃o',H' b=some o') (h:H' a=none):H a=none:=by
 cases e:H a with
 | none=>rfl
 | some o=>obtain⟨o',h'⟩:=t a o e;rw[h] at h';cases h'
def Ii.Ij {F:Hp}{v:V}(R:Rel K B S σ F1 H1) (st:Step S0 S σ F0 H0 F1 H1) (r:Ii H1 F H v u):iA K B S σ H0 F H v u:=by
 cases u with
 | t d=>exact r
 | b o=>cases r
 | v i=>cases r
 | s i=>cases r
 | f i=>cases r
 | m o=>
  obtain⟨a,e,h0,f,h⟩:=r
  refine⟨a,e,none_of st.ext.there h0,f,h,fun m=>?_,none_of R.ext.there h0⟩
  obtain⟨o,ho⟩:=R.has m
  rw[h0] at ho
  cases ho
inductive rP (f:List D->Option U) (xs:List V) (H:Hp) (Q:VK):Prop
 | mk (F:Hp) (ds:List D) (u:U) (s:Sub F H) (r:bH F xs ds) (hf:f ds=some u) (q:∀v F' H',gK F H F' H'->Sub F' H'->Ii H F' H' v u->Q v H')
noncomputable def AB:D->Bool
 | .tup _=>false
 | .lst _=>false
 | _=>true
noncomputable def toV:D->V
 | .bl b=>.bl b
 | .int i=>.int i
 | .str z=>.str z
 | _=>.cU
theorem C4 {F:Hp}:∀{d:D},AB d=true->Rep F (toV d) d
 | .cU,_=>.cU
 | .bl b,_=>.bl b
 | .int i,_=>.int i
 | .str z,_=>.str z
 | .tup _,h=>by cases h
 | .lst _,h=>by cases h
noncomputable def aj (i:Nat):GE:=fun S=>match S[i]? with
 | some (some (.t d))=>some (.t d,S)
 | some (some (.s d))=>some (.s d,S) | some (some (.f d))=>some (.f d,S)
 | some (some _)=>some (.v i,S)
 | _=>none
noncomputable def eC (d:D):GD:=fun S=>some (d,S)
noncomputable def aq:GA:=fun S=>some ([],S)
noncomputable def aa (g:GD) (ga:GA):GA:=fun S=>(g S).bind fun p=>(ga p.2).map fun q=>(p.1 :: q.1,q.2)
noncomputable def eP (f:List D->Option U) (ga:GA):GE:=fun S=>(ga S).bind fun p=>(f p.1).map fun u=>(u,p.2)
section
variable {X:Cx}{a b c e:Expr}{es:List Expr}{pos p p2:Pos}{x:Str}{g ga gb gc:GD}{gA:GA}{f f':List D->Option U}
def bu (i:Nat) (hN:X.N[i]? =some x:=by rfl) (hv:An X.env.scope x:=by first | exact Or.inl rfl | exact Or.inr (Or.inl rfl) | exact Or.inr (Or.inr rfl)) (hd:(x == ("__debug__":Str))=false:=by decide)
  (hcd:(x == ("__classdict__":Str))=false:=by decide):JE X (.Name x pos) (aj i):=⟨fun B=>(gw hN hv hd hcd).imp fun σ H Q hh=>by
 obtain⟨S,F,u,S',R,hg,q⟩:=hh
 unfold aj at hg
 cases hs:S[i]? with
 | none=>rw[hs] at hg;cases hg
 | some o=>
  cases o with
  | none=>rw[hs] at hg;cases hg
  | some w=>
   rw[hs] at hg
   obtain⟨v,h1,h2⟩:=R.rep i w hs
   refine⟨v,h1,?_⟩
   cases w with
   | t d=>cases hg;exact q v F H R (Step.refl ..) h2
   | m o=>cases hg;exact q v F H R (Step.refl ..) ⟨h1,_,hs⟩
   | b o=>cases hg;exact q v F H R (Step.refl ..) ⟨h1,_,hs⟩
   | s j=>cases hg;exact q v F H R (Step.refl ..) h2
   | f j=>cases hg;exact q v F H R (Step.refl ..) h2
   | v j=>cases hg;exact q v F H R (Step.refl ..) ⟨h1,_,hs⟩⟩
def Li {d:D}(hf:AB d=true) (h:PE X e (tC (toV d))):JD X e (eC d):=⟨fun B=>h.imp fun σ H Q hh=>by
 obtain⟨S,F,u,S',R,hg,q⟩:=hh
 cases hg
 exact q _ F H R (Step.refl ..) (C4 hf)⟩
def aB {i j}:JD X (.Constant (.int i) j pos) (eC (.int i)):=Li rfl R6
def q9 {i j}:JD X (.Constant (.bool i) j pos) (eC (.bl i)):=Li rfl WB
def aC {i j}:JD X (.Constant (.str i) j pos) (eC (.str i)):=Li rfl Km
def az:JA X [] aq:=⟨fun B=>Bu.imp fun σ H Q hh=>by
 obtain⟨S,F,u,S',R,hg,q⟩:=hh
 cases hg
 exact q [] F H R (Step.refl ..) .nil⟩
def ak {α β:Type}{o:Option α}{f:α->Option β}{y:β}(h:o.bind f=some y):∃z,o=some z/\f z=some y:=by
 cases o with
 | none=>cases h
 | some z=>exact⟨z,rfl,h⟩
def aF {α β:Type}{o:Option α}{f:α->β}{y:β}(h:o.map f=some y):∃z,o=some z/\f z=y:=by
 cases o with
 | none=>cases h
 | some z=>exact⟨z,rfl,aa0 h⟩
def ah (h:JD X e g) (hr:JA X es gA) (hs:starEach (e :: es) X.env=(false,eval e X.env) :: starEach es X.env:=by rfl):JA X (e :: es) (aa g gA):=
 ⟨fun B=>(qy (h.h B) (hr.h B) hs).imp fun σ H Q hh=>by
 obtain⟨S,F,u,S',R,hg,q⟩:=hh
 obtain⟨⟨d,S1⟩,h1,hg⟩:=ak hg
 obtain⟨⟨ds,S2⟩,h2,hg⟩:=aF hg
 cases hg
 exact⟨S,F,d,S1,R,h1,fun v F1 H1 R1 st1 r1=>⟨S1,F1,ds,S2,R1,h2,fun vs F2 H2 R2 st2 r2=>q _ F2 H2 R2 (st1.trans st2) (.cons (r1.le st2.ext.le) r2)⟩⟩⟩
def kN {Q:VK}{r:List V->Hp->VK->Prop}(hr:∀vs H1 Q1,rP f vs H1 Q1->r vs H1 Q1) (h:tE K B (eP f gA) σ H Q):tAs K B gA σ H fun vs H1=>r vs H1 Q:=by
 obtain⟨S,F,u,S',R,hg,q⟩:=h
 obtain⟨⟨ds,S1⟩,h1,hg⟩:=ak hg
 obtain⟨u',h2,hg⟩:=aF hg
 cases hg
 exact⟨S,F,ds,S1,R,h1,fun vs F1 H1 R1 st1 r1=>hr _ _ _ ⟨F1,ds,_,R1.sub,r1,h2,fun v F2 H2 n s2 r2=>q v F2 H2 (R1.new n s2) (st1.trans n.step) (r2.Ij R1 st1)⟩⟩
def kO {id:String}(hc:gJ X (.builtin id) (rP f)) (hg:Gl X x) (hm:X.mg x=none) (hv:bootBuiltins x=some (.builtin id)) (ha:JA X (e :: es) gA) (hn:x≠"__name__":=by decide) (hdb:(x == ("__debug__":Str))=false:=by decide)
  (he:starEach (e :: es) X.env=(false,eval e X.env) :: starEach es X.env:=by rfl) (hpl:(backTo pos (starEach es X.env)).any (·.1)=false:=by rfl):JE X (.Call (.Name x p) (e :: es) [] pos) (eP f gA):=
 ⟨fun B=>(mQ hc hg hm hv (ha.h B) hn hdb he hpl).imp fun σ H Q h=>kN (fun a a a z=>z) h⟩
def AD (hc:gJ X (.type T) (rP f)) (hg:Gl X x) (hm:X.mg x=none) (hv:bootBuiltins x=some (.type T)) (ha:JA X (e :: es) gA) (hn:x≠"__name__":=by decide) (hdb:(x == ("__debug__":Str))=false:=by decide)
  (he:starEach (e :: es) X.env=(false,eval e X.env) :: starEach es X.env:=by rfl) (hpl:(backTo pos (starEach es X.env)).any (·.1)=false:=by rfl):JE X (.Call (.Name x p) (e :: es) [] pos) (eP f gA):=
 ⟨fun B=>(HV hc hg hm hv (ha.h B) hn hdb he hpl).imp fun σ H Q h=>kN (fun a a a z=>z) h⟩
abbrev CB (X:Cx) (o:Value->Value->Sem Value) (f:List D->Option U):Prop:=zI X o (fun x y H Q=>rP f [x,y] H Q)
def sW {Q:VK}(h:tE K B (eP f (aa ga (aa gb aq))) σ H Q):VN (fun x y H Q=>rP f [x,y] H Q) (tD K B ga) (tD K B gb) σ H Q:=by
 obtain⟨S,F,u,S',R,hg,q⟩:=h
 obtain⟨⟨ds,S1⟩,h1,hg⟩:=ak hg
 obtain⟨u',h2,hg⟩:=aF hg
 cases hg
 obtain⟨⟨d1,T1⟩,k1,h1⟩:=ak h1
 obtain⟨⟨ds2,T2⟩,k2,h1⟩:=aF h1
 cases h1
 obtain⟨⟨d2,T3⟩,k3,k2⟩:=ak k2
 obtain⟨⟨ds3,T4⟩,k4,k2⟩:=aF k2
 cases k2
 cases k4
 exact⟨S,F,d1,T1,R,k1,fun v1 F1 H1 R1 st1 r1=>⟨T1,F1,d2,_,R1,k3,fun v2 F2 H2 R2 st2 r2=>⟨F2,_,_,R2.sub,.cons (r1.le st2.ext.le) (.cons r2 .nil),h2,fun v F3 H3 n s3 r3=>q v F3 H3 (R2.new n s3) ((st1.trans st2).trans n.step) (r3.Ij R2 (st1.trans st2))⟩⟩⟩
def bD {op:Operator}(ho:CB X (binaryOp op) f) (ha:JD X a ga) (hb:JD X b gb):JE X (.BinOp a op b pos) (eP f (aa ga (aa gb aq))):=
 ⟨fun B=>(WO ho (ha.h B) (hb.h B)).imp fun σ H Q h=>sW h⟩
def iB {op:CmpOp}(ho:CB X (compareOp op) f) (ha:JD X a ga) (hb:JD X b gb) (hm:behindInMarks op b=false:=by first | exact KC _ | rfl):JE X (.Compare a [op] [b] pos) (eP f (aa ga (aa gb aq))):=
 ⟨fun B=>(Ot ho (ha.h B) (hb.h B) hm).imp fun σ H Q h=>sW h⟩
def yf {op:UnaryOp}(ho:WN X (unaryOp op) (fun x H Q=>rP f [x] H Q)) (ha:JD X a ga):JE X (.UnaryOp op a pos) (eP f (aa ga aq)):=
 ⟨fun B=>(WQ ho (ha.h B)).imp fun σ H Q h=>by
 obtain⟨S,F,u,S',R,hg,q⟩:=h
 obtain⟨⟨ds,S1⟩,h1,hg⟩:=ak hg
 obtain⟨u',h2,hg⟩:=aF hg
 cases hg
 obtain⟨⟨d1,T1⟩,k1,h1⟩:=ak h1
 obtain⟨⟨ds2,T2⟩,k2,h1⟩:=aF h1
 cases h1
 cases k2
 exact⟨S,F,d1,_,R,k1,fun v1 F1 H1 R1 st1 r1=>⟨F1,_,_,R1.sub,.cons r1 .nil,h2,fun v F3 H3 n s3 r3=>q v F3 H3 (R1.new n s3) (st1.trans n.step) (r3.Ij R1 st1)⟩⟩⟩
def mS (hr:KU X (fun x y H Q=>rP f [x,y] H Q)) (ha:JD X a ga) (hb:JD X b gb) (hs:xu b):JE X (.Subscript a b pos) (eP f (aa ga (aa gb aq))):=
 ⟨fun B=>(KW hr (ha.h B) (hb.h B) hs).imp fun σ H Q h=>sW h⟩
noncomputable def bw:List D->Option U:=fun ds=>if ds.length<=100000 then AAA (.tup ds) else none
noncomputable def j9:List D->Option U:=fun ds=>if ds.length<=100000 then AAB ds else none
def kD (h:n<=100000):n<=sizeLine:=aaW h (by decide)
end
section
variable {X:Cx}{a b c e:Expr}{es:List Expr}{pos p p2:Pos}{x:Str}{g ga gb gc:GD}{gA:GA}{f f':List D->Option U}
def aG {x1}(h:JA X es gA):JE X (.Tuple es x1 pos) (eP bw gA):=
 ⟨fun B=>(SW (h.h B)).imp fun σ H Q z=>kN (r:=fun xs H1 Q=>xs.length<=sizeLine/\∀p,H1 p=none->Q (.ref p) (upd H1 p (.tup xs))) (fun vs H1 Q1 hh=>by
 obtain⟨F,ds,u,sb,rs,hf,q⟩:=hh
 unfold bw at hf
 split at hf
 ·rename_i hl
  cases hf
  refine⟨by rw[rs.length];exact kD hl,fun p hp=>?_⟩
  exact q _ _ _ (gK.root sb hp _) (sb.uN hp) (.tup bq (rs.le (mj (sb.fresh hp))))
 ·cases hf) z⟩
def gB (h:JA X es gA):JE X (.List es pos) (eP j9 gA):=
 ⟨fun B=>(SX (h.h B)).imp fun σ H Q z=>kN (r:=fun xs H1 Q=>xs.length<=sizeLine/\∀p,H1 p=none->Q (.ref p) (upd H1 p (.lst xs))) (fun vs H1 Q1 hh=>by
 obtain⟨F,ds,u,sb,rs,hf,q⟩:=hh
 unfold j9 at hf
 split at hf
 ·rename_i hl
  cases hf
  refine⟨by rw[rs.length];exact kD hl,fun p hp=>?_⟩
  exact q _ F _ (gK.obj hp _) (sb.same (gK.obj (F:=F) hp _).same) ⟨p,rfl,hp,sb.fresh hp,vs,bq,rs⟩
 ·cases hf) z⟩
noncomputable def qB (g:GD):GT:=fun S=>(g S).bind fun p=>match p.1 with
 | .bl k=>some (k,p.2)
 | _=>none
noncomputable def C5 (g:GT):GT:=fun S=>(g S).map fun p=>(!p.1,p.2)
noncomputable def lO (g h:GT):GT:=fun S=>(g S).bind fun p=>if p.1 then h p.2 else some (false,p.2)
noncomputable def C6 (g h:GT):GT:=fun S=>(g S).bind fun p=>if p.1 then some (true,p.2) else h p.2
noncomputable def eQ (g:GT):GD:=fun S=>(g S).map fun p=>(.bl p.1,p.2)
def lR (h:qB g S=some (k,S')):g S=some (.bl k,S'):=by
 obtain⟨⟨d,S1⟩,h1,h⟩:=ak h
 cases d <;> cases h
 exact h1
def nC {F:Hp}{v:V}(r:Rep F v (.bl k)):v= .bl k:=by cases r;rfl
def gM {F:Hp}{v:V}{i:Int}(r:Rep F v (.int i)):v= .int i:=by cases r;rfl
def GO {F:Hp}{v:V}{i:Str}(r:Rep F v (.str i)):v= .str i:=by cases r;rfl
def OZ {F:Hp}{v:V}(r:Rep F v .cU):v= .cU:=by cases r;rfl
def ER (h:JD X e g) (he:∀whole,isTrue e X.env whole=(do let v <-whole;standAt e.pos;holding [v] (truthy v)):=by intro _;rfl):JT X e (qB g):=
 ⟨fun B=>(R8 (h.h B) he).imp fun σ H Q ⟨S,F,k,S',R,hg,q⟩=>⟨S,F,.bl k,S',R,lR hg,fun v F' H' R' st r=>⟨k,nC r,q F' H' R' st⟩⟩⟩
def Xq {gE:GE}{Q:VK}(h:tD K B (eF gE) σ H Q):tE K B gE σ H Q:=by
 obtain⟨S,F,d,S',R,hg,q⟩:=h
 obtain⟨⟨u,S1⟩,h1,hg⟩:=ak hg
 refine⟨S,F,u,S1,R,h1,fun v F1 H1 R1 st1 r1=>?_⟩
 obtain⟨F2,R2,st2,r2⟩:=Lh R1 st1 r1 hg
 exact q v F2 H1 R2 st2 r2
def bL {op:CmpOp}(ho:CB X (compareOp op) f) (ha:JD X a ga) (hb:JD X b gb) (hm:behindInMarks op b=false:=by first | exact KC _ | rfl):JT X (.Compare a [op] [b] pos) (qB (eF (eP f (aa ga (aa gb aq))))):=
 ⟨fun B=>(Ou ho (ha.h B) (hb.h B) hm).imp fun σ H Q ⟨S,F,k,S',R,hg,q⟩=>sW (Xq ⟨S,F,.bl k,S',R,lR hg,fun v F' H' R' st r=>⟨k,nC r,q F' H' R' st⟩⟩)⟩
def Lj (h:JT X a q1):JT X (.UnaryOp .Not a pos) (C5 q1):=
 ⟨fun B=>(R9 (h.h B)).imp fun σ H Q hh=>by
 obtain⟨S,F,k,S',R,hg,q⟩:=hh
 obtain⟨⟨d,S1⟩,h1,hg⟩:=aF hg
 cases hg
 exact⟨S,F,d,_,R,h1,fun F' H' R' st=>q F' H' R' st⟩⟩
def kP (h:JT X a q1):JW X (.BoolOp .And [a] pos) q1:=⟨fun B=>pw_and1 (h.h B)⟩
def qz (h:JT X a q1):JW X (.BoolOp .Or [a] pos) q1:=⟨fun B=>pw_or1 (h.h B)⟩
def yg (h:JT X a q1) (hr:JW X (.BoolOp .And (b :: r) pos) q2):JW X (.BoolOp .And (a :: b :: r) pos) (lO q1 q2):=
 ⟨fun B=>(pw_and (h.h B) (hr.h B)).imp fun σ H Q hh=>by
 obtain⟨S,F,k,S',R,hg,q⟩:=hh
 obtain⟨⟨d,S1⟩,h1,hg⟩:=ak hg
 refine⟨S,F,d,S1,R,h1,fun F1 H1 R1 st1=>?_⟩
 cases d with
 | true=>exact C1 ⟨S1,F1,k,S',R1,hg,fun F2 H2 R2 st2=>q F2 H2 R2 (st1.trans st2)⟩
 | false=>cases hg;exact C0 (q F1 H1 R1 st1)⟩
def AE (h:JT X a q1) (hr:JW X (.BoolOp .Or (b :: r) pos) q2):JW X (.BoolOp .Or (a :: b :: r) pos) (C6 q1 q2):=
 ⟨fun B=>(pw_or (h.h B) (hr.h B)).imp fun σ H Q hh=>by
 obtain⟨S,F,k,S',R,hg,q⟩:=hh
 obtain⟨⟨d,S1⟩,h1,hg⟩:=ak hg
 refine⟨S,F,d,S1,R,h1,fun F1 H1 R1 st1=>?_⟩
 cases d with
 | false=>exact C0 ⟨S1,F1,k,S',R1,hg,fun F2 H2 R2 st2=>q F2 H2 R2 (st1.trans st2)⟩
 | true=>cases hg;exact C1 (q F1 H1 R1 st1)⟩
def JW.t (h:JW X e q1):JT X e q1:=⟨fun B=>(h.h B).pt⟩
def nD {op}(h:JD X a g):JD X (.BoolOp op [a] pos) (eQ (qB g)):=⟨fun B=>(Se (h.h B)).imp fun σ H Q hh=>by
 obtain⟨S,F,k,S',R,hg,q⟩:=hh
 obtain⟨⟨d,S1⟩,h1,hg⟩:=aF hg
 cases hg
 exact⟨S,F,.bl d,_,R,lR h1,q⟩⟩
def rO (h:JD X a g) (hr:JD X (.BoolOp .And (b :: r) pos) (eQ q2)):JD X (.BoolOp .And (a :: b :: r) pos) (eQ (lO (qB g) q2)):=
 ⟨fun B=>(Sg (h.h B) (hr.h B)).imp fun σ H Q hh=>by
 obtain⟨S,F,k,S',R,hg,q⟩:=hh
 obtain⟨⟨d,S1⟩,h1,hg⟩:=aF hg
 cases hg
 obtain⟨⟨d1,S2⟩,h1,h2⟩:=ak h1
 refine⟨S,F,.bl d1,S2,R,lR h1,fun v F1 H1 R1 st1 r1=>⟨d1,nC r1,?_⟩⟩
 cases d1 with
 | true=>
  have h2:q2 S2=some (d,S1):=h2
  exact C1 ⟨S2,F1,.bl d,S1,R1,by show(q2 S2).map _=_;rw[h2];rfl,fun v F2 H2 R2 st2 r2=>q v F2 H2 R2 (st1.trans st2) r2⟩
 | false=>cases h2;exact C0 (q _ F1 H1 R1 st1 (.bl false))⟩
def Lk (h:JD X a g) (hr:JD X (.BoolOp .Or (b :: r) pos) (eQ q2)):JD X (.BoolOp .Or (a :: b :: r) pos) (eQ (C6 (qB g) q2)):=
 ⟨fun B=>(WE (h.h B) (hr.h B)).imp fun σ H Q hh=>by
 obtain⟨S,F,k,S',R,hg,q⟩:=hh
 obtain⟨⟨d,S1⟩,h1,hg⟩:=aF hg
 cases hg
 obtain⟨⟨d1,S2⟩,h1,h2⟩:=ak h1
 refine⟨S,F,.bl d1,S2,R,lR h1,fun v F1 H1 R1 st1 r1=>⟨d1,nC r1,?_⟩⟩
 cases d1 with
 | false=>
  have h2:q2 S2=some (d,S1):=h2
  exact C0 ⟨S2,F1,.bl d,S1,R1,by show(q2 S2).map _=_;rw[h2];rfl,fun v F2 H2 R2 st2 r2=>q v F2 H2 R2 (st1.trans st2) r2⟩
 | true=>cases h2;exact C1 (q _ F1 H1 R1 st1 (.bl true))⟩
def Ti (h:JD X a g):JD X (.UnaryOp .Not a pos) (eQ (C5 (qB g))):=⟨fun B=>(Si (h.h B)).imp fun σ H Q hh=>by
 obtain⟨S,F,k,S',R,hg,q⟩:=hh
 obtain⟨⟨d,S1⟩,h1,hg⟩:=aF hg
 cases hg
 obtain⟨⟨d1,S2⟩,h3,h2⟩:=aF h1
 cases h2
 exact⟨S,F,.bl d1,_,R,lR h3,fun v F1 H1 R1 st1 r1=>⟨d1,nC r1,q _ F1 H1 R1 st1 (.bl _)⟩⟩⟩
noncomputable def eIf (q:GT) (g h:GE):GE:=fun S=>(q S).bind fun p=>if p.1 then g p.2 else h p.2
theorem iA.weak {F:Hp}{v:V}(t:∀b o,H0 b=some o->∃o',H1 b=some o'):∀{u:U},iA K B S σ H1 F H v u->iA K B S σ H0 F H v u
 | .t _,h=>h
 | .s _,h=>h
 | .f _,h=>h
 | .m _,⟨a,e,h0,h⟩=>⟨a,e,none_of t h0,h⟩
 | .v _,h=>h
 | .b _,h=>h
def Xr {g1 g2:GE}(hc:JT X c q1) (ha:JE X a g1) (hb:JE X b g2):JE X (.IfExp c a b pos) (eIf q1 g1 g2):=
 ⟨fun B=>(Kp (hc.h B) (ha.h B) (hb.h B)).imp fun σ H Q hh=>by
 obtain⟨S,F,u,S',R,hg,q⟩:=hh
 obtain⟨⟨d,S1⟩,h1,hg⟩:=ak hg
 refine⟨S,F,d,S1,R,h1,fun F1 H1 R1 st1=>?_⟩
 cases d with
 | true=>exact C1 ⟨S1,F1,u,S',R1,hg,fun v F2 H2 R2 st2 r2=>q v F2 H2 R2 (st1.trans st2) (r2.weak st1.ext.there)⟩
 | false=>exact C0 ⟨S1,F1,u,S',R1,hg,fun v F2 H2 R2 st2 r2=>q v F2 H2 R2 (st1.trans st2) (r2.weak st1.ext.there)⟩⟩
noncomputable def eCh (f f':List D->Option U) (ga gb gc:GD):GD:=fun S=>(ga S).bind fun p=>(gb p.2).bind fun q=>match f [p.1,q.1] with
 | some (.t (.bl k))=>if k then(gc q.2).bind fun r=>match f' [q.1,r.1] with
   | some (.t (.bl k'))=>some (.bl k',r.2)
   | _=>none
  else some (.bl false,q.2)
 | _=>none
end
def bV {α:Type}{c:Prop}{i:Decidable c}{x w:α}(h:(@ite _ c i (some x) none)=some w):c/\x=w:=by
 by_cases hc:c
 ·rw[if_pos hc] at h;exact⟨hc,aa0 h⟩
 ·rw[if_neg hc] at h;cases h
def gj {α:Type}{c:Prop}{i:Decidable c}{x:Option α}{w:α}(h:(@ite _ c i x none)=some w):c/\x=some w:=by
 by_cases hc:c
 ·rw[if_pos hc] at h;exact⟨hc,h⟩
 ·rw[if_neg hc] at h;cases h
def Ll {F:Hp}{x:V}(r:bH F [x] ds):∃d,ds=[d]/\Rep F x d:=by
 cases r with
 | cons r rs=>cases rs;exact⟨_,rfl,r⟩
def vW {F:Hp}{x:V}(r:bH F [x,y] ds):∃d e,ds=[d,e]/\Rep F x d/\Rep F y e:=by
 cases r with
 | cons r rs=>obtain⟨e,rfl,r2⟩:=Ll rs;exact⟨_,e,rfl,r,r2⟩
noncomputable def Lm (C:Int->Int->Bool) (h:Int->Int->D):List D->Option U
 | [.int i,.int j]=>if C i j then some (.t (h i j)) else none
 | _=>none
section
variable {X:Cx}
def vX {o:Value->Value->Sem Value}{C:Int->Int->Bool}{h:Int->Int->D}{r:R2}(hr:zI X o r) (k:∀i j H Q,C i j=true->Q (toV (h i j)) H->r (.int i) (.int j) H Q) (hf:∀i j,AB (h i j)=true):CB X o (Lm C h):=by
 intro pins s σ H x y v u Q I rx ry ⟨F,ds,w,sb,rs,hw,q⟩
 obtain⟨d,e,rfl,r1,r2⟩:=vW rs
 cases r1 <;> cases r2 <;> try (simp[Lm] at hw;done)
 rename_i i j
 obtain⟨hc,rfl⟩:=bV hw
 exact hr pins s σ H _ _ v u Q I rx ry (k i j H Q hc (q _ F H (gK.refl ..) sb (C4 (hf i j))))
abbrev nF:=Lm (fun a a=>true) fun i j=>.int (i - j)
abbrev JX:=Lm (fun a a=>true) fun i j=>.bl (decide (i < j))
abbrev O0:=Lm (fun a a=>true) fun i j=>.bl (decide (i<=j))
abbrev Tj:=Lm (fun a a=>true) fun i j=>.bl (decide (j < i))
abbrev O1:=Lm (fun a j=>decide (0 < j) && decide (j < 1073741824)) fun i j=>.int (i / j)
abbrev zN:=Lm (fun a j=>decide (0 < j)) fun i j=>.int (i % j)
abbrev Xs:=Lm (fun i j=>decide (0<=j) && (decide (j<=1000) && decide (i.natAbs < 2 ^ 64))) fun i j=>.int (i ^ j.toNat)
def eV:CB X (binaryOp .Sub) nF:=vX SJ (fun i j H Q a q=>⟨i,j,rfl,rfl,q⟩) fun a a=>rfl
def nG:CB X (compareOp .Lt) JX:=vX WT (fun i j H Q a q=>⟨i,j,rfl,rfl,q⟩) fun a a=>rfl
def ES:CB X (compareOp .LtE) O0:=vX WU (fun i j H Q a q=>⟨i,j,rfl,rfl,q⟩) fun a a=>rfl
def uO:CB X (compareOp .Gt) Tj:=vX WV (fun i j H Q a q=>⟨i,j,rfl,rfl,q⟩) fun a a=>rfl
def BH:CB X (binaryOp .FloorDiv) O1:=vX Oq (fun i j H Q c q=>⟨i,j,rfl,rfl,by simpa[WS] using c,q⟩) fun a a=>rfl
def kE:CB X (binaryOp .Mod) zN:=vX SM (fun i j H Q c q=>⟨i,j,rfl,rfl,by simpa using c,q⟩) fun a a=>rfl
def O2:CB X (binaryOp .Pow) Xs:=vX SN (fun i j H Q c q=>⟨i,j,rfl,rfl,by
 simp only[aa7,acU] at c
 exact⟨c.1,Int.le_trans c.2.1 (by decide),c.2.2⟩,q⟩) fun a a=>rfl
def Sub.kQ {F:Hp}{v:V}(s:Sub F H) (r:Rep F v (.tup ds)):∃a vs,v= .ref a/\F a=some (.tup vs)/\Rd H a (.tup vs)/\bH F vs ds:=by
 cases r with
 | tup e rs=>exact⟨_,_,rfl,e,Rd.of (s _ _ e),rs⟩
def Sub.i7 {F:Hp}{v:V}(s:Sub F H) (r:Rep F v (.lst ds)):∃a vs,v= .ref a/\Rd F a (.lst vs)/\Rd H a (.lst vs)/\bH F vs ds:=by
 cases r with
 | lst e rs=>exact⟨_,_,rfl,e,e.imp (s _ _) fun⟨o,h⟩=>⟨o,s _ _ h⟩,rs⟩
def _root_.L2.Rd.BD {pins:AAG}{s:Shared}(I:Inv X pins σ H s){l:Addr}(h:Rd H l (.lst xs)):
  xs.length<=sizeLine/\∃its n,Vals xs its/\xs.length=its.length/\s.heap.get? l=some {cls:=.type "list",data:=.seq its.toArray n}:=by
 obtain⟨z,its,n,r,e⟩:=(h.ok I.hok:eY X.prog X.w H s.heap l (.lst xs))
 exact⟨z,its,n,r,r.length,e⟩
noncomputable def cH:List D->Option U
 | [.int i,.int j]=>some (.t (.int (i+j)))
 | [.str i,.str j]=>if i.length+j.length<=100000 then some (.t (.str (i++j))) else none
 | [.tup i,.tup j]=>if i.length+j.length<=100000 then some (.t (.tup (i++j))) else none
 | [.lst i,.lst j]=>if i.length+j.length<=100000 then some (.m (.lst (i++j))) else none
 | _=>none
def bN:CB X (binaryOp .Add) cH:=by
 intro pins s σ H x y v u Q I rx ry ⟨F,ds,w,sb,rs,hw,q⟩
 obtain⟨d,e,rfl,r1,r2⟩:=vW rs
 cases d <;> cases e <;> try (cases hw;done)
 ·rename_i i j
  cases hw
  cases r1
  cases r2
  exact SI pins s σ H _ _ v u Q I rx ry ⟨i,j,rfl,rfl,q _ F H (gK.refl ..) sb (.int _)⟩
 ·rename_i i j
  obtain⟨hl,rfl⟩:=bV hw
  cases r1
  cases r2
  exact EA pins s σ H _ _ v u Q I rx ry ⟨i,j,rfl,rfl,kD hl,q _ F H (gK.refl ..) sb (.str _)⟩
 ·rename_i i j
  obtain⟨hl,rfl⟩:=bV hw
  have rb2:=r2
  have rb1:=r1
  obtain⟨a,xs,rfl,fa,ha,sX⟩:=sb.kQ r1
  obtain⟨b,ys,rfl,fb,hb,Ln⟩:=sb.kQ r2
  by_cases hx:xs=[]
  ·subst hx
   cases sX
   cases rx
   cases ry
   obtain⟨its,r1',p1,_⟩:=I.tuple (.inl ha)
   obtain⟨its2,r2',p2,_⟩:=I.tuple (.inl hb)
   cases r1'
   obtain⟨⟨cls,dd,data,sl⟩,ho,hc,n,hd⟩:=id p1
   obtain⟨⟨aaq,dd2,data2,sl2⟩,ho2,hc2,n2,hd2⟩:=id p2
   simp only at hc hd hc2 hd2
   subst hc hd hc2 hd2
   exact concat_meets ⟨_,ho,rfl⟩ ⟨_,ho2,rfl⟩ afx seq_tuple_add aev aen (aeg _ _)
    (tuple_addW0 a b _ _ n n2 dd dd2 sl sl2 (by simp)) ⟨ho,ho2,⟨.ref b,H,I,rfl,q _ F H (gK.refl ..) sb rb2⟩⟩
  ·refine ON pins s σ H (.ref a) (.ref b) v u Q I rx ry ⟨a,b,xs,ys,rfl,rfl,.inl ha,.inl hb,hx,?_,fun hy=>?_,fun hy p hp=>?_⟩
   ·rw[sX.length,Ln.length];exact kD hl
   ·subst hy
    cases Ln
    exact q _ F H (gK.refl ..) sb (by show Rep F (.ref a) (.tup (i++[]));rw[aa8];exact rb1)
   ·exact q _ _ _ (gK.root sb hp _) (sb.uN hp) (.tup bq ((sX.append Ln).le (mj (sb.fresh hp))))
 ·rename_i i j
  obtain⟨hl,rfl⟩:=bV hw
  obtain⟨a,xs,rfl,fa,ha,sX⟩:=sb.i7 r1
  obtain⟨b,ys,rfl,fb,hb,Ln⟩:=sb.i7 r2
  cases rx
  cases ry
  obtain⟨z,its,n,r,hl1,e⟩:=Rd.BD I ha
  obtain⟨z2,its2,n2,r2,hl2,e2⟩:=Rd.BD I hb
  have hlen:xs.length+ys.length<=sizeLine:=by rw[sX.length,Ln.length];exact kD hl
  refine PySem.P.add_list e e2 ?_ (by rw[aaj,aaj];lia)
  have ea:its.toArray++its2.toArray=(its++its2).toArray:=by simp
  rw[ea]
  have hp:H s.heap.objs.size=none:=I.fresh
  refine⟨.ref _,_,I.Xj (t':=s.toks) (r.append r2) (by rw[aaB];lia),rfl,?_⟩
  exact q _ F _ (gK.obj hp _) (sb.same (gK.obj (F:=F) hp _).same) ⟨_,rfl,hp,sb.fresh hp,_,bq,sX.append Ln⟩
def ET:List D->Option U:=Lm (fun i j=>(decide (-(2 ^ 64) < i) && decide (i < 2 ^ 64)) || (decide (-(2 ^ 64) < j) && decide (j < 2 ^ 64))) fun i j=>.int (i * j)
def sY:CB X (binaryOp .Mult) ET:=vX SK (fun i j H Q c q=>⟨i,j,rfl,rfl,by
 simp only[Bool.or_eq_true,aa7,acU] at c
 exact c,q⟩) fun a a=>rfl
noncomputable def rQ:List D->Option U
 | [.int i]=>some (.t (.int (-i)))
 | _=>none
def nH:WN X (unaryOp .USub) (fun x H Q=>rP rQ [x] H Q):=by
 intro pins s σ H x v Q I rx ⟨F,ds,w,sb,rs,hw,q⟩
 obtain⟨d,rfl,r1⟩:=Ll rs
 cases r1 <;> try (cases hw;done)
 rename_i i
 cases hw
 exact SO pins s σ H _ v Q I rx ⟨i,rfl,q _ F H (gK.refl ..) sb (.int _)⟩
def En:List D->Option U
 | [.tup ds,.int i]=>(gz ds i).map .t
 | [.lst ds,.int i]=>(gz ds i).map .t
 | [.str z,.int i]=>if z.length<=100000 then(gz z.cps.toList i).map fun c=>.t (.str ⟨#[c]⟩) else none
 | _=>none
def uP:KU X (fun x y H Q=>rP En [x,y] H Q):=by
 intro value slice pins s σ H x y v u Q I rx ry ⟨F,ds,w,sb,rs,hw,q⟩ hsb
 obtain⟨d,e,rfl,r1,r2⟩:=vW rs
 cases d <;> cases e <;> try (cases hw;done)
 ·rename_i z i
  obtain⟨hl,hw⟩:=gj hw
  obtain⟨c,hc,hw⟩:=aF hw
  subst hw
  cases r1
  cases r2
  exact KZ value slice pins s σ H _ _ v u Q I rx ry ⟨z,i,c,rfl,rfl,kD hl,hc,q _ F H (gK.refl ..) sb (.str _)⟩ hsb
 ·rename_i ds i
  obtain⟨c,hc,hw⟩:=aF (show(gz ds i).map U.t=some w from hw)
  subst hw
  obtain⟨a,xs,rfl,fa,ha,sX⟩:=sb.kQ r1
  cases r2
  obtain⟨w',h1,h2⟩:=sX.gz hc
  exact KY value slice pins s σ H _ _ v u Q I rx ry ⟨a,xs,i,w',rfl,rfl,.inl ha,h1,q _ F H (gK.refl ..) sb h2⟩ hsb
 ·rename_i ds i
  obtain⟨c,hc,hw⟩:=aF (show(gz ds i).map U.t=some w from hw)
  subst hw
  obtain⟨a,xs,rfl,fa,ha,sX⟩:=sb.i7 r1
  cases r2
  obtain⟨w',h1,h2⟩:=sX.gz hc
  exact GF value slice pins s σ H _ _ v u Q I rx ry ⟨a,xs,i,w',rfl,rfl,.inl ha,h1,q _ F H (gK.refl ..) sb h2⟩ hsb
noncomputable def yh:List D->Option U
 | [.tup ds]=>some (.t (.int ds.length))
 | [.lst ds]=>some (.t (.int ds.length))
 | [.str z]=>if z.length<=100000 then some (.t (.int z.length)) else none
 | _=>none
def uQ:gJ X (.builtin "len") (rP yh):=by
 intro pins s σ H xs us Q I r ⟨F,ds,w,sb,rs,hw,q⟩
 match xs,ds,rs with
 | [],[],_=>exact absurd hw (by simp[yh])
 | [x],_,rs=>
  obtain⟨d,rfl,r1⟩:=Ll rs
  cases d <;> try (cases hw;done)
  ·rename_i z
   obtain⟨hl,rfl⟩:=bV hw
   cases r1
   exact sV pins s σ H _ us Q I r ⟨z,rfl,kD hl,q _ F H (gK.refl ..) sb (.int _)⟩
  ·cases hw
   obtain⟨a,xs,rfl,fa,ha,sX⟩:=sb.kQ r1
   exact nB pins s σ H _ us Q I r ⟨a,xs,rfl,.inr (.inl ha),by rw[sX.length];exact q _ F H (gK.refl ..) sb (.int _)⟩
  ·cases hw
   obtain⟨a,xs,rfl,fa,ha,sX⟩:=sb.i7 r1
   exact nB pins s σ H _ us Q I r ⟨a,xs,rfl,.inl (.inl ha),by rw[sX.length];exact q _ F H (gK.refl ..) sb (.int _)⟩
 | _ :: _ :: _,[],rs=>cases rs
 | _ :: _ :: _,[_],rs=>cases rs with | cons _ rs=>cases rs
 | _ :: _ :: _,_ :: _ :: _,_=>exact absurd hw (by simp[yh])
end
noncomputable def sZ (i:Nat) (u:U) (S:SS):Option SS:=match S[i]? with
 | some (some (.b _))=>none
 | some _=>some (S.set i (some u))
 | none=>none
def Ik (h:sZ i u S=some S'):S'=S.set i (some u)/\i < S.length/\∀o,S[i]?≠some (some (.b o)):=by
 unfold sZ at h
 cases e:S[i]? with
 | none=>rw[e] at h;cases h
 | some w=>
  have hl:i < S.length:=(aaG.mp e).1
  rw[e] at h
  cases w with
  | none=>cases h;exact⟨rfl,hl,fun o z=>by cases z⟩
  | some w=>
   cases w with
   | b o=>cases h
   | t d=>cases h;exact⟨rfl,hl,fun o z=>by cases z⟩
   | m d=>cases h;exact⟨rfl,hl,fun o z=>by cases z⟩
   | v d=>cases h;exact⟨rfl,hl,fun o z=>by cases z⟩
   | s d=>cases h;exact⟨rfl,hl,fun o z=>by cases z⟩
   | f d=>cases h;exact⟨rfl,hl,fun o z=>by cases z⟩
def Rt (B:Base) (S:SS) (σ:St) (F H:Hp) (v:V):U->Prop
 | .t d=>Rep F v d
 | .m o=>∃a,v= .ref a/\F a=none/\At F H a o/\¬dQ S σ a/\B.H a=none
 | _=>False
def Rel.put {F:Hp}{v:V}(R:Rel K B S σ F H) (h:sZ i u S=some S') (p:Rt B S σ F H v u):Rel K B S' (σ.set i (some v)) F H:=by
 obtain⟨rfl,hl,nb⟩:=Ik h
 have hl':i < σ.length:=by rw[<-R.len];exact hl
 have out:∀{j:Nat},i≠j->(σ.set i (some v))[j]? =σ[j]?:=fun ne=>ab2 ne
 have Il:(σ.set i (some v))[i]? =some (some v):=acI hl'
 have Ru:∀j w a,i≠j->S[j]? =some (some w)->gf w=true->gf u=true->σ[j]? =some (some (.ref a))->v≠.ref a:=fun j w a ne hj hm hu hv z=>by
  cases u with
  | t d=>cases hu
  | v k=>cases hu
  | s k=>cases hu
  | f k=>cases hu
  | b o=>exact p
  | m o=>
   obtain⟨c,e,_,_,nm,_⟩:=p
   rw[z] at e
   cases e
   exact nm ⟨j,w,hj,hm,hv⟩
 refine⟨R.sub,by rw[adC,adC];exact R.len,fun j w hj=>?_,fun j k w1 w2 a h1 m1 h2 m2 v1 v2=>?_,fun j o a hj hv=>?_,fun j o a hj hv=>?_,fun j a hj=>?_,R.ext⟩
 ·rcases get_set hj with⟨rfl,q,_⟩ | ⟨ne,q⟩
  ·cases q
   refine⟨v,Il,?_⟩
   cases u with
   | t d=>exact p
   | m o=>obtain⟨a,e,f,h,_⟩:=p;exact⟨a,e,f,h⟩
   | b o=>cases p
   | v k=>cases p
   | s k=>cases p
   | f k=>cases p
  ·rw[out ne];exact R.rep j w q
 ·rcases get_set h1 with⟨rfl,q1,_⟩ | ⟨ne1,q1⟩
  ·rcases get_set h2 with⟨rfl,q2,_⟩ | ⟨ne2,q2⟩
   ·rfl
   ·cases q1
    rw[Il] at v1
    rw[out ne2] at v2
    cases v1
    exact absurd rfl (Ru k w2 a ne2 q2 m2 m1 v2)
  ·rcases get_set h2 with⟨rfl,q2,_⟩ | ⟨ne2,q2⟩
   ·cases q2
    rw[Il] at v2
    rw[out ne1] at v1
    cases v2
    exact absurd rfl (Ru j w1 a ne1 q1 m1 m2 v1)
   ·rw[out ne1] at v1
    rw[out ne2] at v2
    exact R.GK j k w1 w2 a q1 m1 q2 m2 v1 v2
 ·rcases get_set hj with⟨rfl,q,_⟩ | ⟨ne,q⟩
  ·cases q
   rw[Il] at hv
   cases hv
   obtain⟨c,e,_,_,_,hB⟩:=p
   cases e
   exact hB
  ·rw[out ne] at hv;exact R.own j o a q hv
 ·rcases get_set hj with⟨rfl,q,_⟩ | ⟨ne,q⟩
  ·cases q;cases p
  ·rw[out ne] at hv;exact R.bor j o a q hv
 ·obtain⟨h1,o,h2⟩:=R.par j a hj
  have ne:i≠j:=fun z=>by subst z;exact nb o h2
  exact⟨by rw[out ne];exact h1,o,by rw[ab2 ne];exact h2⟩
noncomputable def c8:GS:=fun S=>some (.nx S)
noncomputable def aQ (a b:GS):GS:=fun S=>(a S).bind fun o=>match o with
 | .nx S1=>b S1
 | o=>some o
def bX (i:Nat) (g:GE):GS:=fun S=>(g S).bind fun p=>match p.1 with
 | .m o=>(sZ i (.m o) p.2).map .nx
 | u=>(fz u p.2).bind fun q=>(sZ i (.t q.1) q.2).map .nx
noncomputable def fT (g:GE):GS:=fun S=>(g S).map fun p=>.nx p.2
noncomputable def bT (g:GE):GS:=fun S=>(g S).bind fun p=>match p.1 with
 | .v i=>match p.2[i]? with
  | some (some (.t d))=>some (.rt (.t d) p.2)
  | some (some (.m o))=>some (.rt (.m o) (p.2.set i none))
  | _=>none
 | .s _=>none
 | .f _=>none
 | u=>some (.rt u p.2)
noncomputable def i8 (q:GT) (a b:GS):GS:=fun S=>(q S).bind fun p=>if p.1 then a p.2 else b p.2
theorem GL.mono {F:Hp}{D:Ends}(g:∀b o,F b=some o->F1 b=some o):∀{o:Out},GL K B F D o->GL K B F1 D o
 | .nx _,h=>fun σ' F' H' R le=>h σ' F' H' R fun b o z=>le b o (g b o z)
 | .bk _,h=>fun σ' F' H' R le=>h σ' F' H' R fun b o z=>le b o (g b o z)
 | .ct _,h=>fun σ' F' H' R le=>h σ' F' H' R fun b o z=>le b o (g b o z)
 | .rt _ _,h=>fun v σ' F' H' R le=>h v σ' F' H' R fun b o z=>le b o (g b o z)
section
variable {X:Cx}{a b c e:Expr}{pos p p2:Pos}{x:Str}{st:Stmt}{rest b1 b2 body:List Stmt}{g:GE}{s1 s2:GS}{q1:GT}
def bW:JB X [] c8:=⟨fun B=>Ol.imp fun D σ H ⟨S,F,o,R,h,k⟩=>by cases h;exact k σ F H R fun a a z=>z⟩
def aA (h1:JS X st s1) (h2:JB X rest s2):JB X (st :: rest) (aQ s1 s2):=⟨fun B=>(Kq (h1.h B) (h2.h B)).imp fun D σ H hh=>by
 obtain⟨S,F,o,R,h,k⟩:=hh
 obtain⟨o1,e1,h⟩:=ak h
 refine⟨S,F,o1,R,e1,?_⟩
 cases o1 with
 | nx S1=>exact fun σ' F' H' R' le=>⟨S1,F',o,R',h,k.mono le⟩
 | rt u S1=>cases h;exact k
 | bk S1=>cases h;exact k
 | ct S1=>cases h;exact k⟩
def aN (h1:JS X st s1):JB X [st] s1:=⟨fun B=>Om (h1.h B)⟩
def iA.put {F:Hp}{v:V}{o:MO}(r:iA K B S σ H0 F H v (.m o)):Rt B S σ F H v (.m o):=by
 obtain⟨a,e,_,f,h,n,hB⟩:=r
 exact⟨a,e,f,h,n,hB⟩
def BI {D:Ends}(h:tO K B (bX i g) D σ H):Ks (tE K B g) (Ar i) D σ H:=by
 obtain⟨S,F,o,R,h,k⟩:=h
 obtain⟨⟨u,S1⟩,h1,h⟩:=ak h
 refine⟨S,F,u,S1,R,h1,fun v F1 H1 R1 st1 r1=>?_⟩
 have go:(∀o',u≠.m o')->(fz u S1).bind (fun q=>(sZ i (.t q.1) q.2).map Out.nx)=some o->D.nx (σ.set i (some v)) H1:=fun a h=>by
  obtain⟨⟨d,S2⟩,h2,h⟩:=ak h
  obtain⟨S3,h3,h⟩:=aF h
  subst h
  obtain⟨F2,R2,st2,r2⟩:=Lh R1 st1 r1 h2
  exact k _ F2 H1 (R2.put h3 r2) st2.ext.le
 cases u with
 | m o'=>
  obtain⟨S3,h3,h⟩:=aF (show(sZ i (.m o') S1).map Out.nx=some o from h)
  subst h
  exact k _ F1 H1 (R1.put h3 r1.put) st1.ext.le
 | t d=>exact go (fun a z=>by cases z) h
 | b d=>exact go (fun a z=>by cases z) h
 | s d=>exact go (fun a z=>by cases z) h
 | f d=>exact go (fun a z=>by cases z) h
 | v d=>exact go (fun a z=>by cases z) h
def Tn {pos':Pos}(hN:X.N.Nodup) (hi:X.N[i]? =some x) (hx:Loc X.env.scope x) (he:JE X e g) (hs:swapsWith e (some (.Name x pos')) pos.line X.env=pure false:=by rfl)
  (hf:X.fn x=true\/X.env.scope.names.lookup x=some .local:=by first | exact .inl rfl | exact .inr rfl | assumption):JS X (.Assign [.Name x pos'] e pos) (bX i g):=
 ⟨fun B=>(Su hN hi hx (he.h B) hs hf).imp fun D σ H h=>BI h⟩
def cW (he:JE X e g) (hs:swapsWith e none pos.line X.env=pure false:=by rfl):JS X (.Expr e pos) (fT g):=⟨fun B=>(Oo (he.h B) hs).imp fun D σ H hh=>by
 obtain⟨S,F,o,R,h,k⟩:=hh
 obtain⟨⟨u,S1⟩,h1,h⟩:=aF h
 subst h
 exact⟨S,F,u,S1,R,h1,fun v F1 H1 R1 st1 r1=>k σ F1 H1 R1 st1.ext.le⟩⟩
def Rel.drop {F:Hp}{o:MO}(R:Rel K B S σ F H) (h:S[i]? =some (some (.m o))):Rel K B (S.set i none) σ F H:=by
 have back:∀{j w},(S.set i none)[j]? =some (some w)->i≠j/\S[j]? =some (some w):=fun {j w} z=>by
  rcases get_set z with⟨_,q,_⟩ | q
  ·cases q
  ·exact q
 refine⟨R.sub,by rw[adC];exact R.len,fun j w z=>R.rep j w (back z).2,fun j k w1 w2 a h1 m1 h2 m2=>R.GK j k w1 w2 a (back h1).2 m1 (back h2).2 m2,fun j o a z=>R.own j o a (back z).2,fun j o a z=>R.bor j o a (back z).2,fun j a z=>?_,R.ext⟩
 obtain⟨k1,o',k2⟩:=R.par j a z
 have ne:i≠j:=fun z=>by subst z;rw[h] at k2;cases k2
 exact⟨k1,o',by rw[ab2 ne];exact k2⟩
def bg (he:JE X e g):JS X (.Return (some e) pos) (bT g):=⟨fun B=>(Sl (he.h B)).imp fun D σ H hh=>by
 obtain⟨S,F,o,R,h,k⟩:=hh
 obtain⟨⟨u,S1⟩,h1,h⟩:=ak h
 refine⟨S,F,u,S1,R,h1,fun v F1 H1 R1 st1 r1=>?_⟩
 cases u with
 | t d=>cases h;exact k v σ F1 H1 R1 st1.ext.le r1
 | b d=>cases h;cases r1
 | s d=>cases h
 | f d=>cases h
 | m o'=>cases h;exact k v σ F1 H1 R1 st1.ext.le (by obtain⟨a,e,h0,f,h,n,hB⟩:=r1;exact⟨a,e,hB,f,h,n,hB⟩)
 | v i=>
  obtain⟨hv,w,hw⟩:=r1
  dsimp only at h
  rw[hw] at h
  obtain⟨v',z1,z2⟩:=R1.rep i w hw
  rw[hv] at z1
  cases z1
  cases w with
  | t d=>cases h;exact k v σ F1 H1 R1 st1.ext.le z2
  | b d=>cases h
  | v d=>cases h
  | s d=>cases h
  | f d=>cases h
  | m o'=>
   cases h
   obtain⟨a,rfl,f,ha⟩:=z2
   have hB:=R1.own i o' a hw hv
   refine k _ σ F1 H1 (R1.drop hw) st1.ext.le ⟨a,rfl,hB,f,ha,fun hh=>?_,hB⟩
   obtain⟨j,w,z,hm,hj⟩:=hh
   rcases get_set z with⟨_,q,_⟩ | ⟨ne,q⟩
   ·cases q
   ·exact ne (R1.GK i j _ w a hw rfl q hm hv hj)⟩
def cJ (hc:JT X c q1) (ha:JB X b1 s1) (hb:JB X b2 s2):JS X (.If c b1 b2 pos) (i8 q1 s1 s2):=⟨fun B=>(WI (hc.h B) (ha.h B) (hb.h B)).imp fun D σ H hh=>by
 obtain⟨S,F,o,R,h,k⟩:=hh
 obtain⟨⟨d,S1⟩,h1,h⟩:=ak h
 refine⟨S,F,d,S1,R,h1,fun F1 H1 R1 st1=>?_⟩
 cases d with
 | true=>exact C1 ⟨S1,F1,o,R1,h,k.mono st1.ext.le⟩
 | false=>exact C0 ⟨S1,F1,o,R1,h,k.mono st1.ext.le⟩⟩
abbrev GB:=D->SS->Option SS
inductive tBd (K:AAD) (B:Base) (bd:GB) (v:V) (σ:St) (H:Hp) (Q:St->Hp->Prop):Prop
 | mk (S:SS) (F:Hp) (d:D) (S':SS) (R:Rel K B S σ F H) (r:Rep F v d) (hg:bd d S=some S') (q:∀σ',Rel K B S' σ' F H->Q σ' H)
structure JG (X:Cx) (tg:Expr) (bd:GB):Prop where
 h:∀B,PG X tg (tBd X.K B bd)
abbrev N5:=List D->SS->Option SS
inductive aaN (K:AAD) (B:Base) (bd:N5) (vs:List V) (σ:St) (H:Hp) (Q:St->Hp->Prop):Prop
 | mk (S:SS) (F:Hp) (ds:List D) (S':SS) (R:Rel K B S σ F H) (r:bH F vs ds) (hg:bd ds S=some S') (q:∀σ',Rel K B S' σ' F H->Q σ' H)
structure Y0 (X:Cx) (Lo:List Expr) (bd:N5):Prop where
 h:∀B,Rj X Lo (aaN X.K B bd)
def PG.imp {t t':TG}(h:PG X tg t) (k:∀v σ H Q,t' v σ H Q->t v σ H Q):PG X tg t':=fun pins s σ H v u Q I r q=>h pins s σ H v u Q I r (k v σ H Q q)
def Rj.imp {tg:List Expr}{t t':Ri}(h:Rj X tg t) (k:∀v σ H Q,t' v σ H Q->t v σ H Q):Rj X tg t':=fun pins s σ H v u Q I r q=>h pins s σ H v u Q I r (k v σ H Q q)
def bName (i:Nat):GB:=fun d S=>sZ i (.t d) S
def O3 (hN:X.N.Nodup) (hi:X.N[i]? =some x) (hx:Loc X.env.scope x) (hf:X.fn x=true\/X.env.scope.names.lookup x=some .local:=by first | exact .inl rfl | exact .inr rfl | assumption):JG X (.Name x pos) (bName i):=
 ⟨fun B=>(xr hN hi hx hf).imp fun v σ H Q ⟨S,F,d,S',R,r,h,k⟩=>k _ (R.put h r)⟩
noncomputable def o9:N5:=fun ds S=>match ds with
 | []=>some S
 | _=>none
noncomputable def eG (b:GB) (bs:N5):N5:=fun ds S=>match ds with
 | d :: r=>(b d S).bind fun S1=>bs r S1
 | []=>none
def tu:Y0 X [] o9:=⟨fun B=>Gm.imp fun vs σ H Q hh=>by
 obtain⟨S,F,ds,S',R,r,h,k⟩:=hh
 cases r with
 | nil=>cases h;exact⟨rfl,k σ R⟩
 | cons _ _=>cases h⟩
def iJ {Xu:N5}(h1:JG X tg bd) (h2:Y0 X Lo Xu) (hs:(assignEach (tg :: Lo) X.env).map (·.2)=assign tg X.env :: (assignEach Lo X.env).map (·.2):=by rfl):Y0 X (tg :: Lo) (eG bd Xu):=
 ⟨fun B=>(xS (h1.h B) (h2.h B) hs).imp fun vs σ H Q hh=>by
 obtain⟨S,F,ds,S',R,r,h,k⟩:=hh
 cases r with
 | nil=>cases h
 | cons r rs=>
  obtain⟨S1,e1,h⟩:=ak h
  exact⟨_,_,rfl,S,F,_,S1,R,r,e1,fun σ1 R1=>⟨S1,F,_,S',R1,rs,h,k⟩⟩⟩
noncomputable def oH (n:Nat) (bs:N5):GB:=fun d S=>match d with
 | .tup ds=>if ds.length=n then bs ds S else none
 | _=>none
def yi {k0:Nat}{Xu:N5}(hc:X.calm=true) (h:Y0 X Lo Xu) (hn:(assignEach Lo X.env).length=n:=by rfl) (hst:(assignEach Lo X.env).findIdx? (·.1)=none:=by rfl):JG X (.Tuple Lo k0 pos) (oH n Xu):=
 ⟨fun B=>(Kr hc (h.h B) hn hst).imp fun v σ H Q hh=>by
 obtain⟨S,F,d,S',R,r,h,k⟩:=hh
 cases d <;> try (cases h)
 rename_i ds
 unfold oH at h
 dsimp only at h
 split at h
 ·rename_i hl
  obtain⟨a,vs,rfl,fa,ha,rs⟩:=R.sub.kQ r
  exact⟨a,vs,rfl,.inl ha,by rw[rs.length];exact hl,S,F,ds,S',R,rs,h,k⟩
 ·cases h⟩
noncomputable def Lp (bd:GB) (g:GD):GS:=fun S=>(g S).bind fun p=>(bd p.1 p.2).map .nx
def Lq (he:JD X e gd) (hg:JG X tg bd) (hs:swapsWithSole [tg] e pos.line X.env=pure false:=by rfl) (hw:swappedStores [tg] e X.env=pure none:=by rfl)
  (h1:(assignEach [tg] X.env).map (·.2)=[assign tg X.env]:=by rfl):JS X (.Assign [tg] e pos) (Lp bd gd):=
 ⟨fun B=>(Ku (he.h B) (hg.h B) hs hw h1).imp fun D σ H hh=>by
 obtain⟨S,F,o,R,h,k⟩:=hh
 obtain⟨⟨d,S1⟩,e1,h⟩:=ak h
 obtain⟨S2,e2,h⟩:=aF h
 subst h
 exact⟨S,F,d,S1,R,e1,fun v F1 H1 R1 st1 r1=>⟨S1,F1,d,S2,R1,r1,e2,fun σ' R2=>k σ' F1 H1 R2 st1.ext.le⟩⟩⟩
def Walk (J:It) (F:Hp) (ds:List D):Prop:=∀F' H',(∀b o,F b=some o->F' b=some o)->Sub F' H'->∀i,(∀d,ds[i]? =some d->J.go i H'/\∀x H2,J.Sv i H' x H2->H2=H'/\Rep F' x d)/\(ds.length<=i->J.stop i H')
abbrev GI:=SS->Option (List D×SS)
inductive tIt (K:AAD) (B:Base) (gi:GI) (σ:St) (H:Hp) (Q:It->Hp->Prop):Prop
 | mk (S:SS) (F:Hp) (ds:List D) (S':SS) (R:Rel K B S σ F H) (hg:gi S=some (ds,S')) (q:∀J F' H',Rel K B S' σ F' H'->Step S S' σ F H F' H'->Walk J F' ds->Q J H')
structure JI (X:Cx) (tg e:Expr) (gi:GI):Prop where
 h:∀B,PI X tg e (tIt X.K B gi)
def PI.orelse {wi:TI}(h:∀σ H R,wi σ H R->∃wi',PI X tg e wi'/\wi' σ H R):PI X tg e wi:=fun pins s σ H R I q=>let⟨_,h1,h2⟩:=h σ H R q;h1 pins s σ H R I h2
noncomputable def BJ (g:GD):GI:=fun S=>(g S).bind fun p=>match p.1 with
 | .tup ds=>some (ds,p.2)
 | .lst ds=>some (ds,p.2)
 | _=>none
noncomputable def zO (g:GD):GI:=fun S=>(g S).bind fun p=>match p.1 with
 | .tup ds=>some (ds,p.2)
 | .lst ds=>some (ds,p.2)
 | .str z=>some (z.cps.toList.map fun c=>.str ⟨#[c]⟩,p.2)
 | _=>none
def AF {F:Hp}{a:Addr}(fa:Rd F a (.lst vs)) (rs:bH F vs ds):Walk (Itl K a) F ds:=fun F' H' le sb i=>by
 have ha:oO K H' a vs:=.inl (fa.imp (fun z=>sb a _ (le _ _ z)) fun⟨o,z⟩=>⟨o,sb a _ (le _ _ z)⟩)
 refine⟨fun d hd=>?_,fun hl=>⟨vs,ha,by rw[rs.length];exact hl⟩⟩
 obtain⟨v,h1,h2⟩:=rs.get hd
 refine⟨⟨vs,v,ha,h1⟩,fun x H2 y=>⟨y.1,?_⟩⟩
 have:=y.2 vs ha
 rw[h1] at this
 cases this
 exact h2.le le
def C7 {F:Hp}{a:Addr}(fa:F a=some (.tup vs)) (rs:bH F vs ds):Walk (Itt K a) F ds:=fun F' H' le sb i=>by
 have ha:Ao K H' a vs:=.inl (Rd.of (sb a _ (le _ _ fa)))
 refine⟨fun d hd=>?_,fun hl=>⟨vs,ha,by rw[rs.length];exact hl⟩⟩
 obtain⟨v,h1,h2⟩:=rs.get hd
 refine⟨⟨vs,v,ha,h1⟩,fun x H2 y=>⟨y.1,?_⟩⟩
 have:=y.2 vs ha
 rw[h1] at this
 cases this
 exact h2.le le
def Lr {F:Hp}:Walk (Its z) F (z.cps.toList.map fun c=>.str ⟨#[c]⟩):=fun F' H' le sb i=>by
 refine⟨fun d hd=>?_,fun hl=>(show z.cps.size<=i by simpa using hl)⟩
 rw[aaO] at hd
 obtain⟨c,hc,rfl⟩:=aF hd
 have hc':z.cps[i]? =some c:=by rw[<-Array.getElem?_toList];exact hc
 refine⟨(Array.getElem?_eq_some_iff.mp hc').1,fun x H2 y=>⟨y.1,?_⟩⟩
 obtain⟨c2,k1,rfl⟩:=y.2
 rw[hc'] at k1
 cases k1
 exact .str _
def Ls (h:JD X e gd):JI X tg e (BJ gd):=⟨fun B=>PI.orelse fun σ H R0 hh=>by
 obtain⟨S,F,ds,S',R,hg,k⟩:=hh
 obtain⟨⟨d,S1⟩,h1,hg⟩:=ak hg
 cases d <;> try (cases hg)
 ·refine⟨_,Kv (h.h B),S,F,_,_,R,h1,fun v F1 H1 R1 st1 r1=>?_⟩
  obtain⟨a,vs,rfl,fa,ha,rs⟩:=R1.sub.kQ r1
  exact⟨a,rfl,⟨vs,.inl ha⟩,k _ F1 H1 R1 st1 (C7 fa rs)⟩
 ·refine⟨_,Gp (h.h B),S,F,_,_,R,h1,fun v F1 H1 R1 st1 r1=>?_⟩
  obtain⟨a,vs,rfl,fa,ha,rs⟩:=R1.sub.i7 r1
  exact⟨a,rfl,⟨vs,.inl ha⟩,k _ F1 H1 R1 st1 (AF fa rs)⟩⟩
def uR (h:JD X e gd):JI X (.Name x pos) e (zO gd):=⟨fun B=>PI.orelse fun σ H R0 hh=>by
 obtain⟨S,F,ds,S',R,hg,k⟩:=hh
 obtain⟨⟨d,S1⟩,h1,hg⟩:=ak hg
 cases d <;> try (cases hg)
 ·refine⟨_,Te (h.h B),S,F,_,_,R,h1,fun v F1 H1 R1 st1 r1=>?_⟩
  exact⟨_,GO r1,k _ F1 H1 R1 st1 Lr⟩
 ·refine⟨_,Kv (h.h B),S,F,_,_,R,h1,fun v F1 H1 R1 st1 r1=>?_⟩
  obtain⟨a,vs,rfl,fa,ha,rs⟩:=R1.sub.kQ r1
  exact⟨a,rfl,⟨vs,.inl ha⟩,k _ F1 H1 R1 st1 (C7 fa rs)⟩
 ·refine⟨_,Gp (h.h B),S,F,_,_,R,h1,fun v F1 H1 R1 st1 r1=>?_⟩
  obtain⟨a,vs,rfl,fa,ha,rs⟩:=R1.sub.i7 r1
  exact⟨a,rfl,⟨vs,.inl ha⟩,k _ F1 H1 R1 st1 (AF fa rs)⟩⟩
noncomputable def oU (lo:Int) (n:Nat):List D:=(List.range n).map fun(k:Nat)=>D.int (lo+(k:Int))
def jx (gA:GA):GI:=fun S=>(gA S).bind fun p=>match p.1 with
 | [.int j]=>if j < 1000000/\-1000000 < j then some (oU 0 j.toNat,p.2) else none
 | _=>none
def Lu {F:Hp}{lo:Int}:Walk (YU lo n) F (oU lo n):=fun F' H' le sb i=>by
 refine⟨fun d hd=>?_,fun hl=>(show n<=i by simpa[oU] using hl)⟩
 unfold oU at hd
 rw[aaO] at hd
 obtain⟨c,hc,rfl⟩:=aF hd
 obtain⟨hl,e⟩:=aaG.mp hc
 rw[List.getElem_range] at e
 subst e
 refine⟨show i < n by simpa using hl,fun x H2 y=>⟨y.1,?_⟩⟩
 rw[y.2]
 exact .int _
def jC {gA:GA}(hg:Gl X "range") (hm:X.mg "range" =none) (ha:JA X [a] gA) (hs:starEach [a] X.env=[(false,eval a X.env)]:=by rfl):JI X tg (.Call (.Name "range" p) [a] [] pos) (jx gA):=
 ⟨fun B=>PI.orelse fun σ H R0 hh=>by
 obtain⟨S,F,ds,S',R,hg',k⟩:=hh
 obtain⟨⟨d,S1⟩,h1,hg'⟩:=ak hg'
 refine⟨_,HM hg hm (ha.h B) hs,S,F,d,S1,R,h1,fun vs F1 H1 R1 st1 r1=>?_⟩
 dsimp only at hg'
 split at hg'
 ·split at hg'
  ·rename_i j hj
   cases hg'
   cases r1 with
   | cons r rs=>
    cases rs
    exact⟨j,by rw[gM r],by omega,by omega,k _ F1 H1 R1 st1 Lu⟩
  ·cases hg'
 ·cases hg'⟩
noncomputable def loop (bd:GB) (body:GS):List D->SS->Option Out
 | [],S=>some (.nx S)
 | d :: ds,S=>(bd d S).bind fun S1=>(body S1).bind fun o=>match o with
  | .nx S2=>loop bd body ds S2
  | .ct S2=>loop bd body ds S2
  | .bk S2=>some (.nx S2)
  | .rt u S2=>some (.rt u S2)
def rR (bd:GB) (gi:GI) (body:GS):GS:=fun S=>(gi S).bind fun p=>loop bd body p.1 p.2
def pq (hp:PassesOwn (model X.prog X.w) X.A X.env X.xe) (hc:X.calm=true) (hi:JI X tg iter gi) (hg:JG X tg bd) (hb:JB X body s1) (hs:∀x,foldedSetIterable iter X.env x=pure x:=by intro _;rfl):
  JS X (.For tg iter body [] pos) (rR bd gi s1):=⟨fun B=>(Ky hp hc (hi.h B) (hg.h B) (hb.h B) hs).imp fun D σ H hh=>by
 obtain⟨S,F,o,R,h,k⟩:=hh
 obtain⟨⟨ds,S1⟩,h1,h⟩:=ak h
 refine⟨S,F,ds,S1,R,h1,fun J F1 H1 R1 st1 w=>?_⟩
 refine⟨fun i m σ' H'=>∃S' F',Rel X.K B S' σ' F' H'/\(∀b o,F1 b=some o->F' b=some o)/\i<=ds.length/\m=ds.length - i/\loop bd s1 (ds.drop i) S'=some o,⟨_,S1,F1,R1,fun a a z=>z,acJ _,rfl,h⟩,?_⟩
 rintro i m σ' H' ⟨S',F',R',le,hl,rfl,gm⟩
 have w':=w F' H' le R'.sub i
 by_cases hlt:i < ds.length
 ·have hd:ds[i]? =some ds[i]:=aaD hlt
  obtain⟨go,yl⟩:=w'.1 _ hd
  rw[adb hlt] at gm
  obtain⟨S2,e2,gm⟩:=ak gm
  obtain⟨o2,e3,gm⟩:=ak gm
  refine .inr ⟨go,_,fun σ2 H2 n=>⟨ds.length - (i+1),by omega,n⟩,fun x H2 y=>?_⟩
  obtain⟨rfl,rx⟩:=yl x H2 y
  refine⟨S',F',_,S2,R',rx,e2,fun σ3 R3=>⟨S2,F',o2,R3,e3,?_⟩⟩
  cases o2 with
  | nx S3=>exact fun Lv F4 H4 R4 EU=>⟨S3,F4,R4,fun b o z=>EU b o (le b o z),hlt,rfl,gm⟩
  | ct S3=>exact fun Lv F4 H4 R4 EU=>⟨S3,F4,R4,fun b o z=>EU b o (le b o z),hlt,rfl,gm⟩
  | bk S3=>cases gm;exact fun Lv F4 H4 R4 EU=>k Lv F4 H4 R4 fun b o z=>EU b o (le b o (st1.ext.le b o z))
  | rt u S3=>cases gm;exact fun v Lv F4 H4 R4 EU=>k v Lv F4 H4 R4 fun b o z=>EU b o (le b o (st1.ext.le b o z))
 ·have e:i=ds.length:=by omega
  subst e
  rw[aeA] at gm
  cases gm
  exact .inl ⟨w'.2 (aaC _),k σ' F' H' R' fun b o z=>le b o (st1.ext.le b o z)⟩⟩
end
noncomputable def VO:U->MO->Option U
 | .m _,o=>some (.m o)
 | .b _,o=>some (.b o)
 | _,_=>none
noncomputable def Rv:U->Option MO
 | .m o=>some o
 | .b o=>some o
 | _=>none
noncomputable def wL (S:SS) (i:Nat) (f:MO->Option (D×MO)):Option (D×SS):=match S[i]? with
 | some (some (.m o))=>(f o).map fun r=>(r.1,S.set i (some (.m r.2)))
 | some (some (.b o))=>(f o).map fun r=>(r.1,S.set i (some (.b r.2)))
 | _=>none
def At.Xv {F:Hp}{o:MO}{ob:Obj}{u:HO}(h:At F H a o):H a≠some (.kL ob u):=fun z=>by
 cases o with
 | lst ds=>obtain⟨vs,e,_⟩:=h;rw[z] at e;cases e
 | dct ds=>obtain⟨vs,e,_⟩:=h;rw[z] at e;cases e
 | cI ds=>obtain⟨vs,e,_⟩:=h;rw[z] at e;cases e
 | ins C ds=>obtain⟨vs,⟨dx,e⟩,_⟩:=h;rw[z] at e;cases e
def BG.dQ {F:Hp}{v:V}(r:BG K F H v u) (hm:gf u=true):∃a o,v= .ref a/\F a=none/\Rv u=some o/\At F H a o:=by
 cases u with
 | t d=>cases hm
 | v d=>cases hm
 | s d=>cases hm
 | f d=>cases hm
 | m o=>obtain⟨a,e,f,h⟩:=r;exact⟨a,o,e,f,rfl,h⟩
 | b o=>obtain⟨a,e,f,h⟩:=r;exact⟨a,o,e,f,rfl,h⟩
def Rel.write {F:Hp}{u':U}{ho:HO}{o:MO}(R:Rel K B S σ F H) (hS:S[i]? =some (some u)) (hu:VO u o=some u') (hv:σ[i]? =some (some (.ref a))) (ha:At F (upd H a ho) a o):
  Rel K B (S.set i (some u')) σ F (upd H a ho)/\Step S (S.set i (some u')) σ F H F (upd H a ho):=by
 have hm:gf u=true/\gf u'=true:=by cases u <;> cases hu <;> exact⟨rfl,rfl⟩
 have Xw:F a=none/\∀b ob w,H b=some (.kL ob w)->b≠a:=by
  obtain⟨v,h1,h2⟩:=R.rep i u hS
  rw[hv] at h1
  cases h1
  obtain⟨b,_,e,f,_,k⟩:=h2.dQ hm.1
  cases e
  exact⟨f,fun b ob w z e=>k.Xv (by rw[e] at z;exact z)⟩
 have Xx:=Xw.1
 have VP:∀b ob w,H b=some (.kL ob w)->upd H a ho b=some (.kL ob w):=fun b ob w z=>by rw[bf (Xw.2 b ob w z)];exact z
 have mAt:L2.dQ S σ a:=⟨i,u,hS,hm.1,hv⟩
 have hl:i < S.length:=(aaG.mp hS).1
 have kb:∀{j w},(S.set i (some u'))[j]? =some (some w)->(i=j/\u'=w)\/(i≠j/\S[j]? =some (some w)):=fun {j w} z=>by
  rcases get_set z with⟨e,q,_⟩ | q
  ·exact .inl ⟨e,aa0 q⟩
  ·exact .inr q
 have orig:∀{j w},(S.set i (some u'))[j]? =some (some w)->gf w=true->∃w0,S[j]? =some (some w0)/\gf w0=true:=fun {j w} z hw=>by
  rcases kb z with⟨rfl,rfl⟩ | ⟨_,q⟩
  ·exact⟨u,hS,hm.1⟩
  ·exact⟨w,q,hw⟩
 have keepR:∀b o,b≠a->Rd H b o->Rd (upd H a ho) b o:=fun b o ne r=>by
  rcases r with r | ⟨ob,r⟩
  ·exact .inl (by rw[bf ne];exact r)
  ·exact .inr ⟨ob,by rw[bf ne];exact r⟩
 refine⟨⟨fun b o z=>by rw[bf (fun e=>by rw[e,Xx] at z;cases z)];exact R.sub b o z,by rw[adC];exact R.len,fun j w z=>?_,fun j k w1 w2 c z1 m1 z2 m2=>?_,fun j o' c z hc=>?_,fun j o' c z hc=>?_,fun j c z=>?_,?_⟩,⟨?_,fun c ⟨j,w,z,hw,hc⟩=>?_,fun j w z=>?_⟩⟩
 ·rcases kb z with⟨rfl,rfl⟩ | ⟨ne,q⟩
  ·refine⟨.ref a,hv,?_⟩
   cases u <;> cases hu
   ·exact⟨a,rfl,Xx,ha⟩
   ·exact⟨a,rfl,Xx,ha⟩
  ·obtain⟨v,h1,h2⟩:=R.rep j w q
   refine⟨v,h1,?_⟩
   by_cases hw:gf w=true
   ·obtain⟨c,o',rfl,f,e,h⟩:=h2.dQ hw
    have hca:c≠a:=fun z=>ne (R.GK i j u w a hS hm.1 q hw hv (by rw[h1,z]))
    have h':At F (upd H a ho) c o':=h.le (fun g g z=>z) fun o z=>by rw[bf hca];exact z
    cases w <;> cases hw <;> cases e
    ·exact⟨c,rfl,f,h'⟩
    ·exact⟨c,rfl,f,h'⟩
   ·cases w with
    | t d=>exact h2
    | v d=>exact h2
    | s d=>obtain⟨c,e,h⟩:=h2;exact⟨c,e,h.le VP⟩
    | f d=>exact h2
    | m o=>exact absurd rfl hw
    | b o=>exact absurd rfl hw
 ·obtain⟨w1',q1,n1⟩:=orig z1 m1
  obtain⟨w2',q2,n2⟩:=orig z2 m2
  exact R.GK j k w1' w2' c q1 n1 q2 n2
 ·rcases kb z with⟨rfl,rfl⟩ | ⟨_,q⟩
  ·cases u <;> cases hu
   exact R.own _ _ c hS hc
  ·exact R.own j o' c q hc
 ·rcases kb z with⟨rfl,rfl⟩ | ⟨_,q⟩
  ·cases u <;> cases hu
   exact R.bor _ _ c hS hc
  ·exact R.bor j o' c q hc
 ·obtain⟨k1,o',k2⟩:=R.par j c z
  refine⟨k1,?_⟩
  by_cases e:i=j
  ·subst e
   rw[hS] at k2
   cases k2
   cases hu
   exact⟨o,acI hl⟩
  ·exact⟨o',by rw[ab2 e];exact k2⟩
 ·refine⟨R.ext.le,fun b o z n=>?_,R.ext.jV,fun b o z=>?_,fun b o w z=>VP b o w (R.ext.kL b o w z)⟩
  ·have hb:b≠a:=fun e=>by
    subst e
    cases u with
    | m o'=>rw[R.own i o' b hS hv] at z;cases z
    | b o'=>exact n (R.bor i o' b hS hv)
    | t d=>cases hu
    | v d=>cases hu
    | s d=>cases hu
    | f d=>cases hu
   rw[bf hb]
   exact R.ext.keep b o z n
  ·by_cases hb:b=a
   ·exact⟨ho,by rw[hb,bq]⟩
   ·rw[bf hb];exact R.ext.there b o z
 ·refine⟨fun g g z=>z,fun b o z n=>?_,fun g g g g z=>z,fun b o z=>?_,VP⟩
  ·rw[bf (fun e=>n (by rw[e];exact mAt))];exact z
  ·by_cases hb:b=a
   ·exact⟨ho,by rw[hb,bq]⟩
   ·exact⟨o,by rw[bf hb];exact z⟩
 ·obtain⟨w0,q,n⟩:=orig z hw
  exact⟨j,w0,q,n,hc⟩
 ·by_cases e:i=j
  ·subst e;exact⟨u',acI hl⟩
  ·exact⟨w,by rw[ab2 e];exact z⟩
def qA {f:MO->Option (D×MO)}{d:D}(h:wL S i f=some (d,S')):∃u u' o o',S[i]? =some (some u)/\gf u=true/\Rv u=some o/\f o=some (d,o')/\VO u o'=some u'/\S'=S.set i (some u'):=by
 unfold wL at h
 split at h
 ·rename_i o e
  obtain⟨⟨d',o'⟩,h1,h⟩:=aF h
  cases h
  exact⟨_,_,o,o',e,rfl,rfl,h1,rfl,rfl⟩
 ·rename_i o e
  obtain⟨⟨d',o'⟩,h1,h⟩:=aF h
  cases h
  exact⟨_,_,o,o',e,rfl,rfl,h1,rfl,rfl⟩
 ·cases h
def VQ (r:V->List V->Hp->VK->Prop) (h:List D->MO->Option (D×MO)):Prop:=
 ∀F H a vs xs ds args res o',Sub F H->H a=some (.lst vs)->F a=none->bH F vs ds->bH F xs args->h args (.lst ds)=some (res,o')->
  ∀Q:VK,(∀rv ho,Rep F rv res->At F (upd H a ho) a o'->Q rv (upd H a ho))->r (.ref a) xs H Q
noncomputable def eL:MO->Bool
 | .lst _=>true
 | _=>false
noncomputable def VR (S:SS) (i:Nat):Bool:=match S[i]? with
 | some (some (.m (.lst _)))=>true
 | some (some (.b (.lst _)))=>true
 | _=>false
def Lw {F:Hp}(R:Rel K B S σ F H) (h:VR S i=true):∃u a vs ds,S[i]? =some (some u)/\gf u=true/\Rv u=some (.lst ds)/\σ[i]? =some (some (.ref a))/\F a=none/\H a=some (.lst vs)/\bH F vs ds:=by
 unfold VR at h
 split at h
 ·rename_i ds e
  obtain⟨v,k1,a,rfl,f,vs,k2,k3⟩:=R.rep i _ e
  exact⟨_,a,vs,ds,e,rfl,rfl,k1,f,k2,k3⟩
 ·rename_i ds e
  obtain⟨v,k1,a,rfl,f,vs,k2,k3⟩:=R.rep i _ e
  exact⟨_,a,vs,ds,e,rfl,rfl,k1,f,k2,k3⟩
 ·cases h
def eM (i:Nat) (h:List D->MO->Option (D×MO)) (gA:GA):GD:=fun S=>if VR S i then(gA S).bind fun p=>wL p.2 i (h p.1) else none
def C8 {F:Hp}(R:Rel K B S σ F H) (hS:S[i]? =some (some u)) (hm:gf u=true) (hi:Rv u=some (.lst ds)) (hv:σ[i]? =some (some (.ref a))):F a=none/\∃vs,H a=some (.lst vs)/\bH F vs ds:=by
 obtain⟨v,k1,k2⟩:=R.rep i u hS
 rw[hv] at k1
 cases k1
 obtain⟨b,o2,e1,f,e2,k⟩:=k2.dQ hm
 cases e1
 rw[hi] at e2
 cases e2
 exact⟨f,k⟩
section
variable {X:Cx}{a b c e:Expr}{es:List Expr}{pos p p2 apos cpos px:Pos}{x name:Str}{g ga gb gc:GD}{gA:GA}{id:String}
def fu {r:V->List V->Hp->VK->Prop}{h:List D->MO->Option (D×MO)}(slot:Slot "list" name id) (hty:typeOf (.builtin id)=pure (.type "method_descriptor")) (hm:Xd X id r) (hh:VQ r h) (hl:∀args o,eL o=false->h args o=none) (ha:JA X (e :: es) gA)
  (hN:X.N[i]? =some x:=by rfl) (hv:An X.env.scope x:=by first | exact Or.inl rfl | exact Or.inr (Or.inl rfl) | exact Or.inr (Or.inr rfl))
  (hbase:attributeBase (.Name x px) name X.env (eval (.Name x px) X.env)=eval (.Name x px) X.env:=by rfl)
  (hfew:((backTo cpos (starEach (e :: es) X.env)).all (fun x=>!x.1) && (backToKw cpos (keywordEach [] X.env)).all (fun x=>x.1.isSome)
   && decide ((e :: es).length+([]:List Keyword).length+(if([]:List Keyword).isEmpty then 0 else 1) < 30))=true:=by rfl)
  (hline:(apos.endLine == cpos.line)=true:=by rfl) (hs:starEach (e :: es) X.env=(false,eval e X.env) :: starEach es X.env:=by rfl) (hplain:(backTo cpos (starEach es X.env)).any (·.1)=false:=by rfl)
  (hd:(x == ("__debug__":Str))=false:=by decide) (hcd:(x == ("__classdict__":Str))=false:=by decide):
  JD X (.Call (.Attribute (.Name x px) name apos) (e :: es) [] cpos) (eM i h gA):=
 ⟨fun B=>(Xi afD slot hty hm (gw hN hv hd hcd) (ha.h B) hbase hfew hline hs hplain).imp fun σ H Q hh=>by
 obtain⟨S,F,d,S',R,hg,q⟩:=hh
 unfold eM at hg
 split at hg
 ·rename_i hL
  obtain⟨⟨args,S1⟩,h1,hg⟩:=ak hg
  obtain⟨u,u',o,o',hS,JY,hio,hf,O4,rfl⟩:=qA hg
  obtain⟨u0,a,YW,GP,_,_,_,hv0,_,hH,_⟩:=Lw R hL
  cases o with
  | dct kvs=>rw[hl _ _ rfl] at hf;cases hf
  | cI kvs=>rw[hl _ _ rfl] at hf;cases hf
  | ins C kvs=>rw[hl _ _ rfl] at hf;cases hf
  | lst ds=>
   refine⟨.ref a,hv0,.inl ⟨rfl,YW,oO.of hH⟩,S,F,args,S1,R,h1,fun xs F1 H1 R1 st1 r1=>?_⟩
   obtain⟨hf1,vs,hH1,rs⟩:=C8 R1 hS JY hio hv0
   refine hh F1 H1 a vs xs ds args d o' R1.sub hH1 hf1 rs r1 hf Q fun rv ho rr ha=>?_
   obtain⟨R2,st2⟩:=R1.write hS O4 hv0 ha
   exact q rv F1 _ R2 (st1.trans st2) rr
 ·cases hg⟩
def Lx {r:V->List V->Hp->VK->Prop}{h:List D->MO->Option (D×MO)}(slot:Slot "list" name id) (hty:typeOf (.builtin id)=pure (.type "method_descriptor")) (hm:Xd X id r) (hh:VQ r h) (hl:∀args o,eL o=false->h args o=none)
  (hN:X.N[i]? =some x:=by rfl) (hv:An X.env.scope x:=by first | exact Or.inl rfl | exact Or.inr (Or.inl rfl) | exact Or.inr (Or.inr rfl))
  (hbase:attributeBase (.Name x px) name X.env (eval (.Name x px) X.env)=eval (.Name x px) X.env:=by rfl) (hline:(apos.endLine == cpos.line)=true:=by rfl)
  (hd:(x == ("__debug__":Str))=false:=by decide) (hcd:(x == ("__classdict__":Str))=false:=by decide):
  JD X (.Call (.Attribute (.Name x px) name apos) [] [] cpos) (eM i h aq):=
 ⟨fun B=>(Tc afD slot hty hm (gw hN hv hd hcd) hbase hline).imp fun σ H Q hh=>by
 obtain⟨S,F,d,S',R,hg,q⟩:=hh
 unfold eM at hg
 split at hg
 ·rename_i hL
  obtain⟨⟨args,S1⟩,h1,hg⟩:=ak hg
  cases h1
  obtain⟨u,u',o,o',hS,JY,hio,hf,O4,rfl⟩:=qA hg
  obtain⟨u0,a,YW,GP,_,_,_,hv0,_,hH,_⟩:=Lw R hL
  cases o with
  | dct kvs=>rw[hl _ _ rfl] at hf;cases hf
  | cI kvs=>rw[hl _ _ rfl] at hf;cases hf
  | ins C kvs=>rw[hl _ _ rfl] at hf;cases hf
  | lst ds=>
   refine⟨.ref a,hv0,.inl ⟨rfl,YW,oO.of hH⟩,?_⟩
   obtain⟨hf1,vs,hH1,rs⟩:=C8 R hS JY hio hv0
   refine hh F H a vs [] ds [] d o' R.sub hH1 hf1 rs .nil hf Q fun rv ho rr ha=>?_
   obtain⟨R2,st2⟩:=R.write hS O4 hv0 ha
   exact q rv F _ R2 st2 rr
 ·cases hg⟩
noncomputable def hAppend:List D->MO->Option (D×MO)
 | [d],.lst ds=>if ds.length < 100000 then some (.cU,.lst (ds++[d])) else none
 | _,_=>none
def dz:VQ GH hAppend:=by
 intro F H a vs xs ds args res o' sb hH fa rs rx hw Q q
 unfold hAppend at hw
 split at hw
 ·rename_i d ds' e2
  cases e2
  split at hw
  ·rename_i hl
   cases hw
   cases rx with
   | cons r rr=>
    cases rr
    exact⟨a,vs,_,rfl,rfl,hH,by rw[rs.length];exact aaM hl (by decide),q .cU _ .cU ⟨_,bq,rs.append (.cons r .nil)⟩⟩
  ·cases hw
 ·cases hw
noncomputable def aew:List D->MO->Option (D×MO)
 | [],.lst ds=>(ds[ds.length - 1]?).map fun d=>(d,.lst ds.dropLast)
 | _,_=>none
def bH.dropLast {F:Hp}{vs:List V}{ds:List D}(r:bH F vs ds):bH F vs.dropLast ds.dropLast:=by
 rw[List.dropLast_eq_take,List.dropLast_eq_take,r.length]
 exact r.take _
noncomputable def pA:List D->MO->Option (D×MO)
 | [.int i],.lst ds=>if -(2 ^ 63)<=i/\i < 2 ^ 63 then(seqIndex? i ds.length).bind fun k=>(ds[k]?).map fun d=>(d,.lst (ds.eraseIdx k)) else none
 | _,_=>none
theorem bH.eraseIdx {F:Hp}:∀{vs:List V}{ds:List D}(k:Nat),bH F vs ds->bH F (vs.eraseIdx k) (ds.eraseIdx k)
 | _,_,_,.nil=>.nil
 | _,_,0,.cons _ rs=>rs
 | _,_,k+1,.cons r rs=>.cons r (bH.eraseIdx k rs)
def Ly:VQ K2 pA:=by
 intro F H a vs xs ds args res o' sb hH fa rs rx hw Q q
 unfold pA at hw
 split at hw
 ·rename_i i ds' e2
  cases e2
  split at hw
  ·rename_i hb
   obtain⟨k,hk,hw⟩:=ak hw
   obtain⟨d,hd,hw⟩:=aF hw
   cases hw
   cases rx with
   | cons r rr=>
    cases rr
    obtain⟨v,k1,k2⟩:=rs.get hd
    exact⟨a,vs,i,k,v,rfl,by rw[gM r],hH,hb.1,hb.2,by rw[rs.length];exact hk,k1,q v _ k2 ⟨_,bq,rs.eraseIdx k⟩⟩
  ·cases hw
 ·cases hw
noncomputable def i9:List D->MO->Option (D×MO)
 | [],.lst ds=>some (.cU,.lst ds.reverse)
 | _,_=>none
theorem bH.reverse {F:Hp}:∀{vs:List V}{ds:List D},bH F vs ds->bH F vs.reverse ds.reverse
 | _,_,.nil=>.nil
 | _,_,.cons r rs=>by rw[aet,aet];exact(bH.reverse rs).append (.cons r .nil)
def EV:VQ CW i9:=by
 intro F H a vs xs ds args res o' sb hH fa rs rx hw Q q
 unfold i9 at hw
 split at hw
 ·rename_i ds' e2
  cases e2
  cases hw
  cases rx
  exact⟨a,vs,rfl,rfl,hH,q .cU _ .cU ⟨_,bq,rs.reverse⟩⟩
 ·cases hw
end
def iA.step {F:Hp}{v:V}(r:iA K B S σ H0 F H v u) (st:Step S S' σ F H F' H'):iA K B S' σ H0 F' H' v u:=by
 cases u with
 | t d=>exact r.le st.ext.le
 | b o=>exact r
 | v i=>obtain⟨h1,u,h2⟩:=r;exact⟨h1,st.slots i u h2⟩
 | s i=>obtain⟨a,e,h⟩:=r;exact⟨a,e,h.le st.ext.kL⟩
 | f i=>exact r
 | m o=>
  obtain⟨a,e,h0,f,h,n,hB⟩:=r
  obtain⟨ho,hh⟩:=h.has
  exact⟨a,e,h0,st.ext.jV a ho hh n f,h.le st.ext.le fun o z=>st.ext.keep a o z n,fun m=>n (st.mu a m),hB⟩
abbrev GU:=SS->Option (List U×SS)
inductive tAU (K:AAD) (B:Base) (gu:GU) (σ:St) (H:Hp) (Q:List V->Hp->Prop):Prop
 | mk (S:SS) (F:Hp) (us:List U) (S':SS) (R:Rel K B S σ F H) (hg:gu S=some (us,S')) (q:∀vs F' H',Rel K B S' σ F' H'->Step S S' σ F H F' H'->Paired (fun v u=>iA K B S' σ H F' H' v u) vs us->Q vs H')
structure JU (X:Cx) (es:List Expr) (gu:GU):Prop where
 h:∀B,PA X es (tAU X.K B gu)
 len:∀S us S',gu S=some (us,S')->us.length=es.length
noncomputable def aT:GU:=fun S=>some ([],S)
noncomputable def aH (g:GD) (gu:GU):GU:=fun S=>(g S).bind fun p=>(gu p.2).map fun q=>(.t p.1 :: q.1,q.2)
noncomputable def cg (g:GE) (gu:GU):GU:=fun S=>(g S).bind fun p=>(gu p.2).map fun q=>(p.1 :: q.1,q.2)
section
variable {X:Cx}{e:Expr}{es:List Expr}{g:GD}{ge:GE}{gu:GU}
def aR:JU X [] aT:=⟨fun B=>Bu.imp fun σ H Q hh=>by
 obtain⟨S,F,us,S',R,hg,q⟩:=hh
 cases hg
 exact q [] F H R (Step.refl ..) .nil,fun S us S' h=>by cases h;rfl⟩
def aE (h:JD X e g) (hr:JU X es gu) (hs:starEach (e :: es) X.env=(false,eval e X.env) :: starEach es X.env:=by rfl):JU X (e :: es) (aH g gu):=
 ⟨fun B=>(qy (h.h B) (hr.h B) hs).imp fun σ H Q hh=>by
 obtain⟨S,F,us,S',R,hg,q⟩:=hh
 obtain⟨⟨d,S1⟩,h1,hg⟩:=ak hg
 obtain⟨⟨To,S2⟩,h2,hg⟩:=aF hg
 cases hg
 exact⟨S,F,d,S1,R,h1,fun v F1 H1 R1 st1 r1=>⟨S1,F1,To,S2,R1,h2,fun vs F2 H2 R2 st2 r2=>q _ F2 H2 R2 (st1.trans st2) (.cons (r1.le st2.ext.le) (Paired.HH r2 fun a a z=>z.weak st1.ext.there))⟩⟩,
 fun S us S' hg=>by
  obtain⟨⟨d,S1⟩,h1,hg⟩:=ak hg
  obtain⟨⟨To,S2⟩,h2,hg⟩:=aF hg
  cases hg
  show To.length+1=es.length+1
  rw[hr.len _ _ _ h2]⟩
def bF (h:JE X e ge) (hr:JU X es gu) (hs:starEach (e :: es) X.env=(false,eval e X.env) :: starEach es X.env:=by rfl):JU X (e :: es) (cg ge gu):=
 ⟨fun B=>(qy (h.h B) (hr.h B) hs).imp fun σ H Q hh=>by
 obtain⟨S,F,us,S',R,hg,q⟩:=hh
 obtain⟨⟨d,S1⟩,h1,hg⟩:=ak hg
 obtain⟨⟨To,S2⟩,h2,hg⟩:=aF hg
 cases hg
 exact⟨S,F,d,S1,R,h1,fun v F1 H1 R1 st1 r1=>⟨S1,F1,To,S2,R1,h2,fun vs F2 H2 R2 st2 r2=>q _ F2 H2 R2 (st1.trans st2) (.cons (r1.step st2) (Paired.HH r2 fun a a z=>z.weak st1.ext.there))⟩⟩,
 fun S us S' hg=>by
  obtain⟨⟨d,S1⟩,h1,hg⟩:=ak hg
  obtain⟨⟨To,S2⟩,h2,hg⟩:=aF hg
  cases hg
  show To.length+1=es.length+1
  rw[hr.len _ _ _ h2]⟩
end
noncomputable def resolve (S:SS):U->Option U
 | .t d=>some (.t d)
 | .v i=>match S[i]? with
  | some (some (.m o))=>some (.b o)
  | some (some (.b o))=>some (.b o)
  | _=>none
 | .m o=>some (.b o)
 | .b _=>none
 | .s ns=>some (.s ns)
 | .f a=>some (.f a)
def bz (S:SS):List U->Option (List U)
 | []=>some []
 | u :: us=>(resolve S u).bind fun w=>(bz S us).map fun ws=>w :: ws
noncomputable def slotsOf:List U->List Nat
 | []=>[]
 | .v i :: us=>i :: slotsOf us
 | _ :: us=>slotsOf us
noncomputable def bJ:List U->Nat
 | []=>0
 | .m _ :: us=>bJ us+1
 | _ :: us=>bJ us
noncomputable def wb:List U->List MO->SS->Option SS
 | [],[],S=>some S
 | .v i :: us,o :: outs,S=>match S[i]? with
  | some (some (.m _))=>wb us outs (S.set i (some (.m o)))
  | some (some (.b _))=>wb us outs (S.set i (some (.b o)))
  | _=>none
 | .m _ :: us,_ :: outs,S=>wb us outs S
 | .t _ :: us,outs,S=>wb us outs S
 | .s _ :: us,outs,S=>wb us outs S
 | .f _ :: us,outs,S=>wb us outs S
 | _,_,_=>none
abbrev FM:=List U->Option (U×List MO)
def aO (f:FM) (gu:GU):GE:=fun S=>(gu S).bind fun p=>
 if(slotsOf p.1).Nodup/\bJ p.1<=1 then(bz p.2 p.1).bind fun us=>(f us).bind fun r=>(wb p.1 r.2 p.2).map fun S2=>(r.1,S2) else none
def Lz (K:AAD) (F H:Hp) (v:V):U->Prop
 | .s ns=>∃a,v= .ref a/\OY K H a ns
 | .f a=>v= .ref a
 | .t d=>Rep F v d
 | .b o=>∃a,v= .ref a/\F a=none/\At F H a o
 | _=>False
noncomputable def addrs:List V->List U->List Addr
 | .ref a :: vs,.b _ :: us=>a :: addrs vs us
 | _ :: vs,_ :: us=>addrs vs us
 | _,_=>[]
structure Post (F H F' H':Hp) (as:List Addr) (outs:List MO):Prop where
 sub:Sub F' H'
 ext:Ext (fun a=>a∈as) F H F' H'
 out:Paired (fun a o=>F' a=none/\At F' H' a o) as outs
def spT (K:AAD) (n:Nat) (f:FM):Sp:=fun vs H Q a=>vs.length=n/\∃F us r outs,Sub F H/\Paired (Lz K F H) vs us/\(addrs vs us).Nodup/\f us=some (r,outs)/\∀v F' H',Post F H F' H' (addrs vs us) outs->Ii H F' H' v r->Q v H'
section
variable {K:AAD}{B:Base}{S S1 S2:SS}{σ:St}{H0 F H F' H':Hp}
def qC {w:U}(h:resolve S (.v i)=some w):∃u o,S[i]? =some (some u)/\gf u=true/\Rv u=some o/\w= .b o:=by
 unfold resolve at h
 dsimp only at h
 split at h
 ·rename_i o e;cases h;exact⟨_,o,e,rfl,rfl,rfl⟩
 ·rename_i o e;cases h;exact⟨_,o,e,rfl,rfl,rfl⟩
 ·cases h
theorem qD (R:Rel K B S σ F H):∀{vs:List V}{us ws:List U},Paired (fun v u=>iA K B S σ H0 F H v u) vs us->bz S us=some ws->Paired (Lz K F H) vs ws
 | _,_,_,.nil,h=>by cases h;exact .nil
 | _,_,_,@Paired.cons _ _ _ v u vs us r rs,h=>by
  obtain⟨w,h1,h⟩:=ak h
  obtain⟨ws,h2,h⟩:=aF h
  subst h
  refine .cons ?_ (qD R rs h2)
  cases u with
  | t d=>cases h1;exact r
  | s d=>cases h1;exact r
  | f d=>cases h1;exact r
  | b o=>cases h1
  | m o=>cases h1;obtain⟨a,e,_,f,k,_⟩:=r;exact⟨a,e,f,k⟩
  | v i=>
   obtain⟨u,o,hu,hm,hi,rfl⟩:=qC h1
   obtain⟨hv,_⟩:=r
   obtain⟨v',k1,k2⟩:=R.rep i u hu
   rw[hv] at k1
   cases k1
   obtain⟨a,o2,e,f,e2,k⟩:=k2.dQ hm
   rw[hi] at e2
   cases e2
   exact⟨a,e,f,k⟩
def skT {v:V}{d:D}:addrs (v :: vs) (.t d :: us)=addrs vs us:=by cases v <;> rfl
def skS {v:V}{d:List Int}:addrs (v :: vs) (.s d :: us)=addrs vs us:=by cases v <;> rfl
def skF {v:V}{d:Addr}:addrs (v :: vs) (.f d :: us)=addrs vs us:=by cases v <;> rfl
theorem tw (R:Rel K B S σ F H):∀{vs:List V}{us ws:List U},Paired (fun v u=>iA K B S σ H0 F H v u) vs us->bz S us=some ws->∀a∈addrs vs ws,
  (∃i u,i∈slotsOf us/\S[i]? =some (some u)/\gf u=true/\σ[i]? =some (some (.ref a)))\/(0 < bJ us/\H0 a=none/\B.H a=none/\¬dQ S σ a)
 | _,_,_,.nil,h,a,ha=>by cases h;cases ha
 | _,_,_,@Paired.cons _ _ _ v u vs us r rs,h,a,ha=>by
  obtain⟨w,h1,h⟩:=ak h
  obtain⟨ws,h2,h⟩:=aF h
  subst h
  have ih:=tw R rs h2
  cases u with
  | t d=>
   cases h1
   exact ih a (skT▸ha)
  | s d=>
   cases h1
   exact ih a (skS▸ha)
  | f d=>
   cases h1
   exact ih a (skF▸ha)
  | b o=>cases h1
  | m o=>
   cases h1
   obtain⟨c,rfl,k0,f,k,n,hB⟩:=r
   rcases aaA.mp (show a∈c :: addrs vs ws from ha) with rfl | ha
   ·exact .inr ⟨Nat.succ_pos _,k0,hB,n⟩
   ·rcases ih a ha with z | ⟨_,z⟩
    ·exact .inl z
    ·exact .inr ⟨Nat.succ_pos _,z⟩
  | v i=>
   obtain⟨u,o,hu,hm,hi,rfl⟩:=qC h1
   obtain⟨hv,_⟩:=r
   obtain⟨v',k1,k2⟩:=R.rep i u hu
   rw[hv] at k1
   cases k1
   obtain⟨c,o2,rfl,f,e2,k⟩:=k2.dQ hm
   rcases aaA.mp (show a∈c :: addrs vs ws from ha) with rfl | ha
   ·exact .inl ⟨i,u,aaR,hu,hm,hv⟩
   ·rcases ih a ha with⟨j,w,z,z2⟩ | z
    ·exact .inl ⟨j,w,aaP _ z,z2⟩
    ·exact .inr z
theorem dY (R:Rel K B S σ F H):∀{vs:List V}{us ws:List U},Paired (fun v u=>iA K B S σ H0 F H v u) vs us->bz S us=some ws->(slotsOf us).Nodup->bJ us<=1->(addrs vs ws).Nodup
 | _,_,_,.nil,h,_,_=>by cases h;exact adK
 | _,_,_,@Paired.cons _ _ _ v u vs us r rs,h,nd,fr=>by
  obtain⟨w,h1,h⟩:=ak h
  obtain⟨ws,h2,h⟩:=aF h
  subst h
  cases u with
  | t d=>
   cases h1
   rw[skT]
   exact dY R rs h2 nd fr
  | s d=>
   cases h1
   rw[skS]
   exact dY R rs h2 nd fr
  | f d=>
   cases h1
   rw[skF]
   exact dY R rs h2 nd fr
  | b o=>cases h1
  | m o=>
   cases h1
   have fr0:bJ us=0:=by have:bJ us+1<=1:=fr;lia
   obtain⟨c,rfl,k0,f,k,n,hB⟩:=r
   refine ac0.mpr ⟨fun hc=>?_,dY R rs h2 nd (by lia)⟩
   rcases tw R rs h2 c hc with⟨j,w,_,z1,z2,z3⟩ | ⟨z,_⟩
   ·exact n ⟨j,w,z1,z2,z3⟩
   ·lia
  | v i=>
   obtain⟨u,o,hu,hm,hi,rfl⟩:=qC h1
   obtain⟨hv,_⟩:=r
   obtain⟨v',k1,k2⟩:=R.rep i u hu
   rw[hv] at k1
   cases k1
   obtain⟨c,o2,rfl,f,e2,k⟩:=k2.dQ hm
   obtain⟨nd1,VS⟩:=ac0.mp (show(i :: slotsOf us).Nodup from nd)
   refine ac0.mpr ⟨fun hc=>?_,dY R rs h2 VS fr⟩
   rcases tw R rs h2 c hc with⟨j,w,z0,z1,z2,z3⟩ | ⟨_,_,_,z⟩
   ·have:=R.GK i j u w c hu hm z1 z2 hv z3
    subst this
    exact nd1 z0
   ·exact z ⟨i,u,hu,hm,hv⟩
theorem qE (R:Rel K B S σ F H) (P:Addr->MO->Prop):∀{vs:List V}{us ws:List U}{outs:List MO}{S1 S2:SS},Paired (fun v u=>iA K B S σ H0 F H v u) vs us->bz S us=some ws->wb us outs S1=some S2->(slotsOf us).Nodup->Paired P (addrs vs ws) outs->
  S2.length=S1.length/\(∀j,j∉slotsOf us->S2[j]? =S1[j]?)/\∀j∈slotsOf us,∃u u' o a,S1[j]? =some (some u)/\VO u o=some u'/\S2[j]? =some (some u')/\σ[j]? =some (some (.ref a))/\P a o
 | _,_,_,_,_,_,.nil,h,hw,_,hp=>by
  cases h
  cases hp
  cases hw
  exact⟨rfl,fun _ _=>rfl,fun j hj=>by cases hj⟩
 | _,_,_,outs,S1,S2,@Paired.cons _ _ _ v u vs us r rs,h,hw,nd,hp=>by
  obtain⟨w,h1,h⟩:=ak h
  obtain⟨ws,h2,h⟩:=aF h
  subst h
  cases u with
  | t d=>
   cases h1
   rw[skT] at hp
   have ih:=qE R P rs h2 (show wb us outs S1=some S2 by cases outs <;> exact hw) nd hp
   exact ih
  | s d=>
   cases h1
   rw[skS] at hp
   have ih:=qE R P rs h2 (show wb us outs S1=some S2 by cases outs <;> exact hw) nd hp
   exact ih
  | f d=>
   cases h1
   rw[skF] at hp
   have ih:=qE R P rs h2 (show wb us outs S1=some S2 by cases outs <;> exact hw) nd hp
   exact ih
  | b o=>cases h1
  | m o=>
   cases h1
   obtain⟨c,rfl,k0,f,k,n,hB⟩:=r
   cases hp with
   | cons p1 p2=>
    have ih:=qE R P rs h2 (show wb us _ S1=some S2 from hw) nd p2
    exact ih
  | v i=>
   obtain⟨u0,o0,hu,hm,hi,rfl⟩:=qC h1
   obtain⟨hv,_⟩:=r
   obtain⟨v',k1,k2⟩:=R.rep i u0 hu
   rw[hv] at k1
   cases k1
   obtain⟨c,o2,rfl,f,e2,k⟩:=k2.dQ hm
   obtain⟨nd1,VS⟩:=ac0.mp (show(i :: slotsOf us).Nodup from nd)
   cases hp with
   | @cons _ o _ outs p1 p2=>
    have go:∀u u',S1[i]? =some (some u)->VO u o=some u'->wb us outs (S1.set i (some u'))=some S2->S2.length=S1.length/\(∀j,j∉i :: slotsOf us->S2[j]? =S1[j]?)/\∀j∈i :: slotsOf us,∃u u' o a,S1[j]? =some (some u)/\VO u o=some u'/\S2[j]? =some (some u')/\σ[j]? =some (some (.ref a))/\P a o:=fun u u' e1 e2 hw=>by
     obtain⟨l,out,Il⟩:=qE R P rs h2 hw VS p2
     refine⟨by rw[l,adC],fun j hj=>?_,fun j hj=>?_⟩
     ·rw[out j fun z=>hj (aaP _ z),ab2 fun z=>hj (by rw[z];exact aaR)]
     ·by_cases e:i=j
      ·subst e
       exact⟨u,u',o,c,e1,e2,by rw[out i nd1];exact acI (aaG.mp e1).1,hv,p1⟩
      ·rcases aaA.mp hj with z | z
       ·exact absurd z.symm e
       ·obtain⟨w,w',o',a',q1,q2,q3,q4,q5⟩:=Il j z
        rw[ab2 e] at q1
        exact⟨w,w',o',a',q1,q2,q3,q4,q5⟩
    unfold wb at hw
    split at hw
    ·rename_i o' e;exact go _ _ e rfl hw
    ·rename_i o' e;exact go _ _ e rfl hw
    ·cases hw
end
def jD {S2:SS}{F:Hp}{outs:List MO}(R:Rel K B S σ F H) (st:Step S0 S σ F0 H0 F H) (rr:Paired (fun v u=>iA K B S σ H0 F H v u) vs us) (hr:bz S us=some ws) (hw:wb us outs S=some S2) (nd:(slotsOf us).Nodup) (p:Post F H F' H' (addrs vs ws) outs):
  Rel K B S2 σ F' H'/\Step S0 S2 σ F0 H0 F' H'/\∀a,dQ S2 σ a->dQ S σ a:=by
 obtain⟨hl,out,Il⟩:=qE R (fun a o=>F' a=none/\At F' H' a o) rr hr hw nd p.out
 have reM:∀{u:U}{o:MO}{u':U},VO u o=some u'->gf u=true/\gf u'=true/\Rv u'=some o:=fun {u o u'} h=>by cases u <;> cases h <;> exact⟨rfl,rfl,rfl⟩
 have orig:∀{j w},S2[j]? =some (some w)->gf w=true->∃w0,S[j]? =some (some w0)/\gf w0=true:=fun {j w} z hm=>by
  by_cases hj:j∈slotsOf us
  ·obtain⟨u,u',o,a,q1,q2,q3,q4,q5⟩:=Il j hj
   exact⟨u,q1,(reM q2).1⟩
  ·rw[out j hj] at z;exact⟨w,z,hm⟩
 have mu:∀a,dQ S2 σ a->dQ S σ a:=fun a ⟨j,w,z,hm,hv⟩=>let⟨w0,q,n⟩:=orig z hm;⟨j,w0,q,n,hv⟩
 have GQ:=tw R rr hr
 refine⟨⟨p.sub,by rw[hl];exact R.len,fun j w z=>?_,fun j k w1 w2 c z1 m1 z2 m2=>?_,fun j o a z hv=>?_,fun j o a z hv=>?_,fun j a z=>?_,?_⟩,⟨⟨?_,?_,?_,?_,fun b o u z=>p.ext.kL b o u (st.ext.kL b o u z)⟩,fun a m=>st.mu a (mu a m),fun j u z=>?_⟩,mu⟩
 ·by_cases hj:j∈slotsOf us
  ·obtain⟨u,u',o,a,q1,q2,q3,q4,q5,q6⟩:=Il j hj
   rw[q3] at z
   cases z
   refine⟨.ref a,q4,?_⟩
   cases u <;> cases q2
   ·exact⟨a,rfl,q5,q6⟩
   ·exact⟨a,rfl,q5,q6⟩
  ·rw[out j hj] at z
   obtain⟨v,h1,h2⟩:=R.rep j w z
   refine⟨v,h1,h2.le p.ext.le p.ext.kL fun a hm ha=>?_⟩
   have hna:a∉addrs vs ws:=fun hc=>by
    rcases GQ a hc with⟨i,u,q0,q1,q2,q3⟩ | ⟨_,_,_,q⟩
    ·have:=R.GK i j u w a q1 q2 z hm q3 (by rw[h1,ha])
     subst this
     exact hj q0
    ·exact q ⟨j,w,z,hm,by rw[h1,ha]⟩
   obtain⟨c,o,e,f,_,k⟩:=h2.dQ hm
   rw[ha] at e
   cases e
   obtain⟨ho,hh⟩:=k.has
   exact⟨fun o q=>p.ext.keep a o q hna,p.ext.jV a ho hh hna f⟩
 ·obtain⟨w1',q1,n1⟩:=orig z1 m1
  obtain⟨w2',q2,n2⟩:=orig z2 m2
  exact R.GK j k w1' w2' c q1 n1 q2 n2
 ·by_cases hj:j∈slotsOf us
  ·obtain⟨u,u',o',a',q1,q2,q3,q4,q5⟩:=Il j hj
   rw[q3] at z
   cases z
   cases u <;> cases q2
   exact R.own j _ a q1 hv
  ·rw[out j hj] at z;exact R.own j o a z hv
 ·by_cases hj:j∈slotsOf us
  ·obtain⟨u,u',o',a',q1,q2,q3,q4,q5⟩:=Il j hj
   rw[q3] at z
   cases z
   cases u <;> cases q2
   exact R.bor j _ a q1 hv
  ·rw[out j hj] at z;exact R.bor j o a z hv
 ·obtain⟨k1,o,k2⟩:=R.par j a z
  refine⟨k1,?_⟩
  by_cases hj:j∈slotsOf us
  ·obtain⟨u,u',o',a',q1,q2,q3,q4,q5⟩:=Il j hj
   rw[k2] at q1
   cases q1
   cases q2
   exact⟨_,q3⟩
  ·exact⟨o,by rw[out j hj];exact k2⟩
 ·refine R.ext.trans p.ext fun b hb=>?_
  rcases GQ b hb with⟨i,u,q0,q1,q2,q3⟩ | ⟨_,_,q,_⟩
  ·cases u with
   | t d=>cases q2
   | v d=>cases q2
   | s d=>cases q2
   | f d=>cases q2
   | m o=>exact .inr (R.own i o b q1 q3)
   | b o=>exact .inl (R.bor i o b q1 q3)
  ·exact .inr q
 ·exact fun b o h=>p.ext.le b o (st.ext.le b o h)
 ·intro b o h n
  refine p.ext.keep b o (st.ext.keep b o h n) fun hb=>?_
  rcases GQ b hb with⟨i,u,q0,q1,q2,q3⟩ | ⟨_,q,_⟩
  ·exact n (st.mu b ⟨i,u,q1,q2,q3⟩)
  ·rw[h] at q;cases q
 ·intro b o h n f
  refine p.ext.jV b o (st.ext.keep b o h n) (fun hb=>?_) (st.ext.jV b o h n f)
  rcases GQ b hb with⟨i,u,q0,q1,q2,q3⟩ | ⟨_,q,_⟩
  ·exact n (st.mu b ⟨i,u,q1,q2,q3⟩)
  ·rw[h] at q;cases q
 ·intro b o h
  obtain⟨o',h'⟩:=st.ext.there b o h
  exact p.ext.there b o' h'
 ·obtain⟨u',h'⟩:=st.slots j u z
  by_cases hj:j∈slotsOf us
  ·obtain⟨_,u2,_,_,_,_,q3,_⟩:=Il j hj
   exact⟨u2,q3⟩
  ·exact⟨u',by rw[out j hj];exact h'⟩
section
variable {X:Cx}{e:Expr}{es:List Expr}{gu:GU}{x:Str}{p pos:Pos}{f:FM}{fa:Addr}{fd:FuncData}{ps:List Str}{k n:Nat}
def O5 (F:jW X.prog X.w X.K X.mg X.base BE k fa fd ps (spT X.K n f)) (hr:fQ k X.A) (hg:Gl X x) (hm:X.mg x=some (.ref fa)) (hk:PySem.W.keepIn X.K (.ref fa)=true) (hb:Binds X.K fd ps []) (ha:JU X (e :: es) gu) (hn:(e :: es).length=n:=by rfl)
  (hdb:(x == ("__debug__":Str))=false:=by decide) (he:starEach (e :: es) X.env=(false,eval e X.env) :: starEach es X.env:=by rfl) (hpl:(backTo pos (starEach es X.env)).any (·.1)=false:=by rfl):
  JE X (.Call (.Name x p) (e :: es) [] pos) (aO f gu):=⟨fun B=>(OA F hr hg hm hk hb .nil CZ (ha.h B) hdb he hpl).imp fun σ H Q hh=>by
 obtain⟨S,F0,u,S',R,hg,q⟩:=hh
 obtain⟨⟨us,S1⟩,h1,hg⟩:=ak hg
 dsimp only at hg
 split at hg
 ·rename_i hc
  obtain⟨ws,h2,hg⟩:=ak hg
  obtain⟨⟨r,outs⟩,h3,hg⟩:=ak hg
  obtain⟨S2,h4,hg⟩:=aF hg
  cases hg
  refine⟨S,F0,us,S1,R,h1,fun vs F1 H1 R1 st1 rr=>?_⟩
  show spT X.K n f (vs++[]) H1 Q E0
  rw[aa8]
  have hlen:vs.length=n:=by rw[rr.length,ha.len _ _ _ h1];exact hn
  refine⟨hlen,F1,ws,r,outs,R1.sub,qD R1 rr h2,dY R1 rr h2 hc.1 hc.2,h3,fun v F2 H2 po rn=>?_⟩
  obtain⟨R2,st2,mu⟩:=jD R1 st1 rr h2 h4 hc.1 po
  refine q v F2 H2 R2 st2 ?_
  cases r with
  | t d=>exact rn
  | b o=>cases rn
  | v i=>cases rn
  | s i=>cases rn
  | f i=>cases rn
  | m o=>
   obtain⟨a,e,h0,f,h⟩:=rn
   refine⟨a,e,none_of st1.ext.there h0,f,h,fun m=>?_,none_of R1.ext.there h0⟩
   obtain⟨o',ho⟩:=R1.has (mu a m)
   rw[h0] at ho
   cases ho
 ·cases hg⟩
end
noncomputable def aL:List U->SS->Option (List MO)
 | [],_=>some []
 | .b _ :: us,some (.b o) :: S=>(aL us S).map fun os=>o :: os
 | .b _ :: _,_=>none
 | _ :: us,_ :: S=>aL us S
 | _ :: _,[]=>none
def aK (n:Nat) (g:GS):FM:=fun us=>(g (us.map some++List.replicate (n - us.length) none)).bind fun o=>match o with
 | .rt (.t d) S=>(aL us S).map fun os=>(.t d,os)
 | .rt (.m o) S=>(aL us S).map fun os=>(.m o,os)
 | .nx S=>(aL us S).map fun os=>(.t .cU,os)
 | _=>none
noncomputable def lent:List V->List U->List (Option Addr)
 | .ref a :: vs,.b _ :: us=>some a :: lent vs us
 | _ :: vs,_ :: us=>none :: lent vs us
 | _,_=>[]
theorem pB:∀(vs:List V) (us:List U) (a:Addr),some a∈lent vs us↔a∈addrs vs us
 | [],us,a=>by cases us <;> simp[lent,addrs]
 | v :: vs,[],a=>by cases v <;> simp[lent,addrs]
 | v :: vs,u :: us,a=>by
  have ih:=pB vs us a
  cases v <;> cases u <;> simp[lent,addrs,ih]
theorem C9:∀{vs:List V}{us:List U}{i:Nat}{a:Addr},(lent vs us)[i]? =some (some a)->vs[i]? =some (.ref a)/\∃o,us[i]? =some (.b o)
 | [],us,i,a,h=>by cases us <;> simp[lent] at h
 | v :: vs,[],i,a,h=>by cases v <;> simp[lent] at h
 | v :: vs,u :: us,0,a,h=>by
  cases v <;> cases u <;> simp[lent] at h
  subst h
  exact⟨rfl,_,rfl⟩
 | v :: vs,u :: us,i+1,a,h=>by
  have h':(lent vs us)[i]? =some (some a):=by cases v <;> cases u <;> simpa[lent] using h
  simpa using C9 h'
theorem BK {K:AAD}:∀{F H:Hp}{vs:List V}{us:List U}{i:Nat}{o:MO},Paired (Lz K F H) vs us->us[i]? =some (.b o)->∃a,vs[i]? =some (.ref a)/\(lent vs us)[i]? =some (some a)/\F a=none/\At F H a o
 | _,_,_,_,_,_,.nil,h=>by simp at h
 | _,_,_,_,0,o,@Paired.cons _ _ _ v u vs us r rs,h=>by
  simp at h
  subst h
  obtain⟨a,rfl,f,k⟩:=r
  exact⟨a,rfl,rfl,f,k⟩
 | _,_,_,_,i+1,o,@Paired.cons _ _ _ v u vs us r rs,h=>by
  obtain⟨a,h1,h2,h3⟩:=BK (i:=i) rs (by simpa using h)
  refine⟨a,by simpa using h1,?_,h3⟩
  cases v <;> cases u <;> simpa[lent] using h2
theorem AG:∀{vs:List V}{us:List U}{i j:Nat}{a:Addr},(addrs vs us).Nodup->(lent vs us)[i]? =some (some a)->(lent vs us)[j]? =some (some a)->i=j
 | [],us,i,j,a,_,h,_=>by cases us <;> simp[lent] at h
 | v :: vs,[],i,j,a,_,h,_=>by cases v <;> simp[lent] at h
 | v :: vs,u :: us,i,j,a,nd,h1,h2=>by
  have ih:∀{i j},(addrs vs us).Nodup->(lent vs us)[i]? =some (some a)->(lent vs us)[j]? =some (some a)->i=j:=fun {i j}=>AG (i:=i) (j:=j)
  by_cases hvu:∃c o,v= .ref c/\u= .b o
  ·obtain⟨c,o,rfl,rfl⟩:=hvu
   obtain⟨n1,n2⟩:=ac0.mp (show(c :: addrs vs us).Nodup from nd)
   cases i with
   | zero=>
    cases j with
    | zero=>rfl
    | succ j=>
     have e1:c=a:=by simpa[lent] using h1
     have e2:(lent vs us)[j]? =some (some a):=by simpa[lent] using h2
     subst e1
     exact absurd ((pB vs us c).mp (ab3 e2)) n1
   | succ i=>
    have e1:(lent vs us)[i]? =some (some a):=by simpa[lent] using h1
    cases j with
    | zero=>
     have e2:c=a:=by simpa[lent] using h2
     subst e2
     exact absurd ((pB vs us c).mp (ab3 e1)) n1
    | succ j=>exact congrArg Nat.succ (ih n2 e1 (by simpa[lent] using h2))
  ·have e1:lent (v :: vs) (u :: us)=none :: lent vs us:=by cases v <;> cases u <;> first | rfl | exact absurd ⟨_,_,rfl,rfl⟩ hvu
   have e2:addrs (v :: vs) (u :: us)=addrs vs us:=by cases v <;> cases u <;> first | rfl | exact absurd ⟨_,_,rfl,rfl⟩ hvu
   rw[e1] at h1 h2
   rw[e2] at nd
   cases i with
   | zero=>simp at h1
   | succ i=>
    cases j with
    | zero=>simp at h2
    | succ j=>exact congrArg Nat.succ (ih nd (by simpa using h1) (by simpa using h2))
theorem rS {α β:Type}{P:α->β->Prop}:∀{l:List α}{r:List β}{i:Nat}{y:β},Paired P l r->r[i]? =some y->∃x,l[i]? =some x/\P x y
 | _,_,_,_,.nil,h=>by simp at h
 | _,_,0,_,.cons p _,h=>by simp at h;subst h;exact⟨_,rfl,p⟩
 | _,_,i+1,_,.cons _ ps,h=>by
  obtain⟨x,h1,h2⟩:=rS (i:=i) ps (by simpa using h)
  exact⟨x,by simpa using h1,h2⟩
def uS {F:Hp}(sb:Sub F H) (ar:Paired (Lz K F H) vs us) (nd:(addrs vs us).Nodup) (N:List Str) (hN:N.length=n):
  Rel K ⟨lent vs us,F,H⟩ (us.map some++List.replicate (n - us.length) none) (start N vs) F H:=by
 have hl:vs.length=us.length:=ar.length
 have gS:∀{i:Nat}{u:U},(us.map some++List.replicate (n - us.length) none)[i]? =some (some u)->us[i]? =some u:=fun {i u} h=>by
  rw[List.getElem?_append] at h
  split at h
  ·rw[aaO] at h
   obtain⟨w,h1,h2⟩:=aF h
   cases h2
   exact h1
  ·rw[aem] at h
   split at h <;> cases h
 have gσ:∀{i:Nat}{v:V},vs[i]? =some v->(start N vs)[i]? =some (some v):=fun {i v} h=>by
  unfold start
  have hi:=(aaG.mp h).1
  rw[ada (by simpa using hi),aaO,h]
  rfl
 have vb:∀{i:Nat}{v w:V},vs[i]? =some v->(start N vs)[i]? =some (some w)->v=w:=fun {i v w} h k=>by
  rw[gσ h] at k
  cases k
  rfl
 have O6:∀{i:Nat}{u:U},us[i]? =some u->gf u=true->∃o a,u= .b o/\vs[i]? =some (.ref a)/\(lent vs us)[i]? =some (some a)/\F a=none/\At F H a o:=fun {i u} h hm=>by
  obtain⟨v,h1,h2⟩:=rS ar h
  cases u with
  | t d=>cases hm
  | v d=>cases hm
  | s d=>cases hm
  | f d=>cases hm
  | m o=>cases h2
  | b o=>obtain⟨a,k1,k2,k3,k4⟩:=BK ar h;exact⟨o,a,rfl,k1,k2,k3,k4⟩
 refine⟨sb,?_,fun i u h=>?_,fun i j u w a h1 m1 h2 m2 v1 v2=>?_,fun i o a h hv=>?_,fun i o a h hv=>?_,fun i a h=>?_,Ext.refl ..⟩
 ·unfold start;simp[hl,hN]
 ·obtain⟨v,h1,h2⟩:=rS ar (gS h)
  refine⟨v,gσ h1,?_⟩
  cases u with
  | t d=>exact h2
  | s d=>exact h2
  | f d=>exact h2
  | v d=>cases h2
  | m o=>cases h2
  | b o=>exact h2
 ·obtain⟨_,a1,_,k1,k2,_⟩:=O6 (gS h1) m1
  obtain⟨_,a2,_,l1,l2,_⟩:=O6 (gS h2) m2
  have e1:=vb k1 v1
  have e2:=vb l1 v2
  cases e1
  cases e2
  exact AG nd k2 l2
 ·obtain⟨_,_,e,_⟩:=O6 (gS h) rfl
  cases e
 ·obtain⟨_,a1,_,k1,k2,_⟩:=O6 (gS h) rfl
  have e1:=vb k1 hv
  cases e1
  exact ab3 k2
 ·obtain⟨k1,o,k2⟩:=C9 h
  refine⟨gσ k1,o,?_⟩
  have hi:=(aaG.mp k2).1
  rw[ada (by simpa using hi),aaO,k2]
  rfl
def Xy {v:V}(hu:¬∃o,u= .b o):addrs (v :: vs) (u :: us)=addrs vs us/\lent (v :: vs) (u :: us)=none :: lent vs us/\(∀s S os,aL (u :: us) (s :: S)=some os->aL us S=some os)/\∀os,¬aL (u :: us) []=some os:=by
 cases v <;> cases u <;> first | exact⟨rfl,rfl,fun a a a h=>h,fun a h=>by cases h⟩ | exact absurd ⟨_,rfl⟩ hu
theorem BL {F' H':Hp}:∀{vs:List V}{us:List U}{S:SS}{os:List MO},aL us S=some os->vs.length=us.length->(∀(i:Nat) (o:MO) (a:Addr),(lent vs us)[i]? =some (some a)->S[i]? =some (some (.b o))->F' a=none/\At F' H' a o)->(∀(i:Nat) (o:MO),us[i]? =some (.b o)->∃a,vs[i]? =some (.ref a))->
  Paired (fun a o=>F' a=none/\At F' H' a o) (addrs vs us) os
 | [],[],S,os,h,_,_,_=>by cases S <;> (simp[aL] at h;subst h;exact .nil)
 | [],_ :: _,_,_,_,l,_,_=>by cases l
 | _ :: _,[],_,_,_,l,_,_=>by cases l
 | v :: vs,u :: us,S,os,h,l,k,kb=>by
  have l':vs.length=us.length:=by simpa using l
  have kb':∀(i:Nat) (o:MO),us[i]? =some (.b o)->∃a,vs[i]? =some (.ref a):=fun i o z=>kb (i+1) o z
  by_cases hu:∃o,u= .b o
  ·obtain⟨o,rfl⟩:=hu
   obtain⟨a,ha⟩:=kb 0 o rfl
   have ha:v= .ref a:=by simpa using ha
   subst ha
   cases S with
   | nil=>cases h
   | cons s S=>
    cases s with
    | none=>cases h
    | some s=>
     cases s with
     | b o'=>
      obtain⟨os',h1,h2⟩:=aF (show(aL us S).map (fun os=>o' :: os)=some os from h)
      subst h2
      exact .cons (k 0 o' a rfl rfl) (BL h1 l' (fun i o a z1 z2=>k (i+1) o a z1 z2) kb')
     | t d=>cases h
     | m d=>cases h
     | v d=>cases h
     | s d=>cases h
     | f d=>cases h
  ·obtain⟨e2,e1,e3⟩:=Xy (v:=v) (vs:=vs) (us:=us) hu
   rw[e2]
   cases S with
   | nil=>exact absurd h (e3.2 os)
   | cons s S=>exact BL (e3.1 s S os h) l' (fun i o a z1 z2=>k (i+1) o a (by rw[e1];exact z1) z2) kb'
def post_of (ar:Paired (Lz K F0 H) vs us) (S':SS) (σ':St) (F' H':Hp) (os:List MO) (R':Rel K ⟨lent vs us,F0,H⟩ S' σ' F' H') (ho':aL us S'=some os):Post F0 H F' H' (addrs vs us) os:=by
 refine⟨R'.sub,⟨R'.ext.le,fun b o z n=>R'.ext.keep b o z fun m=>n ((pB vs us b).mp m),fun b o z n=>R'.ext.jV b o z fun m=>n ((pB vs us b).mp m),R'.ext.there,R'.ext.kL⟩,BL ho' ar.length (fun i o a z1 z2=>?_) fun i o z=>?_⟩
 ·obtain⟨k1,o2,k2⟩:=R'.par i a z1
  obtain⟨v,j1,j2⟩:=R'.rep i _ z2
  rw[k1] at j1
  cases j1
  obtain⟨c,e,f,k⟩:=j2
  cases e
  exact⟨f,k⟩
 ·obtain⟨a,h1,_⟩:=BK ar z
  exact⟨a,h1⟩
section
variable {P:Program}{w:World}{K:AAD}{mg:AAF}{base:Heap}
def okT {qual:Str}{st:Stmt}{f:Addr}{fd:FuncData}{N ps:List Str}{k:Nat}{fm:FM}{g:GS}(F:OR K x qual st f fd) (Sc:bA N ps (aP st))
  (hb:∀(cdv:Value) (A:Around) (outer:List Env) (s:Shared) (H:Hp) (E:XK),fQ k (A.deeper (envOfC qual (aP st) s.heap.objs.size f cdv))->JB (Bw BE P w K mg base N qual (aP st) f cdv A outer s H E).Sk (iO st) g)
  (hf:∀us r,fm us=some r->aK N.length g us=some r):jW P w K mg base BE (k+1) f fd ps (spT K ps.length fm):=by
 refine F.ok Sc (fun vs H Q E h=>h.1) fun cdv A outer s H vs Q E hr h=>?_
 obtain⟨hlen,F0,us,r,outs,sb,ar,nd,hfm,q⟩:=h
 have hrun:=hf us (r,outs) hfm
 have J:=hb cdv A outer s H E hr
 refine⟨_,J.h ⟨lent vs us,F0,H⟩,?_⟩
 have R0:=uS sb ar nd N rfl
 obtain⟨o,ho,hrun⟩:=ak hrun
 refine⟨_,F0,o,R0,ho,?_⟩
 have post:=post_of ar
 cases o with
 | bk S'=>cases hrun
 | ct S'=>cases hrun
 | nx S'=>
  obtain⟨os,h1,h2⟩:=aF (show(aL us S').map _=some (r,outs) from hrun)
  cases h2
  exact fun σ' F' H' R' le=>q .cU F' H' (post S' σ' F' H' outs R' h1) .cU
 | rt u S'=>
  cases u with
  | b o=>cases hrun
  | v i=>cases hrun
  | s i=>cases hrun
  | f i=>cases hrun
  | t d=>
   obtain⟨os,h1,h2⟩:=aF (show(aL us S').map _=some (r,outs) from hrun)
   cases h2
   exact fun v σ' F' H' R' le rr=>q v F' H' (post S' σ' F' H' outs R' h1) rr
  | m o=>
   obtain⟨os,h1,h2⟩:=aF (show(aL us S').map _=some (r,outs) from hrun)
   cases h2
   exact fun v σ' F' H' R' le rr=>q v F' H' (post S' σ' F' H' outs R' h1) (by obtain⟨a,e,h0,f,h,n,hB⟩:=rr;exact⟨a,e,hB,f,h⟩)
end
noncomputable def yj (S:SS) (i:Nat):Option U:=match S[i]? with
 | some (some (.t d))=>some (.t d)
 | some (some (.s d))=>some (.s d)
 | some (some (.f d))=>some (.f d)
 | some (some (.m _))=>some (.v i)
 | some (some (.b _))=>some (.v i)
 | _=>none
def dg (S:SS):List Nat->Option (List U)
 | []=>some []
 | i :: cap=>(yj S i).bind fun u=>(dg S cap).map fun us=>u :: us
noncomputable def cF:GT:=fun S=>some (true,S)
def dj (cap:List Nat) (q:GT) (g:GD):List D->SS->List D->Option (List D×SS)
 | [],S,acc=>some (acc,S)
 | d :: ds,S,acc=>(dg S cap).bind fun us=>
  if(slotsOf us).Nodup/\bJ us<=1 then(bz S us).bind fun ws=>(q (AAA d :: ws.map some)).bind fun p=>
   if p.1 then(g p.2).bind fun r=>(aL (.t d :: ws) r.2).bind fun outs=>(wb us outs S).bind fun S'=>dj cap q g ds S' (acc++[r.1])
   else(aL (.t d :: ws) p.2).bind fun outs=>(wb us outs S).bind fun S'=>dj cap q g ds S' acc
  else none
def jy (cap:List Nat) (gi:GI) (q:GT) (g:GD):GE:=fun S=>(gi S).bind fun p=>if p.1.length<=100000 then(dj cap q g p.1 p.2 []).map fun r=>(.m (.lst r.1),r.2) else none
structure VT (X:Cx) (es:List Expr) (q:GT):Prop where
 h:∀B,N3 X es (tQ X.K B q)
def jQ :VT X [] cF:=⟨fun B pins s σ H Q I ⟨S,F,b,S',R,hg,q⟩=>by cases hg;exact OS pins s σ H Q I (q F H R (Step.refl ..))⟩
theorem EW {K:AAD}{B:Base}{S:SS}{σ:St}{F H:Hp}(R:Rel K B S σ F H):∀{cap:List Nat}{us:List U},dg S cap=some us->∃vs:List V,fL cap σ=vs.map some/\Paired (fun v u=>iA K B S σ H F H v u) vs us
 | [],us,h=>by cases h;exact⟨[],rfl,.nil⟩
 | i :: cap,us,h=>by
  obtain⟨u,h1,h⟩:=ak h
  obtain⟨us',h2,h⟩:=aF h
  subst h
  obtain⟨vs,k1,k2⟩:=EW R h2
  have one:∀w,S[i]? =some (some w)->∃v,σ[i]? =some (some v)/\BG K F H v w:=R.rep i
  unfold yj at h1
  have fin:∀v,σ[i]? =some (some v)->iA K B S σ H F H v u->∃vs:List V,fL (i :: cap) σ=vs.map some/\Paired (fun v u=>iA K B S σ H F H v u) vs (u :: us'):=fun v e r=>
   ⟨v :: vs,by show(σ[i]?).join :: fL cap σ=_;rw[e,k1];rfl,.cons r k2⟩
  split at h1
  ·rename_i d e
   cases h1
   obtain⟨v,e1,r⟩:=one _ e
   exact fin v e1 r
  ·rename_i d e
   cases h1
   obtain⟨v,e1,r⟩:=one _ e
   exact fin v e1 r
  ·rename_i d e
   cases h1
   obtain⟨v,e1,r⟩:=one _ e
   exact fin v e1 r
  ·rename_i o e
   cases h1
   obtain⟨v,e1,r⟩:=one _ e
   exact fin v e1 ⟨e1,_,e⟩
  ·rename_i o e
   cases h1
   obtain⟨v,e1,r⟩:=one _ e
   exact fin v e1 ⟨e1,_,e⟩
  ·cases h1
def ym {F:Hp}(R:Rel K B S σ F H) (d:D)(h:bz S us=some ws):bz S (.t d :: us)=some (.t d :: ws):=by
 show(some (U.t d)).bind _=_
 show(bz S us).map _=_
 rw[h]
 rfl
inductive Rx (K:AAD) (B:Base) (S:SS) (σ:St) (F H F1:Hp) (lp:List D->SS->List D->Option (List D×SS)) (ds:List D) (r:List D×SS) (i m:Nat) (ys:List V) (H':Hp):Prop
 | mk (S2:SS) (F2:Hp) (acc:List D) (R:Rel K B S2 σ F2 H') (st:Step S S2 σ F H F2 H') (le:∀b o,F1 b=some o->F2 b=some o) (ry:bH F2 ys acc) (ha:acc.length<=i) (hl:i<=ds.length) (hm:m=ds.length - i) (e:lp (ds.drop i) S2 acc=some r)
def Dc {Q:VK}(h:tE K B (jy cap gi q g) σ H Q):YY (tIt K B gi) cap (fun σ H Q=>∃B,tQ K B q σ H Q) (fun σ H Q=>∃B,tD K B g σ H Q) σ H Q:=by
 obtain⟨x,_⟩:∃x:Str,True:=⟨"",trivial⟩
 obtain⟨S,F,u,S',R,hg,k⟩:=h
 obtain⟨⟨ds,S1⟩,h1,hg⟩:=ak hg
 dsimp only at hg
 split at hg
 ·rename_i hlen
  obtain⟨⟨res,Sf⟩,h2,hg⟩:=aF hg
  cases hg
  refine⟨S,F,ds,S1,R,h1,fun J F1 H1 R1 st1 w=>?_⟩
  refine⟨Rx K B S σ F H F1 (dj cap q g) ds (res,Sf),
   ⟨_,S1,F1,[],R1,st1,fun _ _ z=>z,.nil,aaC _,acJ _,rfl,h2⟩,?_⟩
  rintro i m ys H' ⟨S2,F2,acc,R2,st2,le,ry,ha,hl,rfl,gm⟩
  refine⟨by rw[ry.length];exact afh (aaW ha (aaW hl hlen)) (by decide),?_⟩
  have w':=w F2 H' le R2.sub i
  by_cases hlt:i < ds.length
  ·have hd:ds[i]? =some ds[i]:=aaD hlt
   obtain⟨go,yl⟩:=w'.1 _ hd
   rw[adb hlt] at gm
   refine .inr ⟨go,fun xv H3 y=>?_⟩
   obtain⟨rfl,rx⟩:=yl xv H3 y
   obtain⟨us,e1,gm⟩:=ak gm
   skip
   split at gm
   ·rename_i hnd
    obtain⟨ws,e2,gm⟩:=ak gm
    obtain⟨⟨bk,T1⟩,e3,gm⟩:=ak gm
    obtain⟨vs,k1,k2⟩:=EW R2 e1
    have rr:Paired (fun v u=>iA K B S2 σ H3 F2 H3 v u) (xv :: vs) (.t ds[i] :: us):=.cons rx k2
    have er:=ym R2 ds[i] e2
    have ar:=qD R2 rr er
    have nd:=dY R2 rr er hnd.1 hnd.2
    have R3:=uS (n:=ws.length+1) R2.sub ar nd (List.replicate (ws.length+1) x) (by simp)
    have hvl:vs.length=ws.length:=by have:=ar.length;simpa using this
    have es:start (List.replicate (ws.length+1) x) (xv :: vs)=some xv :: fL cap σ:=by
     unfold start;rw[k1];simp[hvl]
    have eS:(U.t ds[i] :: ws).map some++List.replicate (ws.length+1 - (U.t ds[i] :: ws).length) none=some (U.t ds[i]) :: ws.map some:=by simp
    rw[es,eS] at R3
    have back:∀(T2:SS) (F3 H4:Hp) (outs:List MO) (S3:SS),Rel K ⟨lent (xv :: vs) (U.t ds[i] :: ws),F2,H3⟩ T2 (some xv :: fL cap σ) F3 H4->aL (U.t ds[i] :: ws) T2=some outs->wb us outs S2=some S3->Rel K B S3 σ F3 H4/\Step S S3 σ F H F3 H4/\(∀b o,F2 b=some o->F3 b=some o):=fun T2 F3 H4 outs S3 RT ho hw=>by
     have po:=post_of ar T2 _ F3 H4 outs RT ho
     obtain⟨Ra,Eo,_⟩:=jD (S0:=S2) (F0:=F2) (H0:=H3) R2 (Step.refl ..) rr er (show wb (U.t ds[i] :: us) outs S2=some S3 by cases outs <;> exact hw) hnd.1 po
     exact⟨Ra,st2.trans Eo,Eo.ext.le⟩
    refine⟨_,_,F2,bk,T1,R3,e3,fun F3 H4 Xz aaZ=>?_⟩
    cases bk with
    | true=>
     obtain⟨⟨yd,T2⟩,e4,gm⟩:=ak (show(g T1).bind _=_ from gm)
     obtain⟨outs,e5,gm⟩:=ak gm
     obtain⟨S3,e6,gm⟩:=ak gm
     refine C1 ⟨_,T1,F3,yd,T2,Xz,e4,fun yv F4 H5 RT2 aa1 XA=>?_⟩
     obtain⟨Ra,Eo,LA⟩:=back T2 F4 H5 outs S3 RT2 e5 e6
     refine⟨ds.length - (i+1),by lia,S3,F4,acc++[yd],Ra,Eo,fun b o z=>LA b o (le b o z),(ry.le LA).append (.cons XA .nil),by simp;lia,hlt,rfl,gm⟩
    | false=>
     obtain⟨outs,e5,gm⟩:=ak (show(aL (U.t ds[i] :: ws) T1).bind _=_ from gm)
     obtain⟨S3,e6,gm⟩:=ak gm
     obtain⟨Ra,Eo,LA⟩:=back T1 F3 H4 outs S3 Xz e5 e6
     exact C0 ⟨ds.length - (i+1),by lia,S3,F3,acc,Ra,Eo,fun b o z=>LA b o (le b o z),ry.le LA,by lia,hlt,rfl,gm⟩
   ·cases gm
  ·have e:i=ds.length:=by lia
   subst e
   rw[aeA] at gm
   cases gm
   refine .inl ⟨w'.2 (aaC _),fun p hp=>?_⟩
   have n:=gK.obj (F:=F2) hp (.lst ys)
   refine k (.ref p) F2 _ (R2.new n (R2.sub.same n.same)) (st2.trans n.step) ⟨p,rfl,none_of st2.ext.there hp,R2.sub.fresh hp,⟨ys,bq,ry⟩,fun m=>?_,none_of R2.ext.there hp⟩
   obtain⟨o,ho⟩:=R2.has m
   rw[hp] at ho
   cases ho
 ·cases hg
def qF {px:Pos}(T:fV X x bQ cap scope cl) (hc:X.calm=true) (hi:JI X (.Name x px) iter gi)
  (ht:∀C s H fp,VT (cM X (x :: bQ) scope cl C s H fp) ifs q) (he:∀C s H fp,JD (cM X (x :: bQ) scope cl C s H fp) elt g)
  (hs:∀x,foldedSetIterable iter X.env x=pure x:=by intro _;rfl):JE X (.ListComp elt [⟨.Name x px,iter,ifs,0⟩] scope pos) (jy cap gi q g):=⟨fun B=>by
 exact(K8 (tc:=fun σ H Q=>∃B,tQ X.K B q σ H Q) (te:=fun σ H Q=>∃B,tD X.K B g σ H Q) T hc (hi.h B) (fun C s H fp pins s' σ H' Q I ⟨B',z⟩=>(ht C s H fp).h B' pins s' σ H' Q I z) (fun C s H fp pins s' σ H' Q I ⟨B',z⟩=>(he C s H fp).h B' pins s' σ H' Q I z) hs).imp fun σ H Q h=>Dc h⟩
def LB {y:Str}{px py spos:Pos}(hN:X.N.Nodup) (hy:X.N[i]? =some y) (hx:Loc X.env.scope y) (T:fV X x bQ cap scope cl) (hc:X.calm=true) (hi:JI X (.Name x px) iter gi)
  (ht:∀C s H fp,VT (cM X (x :: bQ) scope cl C s H fp) ifs q) (he:∀C s H fp,JD (cM X (x :: bQ) scope cl C s H fp) elt g)
  (hsw:swapsWith (.ListComp elt [⟨.Name x px,iter,ifs,0⟩] scope pos) (some (.Name y py)) spos.line X.env=pure true:=by rfl) (hf:X.fn y=true\/X.env.scope.names.lookup y=some .local:=by first | exact .inl rfl | exact .inr rfl | assumption)
  (hs:∀x,foldedSetIterable iter X.env x=pure x:=by intro _;rfl):JS X (.Assign [.Name y py] (.ListComp elt [⟨.Name x px,iter,ifs,0⟩] scope pos) spos) (bX i (jy cap gi q g)):=⟨fun B=>
 (K9 (tc:=fun σ H Q=>∃B,tQ X.K B q σ H Q) (te:=fun σ H Q=>∃B,tD X.K B g σ H Q) T hc (hi.h B) (fun C s H fp pins s' σ H' Q I ⟨B',z⟩=>(ht C s H fp).h B' pins s' σ H' Q I z) (fun C s H fp pins s' σ H' Q I ⟨B',z⟩=>(he C s H fp).h B' pins s' σ H' Q I z) hs hN hy hx hsw hf).imp fun D σ H h=>Dc (BI h)⟩
mutual
noncomputable def nI:D->D->Bool
 | .cU,.cU=>true
 | .bl a,.bl b=>a == b
 | .int a,.int b=>a == b
 | .bl a,.int b=>(if a then 1 else 0) == b
 | .int a,.bl b=>a == (if b then 1 else 0)
 | .str a,.str b=>a == b
 | .tup a,.tup b=>rT a b
 | .lst a,.lst b=>rT a b
 | _,_=>false
noncomputable def rT:List D->List D->Bool
 | [],[]=>true
 | a :: as,b :: bs=>nI a b && rT as bs
 | _,_=>false
end
mutual
noncomputable def gC:D->Nat
 | .tup ds=>cP ds+1
 | .lst ds=>cP ds+1
 | _=>0
noncomputable def cP:List D->Nat
 | []=>0
 | d :: ds=>max (gC d) (cP ds)
end
mutual
theorem mT:∀d:D,nI d d=true
 | .cU=>rfl
 | .bl a=>by simp[nI]
 | .int a=>by simp[nI]
 | .str a=>by simp[nI]
 | .tup a=>by unfold nI;exact mU a
 | .lst a=>by unfold nI;exact mU a
theorem mU:∀ds:List D,rT ds ds=true
 | []=>rfl
 | d :: ds=>by unfold rT;rw[mT d,mU ds];rfl
end
def rq (as bs:List D) (j:Nat):Bool:=match as[j]?,bs[j]? with
 | some a,some b=>nI a b
 | _,_=>true
def yp (n:Nat) (e:Nat->Bool):(List.range (n+1)).all e=(e 0 && (List.range n).all fun j=>e (j+1)):=by
 rw[adk,acg,List.all_map]
 rfl
theorem pC:∀{as bs:List D},as.length≠bs.length->rT as bs=false
 | [],[],h=>absurd rfl h
 | [],_ :: _,_=>rfl
 | _ :: _,[],_=>rfl
 | a :: as,b :: bs,h=>by
  unfold rT
  rw[pC (as:=as) (bs:=bs) (fun z=>h (by simp[z])),aek]
theorem kR:∀{as bs:List D},as.length=bs.length->(List.range as.length).all (rq as bs)=rT as bs
 | [],[],_=>rfl
 | [],_ :: _,h=>by cases h
 | _ :: _,[],h=>by cases h
 | a :: as,b :: bs,h=>by
  have h':as.length=bs.length:=by simpa using h
  show(List.range (as.length+1)).all _=_
  rw[yp]
  unfold rT
  have ih:=kR h'
  have e:(fun j=>rq (a :: as) (b :: bs) (j+1))=rq as bs:=by funext j;kernel_rfl
  rw[e,ih]
  rfl
def O7 {F:Hp}{ws:List V}(h:Rd F a (.lst vs)) (h':Rd F a (.lst ws)):vs=ws:=by
 rcases h with e1 | ⟨o,e1⟩ <;> rcases h' with e2 | ⟨o',e2⟩ <;> (rw[e1] at e2;cases e2) <;> rfl
mutual
theorem Rep.uniq {F:Hp}:∀{v:V}{d e:D},Rep F v d->Rep F v e->d=e
 | _,_,_,.cU,r=>by cases r;rfl
 | _,_,_,.bl b,r=>by cases r;rfl
 | _,_,_,.int b,r=>by cases r;rfl
 | _,_,_,.str b,r=>by cases r;rfl
 | _,_,_,.tup e1 r1,r=>by
  cases r with
  | tup e2 r2=>rw[e1] at e2;cases e2;rw[bH.uniq r1 r2]
  | lst e2 r2=>rcases e2 with e2 | ⟨o,e2⟩ <;> (rw[e1] at e2;cases e2)
 | _,_,_,.lst e1 r1,r=>by
  cases r with
  | tup e2 r2=>rcases e1 with e1 | ⟨o,e1⟩ <;> (rw[e1] at e2;cases e2)
  | lst e2 r2=>rcases e1 with e1 | ⟨o,e1⟩ <;> rcases e2 with e2 | ⟨o',e2⟩ <;> (rw[e1] at e2;cases e2) <;> rw[bH.uniq r1 r2]
theorem bH.uniq {F:Hp}:∀{vs:List V}{ds es:List D},bH F vs ds->bH F vs es->ds=es
 | _,_,_,.nil,r=>by cases r;rfl
 | _,_,_,.cons r1 s1,r=>by
  cases r with
  | cons r2 s2=>rw[Rep.uniq r1 r2,bH.uniq s1 s2]
end
section
variable {X:Cx}{pins:AAG}{σ:St}{F H:Hp}{s:Shared}
def Sub.isTup (I:Inv X pins σ H s) (sb:Sub F H)(h:F a=some (.tup vs)):∃its:List Value,Vals vs its/\s.heap.IsTuple a its.toArray:=by
 obtain⟨its,rv,p,_⟩:=I.tuple (.inl (Rd.of (sb a _ h)))
 exact⟨its,rv,p⟩
def Sub.eL (I:Inv X pins σ H s) (sb:Sub F H)(h:Rd F a (.lst vs)):∃its:List Value,Vals vs its/\s.heap.IsList a its.toArray:=by
 obtain⟨its,rv,p,_⟩:=I.list (.inl (h.imp (sb a _) fun⟨o,z⟩=>⟨o,sb a _ z⟩))
 exact⟨its,rv,p.isList⟩
def jR (A:Around) (s:Shared) (its cB:AAL) (ds es:List D):Prop:=∀j (h1:j < its.toArray.size) (h2:j < cB.toArray.size),SeqAt.EqAt A.in1 s its.toArray[j] cB.toArray[j] (rq ds es j)
def GR {m:Nat}(h:n=m) (e:Nat->Bool):((List.range (min n m)).all e && n == m)=(List.range n).all e:=by
 subst h;simp
def tF (hu:A.units < cLine) (pa:s.heap.IsTuple ca gq.toArray) (pb:s.heap.IsTuple cb cB.toArray) (la:gq.length=ds.length) (lb:cB.length=es.length) (h:jR A s gq cB ds es):
  SeqAt.RcAt A s (.ref ca) (.ref cb) (rT ds es):=by
 have q:=SeqAt.RcAt.tuples (e:=rq ds es) pa pb hu h
 rw[aaj,aaj,la,lb] at q
 by_cases hl:ds.length=es.length
 ·rw[GR hl,kR hl] at q;exact q
 ·rw[pC hl]
  have:(ds.length == es.length)=false:=by simpa using hl
  rw[this,aek] at q
  exact q
def yq (hu:A.units < cLine) (pa:s.heap.IsTuple ca gq.toArray) (pb:s.heap.IsTuple cb cB.toArray) (la:gq.length=ds.length) (lb:cB.length=es.length) (h:jR A s gq cB ds es):
  SeqAt.RcNeAt A s (.ref ca) (.ref cb) (!rT ds es):=by
 have q:=SeqAt.RcNeAt.tuples (e:=rq ds es) pa pb hu h
 rw[aaj,aaj,la,lb] at q
 by_cases hl:ds.length=es.length
 ·rw[GR hl,kR hl] at q;exact q
 ·rw[pC hl]
  have:(ds.length == es.length)=false:=by simpa using hl
  rw[this,aek] at q
  exact q
def vY (hu:A.units < cLine) (pa:s.heap.IsList ca gq.toArray) (pb:s.heap.IsList cb cB.toArray) (la:gq.length=ds.length) (lb:cB.length=es.length) (h:jR A s gq cB ds es):
  SeqAt.RcAt A s (.ref ca) (.ref cb) (rT ds es):=by
 by_cases hl:ds.length=es.length
 ·have q:=SeqAt.RcAt.lists (e:=rq ds es) pa pb (by rw[aaj,aaj,la,lb];exact hl) hu h
  rw[aaj,la,kR hl] at q;exact q
 ·rw[pC hl]
  exact SeqAt.RcAt.lists_lengths pa pb (by rw[aaj,aaj,la,lb];simpa using hl) hu
def zP (hu:A.units < cLine) (pa:s.heap.IsList ca gq.toArray) (pb:s.heap.IsList cb cB.toArray) (la:gq.length=ds.length) (lb:cB.length=es.length) (h:jR A s gq cB ds es):
  SeqAt.RcNeAt A s (.ref ca) (.ref cb) (!rT ds es):=by
 by_cases hl:ds.length=es.length
 ·have q:=SeqAt.RcNeAt.lists (e:=rq ds es) pa pb (by rw[aaj,aaj,la,lb];exact hl) hu h
  rw[aaj,la,kR hl] at q;exact q
 ·rw[pC hl]
  exact SeqAt.RcNeAt.lists_lengths pa pb (by rw[aaj,aaj,la,lb];simpa using hl) hu
def ff (l:List α) (j:Nat) (h:j < l.toArray.size):l[j]? =some l.toArray[j]:=by
 have z:j < l.length:=by simpa using h
 simp[z]
mutual
theorem Ry (I:Inv X pins σ H s) (sb:Sub F H):∀(d:D){e:D}{A:Around}{x y:V}{u w':Value},Rep F x d->Rep F y e->RelV x u->RelV y w'->A.units+gC d < cLine->SeqAt.EqAt A s u w' (nI d e):=fun d {e A x y u w'} r1 r2 rx ry hu=>by
 cases r1 with
 | cU=>
  cases rx
  cases r2 with
  | cU=>cases ry;exact aeF _
  | bl b=>cases ry;exact SeqAt.EqAt.none_bool b
  | int b=>obtain⟨tb,rfl⟩:=ry;exact SeqAt.EqAt.none_int b tb
  | str b=>obtain⟨tb,rfl⟩:=ry;exact SeqAt.EqAt.none_str b tb
  | @tup cb pD mV eb rb=>cases ry;obtain⟨cB,kT,pb⟩:=sb.isTup I eb;exact SeqAt.EqAt.none_tuple pb (by lia)
  | @lst cb pD mV eb rb=>cases ry;obtain⟨cB,kT,pb⟩:=sb.eL I eb;exact SeqAt.EqAt.none_list pb (by lia)
 | bl a=>
  cases rx
  cases r2 with
  | cU=>cases ry;exact SeqAt.EqAt.bool_none a
  | bl b=>cases ry;exact aeE a b
  | int b=>obtain⟨tb,rfl⟩:=ry;exact aeQ a b tb
  | str b=>obtain⟨tb,rfl⟩:=ry;exact aeR a b tb
  | @tup cb pD mV eb rb=>cases ry;obtain⟨cB,kT,pb⟩:=sb.isTup I eb;exact SeqAt.EqAt.bool_tuple a pb (by lia)
  | @lst cb pD mV eb rb=>cases ry;obtain⟨cB,kT,pb⟩:=sb.eL I eb;exact SeqAt.EqAt.bool_list a pb (by lia)
 | int a=>
  obtain⟨ta,rfl⟩:=rx
  cases r2 with
  | cU=>cases ry;exact SeqAt.EqAt.int_none a ta
  | bl b=>cases ry;exact aeP a ta b
  | int b=>obtain⟨tb,rfl⟩:=ry;exact SeqAt.EqAt.int_int a ta b tb
  | str b=>obtain⟨tb,rfl⟩:=ry;exact afc a ta b tb
  | @tup cb pD mV eb rb=>cases ry;obtain⟨cB,kT,pb⟩:=sb.isTup I eb;exact SeqAt.EqAt.int_tuple a ta pb (by lia)
  | @lst cb pD mV eb rb=>cases ry;obtain⟨cB,kT,pb⟩:=sb.eL I eb;exact SeqAt.EqAt.int_list a ta pb (by lia)
 | str a=>
  obtain⟨ta,rfl⟩:=rx
  cases r2 with
  | cU=>cases ry;exact SeqAt.EqAt.str_none a ta
  | bl b=>cases ry;exact aeS a ta b
  | int b=>obtain⟨tb,rfl⟩:=ry;exact afd a ta b tb
  | str b=>obtain⟨tb,rfl⟩:=ry;exact SeqAt.EqAt.str_str a ta b tb
  | @tup cb pD mV eb rb=>cases ry;obtain⟨cB,kT,pb⟩:=sb.isTup I eb;exact SeqAt.EqAt.str_tuple a ta pb (by lia)
  | @lst cb pD mV eb rb=>cases ry;obtain⟨cB,kT,pb⟩:=sb.eL I eb;exact SeqAt.EqAt.str_list a ta pb (by lia)
 | @tup ca XC qX ea ra=>
  cases rx;obtain⟨gq,Dd,pa⟩:=sb.isTup I ea
  cases r2 with
  | cU=>cases ry;exact SeqAt.EqAt.tuple_none pa (by lia)
  | bl b=>cases ry;exact SeqAt.EqAt.tuple_bool b pa (by lia)
  | int b=>obtain⟨tb,rfl⟩:=ry;exact SeqAt.EqAt.tuple_int b tb pa (by lia)
  | str b=>obtain⟨tb,rfl⟩:=ry;exact SeqAt.EqAt.tuple_str b tb pa (by lia)
  | @tup cb pD mV eb rb=>cases ry;obtain⟨cB,kT,pb⟩:=sb.isTup I eb;exact(by
   have hd:A.units+(cP qX+1) < cLine:=hu
   have items:jR A s gq cB qX mV:=fun j h1 h2=>kU I sb qX (A:=A.in1) ra rb Dd kT (by show A.units+1+cP qX < cLine;lia) (ff gq j h1) (ff cB j h2)
   by_cases hc:ca=cb
   ·subst hc
    rw[ea] at eb
    cases eb
    obtain rfl:=bH.uniq ra rb
    show SeqAt.EqAt A s _ _ (rT qX qX)
    rw[mU]
    exact aeF _
   ·exact afe hc (tF (by lia) pa pb (Dd.length.symm.trans ra.length) (kT.length.symm.trans rb.length) items))
  | @lst cb pD mV eb rb=>cases ry;obtain⟨cB,kT,pb⟩:=sb.eL I eb;exact SeqAt.EqAt.tuple_list pa pb (by lia)
 | @lst ca XC qX ea ra=>
  cases rx;obtain⟨gq,Dd,pa⟩:=sb.eL I ea
  cases r2 with
  | cU=>cases ry;exact SeqAt.EqAt.list_none pa (by lia)
  | bl b=>cases ry;exact SeqAt.EqAt.list_bool b pa (by lia)
  | int b=>obtain⟨tb,rfl⟩:=ry;exact SeqAt.EqAt.list_int b tb pa (by lia)
  | str b=>obtain⟨tb,rfl⟩:=ry;exact SeqAt.EqAt.list_str b tb pa (by lia)
  | @tup cb pD mV eb rb=>cases ry;obtain⟨cB,kT,pb⟩:=sb.isTup I eb;exact SeqAt.EqAt.list_tuple pa pb (by lia)
  | @lst cb pD mV eb rb=>cases ry;obtain⟨cB,kT,pb⟩:=sb.eL I eb;exact(by
   have hd:A.units+(cP qX+1) < cLine:=hu
   have items:jR A s gq cB qX mV:=fun j h1 h2=>kU I sb qX (A:=A.in1) ra rb Dd kT (by show A.units+1+cP qX < cLine;lia) (ff gq j h1) (ff cB j h2)
   by_cases hc:ca=cb
   ·subst hc
    obtain rfl:=O7 ea eb
    obtain rfl:=bH.uniq ra rb
    show SeqAt.EqAt A s _ _ (rT qX qX)
    rw[mU]
    exact aeF _
   ·exact afe hc (vY (by lia) pa pb (Dd.length.symm.trans ra.length) (kT.length.symm.trans rb.length) items))
theorem kU (I:Inv X pins σ H s) (sb:Sub F H):∀(ds:List D){es:List D}{A:Around}{vs ws:List V}{us us':AAL}{j:Nat}{u w':Value},bH F vs ds->bH F ws es->Vals vs us->Vals ws us'->A.units+cP ds < cLine->us[j]? =some u->us'[j]? =some w'->SeqAt.EqAt A s u w' (rq ds es j):=fun ds {es A vs ws us us' j u w'} r1 r2 v1 v2 hu h1 h2=>by
 cases r1 with
 | nil=>cases v1;simp at h1
 | @cons v d vs ds r rs=>
  cases v1 with
  | cons q qs=>
   cases r2 with
   | nil=>cases v2;simp at h2
   | @cons w e ws es r' rs'=>
    cases v2 with
    | cons q' Y3=>
     have hd:A.units+max (gC d) (cP ds) < cLine:=hu
     cases j with
     | zero=>
      simp at h1 h2
      subst h1 h2
      exact Ry I sb d r r' q q' (by lia)
     | succ j=>
      simp at h1 h2
      have:=kU I sb ds (A:=A) rs rs' qs Y3 (j:=j) (by lia) h1 h2
      simpa[rq] using this
end
end
section
variable {X:Cx}{pins:AAG}{σ:St}{F H:Hp}{s:Shared}
def XD (I:Inv X pins σ H s) (sb:Sub F H){d e:D}{x:V}{u w':Value}(r1:Rep F x d) (r2:Rep F y e) (rx:RelV x u) (ry:RelV y w') (hu:A.units+gC d < cLine):SeqAt.RcAt A s u w' (nI d e):=by
 cases r1 with
 | cU=>
  cases rx
  cases r2 with
  | cU=>cases ry;exact SeqAt.RcAt.none_none
  | bl b=>cases ry;exact SeqAt.RcAt.none_bool b
  | int b=>obtain⟨tb,rfl⟩:=ry;exact SeqAt.RcAt.none_int b tb
  | str b=>obtain⟨tb,rfl⟩:=ry;exact SeqAt.RcAt.none_str b tb
  | @tup cb pD mV eb rb=>cases ry;obtain⟨cB,kT,pb⟩:=sb.isTup I eb;exact SeqAt.RcAt.none_tuple pb (by lia)
  | @lst cb pD mV eb rb=>cases ry;obtain⟨cB,kT,pb⟩:=sb.eL I eb;exact SeqAt.RcAt.none_list pb (by lia)
 | bl a=>
  cases rx
  cases r2 with
  | cU=>cases ry;exact SeqAt.RcAt.bool_none a
  | bl b=>cases ry;exact SeqAt.RcAt.bool_bool a b
  | int b=>obtain⟨tb,rfl⟩:=ry;exact SeqAt.RcAt.bool_int a b tb
  | str b=>obtain⟨tb,rfl⟩:=ry;exact SeqAt.RcAt.bool_str a b tb
  | @tup cb pD mV eb rb=>cases ry;obtain⟨cB,kT,pb⟩:=sb.isTup I eb;exact SeqAt.RcAt.bool_tuple a pb (by lia)
  | @lst cb pD mV eb rb=>cases ry;obtain⟨cB,kT,pb⟩:=sb.eL I eb;exact SeqAt.RcAt.bool_list a pb (by lia)
 | int a=>
  obtain⟨ta,rfl⟩:=rx
  cases r2 with
  | cU=>cases ry;exact SeqAt.RcAt.int_none a ta
  | bl b=>cases ry;exact SeqAt.RcAt.int_bool a ta b
  | int b=>obtain⟨tb,rfl⟩:=ry;exact SeqAt.RcAt.int_int a ta b tb
  | str b=>obtain⟨tb,rfl⟩:=ry;exact SeqAt.RcAt.int_str a ta b tb
  | @tup cb pD mV eb rb=>cases ry;obtain⟨cB,kT,pb⟩:=sb.isTup I eb;exact SeqAt.RcAt.int_tuple a ta pb (by lia)
  | @lst cb pD mV eb rb=>cases ry;obtain⟨cB,kT,pb⟩:=sb.eL I eb;exact SeqAt.RcAt.int_list a ta pb (by lia)
 | str a=>
  obtain⟨ta,rfl⟩:=rx
  cases r2 with
  | cU=>cases ry;exact SeqAt.RcAt.str_none a ta
  | bl b=>cases ry;exact SeqAt.RcAt.str_bool a ta b
  | int b=>obtain⟨tb,rfl⟩:=ry;exact SeqAt.RcAt.str_int a ta b tb
  | str b=>obtain⟨tb,rfl⟩:=ry;exact SeqAt.RcAt.str_str a ta b tb
  | @tup cb pD mV eb rb=>cases ry;obtain⟨cB,kT,pb⟩:=sb.isTup I eb;exact SeqAt.RcAt.str_tuple a ta pb (by lia)
  | @lst cb pD mV eb rb=>cases ry;obtain⟨cB,kT,pb⟩:=sb.eL I eb;exact SeqAt.RcAt.str_list a ta pb (by lia)
 | @tup ca XC qX ea ra=>
  cases rx;obtain⟨gq,Dd,pa⟩:=sb.isTup I ea
  cases r2 with
  | cU=>cases ry;exact SeqAt.RcAt.tuple_none pa (by lia)
  | bl b=>cases ry;exact SeqAt.RcAt.tuple_bool b pa (by lia)
  | int b=>obtain⟨tb,rfl⟩:=ry;exact SeqAt.RcAt.tuple_int b tb pa (by lia)
  | str b=>obtain⟨tb,rfl⟩:=ry;exact SeqAt.RcAt.tuple_str b tb pa (by lia)
  | @tup cb pD mV eb rb=>cases ry;obtain⟨cB,kT,pb⟩:=sb.isTup I eb;exact(by
   have hd:A.units+(cP qX+1) < cLine:=hu
   have items:jR A s gq cB qX mV:=fun j h1 h2=>kU I sb qX (A:=A.in1) ra rb Dd kT (by show A.units+1+cP qX < cLine;lia) (ff gq j h1) (ff cB j h2)
   exact tF (by lia) pa pb (Dd.length.symm.trans ra.length) (kT.length.symm.trans rb.length) items)
  | @lst cb pD mV eb rb=>cases ry;obtain⟨cB,kT,pb⟩:=sb.eL I eb;exact SeqAt.RcAt.tuple_list pa pb (by lia)
 | @lst ca XC qX ea ra=>
  cases rx;obtain⟨gq,Dd,pa⟩:=sb.eL I ea
  cases r2 with
  | cU=>cases ry;exact SeqAt.RcAt.list_none pa (by lia)
  | bl b=>cases ry;exact SeqAt.RcAt.list_bool b pa (by lia)
  | int b=>obtain⟨tb,rfl⟩:=ry;exact SeqAt.RcAt.list_int b tb pa (by lia)
  | str b=>obtain⟨tb,rfl⟩:=ry;exact SeqAt.RcAt.list_str b tb pa (by lia)
  | @tup cb pD mV eb rb=>cases ry;obtain⟨cB,kT,pb⟩:=sb.isTup I eb;exact SeqAt.RcAt.list_tuple pa pb (by lia)
  | @lst cb pD mV eb rb=>cases ry;obtain⟨cB,kT,pb⟩:=sb.eL I eb;exact(by
   have hd:A.units+(cP qX+1) < cLine:=hu
   have items:jR A s gq cB qX mV:=fun j h1 h2=>kU I sb qX (A:=A.in1) ra rb Dd kT (by show A.units+1+cP qX < cLine;lia) (ff gq j h1) (ff cB j h2)
   exact vY (by lia) pa pb (Dd.length.symm.trans ra.length) (kT.length.symm.trans rb.length) items)
def O8 (I:Inv X pins σ H s) (sb:Sub F H){d e:D}{x:V}{u w':Value}(r1:Rep F x d) (r2:Rep F y e) (rx:RelV x u) (ry:RelV y w') (hu:A.units+gC d < cLine):SeqAt.RcNeAt A s u w' (!nI d e):=by
 cases r1 with
 | cU=>
  cases rx
  cases r2 with
  | cU=>cases ry;exact SeqAt.RcNeAt.none_none
  | bl b=>cases ry;exact SeqAt.RcNeAt.none_bool b
  | int b=>obtain⟨tb,rfl⟩:=ry;exact SeqAt.RcNeAt.none_int b tb
  | str b=>obtain⟨tb,rfl⟩:=ry;exact SeqAt.RcNeAt.none_str b tb
  | @tup cb pD mV eb rb=>cases ry;obtain⟨cB,kT,pb⟩:=sb.isTup I eb;exact SeqAt.RcNeAt.none_tuple pb (by lia)
  | @lst cb pD mV eb rb=>cases ry;obtain⟨cB,kT,pb⟩:=sb.eL I eb;exact SeqAt.RcNeAt.none_list pb (by lia)
 | bl a=>
  cases rx
  cases r2 with
  | cU=>cases ry;exact SeqAt.RcNeAt.bool_none a
  | bl b=>cases ry;exact SeqAt.RcNeAt.bool_bool a b
  | int b=>obtain⟨tb,rfl⟩:=ry;exact SeqAt.RcNeAt.bool_int a b tb
  | str b=>obtain⟨tb,rfl⟩:=ry;exact SeqAt.RcNeAt.bool_str a b tb
  | @tup cb pD mV eb rb=>cases ry;obtain⟨cB,kT,pb⟩:=sb.isTup I eb;exact SeqAt.RcNeAt.bool_tuple a pb (by lia)
  | @lst cb pD mV eb rb=>cases ry;obtain⟨cB,kT,pb⟩:=sb.eL I eb;exact SeqAt.RcNeAt.bool_list a pb (by lia)
 | int a=>
  obtain⟨ta,rfl⟩:=rx
  cases r2 with
  | cU=>cases ry;exact SeqAt.RcNeAt.int_none a ta
  | bl b=>cases ry;exact SeqAt.RcNeAt.int_bool a ta b
  | int b=>obtain⟨tb,rfl⟩:=ry;exact SeqAt.RcNeAt.int_int a ta b tb
  | str b=>obtain⟨tb,rfl⟩:=ry;exact SeqAt.RcNeAt.int_str a ta b tb
  | @tup cb pD mV eb rb=>cases ry;obtain⟨cB,kT,pb⟩:=sb.isTup I eb;exact SeqAt.RcNeAt.int_tuple a ta pb (by lia)
  | @lst cb pD mV eb rb=>cases ry;obtain⟨cB,kT,pb⟩:=sb.eL I eb;exact SeqAt.RcNeAt.int_list a ta pb (by lia)
 | str a=>
  obtain⟨ta,rfl⟩:=rx
  cases r2 with
  | cU=>cases ry;exact SeqAt.RcNeAt.str_none a ta
  | bl b=>cases ry;exact SeqAt.RcNeAt.str_bool a ta b
  | int b=>obtain⟨tb,rfl⟩:=ry;exact SeqAt.RcNeAt.str_int a ta b tb
  | str b=>obtain⟨tb,rfl⟩:=ry;exact SeqAt.RcNeAt.str_str a ta b tb
  | @tup cb pD mV eb rb=>cases ry;obtain⟨cB,kT,pb⟩:=sb.isTup I eb;exact SeqAt.RcNeAt.str_tuple a ta pb (by lia)
  | @lst cb pD mV eb rb=>cases ry;obtain⟨cB,kT,pb⟩:=sb.eL I eb;exact SeqAt.RcNeAt.str_list a ta pb (by lia)
 | @tup ca XC qX ea ra=>
  cases rx;obtain⟨gq,Dd,pa⟩:=sb.isTup I ea
  cases r2 with
  | cU=>cases ry;exact SeqAt.RcNeAt.tuple_none pa (by lia)
  | bl b=>cases ry;exact SeqAt.RcNeAt.tuple_bool b pa (by lia)
  | int b=>obtain⟨tb,rfl⟩:=ry;exact SeqAt.RcNeAt.tuple_int b tb pa (by lia)
  | str b=>obtain⟨tb,rfl⟩:=ry;exact SeqAt.RcNeAt.tuple_str b tb pa (by lia)
  | @tup cb pD mV eb rb=>cases ry;obtain⟨cB,kT,pb⟩:=sb.isTup I eb;exact(by
   have hd:A.units+(cP qX+1) < cLine:=hu
   have items:jR A s gq cB qX mV:=fun j h1 h2=>kU I sb qX (A:=A.in1) ra rb Dd kT (by show A.units+1+cP qX < cLine;lia) (ff gq j h1) (ff cB j h2)
   exact yq (by lia) pa pb (Dd.length.symm.trans ra.length) (kT.length.symm.trans rb.length) items)
  | @lst cb pD mV eb rb=>cases ry;obtain⟨cB,kT,pb⟩:=sb.eL I eb;exact SeqAt.RcNeAt.tuple_list pa pb (by lia)
 | @lst ca XC qX ea ra=>
  cases rx;obtain⟨gq,Dd,pa⟩:=sb.eL I ea
  cases r2 with
  | cU=>cases ry;exact SeqAt.RcNeAt.list_none pa (by lia)
  | bl b=>cases ry;exact SeqAt.RcNeAt.list_bool b pa (by lia)
  | int b=>obtain⟨tb,rfl⟩:=ry;exact SeqAt.RcNeAt.list_int b tb pa (by lia)
  | str b=>obtain⟨tb,rfl⟩:=ry;exact SeqAt.RcNeAt.list_str b tb pa (by lia)
  | @tup cb pD mV eb rb=>cases ry;obtain⟨cB,kT,pb⟩:=sb.isTup I eb;exact SeqAt.RcNeAt.list_tuple pa pb (by lia)
  | @lst cb pD mV eb rb=>cases ry;obtain⟨cB,kT,pb⟩:=sb.eL I eb;exact(by
   have hd:A.units+(cP qX+1) < cLine:=hu
   have items:jR A s gq cB qX mV:=fun j h1 h2=>kU I sb qX (A:=A.in1) ra rb Dd kT (by show A.units+1+cP qX < cLine;lia) (ff gq j h1) (ff cB j h2)
   exact zP (by lia) pa pb (Dd.length.symm.trans ra.length) (kT.length.symm.trans rb.length) items)
def jz:List D->Option U
 | [a,b]=>if gC a<=40 then some (.t (.bl (nI a b))) else none
 | _=>none
def Tp:List D->Option U
 | [a,b]=>if gC a<=40 then some (.t (.bl (!nI a b))) else none
 | _=>none
def cy (hu:X.A.units+64 < cLine):CB X (compareOp .Eq) jz:=by
 intro pins s σ H x y v u Q I rx ry ⟨F,ds,w,sb,rs,hw,q⟩
 obtain⟨d,e,rfl,r1,r2⟩:=vW rs
 obtain⟨hd,rfl⟩:=bV (show(if gC d<=40 then some (U.t (.bl (nI d e))) else none)=some w from hw)
 exact XD I sb r1 r2 rx ry (by lia) _ _ _ _ ⟨.bl _,H,I,rfl,q _ F H (gK.refl ..) sb (.bl _)⟩
def yr (hu:X.A.units+64 < cLine):CB X (compareOp .NotEq) Tp:=by
 intro pins s σ H x y v u Q I rx ry ⟨F,ds,w,sb,rs,hw,q⟩
 obtain⟨d,e,rfl,r1,r2⟩:=vW rs
 obtain⟨hd,rfl⟩:=bV (show(if gC d<=40 then some (U.t (.bl (!nI d e))) else none)=some w from hw)
 exact O8 I sb r1 r2 rx ry (by lia) _ _ _ _ ⟨.bl _,H,I,rfl,q _ F H (gK.refl ..) sb (.bl _)⟩
def inD (x:D) (ds:List D):Bool:=ds.any fun y=>nI y x
def JZ:List D->Option U
 | [x,.tup ds]=>if cP ds<=40 then some (.t (.bl (inD x ds))) else none
 | [x,.lst ds]=>if cP ds<=40 then some (.t (.bl (inD x ds))) else none
 | [.str i,.str j]=>some (.t (.bl (!(Builtin.Str.occurrences j i 0 j.length 1).isEmpty)))
 | _=>none
def EX:List D->Option U
 | [x,.tup ds]=>if cP ds<=40 then some (.t (.bl (!inD x ds))) else none
 | [x,.lst ds]=>if cP ds<=40 then some (.t (.bl (!inD x ds))) else none
 | [.str i,.str j]=>some (.t (.bl (!(!(Builtin.Str.occurrences j i 0 j.length 1).isEmpty))))
 | _=>none
def RelV.uniq {v w':V}{u:Value}(a:RelV v u) (b:RelV w' u):v=w':=by
 cases v <;> cases w' <;> simp only[RelV] at a b <;> first
  | rfl
  | (subst a;cases b;done)
  | (subst a;cases b;rfl)
  | (obtain⟨t,rfl⟩:=a;obtain⟨t',e⟩:=b;cases e;done)
  | (obtain⟨t,rfl⟩:=a;obtain⟨t',e⟩:=b;cases e;rfl)
  | (obtain⟨t,rfl⟩:=a;cases b;done)
  | (obtain⟨t,rfl⟩:=b;cases a;done)
open Classical in
def zQ (F:Hp) (d:D) (y:Value):Bool:=if h:∃(v:V) (dd:D),RelV v y/\Rep F v dd then nI (Classical.choose (aeC h)) d else false
def LC {v:V}{dd d:D}{y:Value}(a:RelV v y) (r:Rep F v dd):zQ F d y=nI dd d:=by
 unfold zQ
 have h:∃(v:V) (dd:D),RelV v y/\Rep F v dd:=⟨v,dd,a,r⟩
 rw[dif_pos h]
 have k:=aeC (aeC h)
 have e1:=RelV.uniq k.1 a
 have r':Rep F (Classical.choose h) dd:=by rw[e1];exact r
 rw[Rep.uniq k.2 r']
theorem mW (I:Inv X pins σ H s) (sb:Sub F H){A:Around}{x:V}{u:Value}{d:D}(r:Rep F x d) (rx:RelV x u):∀{vs:List V}{ds:List D}{its:AAL},bH F vs ds->Vals vs its->A.units+cP ds < cLine->
  (∀y∈its,SeqAt.EqAt A s y u (zQ F d y))/\its.any (zQ F d)=inD d ds
 | _,_,_,.nil,.nil,_=>⟨(fun y hy=>absurd hy (by simp)),rfl⟩
 | _,_,_,@bH.cons _ v dd vs ds r1 rs,.cons q qs,hu=>by
  have hd:A.units+max (gC dd) (cP ds) < cLine:=hu
  obtain⟨h1,h2⟩:=mW I sb (A:=A) r rx rs qs (by lia)
  refine⟨fun y hy=>?_,?_⟩
  ·rcases aaA.mp hy with rfl | hy
   ·rw[LC q r1];exact Ry I sb dd r1 r q rx (by lia)
   ·exact h1 y hy
  ·rw[acm,h2,LC q r1]
   rfl
def EY (hu:X.A.units+64 < cLine):CB X (compareOp .In) JZ:=by
 intro pins s σ H x y v u Q I rx ry ⟨F,ds,w,sb,rs,hw,q⟩
 obtain⟨d,e,rfl,r1,r2⟩:=vW rs
 cases e with
 | tup ds=>
  obtain⟨hd,rfl⟩:=bV (show(if cP ds<=40 then some (U.t (.bl (inD d ds))) else none)=some w by cases d <;> exact hw)
  obtain⟨a,vs,rfl,fa,ha,rs⟩:=sb.kQ r2
  cases ry
  obtain⟨its,rv,p⟩:=sb.isTup I fa
  obtain⟨h1,h2⟩:=mW I sb (A:=X.A.in1) r1 rx rs rv (by show X.A.units+1+cP ds < cLine;lia)
  refine SeqAt.in_tupleAt (zQ F d) p (fun y hy=>h1 y (by simpa using hy)) ⟨.bl _,H,I,rfl,?_⟩
  rw[show its.toArray.any (zQ F d)=its.any (zQ F d) by simp,h2]
  exact q _ F H (gK.refl ..) sb (.bl _)
 | lst ds=>
  obtain⟨hd,rfl⟩:=bV (show(if cP ds<=40 then some (U.t (.bl (inD d ds))) else none)=some w by cases d <;> exact hw)
  obtain⟨a,vs,rfl,fa,ha,rs⟩:=sb.i7 r2
  cases ry
  obtain⟨its,rv,p⟩:=sb.eL I fa
  obtain⟨h1,h2⟩:=mW I sb (A:=X.A.in1) r1 rx rs rv (by show X.A.units+1+cP ds < cLine;lia)
  refine SeqAt.in_listAt (zQ F d) p (fun y hy=>h1 y (by simpa using hy)) ⟨.bl _,H,I,rfl,?_⟩
  rw[show its.toArray.any (zQ F d)=its.any (zQ F d) by simp,h2]
  exact q _ F H (gK.refl ..) sb (.bl _)
 | str j=>
  cases d <;> try (cases hw;done)
  rename_i i
  cases hw
  cases r1
  cases r2
  exact HN pins s σ H _ _ v u Q I rx ry ⟨i,j,rfl,rfl,q _ F H (gK.refl ..) sb (.bl _)⟩
 | cU=>cases d <;> (cases hw;done)
 | bl b=>cases d <;> (cases hw;done)
 | int b=>cases d <;> (cases hw;done)
def Im (hu:X.A.units+64 < cLine):CB X (compareOp .NotIn) EX:=by
 intro pins s σ H x y v u Q I rx ry ⟨F,ds,w,sb,rs,hw,q⟩
 obtain⟨d,e,rfl,r1,r2⟩:=vW rs
 cases e with
 | tup ds=>
  obtain⟨hd,rfl⟩:=bV (show(if cP ds<=40 then some (U.t (.bl (!inD d ds))) else none)=some w by cases d <;> exact hw)
  obtain⟨a,vs,rfl,fa,ha,rs⟩:=sb.kQ r2
  cases ry
  obtain⟨its,rv,p⟩:=sb.isTup I fa
  obtain⟨h1,h2⟩:=mW I sb (A:=X.A.in1) r1 rx rs rv (by show X.A.units+1+cP ds < cLine;lia)
  refine SeqAt.notIn_tupleAt (zQ F d) p (fun y hy=>h1 y (by simpa using hy)) ⟨.bl _,H,I,rfl,?_⟩
  rw[show its.toArray.any (zQ F d)=its.any (zQ F d) by simp,h2]
  exact q _ F H (gK.refl ..) sb (.bl _)
 | lst ds=>
  obtain⟨hd,rfl⟩:=bV (show(if cP ds<=40 then some (U.t (.bl (!inD d ds))) else none)=some w by cases d <;> exact hw)
  obtain⟨a,vs,rfl,fa,ha,rs⟩:=sb.i7 r2
  cases ry
  obtain⟨its,rv,p⟩:=sb.eL I fa
  obtain⟨h1,h2⟩:=mW I sb (A:=X.A.in1) r1 rx rs rv (by show X.A.units+1+cP ds < cLine;lia)
  refine SeqAt.notIn_listAt (zQ F d) p (fun y hy=>h1 y (by simpa using hy)) ⟨.bl _,H,I,rfl,?_⟩
  rw[show its.toArray.any (zQ F d)=its.any (zQ F d) by simp,h2]
  exact q _ F H (gK.refl ..) sb (.bl _)
 | str j=>
  cases d <;> try (cases hw;done)
  rename_i i
  cases hw
  cases r1
  cases r2
  exact Bs pins s σ H _ _ v u Q I rx ry ⟨i,j,rfl,rfl,q _ F H (gK.refl ..) sb (.bl _)⟩
 | cU=>cases d <;> (cases hw;done)
 | bl b=>cases d <;> (cases hw;done)
 | int b=>cases d <;> (cases hw;done)
end
def yt (T:String) (d:D):Option Bool:=match T with
 | "tuple"=>some (Lb d)
 | "list"=>some (Lc d)
 | "str"=>some (rN d)
 | "bool"=>some (Rr d)
 | "int"=>some (Ld d)
 | _=>none
def LD {d:D}{b:Bool}(h:yt T d=some b):PySem.W.kitOne K (.type (Tg d)) (.type T)=some b:=by
 unfold yt at h
 split at h
 ·cases h;exact OV d
 ·cases h;exact OW d
 ·cases h;exact Le d
 ·cases h;exact Th d
 ·cases h;exact OX d
 ·cases h
def rA:List String->D->Option Bool
 | [],_=>some false
 | T :: Ts,d=>match yt T d with
  | some true=>some true
  | some false=>rA Ts d
  | none=>none
section
variable {X:Cx}{pins:AAG}{σ:St}{F H:Hp}{s:Shared}
def O9 (I:Inv X pins σ H s) (sb:Sub F H){x:V}{u:Value}{d:D}{c:Value}{b:Bool}(r:Rep F x d) (rx:RelV x u) (e:PySem.W.kitOne X.K (.type (Tg d)) c=some b) (h:∀tk,Q (.bool b) {s with toks:=tk}):
  wpAny (model X.prog X.w) A (call (.builtin "isinstance") [u,c]) Q E s:=by
 cases r with
 | cU=>cases rx;exact adS PySem.W.kitx_none I.xP True.intro e (fun z=>nomatch z) h
 | bl y=>cases rx;exact adS PySem.W.kitx_bool I.xP True.intro e (fun z=>nomatch z) h
 | int i=>obtain⟨t,rfl⟩:=rx;exact adS PySem.W.kitx_int I.xP True.intro e (fun z=>nomatch z) h
 | str y=>obtain⟨t,rfl⟩:=rx;exact adS PySem.W.kitx_str I.xP True.intro e (fun z=>nomatch z) h
 | tup ea _=>
  cases rx
  obtain⟨its,_,o,h1,h2,_⟩:=sb.isTup I ea
  exact adS PySem.W.kitx_tuple I.xP ⟨o,h1,h2⟩ e (fun z=>nomatch z) h
 | lst ea _=>
  cases rx
  obtain⟨its,_,o,h1,h2,_⟩:=sb.eL I ea
  exact adS PySem.W.kitx_list I.xP ⟨o,h1,h2⟩ e (fun z=>nomatch z) h
end
def Y4 (Ts:List String) (g:GD):GD:=fun S=>(g S).bind fun p=>(rA Ts p.1).map fun b=>(.bl b,p.2)
section
variable {X:Cx}{a b c e:Expr}{es:List Expr}{pos p p2 px:Pos}{x y:Str}{g ga gb gc:GD}{gA:GA}
def Io {d:D}{b:Bool}(h:rA [T] d=some b):yt T d=some b:=by
 unfold rA at h
 cases e:yt T d with
 | none=>rw[e] at h;cases h
 | some k=>rw[e] at h;cases k <;> exact h
def AH (hg:Gl X "isinstance") (hm:X.mg "isinstance" =none) (Tq:Gl X y) (hm2:X.mg y=none) (hv2:bootBuiltins y=some (.type T)) (ha:JD X a ga) (hn2:y≠"__name__":=by decide) (hd2:(y == ("__debug__":Str))=false:=by decide)
  (hs:starEach [a,.Name y px] X.env=(false,eval a X.env) :: starEach [.Name y px] X.env:=by rfl) (hs2:starEach [.Name y px] X.env=(false,eval (.Name y px) X.env) :: starEach [] X.env:=by rfl) (hpl:(backTo pos (starEach [.Name y px] X.env)).any (·.1)=false:=by rfl):
  JD X (.Call (.Name "isinstance" p) [a,.Name y px] [] pos) (Y4 [T] ga):=⟨fun B=>
 (mQ (r:=fun xs H Q=>∃x F d b,xs=[x,.ty T]/\Sub F H/\Rep F x d/\yt T d=some b/\Q (.bl b) H) (fun pins s σ H xs us Q I r hh=>by
   obtain⟨x,F,d,b,e1,sb,rd,hk,q⟩:=hh
   subst e1
   obtain⟨u,w',rfl,ru,rw'⟩:=vals2 r
   cases rw'
   exact O9 I sb rd ru (LD hk) fun tk=>⟨.bl b,H,I.tok tk,rfl,q⟩) hg hm PyProof.Rows.Boot.isinstance (qy (ha.h B) (qy (Oj (v:=.ty T) Tq hm2 hv2 rfl hn2 hd2) Bu hs2) hs) (by decide) (by decide) hs hpl).imp fun σ H Q hh=>by
 obtain⟨S,F,d,S',R,hg,q⟩:=hh
 obtain⟨⟨d1,S1⟩,h1,hg⟩:=ak hg
 obtain⟨k,h2,hg⟩:=aF hg
 cases hg
 exact⟨S,F,d1,_,R,h1,fun v F1 H1 R1 st1 r1=>⟨v,F1,d1,k,rfl,R1.sub,r1,Io h2,q _ F1 H1 R1 st1 (.bl k)⟩⟩⟩
noncomputable def jE:List D->Option (List Bool)
 | []=>some []
 | .bl b :: ds=>(jE ds).map fun bs=>b :: bs
 | _=>none
theorem pF {F:Hp}:∀{vs:List V}{ds:List D}{bs:List Bool},bH F vs ds->jE ds=some bs->vs=bs.map V.bl
 | _,_,_,.nil,h=>by cases h;rfl
 | _,_,_,@bH.cons _ v d vs ds r rs,h=>by
  cases d <;> try (cases h;done)
  obtain⟨bs,h1,h2⟩:=aF (show(jE ds).map _=_ from h)
  subst h2
  rw[nC r,pF rs h1]
  rfl
def Tr:List D->Option U
 | [.lst ds]=>(jE ds).map fun bs=>.t (.bl (bs.all id))
 | _=>none
def EZ:List D->Option U
 | [.lst ds]=>(jE ds).map fun bs=>.t (.bl (bs.any id))
 | _=>none
def BN {P:D->Prop}{F:Hp}{f:List D->Option U}{w':U}(rs:bH F xs ds) (h:f ds=some w') (hn:f []=none) (h2:∀a b r,f (a :: b :: r)=none):∃x d,xs=[x]/\ds=[d]/\Rep F x d:=by
 cases rs with
 | nil=>rw[hn] at h;cases h
 | cons r rs=>
  cases rs with
  | nil=>exact⟨_,_,rfl,rfl,r⟩
  | cons _ _=>rw[h2] at h;cases h
def Ip (hc:X.calm=true):gJ X (.builtin "all") (rP Tr):=by
 intro pins s σ H xs us Q I r ⟨F,ds,w,sb,rs,hw,q⟩
 obtain⟨x,d,rfl,rfl,r1⟩:=BN (P:=fun _=>True) rs hw rfl (fun d _ _=>by cases d <;> rfl)
 cases d <;> try (cases hw;done)
 rename_i ds
 obtain⟨bs,h1,rfl⟩:=aF (show(jE ds).map _=some w from hw)
 obtain⟨a,vs,rfl,fa,ha,sX⟩:=sb.i7 r1
 obtain rfl:=pF sX h1
 exact Ic hc pins s σ H _ us Q I r ⟨a,bs,rfl,.inl ha,q _ F H (gK.refl ..) sb (.bl _)⟩
def Iq (hc:X.calm=true):gJ X (.builtin "any") (rP EZ):=by
 intro pins s σ H xs us Q I r ⟨F,ds,w,sb,rs,hw,q⟩
 obtain⟨x,d,rfl,rfl,r1⟩:=BN (P:=fun _=>True) rs hw rfl (fun d _ _=>by cases d <;> rfl)
 cases d <;> try (cases hw;done)
 rename_i ds
 obtain⟨bs,h1,rfl⟩:=aF (show(jE ds).map _=some w from hw)
 obtain⟨a,vs,rfl,fa,ha,sX⟩:=sb.i7 r1
 obtain rfl:=pF sX h1
 exact Ie hc pins s σ H _ us Q I r ⟨a,bs,rfl,.inl ha,q _ F H (gK.refl ..) sb (.bl _)⟩
noncomputable def GV:List D->Option U
 | [.int i,.int j,.int k]=>some (.t (.int (if j < i then(if k < j then k else j) else if k < i then k else i)))
 | _=>none
def E1 (hc:X.calm=true):gJ X (.builtin "min") (rP GV):=by
 intro pins s σ H xs us Q I r ⟨F,ds,w,sb,rs,hw,q⟩
 unfold GV at hw
 split at hw
 ·rename_i i j k
  cases hw
  cases rs with
  | cons r1 rs=>cases rs with
   | cons r2 rs=>cases rs with
    | cons r3 rs=>
     cases rs
     rw[gM r1,gM r2,gM r3] at r
     exact Ih hc pins s σ H _ us Q I r ⟨i,j,k,rfl,q _ F H (gK.refl ..) sb (.int _)⟩
 ·cases hw
noncomputable def XE:List D->Option U
 | [.int i,.int j]=>some (.t (.int (if j < i then j else i)))
 | _=>none
noncomputable def GW:List D->Option U
 | [.int i,.int j]=>some (.t (.int (if j > i then j else i)))
 | _=>none
def E2 (hc:X.calm=true):gJ X (.builtin "max") (rP GW):=by
 intro pins s σ H xs us Q I r ⟨F,ds,w,sb,rs,hw,q⟩
 unfold GW at hw
 split at hw
 ·rename_i i j
  cases hw
  cases rs with
  | cons r1 rs=>cases rs with
   | cons r2 rs=>
    cases rs
    rw[gM r1,gM r2] at r
    exact HP hc pins s σ H _ us Q I r ⟨i,j,rfl,q _ F H (gK.refl ..) sb (.int _)⟩
 ·cases hw
noncomputable def Rz:List D->Option U
 | [.tup ds]=>some (.m (.lst ds))
 | [.lst ds]=>some (.m (.lst ds))
 | _=>none
noncomputable def BO:List D->Option U
 | [.tup ds]=>some (.t (.tup ds))
 | [.lst ds]=>some (.t (.tup ds))
 | _=>none
def De:gJ X (.type "tuple") (rP BO):=by
 intro pins s σ H xs us Q I r ⟨F,ds,w,sb,rs,hw,q⟩
 obtain⟨x,d,rfl,rfl,r1⟩:=BN (P:=fun b=>True) rs hw rfl (fun d b b=>by cases d <;> rfl)
 cases d <;> try (cases hw;done)
 ·cases hw
  have r0:=r1
  obtain⟨a,vs,rfl,fa,ha,sX⟩:=sb.kQ r1
  exact q8 pins s σ H _ us Q I r ⟨a,vs,rfl,.inr ⟨.inl ha,q _ F H (gK.refl ..) sb r0⟩⟩
 ·cases hw
  obtain⟨a,vs,rfl,fa,ha,sX⟩:=sb.i7 r1
  exact q8 pins s σ H _ us Q I r ⟨a,vs,rfl,.inl ⟨.inl ha,fun p hp=>q _ _ _ (gK.root sb hp _) (sb.uN hp) (.tup bq (sX.le (mj (sb.fresh hp))))⟩⟩
end
def o7.ky {k:Key}(e:H a=some (.dK kvs)) (h:S4 y k):o7 H a y (rM kvs k):=.inl ⟨kvs,k,.inl e,h,rfl⟩
def CQ.ky {k:Key}{v:V}(e:H a=some (.dK kvs)) (h:S4 y k) (hl:kvs.length < sizeLine):CQ H a y v (upd H a (.dK (putK kvs k v))):=.inl ⟨kvs,k,e,h,hl,rfl⟩
def keyOf:D->Option Key
 | .bl b=>some (.inl (bI b))
 | .int i=>some (.inl i)
 | .str z=>some (.inr z)
 | _=>none
def qG {F:Hp}{v:V}{d:D}{k:Key}(r:Rep F v d) (h:keyOf d=some k):S4 v k:=by
 cases r <;> cases h <;> first | exact .inl rfl | exact .inr ⟨_,rfl,rfl⟩
noncomputable def b7 {κ:Type} [DecidableEq κ] (kvs:List (κ×D)) (k:κ):Option D:=(kvs.find? fun kv=>decide (kv.1=k)).map (·.2)
noncomputable def putD {κ:Type} [DecidableEq κ] (kvs:List (κ×D)) (k:κ) (d:D):List (κ×D):=
 if(kvs.any fun kv=>decide (kv.1=k))=true then kvs.map (fun kv=>if kv.1=k then(kv.1,d) else kv) else kvs++[(k,d)]
theorem qH {κ:Type} [DecidableEq κ] {F:Hp}{k:κ}{d:D}:∀{ws:List (κ×V)}{kvs:List (κ×D)},Paired (fR F) ws kvs->b7 kvs k=some d->∃v,rM ws k=some v/\Rep F v d
 | _,_,.nil,h=>by cases h
 | _,_,@Paired.cons _ _ _ p q ws kvs r rs,h=>by
  by_cases e:q.1=k
  ·have e':p.1=k:=r.1.trans e
   refine⟨p.2,sS e',?_⟩
   have:b7 (q :: kvs) k=some q.2:=by simp[b7,ab4,e]
   rw[this] at h
   cases h
   exact r.2
  ·have e':¬p.1=k:=fun z=>e (r.1.symm.trans z)
   have:b7 (q :: kvs) k=b7 kvs k:=by simp[b7,ab4,e]
   rw[this] at h
   obtain⟨v,h1,h2⟩:=qH rs h
   exact⟨v,by rw[oY e'];exact h1,h2⟩
theorem AI {κ:Type} [DecidableEq κ] {F:Hp}{k:κ}:∀{ws:List (κ×V)}{kvs:List (κ×D)},Paired (fR F) ws kvs->b7 kvs k=none->rM ws k=none
 | _,_,.nil,h=>rfl
 | _,_,@Paired.cons _ _ _ p q ws kvs r rs,h=>by
  by_cases e:q.1=k
  ·have:b7 (q :: kvs) k=some q.2:=by simp[b7,ab4,e]
   rw[this] at h
   cases h
  ·have e':¬p.1=k:=fun z=>e (r.1.symm.trans z)
   have:b7 (q :: kvs) k=b7 kvs k:=by simp[b7,ab4,e]
   rw[this] at h
   rw[oY e']
   exact AI rs h
theorem Dg {κ:Type} [DecidableEq κ] {F:Hp}{k:κ}:∀{ws:List (κ×V)}{kvs:List (κ×D)},Paired (fR F) ws kvs->(ws.any fun kv=>decide (kv.1=k))=(kvs.any fun kv=>decide (kv.1=k))
 | _,_,.nil=>rfl
 | _,_,.cons r rs=>by rw[acm,acm,Dg rs,r.1]
theorem Dh {κ:Type} [DecidableEq κ] {F:Hp}{k:κ}{v:V}{d:D}(r:Rep F v d):∀{ws:List (κ×V)}{kvs:List (κ×D)},Paired (fR F) ws kvs->Paired (fR F) (ws.map fun kv=>if kv.1=k then(kv.1,v) else kv) (kvs.map fun kv=>if kv.1=k then(kv.1,d) else kv)
 | _,_,.nil=>.nil
 | _,_,@Paired.cons _ _ _ p q ws kvs h hs=>by
  refine .cons ?_ (Dh r hs)
  show fR F (if p.1=k then(p.1,v) else p) (if q.1=k then(q.1,d) else q)
  rw[h.1]
  by_cases e:q.1=k
  ·rw[if_pos e,if_pos e];exact⟨rfl,r⟩
  ·rw[if_neg e,if_neg e];exact h
theorem vZ {α β:Type}{P:α->β->Prop}{x:α}{y:β}(p:P x y):∀{l:List α}{r:List β},Paired P l r->Paired P (l++[x]) (r++[y])
 | _,_,.nil=>.cons p .nil
 | _,_,.cons q qs=>.cons q (vZ p qs)
def yu {κ:Type} [DecidableEq κ] {F:Hp}{k:κ}{v:V}{d:D}{ws:List (κ×V)}{kvs:List (κ×D)}(h:Paired (fR F) ws kvs) (r:Rep F v d):Paired (fR F) (putK ws k v) (putD kvs k d):=by
 unfold putK putD
 rw[Dg h]
 by_cases e:(kvs.any fun kv=>decide (kv.1=k))=true
 ·rw[if_pos e,if_pos e];exact Dh r h
 ·rw[if_neg e,if_neg e];exact vZ ⟨rfl,r⟩ h
def wM:D->Option D
 | .tup ds=>if fK 8 (.tup ds)=true then some (nf (.tup ds)) else none
 | _=>none
def tG {F:Hp}{v:V}{d:D}{ks:D}(sb:Sub F H) (r:Rep F v d) (h:wM d=some ks):∃b,v= .ref b/\Kd H b ks:=by
 cases r with
 | @tup a vs ds e rs=>
  obtain⟨h1,h2⟩:=bV (show(if fK 8 (.tup ds)=true then some (nf (.tup ds)) else none)=some ks from h)
  subst h2
  exact⟨a,rfl,_,Rep.le sb (.tup e rs),h1,rfl⟩
 | cU=>cases h
 | bl _=>cases h
 | int _=>cases h
 | str _=>cases h
 | lst _ _=>cases h
def rB:U->D->Option D
 | .t (.tup ds),.int i=>gz ds i
 | .t (.lst ds),.int i=>gz ds i
 | .m (.lst ds),.int i=>gz ds i
 | .b (.lst ds),.int i=>gz ds i
 | .s ns,.int i=>(gz ns i).map D.int
 | .m (.dct kvs),k=>(keyOf k).bind (b7 kvs)
 | .b (.dct kvs),k=>(keyOf k).bind (b7 kvs)
 | .m (.cI kvs),k=>(wM k).bind (b7 kvs)
 | .b (.cI kvs),k=>(wM k).bind (b7 kvs)
 | _,_=>none
def cD (i:Nat) (gb:GD):GD:=fun S=>match S[i]? with
 | some (some _)=>(gb S).bind fun p=>match p.2[i]? with
  | some (some u)=>(rB u p.1).map fun d=>(d,p.2)
  | _=>none
 | _=>none
def GX (f:α->β){l:List α}{i:Int}{x:α}(h:gz l i=some x):gz (l.map f) i=some (f x):=by
 unfold gz at h ⊢
 rw[aaw]
 obtain⟨j,h1,h2⟩:=ak h
 rw[h1]
 show(l.map f)[j]? =_
 rw[aaO,h2]
 rfl
section
variable {X:Cx}{a b c e value:Expr}{es:List Expr}{pos p p2 px pos':Pos}{x y:Str}{g ga gb gc gk gv:GD}{gA:GA}
def Tt (hu:X.A.units+20 < cLine) (hb:JD X b gb) (hs:xu b:=by first | (intro _ _;rfl)) (hN:X.N[i]? =some x:=by rfl) (hv:An X.env.scope x:=by first | exact Or.inl rfl | exact Or.inr (Or.inl rfl) | exact Or.inr (Or.inr rfl))
  (hd:(x == ("__debug__":Str))=false:=by decide) (hcd:(x == ("__classdict__":Str))=false:=by decide):JD X (.Subscript (.Name x px) b pos) (cD i gb):=⟨fun B=>PE.orelse fun σ H Q hh=>by
 obtain⟨S,F,d,S',R,hg,q⟩:=hh
 unfold cD at hg
 split at hg
 ·rename_i u0 LF
  obtain⟨v0,hv0,_⟩:=R.rep i u0 LF
  obtain⟨⟨k,S1⟩,h1,hg⟩:=ak hg
  dsimp only at hg
  split at hg
  ·rename_i u hS
   obtain⟨d',hr,hg⟩:=aF hg
   cases hg
   have GQ:∀F1 H1,Rel X.K B S' σ F1 H1->BG X.K F1 H1 v0 u:=fun F1 H1 R1=>by
    obtain⟨v,k1,k2⟩:=R1.rep i u hS
    rw[hv0] at k1
    cases k1
    exact k2
   have seq:∀(Y:V->V->Hp->VK->Prop),PE X (.Subscript (.Name x px) b pos) (VN Y (Oi i) (tD X.K B gb))->(∀v F1 H1,Rel X.K B S' σ F1 H1->Step S S' σ F H F1 H1->Rep F1 v k->Y v0 v H1 Q)->∃t',PE X (.Subscript (.Name x px) b pos) t'/\t' σ H Q:=fun Y hY h=>
    ⟨_,hY,v0,hv0,S,F,k,S',R,h1,fun v F1 H1 R1 st1 r1=>h v F1 H1 R1 st1 r1⟩
   have dict:∀kvs,(∀F1 H1,Rel X.K B S' σ F1 H1->∃a ws,v0= .ref a/\H1 a=some (.dK ws)/\Paired (fR F1) ws kvs)->(keyOf k).bind (b7 kvs)=some d->∃t',PE X (.Subscript (.Name x px) b pos) t'/\t' σ H Q:=fun kvs hat hr=>by
    obtain⟨kk,e1,e2⟩:=ak hr
    refine⟨_,Gv hu (gw hN hv hd hcd) (hb.h B) hs,v0,hv0,S,F,k,S',R,h1,fun v F1 H1 R1 st1 r1=>?_⟩
    obtain⟨a,ws,rfl,ha,pr⟩:=hat F1 H1 R1
    obtain⟨w',z1,z2⟩:=qH pr e2
    exact⟨a,w',rfl,by rw[<-z1];exact o7.ky ha (qG r1 e1),q w' F1 H1 R1 st1 z2⟩
   have Di:∀kvs,(∀F1 H1,Rel X.K B S' σ F1 H1->∃a ws,v0= .ref a/\H1 a=some (.dT ws)/\Paired (fR F1) ws kvs)->(wM k).bind (b7 kvs)=some d->∃t',PE X (.Subscript (.Name x px) b pos) t'/\t' σ H Q:=fun kvs hat hr=>by
    obtain⟨kk,e1,e2⟩:=ak hr
    refine⟨_,Gv hu (gw hN hv hd hcd) (hb.h B) hs,v0,hv0,S,F,k,S',R,h1,fun v F1 H1 R1 st1 r1=>?_⟩
    obtain⟨a,ws,rfl,ha,pr⟩:=hat F1 H1 R1
    obtain⟨w',z1,z2⟩:=qH pr e2
    obtain⟨b',rfl,hb'⟩:=tG R1.sub r1 e1
    exact⟨a,w',rfl,by rw[<-z1];exact o7.t ha hb',q w' F1 H1 R1 st1 z2⟩
   have list:∀ds ii,k= .int ii->gz ds ii=some d->(∀F1 H1,Rel X.K B S' σ F1 H1->∃a vs,v0= .ref a/\(oO X.K H1 a vs\/Ao X.K H1 a vs)/\bH F1 vs ds)->∃t',PE X (.Subscript (.Name x px) b pos) t'/\t' σ H Q:=fun ds ii ek hrr hat=>by
    subst ek
    refine seq _ (KW K0 (gw hN hv hd hcd) (hb.h B) hs) fun v F1 H1 R1 st1 r1=>?_
    obtain⟨a,vs,rfl,ha,rs⟩:=hat F1 H1 R1
    obtain⟨w',z1,z2⟩:=rs.gz hrr
    rw[gM r1]
    rcases ha with ha | ha
    ·exact .inl ⟨a,vs,ii,w',rfl,rfl,ha,z1,q w' F1 H1 R1 st1 z2⟩
    ·exact .inr (.inl ⟨a,vs,ii,w',rfl,rfl,ha,z1,q w' F1 H1 R1 st1 z2⟩)
   unfold rB at hr
   split at hr
   ·rename_i ds ii
    exact list ds ii rfl hr fun F1 H1 R1=>let⟨a,vs,e1,fa,ha,rs⟩:=R1.sub.kQ (GQ F1 H1 R1);⟨a,vs,e1,.inr (.inl ha),rs⟩
   ·rename_i ds ii
    exact list ds ii rfl hr fun F1 H1 R1=>let⟨a,vs,e1,fa,ha,rs⟩:=R1.sub.i7 (GQ F1 H1 R1);⟨a,vs,e1,.inl (.inl ha),rs⟩
   ·rename_i ds ii
    exact list ds ii rfl hr fun F1 H1 R1=>let⟨a,e1,fa,vs,ha,rs⟩:=GQ F1 H1 R1;⟨a,vs,e1,.inl (oO.of ha),rs⟩
   ·rename_i ds ii
    exact list ds ii rfl hr fun F1 H1 R1=>let⟨a,e1,fa,vs,ha,rs⟩:=GQ F1 H1 R1;⟨a,vs,e1,.inl (oO.of ha),rs⟩
   ·rename_i ns ii
    obtain⟨n,z1,z2⟩:=aF hr
    subst z2
    refine seq _ (KW K0 (gw hN hv hd hcd) (hb.h B) hs) fun v F1 H1 R1 st1 r1=>?_
    obtain⟨a,e1,ha⟩:=GQ F1 H1 R1
    rw[gM r1]
    exact .inl ⟨a,ns.map V.int,ii,.int n,e1,rfl,ha.sq,GX V.int z1,q _ F1 H1 R1 st1 (.int n)⟩
   ·rename_i kvs
    exact dict kvs (fun F1 H1 R1=>let⟨a,e1,fa,ws,ha,pr⟩:=GQ F1 H1 R1;⟨a,ws,e1,ha,pr⟩) hr
   ·rename_i kvs
    exact dict kvs (fun F1 H1 R1=>let⟨a,e1,fa,ws,ha,pr⟩:=GQ F1 H1 R1;⟨a,ws,e1,ha,pr⟩) hr
   ·rename_i kvs
    exact Di kvs (fun F1 H1 R1=>let⟨a,e1,fa,ws,ha,pr⟩:=GQ F1 H1 R1;⟨a,ws,e1,ha,pr⟩) hr
   ·rename_i kvs
    exact Di kvs (fun F1 H1 R1=>let⟨a,e1,fa,ws,ha,pr⟩:=GQ F1 H1 R1;⟨a,ws,e1,ha,pr⟩) hr
   ·cases hr
  ·cases hg
 ·cases hg⟩
noncomputable def BP:U->Option Nat
 | .t (.tup ds)=>some ds.length
 | .t (.lst ds)=>some ds.length
 | .t (.str z)=>if z.length<=100000 then some z.length else none
 | .m (.lst ds)=>some ds.length
 | .b (.lst ds)=>some ds.length
 | .m (.dct ds)=>some ds.length
 | .b (.dct ds)=>some ds.length
 | .m (.cI ds)=>some ds.length
 | .b (.cI ds)=>some ds.length
 | .s ns=>some ns.length
 | _=>none
def jd (i:Nat):GD:=fun S=>match S[i]? with
 | some (some u)=>(BP u).map fun n=>(.int (n:Nat),S)
 | _=>none
theorem dG {α β:Type}{P:α->β->Prop}:∀{l:List α}{r:List β},Paired P l r->l.length=r.length
 | _,_,.nil=>rfl
 | _,_,.cons _ ps=>congrArg Nat.succ (dG ps)
def E3 {K:Type} [DecidableEq K] (knd:HeapKind prog w K) (d:Addr) (hd:(d == sysModules)=false):
  MeetsIn prog w (Builtin.«dict.__len__» ⟨[.ref d],[]⟩) (fun a R s=>∃xs,s.heap.DictOfH knd d xs/\R (.ok (.ret (.int xs.length s.toks))) {s with toks:=s.toks+1}):=
 .of_wp fun A R s hh=>by
  obtain⟨xs,hm,h⟩:=hh
  obtain⟨o,es,ep,ho,hc,hdat,he,his,hn⟩:=hm
  show wpAny _ _ (dictSize d >>= _) _ _ s
  unfold dictSize
  refine aae (aae (wpAny_dictEntries ho hdat (aag ?_)))
  show wpAny _ _ (Builtin.Dict.pendingCount d >>= _) _ _ s
  refine aae (wpAny_pendingCount_other hd ?_)
  refine wpAny_ret_mkInt ?_
  rw[Nat.add_zero,size_of_entries he];exact h
def Ir {K:Type} [DecidableEq K] {knd:HeapKind prog w K}{s:Shared}{d:Addr}{xs:List (K×Addr×Value)}(hd:(d == sysModules)=false) (hm:s.heap.DictOfH knd d xs) (hfit:(xs.length:Int) < 2 ^ 63)
  (h:Q (.int xs.length (s.toks+1)) {s with toks:=s.toks+1+1}):wpAny (model prog w) A (Builtin.«len» ⟨[.ref d],[]⟩) (fun fin s'=>∃r,fin= .done (.ret r)/\Q r s') E s:=by
 unfold Builtin.«len»
 refine aae (m:=oneArg "len" _) (aag ?_)
 refine aae (m:=callSpecial? (.ref d) (Str.ofString "__len__")) (acE (name:=Str.ofString "__len__") hm.typeIs F.slot_dict_len
  (call_meetsIn F.slot_dict_len hm.typeIs F.entry_dict_len (F.args_dict_len_1 _) (E3 knd d hd) ⟨xs,hm,?_⟩))
 show wpAny _ _ _ _ _ {s with toks:=s.toks+1}
 refine aae (acW (aag ?_))
 refine aae (ad8 ?_)
 show wpAny _ _ (if((xs.length:Nat):Int) < 0 then _ else _) _ _ _
 rw[if_neg (by lia)]
 show wpAny _ _ (if((xs.length:Nat):Int)≥2 ^ 63 then _ else _) _ _ _
 rw[if_neg (by lia)]
 exact aae (wpAny_mkInt (aag ⟨_,rfl,h⟩))
def E4:gJ X (.builtin "len") (fun xs H Q=>∃a kvs,xs=[V.ref a]/\H a=some (.dT kvs)/\Q (.int kvs.length) H):=by
 intro pins s σ H xs us Q I r h
 obtain⟨a,kvs,rfl,ha,q⟩:=h
 obtain⟨u,rfl,ru⟩:=vals1 r
 cases ru
 obtain⟨z,hd,ys,rel,dd⟩:=Rq I.hok ha
 have hl:kvs.length=ys.length:=afk rel
 refine Calls.call_function_entry kind_len plain_len entry_len (args_len1 _) (Ir hd dd (by rw[<-hl];rw[afa] at z;lia) ?_)
 rw[<-hl]
 exact⟨.int kvs.length,H,I.tok _,⟨_,rfl⟩,q⟩
def gD (hg:Gl X "len") (hm:X.mg "len" =none) (hN:X.N[i]? =some x:=by rfl) (hv:An X.env.scope x:=by first | exact Or.inl rfl | exact Or.inr (Or.inl rfl) | exact Or.inr (Or.inr rfl))
  (hd:(x == ("__debug__":Str))=false:=by decide) (hcd:(x == ("__classdict__":Str))=false:=by decide) (he:starEach [.Name x px] X.env=(false,eval (.Name x px) X.env) :: starEach [] X.env:=by rfl) (hpl:(backTo pos (starEach [] X.env)).any (·.1)=false:=by rfl):
  JD X (.Call (.Name "len" p) [.Name x px] [] pos) (jd i):=⟨fun B=>PE.orelse fun σ H Q hh=>by
 obtain⟨S,F,d,S',R,hg',q⟩:=hh
 unfold jd at hg'
 split at hg'
 ·rename_i u hS
  obtain⟨n,hn,hg'⟩:=aF hg'
  cases hg'
  obtain⟨v0,hv0,r0⟩:=R.rep i u hS
  have fin:=q (.int n) F H R (Step.refl ..) (.int _)
  have arg:PA X [.Name x px] (Rk (Oi i) Oz):=qy (gw hN hv hd hcd) Bu he
  have list:∀a vs,v0= .ref a->(oO X.K H a vs\/Ao X.K H a vs)->vs.length=n->∃t',PE X (.Call (.Name "len" p) [.Name x px] [] pos) t'/\t' σ H Q:=fun a vs e1 ha hl=>
   ⟨_,mQ nB hg hm adL arg (by decide) (by decide) he hpl,v0,hv0,a,vs,by rw[e1],ha,by rw[hl];exact fin⟩
  have dict:∀a ws,v0= .ref a->H a=some (.dK ws)->ws.length=n->∃t',PE X (.Call (.Name "len" p) [.Name x px] [] pos) t'/\t' σ H Q:=fun a vs e1 ha hl=>
   ⟨_,mQ Ib hg hm adL arg (by decide) (by decide) he hpl,v0,hv0,a,vs,by rw[e1],ha,by rw[hl];exact fin⟩
  have Di:∀a ws,v0= .ref a->H a=some (.dT ws)->ws.length=n->∃t',PE X (.Call (.Name "len" p) [.Name x px] [] pos) t'/\t' σ H Q:=fun a vs e1 ha hl=>
   ⟨_,mQ E4 hg hm adL arg (by decide) (by decide) he hpl,v0,hv0,a,vs,by rw[e1],ha,by rw[hl];exact fin⟩
  unfold BP at hn
  split at hn
  ·cases hn;obtain⟨a,vs,e1,fa,ha,rs⟩:=R.sub.kQ r0;exact list a vs e1 (.inr (.inl ha)) rs.length
  ·cases hn;obtain⟨a,vs,e1,fa,ha,rs⟩:=R.sub.i7 r0;exact list a vs e1 (.inl (.inl ha)) rs.length
  ·rename_i z
   obtain⟨hl,rfl⟩:=bV hn
   exact⟨_,mQ sV hg hm adL arg (by decide) (by decide) he hpl,v0,hv0,z,by rw[GO r0],kD hl,fin⟩
  ·cases hn;obtain⟨a,e1,fa,vs,ha,rs⟩:=r0;exact list a vs e1 (.inl (oO.of ha)) rs.length
  ·cases hn;obtain⟨a,e1,fa,vs,ha,rs⟩:=r0;exact list a vs e1 (.inl (oO.of ha)) rs.length
  ·cases hn;obtain⟨a,e1,fa,ws,ha,pr⟩:=r0;exact dict a ws e1 ha (dG pr)
  ·cases hn;obtain⟨a,e1,fa,ws,ha,pr⟩:=r0;exact dict a ws e1 ha (dG pr)
  ·cases hn;obtain⟨a,e1,fa,ws,ha,pr⟩:=r0;exact Di a ws e1 ha (dG pr)
  ·cases hn;obtain⟨a,e1,fa,ws,ha,pr⟩:=r0;exact Di a ws e1 ha (dG pr)
  ·cases hn;obtain⟨a,e1,ha⟩:=r0;exact list a _ e1 (.inl ha.sq) (by simp)
  ·cases hn
 ·cases hg'⟩
end
def uT (o:MO) (k d:D):Option MO:=match o with
 | .dct kvs=>(keyOf k).bind fun kk=>if kvs.length < 100000 then some (.dct (putD kvs kk d)) else none
 | .cI kvs=>(wM k).bind fun kk=>if kvs.length < 10000000 then some (.cI (putD kvs kk d)) else none
 | .ins _ _=>none
 | .lst ds=>match k with
  | .int i=>(EI ds.length i).map fun j=>.lst (ds.set j d)
  | _=>none
def Iu (i:Nat) (gk gv:GD):GS:=fun S=>(gv S).bind fun p=>match p.2[i]? with
 | some (some _)=>(gk p.2).bind fun r=>(wL r.2 i fun o=>(uT o r.1 p.1).map fun o'=>(.cU,o')).map fun z=>.nx z.2
 | _=>none
theorem bH.set {F:Hp}{v:V}{d:D}(r:Rep F v d):∀{vs:List V}{ds:List D}(j:Nat),bH F vs ds->bH F (vs.set j v) (ds.set j d)
 | _,_,_,.nil=>.nil
 | _,_,0,.cons _ rs=>.cons r rs
 | _,_,j+1,.cons q rs=>.cons q (bH.set r j rs)
section
variable {X:Cx}{a b c e value k:Expr}{es:List Expr}{pos p p2 px pos':Pos}{x y:Str}{g ga gb gc gk gv:GD}{gA:GA}
def BQ (hu:X.A.units+20 < cLine) (hk:JD X k gk) (hval:JD X value gv) (hN:X.N[i]? =some x:=by rfl) (hv:An X.env.scope x:=by first | exact Or.inl rfl | exact Or.inr (Or.inl rfl) | exact Or.inr (Or.inr rfl))
  (hd:(x == ("__debug__":Str))=false:=by decide) (hcd:(x == ("__classdict__":Str))=false:=by decide)
  (hs:swapsWith value (some (.Subscript (.Name x px) k pos')) pos.line X.env=pure false:=by rfl)
  (hs1:swapsWithSole [.Subscript (.Name x px) k pos'] value pos.line X.env=pure false:=by rfl) (hs2:swappedStores [.Subscript (.Name x px) k pos'] value X.env=pure none:=by rfl)
  (VU:(assignEach [.Subscript (.Name x px) k pos'] X.env).map (·.2)=[assign (.Subscript (.Name x px) k pos') X.env]:=by rfl)
  (hs4:∀v,assign (.Subscript (.Name x px) k pos') X.env v=(do
   let ov <-holding [v] (eval (.Name x px) X.env)
   let iv <-holding [v,ov] (eval k X.env)
   standAt pos'
   holding [v,ov,iv] (setItem ov iv v)
   release [v,ov,iv] []):=by intro _;rfl):
  JS X (.Assign [.Subscript (.Name x px) k pos'] value pos) (Iu i gk gv):=⟨fun B=>PS.orelse fun D σ H hh=>by
 obtain⟨S,F,o,R,hg,q⟩:=hh
 obtain⟨⟨d,S1⟩,h1,hg⟩:=ak hg
 dsimp only at hg
 split at hg
 ·rename_i u0 LF
  obtain⟨⟨kd,S2⟩,h2,hg⟩:=ak hg
  obtain⟨⟨nd,S3⟩,h3,hg⟩:=aF hg
  subst hg
  obtain⟨u,u',mo,mo',hS,JY,hio,hf,O4,rfl⟩:=qA h3
  obtain⟨mo2,hw,hf2⟩:=aF hf
  cases hf2
  have hv0:∀F1 H1,Rel X.K B S1 σ F1 H1->∃v,σ[i]? =some (some v):=fun F1 H1 R1=>let⟨v,k1,_⟩:=R1.rep i u0 LF;⟨v,k1⟩
  cases mo with
  | dct kvs=>
   obtain⟨kk,e1,hw⟩:=ak hw
   obtain⟨hl,rfl⟩:=bV hw
   refine⟨_,Gw hu (gw hN hv hd hcd) (hk.h B) (hval.h B) hs,S,F,d,S1,R,h1,fun v F1 H1 R1 st1 r1=>?_⟩
   obtain⟨v0,hv0⟩:=hv0 F1 H1 R1
   refine⟨v0,hv0,S1,F1,kd,S2,R1,h2,fun y F2 H2 R2 st2 r2=>?_⟩
   obtain⟨v',k1,k2⟩:=R2.rep i u hS
   rw[hv0] at k1
   cases k1
   obtain⟨a,o2,rfl,fa,eo,k3⟩:=k2.dQ JY
   rw[hio] at eo
   cases eo
   obtain⟨ws,ha,pr⟩:=k3
   refine⟨a,_,rfl,CQ.ky ha (qG r2 e1) (by rw[dG pr];exact aaM hl (by decide)),?_⟩
   obtain⟨R3,st3⟩:=R2.write (ho:=.dK (putK ws kk v)) hS O4 hv0 ⟨_,bq,yu pr (r1.le st2.ext.le)⟩
   exact q σ F2 _ R3 fun b o z=>st2.ext.le b o (st1.ext.le b o z)
  | ins C kvs=>cases hw
  | cI kvs=>
   obtain⟨kk,e1,hw⟩:=ak hw
   obtain⟨hl,rfl⟩:=bV hw
   refine⟨_,Gw hu (gw hN hv hd hcd) (hk.h B) (hval.h B) hs,S,F,d,S1,R,h1,fun v F1 H1 R1 st1 r1=>?_⟩
   obtain⟨v0,hv0⟩:=hv0 F1 H1 R1
   refine⟨v0,hv0,S1,F1,kd,S2,R1,h2,fun y F2 H2 R2 st2 r2=>?_⟩
   obtain⟨v',k1,k2⟩:=R2.rep i u hS
   rw[hv0] at k1
   cases k1
   obtain⟨a,o2,rfl,fa,eo,k3⟩:=k2.dQ JY
   rw[hio] at eo
   cases eo
   obtain⟨ws,ha,pr⟩:=k3
   obtain⟨b',rfl,hb'⟩:=tG R2.sub r2 e1
   refine⟨a,_,rfl,CQ.t ha hb' (by rw[dG pr];exact aaM hl (by decide)),?_⟩
   obtain⟨R3,st3⟩:=R2.write (ho:=.dT (putK ws kk v)) hS O4 hv0 ⟨_,bq,yu pr (r1.le st2.ext.le)⟩
   exact q σ F2 _ R3 fun b o z=>st2.ext.le b o (st1.ext.le b o z)
  | lst ds=>
   unfold uT at hw
   dsimp only at hw
   split at hw
   ·rename_i ii
    obtain⟨j,e1,rfl⟩:=aF hw
    refine⟨_,Ku (hval.h B) (So (gw hN hv hd hcd) (hk.h B) set_list hs4) hs1 hs2 VU,S,F,d,S1,R,h1,fun v F1 H1 R1 st1 r1=>?_⟩
    obtain⟨v0,hv0⟩:=hv0 F1 H1 R1
    refine⟨v0,hv0,S1,F1,_,S2,R1,h2,fun y F2 H2 R2 st2 r2=>?_⟩
    obtain⟨v',k1,k2⟩:=R2.rep i u hS
    rw[hv0] at k1
    cases k1
    obtain⟨a,o2,rfl,fa,eo,k3⟩:=k2.dQ JY
    rw[hio] at eo
    cases eo
    obtain⟨vs,ha,rs⟩:=k3
    rw[gM r2]
    refine⟨a,vs,_,j,rfl,rfl,ha,by rw[rs.length];exact e1,?_⟩
    obtain⟨R3,st3⟩:=R2.write (ho:=.lst (vs.set j v)) hS O4 hv0 ⟨_,bq,rs.set (r1.le st2.ext.le) j⟩
    exact q σ F2 _ R3 fun b o z=>st2.ext.le b o (st1.ext.le b o z)
   ·cases hw
 ·cases hg⟩
def Rel.aa2 {F:Hp}{a:Addr}{o':HO}(R:Rel K B S σ F H) (hn:¬dQ S σ a) (hf:F a=none) (hB:B.H a=none) (hh:H a=some o) (hz:∀ob u,o≠.kL ob u):Rel K B S σ F (upd H a o'):=by
 have VP:∀b ob w,H b=some (.kL ob w)->upd H a o' b=some (.kL ob w):=fun b ob w z=>by
  rw[bf (fun e=>by rw[e,hh] at z;cases z;exact hz _ _ rfl)];exact z
 refine⟨fun b u z=>?_,R.len,fun j w z=>?_,R.GK,R.own,R.bor,R.par,⟨R.ext.le,fun b u z n=>?_,R.ext.jV,fun b u z=>?_,fun b ob w z=>VP b ob w (R.ext.kL b ob w z)⟩⟩
 ·have hb:b≠a:=fun e=>by rw[e,hf] at z;cases z
  rw[bf hb];exact R.sub b u z
 ·obtain⟨v,h1,h2⟩:=R.rep j w z
  refine⟨v,h1,h2.le (fun d d z=>z) VP fun c hm hc=>?_⟩
  have hca:c≠a:=fun e=>hn ⟨j,w,z,hm,by rw[h1,hc,e]⟩
  obtain⟨c',_,e,f,_⟩:=h2.dQ hm
  rw[hc] at e
  cases e
  exact⟨fun o z=>by rw[bf hca];exact z,f⟩
 ·rw[bf (fun e=>by rw[e,hB] at z;cases z)];exact R.ext.keep b u z n
 ·by_cases hb:b=a
  ·exact⟨o',by rw[hb,bq]⟩
  ·rw[bf hb];exact R.ext.there b u z
noncomputable def jF:List (Str×GD)->SS->Option (List (Key×D)×SS)
 | [],S=>some ([],S)
 | (z,g) :: r,S=>(g S).bind fun p=>(jF r p.2).map fun q=>((.inr z,p.1) :: q.1,q.2)
def pG (kvs more:List (Key×D)):List (Key×D):=more.foldl (fun acc kv=>putD acc kv.1 kv.2) kvs
theorem yw {F:Hp}:∀{more:List (Key×V)}{RA:List (Key×D)}{ws:List (Key×V)}{kvs:List (Key×D)},Paired (fR F) more RA->Paired (fR F) ws kvs->Paired (fR F) (o8 ws more) (pG kvs RA)
 | _,_,_,_,.nil,h=>h
 | _,_,ws,kvs,@Paired.cons _ _ _ p q _ _ r rs,h=>by
  have e:=yu (k:=q.1) h r.2
  show Paired (fR F) (o8 (putK ws p.1 p.2) _) (pG (putD kvs q.1 q.2) _)
  rw[r.1]
  exact yw rs e
def v7 (xw:List (Str×GD)):GE:=fun S=>(jF xw S).map fun p=>(.m (.dct (pG [] p.1)),p.2)
structure Y5 (X:Cx) (pos:Pos) (keys:List (Option Expr)) (values:List Expr) (xw:List (Str×GD)):Prop where
 h:∀B,W8 X pos keys values (xw.map fun p=>(tC (.str p.1),tD X.K B p.2))
def GY:Y5 X pos [] [] []:=⟨fun B=>OG⟩
def pH {pk:Pos}{v:Expr}{ks:List (Option Expr)}{vs:List Expr}(hv:JD X v g) (hr:Y5 X pos ks vs xw):Y5 X pos (some (.Constant (.str z) j pk) :: ks) (v :: vs) ((z,g) :: xw):=⟨fun B=>KR Km (hv.h B) (hr.h B)⟩
theorem Dj {B:Base}{σ:St}:∀{xw:List (Str×GD)}{S0 S:SS}{F0 H0 F H:Hp}{kvs:List (Key×D)}{S':SS}{Q:List (V×V)->Hp->Prop},Rel X.K B S σ F H->Step S0 S σ F0 H0 F H->jF xw S=some (kvs,S')->
  (∀(ws:List (Key×V)) (F' H':Hp),Rel X.K B S' σ F' H'->Step S0 S' σ F0 H0 F' H'->Paired (fR F') ws kvs->Q (ws.map fun kv=>(kV kv.1,kv.2)) H')->xX (xw.map fun p=>(tC (.str p.1),tD X.K B p.2)) σ H Q
 | [],S0,S,F0,H0,F,H,kvs,S',Q,R,st,h,q=>by cases h;exact q [] F H R st .nil
 | (z,g) :: r,S0,S,F0,H0,F,H,kvs,S',Q,R,st,h,q=>by
  obtain⟨⟨d,S1⟩,h1,h⟩:=ak h
  obtain⟨⟨wN,S2⟩,h2,h⟩:=aF h
  cases h
  show tC (.str z) σ H fun x H1=>tD X.K B g σ H1 fun y H2=>xX _ σ H2 fun ps H3=>Q ((x,y) :: ps) H3
  refine⟨S,F,d,S1,R,h1,fun v F1 H1 R1 st1 r1=>?_⟩
  refine Dj (S0:=S1) (F0:=F1) (H0:=H1) R1 (Step.refl ..) h2 fun ws F2 H2 R2 st2 pr=>?_
  exact q ((.inr z,v) :: ws) F2 H2 R2 ((st.trans st1).trans st2) (.cons ⟨rfl,r1.le st2.ext.le⟩ pr)
def GZ {keys:List (Option Expr)}{values:List Expr}(h:Y5 X pos keys values xw) (hall:keys.all (·.isSome)=true:=by rfl) (hl:keys.length=values.length:=by rfl) (h0:keys≠[]:=by decide) (JV:keys.length<=15:=by decide) (hk:xw.length<=15:=by decide):
  JE X (.Dict keys values pos) (v7 xw):=⟨fun B=>(OH (h.h B) hall hl h0 JV).imp fun σ H Q hh=>by
 obtain⟨S,F,u,S',R,hg,q⟩:=hh
 obtain⟨⟨kvs,S1⟩,h1,hg⟩:=aF hg
 cases hg
 intro p hp
 have n:=gK.obj (F:=F) hp (.dK [])
 have hn:¬dQ S σ p:=fun m=>by obtain⟨o,ho⟩:=R.has m;rw[hp] at ho;cases ho
 refine Dj (S0:=S) (F0:=F) (H0:=upd H p (.dK [])) (R.new n (R.sub.same n.same)) (Step.refl ..) h1 fun ws F1 H1 R1 st1 pr=>?_
 have hp1:H1 p=some (.dK []):=st1.ext.keep p _ bq hn
 have hf1:F1 p=none:=st1.ext.jV p _ bq hn (R.sub.fresh hp)
 have hn1:¬dQ S1 σ p:=fun m=>hn (st1.mu p m)
 have hB:B.H p=none:=none_of R.ext.there hp
 have len:ws.length<=15:=by
  rw[dG pr]
  have:∀{xw:List (Str×GD)}{S:SS}{kvs:List (Key×D)}{S':SS},jF xw S=some (kvs,S')->kvs.length=xw.length:=fun {xw}=>by
   induction xw with
   | nil=>intro S kvs S' h;cases h;rfl
   | cons p r ih=>
    intro S kvs S' h
    obtain⟨⟨d,T1⟩,k1,h⟩:=ak (show(p.2 S).bind _=_ from h)
    obtain⟨⟨kv2,T2⟩,k2,h⟩:=aF h
    cases h
    show kv2.length+1=r.length+1
    rw[ih k2]
  rw[this h1]
  exact hk
 refine⟨hp1,ws,rfl,len,?_⟩
 have R2:=R1.aa2 (o':=.dK (o8 [] ws)) hn1 hf1 hB hp1 (fun a a z=>by cases z)
 refine q (.ref p) F1 _ R2 ⟨⟨st1.ext.le,fun b o z m=>?_,fun b o z m f=>?_,fun b o z=>?_,fun b ob w z=>?_⟩,st1.mu,st1.slots⟩ ⟨p,rfl,hp,hf1,⟨_,bq,yw pr .nil⟩,hn1,hB⟩
 ·have hb:b≠p:=bK z hp
  rw[bf hb]
  exact st1.ext.keep b o (by rw[bf hb];exact z) m
 ·have hb:b≠p:=bK z hp
  exact st1.ext.jV b o (by rw[bf hb];exact z) m f
 ·have hb:b≠p:=bK z hp
  rw[bf hb]
  exact st1.ext.there b o (by rw[bf hb];exact z)
 ·have hb:b≠p:=bK z hp
  rw[bf hb]
  exact st1.ext.kL b ob w (by rw[bf hb];exact z)⟩
end
noncomputable def iw (g:Option GD) (S:SS):Option (Option Int×SS):=match g with
 | none=>some (none,S)
 | some g=>(g S).bind fun p=>match p.1 with
  | .int i=>some (some i,p.2)
  | _=>none
inductive tPO (K:AAD) (B:Base) (g:Option GD) (σ:St) (H:Hp) (Q:Option Int->Hp->Prop):Prop
 | mk (S:SS) (F:Hp) (o:Option Int) (S':SS) (R:Rel K B S σ F H) (hg:iw g S=some (o,S')) (q:∀F' H',Rel K B S' σ F' H'->Step S S' σ F H F' H'->Q o H')
structure JO (X:Cx) (e:Option Expr) (g:Option GD):Prop where
 h:∀B,PO X e (tPO X.K B g)
def PO.imp {e:Option Expr}{t t':TO}(h:PO X e t) (k:∀σ H Q,t' σ H Q->t σ H Q):PO X e t':=fun pins s σ H Q I q=>h pins s σ H Q I (k σ H Q q)
def kF :JO X none none:=⟨fun B=>OL.imp fun σ H Q ⟨S,F,o,S',R,h,q⟩=>by cases h;exact q F H R (Step.refl ..)⟩
def iu {e:Expr}(h:JD X e g):JO X (some e) (some g):=⟨fun B=>(OM (h.h B)).imp fun σ H Q hh=>by
 obtain⟨S,F,o,S',R,h,q⟩:=hh
 obtain⟨⟨d,S1⟩,h1,h⟩:=ak (show(g S).bind _=_ from h)
 cases d <;> try (cases h)
 exact⟨S,F,_,_,R,h1,fun v F1 H1 R1 st1 r1=>⟨_,gM r1,q F1 H1 R1 st1⟩⟩⟩
def Pa (d:D) (lo hi:Option Int):Option U:=match d with
 | .tup ds=>some (.t (.tup (cutD ds lo hi)))
 | .lst ds=>some (.m (.lst (cutD ds lo hi)))
 | .str z=>if z.length<=100000 then some (.t (.str (Txt.slice z lo hi))) else none
 | _=>none
def bH.cut {F:Hp}(rs:bH F vs ds) (lo hi:Option Int):bH F (zL vs lo hi) (cutD ds lo hi):=by
 unfold zL cutD
 rw[rs.length]
 exact(rs.drop _).take _
def aa3:V->Option Int->Option Int->Hp->VK->Prop:=fun x lo hi H Q=>∃F d u,Sub F H/\Rep F x d/\Pa d lo hi=some u/\∀v F' H',gK F H F' H'->Sub F' H'->Ii H F' H' v u->Q v H'
def aa4 :Xb X aa3:=by
 intro pins s σ H x v vl vu lo hi sl Q I rx hs pl pu ⟨F,d,u,sb,r,hf,q⟩
 cases d with
 | tup ds=>
  cases hf
  have r0:=r
  obtain⟨a,xs,rfl,fa,ha,rs⟩:=sb.kQ r
  have hl:=rs.length
  by_cases hw:HT.gT xs.length 0 lo=0/\HT.gT xs.length xs.length hi=xs.length
  ·cases rx
   obtain⟨its,rv,ht,hz⟩:=I.tuple (.inl ha)
   have hlen:its.toArray.size=xs.length:=by rw[aaj];exact rv.length.symm
   refine⟨"tuple",_,acD.lookup,ht.typeIs,?_⟩
   refine HT.Ig ht hs pl pu (by rw[hlen];exact hw) ⟨.ref a,H,I,rfl,q _ F H (gK.refl ..) sb ?_⟩
   have e:cutD ds lo hi=ds:=by
    unfold cutD
    rw[<-hl,hw.1,hw.2,afJ,afz,adl (by rw[hl];exact aaC _)]
   show Rep F _ (.tup (cutD ds lo hi))
   rw[e]
   exact r0
  ·exact S8 pins s σ H (.ref a) v vl vu lo hi sl Q I rx hs pl pu ⟨a,xs,rfl,.inl ha,hw,fun p hp=>q _ _ _ (gK.root sb hp _) (sb.uN hp) (.tup bq ((rs.cut lo hi).le (mj (sb.fresh hp))))⟩
 | lst ds=>
  cases hf
  obtain⟨a,xs,rfl,fa,ha,rs⟩:=sb.i7 r
  exact GG pins s σ H (.ref a) v vl vu lo hi sl Q I rx hs pl pu ⟨a,xs,rfl,.inl ha,fun p hp=>q _ F _ (gK.obj hp _) (sb.same (gK.obj (F:=F) hp _).same) ⟨p,rfl,hp,sb.fresh hp,_,bq,rs.cut lo hi⟩⟩
 | str z=>
  obtain⟨hl,rfl⟩:=bV hf
  cases r
  exact Tf pins s σ H _ v vl vu lo hi sl Q I rx hs pl pu ⟨z,rfl,kD hl,fun c=>q _ F H (gK.refl ..) sb (.str _)⟩
 | cU=>cases hf
 | bl b=>cases hf
 | int b=>cases hf
def yx (g:GD) (lo hi:Option GD):GE:=fun S=>(g S).bind fun p=>(iw lo p.2).bind fun l=>(iw hi l.2).bind fun h=>(Pa p.1 l.1 h.1).map fun u=>(u,h.2)
section
variable {X:Cx}{a b c e:Expr}{lo hi:Option Expr}{pos p p2 px:Pos}{x y:Str}{g ga:GD}{gA:GA}{gl gh:Option GD}
def iK (he:JD X e g) (hl:JO X lo gl) (hh:JO X hi gh):JE X (.Subscript e (.Slice lo hi none p2) pos) (yx g gl gh):=⟨fun B=>(CU aa4 (he.h B) (hl.h B) (hh.h B)).imp fun σ H Q hh=>by
 obtain⟨S,F,u,S',R,hg,q⟩:=hh
 obtain⟨⟨d,S1⟩,h1,hg⟩:=ak hg
 obtain⟨⟨l,S2⟩,h2,hg⟩:=ak hg
 obtain⟨⟨h,S3⟩,h3,hg⟩:=ak hg
 obtain⟨u',h4,hg⟩:=aF hg
 cases hg
 exact⟨S,F,d,S1,R,h1,fun v F1 H1 R1 st1 r1=>⟨S1,F1,l,S2,R1,h2,fun F2 H2 R2 st2=>⟨S2,F2,h,_,R2,h3,fun F3 H3 R3 st3=>⟨F3,d,_,R3.sub,r1.le (fun b o z=>st3.ext.le b o (st2.ext.le b o z)),h4,fun v F4 H4 n s4 r4=>q v F4 H4 (R3.new n s4) (((st1.trans st2).trans st3).trans n.step) (r4.Ij R3 ((st1.trans st2).trans st3))⟩⟩⟩⟩⟩
noncomputable def yy (ns:List Int) (lo hi:Option Int):List Int:=(ns.drop (HT.gT ns.length 0 lo)).take (HT.gT ns.length ns.length hi - HT.gT ns.length 0 lo)
def LG (i:Nat) (lo hi:Option GD):GE:=fun S=>match S[i]? with
 | some (some (.s ns))=>(iw lo S).bind fun l=>(iw hi l.2).map fun h=>(.m (.lst ((yy ns l.1 h.1).map D.int)),h.2)
 | _=>none
theorem AJ {F:Hp}:∀ns:List Int,bH F (ns.map V.int) (ns.map D.int)
 | []=>.nil
 | n :: ns=>.cons (.int n) (AJ ns)
def Iv (ns:List Int) (lo hi:Option Int):zL (ns.map V.int) lo hi=(yy ns lo hi).map V.int:=by
 unfold zL yy
 rw[aaw,afm,afL]
def Iw (hl:JO X lo gl) (hh:JO X hi gh) (hN:X.N[i]? =some x:=by rfl) (hv:An X.env.scope x:=by first | exact Or.inl rfl | exact Or.inr (Or.inl rfl) | exact Or.inr (Or.inr rfl))
  (hd:(x == ("__debug__":Str))=false:=by decide) (hcd:(x == ("__classdict__":Str))=false:=by decide):JE X (.Subscript (.Name x px) (.Slice lo hi none p2) pos) (LG i gl gh):=⟨fun B=>(CU GG (gw hN hv hd hcd) (hl.h B) (hh.h B)).imp fun σ H Q hh=>by
 obtain⟨S,F,u,S',R,hg,q⟩:=hh
 unfold LG at hg
 split at hg
 ·rename_i ns hS
  obtain⟨⟨l,S1⟩,h1,hg⟩:=ak hg
  obtain⟨⟨h,S2⟩,h2,hg⟩:=aF hg
  cases hg
  obtain⟨v0,hv0,a,rfl,sc⟩:=R.rep i _ hS
  refine⟨_,hv0,S,F,l,S1,R,h1,fun F1 H1 R1 st1=>⟨S1,F1,h,_,R1,h2,fun F2 H2 R2 st2=>?_⟩⟩
  have sc2:=(sc.le st1.ext.kL).le st2.ext.kL
  refine⟨a,_,rfl,sc2.sq,fun p hp=>?_⟩
  rw[Iv]
  have n:=gK.obj (F:=F2) hp (.lst ((yy ns l h).map V.int))
  have st:=st1.trans st2
  exact q _ F2 _ (R2.new n (R2.sub.same n.same)) (st.trans n.step) (Ii.Ij (u:=.m (.lst ((yy ns l h).map D.int))) R2 st ⟨p,rfl,hp,R2.sub.fresh hp,_,bq,AJ _⟩)
 ·cases hg⟩
def okR (d:D):Prop:=(toPy d).showable=true/\(toPy d).depth<=20/\(toPy d).shown.length<=sizeLine
noncomputable instance (d:D):Decidable (okR d):=by unfold okR;infer_instance
def Pb {t:Tok}(hg:Gl X x) (hm:X.mg x=some (.str z t)) (hd:(x == ("__debug__":Str))=false:=by decide):JD X (.Name x pos) (eC (.str z)):=Li rfl (qx (v:=.str z) hg hm ⟨t,rfl⟩ hd)
def tH {i:Int}{t:Tok}(hg:Gl X x) (hm:X.mg x=some (.int i t)) (hd:(x == ("__debug__":Str))=false:=by decide):JD X (.Name x pos) (eC (.int i)):=Li rfl (qx (v:=.int i) hg hm ⟨t,rfl⟩ hd)
end
def LH {y:Str}{c:Addr}(clos:closureFor scope X.env=pure [(y,c)]) (kM:∀z∈scope.names,z.2≠.cell) (kind:scope.kind= .function) (names:∀z∈scope.names,z.2= .local->scope.names.lookup z.1=some .local)
  (loc:scope.names.lookup x=some .local) (hc:X.env.cells.lookup y=some c) (only:∀z∈scope.names,z.2= .free->z.1=y) (ne:x≠y) (hN:X.N[i]? =some y) (vis:X.env.scope.names.lookup y=some .cell) (rel:(relabel scope X.env).names.lookup y=some .cell):
  fV X x [y] [i] scope [(y,c)]:=by
 have look:∀n c',([(y,c)]:List (Str×Addr)).lookup n=some c'->n=y/\c'=c:=fun n c' h=>by
  rw[ad5] at h
  cases e:n == y with
  | true=>rw[e] at h;cases h;exact⟨eq_of_beq e,rfl⟩
  | false=>rw[e] at h;cases h
 have self:([(y,c)]:List (Str×Addr)).lookup y=some c:=by rw[ad5,beq_self_eq_true]
 refine⟨clos,kM,kind,names,loc,fun n c' h=>?_,fun n h=>?_,?_,rfl,fun j n h=>?_,fun n h=>?_⟩
 ·obtain⟨rfl,rfl⟩:=look n c' h
  exact hc
 ·have key:n=y:=by
   have go:∀k,(k=NameKind.cell\/k=NameKind.free)->(relabel scope X.env).names.lookup n=some k->n=y:=fun k hk e=>by
    have m:=acK e
    unfold relabel at m
    obtain⟨⟨n',k'⟩,hm,q⟩:=adz.mp m
    by_cases hf:k'= .free
    ·have h0:n'=y:=only _ hm hf
     have e1:n'=n:=by
      have h1:=congrArg Prod.fst q
      dsimp only at h1
      split at h1 <;> exact h1
     exact e1.symm.trans h0
    ·have z:(k' == NameKind.free)=false:=by simpa using hf
     simp only[z,ae7] at q
     have q2:k'=k:=by
      have:=congrArg Prod.snd q
      simpa using this
     rcases hk with rfl | rfl
     ·exact absurd q2 (kM _ hm)
     ·exact absurd q2 hf
   rcases h with h | h
   ·exact go _ (.inl rfl) h
   ·exact go _ (.inr rfl) h
  subst key
  exact⟨c,self⟩
 ·simp[ne]
 ·cases j with
  | zero=>cases h;exact⟨i,rfl,hN,.inr (.inl vis)⟩
  | succ j=>simp at h
 ·have e:n=y:=by simpa using h
  subst e
  exact⟨.inl rel,⟨c,self⟩,by rw[vis];decide⟩
section
variable {X:Cx}{a b c e:Expr}{es:List Expr}{pos p p2 px:Pos}{x y:Str}{f:FM}{fa:Addr}{fd:FuncData}{ps:List Str}{k n:Nat}
def LI (F:jW X.prog X.w X.K X.mg X.base BE k fa fd ps (spT X.K 0 f)) (hr:fQ k X.A) (hg:Gl X x) (hm:X.mg x=some (.ref fa)) (hk:PySem.W.keepIn X.K (.ref fa)=true) (hb:Binds X.K fd ps [])
  (hdb:(x == ("__debug__":Str))=false:=by decide):JE X (.Call (.Name x p) [] [] pos) (aO f aT):=⟨fun B=>(KH F hr hg hm hk hb .nil CZ hdb).imp fun σ H Q hh=>by
 obtain⟨S,F0,u,S',R,hg,q⟩:=hh
 obtain⟨⟨us,S1⟩,h1,hg⟩:=ak hg
 cases h1
 have hg:=(gj hg).2
 obtain⟨ws,h2,hg⟩:=ak hg
 cases h2
 obtain⟨⟨r,outs⟩,h3,hg⟩:=ak hg
 obtain⟨S2,h4,hg⟩:=aF hg
 cases hg
 have st0:Step S S σ F0 H F0 H:=Step.refl ..
 refine⟨rfl,F0,[],r,outs,R.sub,.nil,adK,h3,fun v F2 H2 po rn=>?_⟩
 obtain⟨R2,st2,mu⟩:=jD (vs:=[]) (us:=[]) (ws:=[]) R st0 .nil rfl h4 adK po
 refine q v F2 H2 R2 st2 ?_
 cases r with
 | t d=>exact rn
 | b o=>cases rn
 | v i=>cases rn
 | s i=>cases rn
 | f i=>cases rn
 | m o=>
  obtain⟨a,e,h0,f,h⟩:=rn
  refine⟨a,e,h0,f,h,fun m=>?_,none_of R.ext.there h0⟩
  obtain⟨o',ho⟩:=R.has (mu a m)
  rw[h0] at ho
  cases ho⟩
def dB (a:List D) (o:MO) (h:eL o=false):hAppend a o=none:=by
 cases o with
 | lst ds=>cases h
 | dct k=>unfold hAppend;split <;> first | rfl | (rename_i e;cases e)
 | cI k=>unfold hAppend;split <;> first | rfl | (rename_i e;cases e)
 | ins C k=>unfold hAppend;split <;> first | rfl | (rename_i e;cases e)
def LJ (a:List D) (o:MO) (h:eL o=false):pA a o=none:=by
 cases o with
 | lst ds=>cases h
 | dct k=>unfold pA;split <;> first | rfl | (rename_i e;cases e)
 | cI k=>unfold pA;split <;> first | rfl | (rename_i e;cases e)
 | ins C k=>unfold pA;split <;> first | rfl | (rename_i e;cases e)
def E5 (a:List D) (o:MO) (h:eL o=false):i9 a o=none:=by
 cases o with
 | lst ds=>cases h
 | dct k=>unfold i9;split <;> first | rfl | (rename_i e;cases e)
 | cI k=>unfold i9;split <;> first | rfl | (rename_i e;cases e)
 | ins C k=>unfold i9;split <;> first | rfl | (rename_i e;cases e)
end
section
variable {X:Cx}
end
section
variable {prog:Program}{w:World}{A:Around}{R:Result->Shared->Prop}{I:Addr}{fp wr:List Addr}{G:Array GenState->Array GenState->Prop}{n:Nat}{P:Nat->Value->Prop}{St:Nat->Shared->Prop}
end
section
variable {prog:Program}{w:World}{A:Around}{E:AAE}{s:Shared}
end
noncomputable def wc:List D->Option (List Str)
 | []=>some []
 | .str b :: ds=>(wc ds).map fun bs=>b :: bs
 | _=>none
theorem yz {F:Hp}:∀{vs:List V}{ds:List D}{bs:List Str},bH F vs ds->wc ds=some bs->vs=bs.map V.str
 | _,_,_,.nil,h=>by cases h;rfl
 | _,_,_,@bH.cons _ v d vs ds r rs,h=>by
  cases d <;> try (cases h;done)
  obtain⟨bs,h1,h2⟩:=aF (show(wc ds).map _=_ from h)
  subst h2
  cases r
  rw[yz rs h1]
  rfl
section
variable {X:Cx}{a:Expr}{pos p p1 p2:Pos}{ga:GD}
end
section
variable {X:Cx}{a:Expr}{x:Str}{px pos:Pos}{ga:GD}
end
noncomputable def look:U->Option D
 | .t d=>some d
 | .m (.lst ds)=>some (.lst ds)
 | .b (.lst ds)=>some (.lst ds)
 | _=>none
section
variable {X:Cx}{x y:Str}{p px py pos:Pos}{f:List D->Option U}
end
section
variable (S:SS) (i:Nat) (g:GD)
@[simp] theorem VW (ds:List D):i9 [] (.lst ds)=some (.cU,.lst ds.reverse):=rfl
end
section
variable {X:Cx}{a b c e:Expr}{es:List Expr}{pos p p2 px:Pos}{x y:Str}
def XF:R2:=fun x y H Q=>∃l k xs,x= .ref l/\y= .int k/\Rd H l (.lst xs)/\-(2 ^ 63)<=k/\k < 2 ^ 63/\xs.length * k.toNat<=sizeLine/\
 ∀p,H p=none->Q (.ref p) (upd H p (.lst (List.replicate k.toNat xs).flatten))
def Pc:zI X (binaryOp .Mult) XF:=by
 intro pins s σ H x y v u Q I rx ry h
 obtain⟨l,k,xs,rfl,rfl,hH,h1,h2,hz,q⟩:=h
 cases rx
 obtain⟨t,rfl⟩:=ry
 obtain⟨z,its,n,r,hl,e⟩:=hH.BD I
 have hlen:its.toArray.size * k.toNat<=sizeLine:=by rw[aaj,<-hl];exact hz
 have hcap:¬its.toArray.size * k.toNat > (2 ^ 63 - 1) / 8:=by
  have:(sizeLine:Nat)<=(2 ^ 63 - 1) / 8:=by decide
  lia
 have hfit:¬(!Builtin.List.listFitsIndex k)=true:=by
  rw[fitsIndex_both h1 h2]
  exact ac9
 have Dk:¬Builtin.List.listTooLong (its.toArray.size * k.toNat)=true:=by
  rw[CV hlen]
  exact ac9
 have hnew:List.foldl (fun x1 x2=>x1++x2) #[] (List.replicate (if its.toArray.isEmpty=true then 0 else k.toNat) its.toArray)=(List.replicate k.toNat its).flatten.toArray:=by
  have f0:∀m:Nat,List.foldl (fun x1 x2=>x1++x2) #[] (List.replicate m its.toArray)=(List.replicate m its).flatten.toArray:=fun m=>by
   have:=foldl_rep its m []
   rw[adT] at this
   exact this
  rw[f0]
  cases its with
  | nil=>simp
  | cons a r'=>rw[if_neg (by simp)]
 refine wpAny_binaryOp_repeat_ref (T:="list") (U:="int") (by decide) ⟨_,e,rfl⟩ (fun s'=>typeIs_int s' k t) noFill_list_mul F.fills_int_mul F.slot_int_rmul repeat_list F.slot_int_index.lookup
  (adR F.slot_int_rmul (typeIs_int s k t) F.entry_int_rmul (F.args_int_rmul_2 _ _) (int___rmul___int_list k t l its.toArray n)
   ⟨e,rfl,⟨_,e,rfl⟩,adR F.slot_list_mul ⟨_,e,rfl⟩ F.entry_list_mul (F.args_list_mul_2 _ _) (AutoListH.list___mul___list_int_3 l its.toArray n k t hfit hcap Dk) ⟨e,?_⟩⟩)
 rw[hnew]
 exact⟨.ref _,_,I.Xj (t':=s.toks) (r.rep k.toNat) (by rw[len_rep,Nat.mul_comm];exact hz),rfl,q _ I.fresh⟩
theorem bH.rep {F:Hp}{vs:List V}{ds:List D}(r:bH F vs ds):∀k:Nat,bH F (List.replicate k vs).flatten (List.replicate k ds).flatten
 | 0=>.nil
 | k+1=>by rw[ab9,ab9,acZ,acZ];exact r.append (bH.rep r k)
noncomputable def LK:List D->Option U
 | [.lst ds,.int k]=>if 0<=k/\k.toNat<=100000/\ds.length * k.toNat<=100000 then some (.m (.lst (List.replicate k.toNat ds).flatten)) else none
 | _=>none
def G0:CB X (binaryOp .Mult) LK:=by
 intro pins s σ H x y v u Q I rx ry ⟨F,ds,w,sb,rs,hw,q⟩
 obtain⟨d,e,rfl,r1,r2⟩:=vW rs
 cases d <;> cases e <;> try (cases hw;done)
 rename_i ds k
 obtain⟨⟨h1,h2,h3⟩,rfl⟩:=bV hw
 obtain⟨a,vs,rfl,fa,ha,sX⟩:=sb.i7 r1
 have hy:=gM r2
 subst hy
 exact Pc pins s σ H _ _ v u Q I rx ry ⟨a,k,vs,rfl,rfl,ha,by lia,by lia,by rw[sX.length];exact aaW h3 (by decide),
  fun p hp=>q _ F _ (gK.obj hp _) (sb.same (gK.obj (F:=F) hp _).same) ⟨p,rfl,hp,sb.fresh hp,_,bq,sX.rep _⟩⟩
def Dl:V->List V->Hp->VK->Prop:=fun x vs H Q=>∃l b xs zs,x= .ref l/\vs=[.ref b]/\H l=some (.lst xs)/\Rd H b (.lst zs)/\xs.length+zs.length<=sizeLine/\Q .cU (upd H l (.lst (xs++zs)))
def E6:Xd X "list.extend" Dl:=by
 intro pins s σ H x vs v us Q I rx rv h
 obtain⟨l,b,xs,zs,rfl,rfl,hH,hB,hz,q⟩:=h
 cases rx
 obtain⟨u,rfl,ru⟩:=rv.one
 cases ru
 obtain⟨z,its,n,r,hl,e⟩:=I.BD hH
 obtain⟨z2,its2,n2,r2,hl2,e2⟩:=hB.BD I
 have hsz:its.toArray.size+its2.toArray.size<=sizeLine:=by rw[aaj,aaj];lia
 have Dk:¬(!its.toArray.isEmpty && Builtin.List.listTooLong (its.toArray.size+its2.toArray.size))=true:=by
  rw[CV hsz,aek]
  exact ac9
 refine adR F.slot_list_extend ⟨_,e,rfl⟩ F.entry_list_extend (F.args_list_extend_2 _ _)
  (AutoSeq1.list_extend_list_list_0 l its.toArray n b its2.toArray n2 Dk (by rw[aaj];lia) (by lia)) ⟨e,e2,?_⟩
 refine⟨.cU,_,I.OO (its':=its++its2) hH e (by simp) (r.append r2) ?_,rfl,q⟩
 rw[aaB]
 lia
noncomputable def kG:List D->MO->Option (D×MO)
 | [.lst es],.lst ds=>if ds.length+es.length<=100000 then some (.cU,.lst (ds++es)) else none
 | _,_=>none
def Iz:VQ Dl kG:=by
 intro F H a vs xs ds args res o' sb hH fa rs rx hw Q q
 unfold kG at hw
 split at hw
 ·rename_i es ds' e2
  cases e2
  obtain⟨hl,hw⟩:=bV hw
  cases hw
  cases rx with
  | cons r rr=>
   cases rr
   obtain⟨b,zs,rfl,fb,hb,Ln⟩:=sb.i7 r
   exact⟨a,b,vs,zs,rfl,rfl,hH,hb,by rw[rs.length,Ln.length];exact aaW hl (by decide),q .cU _ .cU ⟨_,bq,rs.append Ln⟩⟩
 ·cases hw
def IA (a:List D) (o:MO) (h:eL o=false):kG a o=none:=by
 cases o with
 | lst ds=>cases h
 | dct k=>unfold kG;split <;> first | rfl | (rename_i e;cases e)
 | cI k=>unfold kG;split <;> first | rfl | (rename_i e;cases e)
 | ins C k=>unfold kG;split <;> first | rfl | (rename_i e;cases e)
def E7 (clos:closureFor scope X.env=pure cl) (kM:∀z∈scope.names,z.2≠.cell) (kind:scope.kind= .function) (names:∀z∈scope.names,z.2= .local->scope.names.lookup z.1=some .local)
  (loc:scope.names.lookup x=some .local) (hc:cl.map (fun p=>X.env.cells.lookup p.1)=cl.map (fun p=>some p.2)) (only:∀z∈scope.names,z.2= .free->z.1∈bQ) (hcl:cl.map (·.1)=bQ.reverse\/cl.map (·.1)=bQ) (nd:(x :: bQ).Nodup)
  (slot:cap.map (fun i=>X.N[i]?)=bQ.map some) (vis:bQ.map (fun n=>X.env.scope.names.lookup n)=bQ.map fun d=>some .cell) (rel:bQ.map (fun n=>(relabel scope X.env).names.lookup n)=bQ.map fun d=>some .cell):
  fV X x bQ cap scope cl:=by
 have all:∀{α β:Type}{f g:α->β}{l:List α},l.map f=l.map g->∀a∈l,f a=g a:=fun {α β f g l} h=>by
  induction l with
  | nil=>intro a m;cases m
  | cons b r ih=>
   intro a m
   rw[aaQ,aaQ] at h
   injection h with h1 h2
   rcases aaA.mp m with z | z
   ·rw[z];exact h1
   ·exact ih h2 a z
 have XG:∀n,n∈bQ->∃c,cl.lookup n=some c:=fun n hn=>lookup_some (hcl.elim (fun z=>by rw[z];exact List.mem_reverse.mpr hn) fun z=>by rw[z];exact hn)
 have len:cap.length=bQ.length:=by have:=congrArg List.length slot;simpa using this
 refine⟨clos,kM,kind,names,loc,fun n c h=>all hc (n,c) (acK h),fun n h=>?_,nd,len,fun j n h=>?_,fun n h=>⟨.inl (all rel n h),XG n h,by rw[all vis n h];decide⟩⟩
 ·refine XG n ?_
  have go:∀k,(k=NameKind.cell\/k=NameKind.free)->(relabel scope X.env).names.lookup n=some k->n∈bQ:=fun k hk e=>by
   have m:=acK e
   unfold relabel at m
   obtain⟨⟨n',k'⟩,hm,q⟩:=adz.mp m
   by_cases hf:k'= .free
   ·have h0:n'∈bQ:=only _ hm hf
    have e1:n'=n:=by
     have h1:=congrArg Prod.fst q
     dsimp only at h1
     split at h1 <;> exact h1
    rw[<-e1]
    exact h0
   ·have z:(k' == NameKind.free)=false:=by simpa using hf
    simp only[z,ae7] at q
    have q2:k'=k:=by
     have:=congrArg Prod.snd q
     simpa using this
    rcases hk with rfl | rfl
    ·exact absurd q2 (kM _ hm)
    ·exact absurd q2 hf
  rcases h with h | h
  ·exact go _ (.inl rfl) h
  ·exact go _ (.inr rfl) h
 ·have e:=congrArg (fun l=>l[j]?) slot
  simp only[aaO,h,aeL] at e
  cases q:cap[j]? with
  | none=>rw[q] at e;cases e
  | some i=>
   rw[q] at e
   exact⟨i,rfl,aa0 e,.inr (.inl (all vis n (ab3 h)))⟩
end
open AutoSeq1 (wpAny_loadPart')
def qI (k:Bool) (h:Heap) (a:Addr) (its:AAK):Prop:=match k with
 | true=>h.IsList a its
 | false=>h.IsTuple a its
def mL (k:Bool) (h:Heap) (it a:Addr) (i:Nat):Prop:=match k with
 | true=>h.IsListIter it a i
 | false=>h.IsTupleIter it a i
noncomputable def itN:Bool->String
 | true=>"list_iterator"
 | false=>"tuple_iterator"
def J0 (k:Bool) (a:Addr):Obj:={cls:=.type (itN k),data:=.fields #[.ref a,.int 0 0]}
def qI.at {h:Heap}(x:qI k h a its) (g:∀o,h.get? a=some o->h'.get? a=some o):qI k h' a its:=by
 cases k <;> exact let⟨o,ho,r⟩:=x;⟨o,g o ho,r⟩
def mL.at {h:Heap}{it:Addr}(x:mL k h it a i) (g:∀o,h.get? it=some o->h'.get? it=some o):mL k h' it a i:=by
 cases k <;> exact let⟨o,ho,r⟩:=x;⟨o,g o ho,r⟩
def mL.obj {h:Heap}{it:Addr}(x:mL k h it a i):∃o,h.get? it=some o/\∀v,o.data≠.cell v:=by
 cases k <;> exact let⟨o,ho,_,r⟩:=x;⟨o,ho,fun v z=>by rw[r] at z;cases z⟩
def mL.new (k:Bool) (h:Heap) (a:Addr):mL k (h.push (J0 k a)) h.objs.size a 0:=by
 cases k <;> exact⟨_,aaJ _ rfl,rfl,rfl⟩
section
variable {prog:Program}{w:World}{A:Around}{E:AAE}{s:Shared}
def RB (h:qI k s.heap a its) (q:Q (.ref s.heap.objs.size) {s with heap:=s.heap.push (J0 k a)}):wpAny (model prog w) A (pyIter (.ref a)) Q E s:=by
 cases k with
 | true=>exact aer h q
 | false=>exact adP h q
def Pd {t:Addr}{y:Value}(st:s.heap.IsTupleIter ad t n) (hv:s.heap.IsTuple t vals) (hy:vals[n]? =some y)
  (q:∀h',h'.IsTupleIter ad t (n+1)->Heap.SameBut ad s.heap h'->Q y {s with heap:=h'}):wpAny (model prog w) A (Builtin.SmallTypes.nextOf (.ref ad)) Q E s:=by
 obtain⟨ob,hob,hcl,hdat⟩:=id st
 obtain⟨ob2,Tu,_,nn,LL⟩:=hv
 unfold Builtin.SmallTypes.nextOf
 refine aae (acE (name:=Str.ofString "__next__") st.typeIs adF (ac5 adF st.typeIs F.entry_tuple_iterator_next ?_ (F.args_tuple_iterator_next_1 _)))
 show wpAny _ _ (field (.ref ad) 0 >>= _) _ _ s
 refine aae (ab7 hob hdat (x:=.ref t) rfl ?_)
 show wpAny _ _ (if(Value.ref t == Value.none)=true then _ else _) _ _ s;rw[if_neg (show ¬((Value.ref t == Value.none)=true) from ac9)]
 show wpAny _ _ (field (.ref ad) 1 >>= _) _ _ s
 refine aae (ab7 hob hdat (x:=.int n 0) rfl ?_)
 show wpAny _ _ (seqItems? (.ref t) >>= _) _ _ s;refine aae (acf Tu LL ?_)
 simp only[adf,hy]
 refine aae (wpAny_setField hob hdat (by simp) (aag ⟨y,rfl,aag (q _ ?_ (aeX ..))⟩))
 exact⟨_,acV _ hob (Obj.isFreed_of_fields (Obj.data_mapFields hdat _)),(Obj.cls_mapFields ..).trans hcl,by rw[Obj.data_mapFields hdat];kernel_rfl⟩
def Tv {t:Addr}(hn:A.handled=none) (st:s.heap.IsTupleIter ad t n) (hv:s.heap.IsTuple t vals) (hy:vals[n]? =none)
  (q:∀h' e,Heap.ExtBut ad s.heap h'->(∃o,h'.get? e=some o/\o.cls= .type "StopIteration")->E (.ref e) {s with heap:=h'}):wpAny (model prog w) A (Builtin.SmallTypes.nextOf (.ref ad)) Q E s:=by
 obtain⟨ob,hob,hcl,hdat⟩:=id st
 obtain⟨ob2,Tu,_,nn,LL⟩:=hv
 unfold Builtin.SmallTypes.nextOf
 refine aae (acE (name:=Str.ofString "__next__") st.typeIs adF (ac5 adF st.typeIs F.entry_tuple_iterator_next ?_ (F.args_tuple_iterator_next_1 _)))
 show wpAny _ _ (field (.ref ad) 0 >>= _) _ _ s
 refine aae (ab7 hob hdat (x:=.ref t) rfl ?_)
 show wpAny _ _ (if(Value.ref t == Value.none)=true then _ else _) _ _ s;rw[if_neg (show ¬((Value.ref t == Value.none)=true) from ac9)]
 show wpAny _ _ (field (.ref ad) 1 >>= _) _ _ s
 refine aae (ab7 hob hdat (x:=.int n 0) rfl ?_)
 show wpAny _ _ (seqItems? (.ref t) >>= _) _ _ s;refine aae (acf Tu LL ?_)
 simp only[adf,hy]
 refine aae (aej (aae (wpAny_setField hob hdat (by simp) ?_)))
 show wpAny _ _ (newExc (.type "StopIteration") [] >>= _) _ _ _;refine aae ?_;simp only[newExc,newTuple]
 refine aae (adg ?_ (by size_fits));refine aae (m:=firstArgMember _ _) (wpAny_of_eq (a:=Value.none) (by first | rfl | (simp only[firstArgMember];rfl)) ?_)
 refine adg ?_ (by size_fits);simp only[raiseNew];refine aae (wpAny_handled ?_)
 first | rw[show A.in1.handled=none from hn] | rw[hn]
 refine aae (aag (wpAny_throw ?_));exact q _ _ (((aeX ..).extBut.push _).push _) ⟨_,aaJ _ rfl,rfl⟩
def nextK {t:Addr}{y:Value}(st:mL k s.heap ad t n) (hv:qI k s.heap t vals) (hy:vals[n]? =some y)
  (q:∀h',mL k h' ad t (n+1)->Heap.SameBut ad s.heap h'->Q y {s with heap:=h'}):wpAny (model prog w) A (Builtin.SmallTypes.nextOf (.ref ad)) Q E s:=by
 cases k with
 | true=>exact wpAny_nextOf_list_item st hv hy q
 | false=>exact Pd st hv hy q
def IB {t:Addr}(hn:A.handled=none) (st:mL k s.heap ad t n) (hv:qI k s.heap t vals) (hy:vals[n]? =none)
  (q:∀h' e,Heap.ExtBut ad s.heap h'->(∃o,h'.get? e=some o/\o.cls= .type "StopIteration")->E (.ref e) {s with heap:=h'}):wpAny (model prog w) A (Builtin.SmallTypes.nextOf (.ref ad)) Q E s:=by
 cases k with
 | true=>exact wpAny_nextOf_list_end hn st hv hy q
 | false=>exact Tv hn st hv hy q
def Tw (hn:A.handled=none) (ad t:Addr) (hne:t≠ad) (vals:AAK):Draws prog w A ad [ad,t] vals.size (fun i v=>vals[i]? =some v) (fun i h=>mL k h ad t i/\qI k h t vals) where
 live:=fun a a st=>let⟨o,ho,_⟩:=st.1.obj;⟨o,ho⟩
 frame:=fun a a a st hk=>⟨st.1.at fun o e=>hk ad (by simp) o e,st.2.at fun o e=>hk t (by simp) o e⟩
 item:=fun i s Q E hi st hQ=>nextK st.1 st.2 (y:=vals[i]) (by simp[hi]) fun h' Tz hs'=>hQ _ h' s.toks (by simp[hi]) ⟨Tz,st.2.at fun o e=>hs'.extBut _ _ hne e⟩ hs'
 done:=fun s Q E st hE=>IB hn st.1 st.2 (by simp) hE
end
def LM (l:Addr) (vals:AAK) (n:Nat) (dct:Option Addr) (sl:Array (Option Value)):
  Meets (Builtin.«enumerate.__new__» ⟨[.type "enumerate",.ref l],[]⟩) (fun _ R s=>s.heap.get? l=some {cls:=.type "tuple",dict:=dct,data:=.seq vals n,slots:=sl}/\
   R (.ok (.ret (.ref (s.heap.push (J0 false l)).objs.size))) {s with heap:=(s.heap.push (J0 false l)).push {cls:=.type "enumerate",data:=.fields #[.none,.bool false,.ref s.heap.objs.size,rawInt 0,.none,.none]}}):=
 .of_wp fun prog w A R s h=>by
  obtain⟨hp,g,d,tk,os⟩:=s;obtain⟨hl,h⟩:=h
  have hsub:=sub_enumerate
  have hT:Heap.IsTuple (Shared.heap ⟨hp,g,d,tk,os⟩) l vals:=⟨_,hl,rfl,n,rfl⟩
  wp_walk using wpAny_loadPart' hl
  refine wpAny_stack_any fun st=>aag ?_
  split
  ·rename_i c _ _ _ _ _
   cases(c == Value.type "enumerate")
   ·wp_walk using wpAny_loadPart' hl,adP hT;exact⟨_,rfl,h⟩
   ·wp_walk using wpAny_loadPart' hl,adP hT;exact⟨_,rfl,h⟩
  ·wp_walk using wpAny_loadPart' hl,adP hT;exact⟨_,rfl,h⟩
section
variable {prog:Program}{w:World}{A:Around}{E:AAE}{s:Shared}
def E8 {l:Addr}(hL:qI k s.heap l vals)
  (h:∀h',IsEnum h' (s.heap.objs.size+1) s.heap.objs.size 0 .none->mL k h' s.heap.objs.size l 0->(∀b o,s.heap.get? b=some o->h'.get? b=some o)->Q (.ref (s.heap.objs.size+1)) {s with heap:=h'}):
  wpAny (model prog w) A (call (.type "enumerate") [.ref l]) Q E s:=by
 cases k with
 | true=>exact call_enumerate_list hL fun h' a b d c=>h h' a b c
 | false=>
  obtain⟨⟨c,dct,dt,sl⟩,hl,hc,n,hd⟩:=hL
  have hc:c= .type "tuple":=hc
  have hd:dt= .seq vals n:=hd
  subst hc hd
  refine callType_new F.called_enumerate (by decide) (F.typeCall_enumerate_1 _) (F.newCall_enumerate_1 _) (fun obj=>F.args_object_init_2 obj _) F.entry_enumerate_new (LM l vals n dct sl) ⟨hl,?_⟩
  have hz:(s.heap.push (J0 false l)).objs.size=s.heap.objs.size+1:=acX ..
  show _/\_
  rw[hz]
  have he:IsEnum ((s.heap.push (J0 false l)).push {cls:=.type "enumerate",data:=.fields #[.none,.bool false,.ref s.heap.objs.size,rawInt 0,.none,.none]}) (s.heap.objs.size+1) s.heap.objs.size 0 .none:=by
   have:=aaJ (s.heap.push (J0 false l)) (o:={cls:=.type "enumerate",data:=.fields #[.none,.bool false,.ref s.heap.objs.size,rawInt 0,.none,.none]}) rfl
   rw[hz] at this;exact this
  exact⟨⟨_,he,rfl⟩,h _ he ((mL.new false s.heap l).at fun o e=>aaf _ e) fun b o x=>aaf _ (aaf _ x)⟩
end
def TF (hn:A.handled=none) (ad t:Addr) (vals:AAK) (n:Nat) (he:vals[n]? =none):Draws prog w A ad [ad,t] n (fun a a=>True) (fun i h=>mL k h ad t i/\qI k h t vals/\i=n) where
 live:=fun a a st=>let⟨o,ho,_⟩:=st.1.obj;⟨o,ho⟩
 frame:=fun a a a st hk=>⟨st.1.at fun o e=>hk ad (by simp) o e,st.2.1.at fun o e=>hk t (by simp) o e,st.2.2⟩
 item:=fun i s Q E hi st hQ=>absurd hi (by rw[st.2.2];exact acM _)
 done:=fun s Q E st hE=>IB hn st.1 st.2.1 he hE
def AK (K:AAD) (H:Hp) (k:Bool) (a:Addr) (xs:List V):Prop:=match k with
 | true=>oO K H a xs
 | false=>Ao K H a xs
section
variable {X:Cx}{pins:AAG}{σ:St}{H:Hp}{s:Shared}
def Inv.E9 (I:Inv X pins σ H s)(h:AK X.K H k a xs):∃its:List Value,Vals xs its/\qI k s.heap a its.toArray/\xs.length<=sizeLine:=by
 cases k with
 | true=>obtain⟨its,r,p,z⟩:=I.list h;exact⟨its,r,p.isList,z⟩
 | false=>obtain⟨its,r,p,z⟩:=I.tuple h;exact⟨its,r,p,z⟩
def Inv.BR (I:Inv X pins σ H s){ys:List V}(h:AK X.K H k a xs) (h':AK X.K H k a ys):xs=ys:=by
 cases k with
 | true=>exact I.xR h h'
 | false=>exact I.Aq h h'
def Inv.xx {t':Nat}(I:Inv X pins σ H s) (k:∀b o,b∉fp->s.heap.get? b=some o->h'.get? b=some o) (hf:∀b∈fp,l9 X pins H b):Inv X pins σ H {s with heap:=h',toks:=t'}:=by
 have Wy:∀b u,H b=some u->b∉fp:=fun b u e z=>by rw[(hf b z).1] at e;cases e
 refine I.step (g':=s.gens) (d':=s.drawn) (ch:=fp) (fun b hb=>?_) (fun b o a a hc e a=>k b o hc e) (fun b o a a hc e a=>⟨o.slots,k b o hc e⟩) (fun a a a a n=>n)
  (fun b o hc e=>⟨o,k b o hc e⟩) (fun a a e=>e) (fun a a a e=>e) (fun b ps e=>⟨#[],by rw[e];simp⟩) (fun m hm=>?_) (fun b u e=>?_) I.bare
 ·obtain⟨_,f1,_,f3,f4,f5⟩:=hf b hb
  exact⟨f3,f1,f4,f5⟩
 ·obtain⟨o,es,ep,ho,r⟩:=hm
  exact⟨o,es,ep,k _ o (fun z=>(hf _ z).2.1 rfl) ho,r⟩
 ·refine(I.hok b u e).stay (fun c v hc q=>k c v ?_ q) (fun a q=>q) fun a a q=>q
  rcases hc with z | z
  ·rw[z];exact Wy b u e
  ·exact Wy c _ z
def Inv.handed {t':Nat}{its:AAL}(I:Inv X pins σ H s) (hf:∀b∈fp,l9 X pins H b) (hlt:∀b∈fp,b < s.heap.objs.size) (k:∀b o,b∉fp->s.heap.get? b=some o->h'.get? b=some o)
  (ht:h'.get? s.heap.objs.size=some {cls:=.type "tuple",data:=.seq its.toArray}) (hv:Vals xs its) (hz:xs.length<=sizeLine):Inv X pins σ (upd H s.heap.objs.size (.tup xs)) {s with heap:=h',toks:=t'}:=by
 have I1:Inv X pins σ (upd H s.heap.objs.size (.tup xs)) {s with heap:=s.heap.push {cls:=.type "tuple",data:=.seq its.toArray},toks:=t'}:=
  I.laid (fun a a q=>aaf _ q) (aaC _) ⟨hz,its,hv,IsTup.new s.heap _⟩
 refine Inv.xx (s:={s with heap:=s.heap.push {cls:=.type "tuple",data:=.seq its.toArray},toks:=t'}) (t':=t') (fp:=fp) I1 (fun b o hb e=>?_) fun b hb=>?_
 ·rcases Heap.get?_push_cases (show(s.heap.push {cls:=.type "tuple",data:=.seq its.toArray}).get? b=some o from e) with⟨z1,z2⟩ | z
  ·rw[z1,z2];exact ht
  ·exact k b o hb z
 ·obtain⟨f0,f1,f2,f3,f4,f5⟩:=hf b hb
  exact⟨by rw[bf (aaY (hlt b hb))];exact f0,f1,f2,f3,f4,f5⟩
end
def Ite (K:AAD) (k:Bool) (a:Addr):It:=
 ⟨fun i H=>∃xs x,AK K H k a xs/\xs[i]? =some x,fun i H x H'=>∃p y,H p=none/\x= .ref p/\H'=upd H p (.tup [.int i,y])/\∀xs,AK K H k a xs->xs[i]? =some y,fun i H=>∃xs,AK K H k a xs/\xs.length<=i⟩
def IC {P:Program}{elts:List Expr}(k:Bool) (a it e:Addr) (hai:a≠it) (hae:e≠a) (hei:e≠it):Turn P w K (.Tuple elts j pos) (Ite K k a) [e,it] e (fun i h=>(∃old,IsEnum h e it (i:Int) old)/\mL k h it a i) where
 mem:=by simp
 obj:=fun i h ⟨⟨old,he⟩,st⟩ b hb=>by
  rcases aaA.mp hb with z | z
  ·subst z;exact⟨_,he,fun v z=>by cases z⟩
  ·have z:b=it:=by simpa using z
   subst z
   exact st.obj
 keep:=fun i h h' ⟨⟨old,he⟩,st⟩ g=>⟨⟨old,g e (by simp) _ he⟩,st.at fun o q=>g it (by simp) o q⟩
 item:=by
  intro X hP hw hK hc i pins s σ H E I hf st hg
  subst hP hw hK
  obtain⟨xs,x,hq,hx⟩:=hg
  obtain⟨its,rv,p,hz⟩:=I.E9 hq
  obtain⟨u,hu,ru⟩:=rv.get hx
  obtain⟨⟨old,he⟩,hit⟩:=st
  have hsz:i < its.toArray.size:=by rw[aaj];exact(aaG.mp hu).1
  refine wpAny_pyNext_enum_itemD (Tw (k:=k) (A:=X.A.in1) (I.ok.hd hc) it a hai its.toArray) he ⟨hit,p⟩ hsz hei (by simp[hae,hei]) fun y h' tk hy ho hs' hT hzz hk=>?_
  obtain⟨Tz,p'⟩:=hs'
  have ey:y=u:=by
   have h1:its.toArray[i]? =some u:=by simpa using hu
   rw[h1] at hy;exact(aa0 hy).symm
  subst ey
  refine⟨_,rfl,wpAny_letOwnedTupleGo_enum ho fun h2 he2 hs2=>?_⟩
  have hs2:Heap.SameBut e h' h2:=hs2
  have elt:e < s.heap.objs.size:=aaF he
  obtain⟨oi,hoi,_⟩:=hit.obj
  have ilt:it < s.heap.objs.size:=aaF hoi
  have XH:∀b∈[e,it],b < s.heap.objs.size:=fun b hb=>by
   rcases aaA.mp hb with z | z
   ·rw[z];exact elt
   ·rw[show b=it by simpa using z];exact ilt
  have I2:Inv X pins σ (upd H s.heap.objs.size (.tup [.int i,x])) {s with heap:=h2,toks:=tk+1}:=
   I.handed (its:=[.int i tk,y]) hf XH (fun b o hb q=>(hs2.2 b fun z=>hb (by simp[z])).trans (hk b o (fun z=>hb (by simp[z])) (fun z=>hb (by simp[z])) q))
    ((hs2.2 _ (adM elt)).trans hT) (.cons ⟨tk,rfl⟩ (.cons ru .nil)) (show 2<=sizeLine by decide)
  refine⟨.ref s.heap.objs.size,_,I2,rfl,⟨_,x,I.fresh,rfl,rfl,fun ys hy2=>by rw[I.BR hy2 hq];exact hx⟩,⟨⟨y,by simpa using he2⟩,Tz.at fun o q=>(hs2.2 _ (ac2 hei)).trans q⟩,fun b hb=>?_⟩
  rw[bf (aaY (XH b hb))]
  exact(hf b hb).1
 done:=by
  intro X hP hw hK hc i pins s σ H E I hf st hg
  subst hP hw hK
  obtain⟨xs,hq,hx⟩:=hg
  obtain⟨its,rv,p,hz⟩:=I.E9 hq
  obtain⟨⟨old,he⟩,hit⟩:=st
  have hl:=rv.length
  refine wpAny_pyNext_enum_endD (n:=i) (TF (k:=k) (A:=X.A.in1) (I.ok.hd hc) it a its.toArray i (by simp;lia)) he ⟨hit,p,rfl⟩ fun h' hx=>?_
  exact⟨rfl,I.xx (t':=s.toks) (fun b o hb q=>hx b o (fun z=>hb (by simp[z])) q) hf⟩
 self:=fun c c c c c st h=>by
  obtain⟨⟨old,he⟩,_⟩:=st
  exact wpAny_pyIter_enum he h
end L2
end
section
def L2.Ep (N a:Nat):N≠N+(a+1):=aaY (Nat.lt_add_of_pos_right (Nat.succ_pos a))
def L2.Dm (N a:Nat):N+(a+1)≠N:=(L2.Ep N a).symm
def L2.kW {N a b:Nat}(h:Nat.beq a b=false):N+a≠N+b:=fun e=>Nat.ne_of_beq_eq_false h (Nat.add_left_cancel e)
namespace L2
open PySem PySem.Spec PyProof.Rows
variable {Q:Option Value->Shared->Prop}{N i l0 l1:Nat}{k0 k1:Bool}{v0 v1:AAK}{a:Addr}{prog:Program}{w:World}{E:AAE}{elts:List Expr}{K:AAD}{H:Hp}{B:Base}{σ:St}
abbrev TupAt (h:Heap) (T:Addr) (vals:AAK):Prop:=h.get? T=some {cls:=.type "tuple",data:=.seq vals}
section
variable {prog:Program}{w:World}{A:Around}{E:AAE}{s:Shared}
def LN {T:Addr}{vals:AAK}{x:Value}{k:Nat}{Q:Unit->Shared->Prop}(hT:TupAt s.heap T vals) (hz:vals.size<=sizeLine) (h:∀h',TupAt h' T (vals.setIfInBounds k x)->Heap.SameBut T s.heap h'->Q () {s with heap:=h'}):
  wpAny (model prog w) A (updateSeq T (·.setIfInBounds k x)) Q E s:=by
 refine aec hT rfl (h _ ?_ (aeX ..)) hz (by simp only[Array.size_setIfInBounds];lia);rw[TupAt,acV _ hT rfl];simp[Obj.mapSeq]
structure BS (N:Nat) (k0 k1:Bool) (l0 l1:Nat) (i:Nat) (f0:Value) (h:Heap):Prop where
 z:IsZip h (N+4) (N+2) (N+3) f0
 ti:TupAt h (N+2) #[.ref N,.ref (N+1)]
 to:∃v:List Value,v.length=2/\TupAt h (N+3) v.toArray
 c0:mL k0 h N l0 i
 c1:mL k1 h (N+1) l1 i
noncomputable def iL (N:Nat):List Addr:=[(N+4),(N+2),(N+3),N,(N+1)]
def aV {b:Nat}:b∈iL N↔N<=b/\b<=N+4:=by
 unfold iL
 simp only[aaA,abb,ac7]
 lia
def LO {x0 x1:Value}(st:BS N k0 k1 l0 l1 i .none s.heap)
  (G1:qI k0 s.heap l0 v0) (CC:v0[i]? =some x0) (Er:l0 < N)
  (Es:qI k1 s.heap l1 v1) (Et:v1[i]? =some x1) (Eu:l1 < N)
  (q:∀h',BS N k0 k1 l0 l1 (i+1) (rawInt s.heap.objs.size) h'->TupAt h' s.heap.objs.size #[x0,x1]->(∀(b:Nat) o,b∉iL N->s.heap.get? b=some o->h'.get? b=some o)->Q (some (.ref s.heap.objs.size)) {s with heap:=h'}):
  wpAny (model prog w) A (pyNext (.ref (N+4))) Q E s:=by
 obtain⟨hz,hTI,⟨w0,hw0,hTO⟩,d0,d1⟩:=st
 obtain⟨a0,a1,rfl⟩:∃a0 a1,w0=[a0,a1]:=by
  match w0,hw0 with
  | [a0,a1],_=>exact⟨_,_,rfl⟩
 have hT:s.TypeIs (.ref (N+4)) "zip":=⟨_,hz,rfl⟩
 unfold pyNext
 refine aae (wpAny_attempt (acE (name:=Str.ofString "__next__") hT adE (ac5 adE hT afA ?_ (afq _))))
 show wpAny _ _ (field (.ref (N+4)) 2 >>= _) _ _ _;refine aae (ab7 hz rfl (x:=.bool false) rfl ?_)
 show wpAny _ _ (field (.ref (N+4)) 3 >>= _) _ _ _;refine aae (ab7 hz rfl (x:=.ref (N+2)) rfl ?_)
 refine aae (acf hTI rfl ?_);show wpAny _ _ (Builtin.SmallTypes.ownedTupleIsFree (.ref (N+4)) >>= _) _ _ _
 refine aae ?_;unfold Builtin.SmallTypes.ownedTupleIsFree;refine aae (ab7 hz rfl (x:=.none) rfl (aag ?_))
 simp only[if_true];refine aae (aej ?_);refine aae (ab7 hz rfl (x:=.ref (N+3)) rfl ?_)
 refine aae (acG hz (by simp) fun g0 z0 e0=>?_)
 have z0:IsZip g0 (N+4) (N+2) (N+3) .ellipsis:=z0
 have e0:Heap.SameBut (N+4) s.heap g0:=e0
 refine aae ?_;simp only[afB,afG,adA,ael]
 have t0:TupAt g0 (N+3) #[a0,a1]:=(e0.2 _ (kW rfl)).trans hTO
 have m0:∀(b:Nat) o,b∉iL N->s.heap.get? b=some o->g0.get? b=some o:=fun b o hb y=>(e0.2 b fun z=>hb (aV.mpr (by have z:@Eq Nat b _:=z;lia))).trans y
 have VX:mL k0 g0 N l0 i:=d0.at fun o y=>(e0.2 _ (Ep _ _)).trans y
 have LP:mL k1 g0 (N+1) l1 i:=d1.at fun o y=>(e0.2 _ (kW rfl)).trans y
 refine aae (aae (ad7 ?_));show wpAny _ _ (Builtin.SmallTypes.nextOf (.ref N) >>= _) _ _ _
 refine aae (nextK VX (G1.at fun o y=>m0 _ o (fun z=>by have:=aV.mp z;lia) y) CC fun g1 c0 e1=>aag ?_)
 have e1:Heap.SameBut N g0 g1:=e1
 have t1:TupAt g1 (N+3) #[a0,a1]:=(e1.2 _ (Dm _ _)).trans t0
 refine aae (acf t1 rfl ?_);refine aae (LN t1 (show 2<=sizeLine by decide) fun g2 t2 e2=>?_)
 have t2:TupAt g2 (N+3) #[x0,a1]:=t2
 have e2:Heap.SameBut (N+3) g1 g2:=e2
 have z1:IsZip g2 (N+4) (N+2) (N+3) .ellipsis:=(e2.2 _ (kW rfl)).trans ((e1.2 _ (Dm _ _)).trans z0)
 have m2:∀(b:Nat) o,b∉iL N->s.heap.get? b=some o->g2.get? b=some o:=fun b o hb y=>(e2.2 b fun z=>hb (aV.mpr (by have z:@Eq Nat b _:=z;lia))).trans ((e1.2 b fun z=>hb (aV.mpr (by have z:@Eq Nat b _:=z;lia))).trans (m0 b o hb y))
 refine aae (ad8 (aag ?_))
 have c0:mL k0 g2 N l0 (i+1):=c0.at fun o y=>(e2.2 _ (Ep _ _)).trans y
 have LP:mL k1 g2 (N+1) l1 i:=LP.at fun o y=>(e2.2 _ (kW rfl)).trans ((e1.2 _ (Dm _ _)).trans y)
 have i0:g2.get? (N+2)=s.heap.get? (N+2):=by rw[e2.2 _ (kW rfl),e1.2 _ (Dm _ _),e0.2 _ (kW rfl)]
 have s0:g2.objs.size=s.heap.objs.size:=by rw[e2.1,e1.1,e0.1]
 refine aae (aae (ad7 ?_));show wpAny _ _ (Builtin.SmallTypes.nextOf (.ref (N+1)) >>= _) _ _ _
 refine aae (nextK LP (Es.at fun o y=>m2 _ o (fun z=>by have:=aV.mp z;lia) y) Et fun g3 c1 e3=>aag ?_)
 have e3:Heap.SameBut (N+1) g2 g3:=e3
 have t3:TupAt g3 (N+3) #[x0,a1]:=(e3.2 _ (kW rfl)).trans t2
 refine aae (acf t3 rfl ?_);refine aae (LN t3 (show 2<=sizeLine by decide) fun g4 t4 e4=>?_)
 have t4:TupAt g4 (N+3) #[x0,x1]:=t4
 have e4:Heap.SameBut (N+3) g3 g4:=e4
 have z2:IsZip g4 (N+4) (N+2) (N+3) .ellipsis:=(e4.2 _ (kW rfl)).trans ((e3.2 _ (kW rfl)).trans z1)
 have m4:∀(b:Nat) o,b∉iL N->s.heap.get? b=some o->g4.get? b=some o:=fun b o hb y=>(e4.2 b fun z=>hb (aV.mpr (by have z:@Eq Nat b _:=z;lia))).trans ((e3.2 b fun z=>hb (aV.mpr (by have z:@Eq Nat b _:=z;lia))).trans (m2 b o hb y))
 refine aae (ad8 (aag (aag ?_)))
 have c0:mL k0 g4 N l0 (i+1):=c0.at fun o y=>(e4.2 _ (Ep _ _)).trans ((e3.2 _ (Ep _ _)).trans y)
 have c1:mL k1 g4 (N+1) l1 (i+1):=c1.at fun o y=>(e4.2 _ (kW rfl)).trans y
 have i1:g4.get? (N+2)=s.heap.get? (N+2):=by rw[e4.2 _ (kW rfl),e3.2 _ (kW rfl),i0]
 have s1:g4.objs.size=s.heap.objs.size:=by rw[e4.1,e3.1,s0]
 refine aae (acf t4 rfl ?_);refine aae (wpAny_newTuple ?_)
 have TH:(N+4) < g4.objs.size:=aaF z2
 show wpAny _ _ (Builtin.SmallTypes.ownedTupleHandOut (.ref (N+4)) (.ref g4.objs.size) >>= _) _ _ _;refine aae ?_;unfold Builtin.SmallTypes.ownedTupleHandOut
 have y0:IsZip (g4.push {cls:=.type "tuple",data:=.seq #[x0,x1]}) (N+4) (N+2) (N+3) .ellipsis:=aaf _ z2
 refine aae (acG y0 (by simp) fun f1 y1 r1=>?_)
 have y1:IsZip f1 (N+4) (N+2) (N+3) (rawInt g4.objs.size):=y1
 refine acG y1 (by simp) fun f2 y2 r2=>?_
 have y2:IsZip f2 (N+4) (N+2) (N+3) (rawInt g4.objs.size):=y2
 have up:∀b o,b≠(N+4)->g4.get? b=some o->f2.get? b=some o:=fun b o hb y=>r2.extBut _ _ hb (r1.extBut _ _ hb (aaf _ y))
 have tt:TupAt f2 g4.objs.size #[x0,x1]:=r2.extBut _ _ (adM TH) (r1.extBut _ _ (adM TH) (aaJ _ rfl))
 rw[s1] at y2 tt
 refine aag ⟨_,rfl,aag ?_⟩
 rw[s1]
 exact q f2 ⟨y2,up _ _ (kW rfl) (i1.trans hTI),⟨[x0,x1],rfl,up _ _ (kW rfl) t4⟩,c0.at fun o y=>up _ o (Ep _ _) y,c1.at fun o y=>up _ o (kW rfl) y⟩ tt fun b o hb y=>up b o (fun z=>hb (aV.mpr (by have z:@Eq Nat b _:=z;lia))) (m4 b o hb y)
def tK {M:Model}{Q:Option Obj->Shared->Prop}(h:Q (s.heap.get? a) s):wpAny M A (loadIfAlive a) Q E s:=fun Γ p _=>by
 unfold loadIfAlive
 rw[Sem.wp_loadIfAlive]
 exact(aag h:wpAny M A (pure (s.heap.get? a)) Q E s) Γ p (by assumption)
abbrev jG (h:Heap) (z TI TO:Addr) (f0 f1:Value):Prop:=h.get? z=some {cls:=.type "zip",dict:=none,data:=.fields #[f0,f1,.bool false,.ref TI,.ref TO],slots:=#[]}
def ZF0 (f0 f1:Value):Prop:=(f0= .none\/∃T:Int,f0=rawInt T)/\∃b,f1= .bool b
structure rW (N:Nat) (k0 k1:Bool) (l0 l1:Nat) (i:Nat) (h:Heap):Prop where
 z:∃f0 f1,ZF0 f0 f1/\jG h (N+4) (N+2) (N+3) f0 f1
 ti:TupAt h (N+2) #[.ref N,.ref (N+1)]
 to:∃v:List Value,v.length=2/\TupAt h (N+3) v.toArray
 c0:mL k0 h N l0 i
 c1:mL k1 h (N+1) l1 i
def BS.l {h:Heap}(x:BS N k0 k1 l0 l1 i .none h):rW N k0 k1 l0 l1 i h:=⟨⟨_,_,⟨.inl rfl,_,rfl⟩,x.z⟩,x.ti,x.to,x.c0,x.c1⟩
def Dn {z TI TO:Addr}{f0 f1:Value}{Q:Bool->Shared->Prop}(hz:jG s.heap z TI TO f0 f1) (hf:ZF0 f0 f1)
  (q:∀b h' g0 g1,ZF0 g0 g1->jG h' z TI TO g0 g1->Heap.SameBut z s.heap h'->Q b {s with heap:=h'}):wpAny (model prog w) A (Builtin.SmallTypes.ownedTupleIsFree (.ref z)) Q E s:=by
 unfold Builtin.SmallTypes.ownedTupleIsFree
 have same:Heap.SameBut z s.heap s.heap:=⟨rfl,fun a a=>rfl⟩
 obtain⟨h0,b1,rfl⟩:=id hf
 rcases h0 with rfl | ⟨T,rfl⟩
 ·exact aae (ab7 hz rfl (x:=.none) rfl (aag (q true s.heap _ _ hf hz same)))
 ·refine aae (ab7 hz rfl (x:=rawInt T) rfl ?_)
  show wpAny _ _ (loadIfAlive T.toNat >>= _) _ _ _
  refine aae (tK ?_)
  cases hl:s.heap.get? T.toNat with
  | none=>exact aag (q true s.heap _ _ hf hz same)
  | some o=>
   show wpAny _ _ (field (.ref z) 1 >>= _) _ _ _
   refine aae (ab7 hz rfl (x:=.bool b1) rfl ?_)
   cases b1 with
   | true=>exact aag (q false s.heap _ _ hf hz same)
   | false=>
    show wpAny _ _ (setField (.ref z) 1 (.bool true) >>= _) _ _ _
    refine aae (acG hz (by simp) fun h' hz' e'=>?_)
    exact aag (q false h' (rawInt T) (.bool true) ⟨.inr ⟨T,rfl⟩,true,rfl⟩ hz' e')
def G2 (hn:A.handled=none) (st:rW N k0 k1 l0 l1 i s.heap)
  (G1:qI k0 s.heap l0 v0) (Er:l0 < N)
  (Es:qI k1 s.heap l1 v1) (Eu:l1 < N)
  (hend:v0[i]? =none\/v1[i]? =none)
  (q:∀h',(∀(b:Nat) o,b∉iL N->s.heap.get? b=some o->h'.get? b=some o)->Q none {s with heap:=h'}):
  wpAny (model prog w) A (pyNext (.ref (N+4))) Q E s:=by
 obtain⟨⟨f0,f1,hf,hz⟩,hTI,⟨w0,hw0,hTO⟩,d0,d1⟩:=st
 obtain⟨a0,a1,rfl⟩:∃a0 a1,w0=[a0,a1]:=by
  match w0,hw0 with
  | [a0,a1],_=>exact⟨_,_,rfl⟩
 have hT:s.TypeIs (.ref (N+4)) "zip":=⟨_,hz,rfl⟩
 unfold pyNext
 refine aae (wpAny_attempt (acE (name:=Str.ofString "__next__") hT adE (ac5 adE hT afA ?_ (afq _))))
 show wpAny _ _ (field (.ref (N+4)) 2 >>= _) _ _ _;refine aae (ab7 hz rfl (x:=.bool false) rfl ?_)
 show wpAny _ _ (field (.ref (N+4)) 3 >>= _) _ _ _;refine aae (ab7 hz rfl (x:=.ref (N+2)) rfl ?_)
 refine aae (acf hTI rfl ?_);show wpAny _ _ (Builtin.SmallTypes.ownedTupleIsFree (.ref (N+4)) >>= _) _ _ _
 refine aae (Dn hz hf fun fr yC q0 fl hf' hz' AL=>?_)
 clear hf hz hT
 have AL:Heap.SameBut (N+4) s.heap yC:=AL
 cases fr
 case false=>
  have RC:∀(b:Nat) o,b∉iL N->s.heap.get? b=some o->yC.get? b=some o:=fun b o hb y=>(AL.2 b fun z=>hb (aV.mpr (by have z:@Eq Nat b _:=z;lia))).trans y
  have d0:mL k0 yC N l0 i:=d0.at fun o y=>(AL.2 _ (Ep _ _)).trans y
  have d1:mL k1 yC (N+1) l1 i:=d1.at fun o y=>(AL.2 _ (kW rfl)).trans y
  have hTO:TupAt yC (N+3) #[a0,a1]:=(AL.2 _ (kW rfl)).trans hTO
  have hTI:TupAt yC (N+2) #[.ref N,.ref (N+1)]:=(AL.2 _ (kW rfl)).trans hTI
  have Fb:qI k0 yC l0 v0:=G1.at fun o y=>RC _ o (fun z=>by have:=aV.mp z;lia) y
  have Fc:qI k1 yC l1 v1:=Es.at fun o y=>RC _ o (fun z=>by have:=aV.mp z;lia) y
  simp only[adx,adi]
  refine aae ?_
  rw[<-aee]
  simp only[adA,ael]
  refine aae (aae (acW ?_));show wpAny _ _ (Builtin.SmallTypes.nextOf (.ref N) >>= _) _ _ _
  cases CC:v0[i]? with
  | none=>
   refine aae (IB hn d0 Fb CC fun u1 e r1 he=>?_)
   have r1:Heap.ExtBut N yC u1:=r1
   obtain⟨oe,LQ,hce⟩:=he
   exact aae (ad3 (T:="StopIteration") (b:=true) ⟨oe,LQ,hce⟩ ae8 (aag (q _ fun b o hb y=>r1 _ _ (fun z=>hb (aV.mpr (by have z:@Eq Nat b _:=z;lia))) (RC b o hb y))))
  | some x0=>
   refine aae (nextK d0 Fb CC fun g1 c0 e1=>aag (aag ?_))
   have e1:Heap.SameBut N yC g1:=e1
   have m1:∀(b:Nat) o,b∉iL N->s.heap.get? b=some o->g1.get? b=some o:=fun b o hb y=>(e1.2 b fun z=>hb (aV.mpr (by have z:@Eq Nat b _:=z;lia))).trans (RC b o hb y)
   have d1:mL k1 g1 (N+1) l1 i:=d1.at fun o y=>(e1.2 _ (Dm _ _)).trans y
   have Fc:qI k1 g1 l1 v1:=Es.at fun o y=>m1 _ o (fun z=>by have:=aV.mp z;lia) y
   refine aae (aae (acW ?_));show wpAny _ _ (Builtin.SmallTypes.nextOf (.ref (N+1)) >>= _) _ _ _
   cases Et:v1[i]? with
   | none=>
    refine aae (IB hn d1 Fc Et fun u1 e r1 he=>?_)
    have r1:Heap.ExtBut (N+1) g1 u1:=r1
    obtain⟨oe,LQ,hce⟩:=he
    exact aae (ad3 (T:="StopIteration") (b:=true) ⟨oe,LQ,hce⟩ ae8 (aag (q _ fun b o hb y=>r1 _ _ (fun z=>hb (aV.mpr (by have z:@Eq Nat b _:=z;lia))) (m1 b o hb y))))
   | some x1=>exact absurd hend (by simp only[CC,Et];rintro(h | h) <;> cases h)
 simp only[if_true];refine aae (aej ?_);refine aae (ab7 hz' rfl (x:=.ref (N+3)) rfl ?_)
 refine aae (acG hz' (by simp) fun g0 z0 e0=>?_)
 have e0:Heap.SameBut (N+4) yC g0:=e0
 have e0:Heap.SameBut (N+4) s.heap g0:=⟨e0.1.trans AL.1,fun b hb=>(e0.2 b hb).trans (AL.2 b hb)⟩
 have z0:jG g0 (N+4) (N+2) (N+3) .ellipsis fl:=z0
 have e0:Heap.SameBut (N+4) s.heap g0:=e0
 refine aae ?_;simp only[afB,afG,adA,ael]
 have t0:TupAt g0 (N+3) #[a0,a1]:=(e0.2 _ (kW rfl)).trans hTO
 have m0:∀(b:Nat) o,b∉iL N->s.heap.get? b=some o->g0.get? b=some o:=fun b o hb y=>(e0.2 b fun z=>hb (aV.mpr (by have z:@Eq Nat b _:=z;lia))).trans y
 have VX:mL k0 g0 N l0 i:=d0.at fun o y=>(e0.2 _ (Ep _ _)).trans y
 have LP:mL k1 g0 (N+1) l1 i:=d1.at fun o y=>(e0.2 _ (kW rfl)).trans y
 refine aae (aae (ad7 ?_));show wpAny _ _ (Builtin.SmallTypes.nextOf (.ref N) >>= _) _ _ _
 have Fb:qI k0 g0 l0 v0:=G1.at fun o y=>m0 _ o (fun z=>by have:=aV.mp z;lia) y
 cases CC:v0[i]? with
 | none=>
  refine aae (IB hn VX Fb CC fun u1 e r1 he=>?_)
  have r1:Heap.ExtBut N g0 u1:=r1
  obtain⟨oe,LQ,hce⟩:=he
  have y1:jG u1 (N+4) (N+2) (N+3) .ellipsis fl:=r1 _ _ (Dm _ _) z0
  have hez:e≠(N+4):=fun x=>by subst x;rw[y1] at LQ;cases LQ;simp at hce
  refine acG y1 (by simp) fun u2 a r2=>?_
  have r2:Heap.SameBut (N+4) u1 u2:=r2
  refine aae (ad3 (T:="StopIteration") (b:=true) ⟨oe,r2.extBut _ _ hez LQ,hce⟩ ae8 (aag (q _ fun b o hb y=>r2.extBut _ _ (fun z=>hb (aV.mpr (by have z:@Eq Nat b _:=z;lia))) (r1 _ _ (fun z=>hb (aV.mpr (by have z:@Eq Nat b _:=z;lia))) (m0 b o hb y)))))
 | some x0=>
  refine aae (nextK VX Fb CC fun g1 c0 e1=>aag ?_)
  have e1:Heap.SameBut N g0 g1:=e1
  have t1:TupAt g1 (N+3) #[a0,a1]:=(e1.2 _ (Dm _ _)).trans t0
  refine aae (acf t1 rfl ?_);refine aae (LN t1 (show 2<=sizeLine by decide) fun g2 t2 e2=>?_)
  have t2:TupAt g2 (N+3) #[x0,a1]:=t2
  have e2:Heap.SameBut (N+3) g1 g2:=e2
  have z1:jG g2 (N+4) (N+2) (N+3) .ellipsis fl:=(e2.2 _ (kW rfl)).trans ((e1.2 _ (Dm _ _)).trans z0)
  have m2:∀(b:Nat) o,b∉iL N->s.heap.get? b=some o->g2.get? b=some o:=fun b o hb y=>(e2.2 b fun z=>hb (aV.mpr (by have z:@Eq Nat b _:=z;lia))).trans ((e1.2 b fun z=>hb (aV.mpr (by have z:@Eq Nat b _:=z;lia))).trans (m0 b o hb y))
  refine aae (ad8 (aag ?_))
  have LP:mL k1 g2 (N+1) l1 i:=LP.at fun o y=>(e2.2 _ (kW rfl)).trans ((e1.2 _ (Dm _ _)).trans y)
  refine aae (aae (ad7 ?_));show wpAny _ _ (Builtin.SmallTypes.nextOf (.ref (N+1)) >>= _) _ _ _
  have Fc:qI k1 g2 l1 v1:=Es.at fun o y=>m2 _ o (fun z=>by have:=aV.mp z;lia) y
  cases Et:v1[i]? with
  | none=>
   refine aae (IB hn LP Fc Et fun u1 e r1 he=>?_)
   have r1:Heap.ExtBut (N+1) g2 u1:=r1
   obtain⟨oe,LQ,hce⟩:=he
   have y1:jG u1 (N+4) (N+2) (N+3) .ellipsis fl:=r1 _ _ (kW rfl) z1
   have hez:e≠(N+4):=fun x=>by subst x;rw[y1] at LQ;cases LQ;simp at hce
   refine acG y1 (by simp) fun u2 a r2=>?_
   have r2:Heap.SameBut (N+4) u1 u2:=r2
   refine aae (ad3 (T:="StopIteration") (b:=true) ⟨oe,r2.extBut _ _ hez LQ,hce⟩ ae8 (aag (q _ fun b o hb y=>r2.extBut _ _ (fun z=>hb (aV.mpr (by have z:@Eq Nat b _:=z;lia))) (r1 _ _ (fun z=>hb (aV.mpr (by have z:@Eq Nat b _:=z;lia))) (m2 b o hb y)))))
  | some x1=>
    exact absurd hend (by simp only[CC,Et];rintro(h | h) <;> cases h)
def Pe (hn:A.handled=none) (st:BS N k0 k1 l0 l1 i .none s.heap)
  (G1:qI k0 s.heap l0 v0) (Er:l0 < N)
  (Es:qI k1 s.heap l1 v1) (Eu:l1 < N)
  (hend:v0[i]? =none\/v1[i]? =none)
  (q:∀h',(∀(b:Nat) o,b∉iL N->s.heap.get? b=some o->h'.get? b=some o)->Q none {s with heap:=h'}):
  wpAny (model prog w) A (pyNext (.ref (N+4))) Q E s:=G2 hn st.l G1 Er Es Eu hend q
end
abbrev G3 (h:Heap) (k0 k1:Bool) (l0 l1:Nat):Heap:=((h.push (J0 k0 l0)).push (J0 k1 l1))
abbrev G4 (h:Heap) (k0 k1:Bool) (l0 l1:Nat):Heap:=(G3 h k0 k1 l0 l1).push {cls:=.type "tuple",data:=.seq #[.ref h.objs.size,.ref (h.push (J0 k0 l0)).objs.size]}
abbrev G5 (h:Heap) (k0 k1:Bool) (l0 l1:Nat):Heap:=(G4 h k0 k1 l0 l1).push {cls:=.type "tuple",data:=.seq #[.none,.none]}
abbrev AM (h:Heap) (k0 k1:Bool) (l0 l1:Nat):Heap:=(G5 h k0 k1 l0 l1).push {cls:=.type "zip",data:=.fields #[.none,.bool false,.bool false,.ref (G3 h k0 k1 l0 l1).objs.size,.ref (G4 h k0 k1 l0 l1).objs.size]}
def Pf (k0 k1:Bool) (l0 l1:Nat) (v0 v1:AAK):Meets (Builtin.«zip.__new__» ⟨[.type "zip",.ref l0,.ref l1],[]⟩) (fun a R s=>qI k0 s.heap l0 v0/\qI k1 s.heap l1 v1/\R (.ok (.ret (.ref (G5 s.heap k0 k1 l0 l1).objs.size))) {s with heap:=AM s.heap k0 k1 l0 l1}):=
 .of_wp fun prog w A R s h=>by
  obtain⟨hp,g,d,tk,os⟩:=s;obtain⟨q0,q1,h⟩:=h
  have hsub:=sub_zip
  have p0:qI k0 (Shared.heap ⟨hp,g,d,tk,os⟩) l0 v0:=q0.at fun o e=>e
  have p1:qI k1 (Shared.heap ⟨(hp.push (J0 k0 l0)),g,d,tk,os⟩) l1 v1:=q1.at fun o e=>aaf _ (e)
  wp_walk using RB p0,RB p1
  exact⟨_,rfl,h⟩
def Dp {A:Around}{s:Shared}{Q:AAE}(q0:qI k0 s.heap l0 v0) (q1:qI k1 s.heap l1 v1)
  (h:∀h',BS s.heap.objs.size k0 k1 l0 l1 0 .none h'->(∀c o,s.heap.get? c=some o->h'.get? c=some o)->Q (.ref (s.heap.objs.size+4)) {s with heap:=h'}):wpAny (model prog w) A (call (.type "zip") [.ref l0,.ref l1]) Q E s:=by
 refine callType_new F.called_zip (by decide) (F.typeCall_zip_2 _ _) (F.newCall_zip_2 _ _) (fun obj=>F.args_object_init_3 obj _ _) F.entry_zip_new (Pf k0 k1 l0 l1 v0 v1) ⟨q0,q1,?_⟩
 have e0:(G3 s.heap k0 k1 l0 l1).objs.size=s.heap.objs.size+2:=by simp only[acX]
 have e1:(G4 s.heap k0 k1 l0 l1).objs.size=s.heap.objs.size+3:=by rw[acX,e0]
 have e2:(G5 s.heap k0 k1 l0 l1).objs.size=s.heap.objs.size+4:=by rw[acX,e1]
 have g2:(AM s.heap k0 k1 l0 l1).get? (G5 s.heap k0 k1 l0 l1).objs.size=some _:=aaJ _ rfl
 have g1:(AM s.heap k0 k1 l0 l1).get? (G4 s.heap k0 k1 l0 l1).objs.size=some _:=aaf _ (aaJ _ rfl)
 have g0:(AM s.heap k0 k1 l0 l1).get? (G3 s.heap k0 k1 l0 l1).objs.size=some _:=aaf _ (aaf _ (aaJ _ rfl))
 rw[e2,e0,e1] at g2
 rw[e1] at g1
 rw[e0] at g0
 simp only[acX] at g0
 show _/\_
 rw[e2]
 refine⟨⟨_,g2,rfl⟩,h _ ⟨g2,g0,⟨[.none,.none],rfl,g1⟩,?_,?_⟩ fun c o x=>aaf _ (aaf _ (aaf _ (aaf _ (aaf _ (x)))))⟩
 ·have:=(mL.new k0 (s.heap) l0).at (h':=AM s.heap k0 k1 l0 l1) fun o e=>aaf _ (aaf _ (aaf _ (aaf _ (e))))
  simpa only[acX] using this
 ·have:=(mL.new k1 ((s.heap).push (J0 k0 l0)) l1).at (h':=AM s.heap k0 k1 l0 l1) fun o e=>aaf _ (aaf _ (aaf _ (e)))
  simpa only[acX] using this
def XI (K:AAD) (k0 k1:Bool) (l0 l1:Nat):It:=
  ⟨fun i H=>∃a0 x0 a1 x1,(AK K H k0 l0 a0/\a0[i]? =some x0)/\(AK K H k1 l1 a1/\a1[i]? =some x1),
   fun i H x H'=>∃p y0 y1,H p=none/\x= .ref p/\H'=upd H p (.tup [y0,y1])/\(∀xs,AK K H k0 l0 xs->xs[i]? =some y0)/\(∀xs,AK K H k1 l1 xs->xs[i]? =some y1),
   fun i H=>∃a0 a1,AK K H k0 l0 a0/\AK K H k1 l1 a1/\(a0.length<=i\/a1.length<=i)⟩
def TJ {A:Around}{s:Shared}{j:Nat}{pos:Pos}{T:Nat}{Q:Unit->Shared->Prop}(st:BS N k0 k1 l0 l1 i (rawInt T) s.heap)
  (q:∀h',BS N k0 k1 l0 l1 i .none h'->Heap.SameBut (N+4) s.heap h'->Q () {s with heap:=h'}):wpAny (model prog w) A (letOwnedTupleGo (.Tuple elts j pos) (.ref (N+4)) (.ref T)) Q E s:=by
 obtain⟨hz,hTI,⟨w0,hw0,hTO⟩,d0,d1⟩:=st
 refine wpAny_letOwnedTupleGo_zip hz fun h' hz' hs'=>q h' ⟨hz',hs'.extBut _ _ (kW rfl) hTI,⟨w0,hw0,hs'.extBut _ _ (kW rfl) hTO⟩,d0.at fun o e=>hs'.extBut _ _ (Ep _ _) e,d1.at fun o e=>hs'.extBut _ _ (kW rfl) e⟩ hs'
def ID {P:Program}{j:Nat}{pos:Pos}(k0 k1:Bool) (l0 l1:Nat) (N:Nat) (Er:l0 < N) (Eu:l1 < N):Turn P w K (.Tuple elts j pos) (XI K k0 k1 l0 l1) (iL N) (N+4) (fun i h=>BS N k0 k1 l0 l1 i .none h) where
 mem:=by rw[aV];lia
 obj:=fun i h ⟨hz,hTI,⟨w0,hw0,hTO⟩,d0,d1⟩ b hb=>by
  unfold iL at hb
  simp only[aaA,abb,ac7] at hb
  rcases hb with rfl | rfl | rfl | rfl | rfl
  ·exact⟨_,hz,fun v z=>by cases z⟩
  ·exact⟨_,hTI,fun v z=>by cases z⟩
  ·exact⟨_,hTO,fun v z=>by cases z⟩
  ·exact d0.obj
  ·exact d1.obj
 keep:=fun i h h' ⟨hz,hTI,⟨w0,hw0,hTO⟩,d0,d1⟩ g=>⟨g _ (by rw[aV];lia) _ hz,g _ (by rw[aV];lia) _ hTI,⟨w0,hw0,g _ (by rw[aV];lia) _ hTO⟩,d0.at fun o q=>g _ (by rw[aV];lia) o q,d1.at fun o q=>g _ (by rw[aV];lia) o q⟩
 item:=by
  intro X hP hw hK hc i pins s σ H E I hf st hg
  subst hP hw hK
  obtain⟨a0,x0,a1,x1,⟨b0,CC⟩,⟨b1,Et⟩⟩:=hg
  obtain⟨LR,Pg,p0,hz0⟩:=I.E9 b0
  obtain⟨u0,hu0,ru0⟩:=Pg.get CC
  obtain⟨LS,Ph,p1,hz1⟩:=I.E9 b1
  obtain⟨u1,hu1,ru1⟩:=Ph.get Et
  have slt:∀b∈iL N,b < s.heap.objs.size:=fun b hb=>by have h1:=aV.mp hb;have h2:@LT.lt Nat _ (N+4) s.heap.objs.size:=aaF st.z;show @LT.lt Nat _ b s.heap.objs.size;lia
  refine LO st p0 (by simpa using hu0) Er p1 (by simpa using hu1) Eu fun h' st' hT hk=>?_
  refine⟨_,rfl,TJ st' fun h2 st2 hs2=>?_⟩
  have hs2:Heap.SameBut (N+4) h' h2:=hs2
  have TH:=slt (N+4) (aV.mpr (by first | lia | (show @Ne Nat _ _;omega)))
  have I2:Inv X pins σ (upd H s.heap.objs.size (.tup [x0,x1])) {s with heap:=h2,toks:=s.toks}:=
   I.handed (its:=[u0,u1]) hf slt (fun b o hb q=>(hs2.2 b fun z=>hb (aV.mpr (by have z:@Eq Nat b _:=z;lia))).trans (hk b o hb q)) ((hs2.2 _ (adM TH)).trans hT) (.cons ru0 (.cons ru1 (.nil))) (show 2<=sizeLine by decide)
  refine⟨.ref s.heap.objs.size,_,I2,rfl,⟨_,x0,x1,I.fresh,rfl,rfl,fun ys hy=>by rw[I.BR hy b0];exact CC,fun ys hy=>by rw[I.BR hy b1];exact Et⟩,st2,fun b hb=>?_⟩
  rw[bf (aaY (slt b hb))]
  exact(hf b hb).1
 done:=by
  intro X hP hw hK hc i pins s σ H E I hf st hg
  subst hP hw hK
  obtain⟨a0,a1,b0,b1,hend⟩:=hg
  obtain⟨LR,Pg,p0,hz0⟩:=I.E9 b0
  have Y6:=Pg.length
  obtain⟨LS,Ph,p1,hz1⟩:=I.E9 b1
  have hl1:=Ph.length
  refine Pe (I.ok.hd hc) st p0 Er p1 Eu ?_ fun h' hk=>⟨rfl,I.xx (t':=s.toks) hk hf⟩
  simp only[List.getElem?_toArray,aft]
  lia
 self:=fun a a a a a st h=>wpAny_pyIter_zip st.z h
section
variable {X:Cx}{a b c e:Expr}{body elts:List Expr}{pos p tpos:Pos}{jt:Nat}
def qI.lt {k:Bool}{h:Heap}{a:Addr}{its:AAK}(x:qI k h a its):a < h.objs.size:=by
 cases k <;> exact let⟨o,ho,_⟩:=x;aaF ho
def XJ (K:AAD) (ta:TA):TI:=fun σ H R=>ta σ H fun vs H1=>∃k a xs,vs=[.ref a]/\AK K H1 k a xs/\R (Ite K k a) H1
def Pj {ta:TA}(hg:Gl X "enumerate") (hm:X.mg "enumerate" =none) (ha:PA X [a] ta) (hs:starEach [a] X.env=[(false,eval a X.env)]:=by rfl):PI X (.Tuple elts jt tpos) (.Call (.Name "enumerate" p) [a] [] pos) (XJ X.K ta):=by
 intro pins s σ H R I h
 refine Call_ (nA I hg hm boot_enumerate (acC (eB (ha pos pins s σ H _ I h) fun us s1 hh=>?_) hs rfl))
 obtain⟨vs,H1,I1,r1,q1⟩:=hh
 obtain⟨k,a,xs,rfl,hq,q⟩:=q1
 cases r1 with
 | cons r rr=>
  cases rr
  cases r
  obtain⟨its,rv,p,hz⟩:=I1.E9 hq
  refine E8 p fun h' he hit hk=>wpAny_pyIter_enum he ?_
  have lt:=p.lt
  refine⟨s1.heap.objs.size+1,[s1.heap.objs.size+1,s1.heap.objs.size],_,_,H1,rfl,I1.kept (t':=s1.toks) hk,IC k a s1.heap.objs.size (s1.heap.objs.size+1) (aaY lt) (adM (Nat.lt_succ_of_lt lt)) (Nat.succ_ne_self _),⟨⟨.none,he⟩,hit⟩,fun b hb=>?_,q⟩
  have hb:s1.heap.objs.size<=b:=by
   rcases aaA.mp hb with z | z
   ·rw[z];exact afI _
   ·rw[show b=s1.heap.objs.size by simpa using z];exact aaC _
  exact I1.Br hb (I1.hok.fresh hb)
def XM (K:AAD) (ta:TA):TI:=fun σ H R=>ta σ H fun vs H1=>∃k0 k1 a0 a1 uF uG,vs=[.ref a0,.ref a1]/\AK K H1 k0 a0 uF/\AK K H1 k1 a1 uG/\R (XI K k0 k1 a0 a1) H1
def Pk {ta:TA}(hg:Gl X "zip") (hm:X.mg "zip" =none) (ha:PA X [a,b] ta) (hs:starEach [a,b] X.env=[(false,eval a X.env),(false,eval b X.env)]:=by rfl) (hs2:starEach [b] X.env=[(false,eval b X.env)]:=by rfl):
  PI X (.Tuple elts jt tpos) (.Call (.Name "zip" p) [a,b] [] pos) (XM X.K ta):=by
 intro pins s σ H R I h
 refine Call_ (nA I hg hm boot_zip (acC (eB (ha pos pins s σ H _ I h) fun us s1 hh=>?_) (by rw[hs,hs2]) (by rw[hs2];rfl)))
 obtain⟨vs,H1,I1,r1,q1⟩:=hh
 obtain⟨k0,k1,a0,a1,uF,uG,rfl,h0,h1,q⟩:=q1
 obtain⟨u0,u1,rfl,e0,e1⟩:=r1.two
 cases e0
 cases e1
 obtain⟨LR,Pg,p0,hz0⟩:=I1.E9 h0
 obtain⟨LS,Ph,p1,hz1⟩:=I1.E9 h1
 refine Dp p0 p1 fun h' st hk=>wpAny_pyIter_zip st.z ?_
 refine⟨_,iL s1.heap.objs.size,_,_,H1,rfl,I1.kept (t':=s1.toks) hk,ID k0 k1 a0 a1 s1.heap.objs.size p0.lt p1.lt,st,fun b hb=>?_,q⟩
 have hb:s1.heap.objs.size<=b:=(aV.mp hb).1
 exact I1.Br hb (I1.hok.fresh hb)
def WalkN (J:It) (F:Hp) (ds:List D):Prop:=∀F' H',(∀b o,F b=some o->F' b=some o)->Sub F' H'->∀i,(∀d,ds[i]? =some d->J.go i H'/\∀x H2,J.Sv i H' x H2->∃F2,gK F' H' F2 H2/\Sub F2 H2/\Rep F2 x d)/\(ds.length<=i->J.stop i H')
inductive XN (K:AAD) (B:Base) (gi:GI) (σ:St) (H:Hp) (Q:It->Hp->Prop):Prop
 | mk (S:SS) (F:Hp) (ds:List D) (S':SS) (R:Rel K B S σ F H) (hg:gi S=some (ds,S')) (q:∀J F' H',Rel K B S' σ F' H'->Step S S' σ F H F' H'->WalkN J F' ds->Q J H')
structure Y7 (X:Cx) (tg e:Expr) (gi:GI):Prop where
 h:∀B,PI X tg e (XN X.K B gi)
noncomputable def pI:D->Option (Bool×List D)
 | .lst ds=>some (true,ds)
 | .tup ds=>some (false,ds)
 | _=>none
def Sub.Dq {F:Hp}{v:V}{d:D}{k:Bool}{ds:List D}(sb:Sub F H) (r:Rep F v d) (e:pI d=some (k,ds)):
  ∃a vs,v= .ref a/\bH F vs ds/\∀F' H',(∀b o,F b=some o->F' b=some o)->Sub F' H'->AK K H' k a vs:=by
 cases d <;> try (cases e;done)
 ·cases e
  obtain⟨a,vs,rfl,fa,ha,rs⟩:=sb.kQ r
  exact⟨a,vs,rfl,rs,fun F' H' le sb'=>.inl (Rd.of (sb' a _ (le _ _ fa)))⟩
 ·cases e
  obtain⟨a,vs,rfl,fa,ha,rs⟩:=sb.i7 r
  exact⟨a,vs,rfl,rs,fun F' H' le sb'=>.inl (fa.same fun b o z=>sb' b o (le b o z))⟩
noncomputable def rC (ds:List D):List D:=ds.mapIdx fun i d=>.tup [.int i,d]
def LU (gA:GA):GI:=fun S=>(gA S).bind fun p=>match p.1 with
 | [d]=>(pI d).map fun q=>(rC q.2,p.2)
 | _=>none
def Pn {gA:GA}(hg:Gl X "enumerate") (hm:X.mg "enumerate" =none) (ha:JA X [a] gA) (hs:starEach [a] X.env=[(false,eval a X.env)]:=by rfl):Y7 X (.Tuple elts jt tpos) (.Call (.Name "enumerate" p) [a] [] pos) (LU gA):=
 ⟨fun B=>PI.orelse fun σ H R0 hh=>by
 obtain⟨S,F,ds,S',R,hg',k⟩:=hh
 obtain⟨⟨args,S1⟩,h1,hg'⟩:=ak hg'
 refine⟨_,Pj hg hm (ha.h B) hs,S,F,args,S1,R,h1,fun vs F1 H1 R1 st1 r1=>?_⟩
 dsimp only at hg'
 split at hg'
 ·obtain⟨⟨kk,es⟩,h2,hg'⟩:=aF hg'
  cases hg'
  cases r1 with
  | cons r rr=>
   cases rr
   obtain⟨a,ws,rfl,rs,sq⟩:=R1.sub.Dq (K:=X.K) r h2
   refine⟨kk,a,ws,rfl,sq F1 H1 (fun c c z=>z) R1.sub,k _ F1 H1 R1 st1 fun F' H' le sb i=>⟨fun d hd=>?_,fun hl=>⟨ws,sq F' H' le sb,by rw[rs.length];simpa[rC] using hl⟩⟩⟩
   unfold rC at hd
   rw[List.getElem?_mapIdx] at hd
   obtain⟨d0,hd0,rfl⟩:=aF hd
   obtain⟨v,k1,k2⟩:=rs.get hd0
   refine⟨⟨ws,v,sq F' H' le sb,k1⟩,fun x H2 y=>?_⟩
   obtain⟨p,y,hp,rfl,rfl,hy⟩:=y
   have ey:=hy ws (sq F' H' le sb)
   rw[k1] at ey
   cases ey
   exact⟨_,gK.root sb hp _,sb.uN hp,.tup bq (.cons (.int _) (.cons (k2.le fun b o z=>mj (sb.fresh hp) b o (le b o z)) .nil))⟩
 ·cases hg'⟩
def AN (gA:GA):GI:=fun S=>(gA S).bind fun p=>match p.1 with
 | [d,e]=>(pI d).bind fun q=>(pI e).map fun r=>(List.zipWith (fun a b=>.tup [a,b]) q.2 r.2,p.2)
 | _=>none
def G6 {gA:GA}(hg:Gl X "zip") (hm:X.mg "zip" =none) (ha:JA X [a,b] gA) (hs:starEach [a,b] X.env=[(false,eval a X.env),(false,eval b X.env)]:=by rfl) (hs2:starEach [b] X.env=[(false,eval b X.env)]:=by rfl):
  Y7 X (.Tuple elts jt tpos) (.Call (.Name "zip" p) [a,b] [] pos) (AN gA):=
 ⟨fun B=>PI.orelse fun σ H R0 hh=>by
 obtain⟨S,F,ds,S',R,hg',k⟩:=hh
 obtain⟨⟨args,S1⟩,h1,hg'⟩:=ak hg'
 refine⟨_,Pk hg hm (ha.h B) hs hs2,S,F,args,S1,R,h1,fun vs F1 H1 R1 st1 r1=>?_⟩
 dsimp only at hg'
 split at hg'
 ·obtain⟨⟨k0,es0⟩,h2,hg'⟩:=ak hg'
  obtain⟨⟨k1,es1⟩,h3,hg'⟩:=aF hg'
  cases hg'
  cases r1 with
  | cons r rr=>
   cases rr with
   | cons r' rr=>
    cases rr
    obtain⟨a0,Y8,rfl,rs0,G1⟩:=R1.sub.Dq (K:=X.K) r h2
    obtain⟨a1,IE,rfl,sX,Es⟩:=R1.sub.Dq (K:=X.K) r' h3
    refine⟨k0,k1,a0,a1,Y8,IE,rfl,G1 F1 H1 (fun c c z=>z) R1.sub,Es F1 H1 (fun c c z=>z) R1.sub,k _ F1 H1 R1 st1 fun F' H' le sb i=>⟨fun d hd=>?_,fun hl=>⟨Y8,IE,G1 F' H' le sb,Es F' H' le sb,?_⟩⟩⟩
    ·rw[List.getElem?_zipWith] at hd
     cases q0:es0[i]? with
     | none=>rw[q0] at hd;cases hd
     | some d0=>
      cases q1:es1[i]? with
      | none=>rw[q0,q1] at hd;cases hd
      | some d1=>
       rw[q0,q1] at hd
       cases hd
       obtain⟨v0,m0,n0⟩:=rs0.get q0
       obtain⟨v1,m1,n1⟩:=sX.get q1
       refine⟨⟨Y8,v0,IE,v1,⟨G1 F' H' le sb,m0⟩,Es F' H' le sb,m1⟩,fun x H2 y=>?_⟩
       obtain⟨p,y0,y1,hp,rfl,rfl,hy0,hy1⟩:=y
       have e0:=hy0 Y8 (G1 F' H' le sb)
       have e1:=hy1 IE (Es F' H' le sb)
       rw[m0] at e0
       rw[m1] at e1
       cases e0
       cases e1
       have le2:=fun b o z=>mj (o:=.tup [v0,v1]) (sb.fresh hp) b o (le b o z)
       exact⟨_,gK.root sb hp _,sb.uN hp,.tup bq (.cons (n0.le le2) (.cons (n1.le le2) .nil))⟩
    ·rw[List.length_zipWith,<-rs0.length,<-sX.length] at hl
     omega
 ·cases hg'⟩
def Po {tg iter:Expr}{stmts:List Stmt}{s1:GS}{bd:GB}{gi:GI}(hp:PassesOwn (model X.prog X.w) X.A X.env X.xe) (hc:X.calm=true) (hi:Y7 X tg iter gi) (hg:JG X tg bd) (hb:JB X stmts s1) (hs:∀x,foldedSetIterable iter X.env x=pure x:=by intro _;rfl):
  JS X (.For tg iter stmts [] pos) (rR bd gi s1):=⟨fun B=>(Ky hp hc (hi.h B) (hg.h B) (hb.h B) hs).imp fun D σ H hh=>by
 obtain⟨S,F,o,R,h,k⟩:=hh
 obtain⟨⟨ds,S1⟩,h1,h⟩:=ak h
 refine⟨S,F,ds,S1,R,h1,fun J F1 H1 R1 st1 w=>?_⟩
 refine⟨fun i m σ' H'=>∃S' F',Rel X.K B S' σ' F' H'/\(∀b o,F1 b=some o->F' b=some o)/\i<=ds.length/\m=ds.length - i/\loop bd s1 (ds.drop i) S'=some o,⟨_,S1,F1,R1,fun a a z=>z,acJ _,rfl,h⟩,?_⟩
 rintro i m σ' H' ⟨S',F',R',le,hl,rfl,gm⟩
 have w':=w F' H' le R'.sub i
 by_cases hlt:i < ds.length
 ·have hd:ds[i]? =some ds[i]:=aaD hlt
  obtain⟨go,yl⟩:=w'.1 _ hd
  rw[adb hlt] at gm
  obtain⟨S2,e2,gm⟩:=ak gm
  obtain⟨o2,e3,gm⟩:=ak gm
  refine .inr ⟨go,_,fun σ2 H2 n=>⟨ds.length - (i+1),by omega,n⟩,fun x H2 y=>?_⟩
  obtain⟨F2,nw,sb2,rx⟩:=yl x H2 y
  have R2:=R'.new nw sb2
  have le:∀b o,F1 b=some o->F2 b=some o:=fun b o z=>nw.le b o (le b o z)
  refine⟨S',F2,_,S2,R2,rx,e2,fun σ3 R3=>⟨S2,F2,o2,R3,e3,?_⟩⟩
  cases o2 with
  | nx S3=>exact fun Lv F4 H4 R4 EU=>⟨S3,F4,R4,fun b o z=>EU b o (le b o z),hlt,rfl,gm⟩
  | ct S3=>exact fun Lv F4 H4 R4 EU=>⟨S3,F4,R4,fun b o z=>EU b o (le b o z),hlt,rfl,gm⟩
  | bk S3=>cases gm;exact fun Lv F4 H4 R4 EU=>k Lv F4 H4 R4 fun b o z=>EU b o (le b o (st1.ext.le b o z))
  | rt u S3=>cases gm;exact fun v Lv F4 H4 R4 EU=>k v Lv F4 H4 R4 fun b o z=>EU b o (le b o (st1.ext.le b o z))
 ·have e:i=ds.length:=by omega
  subst e
  rw[aeA] at gm
  cases gm
  exact .inl ⟨w'.2 (aaC _),k σ' F' H' R' fun b o z=>le b o (st1.ext.le b o z)⟩⟩
end
section
variable {X:Cx}{a b c e:Expr}{x y:Str}{p px py pos pos' tpos:Pos}{f:List D->Option U}{gb:GD}
end
noncomputable def LV:GE:=fun S=>some (.m (.cI []),S)
section
variable {X:Cx}{a b c e k:Expr}{x y:Str}{p px py pos pos' tpos apos cpos:Pos}{gk:GD}
def Pp:JE X (.Dict [] [] pos) LV:=⟨fun B=>KQ.imp fun σ H Q hh=>by
 obtain⟨S,F,u,S',R,hg,q⟩:=hh
 cases hg
 intro p hp
 have n:=gK.obj (F:=F) hp (.dT [])
 have hn:¬dQ S σ p:=fun m=>by obtain⟨o,ho⟩:=R.has m;rw[hp] at ho;cases ho
 exact q (.ref p) F _ (R.new n (R.sub.same n.same)) n.step ⟨p,rfl,hp,R.sub.fresh hp,⟨[],bq,.nil⟩,hn,none_of R.ext.there hp⟩⟩
def LW:U->D->Option Bool
 | .m (.dct kvs),k=>(keyOf k).map fun kk=>(b7 kvs kk).isSome
 | .b (.dct kvs),k=>(keyOf k).map fun kk=>(b7 kvs kk).isSome
 | .m (.cI kvs),k=>(wM k).map fun kk=>(b7 kvs kk).isSome
 | .b (.cI kvs),k=>(wM k).map fun kk=>(b7 kvs kk).isSome
 | _,_=>none
def IF (n:Bool) (i:Nat) (g:GD):GD:=fun S=>(g S).bind fun p=>match p.2[i]? with
 | some (some u)=>(LW u p.1).map fun h=>(.bl (n != h),p.2)
 | _=>none
def tL {κ:Type} [DecidableEq κ] {F:Hp}{ws:List (κ×V)}{kvs:List (κ×D)}(pr:Paired (fR F) ws kvs) (k:κ):(rM ws k).isSome=(b7 kvs k).isSome:=by
 cases e:b7 kvs k with
 | none=>rw[AI pr e];rfl
 | some d=>obtain⟨v,h,_⟩:=qH pr e;rw[h];rfl
def Pq {F:Hp}{v w:V}{u:U}{d:D}{h:Bool}(sb:Sub F H) (r:BG K F H v u) (rk:Rep F w d) (e:LW u d=some h):∃a o,v= .ref a/\o7 H a w o/\o.isSome=h:=by
 unfold LW at e
 split at e
 ·obtain⟨kk,e1,rfl⟩:=aF e
  obtain⟨a,rfl,fa,ws,ha,pr⟩:=r
  exact⟨a,_,rfl,o7.ky ha (qG rk e1),tL pr kk⟩
 ·obtain⟨kk,e1,rfl⟩:=aF e
  obtain⟨a,rfl,fa,ws,ha,pr⟩:=r
  exact⟨a,_,rfl,o7.ky ha (qG rk e1),tL pr kk⟩
 ·obtain⟨kk,e1,rfl⟩:=aF e
  obtain⟨a,rfl,fa,ws,ha,pr⟩:=r
  obtain⟨b,rfl,hb⟩:=tG sb rk e1
  exact⟨a,_,rfl,o7.t ha hb,tL pr kk⟩
 ·obtain⟨kk,e1,rfl⟩:=aF e
  obtain⟨a,rfl,fa,ws,ha,pr⟩:=r
  obtain⟨b,rfl,hb⟩:=tG sb rk e1
  exact⟨a,_,rfl,o7.t ha hb,tL pr kk⟩
 ·cases e
def Pr {n:Bool}{Q:VK}(h:tD X.K B (IF n i gk) σ H Q):tD X.K B gk σ H fun y H1=>Oi i σ H1 fun x H2=>∃a o,x= .ref a/\o7 H2 a y o/\Q (.bl (n != o.isSome)) H2:=by
 obtain⟨S,F,d,S',R,hg,q⟩:=h
 obtain⟨⟨d1,S1⟩,h1,hg⟩:=ak hg
 dsimp only at hg
 split at hg
 ·rename_i u hS
  obtain⟨h,h2,hg⟩:=aF hg
  cases hg
  refine⟨S,F,d1,_,R,h1,fun v F1 H1 R1 st1 r1=>?_⟩
  obtain⟨v0,hv0,r0⟩:=R1.rep i u hS
  obtain⟨a,o,e1,g1,e2⟩:=Pq R1.sub r0 r1 h2
  refine⟨v0,hv0,a,o,e1,g1,?_⟩
  rw[e2]
  exact q (.bl _) F1 H1 R1 st1 (.bl _)
 ·cases hg
end
section
variable {X:Cx}{k v:Expr}{pos:Pos}{tk tv:TE}{gk gv:GD}
def IG {x:Str}{px:Pos}(hu:X.A.units+20 < cLine) (hk:JD X k gk) (hN:X.N[i]? =some x:=by rfl) (hv:An X.env.scope x:=by first | exact Or.inl rfl | exact Or.inr (Or.inl rfl) | exact Or.inr (Or.inr rfl)) (hd:(x == ("__debug__":Str))=false:=by decide) (hcd:(x == ("__classdict__":Str))=false:=by decide)
  (hm:behindInMarks .NotIn (.Name x px)=false:=by with_unfolding_all rfl):JT X (.Compare k [.NotIn] [.Name x px] pos) (qB (IF true i gk)):=⟨fun B=>(Ko (HY hu (hk.h B) (gw hN hv hd hcd)) hm).imp fun σ H Q hh=>by
 obtain⟨S,F,kk,S',R,hg,q⟩:=hh
 have h:tD X.K B (IF true i gk) σ H (fun v H'=>∃d,v= .bl d/\Q d H'):=⟨S,F,.bl kk,S',R,lR hg,fun v F' H' R' st r=>⟨kk,nC r,q F' H' R' st⟩⟩
 have h2:=Pr h
 simpa[tB,Gu] using h2⟩
end
noncomputable def dZ (kvs:AAJ) (z:Str):Option Int:=(kvs.find? fun p=>decide (p.1=z)).map (·.2)
def TL:Option Int->Option Value->Prop
 | some i,u=>∃t,u=some (.int i t)
 | none,u=>u=none
def KTab (P:Program) (w:World) (K:AAD) (a:Addr) (kvs:AAJ):Prop:=
 (a == sysModules)=false/\∃o es ep,K.lookup a=some o/\o.ExactDict/\o.data= .dict es ep/\KeysOf (dU P w) es/\∀z,TL (dZ kvs z) (findBy (dU P w).is es (.inr z))
def BU (w:World):List (Str×Int)->List DictEntry->Prop
 | [],[]=>True
 | (z,i) :: r,e :: es=>(e.hash=hashStr w z/\(∃t,e.key= .str z t)/\∃t,e.val= .int i t)/\BU w r es
 | _,_=>False
theorem AO {P:Program}{w:World}:∀{kvs:AAJ}{es:List DictEntry},BU w kvs es->∀e∈es,∃k,(dU P w).is k e.key=true/\e.hash=(dU P w).hash k
 | [],[],_,e,he=>by cases he
 | (z,i) :: r,e :: es,h,e',he=>by
  obtain⟨⟨h1,⟨t,h2⟩,_⟩,h3⟩:=h
  rcases aaA.mp he with rfl | q
  ·exact⟨.inr z,by rw[h2];exact oR P w z t,h1⟩
  ·exact AO h3 e' q
 | [],_ :: _,h,_,_=>h.elim
 | _ :: _,[],h,_,_=>h.elim
theorem AQ {P:Program}{w:World}(z:Str):∀{kvs:AAJ}{es:List DictEntry},BU w kvs es->TL (dZ kvs z) ((es.find? fun e=>(dU P w).is (.inr z) e.key).map (·.val))
 | [],[],_=>rfl
 | (y,i) :: r,e :: es,h=>by
  obtain⟨⟨h1,⟨t,h2⟩,u,h4⟩,h3⟩:=h
  have k:(dU P w).is (.inr z) e.key=decide ((.inr z:Key)= .inr y):=KeyKind.is_eq_decide (knd:=dU P w) (k:=.inr y) (by rw[h2];exact oR P w y t) (.inr z)
  unfold dZ
  by_cases q:y=z
  ·subst q
   rw[List.find?_cons_of_pos (by simp),List.find?_cons_of_pos (by rw[k];simp)]
   exact⟨u,by rw[aeL,h4]⟩
  ·rw[List.find?_cons_of_neg (by simpa using q),List.find?_cons_of_neg (by rw[k];simp only[acU,Sum.inr.injEq];exact fun e=>q e.symm)]
   exact AQ z h3
 | [],_ :: _,h=>h.elim
 | _ :: _,[],h=>h.elim
def BV {P:Program}{kvs:AAJ}{es:List DictEntry}{ep:Nat}(h:K.lookup a=some ⟨.type "dict",none,.dict es.toArray ep,#[]⟩) (hs:(a == sysModules)=false) (he:BU w kvs es):KTab P w K a kvs:=by
 refine⟨hs,_,es.toArray,ep,h,⟨rfl,rfl,rfl⟩,rfl,fun e q=>AO he e (by simpa using q),fun z=>?_⟩
 have:=AQ (P:=P) z he
 unfold findBy
 rw[List.find?_toArray]
 exact this
section
variable {X:Cx}{pins:AAG}{σ:St}{H:Hp}{s:Shared}{a:Addr}{kvs:AAJ}
def KTab.map (I:Inv X pins σ H s) (h:KTab X.prog X.w X.K a kvs):∃f:Key->Option Value,s.heap.MapOf (dU X.prog X.w) a f/\∀z,TL (dZ kvs z) (f (.inr z)):=by
 obtain⟨_,o,es,ep,h1,h2,h3,h4,h5⟩:=h
 exact⟨_,⟨o,es,ep,I.xP a o h1,h2,h3,h4,fun b=>rfl⟩,h5⟩
end
def zR (kvs:AAJ) (g:GD):GD:=fun S=>(g S).bind fun p=>match p.1 with
 | .str z=>(dZ kvs z).map fun i=>(.int i,p.2)
 | _=>none
def pJ (n:Bool) (kvs:AAJ) (g:GD):GD:=fun S=>(g S).bind fun p=>match p.1 with
 | .str z=>some (.bl (n != (dZ kvs z).isSome),p.2)
 | _=>none
section
variable {X:Cx}{e f:Expr}{x:Str}{px pos apos cpos:Pos}{ty tx:TE}{g gd:GD}{a:Addr}{kvs:AAJ}
def TM (hg:Gl X x) (hm:X.mg x=some (.ref a)) (hk:KTab X.prog X.w X.K a kvs) (he:PE X e ty) (hs:OE e) (hd:(x == ("__debug__":Str))=false):
  PE X (.Subscript (.Name x px) e pos) (fun σ H Q=>ty σ H fun y H1=>∃z i,y= .str z/\dZ kvs z=some i/\Q (.int i) H1):=by
 intro pins s σ H Q I h
 refine Gs afs.lookup hs (eB (qx (v:=.ref a) hg hm rfl hd pins s σ H (fun v H1=>v= .ref a/\H1=H) I ⟨rfl,rfl⟩) fun u s1 hh=>?_)
 obtain⟨x',H1,I1,rx,ex,eH⟩:=hh
 subst ex eH
 obtain rfl:u=Value.ref a:=rx
 refine eB (he pins s1 σ _ _ I1 h) fun iv s2 hh=>?_
 obtain⟨y,H2,I2,ry,z,i,ey,el,q⟩:=hh
 subst ey
 obtain⟨fm,m1,m2⟩:=hk.map I2
 have r:=m2 z
 rw[el] at r
 obtain⟨t,r⟩:=r
 exact⟨m1.typeIs,wpAny_getItem_of (k:=.inr z) (CO (k:=.inr z) ry) m1 r ⟨.int i,H2,I2.tok _,⟨t,rfl⟩,q⟩⟩
def LX (hg:Gl X x) (hm:X.mg x=some (.ref a)) (hk:KTab X.prog X.w X.K a kvs) (he:PE X e ty) (hd:(x == ("__debug__":Str))=false):
  PC X .In e (.Name x px) (fun σ H Q=>ty σ H fun y H1=>∃z,y= .str z/\Q (.bl (dZ kvs z).isSome) H1):=by
 intro pins s σ H Q I h
 refine eB (he pins s σ H _ I h) fun iv s1 ⟨y,H1,I1,ry,z,ey,q⟩=>eB (qx (v:=.ref a) hg hm rfl hd pins s1 σ H1 (fun v H2=>v= .ref a/\H2=H1) I1 ⟨rfl,rfl⟩) fun u s2 hh=>?_
 obtain⟨x',H2,I2,rx,ex,eH⟩:=hh
 subst ex eH ey
 obtain rfl:u=Value.ref a:=rx
 obtain⟨fm,m1,m2⟩:=hk.map I2
 refine wpAny_in_of (k:=.inr z) (CO (k:=.inr z) ry) hk.1 m1 ?_
 have r:=m2 z
 have e:(fm (.inr z)).isSome=(dZ kvs z).isSome:=by
  cases el:dZ kvs z with
  | none=>rw[el] at r;rw[show fm (.inr z)=none from r];rfl
  | some i=>rw[el] at r;obtain⟨t,r⟩:=r;rw[r];rfl
 rw[e]
 exact⟨.bl _,_,I2.tok _,rfl,q⟩
def uU (hg:Gl X x) (hm:X.mg x=some (.ref a)) (hk:KTab X.prog X.w X.K a kvs) (he:JD X e g) (hs:OE e:=by intro _ _;rfl) (hd:(x == ("__debug__":Str))=false:=by decide):JD X (.Subscript (.Name x px) e pos) (zR kvs g):=
 ⟨fun B=>(TM hg hm hk (he.h B) hs hd).imp fun σ H Q hh=>by
  obtain⟨S,F,d,S',R,hg',q⟩:=hh
  obtain⟨⟨d1,S1⟩,h1,hg'⟩:=ak hg'
  cases d1 <;> try (cases hg')
  rename_i z
  obtain⟨i,h2,hg'⟩:=aF hg'
  cases hg'
  exact⟨S,F,.str z,_,R,h1,fun v F1 H1 R1 st1 r1=>by cases r1;exact⟨z,i,rfl,h2,q (.int i) F1 H1 R1 st1 (.int i)⟩⟩⟩
def II {n:Bool}{Q:VK}(h:tD X.K B (pJ n kvs g) σ H Q):tD X.K B g σ H fun y H1=>∃z,y= .str z/\Q (.bl (n != (dZ kvs z).isSome)) H1:=by
 obtain⟨S,F,d,S',R,hg',q⟩:=h
 obtain⟨⟨d1,S1⟩,h1,hg'⟩:=ak hg'
 cases d1 <;> try (cases hg')
 rename_i z
 exact⟨S,F,.str z,_,R,h1,fun v F1 H1 R1 st1 r1=>by cases r1;exact⟨z,rfl,q (.bl _) F1 H1 R1 st1 (.bl _)⟩⟩
def yD (hg:Gl X x) (hm:X.mg x=some (.ref a)) (hk:KTab X.prog X.w X.K a kvs) (he:JD X e g) (hd:(x == ("__debug__":Str))=false:=by decide) (hi:behindInMarks .In (.Name x px)=false:=by with_unfolding_all rfl):JD X (.Compare e [.In] [.Name x px] pos) (pJ false kvs g):=
 ⟨fun B=>(R7 (LX hg hm hk (he.h B) hd) hi).imp fun σ H Q h=>by simpa using II h⟩
end
def LY (K:AAD) (a:Addr) (zs:List Str):Prop:=∃(o:Obj) (its:AAL) (n:Nat),K.lookup a=some o/\o.cls= .type "tuple"/\o.data= .seq its.toArray n/\its.length<=1000/\Vals (zs.map V.str) its
def Fd:List Str->List Value->Prop
 | [],[]=>True
 | z :: r,v :: vs=>(∃t,v= .str z t)/\Fd r vs
 | _,_=>False
theorem AR:∀{zs:List Str}{vs:AAL},Fd zs vs->Vals (zs.map V.str) vs
 | [],[],_=>.nil
 | z :: r,v :: vs,h=>.cons h.1 (AR h.2)
 | [],_ :: _,h=>h.elim
 | _ :: _,[],h=>h.elim
def Pu {zs:List Str}{its:AAL}{n:Nat}{od:Option Addr}{sl:Array (Option Value)}(h:K.lookup a=some ⟨.type "tuple",od,.seq its.toArray n,sl⟩) (hl:its.length<=1000) (hs:Fd zs its):LY K a zs:=
 ⟨_,its,n,h,rfl,rfl,hl,AR hs⟩
theorem AS {F:Hp}:∀zs:List Str,bH F (zs.map V.str) (zs.map D.str)
 | []=>.nil
 | z :: zs=>.cons (.str z) (AS zs)
theorem tM:∀zs:List Str,cP (zs.map D.str)=0
 | []=>rfl
 | z :: zs=>by show max (gC (.str z)) (cP (zs.map D.str))=0;rw[tM zs];rfl
def yE (n:Bool) (zs:List Str) (g:GD):GD:=fun S=>(g S).map fun p=>(.bl (n != inD p.1 (zs.map D.str)),p.2)
section
variable {X:Cx}{e:Expr}{x:Str}{px pos:Pos}{g:GD}{a:Addr}{zs:List Str}
def TN (I:Inv X pins σ H s) (hk:LY X.K a zs) (hu:X.A.units+64 < cLine){F:Hp}{d:D}{v:V}{u:Value}(sb:Sub F H) (r:Rep F v d) (rv:RelV v u):∃its:List Value,IsTup s.heap a its.toArray/\(∀y∈its,SeqAt.EqAt X.A.in1 s y u (zQ F d y))/\its.any (zQ F d)=inD d (zs.map D.str):=by
 obtain⟨o,its,n,h1,h2,h3,h4,h5⟩:=hk
 obtain⟨k1,k2⟩:=mW I sb (A:=X.A.in1) r rv (AS zs) h5 (by rw[tM];show X.A.units+1+0 < cLine;lia)
 exact⟨its,⟨o,I.xP a o h1,h2,n,h3⟩,k1,k2⟩
def TQ (hu:X.A.units+64 < cLine) (hg:Gl X x) (hm:X.mg x=some (.ref a)) (hk:LY X.K a zs)(he:PE X e (tD X.K B g)) (hd:(x == ("__debug__":Str))=false):
  PC X .In e (.Name x px) (tD X.K B (yE false zs g)):=by
 intro pins s σ H Q I h
 obtain⟨S,F,d,S',R,hg',q⟩:=h
 obtain⟨⟨d1,S1⟩,h1,hg'⟩:=aF hg'
 cases hg'
 refine eB (he pins s σ H (fun y H1=>∃F',Sub F' H1/\Rep F' y d1/\Q (.bl (false != inD d1 (zs.map D.str))) H1) I ⟨S,F,d1,_,R,h1,fun v F1 H1 R1 st1 r1=>⟨F1,R1.sub,r1,q (.bl _) F1 H1 R1 st1 (.bl _)⟩⟩) fun iv s1 hh=>?_
 obtain⟨y,H1,I1,ry,F',sb,r',q'⟩:=hh
 refine eB (qx (v:=.ref a) hg hm rfl hd pins s1 σ H1 (fun v H2=>v= .ref a/\H2=H1) I1 ⟨rfl,rfl⟩) fun u s2 hh=>?_
 obtain⟨x',H2,I2,rx,ex,eH⟩:=hh
 subst ex eH
 obtain rfl:u=Value.ref a:=rx
 obtain⟨its,p,k1,k2⟩:=TN I2 hk hu sb r' ry
 refine SeqAt.in_tupleAt (zQ F' d1) p (fun y hy=>k1 y (by simpa using hy)) ⟨.bl _,_,I2,rfl,?_⟩
 rw[show its.toArray.any (zQ F' d1)=its.any (zQ F' d1) by simp,k2]
 simpa using q'
def XO {Q:Bool->Hp->Prop}(h:tQ X.K B (qB g) σ H Q):tB (tD X.K B g) σ H Q:=by
 obtain⟨S,F,kk,S',R,hg',q⟩:=h
 exact⟨S,F,.bl kk,S',R,lR hg',fun v F' H' R' st r=>⟨kk,nC r,q F' H' R' st⟩⟩
def BW (hu:X.A.units+64 < cLine) (hg:Gl X x) (hm:X.mg x=some (.ref a)) (hk:LY X.K a zs) (he:JD X e g) (hd:(x == ("__debug__":Str))=false:=by decide) (hi:behindInMarks .In (.Name x px)=false:=by with_unfolding_all rfl):JT X (.Compare e [.In] [.Name x px] pos) (qB (yE false zs g)):=
 ⟨fun B=>(Ko (TQ hu hg hm hk (he.h B) hd) hi).imp fun σ H Q h=>XO h⟩
end
section
variable {X:Cx}{e f:Expr}{x:Str}{px pos apos cpos:Pos}{gk gd:GD}{ge:GE}
end
end L2
end
section
namespace HT
open PySem PySem.Spec PyProof.Rows
section
variable {prog:Program}{w:World}{A:Around}{E:AAE}{s:Shared}
end
end HT
namespace L2
open PySem PySem.Spec PyProof.Rows
section
variable {X:Cx}{e st:Expr}{te ts:TE}{pos p2:Pos}
end
section
variable {X:Cx}
end
end L2
namespace HT
open PySem PySem.Spec PyProof.Rows
section
variable {prog:Program}{w:World}{A:Around}{E:AAE}{s:Shared}
end
end HT
namespace L2
open PySem PySem.Spec PyProof.Rows
section
variable {X:Cx}{pos:Pos}
end
end L2
end
section
namespace L2
open PySem PySem.Spec PyProof.Rows PySem.Calls
section
variable {prog:Program}{w:World}{A:Around}{E:AAE}{s:Shared}{a I:Addr}{ep:Nat}{t:SetTable}
end
section
variable {X:Cx}{a:Expr}{pos p p1 p2:Pos}{ga:GD}
end
end L2
end
section
namespace L2
open PySem PySem.Spec PyProof.Rows
variable {X:Cx}{pins:AAG}{σ:St}{H:Hp}{x y0:Str}{bQ:List Str}{cap:List Nat}{scope:Scope}{cl:List (Str×Addr)}{elt iter:Expr}{ifs:List Expr}{Q:VK}{K:AAD}
section
variable {X:Cx}{x:Str}{p:Pos}{a:Addr}
end
section
variable {X:Cx}{e:Expr}{es:List Expr}{gu:GU}{x:Str}{p pos:Pos}{k n i:Nat}{t:TA}
end
structure mX (X:Cx) (x y0:Str) (bQ:List Str) (cap:List Nat) (scope:Scope) (cl:List (Str×Addr)):Prop where
 one:fV X x bQ cap scope cl
 XQ:scope.names.lookup y0=some .local
 VS:(x :: y0 :: bQ).Nodup
def LZ (K:AAD) (wi:TI) (cap:List Nat) (tc:TT) (te:TE):TE:=fun σ H Q=>wi σ H fun J H1=>∃W:Nat->Nat->List V->Hp->Prop,(∃m,W 0 m [] H1)/\∀i m ys H,W i m ys H->ys.length < sizeLine/\
  ((J.stop i H/\∀p,H p=none->Q (.ref p) (upd H p (.lst ys)))\/
   (J.go i H/\∀x H',J.Sv i H x H'->∃a x1 x2,x= .ref a/\Ao K H' a [x1,x2]/\tc (some x1 :: some x2 :: fL cap σ) H' fun b H2=>if b=true then te (some x1 :: some x2 :: fL cap σ) H2 fun y H3=>∃m',m' < m/\W (i+1) m' (ys++[y]) H3 else ∃m',m' < m/\W (i+1) m' ys H2))
def IJ {s s4:Shared}{C:Addr}{fp:List Addr}{m':AAF}
  (I:Inv X pins σ H s) (T2:mX X x y0 bQ cap scope cl) (hfp:∀b∈fp,l9 X pins H b) (hfo:∀b∈fp,∃o,s.heap.get? b=some o)
  (hC:s.heap.objs.size<=C) (hns:s4.heap.Ns C m') (hos:s4.os=s.os) (hg:s4.gens=s.gens)
  (kept:∀b o,s.heap.get? b=some o->s4.heap.get? b=some o):
  Inv (cM X (x :: y0 :: bQ) scope cl C s H fp) [] (none :: none :: fL cap σ) H s4:=by
 have T:=T2.one
 have fr:∀b,s.heap.objs.size<=b->H b=none:=fun b hb=>I.hok.fresh hb
 refine⟨⟨I.ok.mod,T.kind,I.ok.glob,I.ok.blt,hC,fun y z c h1 h2=>I.ok.inj y z c (T.cells _ _ h1) (T.cells _ _ h2),fun y hy=>T.has y hy,fun y c h=>(by cases h),I.ok.hd,I.ok.frames,.inl rfl,fun b hb=>⟨?_,fun y c e z=>?_⟩,I.bs,aaW I.ok.Kh I.sz,fun b o e hb=>?_,fun b hb z=>?_,I.stack,I.Bq⟩,
  hos,by rw[hg];exact I.bare,Un.kept kept,⟨m',hns,fun i y v h1 h2 h3=>?_⟩,fun y c h=>?_,fr C hC,fun y c h=>I.oV y c (T.cells _ _ h),fun p hp=>?_,I.hok.kept kept,?_⟩
 ·obtain⟨o,e⟩:=hfo b hb
  exact aaY (aaM (aaF e) hC)
 ·exact(hfp b hb).2.2.2.2.1 y c (T.cells _ _ e) z
 ·rcases(hfp b hb).2.2.2.1 with z | z
  ·exact I.ok.HK b o e z
  ·exact absurd (aaM (aaF e) (aaW I.ok.Kh z)) (acM _)
 ·rcases aaA.mp (I.xQ b z) with q | q
  ·exact(hfp b hb).2.1 q
  ·exact(hfp b hb).2.2.1 q
 ·match i,h1,h2 with
  | 0,h1,h2=>cases h2
  | 1,h1,h2=>cases h2
  | j+2,h1,h2=>
   have h1:bQ[j]? =some y:=by simpa[cM] using h1
   have h2:(fL cap σ)[j]? =some (some v):=by simpa using h2
   obtain⟨i,e1,e2,e3⟩:=T.slot j y h1
   have e4:σ[i]? =some (some v):=by
    unfold fL at h2
    rw[aaO,e1] at h2
    have h2:some ((σ[i]?).join)=some (some v):=h2
    have h2:=aa0 h2
    cases q:σ[i]? with
    | none=>rw[q] at h2;cases h2
    | some o=>rw[q] at h2;cases h2;rfl
   obtain⟨m,hn,hl⟩:=I.loc
   obtain⟨u,r,l⟩:=hl i y v e2 e4 e3
   obtain⟨k1,⟨c,hc⟩,k3⟩:=T.vis y (ab3 h1)
   refine⟨u,r,.inr ⟨k1,c,hc,?_⟩⟩
   rcases l with⟨hk,_⟩ | ⟨hk,c',hc',z⟩
   ·exact absurd hk k3
   ·rw[T.cells _ _ hc] at hc'
    cases hc'
    obtain⟨o,ho,hd⟩:=z
    exact⟨o,kept _ _ ho,hd⟩
 ·obtain⟨v,o,ho,hd⟩:=I.cell y c (T.cells _ _ h)
  exact⟨v,o,kept _ _ ho,hd⟩
 ·exact absurd (show p∈([]:AAG) from hp) (by simp)
 ·show(none :: none :: fL cap σ).length=(x :: y0 :: bQ).length
  simp[fL,T.len]
def we {px py pt pos:Pos}{k0:Nat}{wi:TI}{tc:TT}{te:TE}{s:Shared}{use:Option (Value->Sem Unit)}{Qf:AAE}{pos2:Pos}
  (T2:mX X x y0 bQ cap scope cl) (hc:X.calm=true) (hi:PI X (.Tuple [.Name x px,.Name y0 py] k0 pt) iter wi)
  (ht:∀C s H fp,N3 (cM X (x :: y0 :: bQ) scope cl C s H fp) ifs tc) (he:∀C s H fp,PE (cM X (x :: y0 :: bQ) scope cl C s H fp) elt te)
  (hs:∀x,foldedSetIterable iter X.env x=pure x) (I:Inv X pins σ H s) (h:LZ X.K wi cap tc te σ H Q)
  (hend:∀(D C:Addr) (s7:Shared) (H6:Hp) (ys:List V),Inv X pins σ (upd H6 D (.lst ys)) s7->(∃m,s7.heap.Ns C m)->l9 X pins (upd H6 D (.lst ys)) C->Q (.ref D) (upd H6 D (.lst ys))->compPost (model X.prog X.w) X.A X.xe use Qf (.ref D) C (.ok .next) s7):
  wpAny (model X.prog X.w) X.A (comprehension (.ListComp elt [⟨.Tuple [.Name x px,.Name y0 py] k0 pt,iter,ifs,0⟩] scope pos) scope X.env pos2 (newList []) false (eval iter X.env) use) Qf X.xe s:=
 vV (N:=x :: y0 :: bQ) (z0:=none :: none :: fL cap σ) (Z:=fun z=>∃o o',z=o :: o' :: fL cap σ) (pt:=fun v H z=>∃a x1 x2,v= .ref a/\Ao X.K H a [x1,x2]/\z=some x1 :: some x2 :: fL cap σ) T2.one hc hi ht he hs I h
  (fun J H1 ⟨W,w0,t⟩=>⟨W,w0,fun i m ys H w=>⟨(t i m ys H w).1,(t i m ys H w).2.imp id fun⟨g,k⟩=>⟨g,fun v H' y=>let⟨a,x1,x2,e,q,r⟩:=k v H' y;⟨_,⟨a,x1,x2,e,q,rfl⟩,r⟩⟩⟩⟩) ⟨none,none,rfl⟩ (fun I2=>IJ I2 T2)
  (by
   rintro Y C _ _ xv H eN eE eK Xm ⟨o,o',rfl⟩ ⟨a,x1,x2,e,q,rfl⟩
   exact⟨⟨_,_,rfl⟩,_,Kr Xm (xS (xr (i:=0) (by rw[eN];exact T2.VS) (by rw[eN];rfl) (by rw[eE];exact .inl (ade T2.one.loc)) (.inr (by rw[eE];exact ade T2.one.loc))) (xS (xr (i:=1) (by rw[eN];exact T2.VS) (by rw[eN];rfl) (by rw[eE];exact .inl (ade T2.XQ)) (.inr (by rw[eE];exact ade T2.XQ))) Gm)),a,[x1,x2],e,by rw[eK];exact q,rfl,x1,[x2],rfl,x2,[],rfl,rfl,rfl,rfl⟩) hend
def IK {px py pt pos:Pos}{k0:Nat}{wi:TI}{tc:TT}{te:TE}
  (T2:mX X x y0 bQ cap scope cl) (hc:X.calm=true) (hi:PI X (.Tuple [.Name x px,.Name y0 py] k0 pt) iter wi)
  (ht:∀C s H fp,N3 (cM X (x :: y0 :: bQ) scope cl C s H fp) ifs tc) (he:∀C s H fp,PE (cM X (x :: y0 :: bQ) scope cl C s H fp) elt te)
  (hs:∀x,foldedSetIterable iter X.env x=pure x:=by intro _;rfl):
  PE X (.ListComp elt [⟨.Tuple [.Name x px,.Name y0 py] k0 pt,iter,ifs,0⟩] scope pos) (LZ X.K wi cap tc te):=by
 intro pins s σ H Q I h
 rw[eval_ListComp]
 refine we T2 hc hi ht he hs I h ?_
 rintro p C s7 H6 ys I9 ⟨m7,N4⟩ ⟨g0,g1,g2,g3,g4,g5⟩ q
 exact⟨m7,N4,fun h' hs'=>⟨.ref p,_,I9.turned (t':=s7.toks) (fun b o hb e=>hs'.extBut b o hb e) g0 g1 g3 g4 g5,rfl,q⟩⟩
def iS (cap:List Nat) (q:GT) (g:GD):List D->SS->List D->Option (List D×SS)
 | [],S,acc=>some (acc,S)
 | .tup [a,b] :: ds,S,acc=>(dg S cap).bind fun us=>
  if(slotsOf us).Nodup/\bJ us<=1 then(bz S us).bind fun ws=>(q (AAA a :: AAA b :: ws.map some)).bind fun p=>
   if p.1 then(g p.2).bind fun r=>(aL (.t a :: .t b :: ws) r.2).bind fun outs=>(wb us outs S).bind fun S'=>iS cap q g ds S' (acc++[r.1])
   else(aL (.t a :: .t b :: ws) p.2).bind fun outs=>(wb us outs S).bind fun S'=>iS cap q g ds S' acc
  else none
 | _ :: _,_,_=>none
def kX (cap:List Nat) (gi:GI) (q:GT) (g:GD):GE:=fun S=>(gi S).bind fun p=>if p.1.length<=100000 then(iS cap q g p.1 p.2 []).map fun r=>(.m (.lst r.1),r.2) else none
def L0 {F:Hp}{xs:List V}{a b:D}(r:bH F xs [a,b]):∃x1 x2,xs=[x1,x2]/\Rep F x1 a/\Rep F x2 b:=by
 cases r with
 | cons r1 rr=>cases rr with
  | cons r2 rr2=>cases rr2;exact⟨_,_,rfl,r1,r2⟩
def yF {B:Base}{gi:GI}{q:GT}{g:GD}(h:tE K B (kX cap gi q g) σ H Q):LZ K (XN K B gi) cap (fun σ H Q=>∃B,tQ K B q σ H Q) (fun σ H Q=>∃B,tD K B g σ H Q) σ H Q:=by
 obtain⟨x,_⟩:∃x:Str,True:=⟨"",trivial⟩
 obtain⟨S,F,u,S',R,hg,k⟩:=h
 obtain⟨⟨ds,S1⟩,h1,hg⟩:=ak hg
 dsimp only at hg
 split at hg
 ·rename_i hlen
  obtain⟨⟨res,Sf⟩,h2,hg⟩:=aF hg
  cases hg
  refine⟨S,F,ds,S1,R,h1,fun J F1 H1 R1 st1 w=>?_⟩
  refine⟨Rx K B S σ F H F1 (iS cap q g) ds (res,Sf),
   ⟨_,S1,F1,[],R1,st1,fun _ _ z=>z,.nil,aaC _,acJ _,rfl,h2⟩,?_⟩
  rintro i m ys H' ⟨S2,F2,acc,R2,st2,le,ry,ha,hl,rfl,gm⟩
  refine⟨by rw[ry.length];exact afh (aaW ha (aaW hl hlen)) (by decide),?_⟩
  have w':=w F2 H' le R2.sub i
  by_cases hlt:i < ds.length
  ·have hd:ds[i]? =some ds[i]:=aaD hlt
   obtain⟨go,yl⟩:=w'.1 _ hd
   rw[adb hlt] at gm
   refine .inr ⟨go,fun xv H3 y=>?_⟩
   obtain⟨FN,n3,sb3,rx⟩:=yl xv H3 y
   obtain⟨da,db,eab⟩:∃da db,ds[i]= .tup [da,db]:=by
    generalize ds[i]=dd at gm
    unfold iS at gm
    split at gm
    ·rename_i z;cases z
    ·rename_i z;injection z with z1 z2;exact⟨_,_,z1⟩
    ·cases gm
   have R2:Rel K B S2 σ FN H3:=R2.new n3 sb3
   have st2:Step S S2 σ F H FN H3:=st2.trans n3.step
   have le:∀b o,F1 b=some o->FN b=some o:=fun b o z=>n3.le b o (le b o z)
   have ry:=ry.le n3.le
   rw[eab] at gm rx
   obtain⟨pa,xs2,epa,fpa,hpa,Ln⟩:=R2.sub.kQ rx
   obtain⟨x1,x2,exs,rx1,rx2⟩:=L0 Ln
   subst exs epa
   obtain⟨us,e1,gm⟩:=ak (show(dg S2 cap).bind _=_ from gm)
   split at gm
   ·rename_i hnd
    obtain⟨ws,e2,gm⟩:=ak gm
    obtain⟨⟨bk,T1⟩,e3,gm⟩:=ak gm
    obtain⟨vs,k1,k2⟩:=EW R2 e1
    have rr:Paired (fun v u=>iA K B S2 σ H3 FN H3 v u) (x1 :: x2 :: vs) (.t da :: .t db :: us):=.cons rx1 (.cons rx2 k2)
    have er:=ym R2 da (ym R2 db e2)
    have ar:=qD R2 rr er
    have nd:=dY R2 rr er hnd.1 hnd.2
    have R3:=uS (n:=ws.length+2) R2.sub ar nd (List.replicate (ws.length+2) x) (by simp)
    have hvl:vs.length=ws.length:=by have:=ar.length;simpa using this
    have es:start (List.replicate (ws.length+2) x) (x1 :: x2 :: vs)=some x1 :: some x2 :: fL cap σ:=by
     unfold start;rw[k1];simp[hvl]
    have eS:(U.t da :: U.t db :: ws).map some++List.replicate (ws.length+2 - (U.t da :: U.t db :: ws).length) none=some (U.t da) :: some (U.t db) :: ws.map some:=by simp
    rw[es,eS] at R3
    have back:∀(T2:SS) (F3 H4:Hp) (outs:List MO) (S3:SS),Rel K ⟨lent (x1 :: x2 :: vs) (U.t da :: U.t db :: ws),FN,H3⟩ T2 (some x1 :: some x2 :: fL cap σ) F3 H4->aL (U.t da :: U.t db :: ws) T2=some outs->wb us outs S2=some S3->Rel K B S3 σ F3 H4/\Step S S3 σ F H F3 H4/\(∀b o,FN b=some o->F3 b=some o):=fun T2 F3 H4 outs S3 RT ho hw=>by
     have po:=post_of ar T2 _ F3 H4 outs RT ho
     obtain⟨Ra,Eo,_⟩:=jD (S0:=S2) (F0:=FN) (H0:=H3) R2 (Step.refl ..) rr er (show wb (U.t da :: U.t db :: us) outs S2=some S3 by cases outs <;> exact hw) hnd.1 po
     exact⟨Ra,st2.trans Eo,Eo.ext.le⟩
    refine⟨pa,x1,x2,rfl,.inl hpa,_,_,FN,bk,T1,R3,e3,fun F3 H4 Xz aaZ=>?_⟩
    cases bk with
    | true=>
     obtain⟨⟨yd,T2⟩,e4,gm⟩:=ak (show(g T1).bind _=_ from gm)
     obtain⟨outs,e5,gm⟩:=ak gm
     obtain⟨S3,e6,gm⟩:=ak gm
     refine C1 ⟨_,T1,F3,yd,T2,Xz,e4,fun yv F4 H5 RT2 aa1 XA=>?_⟩
     obtain⟨Ra,Eo,LA⟩:=back T2 F4 H5 outs S3 RT2 e5 e6
     refine⟨ds.length - (i+1),by lia,S3,F4,acc++[yd],Ra,Eo,fun b o z=>LA b o (le b o z),(ry.le LA).append (.cons XA .nil),by simp;lia,hlt,rfl,gm⟩
    | false=>
     obtain⟨outs,e5,gm⟩:=ak (show(aL (U.t da :: U.t db :: ws) T1).bind _=_ from gm)
     obtain⟨S3,e6,gm⟩:=ak gm
     obtain⟨Ra,Eo,LA⟩:=back T1 F3 H4 outs S3 Xz e5 e6
     exact C0 ⟨ds.length - (i+1),by lia,S3,F3,acc,Ra,Eo,fun b o z=>LA b o (le b o z),ry.le LA,by lia,hlt,rfl,gm⟩
   ·cases gm
  ·have e:i=ds.length:=by lia
   subst e
   rw[aeA] at gm
   cases gm
   refine .inl ⟨w'.2 (aaC _),fun p hp=>?_⟩
   have n:=gK.obj (F:=F2) hp (.lst ys)
   refine k (.ref p) F2 _ (R2.new n (R2.sub.same n.same)) (st2.trans n.step) ⟨p,rfl,none_of st2.ext.there hp,R2.sub.fresh hp,⟨ys,bq,ry⟩,fun m=>?_,none_of R2.ext.there hp⟩
   obtain⟨o,ho⟩:=R2.has m
   rw[hp] at ho
   cases ho
 ·cases hg
def Walk.n {J:It}{F:Hp}{ds:List D}(w:Walk J F ds):WalkN J F ds:=fun F' H' le sb i=>⟨fun d hd=>⟨((w F' H' le sb i).1 d hd).1,fun x H2 y=>by
 obtain⟨rfl,r⟩:=((w F' H' le sb i).1 d hd).2 x H2 y
 exact⟨F',gK.refl ..,sb,r⟩⟩,(w F' H' le sb i).2⟩
def IL {B:Base}{gi:GI}{q:GT}{g:GD}(h:tE K B (kX cap gi q g) σ H Q):LZ K (tIt K B gi) cap (fun σ H Q=>∃B,tQ K B q σ H Q) (fun σ H Q=>∃B,tD K B g σ H Q) σ H Q:=
 let⟨S,F,ds,S1,R,hg,k⟩:=yF h;⟨S,F,ds,S1,R,hg,fun J F1 H1 R1 st w=>k J F1 H1 R1 st w.n⟩
end L2
end
section
namespace L2
open PySem PySem.Spec PyProof.Rows PySem.Calls
variable {ds:List D}{u:U}
section
variable {X:Cx}{o e:Expr}{m:Str}{apos cpos:Pos}{id:String}{go ge:GD}{f:List D->Option U}
def Ds (hc:gJ X (.builtin id) (rP f)) (slot:Slot "str" m id) (ty:typeOf (.builtin id)=pure (.type "method_descriptor")) (hstr:∀d1 d2 u,f [d1,d2]=some u->∃z,d1= .str z) (ho:JD X o go) (he:JD X e ge)
  (hb:attributeBase o m X.env (eval o X.env)=eval o X.env:=by rfl)
  (hfew:((backTo cpos (starEach [e] X.env)).all (fun x=>!x.1) && (backToKw cpos (keywordEach [] X.env)).all (fun x=>x.1.isSome) && decide (([e]:List Expr).length+([]:List Keyword).length+(if([]:List Keyword).isEmpty then 0 else 1) < 30))=true:=by rfl)
  (hline:(apos.endLine == cpos.line)=true:=by rfl) (htr:backTo cpos (starEach [e] X.env)=[(false,eval e X.env)]:=by rfl):
  JE X (.Call (.Attribute o m apos) [e] [] cpos) (eP f (aa go (aa ge aq))):=⟨fun B=>by
 rintro pins s σ H Q I ⟨S,F,u,S',R,hg,q⟩
 obtain⟨⟨dl,S1⟩,h1,hg⟩:=ak hg
 obtain⟨w,hf,hg⟩:=aF hg
 cases hg
 obtain⟨⟨d1,Sa⟩,k1,h1⟩:=ak h1
 obtain⟨⟨dr,Sb⟩,kk,h1⟩:=aF h1
 cases h1
 obtain⟨⟨d2,Sc⟩,k2,h2⟩:=ak kk
 clear kk
 obtain⟨⟨dn,Sd⟩,k3,h2⟩:=aF h2
 cases k3
 cases h2
 obtain⟨z,rfl⟩:=hstr _ _ _ hf
 refine wpAny_Call_method hb hfew hline PySem.F.plainAttrs_str slot ty (eB (ho.h B pins s σ H (fun v H1=>∃F1,Rel X.K B Sa σ F1 H1/\Step S Sa σ F H F1 H1/\Rep F1 v (.str z)) I ⟨S,F,_,Sa,R,k1,fun v F1 H1 R1 st1 r1=>⟨F1,R1,st1,r1⟩⟩) ?_)
 rintro ov s1 ⟨x,H1,I1,rx,F1,R1,st1,r1⟩
 cases r1
 obtain⟨t,rfl⟩:∃t,ov= .str z t:=rx
 refine⟨aei _ _ _,(fun a e=>nomatch e),?_⟩
 rw[htr]
 refine adW rfl (aeI (adQ (eB (he.h B pins s1 σ H1 (fun v H2=>∃F2,Rel X.K B Sc σ F2 H2/\Step Sa Sc σ F1 H1 F2 H2/\Rep F2 v d2) I1 ⟨Sa,F1,d2,Sc,R1,k2,fun v F2 H2 R2 st2 r2=>⟨F2,R2,st2,r2⟩⟩) ?_)))
 rintro iv s2 ⟨y,H2,I2,ry,F2,R2,st2,r2⟩
 refine aes ?_
 exact hc pins s2 σ H2 [.str z,y] _ Q I2 (.cons ⟨t,rfl⟩ (.cons ry .nil)) ⟨F2,[.str z,d2],u,R2.sub,.cons (.str z) (.cons r2 .nil),hf,fun v F3 H3 n s3 r3=>q v F3 H3 (R2.new n s3) ((st1.trans st2).trans n.step) (r3.Ij R2 (st1.trans st2))⟩⟩
end
theorem AU:∀{zs:List Str}{its:AAL},Vals (zs.map V.str) its->∃l:List (Str×Tok),its=strValues l/\l.map (·.1)=zs
 | [],_,h=>by cases h;exact⟨[],rfl,rfl⟩
 | z :: zs,_,h=>by
  cases h with
  | cons r rs=>
   obtain⟨t,rfl⟩:=r
   obtain⟨l,rfl,e⟩:=AU rs
   exact⟨(z,t) :: l,rfl,by rw[aaQ,e]⟩
theorem AV:∀(l:List (Str×Tok)),Vals ((l.map (·.1)).map V.str) (strValues l)
 | []=>.nil
 | p :: l=>.cons ⟨p.2,rfl⟩ (AV l)
theorem AW (F:Hp):∀zs:List Str,bH F (zs.map V.str) (zs.map D.str)
 | []=>.nil
 | z :: zs=>.cons (.str z) (AW F zs)
def yG:List D->Option U
 | [.str sep,.lst ds]=>(wc ds).bind fun zs=>if JoinOk sep zs=true then some (.t (.str (Txt.join sep zs))) else none
 | _=>none
def Dt (h:yG ds=some u):∃sep l zs,ds=[.str sep,.lst l]/\wc l=some zs/\JoinOk sep zs=true/\u= .t (.str (Txt.join sep zs)):=by
 unfold yG at h
 split at h
 ·obtain⟨zs,h1,h2⟩:=ak h
  obtain⟨h3,rfl⟩:=bV h2
  exact⟨_,_,zs,rfl,h1,h3,rfl⟩
 ·cases h
section
variable {X:Cx}
def Fe:gJ X (.builtin "str.join") (rP yG):=by
 intro pins s σ H xs us Q I r ⟨F,ds,w,sb,rs,hw,q⟩
 obtain⟨sep,l,zs,rfl,h1,h2,rfl⟩:=Dt hw
 cases rs with
 | cons r1 rs=>
  cases rs with
  | cons r2 rs=>
   cases rs
   cases r1
   obtain⟨a,vs,rfl,fa,ha,sX⟩:=sb.i7 r2
   obtain rfl:=yz sX h1
   obtain⟨t,u2,rfl,hu2⟩:∃t u2,us=[.str sep t,u2]/\RelV (.ref a) u2:=by
    cases r with
    | cons a1 r=>cases r with | cons a2 r=>cases r;obtain⟨t,rfl⟩:=a1;exact⟨t,_,rfl,a2⟩
   obtain rfl:u2= .ref a:=hu2
   obtain⟨its,rv,pl,hz⟩:=I.list (.inl ha)
   obtain⟨l',rfl,hl'⟩:=AU rv
   exact SC.join pl.isList hl' h2 fun t' k=>⟨.str _,H,I.tok _,⟨t',rfl⟩,q _ F H (gK.refl ..) sb (.str _)⟩
noncomputable def nJ:List D->Option U
 | [.str x,.str y]=>if(y.length == 0)=false/\x.length<=100000/\(Txt.split x y).length<=100000 then some (.m (.lst ((Txt.split x y).map D.str))) else none
 | _=>none
def AX (h:nJ ds=some u):∃x y,ds=[.str x,.str y]/\(y.length == 0)=false/\x.length<=100000/\(Txt.split x y).length<=100000/\u= .m (.lst ((Txt.split x y).map D.str)):=by
 unfold nJ at h
 split at h
 ·obtain⟨h3,rfl⟩:=bV h
  exact⟨_,_,rfl,h3.1,h3.2.1,h3.2.2,rfl⟩
 ·cases h
def L1 {F:Hp}{xs:List V}{us:AAL}{x y:Str}(rs:bH F xs [.str x,.str y]) (r:Vals xs us):∃t u,us=[.str x t,.str y u]:=by
 cases rs with
 | cons r1 rs=>
  cases rs with
  | cons r2 rs=>
   cases rs
   cases r1
   cases r2
   cases r with
   | cons a1 r=>cases r with | cons a2 r=>cases r;obtain⟨t,rfl⟩:=a1;obtain⟨u,rfl⟩:=a2;exact⟨t,u,rfl⟩
def Du:gJ X (.builtin "str.split") (rP nJ):=by
 intro pins s σ H xs us Q I r ⟨F,ds,w,sb,rs,hw,q⟩
 obtain⟨x,y,rfl,hy,hx,hn,rfl⟩:=AX hw
 obtain⟨t,u,rfl⟩:=L1 rs r
 have line:∀{n:Nat},n<=100000->n<=sizeLine:=fun h=>aaW h (by decide)
 have fin:∀(l:List (Str×Tok)) (k:Nat),l.map (·.1)=Txt.split x y->EP X pins σ Q (.ref s.heap.objs.size) {s with toks:=k,heap:=s.heap.push {cls:=.type "list",data:=.seq (strValues l).toArray}}:=fun l k e=>by
  have hp:=I.hok.fresh (aaC s.heap.objs.size)
  have hl:l.length=(Txt.split x y).length:=by rw[<-e,aaw]
  refine⟨.ref s.heap.objs.size,_,I.laid (t':=k) (o:=.lst ((l.map (·.1)).map V.str)) (fun b ob q=>aaf _ q) (aaC _) ⟨by rw[aaw,aaw];exact line (by lia),strValues l,0,AV l,aaJ _ rfl⟩,rfl,?_⟩
  refine q _ F _ (gK.obj hp _) (sb.same (gK.obj (F:=F) hp _).same) ⟨_,rfl,hp,sb.fresh hp,_,bq,?_⟩
  rw[e]
  exact AW F _
 cases c1:(decide (x.length < y.length) || decide (Builtin.Str.strKind x < Builtin.Str.strKind y)) with
 | true=>
  have e:Txt.split x y=[x]:=by unfold Txt.split;rw[if_pos c1]
  exact adR adX (aei _ _ _) aeo (aeh _ _) (meets_str_split_cannot_occur x y t u c1) (fin [(x,t)] s.toks e.symm)
 | false=>
  cases c2:(Builtin.Str.occurrences x y 0 x.length (x.length+1)).isEmpty with
  | true=>
   have e:Txt.split x y=[x]:=by unfold Txt.split;rw[if_neg (by rw[c1];decide),if_pos c2]
   exact adR adX (aei _ _ _) aeo (aeh _ _) (meets_str_split_not_found x y t u c1 hy c2) (fin [(x,t)] s.toks e.symm)
  | false=>
   have e:Txt.split x y=Builtin.Str.partsBetween x (Builtin.Str.occurrences x y 0 x.length (x.length+1)) y.length:=by unfold Txt.split;rw[if_neg (by rw[c1];decide),if_neg (by rw[c2];decide)]
   refine adR adX (aei _ _ _) aeo (aeh _ _) (meets_str_split_sep x y t u c1 hy c2 (line hx) (by rw[<-e];exact line hn)) ?_
   rw[strsFrom_eq]
   exact fin (numbered s.toks _) _ ((numbered_texts _ _).trans e.symm)
noncomputable def L3:List D->Option U
 | [.int a]=>if a.natAbs < 10 ^ 30 then some (.t (.str (toString a))) else none
 | _=>none
def L4 (h:L3 ds=some u):∃a,ds=[.int a]/\a.natAbs < 10 ^ 30/\u= .t (.str (toString a)):=by
 unfold L3 at h
 split at h
 ·obtain⟨h3,rfl⟩:=bV h
  exact⟨_,rfl,h3,rfl⟩
 ·cases h
def Ff:gJ X (.type "str") (rP L3):=by
 intro pins s σ H xs us Q I r ⟨F,ds,w,sb,rs,hw,q⟩
 obtain⟨a,rfl,ha,rfl⟩:=L4 hw
 obtain⟨t,rfl⟩:∃t,us=[.int a t]:=by
  cases rs with
  | cons r1 rs=>cases rs;cases r1;cases r with | cons a1 r=>cases r;obtain⟨t,rfl⟩:=a1;exact⟨t,rfl⟩
 have hl:a.natAbs.log2 < 1920:=by
  by_cases hz:a.natAbs=0
  ·rw[hz];decide
  ·exact(Nat.log2_lt hz).mpr (Nat.lt_trans ha (aaM (show(10:Nat) ^ 30 < 2 ^ 100 by decide) (adI (by decide) (by decide))))
 exact P.str_of_int hl ⟨.str _,H,I.tok _,⟨_,rfl⟩,q _ F H (gK.refl ..) sb (.str _)⟩
end
def L5 (d1 d2:D) (u:U) (h:yG [d1,d2]=some u):∃z,d1= .str z:=by obtain⟨sep,l,zs,e,_⟩:=Dt h;cases e;exact⟨_,rfl⟩
def IM (d1 d2:D) (u:U) (h:nJ [d1,d2]=some u):∃z,d1= .str z:=by obtain⟨x,y,e,_⟩:=AX h;cases e;exact⟨_,rfl⟩
noncomputable def Y9:GS:=fun a=>none
def L6 {X:Cx}{st:Stmt}:JS X st Y9:=⟨fun B pins s σ H Q I ⟨_,_,_,_,hg,_⟩=>by cases hg⟩
end L2
end
section
namespace L2
open PySem PySem.Spec PyProof.Rows
variable {S S':SS}{kvs:List (Str×D)}{B:Base}{σ:St}{H:Hp}{u:U}{us:List U}{vs:List V}{pl:Sem Bool}
noncomputable def lT (C:Addr) (S:SS) (i:Nat):Option (List (Str×D)):=match S[i]? with
 | some (some (.m (.ins C' kvs)))=>if C'=C then some kvs else none
 | some (some (.b (.ins C' kvs)))=>if C'=C then some kvs else none
 | _=>none
def kY {C:Addr}{i:Nat}(h:lT C S i=some kvs):∃u,S[i]? =some (some u)/\gf u=true/\Rv u=some (.ins C kvs):=by
 unfold lT at h
 split at h
 ·rename_i C' kvs' e
  obtain⟨hc,hk⟩:=gj h
  subst hc
  cases hk
  exact⟨_,e,rfl,rfl⟩
 ·rename_i C' kvs' e
  obtain⟨hc,hk⟩:=gj h
  subst hc
  cases hk
  exact⟨_,e,rfl,rfl⟩
 ·cases h
theorem yH {F:Hp}{f:Str}{d:D}:∀{ws:List (Str×V)}{kvs:List (Str×D)},Paired (fR F) ws kvs->kvs.lookup f=some d->∃v,ws.lookup f=some v/\Rep F v d
 | _,_,.nil,h=>by cases h
 | _,_,@Paired.cons _ _ _ (k,v) (k',d') ws kvs r rs,h=>by
  obtain⟨e,r⟩:=r
  have e:k=k':=e
  subst e
  rw[ad5] at h ⊢
  split at h
  ·rename_i q
   cases h
   exact⟨v,rfl,r⟩
  ·rename_i q
   exact yH rs h
theorem yI {F:Hp}{f:Str}:∀{ws:List (Str×V)}{kvs:List (Str×D)},Paired (fR F) ws kvs->kvs.lookup f=none->ws.lookup f=none
 | _,_,.nil,h=>rfl
 | _,_,@Paired.cons _ _ _ (k,v) (k',d') ws kvs r rs,h=>by
  obtain⟨e,r⟩:=r
  have e:k=k':=e
  subst e
  rw[ad5] at h ⊢
  split at h
  ·cases h
  ·rename_i q
   exact yI rs h
noncomputable def jA (f:Str) (d:D):List (Str×D)->List (Str×D)
 | []=>[(f,d)]
 | (g,x) :: r=>if g=f then(g,d) :: r else(g,x) :: jA f d r
theorem AY {F:Hp}{f:Str}{v:V}{d:D}(r:Rep F v d):∀{ws:List (Str×V)}{kvs:List (Str×D)},Paired (fR F) ws kvs->Paired (fR F) (d8 f v ws) (jA f d kvs)
 | _,_,.nil=>.cons ⟨rfl,r⟩ .nil
 | _,_,@Paired.cons _ _ _ (k,v') (k',d') ws kvs q qs=>by
  obtain⟨e,q⟩:=q
  have e:k=k':=e
  subst e
  unfold d8 jA
  split
  ·exact .cons ⟨rfl,r⟩ qs
  ·exact .cons ⟨rfl,q⟩ (AY r qs)
def tN {K:AAD}{F:Hp}{C:Addr}{i:Nat}(R:Rel K B S σ F H) (hS:S[i]? =some (some u)) (hm:gf u=true) (hi:Rv u=some (.ins C kvs)):∃a ws dx,σ[i]? =some (some (.ref a))/\H a=some (.ins C dx ws)/\Paired (fR F) ws kvs:=by
 obtain⟨v,e,r⟩:=R.rep i u hS
 obtain⟨a,o,rfl,_,e2,h⟩:=r.dQ hm
 rw[hi] at e2
 cases e2
 obtain⟨ws,⟨dx,h1⟩,h2⟩:=h
 exact⟨a,ws,dx,e,h1,h2⟩
def lP (C:Addr) (i:Nat) (f:Str):GD:=fun S=>(lT C S i).bind fun kvs=>(kvs.lookup f).map fun d=>(d,S)
def yJ (C:Addr) (i:Nat) (f:Str) (g:GD):GS:=fun S=>(g S).bind fun p=>(lT C p.2 i).bind fun kvs=>if kvs.length < 900 then(wL p.2 i fun a=>some (.cU,.ins C (jA f p.1 kvs))).map fun z=>.nx z.2 else none
def tR (op:Int->Int->Int) (C:Addr) (i:Nat) (f:Str) (g:GD):GS:=fun S=>(lT C S i).bind fun XR=>match XR.lookup f with
 | some (.int n)=>(g S).bind fun p=>match p.1 with
  | .int m=>(lT C p.2 i).bind fun kvs=>if kvs.length < 900 then(wL p.2 i fun a=>some (.cU,.ins C (jA f (.int (op n m)) kvs))).map fun z=>.nx z.2 else none
  | _=>none
 | _=>none
noncomputable def L7 (i:Nat) (gu:GU):GU:=fun S=>(gu S).map fun p=>(.v i :: p.1,p.2)
def fG (C:Addr) (m:Str) (i:Nat) (f:FM) (gu:GU):GE:=fun S=>(lT C S i).bind fun kvs=>if kvs.lookup m=none then aO f (L7 i gu) S else none
def AZ (C:Addr) (f:FM) (gu:GU):GE:=fun S=>(gu S).bind fun p=>if slotsOf p.1=[]/\bJ p.1=0 then(bz p.2 p.1).bind fun us=>(f (.b (.ins C []) :: us)).bind fun r=>match r with
 | (.t .cU,[o])=>some (.m o,p.2)
 | _=>none else none
section
variable {X:Cx}{C:Addr}{e value:Expr}{es:List Expr}{gu:GU}{x y m:Str}{px p pos pos' apos tpos:Pos}{f:Str}{fm:FM}{fa:Addr}{fd:FuncData}{ps:List Str}{k n i:Nat}{g:GD}
def pK (i:Nat) (c:CA X.K C) (na:mh X.K C f) (hN:X.N[i]? =some x:=by rfl) (hv:An X.env.scope x:=by first | exact Or.inl rfl | exact Or.inr (Or.inl rfl) | exact Or.inr (Or.inr rfl))
  (hd:(x == ("__debug__":Str))=false:=by decide) (hcd:(x == ("__classdict__":Str))=false:=by decide) (hb:attributeBase (.Name x px) f X.env (eval (.Name x px) X.env)=eval (.Name x px) X.env:=by rfl):JD X (.Attribute (.Name x px) f pos) (lP C i f):=
 ⟨fun B=>(SR (gw hN hv hd hcd) hb).imp fun σ H Q hh=>by
 obtain⟨S,F,d,S',R,hg,q⟩:=hh
 obtain⟨kvs,h1,hg⟩:=ak hg
 obtain⟨d',h2,hg⟩:=aF hg
 cases hg
 obtain⟨u,hS,hm,hi⟩:=kY h1
 obtain⟨a,ws,dx,e1,e2,e3⟩:=tN R hS hm hi
 obtain⟨v,l1,r1⟩:=yH e3 h2
 exact⟨.ref a,e1,a,C,dx,ws,v,rfl,e2,c,na,l1,q v F H R (Step.refl ..) r1⟩⟩
def A0 {F:Hp}{dd:D}{d:D}{v:V}(R:Rel X.K B S σ F H) (h1:lT C S i=some kvs) (h3:wL S i (fun b=>some (.cU,.ins C (jA f d kvs)))=some (dd,S')) (rv:Rep F v d):
  ∃a ws dx,σ[i]? =some (some (.ref a))/\H a=some (.ins C dx ws)/\ws.length=kvs.length/\Rel X.K B S' σ F (upd H a (.ins C dx (d8 f v ws)))/\Step S S' σ F H F (upd H a (.ins C dx (d8 f v ws))):=by
 obtain⟨u0,LF,hm0,hi0⟩:=kY h1
 obtain⟨a,ws,dx,e1,e2,e3⟩:=tN R LF hm0 hi0
 obtain⟨u,u',o,o',hS,JY,hio,hf,O4,rfl⟩:=qA h3
 cases hf
 obtain⟨R3,st3⟩:=R.write (ho:=.ins C dx (d8 f v ws)) hS O4 e1 ⟨_,⟨dx,bq⟩,AY rv e3⟩
 exact⟨a,ws,dx,e1,e2,dG e3,R3,st3⟩
def BX (i:Nat) (c:CA X.K C) (na:mh X.K C f) (hval:JD X value g) (hN:X.N[i]? =some x:=by rfl) (hv:An X.env.scope x:=by first | exact Or.inl rfl | exact Or.inr (Or.inl rfl) | exact Or.inr (Or.inr rfl))
  (hd:(x == ("__debug__":Str))=false:=by decide) (hcd:(x == ("__classdict__":Str))=false:=by decide) (hs:swapsWith value (some (.Attribute (.Name x px) f pos')) pos.line X.env=pure false:=by rfl):
  JS X (.Assign [.Attribute (.Name x px) f pos'] value pos) (yJ C i f g):=⟨fun B=>(SV (gw hN hv hd hcd) (hval.h B) hs).imp fun D σ H hh=>by
 obtain⟨S,F,o,R,hg,q⟩:=hh
 obtain⟨⟨d,S1⟩,h1,hg⟩:=ak hg
 obtain⟨kvs,h2,hg⟩:=ak hg
 obtain⟨hl,hg⟩:=gj hg
 obtain⟨⟨dd,S2⟩,h3,hg⟩:=aF hg
 subst hg
 refine⟨S,F,d,S1,R,h1,fun v F1 H1 R1 st1 r1=>?_⟩
 obtain⟨a,ws,dx,e1,e2,e3,R3,st3⟩:=A0 R1 h2 h3 r1
 exact⟨.ref a,e1,a,C,dx,ws,rfl,e2,c,na,by rw[e3];lia,q σ F1 _ R3 st1.ext.le⟩⟩
def BY (i:Nat){op:Operator}{fo:Int->Int->Int}(c:CA X.K C) (na:mh X.K C f) (ho:SQ X op fun x y H Q=>∃i j,x= .int i/\y= .int j/\Q (.int (fo i j)) H) (hval:JD X value g) (hN:X.N[i]? =some x:=by rfl) (hv:An X.env.scope x:=by first | exact Or.inl rfl | exact Or.inr (Or.inl rfl) | exact Or.inr (Or.inr rfl))
  (hd:(x == ("__debug__":Str))=false:=by decide) (hcd:(x == ("__classdict__":Str))=false:=by decide):
  JS X (.AugAssign (.Attribute (.Name x px) f tpos) op value pos) (tR fo C i f g):=⟨fun B=>(HS (gw hN hv hd hcd) (hval.h B) ho).imp fun D σ H hh=>by
 obtain⟨S,F,o,R,hg,q⟩:=hh
 obtain⟨XR,h0,hg⟩:=ak hg
 split at hg
 ·rename_i nn hn
  obtain⟨⟨d,S1⟩,h1,hg⟩:=ak hg
  dsimp only at hg
  split at hg
  ·rename_i mm
   obtain⟨kvs,h2,hg⟩:=ak hg
   obtain⟨hl,hg⟩:=gj hg
   obtain⟨⟨dd,S2⟩,h3,hg⟩:=aF hg
   subst hg
   obtain⟨u,hS,hm,hi⟩:=kY h0
   obtain⟨a,ws,dx,e1,e2,e3⟩:=tN R hS hm hi
   obtain⟨v0,l1,r1⟩:=yH e3 hn
   obtain rfl:=gM r1
   refine⟨.ref a,e1,a,C,dx,ws,.int nn,rfl,e2,c,na,l1,S,F,_,S1,R,h1,fun y F1 H1 R1 st1 r1=>⟨nn,mm,rfl,gM r1,?_⟩⟩
   obtain⟨a',ws',WY,f1,f2,f3,R3,st3⟩:=A0 (v:=.int (fo nn mm)) R1 h2 h3 (.int _)
   rw[e1] at f1
   cases f1
   exact⟨WY,ws',f2,by rw[f3];lia,q σ F1 _ R3 st1.ext.le⟩
  ·cases hg
 ·cases hg⟩
def G7 {S1:SS}{F0 F1 H1:Hp}{Q:VK}{u0:U}{a:Addr}(hS:S[i]? =some (some u0)) (hv:σ[i]? =some (some (.ref a))) (R1:Rel X.K B S1 σ F1 H1) (st1:Step S S1 σ F0 H F1 H1) (rr:Paired (fun v u=>iA X.K B S1 σ H F1 H1 v u) vs us) (hlen:vs.length+1=n)
  (hg:(if(slotsOf (U.v i :: us)).Nodup/\bJ (U.v i :: us)<=1 then(bz S1 (.v i :: us)).bind fun ws=>(fm ws).bind fun r=>(wb (.v i :: us) r.2 S1).map fun S2=>(r.1,S2) else none)=some (u,S'))
  (q:∀v F' H',Rel X.K B S' σ F' H'->Step S S' σ F0 H F' H'->iA X.K B S' σ H F' H' v u->Q v H'):spT X.K n fm (.ref a :: vs) H1 Q E0:=by
 obtain⟨hc,hg⟩:=gj hg
 obtain⟨ws,h2,hg⟩:=ak hg
 obtain⟨⟨r,outs⟩,h3,hg⟩:=ak hg
 obtain⟨S2,h4,hg⟩:=aF hg
 cases hg
 have TR:Paired (fun v u=>iA X.K B S1 σ H F1 H1 v u) (.ref a :: vs) (.v i :: us):=.cons ⟨hv,st1.slots i u0 hS⟩ rr
 refine⟨by show vs.length+1=n;exact hlen,F1,ws,r,outs,R1.sub,qD R1 TR h2,dY R1 TR h2 hc.1 hc.2,h3,fun v F2 H2 po rn=>?_⟩
 obtain⟨R2,st2,mu⟩:=jD R1 st1 TR h2 h4 hc.1 po
 refine q v F2 H2 R2 st2 ?_
 cases r with
 | t d=>exact rn
 | b o=>cases rn
 | v i=>cases rn
 | s i=>cases rn
 | f i=>cases rn
 | m o=>
  obtain⟨a2,e,h0,f,h⟩:=rn
  refine⟨a2,e,none_of st1.ext.there h0,f,h,fun m=>?_,none_of R1.ext.there h0⟩
  obtain⟨o',ho⟩:=R1.has (mu a2 m)
  rw[h0] at ho
  cases ho
def Pw (i:Nat) (c:CA X.K C) (hm:Meth X.K C m fa) (F:jW X.prog X.w X.K X.mg X.base BE k fa fd ps (spT X.K n fm)) (hr:fQ k X.A) (hb:Binds X.K fd ps []) (ha:JU X (e :: es) gu) (hn:(e :: es).length+1=n:=by rfl)
  (hN:X.N[i]? =some x:=by rfl) (hv:An X.env.scope x:=by first | exact Or.inl rfl | exact Or.inr (Or.inl rfl) | exact Or.inr (Or.inr rfl)) (hd:(x == ("__debug__":Str))=false:=by decide) (hcd:(x == ("__classdict__":Str))=false:=by decide)
  (hst:starEach (e :: es) X.env=(false,eval e X.env) :: starEach es X.env:=by rfl) (hpl:(backTo pos (starEach es X.env)).any (·.1)=false:=by rfl)
  (ht:eval (.Call (.Attribute (.Name x px) m apos) (e :: es) [] pos) X.env=(do
   let ov <-eval (.Name x px) X.env
   standAt apos.atName
   let(f,first) <-holding [ov] (getMethod ov m pl)
   callWith pos f first (backTo pos (starEach (e :: es) X.env)) (backToKw pos (keywordEach [] X.env))):=by rfl):
  JE X (.Call (.Attribute (.Name x px) m apos) (e :: es) [] pos) (fG C m i fm gu):=⟨fun B=>(OB (pl:=pl) (gw hN hv hd hcd) c hm F hr hb .nil CZ (ha.h B) hst hpl ht).imp fun σ H Q hh=>by
 obtain⟨S,F0,u,S',R,hg,q⟩:=hh
 obtain⟨kvs,h0,hg⟩:=ak hg
 obtain⟨hl,hg⟩:=gj hg
 obtain⟨⟨us',S1⟩,h1,hg⟩:=ak hg
 obtain⟨⟨us,S1'⟩,Wo,hq⟩:=aF h1
 cases hq
 obtain⟨u0,hS,JY,hi⟩:=kY h0
 obtain⟨a,ws,dx,e1,e2,e3⟩:=tN R hS JY hi
 refine⟨.ref a,e1,a,dx,ws,rfl,e2,yI e3 hl,S,F0,us,S1',R,Wo,fun vs F1 H1 R1 st1 rr=>?_⟩
 show spT X.K n fm (.ref a :: (vs++[])) H1 Q E0
 rw[aa8]
 exact G7 hS e1 R1 st1 rr (by rw[rr.length,ha.len _ _ _ Wo];exact hn) hg q⟩
def L8 (i:Nat) (c:CA X.K C) (hm:Meth X.K C m fa) (F:jW X.prog X.w X.K X.mg X.base BE k fa fd ps (spT X.K 1 fm)) (hr:fQ k X.A) (hb:Binds X.K fd ps [])
  (hN:X.N[i]? =some x:=by rfl) (hv:An X.env.scope x:=by first | exact Or.inl rfl | exact Or.inr (Or.inl rfl) | exact Or.inr (Or.inr rfl)) (hd:(x == ("__debug__":Str))=false:=by decide) (hcd:(x == ("__classdict__":Str))=false:=by decide)
  (ht:eval (.Call (.Attribute (.Name x px) m apos) [] [] pos) X.env=(do
   let ov <-eval (.Name x px) X.env
   standAt apos.atName
   let(f,first) <-holding [ov] (getMethod ov m pl)
   callWith pos f first (backTo pos (starEach [] X.env)) (backToKw pos (keywordEach [] X.env))):=by rfl):
  JE X (.Call (.Attribute (.Name x px) m apos) [] [] pos) (fG C m i fm aT):=⟨fun B=>(KI (pl:=pl) (gw hN hv hd hcd) c hm F hr hb .nil CZ ht).imp fun σ H Q hh=>by
 obtain⟨S,F0,u,S',R,hg,q⟩:=hh
 obtain⟨kvs,h0,hg⟩:=ak hg
 obtain⟨hl,hg⟩:=gj hg
 obtain⟨⟨us',S1⟩,h1,hg⟩:=ak hg
 cases h1
 obtain⟨u0,hS,JY,hi⟩:=kY h0
 obtain⟨a,ws,dx,e1,e2,e3⟩:=tN R hS JY hi
 refine⟨.ref a,e1,a,dx,ws,rfl,e2,yI e3 hl,?_⟩
 exact G7 (S:=S) (F0:=F0) (H:=H) (vs:=[]) (us:=[]) hS e1 R (Step.refl ..) .nil rfl hg q⟩
theorem qJ {B:Base}{S:SS}{σ:St}{H0 F H H':Hp}(k:∀b o,H b=some o->H' b=some o):∀{vs:List V}{us:List U},slotsOf us=[]->bJ us=0->Paired (fun v u=>iA X.K B S σ H0 F H v u) vs us->Paired (fun v u=>iA X.K B S σ H0 F H' v u) vs us
 | [],[],_,_,_=>.nil
 | [],_ :: _,_,_,z=>by cases z
 | _ :: _,[],_,_,z=>by cases z
 | v :: vs,u :: us,h1,h2,z=>by
  obtain⟨r,rs⟩:iA X.K B S σ H0 F H v u/\Paired (fun v u=>iA X.K B S σ H0 F H v u) vs us:=by cases z with | cons r rs=>exact⟨r,rs⟩
  cases u with
  | t d=>exact .cons r (qJ k h1 h2 rs)
  | m o=>exact absurd h2 (Nat.succ_ne_zero _)
  | b o=>cases r
  | v j=>cases h1
  | s ns=>
   refine .cons ?_ (qJ k h1 h2 rs)
   obtain⟨a,e,z⟩:=r
   refine⟨a,e,?_⟩
   rcases z with⟨o,z⟩ | z
   ·exact .inl ⟨o,k _ _ z⟩
   ·exact .inr z
  | f a=>exact .cons r (qJ k h1 h2 rs)
theorem tT {S:SS}:∀{us ws:List U},slotsOf us=[]->bJ us=0->bz S us=some ws->wb us [] S=some S
 | [],_,_,_,_=>rfl
 | u :: us,ws,h1,h2,h3=>by
  obtain⟨w,e1,h3⟩:=ak h3
  obtain⟨ws',e2,h3⟩:=aF h3
  cases u with
  | t d=>exact tT (us:=us) h1 h2 e2
  | m o=>exact absurd h2 (Nat.succ_ne_zero _)
  | b o=>cases e1
  | v j=>cases h1
  | s ns=>exact tT (us:=us) h1 h2 e2
  | f a=>exact tT (us:=us) h1 h2 e2
def Px {S1:SS}{F0 F1 H1:Hp}{Q:VK}{ws:List U}{o:MO}{xa dx:Addr}(R1:Rel X.K B S1 σ F1 H1) (st1:Step S S1 σ F0 H F1 H1) (rr:Paired (fun v u=>iA X.K B S1 σ H F1 H1 v u) vs us) (hlen:vs.length+1=n) (hc:slotsOf us=[]/\bJ us=0) (h2:bz S1 us=some ws)
  (h3:fm (.b (.ins C []) :: ws)=some (.t .cU,[o])) (hx:H1 xa=none) (hdx:H1 dx=none) (ne:dx≠xa)
  (q:∀v F' H',Rel X.K B S1 σ F' H'->Step S S1 σ F0 H F' H'->iA X.K B S1 σ H F' H' v (.m o)->Q v H'):spT X.K n fm (.ref xa :: vs) (upd (upd H1 dx (.own xa)) xa (.ins C dx [])) (fun v H2=>v= .cU/\Q (.ref xa) H2) E0:=by
 have n1:gK F1 H1 F1 (upd H1 dx (.own xa)):=gK.obj hdx _
 have hx':(upd H1 dx (.own xa)) xa=none:=by rw[bf (ac2 ne)];exact hx
 have Za:=n1.trans (gK.obj hx' (.ins C dx []))
 have Zb:=R1.new Za (R1.sub.same Za.same)
 have aba:=st1.trans (Za.step (S:=S1) (σ:=σ))
 have nm:¬dQ S1 σ xa:=fun m=>by
  obtain⟨o',ho⟩:=R1.has m
  rw[hx] at ho
  cases ho
 have TR:Paired (fun v u=>iA X.K B S1 σ H F1 (upd (upd H1 dx (.own xa)) xa (.ins C dx [])) v u) (.ref xa :: vs) (.m (.ins C []) :: us):=
  .cons ⟨xa,rfl,none_of st1.ext.there hx,R1.sub.fresh hx,⟨[],⟨dx,bq⟩,.nil⟩,nm,none_of R1.ext.there hx⟩ (qJ Za.same hc.1 hc.2 rr)
 have hr':bz S1 (.m (.ins C []) :: us)=some (.b (.ins C []) :: ws):=by
  show(some (U.b (.ins C []))).bind (fun w=>(bz S1 us).map fun ws=>w :: ws)=_
  rw[h2]
  rfl
 have nd:(slotsOf (U.m (.ins C []) :: us)).Nodup:=by
  show(slotsOf us).Nodup
  rw[hc.1]
  exact adK
 refine⟨hlen,F1,_,_,_,Zb.sub,qD Zb TR hr',dY Zb TR hr' nd (by show bJ us+1<=1;lia),h3,fun v F2 H2 po rn=>?_⟩
 obtain⟨R2,st2,mu⟩:=jD Zb aba TR hr' (show wb (.m (.ins C []) :: us) [o] S1=some S1 from tT hc.1 hc.2 h2) nd po
 refine⟨OZ rn,q (.ref xa) F2 H2 R2 st2 ?_⟩
 have out:=po.out
 cases out with
 | cons z zs=>exact⟨xa,rfl,none_of st1.ext.there hx,z.1,z.2,nm,none_of R1.ext.there hx⟩
def IP (h:AZ C fm gu S=some (u,S')):∃us ws o,gu S=some (us,S')/\(slotsOf us=[]/\bJ us=0)/\bz S' us=some ws/\fm (.b (.ins C []) :: ws)=some (.t .cU,[o])/\u= .m o:=by
 obtain⟨⟨us,S1⟩,h1,h⟩:=ak h
 obtain⟨hc,h⟩:=gj h
 obtain⟨ws,h2,h⟩:=ak h
 obtain⟨r,h3,h⟩:=ak h
 dsimp only at h
 split at h
 ·cases h
  exact⟨us,ws,_,h1,hc,h2,h3,rfl⟩
 ·cases h
def Py (M:Mk X.K C fa) (F:jW X.prog X.w X.K X.mg X.base BE k fa fd ps (spT X.K n fm)) (hr:fQ (k+1) X.A) (hg:Gl X x) (hm:X.mg x=some (.ref C)) (hb:Binds X.K fd ps []) (ha:JU X (e :: es) gu) (hn:(e :: es).length+1=n:=by rfl)
  (hdb:(x == ("__debug__":Str))=false:=by decide) (he:starEach (e :: es) X.env=(false,eval e X.env) :: starEach es X.env:=by rfl) (hpl:(backTo pos (starEach es X.env)).any (·.1)=false:=by rfl):
  JE X (.Call (.Name x p) (e :: es) [] pos) (AZ C fm gu):=⟨fun B=>(OC M F hr hg hm hb .nil CZ (ha.h B) hdb he hpl).imp fun σ H Q hh=>by
 obtain⟨S,F0,u,S',R,hg,q⟩:=hh
 obtain⟨us,ws,o,h1,hc,h2,h3,hu⟩:=IP hg
 subst hu
 refine⟨S,F0,us,S',R,h1,fun vs F1 H1 R1 st1 rr=>fun xa dx hx hdx ne=>?_⟩
 show spT X.K n fm (.ref xa :: (vs++[])) _ _ E0
 rw[aa8]
 exact Px R1 st1 rr (by rw[rr.length,ha.len _ _ _ h1];exact hn) hc h2 h3 hx hdx ne q⟩
end
end L2
end
section
namespace L2
open PySem PySem.Spec PyProof.Rows PySem.Calls
variable {N i l0 l1:Nat}{k0 k1:Bool}{H:Hp}{ds:List D}{K:AAD}{X:Cx}{elt iter:Expr}{ifs:List Expr}{x y0:Str}{px py pt pos spos:Pos}{scope:Scope}{cl:List (Str×Addr)}{bQ:List Str}{cap:List Nat}
noncomputable def Dv:List D->Option U
 | [.int a]=>if a.natAbs < 10 ^ 30 then some (.t (.str (toString a))) else none
 | [.str z]=>some (.t (.str z))
 | _=>none
section
variable {X:Cx}
def Fg:gJ X (.type "str") (rP Dv):=by
 intro pins s σ H xs us Q I r ⟨F,ds,w,sb,rs,hw,q⟩
 unfold Dv at hw
 split at hw
 ·rename_i a
  exact Ff pins s σ H xs us Q I r ⟨F,_,w,sb,rs,hw,q⟩
 ·rename_i z
  cases hw
  obtain⟨t,rfl⟩:∃t,us=[.str z t]:=by
   cases rs with
   | cons r1 rs=>cases rs;cases r1;cases r with | cons a1 r=>cases r;obtain⟨t,rfl⟩:=a1;exact⟨t,rfl⟩
  exact P.str_of_str ⟨.str _,H,I,⟨_,rfl⟩,q _ F H (gK.refl ..) sb (.str _)⟩
 ·cases hw
end
def yK (kvs:AAJ) (g gd:GD):GD:=fun S=>(g S).bind fun p=>(gd p.2).bind fun q=>match p.1 with
 | .str z=>some ((match dZ kvs z with | some i=>.int i | none=>q.1),q.2)
 | _=>none
section
variable {X:Cx}{e f:Expr}{x:Str}{px pos apos cpos:Pos}{ty tx:TE}{g gd:GD}{a:Addr}{kvs:AAJ}
def Fi (hg:Gl X x) (hm:X.mg x=some (.ref a)) (hk:KTab X.prog X.w X.K a kvs) (he:PE X e ty) (hf:PE X f tx) (m:M2 X (.Name x px) "get" apos e f cpos) (hd:(x == ("__debug__":Str))=false):
  PE X (.Call (.Attribute (.Name x px) "get" apos) [e,f] [] cpos) (fun σ H Q=>ty σ H fun y H1=>tx σ H1 fun y2 H2=>∃z,y= .str z/\Q (match dZ kvs z with | some i=>V.int i | none=>y2) H2):=by
 intro pins s σ H Q I h
 refine wpAny_Call_method m.base m.few m.line PySem.F.plainAttrs_dict PySem.F.slot_dict_get PySem.F.type_dict_get (eB (qx (v:=.ref a) hg hm rfl hd pins s σ H (fun v H1=>v= .ref a/\H1=H) I ⟨rfl,rfl⟩) fun u s1 hh=>?_)
 obtain⟨x',H1,I1,rx,ex,eH⟩:=hh
 subst ex eH
 obtain rfl:u=Value.ref a:=rx
 obtain⟨fm,m1,m2⟩:=hk.map I1
 refine⟨m1.typeIs,fun b hb=>?_,?_⟩
 ·cases hb
  obtain⟨ob,_,_,h1,h2,_⟩:=m1
  exact⟨ob,h1,h2.2.1⟩
 rw[m.trees]
 refine adW rfl (aeI (adQ (eB (he pins s1 σ _ _ I1 h) fun iv s2 ⟨y,H2,I2,ry,q2⟩=>
  adQ (eB (hf pins s2 σ H2 _ I2 q2) fun fv s3 ⟨y2,H3,I3,XA,z,ey,q3⟩=>aes ?_))))
 subst ey
 obtain⟨fm3,k1,k2⟩:=hk.map I3
 refine call_meetsIn PySem.F.slot_dict_get k1.typeIs PySem.F.entry_dict_get (PySem.F.args_dict_get_3 _ _ _) (meets_dict_get_default (k:=.inr z) (dU X.prog X.w) a (CO (k:=.inr z) ry) hk.1 fv) ⟨fm3,k1,(match dZ kvs z with | some i=>V.int i | none=>y2),H3,I3.tok _,?_,q3⟩
 have r:=k2 z
 cases el:dZ kvs z with
 | none=>rw[el] at r;rw[show fm3 (.inr z)=none from r];exact XA
 | some i=>rw[el] at r;obtain⟨t,r⟩:=r;rw[r];exact⟨t,rfl⟩
def Fj (hg:Gl X x) (hm:X.mg x=some (.ref a)) (hk:KTab X.prog X.w X.K a kvs) (he:JD X e g) (hf:JD X f gd) (hb:attributeBase (.Name x px) "get" X.env (eval (.Name x px) X.env)=eval (.Name x px) X.env:=by rfl)
  (hfew:((backTo cpos (starEach [e,f] X.env)).all (fun x=>!x.1) && (backToKw cpos (keywordEach [] X.env)).all (fun x=>x.1.isSome) && decide (([e,f]:List Expr).length+([]:List Keyword).length+(if([]:List Keyword).isEmpty then 0 else 1) < 30))=true:=by rfl)
  (hline:(apos.endLine == cpos.line)=true:=by rfl) (htr:backTo cpos (starEach [e,f] X.env)=[(false,eval e X.env),(false,eval f X.env)]:=by rfl) (hd:(x == ("__debug__":Str))=false:=by decide):
  JD X (.Call (.Attribute (.Name x px) "get" apos) [e,f] [] cpos) (yK kvs g gd):=
 ⟨fun B=>(Fi hg hm hk (he.h B) (hf.h B) ⟨hb,hfew,hline,htr⟩ hd).imp fun σ H Q hh=>by
  obtain⟨S,F,d,S',R,hg',q⟩:=hh
  obtain⟨⟨d1,S1⟩,h1,hg'⟩:=ak hg'
  obtain⟨⟨d2,S2⟩,h2,Tq⟩:=ak hg'
  clear hg'
  cases d1 <;> try (cases Tq)
  rename_i z
  exact⟨S,F,.str z,_,R,h1,fun v F1 H1 R1 st1 r1=>by cases r1;exact⟨_,F1,d2,_,R1,h2,fun v2 F2 H2 R2 st2 r2=>⟨z,rfl,q _ F2 H2 R2 (st1.trans st2) (by cases dZ kvs z with | none=>exact r2 | some i=>exact .int i)⟩⟩⟩⟩
end
section
variable {prog:Program}{w:World}{A:Around}{E:AAE}{s:Shared}
def Ma {v0 v1:AAK}{x0 x1:Value}{Q:Option Value->Shared->Prop}(st:rW N k0 k1 l0 l1 i s.heap)
  (G1:qI k0 s.heap l0 v0) (CC:v0[i]? =some x0) (Er:l0 < N)
  (Es:qI k1 s.heap l1 v1) (Et:v1[i]? =some x1) (Eu:l1 < N)
  (q:∀h',rW N k0 k1 l0 l1 (i+1) h'->TupAt h' s.heap.objs.size #[x0,x1]->(∀(b:Nat) o,b∉iL N->s.heap.get? b=some o->h'.get? b=some o)->Q (some (.ref s.heap.objs.size)) {s with heap:=h'}):
  wpAny (model prog w) A (pyNext (.ref (N+4))) Q E s:=by
 obtain⟨⟨f0,f1,hf,hz⟩,hTI,⟨w0,hw0,hTO⟩,d0,d1⟩:=st
 obtain⟨a0,a1,rfl⟩:∃a0 a1,w0=[a0,a1]:=by
  match w0,hw0 with
  | [a0,a1],_=>exact⟨_,_,rfl⟩
 have hT:s.TypeIs (.ref (N+4)) "zip":=⟨_,hz,rfl⟩
 unfold pyNext
 refine aae (wpAny_attempt (acE (name:=Str.ofString "__next__") hT adE (ac5 adE hT afA ?_ (afq _))))
 show wpAny _ _ (field (.ref (N+4)) 2 >>= _) _ _ _;refine aae (ab7 hz rfl (x:=.bool false) rfl ?_)
 show wpAny _ _ (field (.ref (N+4)) 3 >>= _) _ _ _;refine aae (ab7 hz rfl (x:=.ref (N+2)) rfl ?_)
 refine aae (acf hTI rfl ?_);show wpAny _ _ (Builtin.SmallTypes.ownedTupleIsFree (.ref (N+4)) >>= _) _ _ _
 refine aae (Dn hz hf fun fr yC q0 fl hf' hz' AL=>?_)
 clear hf hz hT
 have AL:Heap.SameBut (N+4) s.heap yC:=AL
 cases fr
 case false=>
  have RC:∀(b:Nat) o,b∉iL N->s.heap.get? b=some o->yC.get? b=some o:=fun b o hb y=>(AL.2 b fun z=>hb (aV.mpr (by have z:@Eq Nat b _:=z;lia))).trans y
  have d0:mL k0 yC N l0 i:=d0.at fun o y=>(AL.2 _ (Ep _ _)).trans y
  have d1:mL k1 yC (N+1) l1 i:=d1.at fun o y=>(AL.2 _ (kW rfl)).trans y
  have hTO:TupAt yC (N+3) #[a0,a1]:=(AL.2 _ (kW rfl)).trans hTO
  have hTI:TupAt yC (N+2) #[.ref N,.ref (N+1)]:=(AL.2 _ (kW rfl)).trans hTI
  have Fb:qI k0 yC l0 v0:=G1.at fun o y=>RC _ o (fun z=>by have:=aV.mp z;lia) y
  have Fc:qI k1 yC l1 v1:=Es.at fun o y=>RC _ o (fun z=>by have:=aV.mp z;lia) y
  simp only[adx,adi]
  refine aae ?_
  rw[<-aee]
  simp only[adA,ael]
  refine aae (aae (acW ?_));show wpAny _ _ (Builtin.SmallTypes.nextOf (.ref N) >>= _) _ _ _
  refine aae (nextK d0 Fb CC fun g1 c0 e1=>aag (aag ?_))
  have e1:Heap.SameBut N yC g1:=e1
  have m1:∀(b:Nat) o,b∉iL N->s.heap.get? b=some o->g1.get? b=some o:=fun b o hb y=>(e1.2 b fun z=>hb (aV.mpr (by have z:@Eq Nat b _:=z;lia))).trans (RC b o hb y)
  have d1:mL k1 g1 (N+1) l1 i:=d1.at fun o y=>(e1.2 _ (Dm _ _)).trans y
  have Fc:qI k1 g1 l1 v1:=Es.at fun o y=>m1 _ o (fun z=>by have:=aV.mp z;lia) y
  refine aae (aae (acW ?_));show wpAny _ _ (Builtin.SmallTypes.nextOf (.ref (N+1)) >>= _) _ _ _
  refine aae (nextK d1 Fc Et fun g2 c1 e2=>aag (aag (aag ?_)))
  have e2:Heap.SameBut (N+1) g1 g2:=e2
  have s2:g2.objs.size=s.heap.objs.size:=by rw[e2.1,e1.1,AL.1]
  refine aae (wpAny_newTuple ?_ (show 2<=sizeLine by decide))
  refine aag ⟨_,rfl,aag ?_⟩
  have keep:∀(b:Nat) o,b≠N->b≠N+1->yC.get? b=some o->(g2.push {cls:=.type "tuple",data:=.seq #[x0,x1]}).get? b=some o:=fun b o h1 h2 y=>aaf _ ((e2.2 _ h2).trans ((e1.2 _ h1).trans y))
  have tt:TupAt (g2.push {cls:=.type "tuple",data:=.seq #[x0,x1]}) g2.objs.size #[x0,x1]:=aaJ _ rfl
  have q':=q (g2.push {cls:=.type "tuple",data:=.seq #[x0,x1]}) ⟨⟨_,_,hf',keep _ _ (Dm _ _) (kW rfl) hz'⟩,keep _ _ (Dm _ _) (kW rfl) hTI,⟨[a0,a1],rfl,keep _ _ (Dm _ _) (kW rfl) hTO⟩,c0.at fun o y=>aaf _ ((e2.2 _ (Ep _ _)).trans y),c1.at fun o y=>aaf _ y⟩ (by rw[<-s2];exact tt) fun b o hb y=>aaf _ ((e2.2 b fun z=>hb (aV.mpr (by have z:@Eq Nat b _:=z;lia))).trans (m1 b o hb y))
  rw[<-s2] at q'
  exact q'
 simp only[if_true];refine aae (aej ?_);refine aae (ab7 hz' rfl (x:=.ref (N+3)) rfl ?_)
 refine aae (acG hz' (by simp) fun g0 z0 e0=>?_)
 have e0:Heap.SameBut (N+4) yC g0:=e0
 have e0:Heap.SameBut (N+4) s.heap g0:=⟨e0.1.trans AL.1,fun b hb=>(e0.2 b hb).trans (AL.2 b hb)⟩
 have z0:jG g0 (N+4) (N+2) (N+3) .ellipsis fl:=z0
 have e0:Heap.SameBut (N+4) s.heap g0:=e0
 refine aae ?_;simp only[afB,afG,adA,ael]
 have t0:TupAt g0 (N+3) #[a0,a1]:=(e0.2 _ (kW rfl)).trans hTO
 have m0:∀(b:Nat) o,b∉iL N->s.heap.get? b=some o->g0.get? b=some o:=fun b o hb y=>(e0.2 b fun z=>hb (aV.mpr (by have z:@Eq Nat b _:=z;lia))).trans y
 have VX:mL k0 g0 N l0 i:=d0.at fun o y=>(e0.2 _ (Ep _ _)).trans y
 have LP:mL k1 g0 (N+1) l1 i:=d1.at fun o y=>(e0.2 _ (kW rfl)).trans y
 refine aae (aae (ad7 ?_));show wpAny _ _ (Builtin.SmallTypes.nextOf (.ref N) >>= _) _ _ _
 refine aae (nextK VX (G1.at fun o y=>m0 _ o (fun z=>by have:=aV.mp z;lia) y) CC fun g1 c0 e1=>aag ?_)
 have e1:Heap.SameBut N g0 g1:=e1
 have t1:TupAt g1 (N+3) #[a0,a1]:=(e1.2 _ (Dm _ _)).trans t0
 refine aae (acf t1 rfl ?_);refine aae (LN t1 (show 2<=sizeLine by decide) fun g2 t2 e2=>?_)
 have t2:TupAt g2 (N+3) #[x0,a1]:=t2
 have e2:Heap.SameBut (N+3) g1 g2:=e2
 have z1:jG g2 (N+4) (N+2) (N+3) .ellipsis fl:=(e2.2 _ (kW rfl)).trans ((e1.2 _ (Dm _ _)).trans z0)
 have m2:∀(b:Nat) o,b∉iL N->s.heap.get? b=some o->g2.get? b=some o:=fun b o hb y=>(e2.2 b fun z=>hb (aV.mpr (by have z:@Eq Nat b _:=z;lia))).trans ((e1.2 b fun z=>hb (aV.mpr (by have z:@Eq Nat b _:=z;lia))).trans (m0 b o hb y))
 refine aae (ad8 (aag ?_))
 have c0:mL k0 g2 N l0 (i+1):=c0.at fun o y=>(e2.2 _ (Ep _ _)).trans y
 have LP:mL k1 g2 (N+1) l1 i:=LP.at fun o y=>(e2.2 _ (kW rfl)).trans ((e1.2 _ (Dm _ _)).trans y)
 have i0:g2.get? (N+2)=s.heap.get? (N+2):=by rw[e2.2 _ (kW rfl),e1.2 _ (Dm _ _),e0.2 _ (kW rfl)]
 have s0:g2.objs.size=s.heap.objs.size:=by rw[e2.1,e1.1,e0.1]
 refine aae (aae (ad7 ?_));show wpAny _ _ (Builtin.SmallTypes.nextOf (.ref (N+1)) >>= _) _ _ _
 refine aae (nextK LP (Es.at fun o y=>m2 _ o (fun z=>by have:=aV.mp z;lia) y) Et fun g3 c1 e3=>aag ?_)
 have e3:Heap.SameBut (N+1) g2 g3:=e3
 have t3:TupAt g3 (N+3) #[x0,a1]:=(e3.2 _ (kW rfl)).trans t2
 refine aae (acf t3 rfl ?_);refine aae (LN t3 (show 2<=sizeLine by decide) fun g4 t4 e4=>?_)
 have t4:TupAt g4 (N+3) #[x0,x1]:=t4
 have e4:Heap.SameBut (N+3) g3 g4:=e4
 have z2:jG g4 (N+4) (N+2) (N+3) .ellipsis fl:=(e4.2 _ (kW rfl)).trans ((e3.2 _ (kW rfl)).trans z1)
 have m4:∀(b:Nat) o,b∉iL N->s.heap.get? b=some o->g4.get? b=some o:=fun b o hb y=>(e4.2 b fun z=>hb (aV.mpr (by have z:@Eq Nat b _:=z;lia))).trans ((e3.2 b fun z=>hb (aV.mpr (by have z:@Eq Nat b _:=z;lia))).trans (m2 b o hb y))
 refine aae (ad8 (aag (aag ?_)))
 have c0:mL k0 g4 N l0 (i+1):=c0.at fun o y=>(e4.2 _ (Ep _ _)).trans ((e3.2 _ (Ep _ _)).trans y)
 have c1:mL k1 g4 (N+1) l1 (i+1):=c1.at fun o y=>(e4.2 _ (kW rfl)).trans y
 have i1:g4.get? (N+2)=s.heap.get? (N+2):=by rw[e4.2 _ (kW rfl),e3.2 _ (kW rfl),i0]
 have s1:g4.objs.size=s.heap.objs.size:=by rw[e4.1,e3.1,s0]
 refine aae (acf t4 rfl ?_);refine aae (wpAny_newTuple ?_)
 have TH:(N+4) < g4.objs.size:=aaF z2
 show wpAny _ _ (Builtin.SmallTypes.ownedTupleHandOut (.ref (N+4)) (.ref g4.objs.size) >>= _) _ _ _;refine aae ?_;unfold Builtin.SmallTypes.ownedTupleHandOut
 have y0:jG (g4.push {cls:=.type "tuple",data:=.seq #[x0,x1]}) (N+4) (N+2) (N+3) .ellipsis fl:=aaf _ z2
 refine aae (acG y0 (by simp) fun f1 y1 r1=>?_)
 have y1:jG f1 (N+4) (N+2) (N+3) (rawInt g4.objs.size) fl:=y1
 refine acG y1 (by simp) fun f2 y2 r2=>?_
 have y2:jG f2 (N+4) (N+2) (N+3) (rawInt g4.objs.size) (.bool false):=y2
 have up:∀b o,b≠(N+4)->g4.get? b=some o->f2.get? b=some o:=fun b o hb y=>r2.extBut _ _ hb (r1.extBut _ _ hb (aaf _ y))
 have tt:TupAt f2 g4.objs.size #[x0,x1]:=r2.extBut _ _ (adM TH) (r1.extBut _ _ (adM TH) (aaJ _ rfl))
 rw[s1] at y2 tt
 refine aag ⟨_,rfl,aag ?_⟩
 rw[s1]
 exact q f2 ⟨⟨_,_,⟨.inr ⟨_,rfl⟩,false,rfl⟩,y2⟩,up _ _ (kW rfl) (i1.trans hTI),⟨[x0,x1],rfl,up _ _ (kW rfl) t4⟩,c0.at fun o y=>up _ o (Ep _ _) y,c1.at fun o y=>up _ o (kW rfl) y⟩ tt fun b o hb y=>up b o (fun z=>hb (aV.mpr (by have z:@Eq Nat b _:=z;lia))) (m4 b o hb y)
end
def Fl:typeLookup (.type "zip") "__len__" =pure none:=by rw[typeLookup_type,builtinLookup_eq_fast];kernel_rfl
def Dw:typeLookup (.type "zip") "__length_hint__" =pure none:=by rw[typeLookup_type,builtinLookup_eq_fast];kernel_rfl
def rW.keep {h h':Heap}(x:rW N k0 k1 l0 l1 i h) (g:∀b∈iL N,∀o,h.get? b=some o->h'.get? b=some o):rW N k0 k1 l0 l1 i h':=by
 obtain⟨⟨f0,f1,hf,hz⟩,hTI,⟨w0,hw0,hTO⟩,d0,d1⟩:=x
 exact⟨⟨f0,f1,hf,g _ (by rw[aV];lia) _ hz⟩,g _ (by rw[aV];lia) _ hTI,⟨w0,hw0,g _ (by rw[aV];lia) _ hTO⟩,d0.at fun o q=>g _ (by rw[aV];lia) o q,d1.at fun o q=>g _ (by rw[aV];lia) o q⟩
def rW.typeIs {s:Shared}(x:rW N k0 k1 l0 l1 i s.heap):s.TypeIs (.ref (N+4)) "zip":=by
 obtain⟨⟨f0,f1,hf,hz⟩,_⟩:=x
 exact⟨_,hz,rfl⟩
def rW.lt {N:Nat}{k0 k1:Bool}{l0 l1 i:Nat}{h:Heap}(x:rW N k0 k1 l0 l1 i h):@LT.lt Nat _ (N+4) h.objs.size:=by
 obtain⟨⟨f0,f1,hf,hz⟩,_⟩:=x
 exact aaF hz
def ZW (K:AAD) (k0 k1:Bool) (l0 l1:Addr) (uF uG:List V) (S:Addr) (W:Nat->List V->Hp->Prop):Prop:=∀i ys H,W i ys H->AK K H k0 l0 uF/\AK K H k1 l1 uG/\H S=some (.lst ys)/\ys.length=i/\
 ∀x0 x1 p,uF[i]? =some x0->uG[i]? =some x1->H p=none->W (i+1) (ys++[.ref p]) (upd (upd H p (.tup [x0,x1])) S (.lst (ys++[.ref p])))
def Vals.snoc {xs:List V}{us:AAL}{x:V}{u:Value}(r:Vals xs us) (q:RelV x u):Vals (xs++[x]) (us++[u]):=r.append (.cons q .nil)
section
variable {X:Cx}{pins:AAG}{σ:St}{A:Around}{R:Result->Shared->Prop}{N:Nat}{k0 k1:Bool}{l0 l1:Nat}{uF uG:List V}{S:Addr}{W:Nat->List V->Hp->Prop}{res:Value}
def Pz (hh:A.handled=none) (Er:l0 < N) (Eu:l1 < N) (zw:ZW X.K k0 k1 l0 l1 uF uG S W)
  (hR:∀ys H s',Inv X pins σ H s'->W (min uF.length uG.length) ys H->R (.ok (.ret res)) s'):
  ∀(k i:Nat) (s:Shared) (H:Hp) (ys:List V),min uF.length uG.length - i=k->i<=min uF.length uG.length->Inv X pins σ H s->(∀b∈iL N,l9 X pins H b)->rW N k0 k1 l0 l1 i s.heap->W i ys H->
  codeAny (model X.prog X.w) A (.builtin "list.extend.loop" ⟨[.ref S,.ref (N+4),res],[]⟩) R s:=by
 intro k
 induction k with
 | zero=>
  intro i s H ys hk hi I hf st hw
  have hin:i=min uF.length uG.length:=by lia
  subst hin
  obtain⟨h0,h1,hS,hl,_⟩:=zw _ _ _ hw
  obtain⟨LR,Pg,p0,hz0⟩:=I.E9 h0
  obtain⟨LS,Ph,p1,hz1⟩:=I.E9 h1
  have e0:=Pg.length
  have e1:=Ph.length
  refine codeAny_builtin F.entry_extend_loop ?_
  rw[Around.under_plainId ad9 _]
  show wpAny _ A.in1 (pyNext (.ref (N+4)) >>= _) _ _ s
  refine aae (G2 hh st p0 Er p1 Eu ?_ fun h' hk'=>aag (hR ys H _ (I.xx (t':=s.toks) hk' hf) hw))
  simp only[List.getElem?_toArray,aft]
  lia
 | succ k ih=>
  intro i s H ys hk hi I hf st hw
  have hlt:i < min uF.length uG.length:=by lia
  obtain⟨h0,h1,hS,hl,hstep⟩:=zw _ _ _ hw
  obtain⟨LR,Pg,p0,hz0⟩:=I.E9 h0
  obtain⟨LS,Ph,p1,hz1⟩:=I.E9 h1
  obtain⟨x0,CC⟩:∃x,uF[i]? =some x:=⟨uF[i]'(by lia),aaD _⟩
  obtain⟨x1,Et⟩:∃x,uG[i]? =some x:=⟨uG[i]'(by lia),aaD _⟩
  obtain⟨u0,hu0,ru0⟩:=Pg.get CC
  obtain⟨u1,hu1,ru1⟩:=Ph.get Et
  have slt:∀b∈iL N,b < s.heap.objs.size:=fun b hb=>by have h1:=aV.mp hb;have h2:=st.lt;show @LT.lt Nat _ b s.heap.objs.size;lia
  refine codeAny_builtin F.entry_extend_loop ?_
  rw[Around.under_plainId ad9 _]
  show wpAny _ A.in1 (pyNext (.ref (N+4)) >>= _) _ _ s
  refine aae (Ma st p0 (by simpa using hu0) Er p1 (by simpa using hu1) Eu fun h' st' hT hk'=>?_)
  have I2:Inv X pins σ (upd H s.heap.objs.size (.tup [x0,x1])) {s with heap:=h',toks:=s.toks}:=
   I.handed (its:=[u0,u1]) hf slt hk' hT (.cons ru0 (.cons ru1 .nil)) (show 2<=sizeLine by decide)
  have hS2:upd H s.heap.objs.size (.tup [x0,x1]) S=some (.lst ys):=by rw[bf (bK hS I.fresh)];exact hS
  obtain⟨hzS,its,n,rvS,hoS⟩:=(show eY X.prog X.w _ _ S (.lst ys) from I2.hok S _ hS2)
  show wpAny _ A.in1 (updateSeq S (·.push (.ref s.heap.objs.size)) >>= _) _ _ _
  have hS':h'.get? S=some {cls:=.type "list",data:=.seq its.toArray n}:=hoS
  have eit:=rvS.length
  have hyl:its.length<=sizeLine:=by rw[<-eit];exact hzS
  refine aae (aec hS' rfl (aag ⟨plainId_quiet ad9 _,?_⟩) (by simpa using hyl) (by show(its.toArray.push _).size<=sizeLine+1;rw[Array.size_push,aaj];lia))
  have hS3:=acV (Obj.mapSeq fun x=>x.push (.ref s.heap.objs.size)) hS' rfl
  have N6:∀b o,b≠S->h'.get? b=some o->(h'.update S (Obj.mapSeq fun x=>x.push (.ref s.heap.objs.size))).get? b=some o:=fun b o hb e=>(ac3 _ _ (ac2 hb)).trans e
  have hSz:S∉iL N:=fun z=>by have:=(hf S z).1;rw[hS] at this;cases this
  have hl2:ys.length+1<=sizeLine:=by rw[hl];lia
  have I3:=I2.write (o:=.lst (ys++[.ref s.heap.objs.size])) (t':=s.toks) (h':=h'.update S (Obj.mapSeq fun x=>x.push (.ref s.heap.objs.size))) (x:=S) (e:=S) (by rw[hS2];exact True.intro) (.inl rfl) N6 ⟨_,hS3⟩
   (show eY X.prog X.w _ _ S (.lst _) from⟨by rw[aaB];exact hl2,its++[.ref s.heap.objs.size],_,rvS.snoc (show RelV (.ref s.heap.objs.size) (.ref s.heap.objs.size) from rfl),by
    have e:(its++[Value.ref s.heap.objs.size]).toArray=its.toArray.push (.ref s.heap.objs.size):=by simp
    rw[e];exact hS3⟩)
  refine ih (i+1) _ _ _ (by lia) hlt I3 (fun b hb=>?_) (st'.keep fun b hb o q=>N6 b o (fun z=>hSz (z▸hb)) q) (hstep x0 x1 _ CC Et I.fresh)
  obtain⟨f0,f1,f2,f3,f4,f5⟩:=hf b hb
  have hbS:b≠S:=fun z=>hSz (z▸hb)
  exact⟨by rw[bf hbS,bf (aaY (slt b hb))];exact f0,f1,f2,f3,f4,f5⟩
def Mb {s:Shared}{ys:List V}(I:Inv X pins σ H s) (hS:H S=some (.lst ys)):ys.length<=sizeLine/\∃(its:AAL) (n:Nat),Vals ys its/\s.heap.get? S=some {cls:=.type "list",data:=.seq its.toArray n}:=
 (show eY X.prog X.w _ _ S (.lst ys) from I.hok S _ hS)
def RD {s:Shared}{h':Heap}{n:Nat}(I:Inv X pins σ H s) (hS:H S=some (.lst [])) (N6:∀b o,b≠S->s.heap.get? b=some o->h'.get? b=some o) (hn:h'.get? S=some {cls:=.type "list",data:=.seq #[] n}):Inv X pins σ H {s with heap:=h'}:=by
 have e:upd H S (.lst [])=H:=by
  funext b
  by_cases hb:b=S
  ·subst hb;rw[bq,hS]
  ·rw[bf hb]
 have I2:=I.write (o:=.lst []) (t':=s.toks) (h':=h') (x:=S) (e:=S) (by rw[hS];exact True.intro) (.inl rfl) N6 ⟨_,hn⟩ (show eY X.prog X.w _ _ S (.lst []) from⟨acJ _,[],n,.nil,hn⟩)
 rw[e] at I2
 exact I2
def IQ {s:Shared}(hh:A.handled=none) (Er:l0 < N) (Eu:l1 < N) (RE:S∉iL N) (zw:ZW X.K k0 k1 l0 l1 uF uG S W)
  (hR:∀ys H s',Inv X pins σ H s'->W (min uF.length uG.length) ys H->R (.ok (.ret res)) s') (I:Inv X pins σ H s) (hf:∀b∈iL N,l9 X pins H b) (st:rW N k0 k1 l0 l1 0 s.heap) (hw:W 0 [] H):
  wpAny (model X.prog X.w) A.in1 (Builtin.List.listExtendWith (.ref S) (.ref (N+4)) res)
   (fun fin s'=>match fin with | .done f=>R (.ok f) s' | .again c'=>c'.quiet=true/\codeAny (model X.prog X.w) A c' R s') (fun e s'=>R (.error e) s') s:=by
 obtain⟨_,_,LF,_,_⟩:=zw _ _ _ hw
 obtain⟨_,its,n,rv,hS⟩:=Mb I LF
 cases rv
 have hSI:S≠(N+4):=fun e=>RE (e▸aV.mpr (by lia))
 unfold Builtin.List.listExtendWith
 refine aae (afy st.typeIs ?_)
 have h1:Builtin.List.listSameRef (.ref S) (.ref (N+4))=false:=by simp[Builtin.List.listSameRef,hSI]
 have h2:(Value.type "zip" == Value.type "list")=false:=by decide
 have h3:(Value.type "zip" == Value.type "tuple")=false:=by decide
 simp only[h1,h2,h3,Bool.or_false,adx,adi]
 obtain⟨⟨f0,f1,hf0,hz⟩,_⟩:=id st
 refine aae (wpAny_pyIter_slot st.typeIs F.slot_zip_iter (ac5 F.slot_zip_iter st.typeIs F.entry_zip_iter (show wpAny _ _ (ret (.ref (N+4))) _ _ s from aag ⟨_,rfl,"zip",_,st.typeIs,adE.lookup,?_⟩) (F.args_zip_iter_1 _)))
 refine aae (acW ?_)
 unfold Builtin.List.listLengthHint
 refine aae (aeG st.typeIs Fl ?_)
 show wpAny _ A.in1 (specialOf (Value.ref (N+4)) (Str.ofString "__length_hint__") >>= _) _ _ _
 refine aae (aeG st.typeIs Dw ?_)
 refine aag ?_
 show wpAny _ A.in1 (rule "list.extend.makes-room" >>= fun a=>Builtin.List.listTouch (.ref S) >>= fun a=>
  again (.builtin "list.extend.loop" ⟨[.ref S,.ref (N+4),res],[]⟩)) _ _ _
 refine aae (aej ?_)
 refine aae ?_
 show wpAny _ A.in1 (updateSeq S (·.push .none) >>= fun a=>updateSeq S (·.pop)) _ _ _
 refine aae (aec hS rfl ?_)
 have G8:=acV (Obj.mapSeq (·.push Value.none)) hS rfl
 refine aec (hz:=by seq_fits) G8 rfl ?_
 have XS:=acV (Obj.mapSeq (·.pop)) G8 rfl
 have N6:∀b o,b≠S->s.heap.get? b=some o->((s.heap.update S (Obj.mapSeq (·.push Value.none))).update S (Obj.mapSeq (·.pop))).get? b=some o:=
  fun b o hb e=>(ac3 _ _ (ac2 hb)).trans ((ac3 _ _ (ac2 hb)).trans e)
 have I9:=RD I LF N6 XS
 exact aag ⟨plainId_quiet ad9 _,Pz hh Er Eu zw hR _ 0 _ H [] rfl (acJ _) I9 hf (st.keep fun b hb o e=>N6 b o (fun z=>RE (z▸hb)) e) hw⟩
def PB {s:Shared}(hh:A.handled=none) (Er:l0 < N) (Eu:l1 < N) (RE:S∉iL N) (zw:ZW X.K k0 k1 l0 l1 uF uG S W)
  (hR:∀ys H s',Inv X pins σ H s'->W (min uF.length uG.length) ys H->R (.ok (.ret .none)) s') (I:Inv X pins σ H s) (hf:∀b∈iL N,l9 X pins H b) (st:rW N k0 k1 l0 l1 0 s.heap) (hw:W 0 [] H):
  wpAny (model X.prog X.w) A.in1 (Builtin.«list.__init__» ⟨[.ref S,.ref (N+4)],[]⟩)
   (fun fin s'=>match fin with | .done f=>R (.ok f) s' | .again c'=>c'.quiet=true/\codeAny (model X.prog X.w) A c' R s') (fun e s'=>R (.error e) s') s:=by
 obtain⟨_,_,LF,_,_⟩:=zw _ _ _ hw
 obtain⟨_,its,n,rv,hS⟩:=Mb I LF
 cases rv
 show wpAny _ A.in1 (do let old <-Builtin.List.listItems (.ref S);Builtin.List.listUpdate (.ref S) (fun a=>#[]);letGo old.toList.reverse;Builtin.List.listExtendWith (.ref S) (.ref (N+4)) .none) _ _ s
 refine aae ?_
 unfold Builtin.List.listItems
 refine aae (acf hS rfl (aag ?_))
 show wpAny _ A.in1 (updateSeq S (fun a=>#[]) >>= fun a=>letGo (#[]:AAK).toList.reverse >>= fun a=>Builtin.List.listExtendWith (.ref S) (.ref (N+4)) .none) _ _ s
 refine aae (aec hS rfl ?_)
 have G8:=acV (Obj.mapSeq (fun a=>(#[]:AAK))) hS rfl
 have N6:∀b o,b≠S->s.heap.get? b=some o->(s.heap.update S (Obj.mapSeq (fun a=>(#[]:AAK)))).get? b=some o:=
  fun b o hb e=>(ac3 _ _ (ac2 hb)).trans e
 refine aae (ad8 ?_)
 exact IQ hh Er Eu RE zw hR (RD I LF N6 G8) hf (st.keep fun b hb o e=>N6 b o (fun z=>RE (z▸hb)) e) hw
end
section
variable {X:Cx}{pins:AAG}{σ:St}{A:Around}{E:AAE}{N:Nat}{k0 k1:Bool}{l0 l1:Nat}{uF uG:List V}
def Dy {s:Shared}{Q:AAE}(hh:A.handled=none) (Er:l0 < N) (Eu:l1 < N) (I:Inv X pins σ H s) (hf:∀b∈iL N,l9 X pins H b) (st:rW N k0 k1 l0 l1 0 s.heap)
  (h:∀S,H S=none->∃W,ZW X.K k0 k1 l0 l1 uF uG S W/\W 0 [] (upd H S (.lst []))/\∀ys H' s',Inv X pins σ H' s'->W (min uF.length uG.length) ys H'->Q (.ref S) s'):wpAny (model X.prog X.w) A (call (.type "list") [.ref (N+4)]) Q E s:=by
 refine callType_codes (Q₁:=fun obj s₁=>obj= .ref s.heap.objs.size/\s₁={s with heap:=s.heap.push {cls:=.type "list",data:=.seq #[]}}) F.called_list (F.typeCall_list_1 _) F.entry_list_init
  (code_list_new _ ⟨rfl,rfl⟩) fun obj s₁ h₁=>?_
 obtain⟨rfl,rfl⟩:=h₁
 have hS:(s.heap.push {cls:=.type "list",data:=.seq #[]}).get? s.heap.objs.size=some {cls:=.type "list",data:=.seq #[]}:=aaJ _ rfl
 have hn:H s.heap.objs.size=none:=I.hok.fresh (aaC _)
 obtain⟨W,zw,w0,q⟩:=h _ hn
 have I1:=I.laid (a:=s.heap.objs.size) (o:=.lst []) (t':=s.toks) (h':=s.heap.push {cls:=.type "list",data:=.seq #[]}) (fun c c z=>aaf _ z) (aaC _) (show eY X.prog X.w _ _ _ (.lst []) from⟨acJ _,[],0,.nil,hS⟩)
 have RE:s.heap.objs.size∉iL N:=fun z=>by have h1:=aV.mp z;have h2:=st.lt;lia
 refine⟨⟨_,hS,rfl⟩,F.args_list_init_2 _ _,PB (A:=A.in1) hh Er Eu RE zw (fun ys H' s' I' w'=>⟨rfl,q ys H' s' I' w'⟩) I1 (fun b hb=>?_) (st.keep fun b hb o e=>aaf _ e) w0⟩
 obtain⟨f0,f1,f2,f3,f4,f5⟩:=hf b hb
 have hbS:b≠s.heap.objs.size:=fun z=>RE (z▸hb)
 exact⟨by rw[bf hbS];exact f0,f1,f2,f3,f4,f5⟩
end
noncomputable def BZ (a b:List D):List D:=List.zipWith (fun a b=>.tup [a,b]) a b
def A1:List D->Option U
 | [d,e]=>(pI d).bind fun q=>(pI e).map fun r=>.m (.lst (BZ q.2 r.2))
 | _=>none
def Mc {u:U}(h:A1 ds=some u):∃d e k0 GP k1 J1,ds=[d,e]/\pI d=some (k0,GP)/\pI e=some (k1,J1)/\u= .m (.lst (BZ GP J1)):=by
 unfold A1 at h
 split at h
 ·obtain⟨⟨k0,GP⟩,h1,h⟩:=ak h
  obtain⟨⟨k1,J1⟩,h2,rfl⟩:=aF h
  exact⟨_,_,k0,GP,k1,J1,rfl,h1,h2,rfl⟩
 ·cases h
def take_snoc {α:Type}{l:List α}{x:α}(h:l[i]? =some x):l.take (i+1)=l.take i++[x]:=by
 rw[List.take_succ,h];rfl
section
variable {X:Cx}{a b:Expr}{p p2 pos pos2:Pos}{t:TA}{ga gb:GD}{gA:GA}
def abd {F0 H1:Hp}{S:Addr}{a0 a1:Addr}{uF uG:List V}{GP J1:List D}(hS:H1 S=none) (r0:bH F0 uF GP) (r1:bH F0 uG J1)
  (s0:∀F' H',(∀b o,F0 b=some o->F' b=some o)->Sub F' H'->AK K H' k0 a0 uF) (s1:∀F' H',(∀b o,F0 b=some o->F' b=some o)->Sub F' H'->AK K H' k1 a1 uG):
  ZW K k0 k1 a0 a1 uF uG S fun i ys H=>∃F,gK F0 H1 F H/\Sub F H/\F S=none/\H S=some (.lst ys)/\ys.length=i/\bH F ys ((BZ GP J1).take i):=by
 rintro i ys H ⟨F,n,sb,fS,Zc,hl,rs⟩
 refine⟨s0 F H n.le sb,s1 F H n.le sb,Zc,hl,fun x0 x1 q h0 h1 hq=>?_⟩
 have hqS:q≠S:=fun z=>by rw[z,Zc] at hq;cases hq
 have fq:F q=none:=sb.fresh hq
 have le:∀b o,F b=some o->upd F q (.tup [x0,x1]) b=some o:=mj fq
 obtain⟨d0,e0,k0'⟩:∃d,GP[i]? =some d/\Rep F0 x0 d:=by
  have Y6:=r0.length
  have:i < GP.length:=by rw[<-Y6];exact(aaG.mp h0).1
  obtain⟨v,e1,e2⟩:=r0.get (i:=i) (d:=GP[i]) (aaD this)
  rw[h0] at e1;cases e1
  exact⟨_,aaD this,e2⟩
 obtain⟨d1,e1,k1'⟩:∃d,J1[i]? =some d/\Rep F0 x1 d:=by
  have Y6:=r1.length
  have:i < J1.length:=by rw[<-Y6];exact(aaG.mp h1).1
  obtain⟨v,e1,e2⟩:=r1.get (i:=i) (d:=J1[i]) (aaD this)
  rw[h1] at e1;cases e1
  exact⟨_,aaD this,e2⟩
 have ez:(BZ GP J1)[i]? =some (.tup [d0,d1]):=by
  unfold BZ
  rw[List.getElem?_zipWith,e0,e1]
 refine⟨upd F q (.tup [x0,x1]),⟨fun c o z=>le c o (n.le c o z),fun c o z=>?_,fun c o z f=>?_⟩,fun c o z=>?_,?_,bq,by simp[hl],?_⟩
 ·have h1:c≠S:=bK z hS
  have h2:c≠q:=bK (n.same c o z) hq
  rw[bf h1,bf h2]
  exact n.same c o z
 ·have h2:c≠q:=bK (n.same c o z) hq
  rw[bf h2]
  exact n.jV c o z f
 ·by_cases h2:c=q
  ·subst h2
   rw[bq] at z
   rw[bf hqS,bq]
   exact z
  ·rw[bf h2] at z
   have h1:c≠S:=fun w=>by rw[w,fS] at z;cases z
   rw[bf h1,bf h2]
   exact sb c o z
 ·rw[bf (ac2 hqS)];exact fS
 ·rw[take_snoc ez]
  exact(rs.le le).append (.cons (.tup bq (.cons (k0'.le fun c o z=>le c o (n.le c o z)) (.cons (k1'.le fun c o z=>le c o (n.le c o z)) .nil))) .nil)
def Fo (hc:X.calm=true) (hg:Gl X "list") (hm:X.mg "list" =none) (Tq:Gl X "zip") (hm2:X.mg "zip" =none) (ha:PA X [a,b] t) (hs:starEach [a,b] X.env=[(false,eval a X.env),(false,eval b X.env)]:=by rfl) (hs2:starEach [b] X.env=[(false,eval b X.env)]:=by rfl)
  (VU:starEach [.Call (.Name "zip" p2) [a,b] [] pos2] X.env=[(false,eval (.Call (.Name "zip" p2) [a,b] [] pos2) X.env)]:=by rfl):
  PE X (.Call (.Name "list" p) [.Call (.Name "zip" p2) [a,b] [] pos2] [] pos) (fun σ H Q=>t σ H fun vs H1=>rP A1 vs H1 Q):=by
 intro pins s σ H Q I h
 refine ady (nA I hg hm PyProof.Rows.Boot.list ?_)
 refine acC ?_ (by rw[VU];rfl) rfl
 rw[VU]
 refine adQ (Call_ (nA I Tq hm2 boot_zip (acC (eB (ha pos2 pins s σ H _ I h) fun us s1 hh=>?_) (by rw[hs,hs2]) (by rw[hs2];rfl))))
 obtain⟨vs,H1,I1,r1,q1⟩:=hh
 obtain⟨F0,ds,w,sb,rs,hw,q⟩:=q1
 obtain⟨d,e,k0,GP,k1,J1,rfl,e0,e1,rfl⟩:=Mc hw
 cases rs with
 | cons ra rs=>
  cases rs with
  | cons rb rs=>
   cases rs
   obtain⟨a0,uF,rfl,y0,z0⟩:=sb.Dq (K:=X.K) ra e0
   obtain⟨a1,uG,rfl,y1,z1⟩:=sb.Dq (K:=X.K) rb e1
   obtain⟨u0,u1,rfl,v0,v1⟩:=r1.two
   cases v0
   cases v1
   obtain⟨LR,Pg,p0,hz0⟩:=I1.E9 (z0 F0 H1 (fun c c z=>z) sb)
   obtain⟨LS,Ph,p1,hz1⟩:=I1.E9 (z1 F0 H1 (fun c c z=>z) sb)
   refine Dp p0 p1 fun h' st hk=>aes ?_
   have I2:=I1.kept (t':=s1.toks) hk
   refine Dy (X:=X) (uF:=uF) (uG:=uG) (I1.ok.hd hc) p0.lt p1.lt I2 (fun b hb=>?_) st.l fun S hS=>⟨_,abd hS y0 y1 z0 z1,⟨F0,gK.obj hS _,sb.same (gK.obj (F:=F0) hS _).same,sb.fresh hS,bq,rfl,.nil⟩,fun ys H' s' I' w'=>?_⟩
   ·have hb:s1.heap.objs.size<=b:=(aV.mp hb).1
    exact I1.Br hb (I1.hok.fresh hb)
   ·obtain⟨F,n,sb',fS,Zc,hl,rs⟩:=w'
    refine⟨.ref S,H',I',rfl,q _ F H' n sb' ⟨S,rfl,hS,fS,ys,Zc,?_⟩⟩
    rw[adl (by unfold BZ;rw[List.length_zipWith,<-y0.length,<-y1.length];exact aaC _)] at rs
    exact rs
def Fp (hc:X.calm=true) (hg:Gl X "list") (hm:X.mg "list" =none) (Tq:Gl X "zip") (hm2:X.mg "zip" =none) (ha:JA X [a,b] gA) (hs:starEach [a,b] X.env=[(false,eval a X.env),(false,eval b X.env)]:=by rfl) (hs2:starEach [b] X.env=[(false,eval b X.env)]:=by rfl)
  (VU:starEach [.Call (.Name "zip" p2) [a,b] [] pos2] X.env=[(false,eval (.Call (.Name "zip" p2) [a,b] [] pos2) X.env)]:=by rfl):
  JE X (.Call (.Name "list" p) [.Call (.Name "zip" p2) [a,b] [] pos2] [] pos) (eP A1 gA):=
 ⟨fun B=>(Fo hc hg hm Tq hm2 (ha.h B) hs hs2 VU).imp fun σ H Q h=>kN (fun c c c z=>z) h⟩
end
def A2 {k0:Nat}{gi:GI}{q:GT}{g:GD}(T:mX X x y0 bQ cap scope cl) (hc:X.calm=true) (hi:Y7 X (.Tuple [.Name x px,.Name y0 py] k0 pt) iter gi)
  (ht:∀C s H fp,VT (cM X (x :: y0 :: bQ) scope cl C s H fp) ifs q) (he:∀C s H fp,JD (cM X (x :: y0 :: bQ) scope cl C s H fp) elt g)
  (hs:∀x,foldedSetIterable iter X.env x=pure x:=by intro _;rfl):JE X (.ListComp elt [⟨.Tuple [.Name x px,.Name y0 py] k0 pt,iter,ifs,0⟩] scope pos) (kX cap gi q g):=⟨fun B=>
 (IK (tc:=fun σ H Q=>∃B,tQ X.K B q σ H Q) (te:=fun σ H Q=>∃B,tD X.K B g σ H Q) T hc (hi.h B) (fun C s H fp pins s' σ H' Q I ⟨B',z⟩=>(ht C s H fp).h B' pins s' σ H' Q I z) (fun C s H fp pins s' σ H' Q I ⟨B',z⟩=>(he C s H fp).h B' pins s' σ H' Q I z) hs).imp fun σ H Q h=>yF h⟩
noncomputable def Itv (K:AAD) (a:Addr) (n:Nat):It:=
 ⟨fun i H=>∃xs,oO K H a xs/\xs.length=n/\i < n,fun i H x H'=>H'=H/\∀xs,oO K H a xs->xs[n - 1 - i]? =some x,fun i H=>∃xs,oO K H a xs/\xs.length=n/\n<=i⟩
def Me {P:Program}{w:World}{tg:Expr}(a it:Addr) (n:Nat):Turn P w K tg (Itv K a n) [it] it (fun i h=>i<=n/\h.IsRevIter it a ((n:Int) - 1 - (i:Int))) where
 mem:=by simp
 obj:=fun i h st b hb=>by
  have e:b=it:=by simpa using hb
  subst e
  obtain⟨_,o,e,c,d⟩:=st
  exact⟨o,e,fun v z=>by rw[d] at z;cases z⟩
 keep:=fun i h h' st k=>⟨st.1,st.2.at fun o e=>k it (by simp) o e⟩
 item:=by
  intro X hP hw hK hc i pins s σ H E I hf st hg
  subst hP hw hK
  obtain⟨xs,hq,hl,hi⟩:=hg
  obtain⟨its,rv,p,hz⟩:=I.list hq
  have el:=rv.length
  obtain⟨x,hx⟩:∃x,xs[n - 1 - i]? =some x:=⟨xs[n - 1 - i]'(by lia),aaD _⟩
  obtain⟨u,hu,ru⟩:=rv.get hx
  obtain⟨f0,f1,f2,f3,f4,f5⟩:=hf it (by simp)
  have e:(n:Int) - 1 - (i:Int)=((n - 1 - i:Nat):Int):=by lia
  have hit:=st.2
  rw[e] at hit
  refine wpAny_pyNext_rev_item hit p.isList (x:=u) (by simpa using hu) fun h' st' sb=>?_
  have I1:Inv X pins σ H {s with heap:=h'}:=I.turned (t':=s.toks) (fun b o hb e=>(sb.2 b hb).trans e) f0 f1 f3 f4 f5
  have e2:((n - 1 - i:Nat):Int) - 1=(n:Int) - 1 - ((i+1:Nat):Int):=by lia
  rw[e2] at st'
  obtain⟨o,e,c,d⟩:=id st'
  exact⟨u,rfl,Gn (s:={s with heap:=h'}) e c d (by decide) ⟨x,H,I1,ru,⟨rfl,fun ys hy=>by rw[I.xR hy hq];exact hx⟩,⟨hi,st'⟩,fun b hb=>(hf b hb).1⟩⟩
 done:=by
  intro X hP hw hK hc i pins s σ H E I hf st hg
  subst hP hw hK
  obtain⟨xs,hq,hl,hi⟩:=hg
  obtain⟨f0,f1,f2,f3,f4,f5⟩:=hf it (by simp)
  have e:(n:Int) - 1 - (i:Int)=-1:=by have:=st.1;lia
  have hit:=st.2
  rw[e] at hit
  exact wpAny_pyNext_rev_end (I.ok.hd hc) hit fun h' eb=>⟨rfl,I.turned (t':=s.toks) (fun b o hb e=>eb b o hb e) f0 f1 f3 f4 f5⟩
 self:=fun f f f f f st h=>wpAny_pyIter_revIter st.2 h
section
variable {X:Cx}{tg a b:Expr}{p pos:Pos}{ta:TA}{gA:GA}
def abf (K:AAD) (ta:TA):TI:=fun σ H R=>ta σ H fun vs H1=>∃c xs,vs=[.ref c]/\oO K H1 c xs/\R (Itv K c xs.length) H1
def TU (hg:Gl X "reversed") (hm:X.mg "reversed" =none) (ha:PA X [a] ta) (hs:starEach [a] X.env=[(false,eval a X.env)]:=by rfl):PI X tg (.Call (.Name "reversed" p) [a] [] pos) (abf X.K ta):=by
 intro pins s σ H R I h
 refine Call_ (nA I hg hm boot_reversed (acC (eB (ha pos pins s σ H _ I h) fun us s1 hh=>?_) hs rfl))
 obtain⟨vs,H1,I1,r1,q1⟩:=hh
 obtain⟨c,xs,e,hq,q⟩:=q1
 subst e
 cases r1 with
 | cons r rr=>
  cases rr
  cases r
  obtain⟨its,rv,pl,hz⟩:=I1.list hq
  have el:=rv.length
  refine call_reversed_list pl.isList ?_
  have I2:Inv X pins σ H1 {s1 with heap:=s1.heap.push (revObj c ((its.toArray.size:Int) - 1))}:=I1.kept (t':=s1.toks) fun b o e=>aaf _ e
  have st:(s1.heap.push (revObj c ((its.toArray.size:Int) - 1))).IsRevIter s1.heap.objs.size c ((its.toArray.size:Int) - 1):=⟨_,aaJ _ rfl,rfl,rfl⟩
  refine wpAny_pyIter_revIter (s:={s1 with heap:=s1.heap.push (revObj c ((its.toArray.size:Int) - 1))}) st ?_
  refine⟨s1.heap.objs.size,[s1.heap.objs.size],_,_,H1,rfl,I2,Me c _ xs.length,⟨acJ _,?_⟩,fun b hb=>?_,q⟩
  ·have e:(its.toArray.size:Int) - 1=(xs.length:Int) - 1 - ((0:Nat):Int):=by simp;lia
   rw[<-e]
   exact st
  ·have e:b=s1.heap.objs.size:=by simpa using hb
   subst e
   exact I1.Br (aaC _) (I1.hok.fresh (aaC _))
def Mf {F:Hp}{c:Addr}{vs:List V}(fa:Rd F c (.lst vs)) (rs:bH F vs ds):Walk (Itv K c vs.length) F ds.reverse:=fun F' H' le sb i=>by
 have ha:oO K H' c vs:=.inl (fa.same fun b o z=>sb b o (le b o z))
 have hl:=rs.length
 refine⟨fun d hd=>?_,fun hi=>⟨vs,ha,rfl,by rw[aeW] at hi;lia⟩⟩
 have hi:i < ds.length:=by have:=(aaG.mp hd).1;simpa using this
 rw[List.getElem?_reverse hi] at hd
 obtain⟨v,h1,h2⟩:=rs.get hd
 refine⟨⟨vs,ha,rfl,by lia⟩,fun x H2 y=>⟨y.1,?_⟩⟩
 have:=y.2 vs ha
 rw[hl,h1] at this
 cases this
 exact h2.le le
noncomputable def TV (gA:GA):GI:=fun S=>(gA S).bind fun p=>match p.1 with
 | [.lst ds]=>some (ds.reverse,p.2)
 | _=>none
def TX (hg:Gl X "reversed") (hm:X.mg "reversed" =none) (ha:JA X [a] gA) (hs:starEach [a] X.env=[(false,eval a X.env)]:=by rfl):JI X tg (.Call (.Name "reversed" p) [a] [] pos) (TV gA):=⟨fun B=>PI.orelse fun σ H R0 hh=>by
 obtain⟨S,F,ds,S',R,hg',k⟩:=hh
 obtain⟨⟨args,S1⟩,h1,hg'⟩:=ak hg'
 dsimp only at hg'
 split at hg'
 ·rename_i l
  cases hg'
  refine⟨_,TU hg hm (ha.h B) hs,S,F,_,_,R,h1,fun vs F1 H1 R1 st1 r1=>?_⟩
  cases r1 with
  | cons r rr=>
   cases rr
   obtain⟨c,xs,rfl,fa,hq,rs⟩:=R1.sub.i7 r
   exact⟨c,xs,rfl,.inl hq,k _ F1 H1 R1 st1 (Mf fa rs)⟩
 ·cases hg'⟩
variable {p2 pos2:Pos}
end
def IS {PD:Pos}{k0:Nat}{wi:TI}{tc:TT}{te:TE}{y:Str}
  (T:mX X x y0 bQ cap scope cl) (hc:X.calm=true) (hi:PI X (.Tuple [.Name x px,.Name y0 PD] k0 pt) iter wi)
  (ht:∀C s H fp,N3 (cM X (x :: y0 :: bQ) scope cl C s H fp) ifs tc) (he:∀C s H fp,PE (cM X (x :: y0 :: bQ) scope cl C s H fp) elt te)
  (hs:∀x,foldedSetIterable iter X.env x=pure x) (hN:X.N.Nodup) (hy:X.N[i]? =some y) (hx:Loc X.env.scope y)
  (hsw:swapsWith (.ListComp elt [⟨.Tuple [.Name x px,.Name y0 PD] k0 pt,iter,ifs,0⟩] scope pos) (some (.Name y py)) spos.line X.env=pure true) (hf:X.fn y=true\/X.env.scope.names.lookup y=some .local):
  PS X (.Assign [.Name y py] (.ListComp elt [⟨.Tuple [.Name x px,.Name y0 PD] k0 pt,iter,ifs,0⟩] scope pos) spos) (Ks (LZ X.K wi cap tc te) (Ar i)):=by
 intro pins s σ H D I h
 rw[exec_Assign_Name_used _ _ _ _ hsw]
 refine aae (afl (aae ?_))
 show wpAny _ X.A (do let _ <-comprehension (.ListComp elt [⟨.Tuple [.Name x px,.Name y0 PD] k0 pt,iter,ifs,0⟩] scope pos) scope X.env _ (newList []) false (eval iter X.env) (some (assign (.Name y py) X.env))) _ _ s
 refine aae (acL (we (Qf:=fun c s'=>SP X pins D .next s') T hc hi ht he hs I h ?_) (fun c s' hq=>aag (aag hq)) fun c c e=>e)
 rintro p C s7 H6 ys I9 ⟨m7,N4⟩ ⟨g0,g1,g2,g3,g4,g5⟩ q
 refine afp (uI I9 hN hy hx (v:=.ref p) (show RelV (.ref p) (.ref p) from rfl) (fun s8 I8 hh=>?_) hf)
 obtain⟨a,hsb,ha⟩:=hh
 have hne:C≠a:=ha.elim (fun z=>by rw[z];exact g1) fun z=>ac2 (g4 _ _ z)
 refine⟨m7,N4.sameBut hsb hne,fun h' hs'=>?_⟩
 exact⟨_,_,I8.turned (t':=s8.toks) (fun b o hb e=>hs'.extBut b o hb e) g0 g1 g3 g4 g5,q⟩
def IT {y:Str}{PD:Pos}{k0:Nat}{gi:GI}{q:GT}{g:GD}(hN:X.N.Nodup) (hy:X.N[i]? =some y) (hx:Loc X.env.scope y) (T:mX X x y0 bQ cap scope cl) (hc:X.calm=true) (hi:JI X (.Tuple [.Name x px,.Name y0 PD] k0 pt) iter gi)
  (ht:∀C s H fp,VT (cM X (x :: y0 :: bQ) scope cl C s H fp) ifs q) (he:∀C s H fp,JD (cM X (x :: y0 :: bQ) scope cl C s H fp) elt g)
  (hsw:swapsWith (.ListComp elt [⟨.Tuple [.Name x px,.Name y0 PD] k0 pt,iter,ifs,0⟩] scope pos) (some (.Name y py)) spos.line X.env=pure true:=by rfl) (hf:X.fn y=true\/X.env.scope.names.lookup y=some .local:=by first | exact .inl rfl | exact .inr rfl | assumption)
  (hs:∀x,foldedSetIterable iter X.env x=pure x:=by intro _;rfl):JS X (.Assign [.Name y py] (.ListComp elt [⟨.Tuple [.Name x px,.Name y0 PD] k0 pt,iter,ifs,0⟩] scope pos) spos) (bX i (kX cap gi q g)):=⟨fun B=>
 (IS (tc:=fun σ H Q=>∃B,tQ X.K B q σ H Q) (te:=fun σ H Q=>∃B,tD X.K B g σ H Q) T hc (hi.h B) (fun C s H fp pins s' σ H' Q I ⟨B',z⟩=>(ht C s H fp).h B' pins s' σ H' Q I z) (fun C s H fp pins s' σ H' Q I ⟨B',z⟩=>(he C s H fp).h B' pins s' σ H' Q I z) hs hN hy hx hsw hf).imp fun D σ H h=>IL (BI h)⟩
end L2
end
section
namespace L2
open PySem PySem.Spec PyProof.Rows
section
variable {M:Model}{A:Around}{E:AAE}{s:Shared}{Q:AAE}
end
section
variable {prog:Program}{w:World}{K:Type} [DecidableEq K] {knd:HeapKind prog w K}{A:Around}{E:AAE}{s:Shared}
end
section
variable {X:Cx}{pins:AAG}{σ:St}{H:Hp}{s:Shared}{a:Addr}{y v r:V}{u z:Value}{A:Around}{E:AAE}
end
section
variable {X:Cx}{o e f:Expr}{td ty tx:TE}{x:Str}{px pos apos cpos:Pos}{gk gd:GD}
end
section
variable {X:Cx}{a:Expr}{pos p p1 p2:Pos}{ga:GD}
end
section
variable {prog:Program}{w:World}{A:Around}{E:AAE}{s:Shared}
end
section
variable {prog:Program}{w:World}{A:Around}{R:Result->Shared->Prop}{I:Addr}{fp wr:List Addr}{G:Array GenState->Array GenState->Prop}{n:Nat}{P:Nat->Value->Prop}{St:Nat->Shared->Prop}{K:Type} [DecidableEq K] {knd:KeyKind prog w K}
end
section
variable {prog:Program}{w:World}{A:Around}{E:AAE}{s:Shared}{K:Type} [DecidableEq K] {knd:KeyKind prog w K}
end
section
variable {X:Cx}{a:Expr}{pos p p1 p2:Pos}{ga:GD}
end
section
variable {K:AAD}{B B':Base}{S S':SS}{σ:St}{F H F' H':Hp}{a:Addr}{bs:List Addr}{nest:List (List D)}
end
abbrev GN:=Addr->SS->List (List D)->Option (SS×List (List D))
section
variable {X:Cx}{e1 e2:Expr}{pos px ps apos cpos:Pos}{x:Str}{gk gv:GD}{i:Nat}
end
section
variable {X:Cx}{tg iter:Expr}{body:Stmt}{bd:GB}{gi:GI}{g:GN}{i:Nat}{pos:Pos}
end
section
variable {K:AAD}{B:Base}{S:SS}{σ:St}{F H:Hp}{a:Addr}{bs:List Addr}{i:Nat}
end
section
variable {X:Cx}{iter:Expr}{st2:Stmt}{rest:List Stmt}{gi:GI}{g:GN}{gr:GS}{i:Nat}{pos px py pe spos:Pos}{x y:Str}{scope:Scope}{cl:List (Str×Addr)}
end
section
variable {X:Cx}{e1 e2:Expr}{pos:Pos}{gk gv:GD}
end
section
variable {prog:Program}{w:World}{A:Around}{E:AAE}{s:Shared}
end
section
variable {X:Cx}{a b c e:Expr}{nm:Str}{pos p tpos:Pos}
end
section
variable {prog:Program}{w:World}{A:Around}{E:AAE}{s:Shared}
end
section
variable {prog:Program}{w:World}{A:Around}{R:Result->Shared->Prop}{I:Addr}{fp wr:List Addr}{G:Array GenState->Array GenState->Prop}{n:Nat}{P:Nat->Value->Prop}{St:Nat->Shared->Prop}
end
section
variable {prog:Program}{w:World}{A:Around}{E:AAE}{s:Shared}
end
end L2
end
section
namespace L2
open PySem PySem.Spec PyProof.Rows PySem.Calls
section
variable {prog:Program}{w:World}{A:Around}{E:AAE}{s:Shared}{a I:Addr}{es:Array (Int×Value)}{ep:Nat}{t:SetTable}
end
section
variable {prog:Program}{w:World}{A:Around}{E:AAE}{s:Shared}{a I:Addr}{es:Array (Int×Value)}{ep:Nat}{t:SetTable}
end
section
variable {prog:Program}{w:World}{A:Around}{E:AAE}{s:Shared}{a I T:Addr}{es:Array (Int×Value)}{ep:Nat}{t:SetTable}
end
section
variable {prog:Program}{w:World}{A:Around}{E:AAE}{s:Shared}{a I T:Addr}{es:Array (Int×Value)}{ep:Nat}{t:SetTable}
end
end L2
end
section
namespace L2
open PySem PySem.Spec PyProof.Rows PySem.Calls PyProof.V
section
variable {prog:Program}{w:World}{A:Around}{E:AAE}{s:Shared}{a:Addr}
end
section
variable {X:Cx}{pins:AAG}{σ:St}{F H:Hp}{s:Shared}{v:V}{u:Value}{d:D}{ns:List Int}{Q:AAE}{E:AAE}
end
section
variable {X:Cx}{a:Expr}{pos p p1 p2:Pos}{ga:GD}
end
section
variable {prog:Program}{w:World}{A:Around}{E:AAE}{s:Shared}{a b:Addr}
end
section
variable {X:Cx}{a b:Expr}{pos p p1 p2 p3:Pos}{ga gb:GD}
end
end L2
end
section
namespace L2
open PySem PySem.Spec PyProof.Rows
section
variable (S:SS) (d e:D) (o:MO) (i j:Nat) (g ga gb gc:GD) (ge:GE) (q q1 q2:GT) (gA:GA) (gu:GU) (a b:GS) (f f':List D->Option U) (fm:FM) (bd:GB) (gi:GI)
@[simp] theorem abg:aj i S=match S[i]? with | some (some (.t d))=>some (.t d,S) | some (some (.s d))=>some (.s d,S) | some (some (.f d))=>some (.f d,S) | some (some _)=>some (.v i,S) | _=>none:=rfl
@[simp] theorem ae0:eC d S=some (d,S):=rfl
@[simp] theorem abh:aq S=some ([],S):=rfl
@[simp] theorem Zd:aa g gA S=(g S).bind fun p=>(gA p.2).map fun q=>(p.1 :: q.1,q.2):=rfl
@[simp] theorem ae1:eP f gA S=(gA S).bind fun p=>(f p.1).map fun u=>(u,p.2):=rfl
@[simp] theorem ae2:eF ge S=(ge S).bind fun p=>fz p.1 p.2:=rfl
@[simp] theorem ae3:eT g S=(g S).map fun p=>(.t p.1,p.2):=rfl
@[simp] theorem abi:fz (.t d) S=some (d,S):=rfl
@[simp] theorem abj (ds:List D):fz (.m (.lst ds)) S=some (.lst ds,S):=rfl
@[simp] theorem abk:fz (.v i) S=match S[i]? with | some (some (.t d))=>some (d,S) | some (some (.m (.lst ds)))=>some (.lst ds,S.set i (some (.t (.lst ds)))) | _=>none:=rfl
@[simp] theorem ae4:qB g S=(g S).bind fun p=>match p.1 with | .bl k=>some (k,p.2) | _=>none:=rfl
@[simp] theorem abl:C5 q S=(q S).map fun p=>(!p.1,p.2):=rfl
@[simp] theorem abm:lO q1 q2 S=(q1 S).bind fun p=>if p.1 then q2 p.2 else some (false,p.2):=rfl
@[simp] theorem XT:C6 q1 q2 S=(q1 S).bind fun p=>if p.1 then some (true,p.2) else q2 p.2:=rfl
@[simp] theorem ae5:eQ q S=(q S).map fun p=>(.bl p.1,p.2):=rfl
@[simp] theorem Ze:cF S=some (true,S):=rfl
@[simp] theorem adm:eCh f f' ga gb gc S=(ga S).bind fun p=>(gb p.2).bind fun q=>match f [p.1,q.1] with
 | some (.t (.bl k))=>if k then(gc q.2).bind fun r=>match f' [q.1,r.1] with
   | some (.t (.bl k'))=>some (.bl k',r.2)
   | _=>none
  else some (.bl false,q.2)
 | _=>none:=rfl
@[simp] theorem adn (g1 g2:GE):eIf q g1 g2 S=(q S).bind fun p=>if p.1 then g1 p.2 else g2 p.2:=rfl
@[simp] theorem abn:c8 S=some (.nx S):=rfl
@[simp] theorem B0:aQ a b S=(a S).bind fun o=>match o with | .nx S1=>b S1 | o=>some o:=rfl
@[simp] theorem TY:bX i ge S=(ge S).bind fun p=>match p.1 with | .m o=>(sZ i (.m o) p.2).map .nx | u=>(fz u p.2).bind fun q=>(sZ i (.t q.1) q.2).map .nx:=rfl
@[simp] theorem eZ (u:U):sZ i u S=match S[i]? with | some (some (.b _))=>none | some _=>some (S.set i (some u)) | none=>none:=rfl
@[simp] theorem Zf:fT ge S=(ge S).map fun p=>.nx p.2:=rfl
@[simp] theorem abo:bT ge S=(ge S).bind fun p=>match p.1 with
 | .v i=>match p.2[i]? with
  | some (some (.t d))=>some (.rt (.t d) p.2)
  | some (some (.m o))=>some (.rt (.m o) (p.2.set i none))
  | _=>none
 | .s _=>none
 | .f _=>none
 | u=>some (.rt u p.2):=rfl
@[simp] theorem Mg:i8 q a b S=(q S).bind fun p=>if p.1 then a p.2 else b p.2:=rfl
@[simp] theorem abp:Lp bd g S=(g S).bind fun p=>(bd p.1 p.2).map .nx:=rfl
@[simp] theorem Zg:bName i d S=sZ i (.t d) S:=rfl
@[simp] theorem uV:rR bd gi a S=(gi S).bind fun p=>loop bd a p.1 p.2:=rfl
@[simp] theorem abq:BJ g S=(g S).bind fun p=>match p.1 with | .tup ds=>some (ds,p.2) | .lst ds=>some (ds,p.2) | _=>none:=rfl
@[simp] theorem B3:jx gA S=(gA S).bind fun p=>match p.1 with | [.int j]=>if j < 1000000/\-1000000 < j then some (oU 0 j.toNat,p.2) else none | _=>none:=rfl
@[simp] theorem TZ:loop bd a [] S=some (.nx S):=rfl
@[simp] theorem abr:aT S=some ([],S):=rfl
@[simp] theorem abt:aH g gu S=(g S).bind fun p=>(gu p.2).map fun q=>(.t p.1 :: q.1,q.2):=rfl
@[simp] theorem abu:cg ge gu S=(ge S).bind fun p=>(gu p.2).map fun q=>(p.1 :: q.1,q.2):=rfl
@[simp] theorem Zh:aO fm gu S=(gu S).bind fun p=>if(slotsOf p.1).Nodup/\bJ p.1<=1 then(bz p.2 p.1).bind fun us=>(fm us).bind fun r=>(wb p.1 r.2 p.2).map fun S2=>(r.1,S2) else none:=rfl
@[simp] theorem VY:bz S []=some []:=rfl
@[simp] theorem T5 (u:U) (us:List U):bz S (u :: us)=(resolve S u).bind fun w=>(bz S us).map fun ws=>w :: ws:=rfl
@[simp] theorem Zi:resolve S (.t d)=AAA d:=rfl
@[simp] theorem Zj:resolve S (.m o)=some (.b o):=rfl
@[simp] theorem Zk (ns:List Int):resolve S (.s ns)=some (.s ns):=rfl
@[simp] theorem Zl:resolve S (.v i)=match S[i]? with | some (some (.m o))=>some (.b o) | some (some (.b o))=>some (.b o) | _=>none:=rfl
@[simp] theorem XU:slotsOf []=[]:=rfl
@[simp] theorem abv (us:List U):slotsOf (.t d :: us)=slotsOf us:=rfl
@[simp] theorem abw (us:List U):slotsOf (.m o :: us)=slotsOf us:=rfl
@[simp] theorem abx (ns:List Int) (us:List U):slotsOf (.s ns :: us)=slotsOf us:=rfl
@[simp] theorem aby (us:List U):slotsOf (.v i :: us)=i :: slotsOf us:=rfl
@[simp] theorem XW:bJ []=0:=rfl
@[simp] theorem abz (us:List U):bJ (.t d :: us)=bJ us:=rfl
@[simp] theorem abA (us:List U):bJ (.m o :: us)=bJ us+1:=rfl
@[simp] theorem abB (ns:List Int) (us:List U):bJ (.s ns :: us)=bJ us:=rfl
@[simp] theorem abC (us:List U):bJ (.v i :: us)=bJ us:=rfl
@[simp] theorem XX:wb [] [] S=some S:=rfl
@[simp] theorem abD (us:List U) (os:List MO):wb (.t d :: us) os S=wb us os S:=by cases os <;> rfl
@[simp] theorem abE (ns:List Int) (us:List U) (os:List MO):wb (.s ns :: us) os S=wb us os S:=by cases os <;> rfl
@[simp] theorem abF (us:List U) (os:List MO):wb (.m o :: us) (o' :: os) S=wb us os S:=rfl
@[simp] theorem abG (us:List U) (os:List MO):wb (.v i :: us) (o :: os) S=match S[i]? with | some (some (.m _))=>wb us os (S.set i (some (.m o))) | some (some (.b _))=>wb us os (S.set i (some (.b o))) | _=>none:=rfl
@[simp] theorem abH:cD i gb S=match S[i]? with | some (some _)=>(gb S).bind fun p=>(match p.2[i]? with | some (some u)=>(rB u p.1).map fun d=>(d,p.2) | _=>none) | _=>none:=rfl
@[simp] theorem abI:jd i S=match S[i]? with | some (some u)=>(BP u).map fun n=>(.int (n:Nat),S) | _=>none:=rfl
@[simp] theorem ae6 (h:List D->MO->Option (D×MO)):eM i h gA S=if VR S i then(gA S).bind fun p=>wL p.2 i (h p.1) else none:=rfl
@[simp] theorem abJ (gk gv:GD):Iu i gk gv S=(gv S).bind fun p=>match p.2[i]? with | some (some _)=>(gk p.2).bind fun r=>(wL r.2 i fun o=>(uT o r.1 p.1).map fun o'=>(.cU,o')).map fun z=>.nx z.2 | _=>none:=rfl
@[simp] theorem ado (Ts:List String):Y4 Ts g S=(g S).bind fun p=>(rA Ts p.1).map fun b=>(.bl b,p.2):=rfl
@[simp] theorem T6 (ds:List D) (k:Int):rB (.t (.tup ds)) (.int k)=gz ds k:=rfl
@[simp] theorem T7 (ds:List D) (k:Int):rB (.t (.lst ds)) (.int k)=gz ds k:=rfl
@[simp] theorem T8 (ds:List D) (k:Int):rB (.m (.lst ds)) (.int k)=gz ds k:=rfl
@[simp] theorem T9 (ds:List D) (k:Int):rB (.b (.lst ds)) (.int k)=gz ds k:=rfl
@[simp] theorem Ua (kvs:List (Key×D)) (k:D):rB (.b (.dct kvs)) k=(keyOf k).bind (b7 kvs):=by cases k <;> rfl
@[simp] theorem VZ (ns:List Int) (k:Int):rB (.s ns) (.int k)=(gz ns k).map D.int:=rfl
@[simp] theorem Zm (k:Int):keyOf (.int k)=some (.inl k):=rfl
@[simp] theorem Zn (k:Str):keyOf (.str k)=some (.inr k):=rfl
@[simp] theorem V0 (ds:List D):BP (.t (.tup ds))=some ds.length:=rfl
@[simp] theorem V1 (ds:List D):BP (.t (.lst ds))=some ds.length:=rfl
@[simp] theorem V2 (ds:List D):BP (.m (.lst ds))=some ds.length:=rfl
@[simp] theorem V3 (ds:List D):BP (.b (.lst ds))=some ds.length:=rfl
@[simp] theorem XY (ns:List Int):BP (.s ns)=some ns.length:=rfl
@[simp] theorem adp (C:Int->Int->Bool) (h:Int->Int->D) (x y:Int):Lm C h [.int x,.int y]=if C x y then AAA (h x y) else none:=rfl
@[simp] theorem XZ (x y:Int):cH [.int x,.int y]=AAC (x+y):=rfl
@[simp] theorem X0 (x y:Str):cH [.str x,.str y]=if x.length+y.length<=100000 then AAA (.str (x++y)) else none:=rfl
@[simp] theorem X3 (x y:List D):cH [.tup x,.tup y]=if x.length+y.length<=100000 then AAA (.tup (x++y)) else none:=rfl
@[simp] theorem X4 (x y:List D):cH [.lst x,.lst y]=if x.length+y.length<=100000 then AAB (x++y) else none:=rfl
@[simp] theorem abK (x y:Int):ET [.int x,.int y]=if((decide (-(2 ^ 64) < x) && decide (x < 2 ^ 64)) || (decide (-(2 ^ 64) < y) && decide (y < 2 ^ 64))) then AAC (x * y) else none:=rfl
@[simp] theorem abL (x:Int):rQ [.int x]=AAC (-x):=rfl
@[simp] theorem abM (ds:List D):bw ds=if ds.length<=100000 then AAA (.tup ds) else none:=rfl
@[simp] theorem abN (ds:List D):j9 ds=if ds.length<=100000 then AAB ds else none:=rfl
@[simp] theorem Zo (ds:List D) (k:Int):En [.tup ds,.int k]=(gz ds k).map .t:=rfl
@[simp] theorem Zp (ds:List D) (k:Int):En [.lst ds,.int k]=(gz ds k).map .t:=rfl
@[simp] theorem adq:jz [d,e]=if gC d<=40 then AAA (.bl (nI d e)) else none:=rfl
@[simp] theorem ads:Tp [d,e]=if gC d<=40 then AAA (.bl (!nI d e)) else none:=rfl
@[simp] theorem Zq (x y z:Int):GV [.int x,.int y,.int z]=AAC (if y < x then(if z < y then z else y) else if z < x then z else x):=rfl
@[simp] theorem Zr (x y:Int):GW [.int x,.int y]=AAC (if y > x then y else x):=rfl
@[simp] theorem X5 (ds:List D):yh [.tup ds]=AAC ds.length:=rfl
@[simp] theorem X6 (ds:List D):yh [.lst ds]=AAC ds.length:=rfl
@[simp] theorem V4 (ds:List D):Rz [.tup ds]=AAB ds:=rfl
@[simp] theorem V5 (ds:List D):Rz [.lst ds]=AAB ds:=rfl
@[simp] theorem Ub (ds:List D):BO [.tup ds]=AAA (.tup ds):=rfl
@[simp] theorem Uc (ds:List D):BO [.lst ds]=AAA (.tup ds):=rfl
@[simp] theorem abO (ds:List D):Tr [.lst ds]=(jE ds).map fun bs=>.t (.bl (bs.all id)):=rfl
@[simp] theorem abP (ds:List D):EZ [.lst ds]=(jE ds).map fun bs=>.t (.bl (bs.any id)):=rfl
@[simp] theorem Zs (x y:Str):nI (.str x) (.str y)=(x == y):=by kernel_rfl
@[simp] theorem Zt (x y:Int):nI (.int x) (.int y)=(x == y):=by kernel_rfl
@[simp] theorem PF (x y:Bool):nI (.bl x) (.bl y)=(x == y):=by kernel_rfl
@[simp] theorem Zu (x:Str):gC (.str x)=0:=by kernel_rfl
@[simp] theorem Zv (x:Int):gC (.int x)=0:=by kernel_rfl
@[simp] theorem Zw (x:Bool):gC (.bl x)=0:=by kernel_rfl
@[simp] theorem abQ (h:MO->Option (D×MO)):wL S i h=match S[i]? with | some (some (.m o))=>(h o).map fun r=>(r.1,S.set i (some (.m r.2))) | some (some (.b o))=>(h o).map fun r=>(r.1,S.set i (some (.b r.2))) | _=>none:=rfl
@[simp] theorem adt:VR S i=match S[i]? with | some (some (.m (.lst _)))=>true | some (some (.b (.lst _)))=>true | _=>false:=rfl
@[simp] theorem V6 (kvs:List (Key×D)) (k:D):uT (.dct kvs) k d=(keyOf k).bind fun kk=>if kvs.length < 100000 then some (.dct (putD kvs kk d)) else none:=rfl
@[simp] theorem V7 (ds:List D) (k:Int):uT (.lst ds) (.int k) d=(EI ds.length k).map fun j=>.lst (ds.set j d):=rfl
@[simp] theorem X7 (ds:List D):hAppend [d] (.lst ds)=if ds.length < 100000 then some (.cU,.lst (ds++[d])) else none:=rfl
@[simp] theorem V8:aL [] S=some []:=by cases S <;> rfl
@[simp] theorem Zx (us:List U) (o2:MO):aL (.b o2 :: us) (some (.b o) :: S)=(aL us S).map fun os=>o :: os:=rfl
@[simp] theorem G9 (us:List U) (x:Option U):aL (.t d :: us) (x :: S)=aL us S:=by cases x <;> rfl
@[simp] theorem Zy (ns:List Int) (us:List U) (x:Option U):aL (.s ns :: us) (x :: S)=aL us S:=by cases x <;> rfl
end
structure dJ where
 c:Int
 l:Int
 n:Int
noncomputable def cK (t:dJ):List (Key×D):=[(.inr "cell",.int t.c),(.inr "left",.int t.l),(.inr "turn",.int t.n)]
noncomputable def uW:List (Key×D)->Option dJ
 | [(k1,.int c),(k2,.int l),(k3,.int n)]=>if k1= .inr "cell"/\k2= .inr "left"/\k3= .inr "turn" then some ⟨c,l,n⟩ else none
 | _=>none
@[simp] theorem Ud (t:dJ):uW (cK t)=some t:=by kernel_rfl
def pL {kvs:List (Key×D)}{t:dJ}(h:uW kvs=some t):kvs=cK t:=by
 unfold uW at h
 split at h
 ·obtain⟨⟨rfl,rfl,rfl⟩,rfl⟩:=bV h
  rfl
 ·cases h
@[simp] theorem abR (t:dJ):b7 (cK t) (.inr "cell")=some (.int t.c):=by rfl
@[simp] theorem abS (t:dJ):b7 (cK t) (.inr "left")=some (.int t.l):=by rfl
@[simp] theorem abT (t:dJ):b7 (cK t) (.inr "turn")=some (.int t.n):=by rfl
@[simp] theorem Zz (t:dJ) (x:Int):putD (cK t) (.inr "turn") (.int x)=cK {t with n:=x}:=by rfl
@[simp] theorem ZA (t:dJ) (x:Int):putD (cK t) (.inr "left") (.int x)=cK {t with l:=x}:=by rfl
@[simp] theorem X8 (t:dJ):(cK t).length=3:=rfl
noncomputable def mixed (c n:Int):Int:=(((c % 2147483647+31 * (n+1) * (n+1)+1) * 48271) % 2147483629+7 * (n+1)) * 69621 % 2147483587 / 7
def bZ (t:dJ) (m:Int):Int:=if 0 < t.l then t.l % m else mixed t.c t.n % m
noncomputable def c9 (t:dJ) (m:Int):dJ:=if 0 < t.l then⟨t.c,t.l / m,t.n+1⟩ else⟨t.c,t.l,t.n+1⟩
def cG:FM
 | [.b (.dct kvs),.t (.int m)]=>(uW kvs).bind fun t=>if 0 < m/\m < 1000000/\0<=t.n/\t.n < 1000000 then some (.t (.int (bZ t m)),[.dct (cK (c9 t m))]) else none
 | _=>none
def lU:GS:=
 (aQ (bX 2 (eP cH (aa (cD 0 (eC (.str "turn"))) (aa (eC (.int 1)) aq))))
 (aQ (Iu 0 (eC (.str "turn")) (eF (aj 2)))
 (aQ (i8 (qB (eF (eP Tj (aa (cD 0 (eC (.str "left"))) (aa (eC (.int 0)) aq))))) (aQ (bX 3 (eP zN (aa (cD 0 (eC (.str "left"))) (aa (eF (aj 1)) aq))))
 (aQ (Iu 0 (eC (.str "left")) (eF (eP O1 (aa (cD 0 (eC (.str "left"))) (aa (eF (aj 1)) aq)))))
 (bT (aj 3)))) c8)
 (aQ (bX 4 (eP ET (aa (eF (eP cH (aa (eF (eP cH (aa (eF (eP zN (aa (cD 0 (eC (.str "cell"))) (aa (eC (.int 2147483647)) aq)))) (aa (eF (eP ET (aa (eF (eP ET (aa (eC (.int 31)) (aa (eF (aj 2)) aq)))) (aa (eF (aj 2)) aq)))) aq)))) (aa (eC (.int 1)) aq)))) (aa (eC (.int 48271)) aq))))
 (aQ (bX 4 (eP ET (aa (eF (eP cH (aa (eF (eP zN (aa (eF (aj 4)) (aa (eC (.int 2147483629)) aq)))) (aa (eF (eP ET (aa (eC (.int 7)) (aa (eF (aj 2)) aq)))) aq)))) (aa (eC (.int 69621)) aq))))
 (bT (eP zN (aa (eF (eP O1 (aa (eF (eP zN (aa (eF (aj 4)) (aa (eC (.int 2147483587)) aq)))) (aa (eC (.int 7)) aq)))) (aa (eF (aj 1)) aq)))))))))
def pick_run:∀us r,cG us=some r->aK 5 lU us=some r:=by
 intro us r h
 unfold cG at h
 split at h
 ·rename_i kvs m
  obtain⟨t,h1,h⟩:=ak h
  obtain⟨⟨h2,h3,h4,h5⟩,rfl⟩:=bV h
  obtain rfl:=pL h1
  have e1:-18446744073709551616 < t.n+1:=by lia
  have e2:t.n+1 < 18446744073709551616:=by lia
  have e3:m < 1073741824:=by lia
  by_cases hl:0 < t.l
  ·simp[aK,lU,bZ,c9,hl,h2,e3]
  ·simp[aK,lU,bZ,c9,hl,h2,e3,mixed,e1,e2]
 ·cases h
noncomputable def fB:Option U->Bool
 | some (.b _)=>true
 | _=>false
@[simp] theorem adu:fB none=false:=rfl
@[simp] theorem adv (d:D):fB (AAA d)=false:=rfl
@[simp] theorem adw (o:MO):fB (some (.m o))=false:=rfl
def dh (i:Nat) (u:U) (S:SS):sZ i u S=(S[i]?).bind fun x=>if fB x then none else some (S.set i (some u)):=by
 unfold sZ
 cases S[i]? with
 | none=>rfl
 | some x=>cases x with
  | none=>rfl
  | some u=>cases u <;> rfl
def abU:FM
 | [.t d,.t (.int l),.t (.int m)]=>some (.t (.bl (jB d l m)),[])
 | _=>none
def tU:GS:=
 (bT (eP j9 (aa (eC (.str "a")) (aa (eC (.str "ab")) (aa (eC (.str "abc")) (aa (eC (.str "b")) (aa (eC (.str "any")) (aa (eC (.str "name")) (aa (eC (.str "x")) (aa (eC (.str "zzzzzzzz")) aq))))))))))
noncomputable def fM:List Str:=["a","ab","abc","b","any","name","x","zzzzzzzz"]
noncomputable def kg:FM
 | []=>some (.m (.lst (fM.map D.str)),[])
 | _=>none
def IU:∀us r,kg us=some r->aK 0 tU us=some r:=by
 intro us r h
 unfold kg at h
 split at h
 ·cases h
  kernel_rfl
 ·cases h
def lV:GS:=
 (aQ (bX 2 (aj 1))
 (aQ (i8 (qB (eF (eP Tj (aa (jd 0) (aa (eC (.int 0)) aq))))) (bX 2 (eP cH (aa (cD 0 (eF (eP zN (aa (eF (aj 1)) (aa (jd 0) aq))))) (aa (eF (eP O1 (aa (eF (aj 1)) (aa (jd 0) aq)))) aq)))) c8)
 (bT (v7 [("cell",(eF (aj 2))),("left",(eF (eP GW (aa (eC (.int 0)) (aa (eF (eP nF (aa (eF (aj 2)) (aa (eF (eP Xs (aa (eC (.int 10)) (aa (eC (.int 18)) aq)))) aq)))) aq))))),("turn",(eC (.int 0)))]))))
def Dz (ns:List Int) (k:Int):Int:=if 0 < ns.length then(gz ns (k % ns.length)).getD 0+k / ns.length else k
def DA (ns:List Int) (k:Int):dJ:=⟨Dz ns k,if Dz ns k - 10 ^ 18 > 0 then Dz ns k - 10 ^ 18 else 0,0⟩
def tV:FM
 | [.s ns,.t (.int k)]=>if 0<=k/\k < 1000000/\ns.length < 1000000 then some (.m (.dct (cK (DA ns k))),[]) else none
 | _=>none
def Mh {α:Type}{l:List α}{i:Int}(h0:0<=i) (h1:i < l.length):∃x,gz l i=some x:=by
 unfold gz EI
 rw[if_pos h0,if_pos h1]
 have:i.toNat < l.length:=by omega
 exact⟨l[i.toNat],aaD this⟩
@[simp] theorem Yb (k1 k2 k3:Str) (g1 g2 g3:GD) (S:SS):v7 [(k1,g1),(k2,g2),(k3,g3)] S=(g1 S).bind fun a=>(g2 a.2).bind fun b=>(g3 b.2).map fun c=>(.m (.dct (pG [] [(.inr k1,a.1),(.inr k2,b.1),(.inr k3,c.1)])),c.2):=by
 simp only[v7,jF]
 cases g1 S with
 | none=>rfl
 | some a=>
  simp only[aau]
  cases g2 a.2 with
  | none=>rfl
  | some b=>
   simp only[aau]
   cases g3 b.2 with
   | none=>rfl
   | some c=>rfl
def yL (c l n:Int):pG [] [(.inr "cell",.int c),(.inr "left",.int l),(.inr "turn",.int n)]=cK ⟨c,l,n⟩:=rfl
def Mi:∀us r,tV us=some r->aK 3 lV us=some r:=by
 intro us r h
 unfold tV at h
 split at h
 ·rename_i ns k
  obtain⟨⟨h1,h2,h3⟩,rfl⟩:=bV h
  by_cases hl:0 < ns.length
  ·have e0:(0:Int) < ns.length:=by omega
   obtain⟨x,hx⟩:=Mh (l:=ns) (i:=k % ns.length) (aed _ (by omega)) (adU _ e0)
   have e1:(ns.length:Int) < 1073741824:=by omega
   simp[aK,lV,e0,e1,hx,yL,DA,Dz,hl]
  ·have e0:¬(0:Int) < ns.length:=by omega
   simp[aK,lV,e0,yL,DA,Dz,hl]
 ·cases h
end L2
end
section
namespace Sw
open PySem PySem.Spec PyProof.Rows L2
variable {α:Type}{n:Nat}{k:Int}{T:AAJ}{K:AAD}
def cu {t:dJ}{m:Int}(h:0 < m):0<=bZ t m/\bZ t m < m:=by
 unfold bZ
 split
 ·exact⟨aed _ (by lia),adU _ h⟩
 ·exact⟨aed _ (by lia),adU _ h⟩
@[simp] theorem B4 (t:dJ) (m:Int):(c9 t m).n=t.n+1:=by unfold c9;split <;> rfl
def kZ {t:dJ}{m:Int}(h1:0 < m) (h2:m < 1000000) (h3:0<=t.n) (h4:t.n < 1000000):cG [.b (.dct (cK t)),.t (.int m)]=some (.t (.int (bZ t m)),[.dct (cK (c9 t m))]):=by
 simp[cG,h1,h2,h3,h4]
def Mj {α:Type}{l:List α}{i:Int}(h0:0<=i) (h1:i < l.length):gz l i=some (l[i.toNat]'(by lia)):=by
 unfold gz EI
 rw[if_pos h0,if_pos h1]
 exact aaD (by lia)
noncomputable def rX (T:AAJ):D:=.tup (T.map fun p=>.tup [.str p.1,.int p.2])
structure Fq where
 names:List Str
 tab:List (Str×Int)
 left:Int
 t:dJ
noncomputable def zS (i j k:Int):Int:=if j < i then(if k < j then k else j) else if k < i then k else i
def cT (s:Fq) (k:Int):Fq:=
 let i:=(bZ s.t s.names.length).toNat
 let t1:=c9 s.t s.names.length
 let most:=zS 5 (s.left - 4+k) (bZ t1 6)
 ⟨s.names.eraseIdx i,s.tab++[(s.names.getD i "",most)],s.left - most - 1,c9 t1 6⟩
def fC (pM:FM) (au:FM):GS:=
 (aQ (bX 5 (eT (eM 1 pA (aa (eF (aO au (cg (aj 0) (aH (jd 1) aT)))) aq))))
 (aQ (bX 6 (eP GV (aa (eC (.int 5)) (aa (eF (eP cH (aa (eF (eP nF (aa (eF (aj 3)) (aa (eC (.int 4)) aq)))) (aa (eF (aj 4)) aq)))) (aa (eF (aO au (cg (aj 0) (aH (eC (.int 6)) aT)))) aq)))))
 (aQ (bX 2 (eP cH (aa (eF (aj 2)) (aa (eF (eP bw (aa (eF (eP bw (aa (eF (aj 5)) (aa (eF (aj 6)) aq)))) aq))) aq))))
 (bX 3 (eP nF (aa (eF (eP nF (aa (eF (aj 3)) (aa (eF (aj 6)) aq)))) (aa (eC (.int 1)) aq)))))))
def nK (pM:FM) (au:FM):GS:=
 (aQ (bX 1 (aO pM aT))
 (aQ (bX 2 (eP bw aq))
 (aQ (bX 3 (eT (eC (.int 12))))
 (aQ (rR (bName 4) (jx (aa (eF (eP En (aa (eF (eP j9 (aa (eC (.int 1)) (aa (eC (.int 2)) (aa (eC (.int 2)) (aa (eC (.int 3)) (aa (eC (.int 4)) aq))))))) (aa (eF (aO au (cg (aj 0) (aH (eC (.int 5)) aT)))) aq)))) aq)) (fC pM au))
 (bT (aj 2))))))
def k7 (s:Fq) (x y z:Option U):SS:=[some (.b (.dct (cK s.t))),AAB (s.names.map D.str),AAA (rX s.tab),AAC s.left,x,y,z]
def IV {i:Int}(h0:0<=i) (h1:i < n):seqIndex? i n=some i.toNat:=by
 unfold seqIndex?
 simp[h0,h1]
 try lia
theorem rD {α β:Type}(f:α->β):∀(l:List α) (k:Nat),(l.map f).eraseIdx k=(l.eraseIdx k).map f
 | [],_=>rfl
 | _ :: _,0=>rfl
 | a :: l,k+1=>by simp[rD f l k]
def Ml {s:Fq}{x y z:Option U}(hn:0 < s.names.length) (hn2:s.names.length<=8) (ht:s.tab.length<=100) (h3:0<=s.t.n) (h4:s.t.n < 900000) (hx:(x=none/\y=none/\z=none)\/∃a b c,x=AAA a/\y=AAA b/\z=AAA c):
  ∃a b c,(bName 4 (.int k) (k7 s x y z)).bind (fC kg cG)=some (.nx (k7 (cT s k) (AAA a) (AAA b) (AAA c))):=by
 have p1:=cu (t:=s.t) (m:=s.names.length) (by lia)
 have e1:=kZ (t:=s.t) (m:=s.names.length) (by lia) (by lia) h3 (by lia)
 have e2:=kZ (t:=c9 s.t s.names.length) (m:=6) (by decide) (by decide) (by simp;lia) (by simp;lia)
 have e3:=IV p1.1 p1.2
 have e4:(bZ s.t s.names.length).toNat < s.names.length:=by lia
 have e5:-9223372036854775808<=bZ s.t s.names.length:=by lia
 have e6:bZ s.t s.names.length < 9223372036854775808:=by lia
 have e7:s.tab.length+1<=100000:=by lia
 refine⟨.int k,.str s.names[(bZ s.t s.names.length).toNat],.int (zS 5 (s.left - 4+k) (bZ (c9 s.t s.names.length) 6)),?_⟩
 obtain⟨b1,b2,b3⟩:fB x=false/\fB y=false/\fB z=false:=by
  rcases hx with⟨rfl,rfl,rfl⟩ | ⟨a,b,c,rfl,rfl,rfl⟩ <;> exact⟨rfl,rfl,rfl⟩
 simp[-eZ,dh,b1,b2,b3,fC,k7,rX,e1,e2,pA,e3,e4,e5,e6,e7,cT,zS,rD]
def yM {s:Fq}(hn:0 < s.names.length):(cT s k).names.length+1=s.names.length:=by
 have p1:=cu (t:=s.t) (m:=s.names.length) (by lia)
 have:(bZ s.t s.names.length).toNat < s.names.length:=by lia
 show(s.names.eraseIdx _).length+1=_
 rw[List.length_eraseIdx,if_pos this]
 lia
@[simp] theorem Ue (s:Fq) (k:Int):(cT s k).t.n=s.t.n+2:=by
 show(c9 (c9 s.t _) 6).n=_
 simp;lia
@[simp] theorem Mm (s:Fq) (k:Int):(cT s k).tab.length=s.tab.length+1:=by
 show(s.tab++[_]).length=_
 simp
theorem DB:∀(ks:List Int) (s:Fq) (x y z:Option U),ks.length<=s.names.length->s.names.length<=8->s.tab.length+ks.length<=100->0<=s.t.n->s.t.n+2 * ks.length < 900000->((x=none/\y=none/\z=none)\/∃a b c,x=AAA a/\y=AAA b/\z=AAA c)->
  ∃x' y' z',loop (bName 4) (fC kg cG) (ks.map D.int) (k7 s x y z)=some (.nx (k7 (ks.foldl cT s) x' y' z'))
 | [],s,x,y,z,_,_,_,_,_,_=>⟨x,y,z,rfl⟩
 | k :: ks,s,x,y,z,h1,h2,h3,h4,h5,hx=>by
  have l1:ks.length+1<=s.names.length:=h1
  have l3:s.tab.length+(ks.length+1)<=100:=h3
  have l5:s.t.n+2 * ((ks.length+1:Nat):Int) < 900000:=h5
  have hn:0 < s.names.length:=by lia
  obtain⟨a,b,c,e⟩:=Ml (k:=k) hn h2 (by lia) h4 (by lia) hx
  have n1:=yM (s:=s) (k:=k) hn
  obtain⟨x',y',z',ih⟩:=DB ks (cT s k) (AAA a) (AAA b) (AAA c) (by lia) (by lia) (by simp;lia) (by simp;lia) (by simp;lia) (.inr ⟨a,b,c,rfl,rfl,rfl⟩)
  refine⟨x',y',z',?_⟩
  show(bName 4 (.int k) (k7 s x y z)).bind (fun S1=>(fC kg cG S1).bind fun o=>match o with
   | .nx S2=>loop (bName 4) (fC kg cG) (ks.map D.int) S2
   | .ct S2=>loop (bName 4) (fC kg cG) (ks.map D.int) S2
   | .bk S2=>some (.nx S2)
   | .rt u S2=>some (.rt u S2))=_
  rw[<-Option.bind_assoc,e]
  exact ih
def tabI (t:dJ):Int:=([1,2,2,3,4]:List Int).getD (bZ t 5).toNat 1
def pN (t:dJ):Nat:=(tabI t).toNat
noncomputable def upTo (n:Nat):List Int:=(List.range n).map fun(k:Nat)=>(k:Int)
def gU (t:dJ):Fq:=(upTo (pN t)).foldl cT ⟨fM,[],12,c9 t 5⟩
def nL:FM
 | [.b (.dct kvs)]=>(uW kvs).bind fun t=>if 0<=t.n/\t.n < 800000 then some (.t (rX (gU t).tab),[.dct (cK (gU t).t)]) else none
 | _=>none
def DC (n:Nat):oU 0 n=(upTo n).map D.int:=by
 unfold oU upTo
 simp
def Hf (t:dJ):1<=tabI t/\tabI t<=4:=by
 unfold tabI
 have p:=cu (t:=t) (m:=5) (by decide)
 generalize (bZ t 5).toNat=i
 match i with
 | 0=>decide
 | 1=>decide
 | 2=>decide
 | 3=>decide
 | 4=>decide
 | _+5=>simp
def B5 (t:dJ):1<=pN t/\pN t<=4:=by
 have:=Hf t
 unfold pN
 lia
def Mn {t:dJ}:gz [D.int 1,D.int 2,D.int 2,D.int 3,D.int 4] (bZ t 5)=some (.int (tabI t)):=by
 have p:=cu (t:=t) (m:=5) (by decide)
 unfold tabI
 generalize bZ t 5=i at p
 obtain⟨h0,h1⟩:=p
 have:i=0\/i=1\/i=2\/i=3\/i=4:=by lia
 rcases this with rfl | rfl | rfl | rfl | rfl <;> rfl
def IW:∀us r,nL us=some r->aK 7 (nK kg cG) us=some r:=by
 intro us r h
 unfold nL at h
 split at h
 ·rename_i kvs
  obtain⟨t,h1,h⟩:=ak h
  obtain⟨⟨h2,h3⟩,rfl⟩:=bV h
  obtain rfl:=pL h1
  have e1:=kZ (t:=t) (m:=5) (by decide) (by decide) h2 (by lia)
  have b:=B5 t
  obtain⟨x,y,z,e2⟩:=DB (upTo (pN t)) ⟨fM,[],12,c9 t 5⟩ none none none (by simp[upTo,fM];lia) (by simp[fM]) (by simp[upTo];lia) (by simp;lia) (by simp[upTo];lia) (.inl ⟨rfl,rfl,rfl⟩)
  have bI:=Hf t
  have e3:tabI t < 1000000:=by lia
  have e4:-1000000 < tabI t:=by lia
  rw[<-DC] at e2
  simp only[k7] at e2
  have e0:kg []=some (.m (.lst (fM.map D.str)),[]):=rfl
  have e5:rX []= .tup []:=rfl
  rw[e5] at e2
  unfold pN at e2
  simp[aK,nK,e0,e1,Mn,e3,e4,e2,gU,pN]
 ·cases h
noncomputable def Ug:D->Option (Str×Int)
 | .tup [.str z,.int i]=>some (z,i)
 | _=>none
def DE:List D->Option (List (Str×Int))
 | []=>some []
 | d :: ds=>(Ug d).bind fun p=>(DE ds).map fun ps=>p :: ps
def tabOf:D->Option (List (Str×Int))
 | .tup ds=>DE ds
 | _=>none
@[simp] theorem IX (T:AAJ):DE (T.map fun p=>.tup [.str p.1,.int p.2])=some T:=by
 induction T with
 | nil=>rfl
 | cons p T ih=>simp[DE,Ug,ih]
@[simp] theorem ZC (T:AAJ):tabOf (rX T)=some T:=IX T
theorem yN:∀{ds:List D}{T:AAJ},DE ds=some T->ds=T.map fun p=>.tup [.str p.1,.int p.2]
 | [],T,h=>by cases h;rfl
 | d :: ds,T,h=>by
  obtain⟨p,h1,h⟩:=ak h
  obtain⟨ps,h2,h⟩:=aF h
  subst h
  unfold Ug at h1
  split at h1
  ·cases h1
   rw[yN h2]
   rfl
  ·cases h1
def Ft {d:D}(h:tabOf d=some T):d=rX T:=by
 unfold tabOf at h
 split at h
 ·rw[yN h];rfl
 ·cases h
def gW (au:FM):GS:=
 (aQ (Lp (oH 2 (eG (bName 5) (eG (bName 6) o9))) (cD 1 (eF (aO au (cg (aj 0) (aH (jd 1) aT))))))
 (bX 3 (eP cH (aa (eF (aj 3)) (aa (eF (eP bw (aa (eF (eP bw (aa (eF (aj 5)) (aa (eF (aO au (cg (aj 0) (aH (eF (eP cH (aa (eF (aj 6)) (aa (eC (.int 1)) aq)))) aT)))) aq)))) aq))) aq)))))
def rY (au:FM):GS:=
 (aQ (bX 3 (eP bw aq))
 (aQ (rR (bName 4) (jx (aa (eF (aO au (cg (aj 0) (aH (eF (eP cH (aa (eF (aj 2)) (aa (eC (.int 1)) aq)))) aT)))) aq)) (gW au))
 (bT (aj 3))))
def dW (T:AAJ) (s:List (Str×Int)×dJ) (_:Int):List (Str×Int)×dJ:=
 let p:=T.getD (bZ s.2 T.length).toNat ("",0)
 let t1:=c9 s.2 T.length
 (s.1++[(p.1,bZ t1 (p.2+1))],c9 t1 (p.2+1))
def k9 (T:AAJ) (most:D) (s:List (Str×Int)×dJ) (x y z:Option U):SS:=[some (.b (.dct (cK s.2))),AAA (rX T),AAA most,AAA (rX s.1),x,y,z]
structure tX (T:AAJ):Prop where
 pos:0 < T.length
 len:T.length<=10
 mst:∀p∈T,0<=p.2/\p.2<=10
def Mp {most:D}{s:List (Str×Int)×dJ}{x y z:Option U}(ok:tX T) (hr:s.1.length<=1000) (h3:0<=s.2.n) (h4:s.2.n < 900000) (hx:(x=none/\y=none/\z=none)\/∃a b c,x=AAA a/\y=AAA b/\z=AAA c):
  ∃a b c,(bName 4 (.int k) (k9 T most s x y z)).bind (gW cG)=some (.nx (k9 T most (dW T s k) (AAA a) (AAA b) (AAA c))):=by
 have p0:=ok.pos
 have p00:=ok.len
 have p1:=cu (t:=s.2) (m:=T.length) (by lia)
 have e1:=kZ (t:=s.2) (m:=T.length) (by lia) (by lia) h3 (by lia)
 have e4:(bZ s.2 T.length).toNat < T.length:=by lia
 have e5:T.getD (bZ s.2 T.length).toNat ("",0)=T[(bZ s.2 T.length).toNat]:=by simp[List.getD,e4]
 have hm:=ok.mst _ (aez e4)
 have e2:=kZ (t:=c9 s.2 T.length) (m:=T[(bZ s.2 T.length).toNat].2+1) (by lia) (by lia) (by simp;lia) (by simp;lia)
 have e3:gz (T.map fun p=>D.tup [.str p.1,.int p.2]) (bZ s.2 T.length)=some (.tup [.str T[(bZ s.2 T.length).toNat].1,.int T[(bZ s.2 T.length).toNat].2]):=GX _ (by rw[Mj p1.1 p1.2])
 have e7:s.1.length+1<=100000:=by lia
 refine⟨.int k,.str T[(bZ s.2 T.length).toNat].1,.int T[(bZ s.2 T.length).toNat].2,?_⟩
 obtain⟨b1,b2,b3⟩:fB x=false/\fB y=false/\fB z=false:=by
  rcases hx with⟨rfl,rfl,rfl⟩ | ⟨a,b,c,rfl,rfl,rfl⟩ <;> exact⟨rfl,rfl,rfl⟩
 simp[-eZ,dh,b1,b2,b3,gW,k9,rX,e1,e2,e3,e7,dW,e4,oH,eG,o9]
@[simp] theorem DF (T:AAJ) (s:List (Str×Int)×dJ) (k:Int):(dW T s k).1.length=s.1.length+1:=by simp[dW]
@[simp] theorem IY (T:AAJ) (s:List (Str×Int)×dJ) (k:Int):(dW T s k).2.n=s.2.n+2:=by simp[dW];lia
theorem DG {T:AAJ}{most:D}(ok:tX T):∀(ks:List Int) (s:List (Str×Int)×dJ) (x y z:Option U),s.1.length+ks.length<=1000->0<=s.2.n->s.2.n+2 * ks.length < 900000->((x=none/\y=none/\z=none)\/∃a b c,x=AAA a/\y=AAA b/\z=AAA c)->
  ∃x' y' z',loop (bName 4) (gW cG) (ks.map D.int) (k9 T most s x y z)=some (.nx (k9 T most (ks.foldl (dW T) s) x' y' z'))
 | [],s,x,y,z,_,_,_,_=>⟨x,y,z,rfl⟩
 | k :: ks,s,x,y,z,h3,h4,h5,hx=>by
  have l3:s.1.length+(ks.length+1)<=1000:=h3
  have l5:s.2.n+2 * ((ks.length+1:Nat):Int) < 900000:=h5
  obtain⟨a,b,c,e⟩:=Mp (k:=k) (most:=most) ok (by lia) h4 (by lia) hx
  obtain⟨x',y',z',ih⟩:=DG ok ks (dW T s k) (AAA a) (AAA b) (AAA c) (by simp;lia) (by simp;lia) (by simp;lia) (.inr ⟨a,b,c,rfl,rfl,rfl⟩)
  refine⟨x',y',z',?_⟩
  show(bName 4 (.int k) (k9 T most s x y z)).bind (fun S1=>(gW cG S1).bind fun o=>match o with
   | .nx S2=>loop (bName 4) (gW cG) (ks.map D.int) S2
   | .ct S2=>loop (bName 4) (gW cG) (ks.map D.int) S2
   | .bk S2=>some (.nx S2)
   | .rt u S2=>some (.rt u S2))=_
  rw[<-Option.bind_assoc,e]
  exact ih
def uX (t:dJ) (T:AAJ) (most:Int):List (Str×Int)×dJ:=(upTo (bZ t (most+1)).toNat).foldl (dW T) ([],c9 t (most+1))
noncomputable def Fv (T:AAJ):Bool:=decide (0 < T.length) && (decide (T.length<=10) && T.all fun p=>decide (0<=p.2) && decide (p.2<=10))
def yO :Fv T=true↔tX T:=by
 unfold Fv
 simp only[aa7,acU,aa9]
 exact⟨fun⟨a,b,c⟩=>⟨a,b,c⟩,fun⟨a,b,c⟩=>⟨a,b,c⟩⟩
def B6:FM
 | [.b (.dct kvs),.t td,.t (.int most)]=>(uW kvs).bind fun t=>(tabOf td).bind fun T=>if Fv T=true/\0<=most/\most<=100/\0<=t.n/\t.n < 700000 then some (.t (rX (uX t T most).1),[.dct (cK (uX t T most).2)]) else none
 | _=>none
def PJ:∀us r,B6 us=some r->aK 7 (rY cG) us=some r:=by
 intro us r h
 unfold B6 at h
 split at h
 ·rename_i kvs td most
  obtain⟨t,h1,h⟩:=ak h
  obtain⟨T,h0,h⟩:=ak h
  obtain⟨⟨hT,h2,h3,h4,h5⟩,rfl⟩:=bV h
  obtain rfl:=pL h1
  obtain rfl:=Ft h0
  have ok:=yO.mp hT
  have e1:=kZ (t:=t) (m:=most+1) (by lia) (by lia) h4 (by lia)
  have p:=cu (t:=t) (m:=most+1) (by lia)
  obtain⟨x,y,z,e2⟩:=DG (T:=T) (most:=.int most) ok (upTo (bZ t (most+1)).toNat) ([],c9 t (most+1)) none none none (by simp[upTo];lia) (by simp;lia) (by simp[upTo];lia) (.inl ⟨rfl,rfl,rfl⟩)
  have e3:bZ t (most+1) < 1000000:=by lia
  have e4:-1000000 < bZ t (most+1):=by lia
  rw[<-DC] at e2
  simp only[k9] at e2
  have e5:rX []= .tup []:=rfl
  rw[e5] at e2
  simp[aK,rY,e1,e3,e4,e2,uX]
 ·cases h
@[simp] theorem Yc (g:GD) (lo hi:Option GD) (S:SS):yx g lo hi S=(g S).bind fun p=>(iw lo p.2).bind fun l=>(iw hi l.2).bind fun h=>(Pa p.1 l.1 h.1).map fun u=>(u,h.2):=rfl
@[simp] theorem abV (S:SS):iw none S=some (none,S):=rfl
@[simp] theorem abW (g:GD) (S:SS):iw (some g) S=(g S).bind fun p=>match p.1 with | .int i=>some (some i,p.2) | _=>none:=rfl
@[simp] theorem PK (ds:List D) (lo hi:Option Int):Pa (.tup ds) lo hi=AAA (.tup (cutD ds lo hi)):=rfl
@[simp] theorem PL (ds:List D) (lo hi:Option Int):Pa (.lst ds) lo hi=AAB (cutD ds lo hi):=rfl
@[simp] theorem ZD (z:Str) (lo hi:Option Int):Pa (.str z) lo hi=if z.length<=100000 then AAA (.str (Txt.slice z lo hi)) else none:=rfl
theorem Mq:∀(ts:List D) (S:SS),S.length=ts.length->aL (ts.map U.t) S=some []
 | [],S,_=>by cases S <;> rfl
 | d :: ts,[],h=>by cases h
 | d :: ts,x :: S,h=>by
  show aL (U.t d :: ts.map U.t) (x :: S)=_
  rw[G9]
  exact Mq ts S (by simpa using h)
theorem Hg (S:SS):∀ts:List D,bz S (ts.map U.t)=some (ts.map U.t)
 | []=>rfl
 | d :: ts=>by
  show(some (U.t d)).bind _=_
  rw[Hg S ts]
  rfl
theorem PM:∀ts:List D,slotsOf (ts.map U.t)=[]
 | []=>rfl
 | d :: ts=>PM ts
theorem PN:∀ts:List D,bJ (ts.map U.t)=0
 | []=>rfl
 | d :: ts=>PN ts
theorem Mr (S:SS):∀ts:List D,wb (ts.map U.t) [] S=some S
 | []=>rfl
 | d :: ts=>Mr S ts
theorem B7 {cap:List Nat}{q:GT}{g:GD}{S:SS}{ts:List D}(hc:dg S cap=some (ts.map U.t)) (p:D->Bool) (f:D->D):∀(ds acc:List D),
  (∀d∈ds,q (AAA d :: ts.map fun x=>AAA x)=some (p d,AAA d :: ts.map fun x=>AAA x))->(∀d∈ds,p d=true->g (AAA d :: ts.map fun x=>AAA x)=some (f d,AAA d :: ts.map fun x=>AAA x))->
  dj cap q g ds S acc=some (acc++(ds.filter p).map f,S)
 | [],acc,_,_=>by simp[dj]
 | d :: ds,acc,hq,hg=>by
  have em:(ts.map U.t).map some=ts.map fun x=>some (U.t x):=by simp
  have eo:aL (.t d :: ts.map U.t) (AAA d :: ts.map fun x=>AAA x)=some []:=by rw[G9];exact Mq ts _ (by simp)
  have q0:=hq d (aaR)
  unfold dj
  rw[hc]
  simp only[aau]
  rw[if_pos ⟨by rw[PM];exact adK,by rw[PN];exact acJ _⟩,Hg]
  simp only[aau]
  rw[em,q0]
  simp only[aau]
  by_cases hp:p d=true
  ·rw[if_pos hp,hg d aaR hp]
   simp only[aau]
   rw[eo]
   simp only[aau]
   rw[Mr]
   simp only[aau]
   rw[B7 hc p f ds (acc++[f d]) (fun e he=>hq e (aaP _ he)) (fun e he=>hg e (aaP _ he)),acF hp]
   simp
  ·rw[if_neg hp,eo]
   simp only[aau]
   rw[Mr]
   simp only[aau]
   rw[B7 hc p f ds acc (fun e he=>hq e (aaP _ he)) (fun e he=>hg e (aaP _ he)),aaT hp]
def A3 {cap:List Nat}{g:GD}{S:SS}{ts:List D}(hc:dg S cap=some (ts.map U.t)) (f:D->D) (ds acc:List D) (hg:∀d∈ds,g (AAA d :: ts.map fun x=>AAA x)=some (f d,AAA d :: ts.map fun x=>AAA x)):
  dj cap cF g ds S acc=some (acc++ds.map f,S):=by
 rw[B7 hc (fun a=>true) f ds acc (fun a a=>rfl) (fun d hd a=>hg d hd),List.filter_eq_self.mpr (fun a a=>rfl)]
@[simp] theorem PR (cap:List Nat) (gi:GI) (q:GT) (g:GD) (S:SS):jy cap gi q g S=(gi S).bind fun p=>if p.1.length<=100000 then(dj cap q g p.1 p.2 []).map fun r=>(.m (.lst r.1),r.2) else none:=rfl
def je (g:GD) (S:SS):zO g S=(g S).bind fun p=>match p.1 with | .tup ds=>some (ds,p.2) | .lst ds=>some (ds,p.2) | .str z=>some (z.cps.toList.map fun c=>.str ⟨#[c]⟩,p.2) | _=>none:=rfl
theorem A4 {α:Type}(f:α->Bool):∀ds:List α,jE (ds.map fun d=>.bl (f d))=some (ds.map f)
 | []=>rfl
 | d :: ds=>by simp[jE,A4 f ds]
noncomputable def lM (p:Str×Int):D:=.tup [.str p.1,.int p.2]
def uY {x:D}{z:Str}(h:nI (.str z) x=true):x= .str z:=by
 cases x <;> simp[nI] at h
 rw[h]
structure Ms (z:Str):Prop where
 len:z.length<=8
 chs:∀c∈z.cps.toList,c < 16 ^ 8
def Mt:∀z∈fM,Ms z:=by
 intro z hz
 have:z∈(["a","ab","abc","b","any","name","x","zzzzzzzz"]:List Str):=hz
 simp only[aaA,abb,ac7] at this
 rcases this with rfl | rfl | rfl | rfl | rfl | rfl | rfl | rfl <;> exact⟨by decide,by decide⟩
structure rZ (p:Str×Int):Prop where
 nm:Ms p.1
 lo:0<=p.2
 hi:p.2<=10
structure wg (k:Int) (s:Fq):Prop where
 nd:(s.tab.map (·.1)++s.names).Nodup
 sub:∀z∈s.names,z∈fM
 ok:∀p∈s.tab,rZ p/\p.2<=5
 left:4 - k<=s.left
def getD_mem {α:Type}{l:List α}{i:Nat}{x:α}(h:i < l.length):l.getD i x∈l:=by simp[List.getD,h]
theorem yP {α:Type}:∀(l:List α) (i:Nat) (h:i < l.length),(l[i] :: l.eraseIdx i).Perm l
 | a :: l,0,_=>List.Perm.refl _
 | a :: l,i+1,h=>(List.Perm.swap _ _ _).trans (List.Perm.cons a (yP l i (by simpa using h)))
def DH :∀{as l:List α}{i:Nat}{x:α},(as++l).Nodup->i < l.length->((as++[l.getD i x])++l.eraseIdx i).Nodup:=fun {as l i x} nd hi=>by
 have e:l.getD i x=l[i]:=by simp[List.getD,hi]
 rw[e]
 have p:(as++[l[i]]++l.eraseIdx i).Perm (as++l):=by
  rw[adY]
  refine List.Perm.append_left as ?_
  show(l[i] :: l.eraseIdx i).Perm l
  exact yP l i hi
 exact p.nodup_iff.mpr nd
def PU {s:Fq}(h:wg k s) (hk:k<=4) (hn:0 < s.names.length):wg (k+1) (cT s k):=by
 have p1:=cu (t:=s.t) (m:=s.names.length) (by lia)
 have hi:(bZ s.t s.names.length).toNat < s.names.length:=by lia
 have p2:=cu (t:=c9 s.t s.names.length) (m:=6) (by decide)
 have hl:=h.left
 have hm:0<=zS 5 (s.left - 4+k) (bZ (c9 s.t s.names.length) 6)/\zS 5 (s.left - 4+k) (bZ (c9 s.t s.names.length) 6)<=5/\zS 5 (s.left - 4+k) (bZ (c9 s.t s.names.length) 6)<=s.left - 4+k:=by
  unfold zS
  split <;> split <;> lia
 refine⟨?_,fun z hz=>?_,fun p hp=>?_,?_⟩
 ·show((s.tab++[((s.names.getD (bZ s.t s.names.length).toNat "",zS 5 (s.left - 4+k) (bZ (c9 s.t s.names.length) 6)):Str×Int)]).map (fun(p:Str×Int)=>p.1)++s.names.eraseIdx (bZ s.t s.names.length).toNat).Nodup
  rw[acH]
  exact DH h.nd hi
 ·exact h.sub z (List.mem_of_mem_eraseIdx hz)
 ·rcases aaX.mp hp with hp | hp
  ·exact h.ok p hp
  ·have hp:=aax.mp hp
   subst hp
   exact⟨⟨Mt _ (h.sub _ (getD_mem hi)),hm.1,by show zS _ _ _<=10;lia⟩,hm.2.1⟩
 ·show 4 - (k+1)<=s.left - zS 5 (s.left - 4+k) (bZ (c9 s.t s.names.length) 6) - 1
  lia
theorem xy:∀(n:Nat) (s:Fq),n<=4->wg 0 s->n<=s.names.length->wg n ((upTo n).foldl cT s)/\((upTo n).foldl cT s).tab.length=s.tab.length+n/\((upTo n).foldl cT s).names.length+n=s.names.length/\((upTo n).foldl cT s).t.n=s.t.n+2 * n
 | 0,s,_,h,_=>⟨h,rfl,rfl,by simp[upTo]⟩
 | n+1,s,hn,h,hl=>by
  obtain⟨i1,i2,i3,i4⟩:=xy n s (by lia) h (by lia)
  have e:(upTo (n+1)).foldl cT s=cT ((upTo n).foldl cT s) n:=by
   unfold upTo
   rw[aeM,acH,List.foldl_append]
   rfl
  rw[e]
  have st:=PU i1 (by lia) (by lia)
  refine⟨?_,?_,?_,?_⟩
  ·have e2:((n+1:Nat):Int)=(n:Int)+1:=by lia
   rw[e2];exact st
  ·rw[Mm];lia
  ·have:=yM (s:=(upTo n).foldl cT s) (k:=n) (by lia);lia
  ·rw[Ue];lia
def DI (t:dJ):((gU t).tab.map (·.1)).Nodup/\tX (gU t).tab/\(∀p∈(gU t).tab,rZ p)/\(gU t).tab.length<=4/\t.n+1<=(gU t).t.n/\(gU t).t.n<=t.n+9:=by
 have b:=B5 t
 have h0:wg 0 ⟨fM,[],12,c9 t 5⟩:=⟨by show([]++fM).Nodup;decide,fun z hz=>hz,(fun p hp=>by cases hp),by show(4:Int) - 0<=12;decide⟩
 obtain⟨i1,i2,i3,i4⟩:=xy (pN t) ⟨fM,[],12,c9 t 5⟩ b.2 h0 (by show pN t<=8;lia)
 have e:(upTo (pN t)).foldl cT ⟨fM,[],12,c9 t 5⟩=gU t:=rfl
 rw[e] at i1 i2 i3 i4
 have i2:(gU t).tab.length=0+pN t:=i2
 have i4:(gU t).t.n=(c9 t 5).n+2 * (pN t:Int):=i4
 rw[B4] at i4
 refine⟨(List.nodup_append.mp i1.nd).1,⟨by lia,by lia,fun p hp=>⟨(i1.ok p hp).1.lo,(i1.ok p hp).1.hi⟩⟩,fun p hp=>(i1.ok p hp).1,by lia,by lia,by lia⟩
theorem DJ {T:AAJ}(ok:tX T) (hp:∀p∈T,rZ p):∀(ks:List Int) (s:List (Str×Int)×dJ),(∀p∈s.1,rZ p)->(∀p∈(ks.foldl (dW T) s).1,rZ p)/\(ks.foldl (dW T) s).1.length=s.1.length+ks.length/\(ks.foldl (dW T) s).2.n=s.2.n+2 * ks.length
 | [],s,h=>⟨h,rfl,by simp⟩
 | k :: ks,s,h=>by
  have p0:=ok.pos
  have p1:=cu (t:=s.2) (m:=T.length) (by lia)
  have hi:(bZ s.2 T.length).toNat < T.length:=by lia
  have hq:=hp _ (getD_mem (x:=(("":Str),(0:Int))) hi)
  obtain⟨i1,i2,i3⟩:=DJ ok hp ks (dW T s k) (fun p hp'=>by
   rcases aaX.mp (show p∈s.1++[_] from hp') with h1 | h1
   ·exact h p h1
   ·have h1:=aax.mp h1
    subst h1
    have a:=hq.lo
    have b:=hq.hi
    have r:=cu (t:=c9 s.2 T.length) (m:=(T.getD (bZ s.2 T.length).toNat ("",0)).2+1) (by lia)
    exact⟨hq.nm,r.1,by show bZ _ _<=10;lia⟩)
  refine⟨i1,?_,?_⟩
  ·show((ks.foldl (dW T) (dW T s k)).1).length=s.1.length+(ks.length+1)
   rw[i2,DF];lia
  ·show((ks.foldl (dW T) (dW T s k)).2).n=s.2.n+2 * ((ks.length+1:Nat):Int)
   rw[i3,IY];lia
def IZ (ok:tX T) (hp:∀p∈T,rZ p) (t:dJ){most:Int}(h0:0<=most):(∀p∈(uX t T most).1,rZ p)/\((uX t T most).1.length:Int)<=most/\t.n+1<=(uX t T most).2.n/\(uX t T most).2.n<=t.n+1+2 * most:=by
 obtain⟨i1,i2,i3⟩:=DJ ok hp (upTo (bZ t (most+1)).toNat) ([],c9 t (most+1)) (fun p hp=>by cases hp)
 have r:=cu (t:=t) (m:=most+1) (by lia)
 have e:(upTo (bZ t (most+1)).toNat).length=(bZ t (most+1)).toNat:=by simp[upTo]
 rw[e] at i2 i3
 have i2:(uX t T most).1.length=0+(bZ t (most+1)).toNat:=i2
 have i3:(uX t T most).2.n=(c9 t (most+1)).n+2 * ((bZ t (most+1)).toNat:Int):=i3
 rw[B4] at i3
 exact⟨i1,by lia,by lia,by lia⟩
noncomputable def DK (n:Nat):FM
 | [.s ns]=>if ns.length<=n then some (.t (.bl true),[]) else none
 | _=>none
def Mu {P:Program}{w:World}{mg:AAF}{base:Heap}{f:Addr}{fd:FuncData}{k:Nat}{ps:List Str}{fm:FM}(h:∀us,fm us=none):jW P w K mg base BE n f fd ps (spT K k fm):=by
 have no:∀vs H Q E,¬spT K k fm vs H Q E:=fun vs H Q E ⟨_,F,us,r,outs,_,_,_,e,_⟩=>by rw[h us] at e;cases e
 exact⟨fun vs H Q E h=>absurd h (no vs H Q E),fun A outer s H args us vs Q E a a a a h=>absurd h (no vs H Q E)⟩
def Uh {H:Hp}{a:Addr}{ns:List Int}{E:XK}(hl:ns.length<=n) (hO:OP H) (hS:oO K H a (ns.map V.int)):spT K 1 (DK n) [.ref a] H (fun v c=>v= .bl true) E:=by
 have sc:OY K H a ns:=by
  rcases hS with(h | h) | h
  ·rcases hO a with z | ⟨o,xs,z⟩
   ·rw[h] at z;cases z
   ·rw[h] at z;cases z
  ·exact .inl h
  ·exact .inr h
 exact⟨rfl,fun c=>none,[.s ns],.t (.bl true),[],(fun b o z=>by cases z),.cons ⟨a,rfl,sc⟩ .nil,adK,by simp[DK,hl],fun v F' H' c r=>nC r⟩
end Sw
end
section
namespace L2
open PySem PySem.Spec PyProof.Rows
variable {od an:Option Addr}{osl:Array (Option Value)}{doc cdv:Value}{N ps:List Str}{pl:Sem Bool}
section
variable {X:Cx}{e elt iter:Expr}{ifs:List Expr}{b:Expr}{es:List Expr}{g:GE}{gd gb:GD}{gi:GI}{q:GT}{gu:GU}{x y y0:Str}{p pos pos' px py PD pt spos:Pos}{k0 k j:Nat}{scope:Scope}{cl:List (Str×Addr)}{bQ:List Str}{cap:List Nat}
def zs (hN:X.N.Nodup) (i:Nat) (he:JE X e g) (hi:X.N[i]? =some x:=by rfl) (hx:Loc X.env.scope x:=by first | exact Or.inl rfl | exact Or.inr rfl) (hs:swapsWith e (some (.Name x pos')) pos.line X.env=pure false:=by rfl)
  (hf:X.fn x=true\/X.env.scope.names.lookup x=some .local:=by first | exact .inl rfl | exact .inr rfl):JS X (.Assign [.Name x pos'] e pos) (bX i g):=Tn hN hi hx he hs hf
def zg (hN:X.N.Nodup) (i:Nat) (hi:X.N[i]? =some x:=by rfl) (hx:Loc X.env.scope x:=by first | exact Or.inl rfl | exact Or.inr rfl) (hf:X.fn x=true\/X.env.scope.names.lookup x=some .local:=by first | exact .inl rfl | exact .inr rfl):JG X (.Name x pos) (bName i):=O3 hN hi hx hf
def zc (hN:X.N.Nodup) (i:Nat) (T:fV X x bQ cap scope cl) (hi:JI X (.Name x px) iter gi) (ht:∀C s H fp,VT (cM X (x :: bQ) scope cl C s H fp) ifs q) (he:∀C s H fp,JD (cM X (x :: bQ) scope cl C s H fp) elt gd)
  (hy:X.N[i]? =some y:=by rfl) (hx:Loc X.env.scope y:=by first | exact Or.inl rfl | exact Or.inr rfl) (hc:X.calm=true:=by rfl)
  (hsw:swapsWith (.ListComp elt [⟨.Name x px,iter,ifs,0⟩] scope pos) (some (.Name y py)) spos.line X.env=pure true:=by rfl) (hf:X.fn y=true\/X.env.scope.names.lookup y=some .local:=by first | exact .inl rfl | exact .inr rfl)
  (hs:∀x,foldedSetIterable iter X.env x=pure x:=by intro _;rfl):JS X (.Assign [.Name y py] (.ListComp elt [⟨.Name x px,iter,ifs,0⟩] scope pos) spos) (bX i (jy cap gi q gd)):=LB hN hy hx T hc hi ht he hsw hf hs
def ys (hr:fQ k X.A) (i:Nat) (hb:JD X b gb) (hs:xu b:=by first | (intro _ _;rfl)) (hN:X.N[i]? =some x:=by rfl) (hv:An X.env.scope x:=by first | exact Or.inl rfl | exact Or.inr (Or.inl rfl) | exact Or.inr (Or.inr rfl))
  (hd:(x == ("__debug__":Str))=false:=by decide) (hcd:(x == ("__classdict__":Str))=false:=by decide):JD X (.Subscript (.Name x px) b pos) (cD i gb):=Tt (AA hr) hb hs hN hv hd hcd
def jv (i:Nat) (hN:X.N[i]? =some x:=by rfl) (hv:An X.env.scope x:=by first | exact Or.inl rfl | exact Or.inr (Or.inl rfl) | exact Or.inr (Or.inr rfl)) (hd:(x == ("__debug__":Str))=false:=by decide)
  (hcd:(x == ("__classdict__":Str))=false:=by decide):JD X (.Name x pos) (eF (aj i)):=(bu i hN hv hd hcd).d
def cp (h1:∀y∈scope.names,y.2≠.free:=by decide) (h2:∀y∈scope.names,y.2≠.cell:=by decide) (h3:scope.kind= .function:=by rfl) (h4:∀y∈scope.names,y.2= .local->scope.names.lookup y.1=some .local:=by decide) (h5:scope.names.lookup x=some .local:=by rfl):
  fV X x [] [] scope []:=EO h1 h2 h3 h4 h5
def cc {c:Addr}(i:Nat) (clos:closureFor scope X.env=pure [(y,c)]:=by rfl) (kM:∀z∈scope.names,z.2≠.cell:=by decide) (kind:scope.kind= .function:=by rfl) (names:∀z∈scope.names,z.2= .local->scope.names.lookup z.1=some .local:=by decide)
  (loc:scope.names.lookup x=some .local:=by rfl) (hc:X.env.cells.lookup y=some c:=by rfl) (only:∀z∈scope.names,z.2= .free->z.1=y:=by decide) (ne:x≠y:=by decide) (hN:X.N[i]? =some y:=by rfl) (vis:X.env.scope.names.lookup y=some .cell:=by rfl) (rel:(relabel scope X.env).names.lookup y=some .cell:=by rfl):
  fV X x [y] [i] scope [(y,c)]:=LH clos kM kind names loc hc only ne hN vis rel
def cs (bQ:List Str) (cap:List Nat) (clos:closureFor scope X.env=pure cl:=by rfl) (kM:∀z∈scope.names,z.2≠.cell:=by decide) (kind:scope.kind= .function:=by rfl) (names:∀z∈scope.names,z.2= .local->scope.names.lookup z.1=some .local:=by decide)
  (loc:scope.names.lookup x=some .local:=by rfl) (hc:cl.map (fun p=>X.env.cells.lookup p.1)=cl.map (fun p=>some p.2):=by rfl) (only:∀z∈scope.names,z.2= .free->z.1∈bQ:=by decide) (hcl:cl.map (·.1)=bQ.reverse\/cl.map (·.1)=bQ:=by first | exact Or.inl rfl | exact Or.inr rfl) (nd:(x :: bQ).Nodup:=by decide)
  (slot:cap.map (fun i=>X.N[i]?)=bQ.map some:=by rfl) (vis:bQ.map (fun n=>X.env.scope.names.lookup n)=bQ.map fun a=>some .cell:=by rfl) (rel:bQ.map (fun n=>(relabel scope X.env).names.lookup n)=bQ.map fun a=>some .cell:=by rfl):
  fV X x bQ cap scope cl:=E7 clos kM kind names loc hc only hcl nd slot vis rel
end
section
variable {P:Program}{w:World}{K:AAD}{mg:AAF}{base:Heap}{h:Heap}
structure Df (K:AAD) (mg:AAF) (x:Str) (st:Stmt):Prop where
 ex:∃f fd,OR K x x st f fd/\mg x=some (.ref f)
def RG {x:Str}{st:Stmt}{f:Addr}{oc:Value}{kV pm ct:Value}(X:K.In h) (G:h.Ns mainGlobals mg) (a:PySem.W.nsIn K mainGlobals x=some (some (.ref f)))
  (l:K.lookup f=some ⟨oc,od,.func (PySem.W.fnOf x x (lQ st) (iO st) (aP st) .none kV doc pm an cdv ct),osl⟩) (c:PySem.W.codeIn K cdv x=true) (k:PySem.W.keepIn K (.ref f)=true):Df K mg x st:=
 ⟨_,_,K5 l c k,acT X G a⟩
structure fj (P:Program) (w:World) (K:AAD) (mg:AAF) (base:Heap) (n:Nat) (x:Str) (ps:List Str) (fm:FM):Prop where
 ex:∃a d,jW P w K mg base BE n a d ps (spT K ps.length fm)/\Binds K d ps []/\PySem.W.keepIn K (.ref a)=true/\mg x=some (.ref a)
def fj.mono {j k:Nat}{x:Str}{ps:List Str}{fm:FM}(c:fj P w K mg base j x ps fm) (h:j<=k):fj P w K mg base k x ps fm:=
 let⟨a,d,G,r⟩:=c.ex;⟨a,d,G.mono h,r⟩
def Bd (x:Str) (st:Stmt) (ps:List Str):Prop:=∀(kV doc pm:Value) (an:Option Addr) (cdv ct:Value) (us:AAL),us.length=ps.length->bindArgs (PySem.W.fnOf x x (lQ st) (iO st) (aP st) .none kV doc pm an cdv ct) ⟨us,[]⟩=pure (ps.zip us)
def sI {sc:Scope}(a:sc.kind= .function:=by rfl) (b:sc.isCoroutine=false:=by rfl) (c:sc.isGenerator=false:=by rfl) (d:N.Nodup:=by decide +kernel) (e:N.take ps.length=ps:=by rfl)
  (f:∀x∈ps,sc.names.lookup x=some .local\/sc.names.lookup x=some .cell:=by decide +kernel) (g:∀y∈sc.names,y.2≠.free:=by decide +kernel):bA N ps sc:=⟨a,b,c,d,e,f,g⟩
def sQ {x:Str}{st:Stmt}{k:Nat}{fm:FM}{g:GS}(D:Df K mg x st) (Sc:bA N ps (aP st))
  (hb:∀(f:Addr) (cdv:Value) (A:Around) (outer:List Env) (s:Shared) (H:Hp) (E:XK),fQ k (A.deeper (envOfC x (aP st) s.heap.objs.size f cdv))->JB (Bw BE P w K mg base N x (aP st) f cdv A outer s H E).Sk (iO st) g)
  (hf:∀us r,fm us=some r->aK N.length g us=some r) (bd:Bd x st ps:=by intro _ _ _ _ _ _ us hl;rcases us with _ | ⟨_,_ | ⟨_,_ | ⟨_,_ | ⟨_,_ | ⟨_,_ | ⟨_,_ | ⟨_,_⟩⟩⟩⟩⟩⟩⟩ <;> first | rfl | cases hl):fj P w K mg base (k+1) x ps fm:=by
 obtain⟨f,fd,F,m⟩:=D.ex
 exact⟨f,fd,okT F Sc (hb f) hf,F.binds bd,F.kp,m⟩
end
section
variable {X:Cx}{e:Expr}{es:List Expr}{gu:GU}{x:Str}{p pos:Pos}{k j:Nat}{ps:List Str}{fm:FM}
def jc (c:fj X.prog X.w X.K X.mg X.base j x ps fm) (hr:fQ k X.A) (ha:JU X (e :: es) gu) (hj:j<=k:=by omega) (hg:Gl X x:=by rfl) (hn:(e :: es).length=ps.length:=by rfl)
  (hdb:(x == ("__debug__":Str))=false:=by decide) (he:starEach (e :: es) X.env=(false,eval e X.env) :: starEach es X.env:=by rfl) (hpl:(backTo pos (starEach es X.env)).any (·.1)=false:=by rfl):
  JE X (.Call (.Name x p) (e :: es) [] pos) (aO fm gu):=by
 obtain⟨a,d,G,b,kp,m⟩:=c.ex
 exact O5 (G.mono hj) hr hg m kp b ha hn hdb he hpl
def jc0 (c:fj X.prog X.w X.K X.mg X.base j x [] fm) (hr:fQ k X.A) (hj:j<=k:=by omega) (hg:Gl X x:=by rfl) (hdb:(x == ("__debug__":Str))=false:=by decide):JE X (.Call (.Name x p) [] [] pos) (aO fm aT):=by
 obtain⟨a,d,G,b,kp,m⟩:=c.ex
 exact LI (G.mono hj) hr hg m kp b hdb
end
section
variable {P:Program}{w:World}{K:AAD}{mg:AAF}{base:Heap}{h:Heap}{C:Addr}{m q x:Str}{st:Stmt}{ps:List Str}{fm:FM}
def nM {n:Nat}(D:Df K mg x st) (z:∀us,fm us=none) (bd:Bd x st ps:=by intro _ _ _ _ _ _ us hl;rcases us with _ | ⟨_,_ | ⟨_,_ | ⟨_,_ | ⟨_,_ | ⟨_,_ | ⟨_,_ | ⟨_,_⟩⟩⟩⟩⟩⟩⟩ <;> first | rfl | cases hl):fj P w K mg base n x ps fm:=by
 obtain⟨f,fd,F,m⟩:=D.ex
 exact⟨f,fd,Sw.Mu z,F.binds bd,F.kp,m⟩
structure zT (K:AAD) (C:Addr) (m q:Str) (st:Stmt):Prop where
 ex:∃f fd,OR K m q st f fd/\Meth K C m f
def Ui {f:Addr}{oc:Value}{kV pm ct:Value}(a:PySem.W.findIn K (.ref C) m=some (some (.ref f)))
  (l:K.lookup f=some ⟨oc,od,.func (PySem.W.fnOf m q (lQ st) (iO st) (aP st) .none kV doc pm an cdv ct),osl⟩) (c:PySem.W.codeIn K cdv q=true) (k:PySem.W.keepIn K (.ref f)=true) (y:PySem.W.isFn K (.ref f)=true):zT K C m q st:=
 ⟨_,_,K5 l c k,a,y,k⟩
structure gX (P:Program) (w:World) (K:AAD) (mg:AAF) (base:Heap) (n:Nat) (C:Addr) (m:Str) (ps:List Str) (fm:FM):Prop where
 ex:∃a d,jW P w K mg base BE n a d ps (spT K ps.length fm)/\Binds K d ps []/\Meth K C m a
def gX.mono {j k:Nat}(c:gX P w K mg base j C m ps fm) (h:j<=k):gX P w K mg base k C m ps fm:=
 let⟨a,d,G,r⟩:=c.ex;⟨a,d,G.mono h,r⟩
def BdM (x q:Str) (st:Stmt) (ps:List Str):Prop:=∀(kV doc pm:Value) (an:Option Addr) (cdv ct:Value) (us:AAL),us.length=ps.length->bindArgs (PySem.W.fnOf x q (lQ st) (iO st) (aP st) .none kV doc pm an cdv ct) ⟨us,[]⟩=pure (ps.zip us)
def PV {k:Nat}{g:GS}(D:zT K C m q st) (Sc:bA N ps (aP st))
  (hb:∀(f:Addr) (cdv:Value) (A:Around) (outer:List Env) (s:Shared) (H:Hp) (E:XK),fQ k (A.deeper (envOfC q (aP st) s.heap.objs.size f cdv))->JB (Bw BE P w K mg base N q (aP st) f cdv A outer s H E).Sk (iO st) g)
  (hf:∀us r,fm us=some r->aK N.length g us=some r) (bd:BdM m q st ps:=by intro _ _ _ _ _ _ us hl;rcases us with _ | ⟨_,_ | ⟨_,_ | ⟨_,_ | ⟨_,_ | ⟨_,_ | ⟨_,_ | ⟨_,_⟩⟩⟩⟩⟩⟩⟩ <;> first | rfl | cases hl):gX P w K mg base (k+1) C m ps fm:=by
 obtain⟨f,fd,F,m⟩:=D.ex
 exact⟨f,fd,okT F Sc (hb f) hf,F.binds bd,m⟩
def Mv {n:Nat}(D:zT K C m q st) (z:∀us,fm us=none) (bd:BdM m q st ps:=by intro _ _ _ _ _ _ us hl;rcases us with _ | ⟨_,_ | ⟨_,_ | ⟨_,_ | ⟨_,_ | ⟨_,_ | ⟨_,_ | ⟨_,_⟩⟩⟩⟩⟩⟩⟩ <;> first | rfl | cases hl):gX P w K mg base n C m ps fm:=by
 obtain⟨f,fd,F,m⟩:=D.ex
 exact⟨f,fd,Sw.Mu z,F.binds bd,m⟩
structure ZE (K:AAD) (mg:AAF) (x:Str) (C:Addr):Prop where
 nm:mg x=some (.ref C)
 mks:PySem.W.makesIn K C=true
 kp:PySem.W.keepIn K (.ref C)=true
def Uj (X:K.In h) (G:h.Ns mainGlobals mg) (a:PySem.W.nsIn K mainGlobals x=some (some (.ref C))) (b:PySem.W.makesIn K C=true) (c:PySem.W.keepIn K (.ref C)=true):ZE K mg x C:=⟨acT X G a,b,c⟩
end
section
variable {X:Cx}{C:Addr}{e:Expr}{es:List Expr}{gu:GU}{x m:Str}{px p pos apos:Pos}{k j:Nat}{ps:List Str}{fm:FM}
def jm (i:Nat) (c:CA X.K C) (F:gX X.prog X.w X.K X.mg X.base j C m ps fm) (hr:fQ k X.A) (ha:JU X (e :: es) gu) (hj:j<=k:=by omega) (hn:(e :: es).length+1=ps.length:=by rfl)
  (hN:X.N[i]? =some x:=by rfl) (hv:An X.env.scope x:=by first | exact Or.inl rfl | exact Or.inr (Or.inl rfl) | exact Or.inr (Or.inr rfl)) (hd:(x == ("__debug__":Str))=false:=by decide) (hcd:(x == ("__classdict__":Str))=false:=by decide)
  (hst:starEach (e :: es) X.env=(false,eval e X.env) :: starEach es X.env:=by rfl) (hpl:(backTo pos (starEach es X.env)).any (·.1)=false:=by rfl)
  (ht:eval (.Call (.Attribute (.Name x px) m apos) (e :: es) [] pos) X.env=(do
   let ov <-eval (.Name x px) X.env
   standAt apos.atName
   let(f,first) <-holding [ov] (getMethod ov m pl)
   callWith pos f first (backTo pos (starEach (e :: es) X.env)) (backToKw pos (keywordEach [] X.env))):=by rfl):
  JE X (.Call (.Attribute (.Name x px) m apos) (e :: es) [] pos) (fG C m i fm gu):=by
 obtain⟨a,d,G,b,me⟩:=F.ex
 exact Pw i c me (G.mono hj) hr b ha hn hN hv hd hcd hst hpl ht
def PX {y:Str}(i:Nat) (c:CA X.K C) (F:gX X.prog X.w X.K X.mg X.base j C m [y] fm) (hr:fQ k X.A) (hj:j<=k:=by omega)
  (hN:X.N[i]? =some x:=by rfl) (hv:An X.env.scope x:=by first | exact Or.inl rfl | exact Or.inr (Or.inl rfl) | exact Or.inr (Or.inr rfl)) (hd:(x == ("__debug__":Str))=false:=by decide) (hcd:(x == ("__classdict__":Str))=false:=by decide)
  (ht:eval (.Call (.Attribute (.Name x px) m apos) [] [] pos) X.env=(do
   let ov <-eval (.Name x px) X.env
   standAt apos.atName
   let(f,first) <-holding [ov] (getMethod ov m pl)
   callWith pos f first (backTo pos (starEach [] X.env)) (backToKw pos (keywordEach [] X.env))):=by rfl):
  JE X (.Call (.Attribute (.Name x px) m apos) [] [] pos) (fG C m i fm aT):=by
 obtain⟨a,d,G,b,me⟩:=F.ex
 exact L8 i c me (G.mono hj) hr b hN hv hd hcd ht
def jk (M:ZE X.K X.mg x C) (F:gX X.prog X.w X.K X.mg X.base j C "__init__" ps fm) (hr:fQ k X.A) (ha:JU X (e :: es) gu) (hj:j+1<=k:=by omega) (hg:Gl X x:=by rfl) (hn:(e :: es).length+1=ps.length:=by rfl)
  (hdb:(x == ("__debug__":Str))=false:=by decide) (he:starEach (e :: es) X.env=(false,eval e X.env) :: starEach es X.env:=by rfl) (hpl:(backTo pos (starEach es X.env)).any (·.1)=false:=by rfl):
  JE X (.Call (.Name x p) (e :: es) [] pos) (AZ C fm gu):=by
 obtain⟨a,d,G,b,me⟩:=F.ex
 exact Py ⟨M.mks,me.at_,me.fn,M.kp⟩ G (hr.mono hj) hg M.nm b ha hn hdb he hpl
end
end L2
end
section
namespace Sw
open PySem PySem.Spec PyProof.Rows L2
noncomputable def LET:Str:="abcdefghijklmnopqrstuvwxyz"
def DL (y:Str):Bool:=!(Builtin.Str.occurrences LET y 0 LET.length 1).isEmpty
noncomputable def signs (z:Str):List Str:=z.cps.toList.map fun c=>(⟨#[c]⟩:Str)
def I0 (z:Str):(signs z).length=z.length:=by unfold signs;rw[aaw];rfl
def Mw (z:Str):zO (eF (aj 0)) [AAA (.str z)]=some ((signs z).map D.str,[AAA (.str z)]):=by unfold signs;rw[ac4];rfl
def nameB:D->Bool
 | .str z=>decide (1<=z.length) && decide (z.length<=8) && (signs z).all DL
 | _=>false
def pO {z:Str}(h:z.length<=20000):BP (.t (.str z))=some z.length:=by show(if z.length<=100000 then some z.length else none)=_;rw[if_pos (by lia)]
def mY:GS:=
 (aQ (i8 (C6 (C5 (qB (Y4 ["str"] (eF (aj 0))))) (C6 (qB (eF (eP JX (aa (jd 0) (aa (eC (.int 1)) aq))))) (qB (eF (eP Tj (aa (jd 0) (aa (eC (.int 8)) aq))))))) (bT (eT (eC (.bl false)))) c8)
 (bT (eP Tr (aa (eF (jy [] (zO (eF (aj 0))) cF (eF (eP JZ (aa (eF (aj 0)) (aa (eC (.str "abcdefghijklmnopqrstuvwxyz")) aq)))))) aq))))
noncomputable def abX:D->Nat
 | .str z=>z.length
 | _=>0
def wj:FM
 | [.t d]=>if abX d<=20000 then some (.t (.bl (nameB d)),[]) else none
 | _=>none
def Mx:∀us r,wj us=some r->aK 1 mY us=some r:=by
 intro us r h
 unfold wj at h
 split at h
 ·rename_i d
  obtain⟨hb,rfl⟩:=bV h
  cases d with
  | str z=>
   have hb:z.length<=20000:=hb
   have pO:=pO hb
   by_cases h1:(z.length:Int) < 1
   ·have h2:¬1<=z.length:=by lia
    simp[aK,mY,nameB,rA,yt,rN,pO,h1,h2]
   ·by_cases h3:(8:Int) < z.length
    ·have h2:¬z.length<=8:=by lia
     simp[aK,mY,nameB,rA,yt,rN,pO,h1,h2,h3]
    ·have h4:1<=z.length:=by lia
     have h5:z.length<=8:=by lia
     have h6:((signs z).map D.str).length<=100000:=by rw[aaw,I0];lia
     have ei:=Mw z
     generalize hx:signs z=xs at h6 ei
     have e:=A3 (cap:=[]) (g:=eF (eP JZ (aa (eF (aj 0)) (aa (eC (.str "abcdefghijklmnopqrstuvwxyz")) aq)))) (S:=[AAA (.str z)]) (ts:=[]) rfl (fun d=>match d with | .str y=>.bl (DL y) | _=>.cU) (xs.map D.str) [] (fun d hd=>by
      obtain⟨c,_,rfl⟩:=adz.mp hd
      kernel_rfl)
     have e2:([]:List D)++((xs.map D.str).map fun d=>match d with | .str y=>D.bl (DL y) | _=>.cU)=xs.map fun y=>D.bl (DL y):=by rw[ac4];rfl
     have e3:=A4 DL xs
     rw[e2] at e
     generalize xs.map D.str=L at e ei h6
     generalize (xs.map fun y=>D.bl (DL y))=M at e e3
     simp[aK,mY,nameB,rA,yt,rN,pO,h1,h3,h4,h5,ei,h6,e,e3,hx]
  | _=>kernel_rfl
 ·cases h
end Sw
end
section
namespace L2
open PySem PySem.Spec PyProof.Rows
section
variable (S:SS) (d:D) (i:Nat) (g ga gb gc:GD) (gA:GA)
@[simp] theorem abY (ds:List D) (k:Int):LK [.lst ds,.int k]=if 0<=k/\k.toNat<=100000/\ds.length * k.toNat<=100000 then some (.m (.lst (List.replicate k.toNat ds).flatten)) else none:=rfl
@[simp] theorem V9 (es ds:List D):kG [.lst es] (.lst ds)=if ds.length+es.length<=100000 then some (.cU,.lst (ds++es)) else none:=rfl
@[simp] theorem ZF:LU gA S=(gA S).bind fun p=>match p.1 with
 | [d]=>(pI d).map fun q=>(rC q.2,p.2)
 | _=>none:=rfl
@[simp] theorem ZG:AN gA S=(gA S).bind fun p=>match p.1 with
 | [d,e]=>(pI d).bind fun q=>(pI e).map fun r=>(List.zipWith (fun a b=>.tup [a,b]) q.2 r.2,p.2)
 | _=>none:=rfl
@[simp] theorem My (ds:List D):pI (.lst ds)=some (true,ds):=rfl
@[simp] theorem Mz (ds:List D):pI (.tup ds)=some (false,ds):=rfl
def MA (cap:List Nat) (gi:GI) (q:GT):jy cap gi q g S=(gi S).bind fun p=>if p.1.length<=100000 then(dj cap q g p.1 p.2 []).map fun r=>(.m (.lst r.1),r.2) else none:=rfl
@[simp] theorem ZI (x y:Int):XE [.int x,.int y]=AAC (if y < x then y else x):=rfl
end
end L2
namespace Sq
open PySem PySem.Spec PyProof.Rows L2 Sw
theorem B8 {bd:GB}{body:GS}:∀(ds:List D) (I:List D->SS->Prop) (S:SS),I ds S->(∀d r S,I (d :: r) S->∃S1 S2,bd d S=some S1/\body S1=some (.nx S2)/\I r S2)->∃S',loop bd body ds S=some (.nx S')/\I [] S'
 | [],I,S,h,_=>⟨S,rfl,h⟩
 | d :: ds,I,S,h,k=>by
  obtain⟨S1,S2,e1,e2,h2⟩:=k d ds S h
  obtain⟨S',e,h'⟩:=B8 ds I S2 h2 k
  refine⟨S',?_,h'⟩
  show((bd d S).bind fun S1=>(body S1).bind _)=_
  rw[e1,aau,e2,aau]
  exact e
def yQ (cap:List Nat) (q:GT) (g:GD) (d:D) (ds:List D) (S:SS) (acc:List D):dj cap q g (d :: ds) S acc=(dj cap q g [d] S acc).bind fun r=>dj cap q g ds r.2 r.1:=by
 simp only[dj]
 cases dg S cap with
 | none=>rfl
 | some us=>
  simp only[aau]
  split
  ·cases bz S us with
   | none=>rfl
   | some ws=>
    simp only[aau]
    cases q (AAA d :: ws.map some) with
    | none=>rfl
    | some p=>
     simp only[aau]
     split
     ·cases g p.2 with
      | none=>rfl
      | some r=>
       simp only[aau]
       cases aL (.t d :: ws) r.2 with
       | none=>rfl
       | some outs=>
        simp only[aau]
        cases wb us outs S with
        | none=>rfl
        | some S'=>rfl
     ·cases aL (.t d :: ws) p.2 with
      | none=>rfl
      | some outs=>
       simp only[aau]
       cases wb us outs S with
       | none=>rfl
       | some S'=>rfl
  ·rfl
def uZ {α:Type}{l:List α}{i:Int}{x:α}(h0:0<=i) (h:l[i.toNat]? =some x):gz l i=some x:=by
 have hl:=(aaG.mp h).1
 unfold gz EI
 rw[if_pos h0,if_pos (by lia)]
 exact h
def Uk {α:Type}{l:List α}{i:Int}(h0:0<=i) (h1:i < l.length):∃x,gz l i=some x/\l[i.toNat]? =some x:=by
 have h:i.toNat < l.length:=by lia
 exact⟨l[i.toNat],uZ h0 (aaD h),aaD h⟩
def mZ {gA:GA}{S S':SS}{j:Int}(h:gA S=some ([.int j],S')) (h1:j < 1000000) (h2:-1000000 < j):jx gA S=some (oU 0 j.toNat,S'):=by
 unfold jx
 rw[h]
 simp only[aau]
 rw[if_pos ⟨h1,h2⟩]
def MB (n:Nat):(-1000000:Int) < n:=Int.lt_of_lt_of_le (by decide) (Int.natCast_nonneg n)
end Sq
end
section
namespace L2
open PySem PySem.Spec PyProof.Rows
@[simp] theorem abZ (n:Nat) (bs:N5) (ds:List D) (S:SS):oH n bs (.tup ds) S=if ds.length=n then bs ds S else none:=rfl
@[simp] theorem ZJ (b:GB) (bs:N5) (d:D) (r:List D) (S:SS):eG b bs (d :: r) S=(b d S).bind fun S1=>bs r S1:=rfl
@[simp] theorem ab0 (S:SS):o9 [] S=some S:=rfl
@[simp] theorem ZK (S:SS):LV S=some (.m (.cI []),S):=rfl
@[simp] theorem Ul (kvs:List (D×D)) (k:D):rB (.b (.cI kvs)) k=(wM k).bind (b7 kvs):=by cases k <;> rfl
@[simp] theorem Wa (kvs:List (D×D)) (k d:D):uT (.cI kvs) k d=(wM k).bind fun kk=>if kvs.length < 10000000 then some (.cI (putD kvs kk d)) else none:=by cases k <;> rfl
@[simp] theorem Yd (z:Str):AB (.str z)=true:=rfl
@[simp] theorem Ye (b:Bool):AB (.bl b)=true:=rfl
@[simp] theorem Yg (b:Int):AB (.int b)=true:=rfl
@[simp] theorem Yc (g:GD) (lo hi:Option GD) (S:SS):yx g lo hi S=(g S).bind fun p=>(iw lo p.2).bind fun l=>(iw hi l.2).bind fun h=>(Pa p.1 l.1 h.1).map fun u=>(u,h.2):=rfl
@[simp] theorem Wb (S:SS):iw none S=some (none,S):=rfl
@[simp] theorem Wc (g:GD) (S:SS):iw (some g) S=(g S).bind fun p=>match p.1 with | .int i=>some (some i,p.2) | _=>none:=rfl
@[simp] theorem PK (ds:List D) (lo hi:Option Int):Pa (.tup ds) lo hi=AAA (.tup (cutD ds lo hi)):=rfl
@[simp] theorem PL (ds:List D) (lo hi:Option Int):Pa (.lst ds) lo hi=AAB (cutD ds lo hi):=rfl
@[simp] theorem Um (ds:List D):i9 [] (.lst ds)=some (.cU,.lst ds.reverse):=rfl
def tY {bd:GB}{body:GS}(ds:List D) (I:Nat->SS->Prop) (S:SS) (h0:I 0 S) (hs:∀j d S,ds[j]? =some d->I j S->∃S1 S2,bd d S=some S1/\body S1=some (.nx S2)/\I (j+1) S2):∃S',loop bd body ds S=some (.nx S')/\I ds.length S':=by
 obtain⟨S',e,j,hr,hj,hI⟩:=Sq.B8 (bd:=bd) (body:=body) ds (fun r S=>∃j,ds.drop j=r/\j<=ds.length/\I j S) S ⟨0,rfl,acJ _,h0⟩ (by
  rintro d r S ⟨j,hr,hj,hI⟩
  have hlt:j < ds.length:=by
   have:=congrArg List.length hr
   rw[acy,aar] at this
   lia
  rw[adb hlt] at hr
  injection hr with h1 h2
  obtain⟨S1,S2,e1,e2,h3⟩:=hs j d S (by rw[aaD hlt,h1]) hI
  exact⟨S1,S2,e1,e2,j+1,h2,hlt,h3⟩)
 have:j=ds.length:=by
  have:=congrArg List.length hr
  rw[acy,aeb] at this
  lia
 subst this
 exact⟨S',e,hI⟩
theorem comp_map {cap:List Nat}{g:GD}{S:SS}(f:D->D):∀(ds acc:List D),(∀d∈ds,∀acc,dj cap cF g [d] S acc=some (acc++[f d],S))->dj cap cF g ds S acc=some (acc++ds.map f,S)
 | [],acc,_=>by simp[dj]
 | d :: ds,acc,h=>by
  rw[Sq.yQ,h d aaR,aau,comp_map f ds (acc++[f d]) fun e he=>h e (aaP _ he)]
  simp
def Hh {n j:Nat}{d:D}(h:(oU 0 n)[j]? =some d):j < n/\d= .int j:=by
 unfold oU at h
 rw[aaO] at h
 cases e:(List.range n)[j]? with
 | none=>rw[e] at h;cases h
 | some k=>
  rw[e] at h
  obtain⟨h1,h2⟩:=aaG.mp e
  rw[List.getElem_range] at h2
  rw[adG] at h1
  subst h2
  refine⟨h1,?_⟩
  have:=aa0 h
  rw[<-this]
  show D.int (0+(j:Int))=_
  rw[Int.zero_add]
end L2
end
section
namespace Ss
open PySem PySem.Spec PyProof.Rows L2 Sw
variable {z:Str}{r:List D}{bs:List Str}
@[simp] theorem Fw (kvs:AAJ) (g:GD) (S:SS):zR kvs g S=(g S).bind fun p=>match p.1 with | .str z=>(dZ kvs z).map fun i=>(.int i,p.2) | _=>none:=rfl
@[simp] theorem ab1 (n:Bool) (zs:List Str) (g:GD) (S:SS):yE n zs g S=(g S).map fun p=>(.bl (n != inD p.1 (zs.map D.str)),p.2):=rfl
def dD (a:D) (r:List D):gz (a :: r) 0=some a:=by
 unfold gz EI
 rw[if_pos (by decide),if_pos (by simp only[aar];lia)]
 rfl
def gO (a b:D) (r:List D):gz (a :: b :: r) 1=some b:=by
 unfold gz EI
 rw[if_pos (by decide),if_pos (by simp only[aar];lia)]
 rfl
def lW (a b c:D) (r:List D):gz (a :: b :: c :: r) 2=some c:=by
 unfold gz EI
 rw[if_pos (by decide),if_pos (by simp only[aar];lia)]
 rfl
def PY (x:D) (zs:List Str):JZ [x,.tup (zs.map D.str)]=AAA (.bl (inD x (zs.map D.str))):=by
 have:cP (zs.map D.str)<=40:=by rw[L2.tM];decide
 cases x <;> simp[JZ,this]
noncomputable def yR:List Str:=["less","same","more"]
noncomputable def J2:List Str:=["each","one"]
def rE (bs:List Str):D->Bool
 | .tup [a]=>nI a (.str "any")
 | .tup [a,b]=>if nI a (.str "name") then nameB b else inD a (yR.map D.str) && (jB b 0 9 || inD b (bs.map D.str))
 | _=>false
noncomputable def LEN:List (Str×Int):=[("yes",1),("no",1),("now",2),("not",2),("both",3),("either",3),("next",2),("till",3),("within",3),("always",2),("some",2),("each",4),("one",4)]
noncomputable def ZL:List (Str×Int):=[("yes",1),("no",1),("now",2),("not",1),("both",1),("either",1),("next",1),("till",1),("within",2),("always",1),("some",1),("each",3),("one",3)]
def jX (z:Str):Int:=(dZ LEN z).getD 0
def cN (z:Str):Nat:=((dZ ZL z).getD 0).toNat
def b8 (z:Str):Bool:=inD (.str z) (J2.map D.str)
noncomputable def iy:List Str:=["yes","no","now","not","both","either","next","till","within","always","some","each","one"]
def tZ {kvs:AAJ}(h:z∉kvs.map (·.1)):dZ kvs z=none:=by
 unfold dZ
 have:kvs.find? (fun p=>decide (p.1=z))=none:=List.find?_eq_none.mpr fun p hp q=>h (by rw[<-aep q];exact List.mem_map_of_mem hp)
 rw[this]
 rfl
def Ja (h:z∉iy):jX z=0:=by unfold jX;rw[tZ (show z∉LEN.map (·.1) from h)];rfl
def DM (h:jX z≠0):z∈iy:=aa5 fun q=>h (Ja q)
structure B9 (z:Str):Prop where
 Eo:dZ ZL z=some ((cN z:Nat):Int)
 s1:1<=cN z
 s4:(cN z:Int)<=jX z
 l4:jX z<=4
 few:jX z - cN z<=2
def lX:∀z∈iy,B9 z:=by
 intro z hz
 simp only[iy,aaA,abb,ac7] at hz
 rcases hz with rfl | rfl | rfl | rfl | rfl | rfl | rfl | rfl | rfl | rfl | rfl | rfl | rfl <;> exact⟨by decide,by decide,by decide,by decide,by decide⟩
def nN:GS:=
 (bT (yx (eF (aj 0)) (some (zR [("yes",1),("no",1),("now",2),("not",1),("both",1),("either",1),("next",1),("till",1),("within",2),("always",1),("some",1),("each",3),("one",3)] (cD 0 (eC (.int 0))))) none))
def gY:GS:=
 (aQ (i8 (qB (yE false ["each","one"] (cD 0 (eC (.int 0))))) (bT (eP cH (aa (eF (aj 1)) (aa (eF (eP bw (aa (cD 0 (eC (.int 2))) aq))) aq)))) c8)
 (bT (aj 1)))
def jf:FM:=aK 1 nN
def Jb:∀us r,jf us=some r->aK 1 nN us=some r:=fun a a h=>h
def DN (ds:List D) (k:Nat):L2.cutD ds (some (k:Int)) none=ds.drop k:=by
 unfold L2.cutD
 rw[HT.CT,HT.Gx]
 by_cases h:k<=ds.length
 ·rw[Nat.min_eq_left h,adl (by rw[acy];lia)]
 ·rw[Nat.min_eq_right (by lia),List.drop_of_length_le (aaC _),List.drop_of_length_le (by lia),List.take_nil]
def DO (h:B9 z):jf [.t (.tup (.str z :: r))]=some (.t (.tup ((.str z :: r).drop (cN z))),[]):=by
 have e:=h.Eo
 unfold ZL at e
 have c:=DN (.str z :: r) (cN z)
 simp[jf,aK,nN,dD,e,c,aL]
def mq:FM:=aK 2 gY
def Jc:∀us r,mq us=some r->aK 2 gY us=some r:=fun a a h=>h
def pP {bd:D}(h:b8 z=false):mq [.t (.tup (.str z :: r)),.t bd]=some (.t bd,[]):=by
 unfold b8 J2 at h
 simp only[aaQ,acN] at h
 simp[mq,aK,gY,dD,h,aL]
def Jd {a b:D}{bs:List D}(h:b8 z=true) (hl:bs.length<=1000):mq [.t (.tup (.str z :: a :: b :: r)),.t (.tup bs)]=some (.t (.tup (bs++[b])),[]):=by
 unfold b8 J2 at h
 simp only[aaQ,acN] at h
 have e:bs.length+1<=100000:=by lia
 simp[mq,aK,gY,dD,lW,h,aL,e]
def fO (bs:List Str) (z:Str) (r:List D):Bool:=
 if jX z=(r.length:Int)+1 then
  (match r with
  | []=>true
  | a :: r2=>if z="now" then rE bs a else if z="within" then jB a 0 5 else if b8 z then(match r2 with | b :: _=>nameB a && nameB b | []=>false) else true)
 else false
noncomputable def strOf:D->Str
 | .str z=>z
 | _=>""
def jg (bs:List Str) (z:Str) (r:List D):List Str:=if b8 z=true then bs++[strOf (r.getD 1 .cU)] else bs
def cA (z:Str) (r:List D):List D:=(.str z :: r).drop (cN z)
def gZ:Nat->List Str->D->Bool
 | 0,_,_=>false
 | n+1,bs,.tup (.str z :: r)=>fO bs z r && (cA z r).all (gZ n (jg bs z r))
 | _+1,_,_=>false
def Fx (h:fO bs z r=true):jX z=(r.length:Int)+1/\B9 z/\z∈iy:=by
 unfold fO at h
 split at h
 ·rename_i c
  have:=DM (z:=z) (by omega)
  exact⟨c,lX z this,this⟩
 ·cases h
def pQ {d:D}(h:nameB d=true):∃y,d= .str y:=by
 cases d with
 | str z=>exact⟨z,rfl⟩
 | _=>cases h
def cz:Nat->D->List D
 | 0,_=>[]
 | n+1,.tup (.str z :: r)=>.tup (.str z :: r) :: (cA z r).flatMap (cz n)
 | _+1,d=>[d]
def yS {n:Nat}{d:D}(h:gZ (n+1) bs d=true):∃z r,d= .tup (.str z :: r)/\fO bs z r=true/\∀p∈cA z r,gZ n (jg bs z r) p=true:=by
 cases d with
 | tup ds=>
  cases ds with
  | nil=>cases h
  | cons a r=>
   cases a with
   | str z=>
    obtain⟨h1,h2⟩:=adJ.mp (show(fO bs z r && (cA z r).all (gZ n (jg bs z r)))=true from h)
    exact⟨z,r,rfl,h1,fun p hp=>aa9.mp h2 p hp⟩
   | _=>cases h
 | _=>cases h
def eO (n:Nat) (d:D):Nat:=(cz n d).length
def jY:D->Bool
 | .tup (.str z :: _)=>b8 z
 | _=>false
def iT (n:Nat) (d:D):Nat:=((cz n d).filter jY).length
@[simp] theorem PZ (xw:List (Str×GD)) (S:SS):v7 xw S=(jF xw S).map fun p=>(.m (.dct (pG [] p.1)),p.2):=rfl
@[simp] theorem Ca (S:SS):jF [] S=some ([],S):=rfl
@[simp] theorem zU (z:Str) (g:GD) (r:List (Str×GD)) (S:SS):jF ((z,g) :: r) S=(g S).bind fun p=>(jF r p.2).map fun q=>((.inr z,p.1) :: q.1,q.2):=rfl
section
variable {f1 f2 f3 f4 f5:FM}{z:Str}{r:List D}{vs dp:D}{c0 c1:Int}
def P0 (z:Str):JZ [.str z,.tup [.str "each",.str "one"]]=AAA (.bl (b8 z)):=PY (.str z) J2
end
def Hi:jX "now" =2/\jX "within" =3:=by decide
def yT (n:Nat) (z:Str) (r:List D):(eO (n+1) (.tup (.str z :: r)):Int)=1+(((cA z r).flatMap (cz n)).length:Int):=by
 unfold eO
 show(((.tup (.str z :: r):D) :: (cA z r).flatMap (cz n)).length:Int)=_
 rw[aar]
 push_cast
 lia
def Cb (n:Nat) (z:Str) (r:List D):(iT (n+1) (.tup (.str z :: r)):Int)=(if b8 z=true then 1 else 0)+((((cA z r).flatMap (cz n)).filter jY).length:Int):=by
 unfold iT
 show((((.tup (.str z :: r):D) :: (cA z r).flatMap (cz n)).filter jY).length:Int)=_
 by_cases h:b8 z=true
 ·rw[acF (by exact h),if_pos h,aar]
  push_cast
  lia
 ·rw[aaT (by exact h),if_neg h]
  lia
def fW (n:Nat) (bs:List Str) (z:Str) (r:List D):gZ (n+1) bs (.tup (.str z :: r))=true↔fO bs z r=true/\∀p∈cA z r,gZ n (jg bs z r) p=true:=by
 show(fO bs z r && (cA z r).all (gZ n (jg bs z r)))=true↔_
 rw[adJ,aa9]
def DP (c:jX z=(r.length:Int)+1) (n1:¬z="now") (n2:¬(z="within"/\jB (r.getD 0 .cU) 0 5=false)) (hb:b8 z=false):fO bs z r=true:=by
 unfold fO
 rw[if_pos c]
 cases r with
 | nil=>rfl
 | cons a q=>
  simp only[n1,adi,hb]
  by_cases k:z="within"
  ·rw[if_pos k]
   cases w:jB a 0 5 with
   | true=>rfl
   | false=>exact absurd ⟨k,w⟩ n2
  ·rw[if_neg k]
   rfl
end Ss
end
section
namespace Sd
open PySem PySem.Spec PyProof.Rows L2 Sw Ss
@[simp] theorem PZ (xw:List (Str×GD)) (S:SS):v7 xw S=(jF xw S).map fun p=>(.m (.dct (pG [] p.1)),p.2):=rfl
@[simp] theorem Ca (S:SS):jF [] S=some ([],S):=rfl
@[simp] theorem zU (z:Str) (g:GD) (r:List (Str×GD)) (S:SS):jF ((z,g) :: r) S=(g S).bind fun p=>(jF r p.2).map fun q=>((.inr z,p.1) :: q.1,q.2):=rfl
end Sd
end
section
namespace Sn
open PySem PySem.Spec PyProof.Rows L2 Sw Ss
variable {nms bs:List Str}{n room:Nat}{z:Str}{r:List D}
structure Dr (deep:Nat) (bs:List Str) (room:Nat) (bin:Nat) (d:D):Prop where
 fm:gZ deep bs d=true
 sz:eO deep d<=room
 bn:iT deep d=bin
 fit:Lf 8 d
 dep:gC d<=deep+1
class Fy (nms:List Str):Prop where
 ok:∀z∈nms,nameB (.str z)=true/\z.length<=8
 pos:0 < nms.length
 few:nms.length < 900
noncomputable def N7 (nms:List Str):List D:=nms.map D.str
def xA (nms:List Str):(N7 nms).length=nms.length:=by unfold N7;rw[aaw]
def DQ (nms:List Str) (b:Int):List (Key×D):=[(.inr "names",.lst (N7 nms)),(.inr "binders",.int b)]
def RH (nms:List Str) (b:Int):b7 (DQ nms b) (.inr "names")=some (.lst (N7 nms)):=rfl
def RI (nms:List Str) (b:Int):b7 (DQ nms b) (.inr "binders")=some (.int b):=rfl
def Yh (nms:List Str) (b x:Int):putD (DQ nms b) (.inr "binders") (.int x)=DQ nms x:=rfl
def RJ  [hn:Fy nms] {i:Int}(h0:0<=i) (h1:i < nms.length):∃z,gz (N7 nms) i=some (.str z)/\nameB (.str z)=true/\z.length<=8:=by
 have h:i.toNat < nms.length:=by lia
 refine⟨nms[i.toNat],Sq.uZ h0 (by unfold N7;rw[aaO,aaD h];rfl),?_⟩
 exact hn.ok _ (aez h)
abbrev tp (t:dJ):MO:=.dct (cK t)
def P1 {t:dJ}{m:Int}(h1:0 < m) (h2:m < 1000) (h3:0<=t.n) (h4:t.n < 900000):cG [.b (tp t),.t (.int m)]=some (.t (.int (bZ t m)),[tp (c9 t m)]):=kZ h1 (by lia) h3 (by lia)
inductive PkA (t:dJ) (m:Int):Prop
 | mk (v:Int) (u:dJ) (e:cG [.b (tp t),.t (.int m)]=some (.t (.int v),[tp u])) (lo:0<=v) (hi:v < m) (n:u.n=t.n+1)
def kC {t:dJ}{m:Int}(h1:0 < m) (h2:m < 1000) (h3:0<=t.n) (h4:t.n < 900000):PkA t m:=⟨_,_,P1 h1 h2 h3 h4,(cu h1).1,(cu h1).2,B4 _ _⟩
def ZM (au:FM):GS:=
 (bT (eP bw (aa (eF (eP En (aa (eF (eP j9 (aa (eC (.str "less")) (aa (eC (.str "same")) (aa (eC (.str "more")) aq))))) (aa (eF (eP nF (aa (eF (aj 3)) (aa (eC (.int 2)) aq)))) aq)))) (aa (eF (aj 4)) aq))))
def Yi (au:FM):GS:=
 (aQ (i8 (lO (qB (eF (eP Tp (aa (eF (aj 2)) (aa (eF (eP bw aq)) aq))))) (qB (eF (eP Tj (aa (eF (aO au (cg (aj 0) (aH (eC (.int 3)) aT)))) (aa (eC (.int 0)) aq)))))) (bX 4 (eT (cD 2 (eF (aO au (cg (aj 0) (aH (jd 2) aT))))))) c8) (ZM au))
def gt3 (au:FM):GS:=
 (aQ (bX 4 (eP En (aa (eF (eP j9 (aa (eC (.int 0)) (aa (eC (.int 1)) (aa (eC (.int 2)) (aa (eC (.int 3)) (aa (eC (.int 5)) (aa (eC (.int 9)) aq)))))))) (aa (eF (aO au (cg (aj 0) (aH (eC (.int 6)) aT)))) aq)))) (Yi au))
def gt2 (au:FM):GS:=
 (aQ (i8 (qB (eF (eP jz (aa (eF (aj 3)) (aa (eC (.int 1)) aq))))) (bT (eP bw (aa (eC (.str "name")) (aa (cD 1 (eF (aO au (cg (aj 0) (aH (jd 1) aT))))) aq)))) c8) (gt3 au))
def Wd (au:FM):GS:=
 (aQ (i8 (qB (eF (eP jz (aa (eF (aj 3)) (aa (eC (.int 0)) aq))))) (bT (eP bw (aa (eC (.str "any")) aq))) c8) (gt2 au))
def jZ (au:FM):GS:=
 (aQ (bX 3 (aO au (cg (aj 0) (aH (eC (.int 5)) aT)))) (Wd au))
def jH:FM:=aK 5 (jZ cG)
def Je:∀us r,jH us=some r->aK 5 (jZ cG) us=some r:=fun a a h=>h
def wk {x:D}{l:List D}{i:Int}(h0:0<=i) (h1:i < l.length):∃y,gz l i=some y/\y∈l:=by
 obtain⟨y,a,b⟩:=Sq.Uk (l:=l) h0 h1
 exact⟨y,a,ab3 b⟩
def DR (bs:List Str) (a b:D):rE bs (.tup [a,b])=if nI a (.str "name")=true then nameB b else inD a (yR.map D.str) && (jB b 0 9 || inD b (bs.map D.str)):=rfl
section
variable {f1:FM}{T0 T1 T2:MO}{n v nb:D}{w x:Int}
def Yj (p1:f1 [.b T0,.t (.int 5)]=some (.t (.int w),[T1])):jZ f1 [some (.b T0),AAA n,AAA v,none,none]=Wd f1 [some (.b T1),AAA n,AAA v,AAC w,none]:=by
 simp[jZ,p1]
def gtB (c0:¬w=0) (c1:¬w=1) (p2:f1 [.b T1,.t (.int 6)]=some (.t (.int x),[T2])) (b1:gz [.int 0,.int 1,.int 2,.int 3,.int 5,.int 9] x=some nb):Wd f1 [some (.b T1),AAA n,AAA v,AAC w,none]=Yi f1 [some (.b T2),AAA n,AAA v,AAC w,AAA nb]:=by
 simp[Wd,gt2,gt3,c0,c1,p2,b1]
end
def MC  [hn:Fy nms] {t:dJ}(h0:0<=t.n) (h1:t.n < 800000) (hb:bs.length < 900) (hs:∀z∈bs,z.length<=8):
  ∃d t',jH [.b (tp t),.t (.lst (N7 nms)),.t (.tup (bs.map D.str))]=some (.t d,[tp t'])/\rE bs d=true/\Lf 8 d/\gC d<=1/\t.n<=t'.n/\t'.n<=t.n+4:=by
 refine aa5 fun ng=>?_
 obtain⟨w,t1,p1,w0,w1,t1n⟩:=kC (t:=t) (m:=5) (by decide) (by decide) h0 (by lia)
 by_cases c0:w=0
 ·subst c0
  exact ng ⟨.tup [.str "any"],t1,by simp[jH,aK,Yj p1,Wd,aL],rfl,⟨(by show 1<=8;decide),(by show 3<=8;decide),True.intro⟩,by decide,by lia,by lia⟩
 ·by_cases c1:w=1
  ·subst c1
   have q1:=hn.pos
   have q2:=hn.few
   have q3:=xA nms
   obtain⟨v,t2,p2,v0,v1,We⟩:=kC (t:=t1) (m:=((N7 nms).length:Nat)) (by lia) (by lia) (by lia) (by lia)
   obtain⟨z,a1,a2,a3⟩:=RJ (nms:=nms) v0 (by rw[<-q3];exact v1)
   refine ng ⟨.tup [.str "name",.str z],t2,by simp[jH,aK,Yj p1,Wd,gt2,aL,p2,a1],?_,⟨(by show 2<=8;decide),(by show 4<=8;decide),a3,True.intro⟩,by show max 0 (max 0 0)+1<=1;decide,by lia,by lia⟩
   rw[DR,if_pos (mT _)]
   exact a2
  ·obtain⟨v,t2,p2,v0,v1,We⟩:=kC (t:=t1) (m:=6) (by decide) (by decide) (by lia) (by lia)
   obtain⟨nb,b1,b2⟩:=wk (x:=.cU) (l:=[.int 0,.int 1,.int 2,.int 3,.int 5,.int 9]) v0 v1
   have hnb:jB nb 0 9=true/\Lf 8 nb/\gC nb=0:=by
    simp only[aaA,abb,ac7] at b2
    rcases b2 with rfl | rfl | rfl | rfl | rfl | rfl <;> exact⟨by decide,True.intro,rfl⟩
   obtain⟨hd,d1,d2⟩:=wk (x:=.cU) (l:=[.str "less",.str "same",.str "more"]) (i:=w - 2) (by lia) (by simp only[aar,aeb];lia)
   have ZN:inD hd (yR.map D.str)=true/\nI hd (.str "name")=false/\Lf 8 hd/\gC hd=0:=by
    simp only[aaA,abb,ac7] at d2
    rcases d2 with rfl | rfl | rfl <;> exact⟨by decide,by decide,(by show _<=8;decide),rfl⟩
   have fin:∀x:D,(jB x 0 9=true\/inD x (bs.map D.str)=true)->Lf 8 x->gC x=0->rE bs (.tup [hd,x])=true/\Lf 8 (.tup [hd,x])/\gC (.tup [hd,x])<=1:=fun x h1 h2 h3=>by
    refine⟨?_,⟨(by show 2<=8;decide),ZN.2.2.1,h2,True.intro⟩,by show max (gC hd) (max (gC x) 0)+1<=1;rw[ZN.2.2.2,h3];decide⟩
    rw[DR,ZN.2.1,ZN.1]
    rcases h1 with q | q
    ·rw[q];rfl
    ·rw[q];simp
   have dv:gC (.tup (bs.map D.str))<=40:=by show cP (bs.map D.str)+1<=40;rw[L2.tM];decide
   cases bs with
   | nil=>
    obtain⟨f1,f2,f3⟩:=fin nb (.inl hnb.1) hnb.2.1 hnb.2.2
    refine ng ⟨.tup [hd,nb],t2,?_,f1,f2,f3,by lia,by lia⟩
    have q:nI (.tup []) (.tup [])=true:=rfl
    simp only[acN] at dv ⊢
    simp[jH,aK,Yj p1,gtB c0 c1 p2 b1,Yi,ZM,aL,dv,q,d1]
   | cons y ys=>
    have q:nI (.tup ((y :: ys).map D.str)) (.tup [])=false:=rfl
    obtain⟨u,t3,p3,_,_,t3n⟩:=kC (t:=t2) (m:=3) (by decide) (by decide) (by lia) (by lia)
    by_cases c3:0 < u
    ·obtain⟨x,t4,p4,x0,x1,t4n⟩:=kC (t:=t3) (m:=((y :: ys).map D.str).length) (by rw[aaw];simp only[aar];lia) (by rw[aaw];lia) (by lia) (by lia)
     obtain⟨vv,g1,g2⟩:=wk (x:=.cU) (l:=(y :: ys).map D.str) x0 x1
     obtain⟨vs,m1,rfl⟩:=adz.mp g2
     have iv:inD (.str vs) ((y :: ys).map D.str)=true:=by
      unfold inD
      exact ac6.mpr ⟨.str vs,g2,mT _⟩
     obtain⟨f1,f2,f3⟩:=fin (.str vs) (.inr iv) (hs vs m1) rfl
     refine ng ⟨.tup [hd,.str vs],t4,?_,f1,f2,f3,by lia,by lia⟩
     generalize (y :: ys).map D.str=L at *
     simp[jH,aK,Yj p1,gtB c0 c1 p2 b1,Yi,ZM,aL,dv,q,p3,c3,p4,g1,d1]
    ·obtain⟨f1,f2,f3⟩:=fin nb (.inl hnb.1) hnb.2.1 hnb.2.2
     refine ng ⟨.tup [hd,nb],t3,?_,f1,f2,f3,by lia,by lia⟩
     generalize (y :: ys).map D.str=L at *
     simp[jH,aK,Yj p1,gtB c0 c1 p2 b1,Yi,ZM,aL,dv,q,p3,c3,d1]
def dr0 (sh:fO bs z r=true) (pl:cA z r=[]) (nb:b8 z=false) (hr:1<=room) (fit:Lf 8 (.tup (.str z :: r))) (dep:gC (.tup (.str z :: r))<=n+2):Dr (n+1) bs room 0 (.tup (.str z :: r)):=by
 have es:=yT n z r
 have eb:=Cb n z r
 rw[pl] at es eb
 rw[nb] at eb
 simp at es eb
 exact⟨(fW n bs z r).mpr ⟨sh,by rw[pl];simp⟩,by lia,by lia,fit,dep⟩
def dr1 {b:Nat}{p:D}(sh:fO bs z r=true) (pl:cA z r=[p]) (h:Dr n (jg bs z r) room b p) (fit:Lf 8 (.tup (.str z :: r))) (dep:gC (.tup (.str z :: r))<=n+2):Dr (n+1) bs (room+1) ((if b8 z=true then 1 else 0)+b) (.tup (.str z :: r)):=by
 have es:=yT n z r
 have eb:=Cb n z r
 rw[pl] at es eb
 have e1:([p].flatMap (cz n)).length=eO n p:=by simp[eO]
 have e2:(([p].flatMap (cz n)).filter jY).length=iT n p:=by simp[iT]
 rw[e1] at es
 rw[e2] at eb
 have:=h.sz
 have:=h.bn
 refine⟨(fW n bs z r).mpr ⟨sh,by rw[pl];intro q hq;rw[show q=p by simpa using hq];exact h.fm⟩,by lia,?_,fit,dep⟩
 by_cases hb:b8 z=true
 ·rw[if_pos hb] at eb ⊢;lia
 ·rw[if_neg hb] at eb ⊢;lia
def dr2 {r1 r2 b1 b2:Nat}{p q:D}(sh:fO bs z r=true) (pl:cA z r=[p,q]) (nb:b8 z=false) (h1:Dr n bs r1 b1 p) (h2:Dr n bs r2 b2 q) (fit:Lf 8 (.tup (.str z :: r))) (dep:gC (.tup (.str z :: r))<=n+2):Dr (n+1) bs (r1+r2+1) (b1+b2) (.tup (.str z :: r)):=by
 have es:=yT n z r
 have eb:=Cb n z r
 rw[pl] at es eb
 have e1:([p,q].flatMap (cz n)).length=eO n p+eO n q:=by simp[eO]
 have e2:(([p,q].flatMap (cz n)).filter jY).length=iT n p+iT n q:=by simp[iT]
 rw[e1] at es
 rw[e2,nb] at eb
 simp at eb
 have:=h1.sz
 have:=h1.bn
 have:=h2.sz
 have:=h2.bn
 have ib:jg bs z r=bs:=by unfold jg;rw[if_neg (by rw[nb];simp)]
 refine⟨(fW n bs z r).mpr ⟨sh,by rw[pl,ib];intro x hx;simp at hx;rcases hx with rfl | rfl;exact h1.fm;exact h2.fm⟩,by lia,by lia,fit,dep⟩
def Dr.more {RK b:Nat}{d:D}(h:Dr n bs room b d) (hr:room<=RK):Dr n bs RK b d:=⟨h.fm,aaW h.sz hr,h.bn,h.fit,h.dep⟩
def ZO (au:FM) (iU:FM) (aD:FM) (g7:FM):GS:=
 (bT (aO g7 (cg (aj 0) (cg (aj 1) (aH (eF (aj 2)) (aH (eF (aj 3)) (aH (eF (aj 4)) aT)))))))
def Yk (au:FM) (iU:FM) (aD:FM) (g7:FM):GS:=
 (aQ (i8 (lO (qB (eF (eP JX (aa (eF (aj 5)) (aa (eC (.int 5)) aq))))) (qB (eF (eP Tj (aa (eF (aj 3)) (aa (eC (.int 2)) aq)))))) (aQ (bX 6 (eP cH (aa (eC (.int 1)) (aa (eF (aO au (cg (aj 0) (aH (eF (eP nF (aa (eF (aj 3)) (aa (eC (.int 2)) aq)))) aT)))) aq))))
 (aQ (bX 7 (aO aD (cg (aj 0) (cg (aj 1) (aH (eF (aj 2)) (aH (eF (aj 6)) (aH (eF (eP nF (aa (eF (aj 4)) (aa (eC (.int 1)) aq)))) aT)))))))
 (aQ (bX 8 (aO aD (cg (aj 0) (cg (aj 1) (aH (eF (aj 2)) (aH (eF (eP nF (aa (eF (eP nF (aa (eF (aj 3)) (aa (eC (.int 1)) aq)))) (aa (eF (aj 6)) aq)))) (aH (eF (eP nF (aa (eF (aj 4)) (aa (eC (.int 1)) aq)))) aT)))))))
 (bT (eP bw (aa (eF (eP En (aa (eF (eP j9 (aa (eC (.str "both")) (aa (eC (.str "either")) (aa (eC (.str "till")) (aa (eC (.str "till")) aq)))))) (aa (eF (eP nF (aa (eF (aj 5)) (aa (eC (.int 1)) aq)))) aq)))) (aa (eF (aj 7)) (aa (eF (aj 8)) aq)))))))) c8) (ZO au iU aD g7))
def P4 (au:FM) (iU:FM) (aD:FM) (g7:FM):GS:=
 (aQ (i8 (C6 (qB (eF (eP JX (aa (eF (aj 3)) (aa (eC (.int 2)) aq))))) (C6 (qB (eF (eP JX (aa (eF (aj 4)) (aa (eC (.int 2)) aq))))) (qB (eF (eP jz (aa (eF (aj 5)) (aa (eC (.int 0)) aq))))))) (aQ (i8 (qB (eF (eP jz (aa (eF (eP zN (aa (eF (aj 5)) (aa (eC (.int 5)) aq)))) (aa (eC (.int 4)) aq))))) (bT (eP bw (aa (eF (eP En (aa (eF (eP j9 (aa (eC (.str "yes")) (aa (eC (.str "no")) aq)))) (aa (eF (aO au (cg (aj 0) (aH (eC (.int 2)) aT)))) aq)))) aq))) c8)
 (bT (eP bw (aa (eC (.str "now")) (aa (eF (aO iU (cg (aj 0) (aH (cD 1 (eC (.str "names"))) (aH (eF (aj 2)) aT))))) aq))))) c8) (Yk au iU aD g7))
def cV (au:FM) (iU:FM) (aD:FM) (g7:FM):GS:=
 (aQ (bX 5 (aO au (cg (aj 0) (aH (eC (.int 9)) aT)))) (P4 au iU aD g7))
def iv4 (au:FM) (aD:FM):GS:=
 (bT (eP cH (aa (eF (aj 8)) (aa (eF (eP bw (aa (eF (aO aD (cg (aj 0) (cg (aj 1) (aH (eF (aj 2)) (aH (eF (eP nF (aa (eF (aj 3)) (aa (eC (.int 1)) aq)))) (aH (eF (eP nF (aa (eF (aj 4)) (aa (eC (.int 1)) aq)))) aT))))))) aq))) aq))))
def iv3 (au:FM) (aD:FM):GS:=
 (aQ (i8 (qB (eF (eP jz (aa (eF (aj 5)) (aa (eC (.int 3)) aq))))) (bX 8 (eP bw (aa (eC (.str "within")) (aa (eF (aO au (cg (aj 0) (aH (eC (.int 6)) aT)))) aq)))) c8) (iv4 au aD))
def ZP (au:FM) (aD:FM):GS:=
 (aQ (bX 8 (eP bw (aa (eF (eP En (aa (eF (eP j9 (aa (eC (.str "not")) (aa (eC (.str "next")) (aa (eC (.str "always")) (aa (eC (.str "some")) aq)))))) (aa (eF (eP zN (aa (eF (aj 5)) (aa (eC (.int 4)) aq)))) aq)))) aq))) (iv3 au aD))
def Uo (au:FM) (aD:FM):GS:=
 (aQ (i8 (lO (qB (eF (eP JX (aa (eF (aj 5)) (aa (eC (.int 3)) aq))))) (qB (eF (eP JX (aa (cD 1 (eC (.str "binders"))) (aa (eC (.int 3)) aq)))))) (aQ (Iu 1 (eC (.str "binders")) (eF (eP cH (aa (cD 1 (eC (.str "binders"))) (aa (eC (.int 1)) aq)))))
 (aQ (bX 6 (eT (cD 1 (eC (.str "names")))))
 (aQ (bX 7 (eP En (aa (eF (eP j9 (aa (eC (.str "x")) (aa (eC (.str "k")) (aa (eC (.str "a")) (aa (eC (.str "ab")) aq)))))) (aa (eF (aO au (cg (aj 0) (aH (eC (.int 4)) aT)))) aq))))
 (aQ (bX 8 (eP bw (aa (eF (eP En (aa (eF (eP j9 (aa (eC (.str "each")) (aa (eC (.str "one")) aq)))) (aa (eF (eP zN (aa (eF (aj 5)) (aa (eC (.int 2)) aq)))) aq)))) (aa (cD 6 (eF (aO au (cg (aj 0) (aH (jd 6) aT))))) (aa (eF (aj 7)) aq)))))
 (bT (eP cH (aa (eF (aj 8)) (aa (eF (eP bw (aa (eF (aO aD (cg (aj 0) (cg (aj 1) (aH (eF (eP cH (aa (eF (aj 2)) (aa (eF (eP bw (aa (eF (aj 7)) aq))) aq)))) (aH (eF (eP nF (aa (eF (aj 3)) (aa (eC (.int 1)) aq)))) (aH (eF (eP nF (aa (eF (aj 4)) (aa (eC (.int 1)) aq)))) aT))))))) aq))) aq)))))))) c8) (ZP au aD))
def dX (au:FM) (aD:FM):GS:=
 (aQ (bX 5 (aO au (cg (aj 0) (aH (eC (.int 8)) aT)))) (Uo au aD))
section
variable {f1 f2 f3 f4:FM}{T0 T1 T2 T3 T4:MO}{ws IE P5:List (Key×D)}{vs nd d1 d2:D}{room deep w:Int}
def RL (p1:f1 [.b T0,.t (.int 9)]=some (.t (.int w),[T1])):cV f1 f2 f3 f4 [some (.b T0),some (.b (.dct ws)),AAA vs,AAC room,AAC deep,none,none,none,none]=P4 f1 f2 f3 f4 [some (.b T1),some (.b (.dct ws)),AAA vs,AAC room,AAC deep,AAC w,none,none,none]:=by
 simp[cV,p1]
def svB (ha:¬room < 2) (hb:¬deep < 2) (hc:¬w=0):P4 f1 f2 f3 f4 [some (.b T1),some (.b (.dct ws)),AAA vs,AAC room,AAC deep,AAC w,none,none,none]=Yk f1 f2 f3 f4 [some (.b T1),some (.b (.dct ws)),AAA vs,AAC room,AAC deep,AAC w,none,none,none]:=by
 simp[P4,ha,hb,hc]
def ivA (p1:f1 [.b T0,.t (.int 8)]=some (.t (.int w),[T1])):dX f1 f2 [some (.b T0),some (.b (.dct ws)),AAA vs,AAC room,AAC deep,none,none,none,none]=Uo f1 f2 [some (.b T1),some (.b (.dct ws)),AAA vs,AAC room,AAC deep,AAC w,none,none,none]:=by
 simp[dX,p1]
def ivB {b:Int}(hb:b7 ws (.inr "binders")=some (.int b)) (h3:¬(w < 3/\b < 3)):Uo f1 f2 [some (.b T1),some (.b (.dct ws)),AAA vs,AAC room,AAC deep,AAC w,none,none,none]=ZP f1 f2 [some (.b T1),some (.b (.dct ws)),AAA vs,AAC room,AAC deep,AAC w,none,none,none]:=by
 by_cases a:w < 3
 ·have b:¬b < 3:=fun q=>h3 ⟨a,q⟩
  simp[Uo,a,hb,b]
 ·simp[Uo,a]
def Up {v:Int}{y:D}(p1:f1 [.b T0,.t (.int 9)]=some (.t (.int w),[T1])) (h:room < 2\/deep < 2\/w=0) (h5:w % 5=4) (p2:f1 [.b T1,.t (.int 2)]=some (.t (.int v),[T2])) (hy:gz [.str "yes",.str "no"] v=some y):
  aK 9 (cV f1 f2 f3 f4) [.b T0,.b (.dct ws),.t vs,.t (.int room),.t (.int deep)]=some (.t (.tup [y]),[T2,.dct ws]):=by
 by_cases a:room < 2
 ·simp[aK,RL p1,P4,a,h5,p2,hy,aL]
 ·by_cases b:deep < 2
  ·simp[aK,RL p1,P4,a,b,h5,p2,hy,aL]
  ·have c:w=0:=by rcases h with h | h | h;exact absurd h a;exact absurd h b;exact h
   subst c
   exact absurd h5 (by decide)
def Uq {d:D}(p1:f1 [.b T0,.t (.int 9)]=some (.t (.int w),[T1])) (h:room < 2\/deep < 2\/w=0) (h5:¬w % 5=4) (hn:b7 ws (.inr "names")=some nd) (p2:f2 [.b T1,.t nd,.t vs]=some (.t d,[T2])):
  aK 9 (cV f1 f2 f3 f4) [.b T0,.b (.dct ws),.t vs,.t (.int room),.t (.int deep)]=some (.t (.tup [.str "now",d]),[T2,.dct ws]):=by
 by_cases a:room < 2
 ·simp[aK,RL p1,P4,a,h5,hn,p2,aL]
 ·by_cases b:deep < 2
  ·simp[aK,RL p1,P4,a,b,h5,hn,p2,aL]
  ·have c:w=0:=by rcases h with h | h | h;exact absurd h a;exact absurd h b;exact h
   subst c
   simp[aK,RL p1,P4,a,b,hn,p2,aL]
def Ur {fi:Int}{y:D}(p1:f1 [.b T0,.t (.int 9)]=some (.t (.int w),[T1])) (ha:¬room < 2) (hb:¬deep < 2) (hc:¬w=0) (h5:w < 5) (h2:2 < room) (p2:f1 [.b T1,.t (.int (room - 2))]=some (.t (.int fi),[T2]))
  (p3:f3 [.b T2,.b (.dct ws),.t vs,.t (.int (1+fi)),.t (.int (deep - 1))]=some (.t d1,[T3,.dct IE])) (p4:f3 [.b T3,.b (.dct IE),.t vs,.t (.int (room - 1 - (1+fi))),.t (.int (deep - 1))]=some (.t d2,[T4,.dct P5])) (hy:gz [.str "both",.str "either",.str "till",.str "till"] (w - 1)=some y):
  aK 9 (cV f1 f2 f3 f4) [.b T0,.b (.dct ws),.t vs,.t (.int room),.t (.int deep)]=some (.t (.tup [y,d1,d2]),[T4,.dct P5]):=by
 simp[aK,RL p1,svB ha hb hc,Yk,ZO,h5,h2,p2,p3,p4,hy,aL]
def Yl (p1:f1 [.b T0,.t (.int 9)]=some (.t (.int w),[T1])) (ha:¬room < 2) (hb:¬deep < 2) (hc:¬w=0) (h:¬(w < 5/\2 < room)) (p2:f4 [.b T1,.b (.dct ws),.t vs,.t (.int room),.t (.int deep)]=some (.t d1,[T2,.dct IE])):
  aK 9 (cV f1 f2 f3 f4) [.b T0,.b (.dct ws),.t vs,.t (.int room),.t (.int deep)]=some (.t d1,[T2,.dct IE]):=by
 by_cases a:w < 5
 ·have b:¬2 < room:=fun q=>h ⟨a,q⟩
  simp[aK,RL p1,svB ha hb hc,Yk,ZO,a,b,p2,aL]
 ·simp[aK,RL p1,svB ha hb hc,Yk,ZO,a,p2,aL]
def Us {b x n:Int}{bl nl:List D}{xd hd nm:D}(p1:f1 [.b T0,.t (.int 8)]=some (.t (.int w),[T1])) (h3:w < 3) (hb:b7 ws (.inr "binders")=some (.int b)) (b3:b < 3) (hl:ws.length < 100000) (hp:putD ws (.inr "binders") (.int (b+1))=IE) (hn:b7 IE (.inr "names")=some (.lst nl))
  (p2:f1 [.b T1,.t (.int 4)]=some (.t (.int x),[T2])) (hx:gz [.str "x",.str "k",.str "a",.str "ab"] x=some xd) (hh:gz [.str "each",.str "one"] (w % 2)=some hd) (p3:f1 [.b T2,.t (.int (nl.length:Nat))]=some (.t (.int n),[T3])) (hm:gz nl n=some nm) (hv:bl.length+1<=100000)
  (p4:f2 [.b T3,.b (.dct IE),.t (.tup (bl++[xd])),.t (.int (room - 1)),.t (.int (deep - 1))]=some (.t d1,[T4,.dct P5])):
  aK 9 (dX f1 f2) [.b T0,.b (.dct ws),.t (.tup bl),.t (.int room),.t (.int deep)]=some (.t (.tup [hd,nm,xd,d1]),[T4,.dct P5]):=by
 simp[aK,ivA p1,Uo,h3,hb,b3,hl,hp,hn,p2,hx,hh,p3,hm,hv,p4,aL]
def Ut {b:Int}{hd:D}(p1:f1 [.b T0,.t (.int 8)]=some (.t (.int w),[T1])) (hb:b7 ws (.inr "binders")=some (.int b)) (h3:¬(w < 3/\b < 3)) (hw:¬w=3) (hh:gz [.str "not",.str "next",.str "always",.str "some"] (w % 4)=some hd)
  (p4:f2 [.b T1,.b (.dct ws),.t vs,.t (.int (room - 1)),.t (.int (deep - 1))]=some (.t d1,[T4,.dct P5])):
  aK 9 (dX f1 f2) [.b T0,.b (.dct ws),.t vs,.t (.int room),.t (.int deep)]=some (.t (.tup [hd,d1]),[T4,.dct P5]):=by
 simp[aK,ivA p1,ivB hb h3,ZP,iv3,iv4,hw,hh,p4,aL]
def Jf {k:Int}(p1:f1 [.b T0,.t (.int 8)]=some (.t (.int 3),[T1])) (p2:f1 [.b T1,.t (.int 6)]=some (.t (.int k),[T2]))
  (p4:f2 [.b T2,.b (.dct ws),.t vs,.t (.int (room - 1)),.t (.int (deep - 1))]=some (.t d1,[T4,.dct P5])):
  aK 9 (dX f1 f2) [.b T0,.b (.dct ws),.t vs,.t (.int room),.t (.int deep)]=some (.t (.tup [.str "within",.int k,d1]),[T4,.dct P5]):=by
 have hh:gz [D.str "not",.str "next",.str "always",.str "some"] 3=some (.str "some"):=rfl
 simp[aK,ivA p1,Uo,ZP,iv3,iv4,p2,hh,p4,aL]
end
def Ym:Nat->FM×FM
 | 0=>(fun a=>none,fun a=>none)
 | j+1=>(aK 9 (cV cG jH (Ym j).1 (Ym j).2),aK 9 (dX cG (Ym j).1))
def oJ (j:Nat):FM:=(Ym j).1
def DS (j:Nat):FM:=(Ym j).2
def P6 (j:Nat):∀us r,oJ (j+1) us=some r->aK 9 (cV cG jH (oJ j) (DS j)) us=some r:=fun a a h=>h
def P7 (j:Nat):∀us r,DS (j+1) us=some r->aK 9 (dX cG (oJ j)) us=some r:=fun a a h=>h
def Jg (us:List U):oJ 0 us=none:=rfl
def Jh (us:List U):DS 0 us=none:=rfl
def MD (nms:List Str) (f:FM) (deep room:Nat):Prop:=∀(t:dJ) (bs:List Str) (b:Nat),0<=t.n->t.n+8 * room < 700000->bs.length+deep < 800->(∀z∈bs,z.length<=8)->b<=3->
 ∃(d:D) (t':dJ) (bin:Nat),f [.b (tp t),.b (.dct (DQ nms b)),.t (.tup (bs.map D.str)),.t (.int room),.t (.int deep)]=some (.t d,[tp t',.dct (DQ nms ((b+bin:Nat):Int))])/\Dr deep bs room bin d/\b+bin<=3/\t.n<=t'.n/\t'.n<=t.n+8 * room
def Ji (h:z.length<=8):Lf 8 (.str z):=h
def yU (c:jX z=(r.length:Int)+1) (n1:z≠"now") (n2:z≠"within") (hb:b8 z=false):fO bs z r=true:=DP c n1 (fun q=>n2 q.1) hb
def ME  [hn:Fy nms] {f:FM}{deep:Nat}(hr:2<=room) (hd:2<=deep) (ih:MD nms f (deep - 1) (room - 1)):
  ∀(t:dJ) (bs:List Str) (b:Nat),0<=t.n->t.n+8 * room < 700002->bs.length+deep < 800->(∀z∈bs,z.length<=8)->b<=3->
  ∃(d:D) (t':dJ) (bin:Nat),aK 9 (dX cG f) [.b (tp t),.b (.dct (DQ nms b)),.t (.tup (bs.map D.str)),.t (.int room),.t (.int deep)]=some (.t d,[tp t',.dct (DQ nms ((b+bin:Nat):Int))])/\Dr deep bs room bin d/\b+bin<=3/\t.n<=t'.n/\t'.n+1<=t.n+8 * room:=by
 intro t bs b t0 t1 hl hs hb
 obtain⟨n,rfl⟩:∃n,deep=n+1:=⟨deep - 1,by lia⟩
 obtain⟨rm,rfl⟩:∃m,room=m+1:=⟨room - 1,by lia⟩
 have ih:MD nms f n rm:=ih
 refine aa5 fun ng=>?_
 have er:(((rm+1:Nat):Int) - 1)=(rm:Int):=by lia
 have ed:(((n+1:Nat):Int) - 1)=(n:Int):=by lia
 obtain⟨w,ta,p1,w0,w1,t1n⟩:=kC (t:=t) (m:=8) (by decide) (by decide) t0 (by lia)
 by_cases c:w < 3/\(b:Int) < 3
 ·obtain⟨x,tb,p2,x0,x1,We⟩:=kC (t:=ta) (m:=4) (by decide) (by decide) (by lia) (by lia)
  have q1:=hn.pos
  have q2:=hn.few
  obtain⟨m,tc,p3,m0,m1,t3n⟩:=kC (t:=tb) (m:=((N7 nms).length:Nat)) (by rw[(xA nms)];lia) (by rw[(xA nms)];lia) (by lia) (by lia)
  obtain⟨nm,a1,a2,a3⟩:=RJ m0 (by rw[(xA nms)] at m1;exact m1)
  obtain⟨xd,b1,b2⟩:=wk (x:=.cU) (l:=[.str "x",.str "k",.str "a",.str "ab"]) x0 x1
  obtain⟨hd,d1,d2⟩:=wk (x:=.cU) (l:=[.str "each",.str "one"]) (i:=w % 2) (aed _ (by decide)) (adU _ (by decide))
  obtain⟨xs,rfl,xn,xl⟩:∃xs,xd= .str xs/\nameB (.str xs)=true/\xs.length<=8:=by
   simp only[aaA,abb,ac7] at b2
   rcases b2 with rfl | rfl | rfl | rfl <;> exact⟨_,rfl,by decide +kernel,by decide⟩
  obtain⟨hs2,rfl,hbn,hhl,Dk⟩:∃z,hd= .str z/\b8 z=true/\z.length<=8/\jX z=4/\cN z=3/\z≠"now"/\z≠"within":=by
   simp only[aaA,abb,ac7] at d2
   rcases d2 with rfl | rfl <;> exact⟨_,rfl,by decide,by decide,by decide,by decide,by decide,by decide⟩
  obtain⟨l4,s3,n1,n2⟩:=Dk
  obtain⟨d,t',bin,g1,g2,g3,g4,g5⟩:=ih tc (bs++[xs]) (b+1) (by lia) (by lia) (by rw[aaB,ad0];lia) (by
   intro z hz
   rcases aaX.mp hz with q | q
   ·exact hs z q
   ·rw[show z=xs by simpa using q];exact xl) (by lia)
  have ev:(bs++[xs]).map D.str=bs.map D.str++[.str xs]:=by rw[acH];rfl
  have eb1:((b+1:Nat):Int)=(b:Int)+1:=by lia
  rw[ev,eb1] at g1
  have sh:fO bs hs2 [.str nm,.str xs,d]=true:=by
   unfold fO
   rw[if_pos (by rw[l4];rfl)]
   simp only[n1,n2,adi,hbn,if_true,a2,xn]
   rfl
  have pl:cA hs2 [.str nm,.str xs,d]=[d]:=by unfold cA;rw[s3];rfl
  have ib:jg bs hs2 [.str nm,.str xs,d]=bs++[xs]:=by unfold jg;rw[if_pos hbn];rfl
  have dr:=dr1 (n:=n) (room:=rm) (b:=bin) (bs:=bs) (z:=hs2) (r:=[.str nm,.str xs,d]) sh pl (by rw[ib];exact g2) ⟨(by show 4<=8;decide),Ji hhl,Ji a3,Ji xl,g2.fit,True.intro⟩ (by
   have:=g2.dep
   show max 0 (max 0 (max 0 (max (gC d) 0)))+1<=n+2
   lia)
  rw[if_pos hbn] at dr
  refine ng ⟨_,t',1+bin,?_,dr,by lia,by lia,by lia⟩
  have ebb:((b+(1+bin):Nat):Int)=((b+1+bin:Nat):Int):=by lia
  rw[ebb]
  exact Us (f1:=cG) (f2:=f) (ws:=DQ nms b) (IE:=DQ nms ((b:Int)+1)) (P5:=DQ nms ((b+1+bin:Nat):Int)) p1 c.1 (RI nms b) c.2 (by show 2 < 100000;decide) (Yh nms b _) (RH nms _) p2 b1 d1 p3 a1 (by rw[aaw];lia) (by rw[er,ed];exact g1)
 ·by_cases cw:w=3
  ·subst cw
   obtain⟨x,tb,p2,x0,x1,We⟩:=kC (t:=ta) (m:=6) (by decide) (by decide) (by lia) (by lia)
   obtain⟨d,t',bin,g1,g2,g3,g4,g5⟩:=ih tb bs b (by lia) (by lia) (by lia) hs hb
   have sh:fO bs "within" [.int x,d]=true:=by
    unfold fO
    rw[if_pos (by rw[Hi.2];rfl)]
    simp only[show ¬(("within":Str)="now") by decide,adi,if_true]
    show(decide (0<=x) && decide (x<=5))=true
    simp only[aa7,acU]
    lia
   have pl:cA "within" [.int x,d]=[d]:=by unfold cA;rw[show cN "within" =2 by decide];rfl
   have nb:b8 "within" =false:=by decide
   have ib:jg bs "within" [.int x,d]=bs:=by unfold jg;rw[if_neg (by rw[nb];simp)]
   have dr:=dr1 (n:=n) (room:=rm) (b:=bin) (bs:=bs) (z:="within") (r:=[.int x,d]) sh pl (by rw[ib];exact g2) ⟨(by show 3<=8;decide),(by show 6<=8;decide),True.intro,g2.fit,True.intro⟩ (by
    have:=g2.dep
    show max 0 (max 0 (max (gC d) 0))+1<=n+2
    lia)
   rw[if_neg (by rw[nb];simp),ad1] at dr
   exact ng ⟨_,t',bin,Jf p1 p2 (by rw[er,ed];exact g1),dr,g3,by lia,by lia⟩
  ·obtain⟨d,t',bin,g1,g2,g3,g4,g5⟩:=ih ta bs b (by lia) (by lia) (by lia) hs hb
   obtain⟨hd,d1,d2⟩:=wk (x:=.cU) (l:=[.str "not",.str "next",.str "always",.str "some"]) (i:=w % 4) (aed _ (by decide)) (adU _ (by decide))
   obtain⟨z,rfl,nb,zl,l2,s1,n1,n2⟩:∃z,hd= .str z/\b8 z=false/\z.length<=8/\jX z=2/\cN z=1/\z≠"now"/\z≠"within":=by
    simp only[aaA,abb,ac7] at d2
    rcases d2 with rfl | rfl | rfl | rfl <;> exact⟨_,rfl,by decide,by decide,by decide,by decide,by decide,by decide⟩
   have sh:fO bs z [d]=true:=yU (by rw[l2];rfl) n1 n2 nb
   have pl:cA z [d]=[d]:=by unfold cA;rw[s1];rfl
   have ib:jg bs z [d]=bs:=by unfold jg;rw[if_neg (by rw[nb];simp)]
   have dr:=dr1 (n:=n) (room:=rm) (b:=bin) (bs:=bs) (z:=z) (r:=[d]) sh pl (by rw[ib];exact g2) ⟨(by show 2<=8;decide),Ji zl,g2.fit,True.intro⟩ (by
    have:=g2.dep
    show max 0 (max (gC d) 0)+1<=n+2
    lia)
   rw[if_neg (by rw[nb];simp),ad1] at dr
   exact ng ⟨_,t',bin,Ut p1 (RI nms b) c cw d1 (by rw[er,ed];exact g1),dr,g3,by lia,by lia⟩
def Uu  [hn:Fy nms]:∀(deep:Nat),1<=deep->∀(j room:Nat),2 * deep<=j->1<=room->room<=100->MD nms (oJ j) deep room:=by
 intro deep
 induction deep with
 | zero=>intro h;lia
 | succ n ih=>
  intro _ j room hj hr hr9 t bs b t0 t1 hl hs hb
  obtain⟨i,rfl⟩:∃i,j=i+2:=⟨j - 2,by lia⟩
  obtain⟨w,ta,p1,w0,w1,t1n⟩:=kC (t:=t) (m:=9) (by decide) (by decide) t0 (by lia)
  show ∃d t' bin,aK 9 (cV cG jH (oJ (i+1)) (DS (i+1))) _=_/\_
  refine aa5 fun ng=>?_
  by_cases c:(room:Int) < 2\/((n+1:Nat):Int) < 2\/w=0
  ·by_cases c5:w % 5=4
   ·obtain⟨v,tb,p2,v0,v1,We⟩:=kC (t:=ta) (m:=2) (by decide) (by decide) (by lia) (by lia)
    obtain⟨y,y1,y2⟩:=wk (x:=.cU) (l:=[.str "yes",.str "no"]) v0 v1
    obtain⟨z,rfl,nb,zl,l2,s1,n1,n2⟩:∃z,y= .str z/\b8 z=false/\z.length<=8/\jX z=1/\cN z=1/\z≠"now"/\z≠"within":=by
     simp only[aaA,abb,ac7] at y2
     rcases y2 with rfl | rfl <;> exact⟨_,rfl,by decide,by decide,by decide,by decide,by decide,by decide⟩
    refine ng ⟨_,tb,0,Up p1 c c5 p2 y1,dr0 (yU (by rw[l2];rfl) n1 n2 nb) (by unfold cA;rw[s1];rfl) nb hr ⟨(by show 1<=8;decide),Ji zl,True.intro⟩ (by show max 0 0+1<=n+2;lia),hb,by lia,by lia⟩
   ·obtain⟨d,t',g1,g2,g3,g4,g5,g6⟩:=MC (nms:=nms) (t:=ta) (bs:=bs) (by lia) (by lia) (by lia) hs
    refine ng ⟨_,t',0,Uq p1 c c5 (RH nms b) g1,dr0 (z:="now") (r:=[d]) ?_ (by unfold cA;rw[show cN "now" =2 by decide];rfl) (by decide) hr ⟨(by show 2<=8;decide),(by show 3<=8;decide),g3,True.intro⟩ (by show max 0 (max (gC d) 0)+1<=n+2;lia),hb,by lia,by lia⟩
    unfold fO
    rw[if_pos (by rw[Hi.1];rfl)]
    simp only[if_true]
    exact g2
  ·have c1:¬(room:Int) < 2:=fun q=>c (.inl q)
   have c2:¬((n+1:Nat):Int) < 2:=fun q=>c (.inr (.inl q))
   have c3:¬w=0:=fun q=>c (.inr (.inr q))
   have ed:(((n+1:Nat):Int) - 1)=(n:Int):=by lia
   by_cases c4:w < 5/\2 < (room:Int)
   ·obtain⟨v,tb,p2,v0,v1,We⟩:=kC (t:=ta) (m:=(room:Int) - 2) (by lia) (by lia) (by lia) (by lia)
    obtain⟨r1,hr1⟩:∃r1:Nat,(r1:Int)=1+v:=⟨(1+v).toNat,by lia⟩
    obtain⟨r2,hr2⟩:∃r2:Nat,(r2:Int)=(room:Int) - 1 - (1+v):=⟨((room:Int) - 1 - (1+v)).toNat,by lia⟩
    obtain⟨d1,ta1,b1,g1,g2,g3,g4,g5⟩:=ih (by lia) (i+1) r1 (by lia) (by lia) (by lia) tb bs b (by lia) (by lia) (by lia) hs hb
    obtain⟨d2,ta2,b2,k1,k2,k3,k4,k5⟩:=ih (by lia) (i+1) r2 (by lia) (by lia) (by lia) ta1 bs (b+b1) (by lia) (by lia) (by lia) hs g3
    obtain⟨y,y1,y2⟩:=wk (x:=.cU) (l:=[.str "both",.str "either",.str "till",.str "till"]) (i:=w - 1) (by lia) (by simp only[aar,aeb];lia)
    obtain⟨z,rfl,nb,zl,l2,s1,n1,n2⟩:∃z,y= .str z/\b8 z=false/\z.length<=8/\jX z=3/\cN z=1/\z≠"now"/\z≠"within":=by
     simp only[aaA,abb,ac7] at y2
     rcases y2 with rfl | rfl | rfl | rfl <;> exact⟨_,rfl,by decide,by decide,by decide,by decide,by decide,by decide⟩
    have dr:=dr2 (n:=n) (bs:=bs) (z:=z) (r:=[d1,d2]) (yU (by rw[l2];rfl) n1 n2 nb) (by unfold cA;rw[s1];rfl) nb g2 k2 ⟨(by show 3<=8;decide),Ji zl,g2.fit,k2.fit,True.intro⟩ (by
     have:=g2.dep
     have:=k2.dep
     show max 0 (max (gC d1) (max (gC d2) 0))+1<=n+2
     lia)
    have ebb:((b+(b1+b2):Nat):Int)=((b+b1+b2:Nat):Int):=by lia
    refine ng ⟨_,ta2,b1+b2,?_,dr.more (by lia),by lia,by lia,by lia⟩
    rw[ebb]
    rw[hr1] at g1
    rw[hr2] at k1
    exact Ur p1 c1 c2 c3 c4.1 c4.2 p2 (by rw[ed];exact g1) (by rw[ed];exact k1) y1
   ·obtain⟨d,t',bin,g1,g2,g3,g4,g5⟩:=ME (f:=oJ i) (deep:=n+1) (room:=room) (by lia) (by lia) (ih (by lia) i (room - 1) (by lia) (by lia) (by lia)) ta bs b (by lia) (by lia) hl hs hb
    exact ng ⟨d,t',bin,Yl p1 c1 c2 c3 c4 g1,g2,g3,by lia,by lia⟩
theorem yV {f g:D->List D}:∀{ps:List D},(∀p∈ps,f p=g p)->ps.flatMap f=ps.flatMap g
 | [],_=>rfl
 | p :: ps,h=>by rw[aeu,aeu,h p aaR,yV fun q hq=>h q (aaP _ hq)]
def yW (n:Nat):(oU 0 n).length=n:=by unfold oU;rw[aaw,adG]
theorem A5:∀{n:Nat}{bs:List Str}{d:D},gZ n bs d=true->gZ (n+1) bs d=true/\cz (n+1) d=cz n d
 | 0,_,_,h=>by cases h
 | n+1,bs,d,h=>by
  obtain⟨z,r,rfl,h1,h2⟩:=yS h
  have up:=fun p hp=>A5 (h2 p hp)
  refine⟨(fW (n+1) bs z r).mpr ⟨h1,fun p hp=>(up p hp).1⟩,?_⟩
  show(.tup (.str z :: r):D) :: (cA z r).flatMap (cz (n+1))= .tup (.str z :: r) :: (cA z r).flatMap (cz n)
  rw[yV fun p hp=>(up p hp).2]
def Jj {m:Nat}{d:D}(hm:n<=m) (h:gZ n bs d=true):gZ m bs d=true/\cz m d=cz n d:=by
  induction m with
  | zero => obtain rfl : n = 0 := by lia
            exact⟨h,rfl⟩
  | succ m ih=>
    by_cases e:n=m+1
    . subst e;exact⟨h,rfl⟩
    . obtain⟨a,b⟩:=ih (by lia)
      obtain⟨c,d⟩:=A5 a
      exact⟨c,d.trans b⟩
end Sn
end
section
namespace Sp
open PySem PySem.Spec PyProof.Rows L2 Sw Ss Sn
variable {zs bs xs:List Str}{z:Str}{p:D}{n:Nat}
noncomputable def J3:List Str:=["not","next","always","some"]
noncomputable def J4:List Str:=["both","either","till"]
inductive Ts (bs:List Str):D->Prop where
 | any:Ts bs (.tup [.str "any"])
 | name {a:Str}:nameB (.str a)=true->Ts bs (.tup [.str "name",.str a])
 | num {o:Str}{k:Int}:o∈yR->0<=k->k<=9->Ts bs (.tup [.str o,.int k])
 | var {o y:Str}:o∈yR->y∈bs->Ts bs (.tup [.str o,.str y])
inductive Sy:Nat->List Str->D->Prop where
 | leaf {n:Nat}{bs:List Str}{z:Str}:z="yes"\/z="no"->Sy (n+1) bs (.tup [.str z])
 | now {n:Nat}{bs:List Str}{t:D}:Ts bs t->Sy (n+1) bs (.tup [.str "now",t])
 | one {n:Nat}{bs:List Str}{z:Str}{p:D}:z∈J3->Sy n bs p->Sy (n+1) bs (.tup [.str z,p])
 | two {n:Nat}{bs:List Str}{z:Str}{p q:D}:z∈J4->Sy n bs p->Sy n bs q->Sy (n+1) bs (.tup [.str z,p,q])
 | xB {n:Nat}{bs:List Str}{k:Int}{p:D}:0<=k->k<=5->Sy n bs p->Sy (n+1) bs (.tup [.str "within",.int k,p])
 | bnd {n:Nat}{bs:List Str}{z a y:Str}{p:D}:z="each"\/z="one"->nameB (.str a)=true->nameB (.str y)=true->Sy n (bs++[y]) p->Sy (n+1) bs (.tup [.str z,.str a,.str y,p])
def Hj {x:D}(h:inD x (zs.map D.str)=true):∃z∈zs,x= .str z:=by
 unfold inD at h
 rw[afC,ac6] at h
 obtain⟨z,hz,e⟩:=h
 exact⟨z,hz,uY (show nI (.str z) x=true from e)⟩
def uc (h:z∈zs):inD (.str z) (zs.map D.str)=true:=by
 unfold inD
 rw[afC,ac6]
 exact⟨z,h,mT _⟩
def A6 {b:D}{m:Int}(h:jB b 0 m=true):∃k,b= .int k/\0<=k/\k<=m:=by
 cases b with
 | int k=>simp only[jB,aa7,acU] at h;exact⟨k,rfl,h.1,h.2⟩
 | _=>cases h
def Ts.of {t:D}(h:rE bs t=true):Ts bs t:=by
 unfold rE at h
 split at h
 ·rename_i a
  have:nI (.str "any") a=true:=by cases a <;> simp[nI] at h ⊢;exact h.symm
  rw[uY this]
  exact .any
 ·rename_i a b
  split at h
  ·rename_i c
   have:nI (.str "name") a=true:=by cases a <;> simp[nI] at c ⊢;exact c.symm
   rw[uY this]
   obtain⟨y,rfl⟩:=pQ h
   exact .name h
  ·obtain⟨h1,h2⟩:=adJ.mp h
   obtain⟨o,ho,rfl⟩:=Hj h1
   rcases Bool.or_eq_true_iff.mp h2 with q | q
   ·obtain⟨k,rfl,k0,k1⟩:=A6 q
    exact .num ho k0 k1
   ·obtain⟨y,hy,rfl⟩:=Hj q
    exact .var ho hy
 ·cases h
def lg {o:Str}(h:o∈yR):o≠"name"/\o≠"any":=by
 simp only[yR,aaA,abb,ac7] at h
 rcases h with rfl | rfl | rfl <;> decide
def Ts.test {t:D}(h:Ts bs t):rE bs t=true:=by
 cases h with
 | any=>rfl
 | name h=>simp[rE,h]
 | num ho k0 k1=>
  have:=uc ho
  have n:=(lg ho).1
  simp[rE,this,n,jB,k0,k1]
 | var ho hy=>
  have h1:=uc ho
  have h2:=uc hy
  have n:=(lg ho).1
  simp[rE,h1,h2,n]
theorem Sy.of:∀{n:Nat}{bs:List Str}{d:D},gZ n bs d=true->Sy n bs d
 | 0,_,_,h=>by cases h
 | n+1,bs,d,h=>by
  obtain⟨z,r,rfl,hs,hp⟩:=yS h
  obtain⟨c,hh,hz⟩:=Fx hs
  unfold fO at hs
  rw[if_pos c] at hs
  simp only[iy,aaA,abb,ac7] at hz
  have two:∀{k:Nat},jX z=(k:Int)+1->r.length=k:=fun e=>by lia
  have l0:r.length=0->r=[]:=List.eq_nil_of_length_eq_zero
  have l1:r.length=1->∃a,r=[a]:=fun e=>by match r,e with | [a],_=>exact⟨a,rfl⟩
  have l2:r.length=2->∃a b,r=[a,b]:=fun e=>by match r,e with | [a,b],_=>exact⟨a,b,rfl⟩
  have l3:r.length=3->∃a b p,r=[a,b,p]:=fun e=>by match r,e with | [a,b,p],_=>exact⟨a,b,p,rfl⟩
  rcases hz with rfl | rfl | rfl | rfl | rfl | rfl | rfl | rfl | rfl | rfl | rfl | rfl | rfl
  ·rw[l0 (two (k:=0) (by decide))];exact .leaf (.inl rfl)
  ·rw[l0 (two (k:=0) (by decide))];exact .leaf (.inr rfl)
  ·obtain⟨a,rfl⟩:=l1 (two (k:=1) (by decide));exact .now (.of hs)
  ·obtain⟨a,rfl⟩:=l1 (two (k:=1) (by decide));exact .one (by decide) (Sy.of (hp a (by show a∈[a];simp)))
  ·obtain⟨a,b,rfl⟩:=l2 (two (k:=2) (by decide));exact .two (by decide) (Sy.of (hp a (by show a∈[a,b];simp))) (Sy.of (hp b (by show b∈[a,b];simp)))
  ·obtain⟨a,b,rfl⟩:=l2 (two (k:=2) (by decide));exact .two (by decide) (Sy.of (hp a (by show a∈[a,b];simp))) (Sy.of (hp b (by show b∈[a,b];simp)))
  ·obtain⟨a,rfl⟩:=l1 (two (k:=1) (by decide));exact .one (by decide) (Sy.of (hp a (by show a∈[a];simp)))
  ·obtain⟨a,b,rfl⟩:=l2 (two (k:=2) (by decide));exact .two (by decide) (Sy.of (hp a (by show a∈[a,b];simp))) (Sy.of (hp b (by show b∈[a,b];simp)))
  ·obtain⟨a,b,rfl⟩:=l2 (two (k:=2) (by decide));obtain⟨k,rfl,k0,k1⟩:=A6 (m:=5) hs;exact .xB k0 k1 (Sy.of (hp b (by show b∈[b];simp)))
  ·obtain⟨a,rfl⟩:=l1 (two (k:=1) (by decide));exact .one (by decide) (Sy.of (hp a (by show a∈[a];simp)))
  ·obtain⟨a,rfl⟩:=l1 (two (k:=1) (by decide));exact .one (by decide) (Sy.of (hp a (by show a∈[a];simp)))
  ·obtain⟨a,b,p,rfl⟩:=l3 (two (k:=3) (by decide))
   obtain⟨h1,h2⟩:=adJ.mp (show(nameB a && nameB b)=true from hs)
   obtain⟨x,rfl⟩:=pQ h1;obtain⟨y,rfl⟩:=pQ h2
   exact .bnd (.inl rfl) h1 h2 (Sy.of (hp p (by show p∈[p];simp)))
  ·obtain⟨a,b,p,rfl⟩:=l3 (two (k:=3) (by decide))
   obtain⟨h1,h2⟩:=adJ.mp (show(nameB a && nameB b)=true from hs)
   obtain⟨x,rfl⟩:=pQ h1;obtain⟨y,rfl⟩:=pQ h2
   exact .bnd (.inr rfl) h1 h2 (Sy.of (hp p (by show p∈[p];simp)))
def dF (h:z∈J3):z="not"\/z="next"\/z="always"\/z="some":=by simpa[J3] using h
def dO (h:z∈J4):z="both"\/z="either"\/z="till":=by simpa[J4] using h
def Sy.gZ {n:Nat}{bs:List Str}{d:D}(h:Sy n bs d):gZ n bs d=true:=by
 induction h with
 | leaf h=>rcases h with rfl | rfl <;> rfl
 | @now n bs t h=>have e:=h.test;rw[fW];exact⟨e,fun p hp=>by cases hp⟩
 | one hz _ ih=>rcases dF hz with rfl | rfl | rfl | rfl <;> (rw[fW];exact⟨rfl,fun p hp=>by rw[aax.mp (show p∈[_] from hp)];exact ih⟩)
 | two hz _ _ i1 i2=>
  have two:∀{p q x:D}{f:D->Prop},f p->f q->x∈[p,q]->f x:=fun h1 h2 hx=>by
   rcases aaA.mp hx with e | e
   ·rw[e];exact h1
   ·rw[aax.mp e];exact h2
  rcases dO hz with rfl | rfl | rfl <;> (rw[fW];exact⟨rfl,fun p hp=>two (f:=fun x=>Ss.gZ _ _ x=true) i1 i2 hp⟩)
 | @xB n bs k p k0 k1 _ ih=>rw[fW];exact⟨by show jB (.int k) 0 5=true;simp[jB,k0,k1],fun p hp=>by rw[aax.mp (show p∈[_] from hp)];exact ih⟩
 | @bnd n bs z a y p hz h1 h2 _ ih=>
  rcases hz with rfl | rfl <;> (rw[fW];exact⟨by show(nameB (.str a) && nameB (.str y))=true;rw[h1,h2];rfl,fun p hp=>by rw[aax.mp (show p∈[_] from hp)];exact ih⟩)
def Ts.mono {cs:List Str}{t:D}(h:Ts bs t) (k:∀y∈bs,y∈cs):Ts cs t:=by
 cases h with
 | any=>exact .any
 | name h=>exact .name h
 | num a b c=>exact .num a b c
 | var a b=>exact .var a (k _ b)
def Sy.mono {n:Nat}{bs:List Str}{d:D}(h:Sy n bs d):∀{cs:List Str},(∀y∈bs,y∈cs)->Sy n cs d:=by
 induction h with
 | leaf h=>exact fun c=>.leaf h
 | now h=>exact fun k=>.now (h.mono k)
 | one hz _ ih=>exact fun k=>.one hz (ih k)
 | two hz _ _ i1 i2=>exact fun k=>.two hz (i1 k) (i2 k)
 | xB a b _ ih=>exact fun k=>.xB a b (ih k)
 | bnd hz a b _ ih=>exact fun k=>.bnd hz a b (ih fun y hy=>by
   rcases aaX.mp hy with q | q
   ·exact aaX.mpr (.inl (k y q))
   ·exact aaX.mpr (.inr q))
noncomputable def u5 (xs:List Str) (k:D):D->D
 | .tup [.str o,.str y]=>if o≠"name"/\y∈xs then .tup [.str o,k] else .tup [.str o,.str y]
 | t=>t
def iC:Nat->List Str->D->D->D
 | n+1,xs,k,.tup [.str z,p]=>if z="now" then .tup [.str z,u5 xs k p] else .tup [.str z,iC n xs k p]
 | n+1,xs,k,.tup [.str z,p,q]=>if z="within" then .tup [.str z,p,iC n xs k q] else .tup [.str z,iC n xs k p,iC n xs k q]
 | n+1,xs,k,.tup [.str z,a,.str y,p]=>.tup [.str z,a,.str y,iC n (xs.filter fun x=>decide (x≠y)) k p]
 | _,_,_,d=>d
def yX (h:z∈J3):z≠"now":=by rcases dF h with rfl | rfl | rfl | rfl <;> decide
def pR (h:z∈J4):z≠"within":=by rcases dO h with rfl | rfl | rfl <;> decide
section
variable {n:Nat}{xs:List Str}{k:D}
def m6 :iC n xs k (.tup [.str z])= .tup [.str z]:=by cases n <;> rfl
def qK {t:D}:iC (n+1) xs k (.tup [.str "now",t])= .tup [.str "now",u5 xs k t]:=by show(if _ then _ else _)=_;rw[if_pos rfl]
def qL (h:z∈J3):iC (n+1) xs k (.tup [.str z,p])= .tup [.str z,iC n xs k p]:=by show(if _ then _ else _)=_;rw[if_neg (yX h)]
def qM {q:D}(h:z∈J4):iC (n+1) xs k (.tup [.str z,p,q])= .tup [.str z,iC n xs k p,iC n xs k q]:=by show(if _ then _ else _)=_;rw[if_neg (pR h)]
def qN {q:D}:iC (n+1) xs k (.tup [.str "within",p,q])= .tup [.str "within",p,iC n xs k q]:=by show(if _ then _ else _)=_;rw[if_pos rfl]
def qO {y:Str}{a:D}:iC (n+1) xs k (.tup [.str z,a,.str y,p])= .tup [.str z,a,.str y,iC n (xs.filter fun x=>decide (x≠y)) k p]:=rfl
end
def P8 {k t:D}(h:Ts bs t) (hx:∀x∈xs,x∉bs):u5 xs k t=t:=by
 cases h with
 | any=>rfl
 | name h=>kernel_rfl
 | num a b c=>rfl
 | var a b=>show(if _ then _ else _)=_;rw[if_neg (fun q=>hx _ q.2 b)]
def MF {k d:D}(h:Sy n bs d):∀{xs:List Str},(∀x∈xs,x∉bs)->iC n xs k d=d:=by
 induction h with
 | leaf h=>exact fun c=>m6
 | now h=>intro xs hx;rw[qK,P8 h hx]
 | one hz _ ih=>intro xs hx;rw[qL hz,ih hx]
 | two hz _ _ i1 i2=>intro xs hx;rw[qM hz,i1 hx,i2 hx]
 | xB a b _ ih=>intro xs hx;rw[qN,ih hx]
 | bnd hz a b _ ih=>
  intro xs hx
  rw[qO,ih fun x hx'=>?_]
  obtain⟨h1,h2⟩:=adB.mp hx'
  intro q
  rcases aaX.mp q with q | q
  ·exact hx x h1 q
  ·exact aep h2 (aax.mp q)
def P9 {i:Int}{t:D}(h:Ts bs t) (h0:0<=i) (h9:i<=9):Ts (bs.filter fun y=>decide (y∉xs)) (u5 xs (.int i) t):=by
 cases h with
 | any=>exact .any
 | name h=>simp[u5];exact .name h
 | num a b c=>exact .num a b c
 | @var o y a b=>
  show Ts _ (if _ then _ else _)
  split
  ·exact .num a h0 h9
  ·rename_i q
   exact .var a (adB.mpr ⟨b,ab6 fun z=>q ⟨(lg a).1,z⟩⟩)
def MG {i:Int}{d:D}(h:Sy n bs d) (h0:0<=i) (h9:i<=9):∀(xs:List Str),Sy n (bs.filter fun y=>decide (y∉xs)) (iC n xs (.int i) d):=by
 induction h with
 | leaf h=>intro xs;rw[m6];exact .leaf h
 | now h=>intro xs;rw[qK];exact .now (P9 h h0 h9)
 | one hz _ ih=>intro xs;rw[qL hz];exact .one hz (ih xs)
 | two hz _ _ i1 i2=>intro xs;rw[qM hz];exact .two hz (i1 xs) (i2 xs)
 | xB a b _ ih=>intro xs;rw[qN];exact .xB a b (ih xs)
 | @bnd n bs z a y p hz ha hb _ ih=>
  intro xs
  rw[qO]
  refine .bnd hz ha hb ((ih _).mono fun w hw=>?_)
  obtain⟨h1,h2⟩:=adB.mp hw
  have h2:=aep h2
  rcases aaX.mp h1 with q | q
  ·by_cases e:w=y
   ·exact aaX.mpr (.inr (by rw[e];simp))
   ·exact aaX.mpr (.inl (adB.mpr ⟨q,ab6 fun z=>h2 (adB.mpr ⟨z,ab6 e⟩)⟩))
  ·exact aaX.mpr (.inr q)
def g8:GS:=
 (bT (eT (eQ (lO (qB (eF (eP jz (aa (jd 0) (aa (eC (.int 2)) aq))))) (lO (qB (eF (eP Tp (aa (cD 0 (eC (.int 0))) (aa (eC (.str "name")) aq))))) (qB (Y4 ["str"] (cD 0 (eC (.int 1))))))))))
def dP (zV:FM) (d9:FM) (lq:FM):GS:=
 (aQ (i8 (qB (eF (eP jz (aa (cD 0 (eC (.int 0))) (aa (eC (.str "now")) aq))))) (aQ (i8 (lO (qB (eF (aO zV (aH (cD 0 (eC (.int 1))) aT)))) (qB (eF (eP jz (aa (eF (eP En (aa (cD 0 (eC (.int 1))) (aa (eC (.int 1)) aq)))) (aa (eF (aj 1)) aq)))))) (bT (eP bw (aa (eC (.str "now")) (aa (eF (eP bw (aa (eF (eP En (aa (cD 0 (eC (.int 1))) (aa (eC (.int 0)) aq)))) (aa (eF (aj 2)) aq)))) aq)))) c8)
 (bT (aj 0))) c8)
 (aQ (i8 (lO (qB (yE false ["each","one"] (cD 0 (eC (.int 0))))) (qB (eF (eP jz (aa (cD 0 (eC (.int 2))) (aa (eF (aj 1)) aq)))))) (bT (aj 0)) c8)
 (bT (eP cH (aa (eF (yx (eF (aj 0)) none (some (zR [("yes",1),("no",1),("now",2),("not",1),("both",1),("either",1),("next",1),("till",1),("within",2),("always",1),("some",1),("each",3),("one",3)] (cD 0 (eC (.int 0))))))) (aa (eF (eP BO (aa (eF (jy [2,1] (zO (eF (aO d9 (aH (eF (aj 0)) aT)))) cF (eF (aO lq (aH (eF (aj 0)) (aH (eF (aj 2)) (aH (eF (aj 1)) aT))))))) aq))) aq))))))
def Hl:FM:=aK 1 g8
def Uv:∀us r,Hl us=some r->aK 1 g8 us=some r:=fun a a h=>h
noncomputable def Wf:D->Bool
 | .tup [.str o,.str _]=>decide (o≠"name")
 | _=>false
def Yn {t:D}(h:Ts bs t):Hl [.t t]=some (.t (.bl (Wf t)),[]):=by
 cases h with
 | any=>kernel_rfl
 | @name a h=>kernel_rfl
 | @num o k a b c=>have n:=(lg a).1;simp[Hl,aK,g8,aL,Wf,dD,gO,n,rA,yt,rN]
 | @var o y a b=>have n:=(lg a).1;simp[Hl,aK,g8,aL,Wf,dD,gO,n,rA,yt,rN]
def iP {r:List D}(hz:z∈iy){pl:List D}(h:(.str z :: r).drop (cN z)=pl):jf [.t (.tup (.str z :: r))]=some (.t (.tup pl),[]):=by rw[DO (lX z hz),h]
def pS (h:z∈J3):z∈iy/\cN z=1/\b8 z=false/\z≠"now":=by rcases dF h with rfl | rfl | rfl | rfl <;> decide
def pT (h:z∈J4):z∈iy/\cN z=1/\b8 z=false/\z≠"now":=by rcases dO h with rfl | rfl | rfl <;> decide
def m8 (h:z="yes"\/z="no"):z∈iy/\cN z=1/\b8 z=false/\z≠"now":=by rcases h with rfl | rfl <;> decide
def pU:("within":Str)∈iy/\cN "within" =2/\b8 "within" =false/\("within":Str)≠"now":=by decide
def pW (h:z="each"\/z="one"):z∈iy/\cN z=3/\b8 z=true/\z≠"now":=by rcases h with rfl | rfl <;> decide
def MH (ds:List D) (k:Nat):L2.cutD ds none (some (k:Int))=ds.take k:=by
 unfold L2.cutD
 rw[HT.CT,HT.Gx,afJ,afz]
 by_cases h:k<=ds.length
 ·rw[Nat.min_eq_left h]
 ·rw[Nat.min_eq_right (by lia),adl (aaC _),adl (by lia)]
section
variable {f1 f2 f3:FM}{t k:D}{x z:Str}{r pl ql:List D}
def Qa (hz:z≠"now") (hb:b8 z=true){a:D}(hr:r=a :: .str x :: pl):aK 3 (dP f1 f2 f3) [.t (.tup (.str z :: r)),.t (.str x),.t k]=some (.t (.tup (.str z :: r)),[]):=by
 subst hr
 unfold b8 J2 at hb
 simp only[aaQ,acN] at hb
 simp[aK,dP,aL,dD,lW,hz,hb]
def xC {b:Bool}(e1:f1 [.t t]=some (.t (.bl b),[])) (h:b=true->∃o y:Str,t= .tup [.str o,.str y]/\y≠x):aK 3 (dP f1 f2 f3) [.t (.tup [.str "now",t]),.t (.str x),.t k]=some (.t (.tup [.str "now",t]),[]):=by
 cases b with
 | false=>simp[aK,dP,aL,dD,gO,e1]
 | true=>
  obtain⟨o,y,rfl,hn⟩:=h rfl
  simp[aK,dP,aL,dD,gO,e1,hn]
def Qc {o:Str}(e1:f1 [.t (.tup [.str o,.str x])]=some (.t (.bl true),[])):aK 3 (dP f1 f2 f3) [.t (.tup [.str "now",.tup [.str o,.str x]]),.t (.str x),.t k]=some (.t (.tup [.str "now",.tup [.str o,k]]),[]):=by
 simp[aK,dP,aL,dD,gO,e1]
def DT (hz:z≠"now") (hh:B9 z) (hb:b8 z=false\/∃(a:D) (y:Str) (q:List D),r=a :: .str y :: q/\y≠x) (e2:f2 [.t (.tup (.str z :: r))]=some (.t (.tup pl),[])) (hl:pl.length<=2) (g:D->D) (e3:∀p∈pl,f3 [.t p,.t (.str x),.t k]=some (.t (g p),[])):
  aK 3 (dP f1 f2 f3) [.t (.tup (.str z :: r)),.t (.str x),.t k]=some (.t (.tup ((.str z :: r).take (cN z)++pl.map g)),[]):=by
 have e:=hh.Eo
 unfold ZL at e
 have c:=MH (.str z :: r) (cN z)
 have e4:=A3 (cap:=[2,1]) (g:=eF (aO f3 (aH (eF (aj 0)) (aH (eF (aj 2)) (aH (eF (aj 1)) aT))))) (S:=[AAA (.tup (.str z :: r)),AAA (.str x),AAA k]) (ts:=[k,.str x]) rfl g pl [] (by
  intro p hp
  simp[e3 p hp])
 rw[adT] at e4
 have l1:pl.length<=100000:=by lia
 have l2:((.str z :: r).take (cN z)).length<=4:=by rw[ad4];have:=hh.s4;have:=hh.l4;lia
 have l3:((D.str z :: r).take (cN z)).length+pl.length<=100000:=by lia
 have i1:=P0 z
 rcases hb with hb | ⟨a,y,q,rfl,hy⟩
 ·unfold b8 J2 at hb
  simp only[aaQ,acN] at hb
  simp[-List.length_take,aK,dP,aL,dD,lW,hz,hb,e,je,e2,e4,l1,c,l3]
 ·cases hb:b8 z with
  | false=>
   unfold b8 J2 at hb
   simp only[aaQ,acN] at hb
   simp[-List.length_take,aK,dP,aL,dD,lW,hz,hb,e,je,e2,e4,l1,c,l3]
  | true=>
   unfold b8 J2 at hb
   simp only[aaQ,acN] at hb
   simp[-List.length_take,aK,dP,aL,dD,lW,hz,hb,e,je,e2,e4,l1,c,l3,hy]
end
def d8:Nat->FM
 | 0=>fun a=>none
 | j+1=>aK 3 (dP Hl jf (d8 j))
def Qd (j:Nat):∀us r,d8 (j+1) us=some r->aK 3 (dP Hl jf (d8 j)) us=some r:=fun a a h=>h
def Jk (us:List U):d8 0 us=none:=rfl
def Ho {d:D}(h:Sy n bs d) (x:Str) (k:D):∀{j:Nat},n<=j->d8 j [.t d,.t (.str x),.t k]=some (.t (iC n [x] k d),[]):=by
 induction h with
 | @leaf n bs z h=>
  intro j hj
  obtain⟨j,rfl⟩:∃i,j=i+1:=⟨j - 1,by lia⟩
  obtain⟨h1,h2,h3,h4⟩:=m8 h
  have e:=DT (f1:=Hl) (f3:=d8 j) (x:=x) (k:=k) h4 (lX z h1) (.inl h3) (iP (r:=[]) (pl:=[]) h1 (by rw[h2] <;> rfl)) (by decide) id (fun p hp=>by cases hp)
  rw[h2] at e
  rw[m6]
  exact e
 | @now n bs t h=>
  intro j hj
  obtain⟨j,rfl⟩:∃i,j=i+1:=⟨j - 1,by lia⟩
  rw[qK]
  have hv:=Yn h
  cases h with
  | any=>exact xC hv (fun q=>by cases q)
  | @name a h=>rw[show u5 [x] k (.tup [.str "name",.str a])= .tup [.str "name",.str a] by kernel_rfl];exact xC hv (fun q=>absurd q (by simp[Wf]))
  | num a b c=>exact xC hv (fun q=>by cases q)
  | @var o y a b=>
   have n:=(lg a).1
   by_cases e:y=x
   ·subst e
    rw[show u5 [y] k (.tup [.str o,.str y])= .tup [.str o,k] by simp[u5,n]]
    rw[show Wf (.tup [.str o,.str y])=true by simp[Wf,n]] at hv
    exact Qc hv
   ·rw[show u5 [x] k (.tup [.str o,.str y])= .tup [.str o,.str y] by simp[u5,e]]
    exact xC hv (fun f=>⟨o,y,rfl,e⟩)
 | @one n bs z p hz _ ih=>
  intro j hj
  obtain⟨j,rfl⟩:∃i,j=i+1:=⟨j - 1,by lia⟩
  obtain⟨h1,h2,h3,h4⟩:=pS hz
  have e:=DT (f1:=Hl) (f3:=d8 j) (x:=x) (k:=k) h4 (lX z h1) (.inl h3) (iP (r:=[p]) (pl:=[p]) h1 (by rw[h2] <;> rfl)) (by simp) (iC n [x] k) (fun p hp=>by rw[aax.mp hp];exact ih (by lia))
  rw[h2] at e
  rw[qL hz]
  exact e
 | @two n bs z p q hz _ _ i1 i2=>
  intro j hj
  obtain⟨j,rfl⟩:∃i,j=i+1:=⟨j - 1,by lia⟩
  obtain⟨h1,h2,h3,h4⟩:=pT hz
  have e:=DT (f1:=Hl) (f3:=d8 j) (x:=x) (k:=k) h4 (lX z h1) (.inl h3) (iP (r:=[p,q]) (pl:=[p,q]) h1 (by rw[h2] <;> rfl)) (by simp) (iC n [x] k) (fun w hw=>by
   rcases aaA.mp hw with e | e
   ·rw[e];exact i1 (by lia)
   ·rw[aax.mp e];exact i2 (by lia))
  rw[h2] at e
  rw[qM hz]
  exact e
 | @xB n bs i p _ _ _ ih=>
  intro j hj
  obtain⟨j,rfl⟩:∃i,j=i+1:=⟨j - 1,by lia⟩
  obtain⟨h1,h2,h3,h4⟩:=pU
  have e:=DT (f1:=Hl) (f3:=d8 j) (x:=x) (k:=k) h4 (lX _ h1) (.inl h3) (iP (r:=[.int i,p]) (pl:=[p]) h1 rfl) (by simp) (iC n [x] k) (fun p hp=>by rw[aax.mp hp];exact ih (by lia))
  rw[h2] at e
  rw[qN]
  exact e
 | @bnd n bs z a y p hz _ _ hp ih=>
  intro j hj
  obtain⟨j,rfl⟩:∃i,j=i+1:=⟨j - 1,by lia⟩
  obtain⟨h1,h2,h3,h4⟩:=pW hz
  rw[qO]
  by_cases e:x=y
  ·subst e
   rw[aaT (by simp),aeN,MF hp fun x hx=>by cases hx]
   exact Qa h4 h3 rfl
  ·rw[acF (by simpa using e),aeN]
   have e:=DT (f1:=Hl) (f3:=d8 j) (x:=x) (k:=k) h4 (lX z h1) (.inr ⟨.str a,y,[p],rfl,fun q=>e q.symm⟩) (iP (r:=[.str a,.str y,p]) (pl:=[p]) h1 (by rw[h2] <;> rfl)) (by simp) (iC n [x] k) (fun p hp=>by rw[aax.mp hp];exact ih (by lia))
   rw[h2] at e
   exact e
end Sp
end
section
namespace Sh
open PySem PySem.Spec PyProof.Rows L2 Sw Ss Sn Sp
variable {x y w u x4 x5 x6:Option U}{bs:List Str}{n i:Nat}{z a:Str}{c:List Bool}{g:Nat->Bool}{S S1:SS}{A:GS}{kvs kvs':List (D×D)}{acc:List D}{κ:Type}
abbrev Row:=List (Str×Int)
abbrev Ev:=Str->Option Int
noncomputable def u6 (e:Ev) (y:Str) (m:Int):Ev:=fun x=>if x=y then some m else e x
noncomputable def iD:Ev:=fun a=>none
noncomputable def wO (e:Ev):D->Int
 | .int k=>k
 | .str y=>(e y).getD 0
 | _=>0
def N8 (e:Ev) (h:Str×Int):D->Bool
 | .tup [.str o,v]=>if o="name" then(match v with | .str a=>decide (h.1=a) | _=>false) else if o="less" then decide (h.2 < wO e v) else if o="same" then decide (h.2=wO e v) else decide (wO e v < h.2)
 | .tup [_]=>true
 | _=>false
noncomputable def acd:D->Nat
 | .int n=>n.toNat
 | _=>0
noncomputable def gQ (n:Nat) (f:Nat->Bool):Bool:=(List.range n).any f
noncomputable def gR (n:Nat) (f:Nat->Bool):Bool:=(List.range n).all f
def ev (R:Row) (e:Ev) (d:D) (i:Nat):Bool:=
 match d with
 | .tup [.str z]=>decide (z="yes")
 | .tup [.str z,p]=>
  if z="now" then(match R[i]? with | some h=>N8 e h p | none=>false)
  else if z="not" then !ev R e p i
  else if z="next" then decide (i < R.length) && ev R e p (i+1)
  else if z="always" then gR (R.length - i) fun k=>ev R e p (i+k)
  else gQ (R.length - i) fun k=>ev R e p (i+k)
 | .tup [.str z,a,q]=>
  if z="within" then(gQ (min (R.length - i) (acd a)) fun k=>ev R e q (i+k))
  else if z="both" then ev R e a i && ev R e q i
  else if z="either" then ev R e a i || ev R e q i
  else gQ (R.length - i) fun k=>ev R e q (i+k) && gR k fun j=>ev R e a (i+j)
 | .tup [.str z,.str a,.str y,p]=>
  if z="each" then gR (R.length - i) fun k=>match R[i+k]? with | some h=>if h.1=a then ev R (u6 e y h.2) p (i+k) else true | none=>true
  else gQ (R.length - i) fun k=>match R[i+k]? with | some h=>if h.1=a then ev R (u6 e y h.2) p (i+k) else false | none=>false
 | _=>false
termination_by sizeOf d
section
variable (R:Row) (e:Ev) (i:Nat)
def nO (z:Str):ev R e (.tup [.str z]) i=decide (z="yes"):=by rw[ev]
def r9 (t:D):ev R e (.tup [.str "now",t]) i=(match R[i]? with | some h=>N8 e h t | none=>false):=by rw[ev,if_pos rfl]
def fX (p:D):ev R e (.tup [.str "not",p]) i=!ev R e p i:=by rw[ev,if_neg (by decide),if_pos rfl]
def nP (p:D):ev R e (.tup [.str "next",p]) i=(decide (i < R.length) && ev R e p (i+1)):=by rw[ev,if_neg (by decide),if_neg (by decide),if_pos rfl]
def iY (p:D):ev R e (.tup [.str "always",p]) i=gR (R.length - i) fun k=>ev R e p (i+k):=by rw[ev,if_neg (by decide),if_neg (by decide),if_neg (by decide),if_pos rfl]
def kH (p:D):ev R e (.tup [.str "some",p]) i=gQ (R.length - i) fun k=>ev R e p (i+k):=by rw[ev,if_neg (by decide),if_neg (by decide),if_neg (by decide),if_neg (by decide)]
def jI (n:Int) (p:D):ev R e (.tup [.str "within",.int n,p]) i=gQ (min (R.length - i) n.toNat) fun k=>ev R e p (i+k):=by rw[ev,if_pos rfl];rfl
def jh (p q:D):ev R e (.tup [.str "both",p,q]) i=(ev R e p i && ev R e q i):=by rw[ev,if_neg (by decide),if_pos rfl]
def gn (p q:D):ev R e (.tup [.str "either",p,q]) i=(ev R e p i || ev R e q i):=by rw[ev,if_neg (by decide),if_neg (by decide),if_pos rfl]
def nQ (p q:D):ev R e (.tup [.str "till",p,q]) i=gQ (R.length - i) fun k=>ev R e q (i+k) && gR k fun j=>ev R e p (i+j):=by rw[ev,if_neg (by decide),if_neg (by decide),if_neg (by decide)]
def ud (a y:Str) (p:D):ev R e (.tup [.str "each",.str a,.str y,p]) i=gR (R.length - i) fun k=>match R[i+k]? with | some h=>if h.1=a then ev R (u6 e y h.2) p (i+k) else true | none=>true:=by rw[ev,if_pos rfl]
def Cc (a y:Str) (p:D):ev R e (.tup [.str "one",.str a,.str y,p]) i=gQ (R.length - i) fun k=>match R[i+k]? with | some h=>if h.1=a then ev R (u6 e y h.2) p (i+k) else false | none=>false:=by rw[ev,if_neg (by decide)]
end
def Uw (e:Ev) (y:Str) (m n:Int):u6 (u6 e y m) y n=u6 e y n:=by funext x;unfold u6;split <;> rfl
def MI (e:Ev){x y:Str}(h:x≠y) (m n:Int):u6 (u6 e x m) y n=u6 (u6 e y n) x m:=by
 funext w;unfold u6
 by_cases a:w=y
 ·subst a
  have:¬w=x:=fun q=>h q.symm
  simp[this]
 ·simp[a]
def lY (e:Ev) (hp:Str×Int){o:Str}(n:o≠"name") (v:D):N8 e hp (.tup [.str o,v])=if o="less" then decide (hp.2 < wO e v) else if o="same" then decide (hp.2=wO e v) else decide (wO e v < hp.2):=by show(if o="name" then _ else _)=_;rw[if_neg n]
def ue (e:Ev) (hp:Str×Int) (a:Str):N8 e hp (.tup [.str "name",.str a])=decide (hp.1=a):=by kernel_rfl
def Qe {t:D}(h:Ts bs t) (e:Ev) (hp:Str×Int) (x:Str) (m:Int):N8 e hp (u5 [x] (.int m) t)=N8 (u6 e x m) hp t:=by
 cases h with
 | any=>rfl
 | @name a h=>
  have z:u5 [x] (.int m) (.tup [.str "name",.str a])= .tup [.str "name",.str a]:=by kernel_rfl
  rw[z,ue,ue]
 | @num o k a b c=>
  have n:=(lg a).1
  show N8 e hp (.tup [.str o,.int k])=_
  rw[lY _ _ n,lY _ _ n]
  rfl
 | @var o y a b=>
  have n:=(lg a).1
  have z:u5 [x] (.int m) (.tup [.str o,.str y])=if o≠"name"/\y∈[x] then .tup [.str o,.int m] else .tup [.str o,.str y]:=rfl
  rw[z]
  by_cases q:y=x
  ·subst q
   have u:wO (u6 e y m) (.str y)=m:=by simp[wO,u6]
   rw[if_pos ⟨n,aax.mpr rfl⟩,lY _ _ n,lY _ _ n,u]
   rfl
  ·have u:wO (u6 e x m) (.str y)=wO e (.str y):=by simp[wO,u6,q]
   rw[if_neg (fun w=>q (aax.mp w.2)),lY _ _ n,lY _ _ n,u]
def MJ (R:Row){d:D}(h:Sy n bs d):∀(e:Ev) (x:Str) (m:Int) (i:Nat),ev R e (iC n [x] (.int m) d) i=ev R (u6 e x m) d i:=by
 induction h with
 | leaf h=>intro e x m i;rw[m6,nO,nO]
 | now h=>
  intro e x m i
  rw[qK,r9,r9]
  cases R[i]? with
  | none=>rfl
  | some hp=>exact Qe h e hp x m
 | @one n bs z p hz _ ih=>
  intro e x m i
  rw[qL hz]
  rcases dF hz with rfl | rfl | rfl | rfl
  ·rw[fX,fX,ih]
  ·rw[nP,nP,ih]
  ·rw[iY,iY];congr 1;funext k;exact ih ..
  ·rw[kH,kH];congr 1;funext k;exact ih ..
 | @two n bs z p q hz _ _ i1 i2=>
  intro e x m i
  rw[qM hz]
  rcases dO hz with rfl | rfl | rfl
  ·rw[jh,jh,i1,i2]
  ·rw[gn,gn,i1,i2]
  ·rw[nQ,nQ];congr 1;funext k;rw[i2];congr 2;funext j;exact i1 ..
 | @xB n bs k p a b _ ih=>intro e x m i;rw[qN,jI,jI];congr 1;funext k;exact ih ..
 | @bnd n bs z a y p hz ha hb hp ih=>
  intro e x m i
  rw[qO]
  have key:∀(v:Int) (j:Nat),ev R (u6 e y v) (iC n ([x].filter fun w=>decide (w≠y)) (.int m) p) j=ev R (u6 (u6 e x m) y v) p j:=fun v j=>by
   by_cases q:x=y
   ·subst q
    rw[aaT (by simp),aeN,MF hp (fun w hw=>by cases hw),Uw]
   ·rw[acF (by simpa using q),aeN,ih,MI e q]
  rcases hz with rfl | rfl
  ·rw[ud,ud];congr 1;funext k
   cases R[i+k]? with
   | none=>rfl
   | some h=>simp only[key]
  ·rw[Cc,Cc];congr 1;funext k
   cases R[i+k]? with
   | none=>rfl
   | some h=>simp only[key]
noncomputable def cost (r:Nat) (d:D):Nat:=
 match d with
 | .tup [.str z,p]=>if z="now" then 1 else 1+cost r p
 | .tup [.str z,a,q]=>if z="within" then 1+cost r q else 1+cost r a+cost r q
 | .tup [.str z,.str a,.str y,p]=>1+r * cost r p
 | _=>1
termination_by sizeOf d
section
variable (r:Nat)
def A7 (z:Str):cost r (.tup [.str z])=1:=by unfold cost;rfl
def uf (t:D):cost r (.tup [.str "now",t])=1:=by rw[cost,if_pos rfl]
def ug (hz:z∈J3) (p:D):cost r (.tup [.str z,p])=1+cost r p:=by rw[cost,if_neg (yX hz)]
def uh (hz:z∈J4) (p q:D):cost r (.tup [.str z,p,q])=1+cost r p+cost r q:=by rw[cost,if_neg (pR hz)]
def um (k p:D):cost r (.tup [.str "within",k,p])=1+cost r p:=by rw[cost,if_pos rfl]
def uo (z a y:Str) (p:D):cost r (.tup [.str z,.str a,.str y,p])=1+r * cost r p:=by rw[cost]
def MK {d:D}(h:Sy n bs d):∀(xs:List Str) (k:D),cost r (iC n xs k d)=cost r d:=by
 induction h with
 | leaf h=>intro xs k;rw[m6]
 | now h=>intro xs k;rw[qK,uf,uf]
 | one hz _ ih=>intro xs k;rw[qL hz,ug r hz,ug r hz,ih]
 | two hz _ _ i1 i2=>intro xs k;rw[qM hz,uh r hz,uh r hz,i1,i2]
 | xB a b _ ih=>intro xs k;rw[qN,um,um,ih]
 | bnd hz a b _ ih=>intro xs k;rw[qO,uo,uo,ih]
end
def u9 (r b:Nat):1<=(r+1) ^ b:=Nat.one_le_pow _ _ (by lia)
def Qg (r:Nat){d:D}(h:Sy n bs d):cost r d<=(cz n d).length * (r+1) ^ ((cz n d).filter jY).length:=by
 induction h with
 | @leaf n bs z h=>
  rw[A7]
  have l:1<=(cz (n+1) (.tup [.str z])).length:=by simp[cz]
  exact ae9 l (u9 r _)
 | @now n bs t h=>
  rw[uf]
  have l:1<=(cz (n+1) (.tup [.str "now",t])).length:=by simp[cz]
  exact ae9 l (u9 r _)
 | @one n bs z p hz _ ih=>
  rw[ug r hz]
  have e:cz (n+1) (.tup [.str z,p])= .tup [.str z,p] :: cz n p:=by rcases dF hz with rfl | rfl | rfl | rfl <;> exact congrArg _ (aa8 _)
  have b:jY (.tup [.str z,p])=false:=by rcases dF hz with rfl | rfl | rfl | rfl <;> rfl
  rw[e,aar,aaT (by rw[b];decide),aex,afb]
  have:=u9 r ((cz n p).filter jY).length
  lia
 | @two n bs z p q hz _ _ ip iq=>
  rw[uh r hz]
  have e:cz (n+1) (.tup [.str z,p,q])= .tup [.str z,p,q] :: (cz n p++cz n q):=by rcases dO hz with rfl | rfl | rfl <;> exact congrArg (fun l=>D.tup _ :: (cz n p++l)) (aa8 _)
  have b:jY (.tup [.str z,p,q])=false:=by rcases dO hz with rfl | rfl | rfl <;> rfl
  rw[e,aar,aaT (by rw[b];decide),adV,aaB,aaB,aex,afb,aex]
  generalize ((cz n p).filter jY).length=b1 at *
  generalize ((cz n q).filter jY).length=b2 at *
  have h1:(r+1) ^ b1<=(r+1) ^ (b1+b2):=adI (by lia) (by lia)
  have h2:(r+1) ^ b2<=(r+1) ^ (b1+b2):=adI (by lia) (by lia)
  have h3:=aeY (cz n p).length h1
  have h4:=aeY (cz n q).length h2
  have:=u9 r (b1+b2)
  lia
 | @xB n bs k p _ _ _ ih=>
  rw[um]
  have e:cz (n+1) (.tup [.str "within",.int k,p])= .tup [.str "within",.int k,p] :: cz n p:=congrArg _ (aa8 _)
  rw[e,aar,aaT (fun h=>Bool.noConfusion (show false=true from h)),aex,afb]
  have:=u9 r ((cz n p).filter jY).length
  lia
 | @bnd n bs z a y p hz ha hb hp ih=>
  rw[uo]
  have e:cz (n+1) (.tup [.str z,.str a,.str y,p])= .tup [.str z,.str a,.str y,p] :: cz n p:=by rcases hz with rfl | rfl <;> exact congrArg _ (aa8 _)
  have b:jY (.tup [.str z,.str a,.str y,p])=true:=by rcases hz with rfl | rfl <;> rfl
  rw[e,aar,acF b,aar,aex,afb,ad2]
  generalize ((cz n p).filter jY).length=b1 at *
  generalize (cz n p).length=s1 at *
  have h1:=u9 r b1
  generalize (r+1) ^ b1=w at *
  have h2:r * cost r p<=r * (s1 * w):=aeY r ih
  have h3:s1 * (w * (r+1))=r * (s1 * w)+s1 * w:=by rw[Nat.mul_add,Nat.mul_one,Nat.mul_add,<-afn,<-afn r,Nat.mul_comm r s1,afn s1 r w,Nat.mul_comm r w,afn]
  have h4:1<=w * (r+1):=ae9 h1 (by lia:1<=r+1)
  lia
theorem vc:∀{n m:Nat}(d:D),n<=m->fK n d=true->fK m d=true
 | n,m,.int _,_,_=>by cases m <;> rfl
 | n,m,.str _,_,_=>by cases m <;> rfl
 | n,m,.cU,_,h=>by cases n <;> cases h
 | n,m,.bl _,_,h=>by cases m <;> rfl
 | n,m,.lst _,_,h=>by cases n <;> cases h
 | 0,m,.tup _,_,h=>by cases h
 | n+1,0,.tup _,hm,h=>by lia
 | n+1,m+1,.tup ds,hm,h=>by
  have h:ds.all (fK n)=true:=h
  show ds.all (fK m)=true
  rw[aa9] at h ⊢
  intro x hx
  exact vc x (by lia) (h x hx)
def Yo {t:D}(h:Ts bs t):fK 1 t=true:=by
 cases h <;> rfl
def Yp {d:D}(h:Sy n bs d):fK (n+1) d=true:=by
 induction h with
 | leaf h=>rfl
 | @now n bs t h=>have:=vc t (by lia:1<=n+1) (Yo h);show List.all [D.str "now",t] (fK (n+1))=true;simp[this];rfl
 | @one n bs z p hz _ ih=>show List.all [D.str z,p] (fK (n+1))=true;simp[ih];rfl
 | @two n bs z p q hz _ _ i1 i2=>show List.all [D.str z,p,q] (fK (n+1))=true;simp[i1,i2];rfl
 | @xB n bs k p a b _ ih=>show List.all [D.str "within",.int k,p] (fK (n+1))=true;simp[ih];exact⟨rfl,rfl⟩
 | @bnd n bs z a y p hz ha hb _ ih=>show List.all [D.str z,.str a,.str y,p] (fK (n+1))=true;simp[ih];exact⟨rfl,rfl,rfl⟩
def Ux {d:D}(h:Sy n bs d):∃ds,d= .tup ds:=by cases h <;> exact⟨_,rfl⟩
def Yq {t:D}(h:Ts bs t):nf t=t:=by cases h <;> rfl
def Yr {d:D}(h:Sy n bs d):nf d=d:=by
 have two:∀a b:D,nf (.tup [a,b])= .tup [nf a,nf b]:=fun f f=>rfl
 have three:∀a b c:D,nf (.tup [a,b,c])= .tup [nf a,nf b,nf c]:=fun f f f=>rfl
 have four:∀a b c e:D,nf (.tup [a,b,c,e])= .tup [nf a,nf b,nf c,nf e]:=fun f f f f=>rfl
 have st:∀z:Str,nf (.str z)= .str z:=fun f=>rfl
 have it:∀k:Int,nf (.int k)= .int k:=fun f=>rfl
 induction h with
 | leaf h=>rfl
 | now h=>rw[two,Yq h,st]
 | one hz _ ih=>rw[two,ih,st]
 | two hz _ _ i1 i2=>rw[three,i1,i2,st]
 | xB _ _ _ ih=>rw[three,ih,st,it]
 | bnd _ _ _ _ ih=>rw[four,ih,st,st,st]
def Qh {d:D}(h:Sy n bs d) (hn:n<=7):wM d=some d:=by
 have e:=Yr h
 obtain⟨ds,rfl⟩:=Ux h
 show(if fK 8 (.tup ds)=true then some (nf (.tup ds)) else none)=_
 rw[if_pos (vc _ (by lia) (Yp h)),e]
@[simp] theorem Ys (cap:List Nat) (gi:GI) (q:GT) (g:GD) (S:SS):kX cap gi q g S=(gi S).bind fun p=>if p.1.length<=100000 then(iS cap q g p.1 p.2 []).map fun r=>(.m (.lst r.1),r.2) else none:=rfl
@[simp] theorem ace (gA:GA) (S:SS):TV gA S=(gA S).bind fun p=>match p.1 with
 | [.lst ds]=>some (ds.reverse,p.2)
 | _=>none:=rfl
@[simp] theorem ZQ (d e:D):A1 [d,e]=(pI d).bind fun q=>(pI e).map fun r=>.m (.lst (BZ q.2 r.2)):=rfl
@[simp] theorem My (ds:List D):pI (.lst ds)=some (true,ds):=rfl
@[simp] theorem Mz (ds:List D):pI (.tup ds)=some (false,ds):=rfl
noncomputable def bl (l:List Bool):List D:=l.map D.bl
def nR (l:List Bool):(bl l).length=l.length:=aaw ..
theorem DU:∀l:List Bool,jE (bl l)=some l
 | []=>rfl
 | b :: l=>by show(jE (bl l)).map _=_;rw[DU l];rfl
def ML (ds:List D) (d:D):gz (ds++[d]) (-1)=some d:=by
 unfold gz EI
 rw[aaB,ad0]
 have h1:¬(0:Int)<=-1:=by decide
 rw[if_neg h1]
 have h2:(-(((ds.length+1:Nat)):Int)<=-1):=by lia
 rw[if_pos h2,aau]
 have h3:((-1:Int)+((ds.length+1:Nat):Int)).toNat=ds.length:=by lia
 have h4:((((ds.length+1:Nat):Int))+(-1)).toNat=ds.length:=by lia
 first | rw[h3] | rw[h4]
 simp
def pX (ds:List D):L2.cutD ds none (some (-1))=ds.take (ds.length - 1):=by
 unfold L2.cutD HT.gT
 simp only[afJ]
 congr 1
 simp
 lia
def Qi {ds:List D}{p:Nat}(h:p<=ds.length):L2.cutD ds (some (p:Int)) (some ((p:Int)+(n:Int)))=(ds.drop p).take n:=by
 unfold L2.cutD HT.gT
 have e1:¬((p:Int) < 0):=by lia
 have e2:¬((p:Int)+(n:Int) < 0):=by lia
 simp only[e1,e2,adi]
 have e3:min (p:Int).toNat ds.length=p:=by lia
 have e4:((p:Int)+(n:Int)).toNat=p+n:=by lia
 rw[e3,e4]
 apply adZ
 intro i
 rw[afi,afi]
 by_cases c:i < n
 ·by_cases c2:i < min (p+n) ds.length - p
  ·rw[if_pos c,if_pos c2]
  ·rw[if_pos c,if_neg c2,abe (by rw[acy];lia)]
 ·rw[if_neg c,if_neg (by lia)]
def iQ:GS:=
 (bT (jy [] (zO (eF (aj 0))) cF (eQ (C5 (qB (eF (aj 0)))))))
def turnF:FM:=aK 1 iQ
def MM:∀us r,turnF us=some r->aK 1 iQ us=some r:=fun a a h=>h
def Jl (l:List Bool) (S:SS):dj [] cF (eQ (C5 (qB (eF (aj 0))))) (bl l) S []=some (bl (l.map fun b=>!b),S):=by
 have:=comp_map (cap:=[]) (g:=eQ (C5 (qB (eF (aj 0))))) (S:=S) (fun d=>match d with | .bl b=>.bl (!b) | d=>d) (bl l) [] (fun d hd acc=>by
  obtain⟨b,_,rfl⟩:=adz.mp hd
  kernel_rfl)
 rw[this,adT]
 congr 2
 unfold bl
 rw[ac4,ac4]
 rfl
def yY {l:List Bool}(h:l.length<=100000):turnF [.t (.lst (bl l))]=some (.m (.lst (bl (l.map fun b=>!b))),[]):=by
 have e:=Jl l [AAA (.lst (bl l))]
 have hl:=nR l
 simp[turnF,aK,iQ,je,hl,h,e,aL]
def jJ:GS:=
 (fT (eT (eM 2 hAppend (aa (eQ (C6 (qB (eF (aj 4))) (qB (eQ (lO (qB (eF (aj 3))) (qB (cD 2 (eF (eP rQ (aa (eC (.int 1)) aq)))))))))) aq))))
def qP:GS:=
 (aQ (bX 2 (eP j9 (aa (eC (.bl false)) aq)))
 (aQ (rR (oH 2 (eG (bName 3) (eG (bName 4) o9))) (TV (aa (eF (eP A1 (aa (eF (aj 0)) (aa (eF (aj 1)) aq)))) aq)) (jJ))
 (aQ (fT (eT (eM 2 i9 aq)))
 (bT (aj 2)))))
def lu:FM:=aK 5 qP
def MN:∀us r,lu us=some r->aK 5 qP us=some r:=fun a a h=>h
noncomputable def iz:List (Bool×Bool)->List Bool
 | []=>[false]
 | p :: ps=>(p.2 || (p.1 && (iz ps).headD false)) :: iz ps
theorem MP:∀ps,∃h t,iz ps=h :: t
 | []=>⟨_,_,rfl⟩
 | _ :: _=>⟨_,_,rfl⟩
theorem vd:∀ps,(iz ps).length=ps.length+1
 | []=>rfl
 | _ :: ps=>by show(iz ps).length+1=_;rw[vd ps];rfl
def pd (p:Bool×Bool):D:=.tup [.bl p.1,.bl p.2]
def Jm (a b:D) (ps:List (Bool×Bool)) (hb:ps.length < 99999):∃x3 x4,loop (oH 2 (eG (bName 3) (eG (bName 4) o9))) jJ (ps.map pd).reverse [AAA a,AAA b,AAB [.bl false],none,none]=
  some (.nx [AAA a,AAA b,AAB (bl (iz ps).reverse),x3,x4]):=by
 obtain⟨S',e,qs,ps',x3,x4,h1,h2,h3,rfl⟩:=Sq.B8 (bd:=oH 2 (eG (bName 3) (eG (bName 4) o9))) (body:=jJ) (ps.map pd).reverse
  (fun r S=>∃(qs ps':List (Bool×Bool)) (x3 x4:Option U),r=(qs.map pd).reverse/\qs++ps'=ps/\(fB x3=false/\fB x4=false)/\S=[AAA a,AAA b,AAB (bl (iz ps').reverse),x3,x4]) _ ⟨ps,[],none,none,rfl,aa8 _,⟨rfl,rfl⟩,rfl⟩ (by
   rintro d r S ⟨qs,ps',x3,x4,h1,h2,⟨h3,h4⟩,rfl⟩
   rcases List.eq_nil_or_concat qs with rfl | ⟨Y3,q,rfl⟩
   ·cases h1
   ·rw[List.concat_eq_append,acH,List.reverse_append] at h1
    have h1:d :: r=pd q :: (Y3.map pd).reverse:=h1
    injection h1 with h1 hr
    subst h1
    obtain⟨hd,tl,hc⟩:=MP ps'
    have el:bl (iz ps').reverse=bl tl.reverse++[.bl hd]:=by rw[hc];simp[bl]
    have ea:=ML (bl tl.reverse) (.bl hd)
    rw[<-el] at ea
    have hlen:(bl (iz ps').reverse).length < 100000:=by
     have z:=congrArg List.length h2
     rw[aaB] at z
     rw[nR,aeW,vd]
     lia
    have ew:bl (iz (q :: ps')).reverse=bl (iz ps').reverse++[.bl (q.2 || (q.1 && hd))]:=by simp[iz,hc,bl]
    refine⟨[AAA a,AAA b,AAB (bl (iz ps').reverse),AAA (.bl q.1),AAA (.bl q.2)],[AAA a,AAA b,AAB (bl (iz (q :: ps')).reverse),AAA (.bl q.1),AAA (.bl q.2)],?_,?_,Y3,q :: ps',_,_,hr,by rw[<-h2,List.concat_eq_append];simp,⟨rfl,rfl⟩,rfl⟩
    ·simp[-eZ,dh,pd,h3,h4]
    ·obtain⟨q1,q2⟩:=q
     rw[ew]
     cases q2 with
     | true=>simp[jJ,hlen]
     | false=>
      cases q1 with
      | false=>simp[jJ,hlen]
      | true=>simp[jJ,ea,hlen])
 have:qs=[]:=by
  have:=congrArg List.length h1
  simpa using this.symm
 subst this
 rw[adT] at h2
 subst h2
 exact⟨x3,x4,e⟩
def Hq (s c:List Bool):BZ (bl s) (bl c)=(s.zip c).map pd:=by
 unfold BZ bl
 rw[List.zipWith_map,List.zip_eq_zipWith,List.map_zipWith]
 rfl
def DV (s c:List Bool) (h:c.length < 99999):lu [.t (.lst (bl s)),.t (.lst (bl c))]=some (.m (.lst (bl (iz (s.zip c)))),[]):=by
 obtain⟨x3,x4,e⟩:=Jm (.lst (bl s)) (.lst (bl c)) (s.zip c) (by rw[afH];lia)
 rw[<-Hq] at e
 have er:(bl (iz (s.zip c)).reverse).reverse=bl (iz (s.zip c)):=by simp[bl]
 simp[lu,aK,qP,e,er,aL]
def m9 (bE:FM):GS:=
 (bT (aO bE (aH (eF (eP LK (aa (eF (eP j9 (aa (eC (.bl true)) aq))) (aa (jd 0) aq)))) (aH (eF (aj 0)) aT))))
def pY (aI:FM) (bB:FM):GS:=
 (bT (aO aI (aH (eF (aO bB (aH (eF (aO aI (aH (eF (aj 0)) aT))) aT))) aT)))
def lZ:FM:=aK 1 (m9 lu)
def DW:FM:=aK 1 (pY turnF lZ)
def MQ:∀us r,lZ us=some r->aK 1 (m9 lu) us=some r:=fun a a h=>h
def Qj:∀us r,DW us=some r->aK 1 (pY turnF lZ) us=some r:=fun a a h=>h
def Qk (n:Nat):(List.replicate n [D.bl true]).flatten=bl (List.replicate n true):=by
 induction n with
 | zero=>rfl
 | succ n ih=>rw[ab9,acZ,ih,ab9];rfl
def wm (c:List Bool):List Bool:=iz ((List.replicate c.length true).zip c)
def Hr (c:List Bool):List Bool:=(wm (c.map fun b=>!b)).map fun b=>!b
def Jo (c:List Bool):(wm c).length=c.length+1:=by unfold wm;rw[vd,afH,aeB,Nat.min_self]
def yZ (h:c.length < 99999):lZ [.t (.lst (bl c))]=some (.m (.lst (bl (wm c))),[]):=by
 have e:=DV (List.replicate c.length true) c h
 have h':c.length<=100000:=by lia
 have er:=Qk c.length
 have hl:=nR c
 show aK 1 (m9 lu) _=_
 generalize lu=f at *
 simp[aK,m9,hl,h',er,e,aL,wm]
def Hs (h:c.length < 99999):DW [.t (.lst (bl c))]=some (.m (.lst (bl (Hr c))),[]):=by
 have e1:=yY (l:=c) (by lia)
 have e2:=yZ (c:=c.map fun b=>!b) (by rw[aaw];exact h)
 have e3:=yY (l:=wm (c.map fun b=>!b)) (by rw[Jo,aaw];lia)
 show aK 1 (pY turnF lZ) _=_
 generalize turnF=f at *
 generalize lZ=g at *
 simp[aK,pY,e1,e2,e3,aL,Hr]
def Fz:GS:=
 (bT (jy [0,1] (jx (aa (eF (eP cH (aa (jd 1) (aa (eC (.int 1)) aq)))) aq)) cF (eF (eP EZ (aa (eF (yx (eF (aj 2)) (some (eF (aj 0))) (some (eF (eP cH (aa (eF (aj 0)) (aa (eF (aj 1)) aq))))))) aq)))))
def wu:FM:=aK 2 Fz
def MR:∀us r,wu us=some r->aK 2 Fz us=some r:=fun a a h=>h
noncomputable def A8 (n:Nat) (c:List Bool):List Bool:=(List.range (c.length+1)).map fun p=>((c.drop p).take n).any id
def Jp :dj [0,1] cF (eF (eP EZ (aa (eF (yx (eF (aj 2)) (some (eF (aj 0))) (some (eF (eP cH (aa (eF (aj 0)) (aa (eF (aj 1)) aq))))))) aq))) (oU 0 (c.length+1)) [AAC n,AAA (.lst (bl c))] []=
  some (bl (A8 n c),[AAC n,AAA (.lst (bl c))]):=by
 have:=comp_map (cap:=[0,1]) (g:=eF (eP EZ (aa (eF (yx (eF (aj 2)) (some (eF (aj 0))) (some (eF (eP cH (aa (eF (aj 0)) (aa (eF (aj 1)) aq))))))) aq))) (S:=[AAC n,AAA (.lst (bl c))])
  (fun d=>match d with | .int p=>.bl (((c.drop p.toNat).take n).any id) | d=>d) (oU 0 (c.length+1)) [] (fun d hd acc=>by
   unfold oU at hd
   obtain⟨p,hp,rfl⟩:=adz.mp hd
   have hp:p < c.length+1:=ab8.mp hp
   have e0:(0:Int)+(p:Int)=(p:Int):=by lia
   have e1:=Qi (ds:=bl c) (p:=p) (n:=n) (by rw[nR];lia)
   have e2:((bl c).drop p).take n=bl ((c.drop p).take n):=by unfold bl;rw[<-afL,<-afm]
   have e3:=DU ((c.drop p).take n)
   rw[e0]
   rw[e2] at e1
   have e4:(p:Int).toNat=p:=by lia
   simp[dj,dg,yj,aL,e1,e3,iw])
 rw[this,adT]
 congr 2
 unfold bl A8 oU
 rw[ac4,ac4]
 apply adN
 intro p _
 simp
def MS (h:c.length < 90000):wu [.t (.int n),.t (.lst (bl c))]=some (.m (.lst (bl (A8 n c))),[]):=by
 have e:=Jp (c:=c) (n:=n)
 have hl:=nR c
 have a1:(aa (eF (eP cH (aa (jd 1) (aa (eC (.int 1)) aq)))) aq) [AAC n,AAA (.lst (bl c))]=some ([.int ((c.length:Int)+1)],[AAC n,AAA (.lst (bl c))]):=by simp[hl]
 have eg:=Sq.mZ a1 (by lia) (by lia)
 have h3:((c.length:Int)+1).toNat=c.length+1:=by lia
 rw[h3] at eg
 have h4:(oU 0 (c.length+1)).length<=100000:=by rw[yW];lia
 have ec:jy [0,1] (jx (aa (eF (eP cH (aa (jd 1) (aa (eC (.int 1)) aq)))) aq)) cF (eF (eP EZ (aa (eF (yx (eF (aj 2)) (some (eF (aj 0))) (some (eF (eP cH (aa (eF (aj 0)) (aa (eF (aj 1)) aq))))))) aq))) [AAC n,AAA (.lst (bl c))]=some (.m (.lst (bl (A8 n c))),[AAC n,AAA (.lst (bl c))]):=by
  rw[PR,eg,aau,if_pos h4,e]
  rfl
 show aK 2 (bT (jy _ _ _ _)) _=_
 generalize jy [0,1] (jx (aa (eF (eP cH (aa (jd 1) (aa (eC (.int 1)) aq)))) aq)) cF (eF (eP EZ (aa (eF (yx (eF (aj 2)) (some (eF (aj 0))) (some (eF (eP cH (aa (eF (aj 0)) (aa (eF (aj 1)) aq))))))) aq)))=g at *
 simp[aK,ec,aL]
def A9 (f:Nat->Bool):gR 0 f=true:=rfl
def ve (n:Nat) (f:Nat->Bool):gQ (n+1) f=(f 0 || gQ n fun k=>f (k+1)):=by
 unfold gQ;rw[adk,acm,afC];rfl
def Ba (n:Nat) (f:Nat->Bool):gR (n+1) f=(f 0 && gR n fun k=>f (k+1)):=by
 unfold gR;rw[adk,acg,List.all_map];rfl
def DX (n:Nat) (b:Bool) (f:Nat->Bool):gQ n (fun k=>b && f k)=(b && gQ n f):=by
 cases b with
 | true=>simp
 | false=>unfold gQ;simp
def MT (n:Nat) (f:Nat->Bool):(!gQ n fun k=>!f k)=gR n f:=by
 unfold gQ gR
 induction List.range n with
 | nil=>rfl
 | cons a l ih=>rw[acm,acg,Bool.not_or,aeO,ih]
def nT {f:Nat->Bool}(h:∀k,k < n->f k=g k):gQ n f=gQ n g:=by
 unfold gQ
 rw[adD]
 simp only[ac6,ab8]
 exact⟨fun⟨k,a,b⟩=>⟨k,a,by rw[<-h k a];exact b⟩,fun⟨k,a,b⟩=>⟨k,a,by rw[h k a];exact b⟩⟩
def se {f:Nat->Bool}(h:∀k,k < n->f k=g k):gR n f=gR n g:=by
 unfold gR
 rw[adD]
 simp only[aa9,ab8]
 exact⟨fun z k a=>by rw[<-h k a];exact z k a,fun z k a=>by rw[h k a];exact z k a⟩
def UN (S C:Nat->Bool) (n i:Nat):Bool:=gQ (n - i) fun k=>C (i+k) && gR k fun j=>S (i+j)
def Ql (S C:Nat->Bool) (n:Nat):UN S C (n+1) 0=(C 0 || (S 0 && UN (fun k=>S (k+1)) (fun k=>C (k+1)) n 0)):=by
 unfold UN
 rw[afz,ve]
 simp only[ad1,A9,afo,afz]
 congr 1
 rw[<-DX]
 congr 1
 funext k
 rw[Ba]
 cases S 0 <;> simp
def Qm (S C:Nat->Bool) (n i:Nat):UN S C (n+1) (i+1)=UN (fun k=>S (k+1)) (fun k=>C (k+1)) n i:=by
 unfold UN
 rw[Nat.add_sub_add_right]
 congr 1
 funext k
 rw[Nat.add_right_comm i 1 k]
 congr 2
 funext j
 rw[Nat.add_right_comm i 1 j]
def vf {α:Type}(n:Nat) (f:Nat->α):(List.range (n+1)).map f=f 0 :: (List.range n).map fun k=>f (k+1):=by
 rw[adk,aaQ,ac4];rfl
theorem wz:∀(n:Nat) (S C:Nat->Bool),iz ((List.range n).map fun i=>(S i,C i))=(List.range (n+1)).map (UN S C n)
 | 0,S,C=>rfl
 | n+1,S,C=>by
  have ih:=wz n (fun k=>S (k+1)) (fun k=>C (k+1))
  rw[vf n,vf (n+1)]
  show(C 0 || (S 0 && (iz ((List.range n).map fun k=>(S (k+1),C (k+1)))).headD false)) :: iz ((List.range n).map fun k=>(S (k+1),C (k+1)))=_
  rw[ih,Ql]
  congr 1
  ·rw[vf n];rfl
  ·exact adN fun i a=>(Qm S C n i).symm
noncomputable def tl (n:Nat) (f:Nat->Bool):List Bool:=(List.range n).map f
def ji (n:Nat) (f:Nat->Bool):(tl n f).length=n:=by unfold tl;rw[aaw,adG]
def FA (n:Nat) (S C:Nat->Bool):(tl n S).zip (tl n C)=(List.range n).map fun i=>(S i,C i):=by
 unfold tl
 rw[List.zip_map']
def Ht (n:Nat) (S C:Nat->Bool):iz ((tl n S).zip (tl n C))=tl (n+1) (UN S C n):=by rw[FA,wz];rfl
def Cd (n:Nat) (C:Nat->Bool):wm (tl n C)=tl (n+1) fun i=>gQ (n - i) fun k=>C (i+k):=by
 unfold wm
 have:List.replicate (tl n C).length true=tl n fun a=>true:=by
  rw[ji];unfold tl;rw[List.map_const',adG]
 rw[this,Ht]
 congr 1
 funext i
 unfold UN
 congr 1
 funext k
 have:(gR k fun a=>true)=true:=by unfold gR;simp
 rw[this,afo]
def FD (n:Nat) (f:Nat->Bool):(tl n f).map (fun b=>!b)=tl n fun i=>!f i:=by unfold tl;rw[ac4];rfl
def MU (n:Nat) (C:Nat->Bool):Hr (tl n C)=tl (n+1) fun i=>gR (n - i) fun k=>C (i+k):=by
 unfold Hr
 rw[FD,Cd,FD]
 congr 1
 funext i
 exact MT _ _
def pZ (f:Nat->Bool) (h:i < n):(tl n f)[i]? =some (f i):=by unfold tl;rw[aaO,aeZ h];rfl
def Ce (n p k:Nat) (f:Nat->Bool):(((tl n f).drop p).take k).any id=gQ (min (n - p) k) fun j=>f (p+j):=by
 have:((tl n f).drop p).take k=(List.range (min (n - p) k)).map fun j=>f (p+j):=by
  apply adZ
  intro j
  rw[afi,afj]
  by_cases c:j < min (n - p) k
  ·rw[if_pos (by lia),pZ f (by lia),aaO,aeZ c];rfl
  ·rw[abe (l:=(List.range _).map _) (by rw[aaw,adG];lia)]
   split
   ·rw[abe (by rw[ji];lia)]
   ·rfl
 rw[this,afC]
 rfl
def Qn (n k:Nat) (C:Nat->Bool):A8 k (tl n C)=tl (n+1) fun i=>gQ (min (n - i) k) fun j=>C (i+j):=by
 unfold A8
 rw[ji]
 exact adN fun i a=>Ce n i k C
def Qo (n:Nat) (f:Nat->Bool):(bl (tl (n+1) f)).take ((bl (tl (n+1) f)).length - 1)=bl (tl n f):=by
 rw[nR,ji]
 unfold bl tl
 rw[<-afm,<-afm,List.take_range]
 congr 3
 lia
def Qp (n:Nat) (f:Nat->Bool):(bl (tl (n+1) f)).drop 1++[.bl false]=bl (tl (n+1) fun i=>decide (i < n) && f (i+1)):=by
 have:tl (n+1) (fun i=>decide (i < n) && f (i+1))=(tl (n+1) f).drop 1++[false]:=by
  apply adZ
  intro i
  by_cases c:i < n
  ·rw[pZ _ (by lia),ada (by rw[acy,ji];lia),afj,pZ _ (by lia),ab6 c,Nat.add_comm 1 i];rfl
  ·by_cases c2:i=n
   ·subst c2
    rw[pZ _ (by lia),ad6 (by rw[acy,ji];lia),acy,ji,aa6 c]
    simp
   ·rw[abe (by rw[ji];lia),abe (by rw[aaB,acy,ji];simp;lia)]
 rw[this]
 unfold bl
 rw[acH,afL]
 rfl
theorem wA:∀{a b:List Char},a.map Char.toNat=b.map Char.toNat->a=b
 | [],[],_=>rfl
 | [],_ :: _,h=>by simp at h
 | _ :: _,[],h=>by simp at h
 | x :: xs,y :: ys,h=>by
  rw[aaQ,aaQ] at h
  injection h with h1 h2
  rw[wA h2]
  congr 1
  exact Char.ext (UInt32.toNat_inj.mp h1)
@[simp] theorem lit_eq (s t:String):(Str.ofString s=Str.ofString t)↔s=t:=by
 constructor
 ·intro h
  rw[Str.ofString_eq_toList,Str.ofString_eq_toList] at h
  have h1:(s.toList.map Char.toNat).toArray=(t.toList.map Char.toNat).toArray:=congrArg Str.cps h
  have h2:s.toList.map Char.toNat=t.toList.map Char.toNat:=by simpa using congrArg Array.toList h1
  have h3:=wA h2
  exact String.toList_inj.mp h3
 ·intro h;rw[h]
def y9:GS:=
 (aQ (bX 2 (eT (cD 0 (eC (.int 0)))))
 (aQ (i8 (qB (eF (eP jz (aa (eF (aj 2)) (aa (eC (.str "any")) aq))))) (bT (eT (eC (.bl true)))) c8)
 (aQ (i8 (qB (eF (eP jz (aa (eF (aj 2)) (aa (eC (.str "name")) aq))))) (bT (eP jz (aa (cD 1 (eC (.int 0))) (aa (cD 0 (eC (.int 1))) aq)))) c8)
 (aQ (i8 (qB (eF (eP jz (aa (eF (aj 2)) (aa (eC (.str "less")) aq))))) (bT (eP JX (aa (cD 1 (eC (.int 1))) (aa (cD 0 (eC (.int 1))) aq)))) c8)
 (aQ (i8 (qB (eF (eP jz (aa (eF (aj 2)) (aa (eC (.str "same")) aq))))) (bT (eP jz (aa (cD 1 (eC (.int 1))) (aa (cD 0 (eC (.int 1))) aq)))) c8)
 (bT (eP Tj (aa (cD 1 (eC (.int 1))) (aa (cD 0 (eC (.int 1))) aq)))))))))
def wB:FM:=aK 3 y9
def MV:∀us r,wB us=some r->aK 3 y9 us=some r:=fun a a h=>h
def MW {t:D}(h:Ts [] t) (p:Str×Int):wB [.t t,.t (lM p)]=some (.t (.bl (N8 iD p t)),[]):=by
 obtain⟨a,k⟩:=p
 have pr:lM (a,k)= .tup [.str a,.int k]:=rfl
 rw[pr]
 cases h with
 | any=>kernel_rfl
 | @name b h=>
  rw[ue]
  by_cases c:a=b
  ·subst c;kernel_rfl
  ·kernel_rfl
 | @num o m ho b c=>
  have n:=(lg ho).1
  rw[lY _ _ n]
  simp only[yR,aaA,abb,ac7] at ho
  have en:wO iD (.int m)=m:=rfl
  rw[en]
  rcases ho with rfl | rfl | rfl
  ·kernel_rfl
  ·rw[if_neg (by decide)];by_cases q:k=m <;> kernel_rfl
  ·rw[if_neg (by decide),if_neg (by decide)];kernel_rfl
 | var a b=>cases b
def fU (wQ:FM):GS:=
 (aQ (i8 (qB (IF true 2 (eF (aj 0)))) (Iu 2 (eF (aj 0)) (eF (aO wQ (aH (eF (aj 0)) (aH (eF (aj 1)) (cg (aj 2) aT)))))) c8)
 (bT (eT (cD 2 (eF (aj 0))))))
def br (bU:FM) (bO:FM) (aJ:FM) (bB:FM) (aW:FM) (aI:FM) (bC:FM) (bE:FM):GS:=
 (aQ (bX 3 (eT (cD 0 (eC (.int 0)))))
 (aQ (i8 (C6 (qB (eF (eP jz (aa (eF (aj 3)) (aa (eC (.str "yes")) aq))))) (qB (eF (eP jz (aa (eF (aj 3)) (aa (eC (.str "no")) aq)))))) (bT (eP LK (aa (eF (eP j9 (aa (eF (eP jz (aa (eF (aj 3)) (aa (eC (.str "yes")) aq)))) aq))) (aa (eF (eP cH (aa (jd 1) (aa (eC (.int 1)) aq)))) aq)))) c8)
 (aQ (i8 (qB (eF (eP jz (aa (eF (aj 3)) (aa (eC (.str "now")) aq))))) (bT (eP cH (aa (eF (jy [0] (zO (eF (aj 1))) cF (eF (aO bU (aH (cD 1 (eC (.int 1))) (aH (eF (aj 0)) aT)))))) (aa (eF (eP j9 (aa (eC (.bl false)) aq))) aq)))) c8)
 (aQ (i8 (qB (eF (eP jz (aa (eF (aj 3)) (aa (eC (.str "each")) aq))))) (bT (aO bO (aH (eF (aO aJ (aH (eF (aj 0)) (aH (eF (aj 1)) (cg (aj 2) aT))))) aT))) c8)
 (aQ (i8 (qB (eF (eP jz (aa (eF (aj 3)) (aa (eC (.str "one")) aq))))) (bT (aO bB (aH (eF (aO aJ (aH (eF (aj 0)) (aH (eF (aj 1)) (cg (aj 2) aT))))) aT))) c8)
 (aQ (bX 4 (aO aW (aH (cD 0 (eF (eP rQ (aa (eC (.int 1)) aq)))) (aH (eF (aj 1)) (cg (aj 2) aT)))))
 (aQ (i8 (qB (eF (eP jz (aa (eF (aj 3)) (aa (eC (.str "not")) aq))))) (bT (aO aI (aH (eF (aj 4)) aT))) c8)
 (aQ (i8 (qB (eF (eP jz (aa (eF (aj 3)) (aa (eC (.str "next")) aq))))) (bT (eP cH (aa (eF (yx (eF (aj 4)) (some (eC (.int 1))) none)) (aa (eF (eP j9 (aa (eC (.bl false)) aq))) aq)))) c8)
 (aQ (i8 (qB (eF (eP jz (aa (eF (aj 3)) (aa (eC (.str "always")) aq))))) (bT (aO bO (aH (eF (yx (eF (aj 4)) none (some (eF (eP rQ (aa (eC (.int 1)) aq)))))) aT))) c8)
 (aQ (i8 (qB (eF (eP jz (aa (eF (aj 3)) (aa (eC (.str "some")) aq))))) (bT (aO bB (aH (eF (yx (eF (aj 4)) none (some (eF (eP rQ (aa (eC (.int 1)) aq)))))) aT))) c8)
 (aQ (i8 (qB (eF (eP jz (aa (eF (aj 3)) (aa (eC (.str "within")) aq))))) (bT (aO bC (aH (cD 0 (eC (.int 1))) (aH (eF (yx (eF (aj 4)) none (some (eF (eP rQ (aa (eC (.int 1)) aq)))))) aT)))) c8)
 (aQ (bX 5 (aO aW (aH (cD 0 (eC (.int 1))) (aH (eF (aj 1)) (cg (aj 2) aT)))))
 (aQ (i8 (qB (eF (eP jz (aa (eF (aj 3)) (aa (eC (.str "both")) aq))))) (bT (kX [] (AN (aa (eF (aj 5)) (aa (eF (aj 4)) aq))) cF (eQ (lO (qB (eF (aj 0))) (qB (eF (aj 1))))))) c8)
 (aQ (i8 (qB (eF (eP jz (aa (eF (aj 3)) (aa (eC (.str "either")) aq))))) (bT (kX [] (AN (aa (eF (aj 5)) (aa (eF (aj 4)) aq))) cF (eQ (C6 (qB (eF (aj 0))) (qB (eF (aj 1))))))) c8)
 (bT (aO bE (aH (eF (yx (eF (aj 5)) none (some (eF (eP rQ (aa (eC (.int 1)) aq)))))) (aH (eF (yx (eF (aj 4)) none (some (eF (eP rQ (aa (eC (.int 1)) aq)))))) aT))))))))))))))))))
def cQ (lq:FM) (aW:FM):GS:=
 (i8 (qB (eF (eP jz (aa (cD 5 (eC (.int 0))) (aa (cD 0 (eC (.int 1))) aq))))) (aQ (bX 6 (aO lq (aH (cD 0 (eC (.int 3))) (aH (cD 0 (eC (.int 2))) (aH (cD 5 (eC (.int 1))) aT)))))
 (fT (eT (eM 3 hAppend (aa (eF (eP En (aa (eF (aO aW (aH (eF (aj 6)) (aH (eF (aj 1)) (cg (aj 2) aT))))) (aa (eF (aj 4)) aq)))) aq))))) (fT (eT (eM 3 hAppend (aa (eF (eP jz (aa (cD 0 (eC (.int 0))) (aa (eC (.str "each")) aq)))) aq)))))
def dc (lq:FM) (aW:FM):GS:=
 (aQ (bX 3 (eP j9 aq))
 (aQ (rR (oH 2 (eG (bName 4) (eG (bName 5) o9))) (LU (aa (eF (aj 1)) aq)) (cQ lq aW))
 (bT (aj 3))))
def th0 (bU:FM) (bO:FM) (aJ:FM) (bB:FM) (aW:FM) (aI:FM) (bC:FM) (bE:FM):GS:=
 (bX 3 (eT (cD 0 (eC (.int 0)))))
def th1 (bU:FM) (bO:FM) (aJ:FM) (bB:FM) (aW:FM) (aI:FM) (bC:FM) (bE:FM):GS:=
 (i8 (C6 (qB (eF (eP jz (aa (eF (aj 3)) (aa (eC (.str "yes")) aq))))) (qB (eF (eP jz (aa (eF (aj 3)) (aa (eC (.str "no")) aq)))))) (bT (eP LK (aa (eF (eP j9 (aa (eF (eP jz (aa (eF (aj 3)) (aa (eC (.str "yes")) aq)))) aq))) (aa (eF (eP cH (aa (jd 1) (aa (eC (.int 1)) aq)))) aq)))) c8)
def th2 (bU:FM) (bO:FM) (aJ:FM) (bB:FM) (aW:FM) (aI:FM) (bC:FM) (bE:FM):GS:=
 (i8 (qB (eF (eP jz (aa (eF (aj 3)) (aa (eC (.str "now")) aq))))) (bT (eP cH (aa (eF (jy [0] (zO (eF (aj 1))) cF (eF (aO bU (aH (cD 1 (eC (.int 1))) (aH (eF (aj 0)) aT)))))) (aa (eF (eP j9 (aa (eC (.bl false)) aq))) aq)))) c8)
def th3 (bU:FM) (bO:FM) (aJ:FM) (bB:FM) (aW:FM) (aI:FM) (bC:FM) (bE:FM):GS:=
 (i8 (qB (eF (eP jz (aa (eF (aj 3)) (aa (eC (.str "each")) aq))))) (bT (aO bO (aH (eF (aO aJ (aH (eF (aj 0)) (aH (eF (aj 1)) (cg (aj 2) aT))))) aT))) c8)
def th4 (bU:FM) (bO:FM) (aJ:FM) (bB:FM) (aW:FM) (aI:FM) (bC:FM) (bE:FM):GS:=
 (i8 (qB (eF (eP jz (aa (eF (aj 3)) (aa (eC (.str "one")) aq))))) (bT (aO bB (aH (eF (aO aJ (aH (eF (aj 0)) (aH (eF (aj 1)) (cg (aj 2) aT))))) aT))) c8)
def ZR (bU:FM) (bO:FM) (aJ:FM) (bB:FM) (aW:FM) (aI:FM) (bC:FM) (bE:FM):GS:=
 (bX 4 (aO aW (aH (cD 0 (eF (eP rQ (aa (eC (.int 1)) aq)))) (aH (eF (aj 1)) (cg (aj 2) aT)))))
def th6 (bU:FM) (bO:FM) (aJ:FM) (bB:FM) (aW:FM) (aI:FM) (bC:FM) (bE:FM):GS:=
 (i8 (qB (eF (eP jz (aa (eF (aj 3)) (aa (eC (.str "not")) aq))))) (bT (aO aI (aH (eF (aj 4)) aT))) c8)
def th7 (bU:FM) (bO:FM) (aJ:FM) (bB:FM) (aW:FM) (aI:FM) (bC:FM) (bE:FM):GS:=
 (i8 (qB (eF (eP jz (aa (eF (aj 3)) (aa (eC (.str "next")) aq))))) (bT (eP cH (aa (eF (yx (eF (aj 4)) (some (eC (.int 1))) none)) (aa (eF (eP j9 (aa (eC (.bl false)) aq))) aq)))) c8)
def th8 (bU:FM) (bO:FM) (aJ:FM) (bB:FM) (aW:FM) (aI:FM) (bC:FM) (bE:FM):GS:=
 (i8 (qB (eF (eP jz (aa (eF (aj 3)) (aa (eC (.str "always")) aq))))) (bT (aO bO (aH (eF (yx (eF (aj 4)) none (some (eF (eP rQ (aa (eC (.int 1)) aq)))))) aT))) c8)
def th9 (bU:FM) (bO:FM) (aJ:FM) (bB:FM) (aW:FM) (aI:FM) (bC:FM) (bE:FM):GS:=
 (i8 (qB (eF (eP jz (aa (eF (aj 3)) (aa (eC (.str "some")) aq))))) (bT (aO bB (aH (eF (yx (eF (aj 4)) none (some (eF (eP rQ (aa (eC (.int 1)) aq)))))) aT))) c8)
def Yt (bU:FM) (bO:FM) (aJ:FM) (bB:FM) (aW:FM) (aI:FM) (bC:FM) (bE:FM):GS:=
 (i8 (qB (eF (eP jz (aa (eF (aj 3)) (aa (eC (.str "within")) aq))))) (bT (aO bC (aH (cD 0 (eC (.int 1))) (aH (eF (yx (eF (aj 4)) none (some (eF (eP rQ (aa (eC (.int 1)) aq)))))) aT)))) c8)
def Qq (bU:FM) (bO:FM) (aJ:FM) (bB:FM) (aW:FM) (aI:FM) (bC:FM) (bE:FM):GS:=
 (bX 5 (aO aW (aH (cD 0 (eC (.int 1))) (aH (eF (aj 1)) (cg (aj 2) aT)))))
def Uy (bU:FM) (bO:FM) (aJ:FM) (bB:FM) (aW:FM) (aI:FM) (bC:FM) (bE:FM):GS:=
 (i8 (qB (eF (eP jz (aa (eF (aj 3)) (aa (eC (.str "both")) aq))))) (bT (kX [] (AN (aa (eF (aj 5)) (aa (eF (aj 4)) aq))) cF (eQ (lO (qB (eF (aj 0))) (qB (eF (aj 1))))))) c8)
def Uz (bU:FM) (bO:FM) (aJ:FM) (bB:FM) (aW:FM) (aI:FM) (bC:FM) (bE:FM):GS:=
 (i8 (qB (eF (eP jz (aa (eF (aj 3)) (aa (eC (.str "either")) aq))))) (bT (kX [] (AN (aa (eF (aj 5)) (aa (eF (aj 4)) aq))) cF (eQ (C6 (qB (eF (aj 0))) (qB (eF (aj 1))))))) c8)
def Qs (bU:FM) (bO:FM) (aJ:FM) (bB:FM) (aW:FM) (aI:FM) (bC:FM) (bE:FM):GS:=
 (bT (aO bE (aH (eF (yx (eF (aj 5)) none (some (eF (eP rQ (aa (eC (.int 1)) aq)))))) (aH (eF (yx (eF (aj 4)) none (some (eF (eP rQ (aa (eC (.int 1)) aq)))))) aT))))
def Yu (bU:FM) (bO:FM) (aJ:FM) (bB:FM) (aW:FM) (aI:FM) (bC:FM) (bE:FM):br bU bO aJ bB aW aI bC bE=aQ (th0 bU bO aJ bB aW aI bC bE) (aQ (th1 bU bO aJ bB aW aI bC bE) (aQ (th2 bU bO aJ bB aW aI bC bE) (aQ (th3 bU bO aJ bB aW aI bC bE) (aQ (th4 bU bO aJ bB aW aI bC bE) (aQ (ZR bU bO aJ bB aW aI bC bE) (aQ (th6 bU bO aJ bB aW aI bC bE) (aQ (th7 bU bO aJ bB aW aI bC bE) (aQ (th8 bU bO aJ bB aW aI bC bE) (aQ (th9 bU bO aJ bB aW aI bC bE) (aQ (Yt bU bO aJ bB aW aI bC bE) (aQ (Qq bU bO aJ bB aW aI bC bE) (aQ (Uy bU bO aJ bB aW aI bC bE) (aQ (Uz bU bO aJ bB aW aI bC bE) (Qs bU bO aJ bB aW aI bC bE)))))))))))))):=rfl
def Hu (a b:D):gz [a,b] (-1)=some b:=rfl
def RM (a b c:D):gz [a,b,c] (-1)=some c:=rfl
def Yv (a b c:D):gz [a,b,c] 1=some b:=rfl
def iV {a b:GS}(h:a S=some (.nx S1)):aQ a b S=b S1:=by unfold aQ;rw[h];rfl
def za {a b:GS}{u:U}(h:a S=some (.rt u S1)):aQ a b S=some (.rt u S1):=by unfold aQ;rw[h];rfl
def fq (h:S[3]? =some (AAA (.str z))) (lit:Str):qB (eF (eP jz (aa (eF (aj 3)) (aa (eC (.str lit)) aq)))) S=some (decide (z=lit),S):=by
 by_cases c:z=lit
 ·subst c;simp[h]
 ·simp[h,c]
def kI {lit:Str}(h:S[3]? =some (AAA (.str z))) (hn:z≠lit):i8 (qB (eF (eP jz (aa (eF (aj 3)) (aa (eC (.str lit)) aq))))) A c8 S=some (.nx S):=by
 have e:=fq h lit
 rw[aa6 hn] at e
 simp only[Mg,e]
 rfl
def rF (h:S[3]? =some (AAA (.str z))):i8 (qB (eF (eP jz (aa (eF (aj 3)) (aa (eC (.str z)) aq))))) A c8 S=A S:=by
 have e:=fq h z
 rw[ab6 rfl] at e
 simp only[Mg,e]
 rfl
def Qt (h:S[3]? =some (AAA (.str z))) (h1:z≠"yes") (h2:z≠"no"):i8 (C6 (qB (eF (eP jz (aa (eF (aj 3)) (aa (eC (.str "yes")) aq))))) (qB (eF (eP jz (aa (eF (aj 3)) (aa (eC (.str "no")) aq)))))) A c8 S=some (.nx S):=by
 have e:=fq h "yes"
 have e':=fq h "no"
 rw[aa6 h1] at e
 rw[aa6 h2] at e'
 simp only[Mg,XT,e,e',aau,adx,adi]
 rfl
def ach {g:GS}{a b:D}{u:MO}{z v:Option U}(h:g [AAA a,AAA b,some (.b (.cI kvs)),none,none,none]=some (.rt (.m u) [x,y,some (.b (.cI kvs')),z,v,w])):aK 6 g [.t a,.t b,.b (.cI kvs)]=some (.m u,[.cI kvs']):=by
 unfold aK
 show(g [AAA a,AAA b,some (.b (.cI kvs)),none,none,none]).bind _=_
 rw[h]
 kernel_rfl
section
variable {fp fH fc cL ft cR bC cS:FM}{p q r:D}{kvs kvs' wN:List (D×D)}{o:MO}{l l2:List D}{rs ds:List D}{z:Str}
noncomputable abbrev SA (z:Str) (ds:List D) (r:D) (kvs:List (D×D)):SS:=[AAA (.tup (.str z :: ds)),AAA r,some (.b (.cI kvs)),AAA (.str z),none,none]
noncomputable abbrev SB (z:Str) (ds:List D) (r:D) (kvs:List (D×D)) (l:List D):SS:=[AAA (.tup (.str z :: ds)),AAA r,some (.b (.cI kvs)),AAA (.str z),AAA (.lst l),none]
noncomputable abbrev SC (z:Str) (ds:List D) (r:D) (kvs:List (D×D)) (l l2:List D):SS:=[AAA (.tup (.str z :: ds)),AAA r,some (.b (.cI kvs)),AAA (.str z),AAA (.lst l),AAA (.lst l2)]
def ta0:th0 fp fH fc cL ft cR bC cS [AAA (.tup (.str z :: ds)),AAA r,some (.b (.cI kvs)),none,none,none]=some (.nx (SA z ds r kvs)):=by
 simp[th0,dD]
def ta5 (hl:gz (.str z :: ds) (-1)=some p) (e:ft [.t p,.t r,.b (.cI kvs)]=some (.t (.lst l),[.cI kvs'])):ZR fp fH fc cL ft cR bC cS (SA z ds r kvs)=some (.nx (SB z ds r kvs' l)):=by
 simp[ZR,hl,e]
def aci (hl:gz (.str z :: ds) 1=some p) (e:ft [.t p,.t r,.b (.cI kvs)]=some (.t (.lst l2),[.cI kvs'])):Qq fp fH fc cL ft cR bC cS (SB z ds r kvs l)=some (.nx (SC z ds r kvs' l l2)):=by
 simp[Qq,hl,e]
abbrev RN (fp fH fc cL ft cR bC cS:FM):GS:=aQ (th6 fp fH fc cL ft cR bC cS) (aQ (th7 fp fH fc cL ft cR bC cS) (aQ (th8 fp fH fc cL ft cR bC cS) (aQ (th9 fp fH fc cL ft cR bC cS) (aQ (Yt fp fH fc cL ft cR bC cS) (aQ (Qq fp fH fc cL ft cR bC cS) (aQ (Uy fp fH fc cL ft cR bC cS) (aQ (Uz fp fH fc cL ft cR bC cS) (Qs fp fH fc cL ft cR bC cS))))))))
abbrev Yw (fp fH fc cL ft cR bC cS:FM):GS:=aQ (th1 fp fH fc cL ft cR bC cS) (aQ (th2 fp fH fc cL ft cR bC cS) (aQ (th3 fp fH fc cL ft cR bC cS) (aQ (th4 fp fH fc cL ft cR bC cS) (aQ (ZR fp fH fc cL ft cR bC cS) (RN fp fH fc cL ft cR bC cS)))))
def tb_start {v:Option U}(h:Yw fp fH fc cL ft cR bC cS (SA z ds r kvs)=some (.rt (.m o) [x,y,some (.b (.cI kvs')),v,w,u])):aK 6 (br fp fH fc cL ft cR bC cS) [.t (.tup (.str z :: ds)),.t r,.b (.cI kvs)]=some (.m o,[.cI kvs']):=by
 refine ach (x:=x) (y:=y) (z:=v) (v:=w) (w:=u) ?_
 rw[Yu]
 exact(iV ta0).trans h
structure Inner (z:Str):Prop where
 n1:z≠"yes"
 n2:z≠"no"
 n3:z≠"now"
 n4:z≠"each"
 n5:z≠"one"
def nh {v:Option U}(hz:Inner z) (hl:gz (.str z :: ds) (-1)=some p) (e:ft [.t p,.t r,.b (.cI kvs)]=some (.t (.lst l),[.cI kvs'])) (h:RN fp fH fc cL ft cR bC cS (SB z ds r kvs' l)=some (.rt (.m o) [x,y,some (.b (.cI wN)),v,w,u])):aK 6 (br fp fH fc cL ft cR bC cS) [.t (.tup (.str z :: ds)),.t r,.b (.cI kvs)]=some (.m o,[.cI wN]):=
 tb_start (x:=x) (y:=y) (v:=v) (w:=w) (u:=u) ((iV (Qt rfl hz.n1 hz.n2)).trans ((iV (kI rfl hz.n3)).trans ((iV (kI rfl hz.n4)).trans ((iV (kI rfl hz.n5)).trans ((iV (ta5 hl e)).trans h)))))
def Hv (hz:z="yes"\/z="no")(hn:n < 90000) (hr:r= .tup rs\/r= .lst rs) (hl:rs.length=n):
  aK 6 (br fp fH fc cL ft cR bC cS) [.t (.tup [.str z]),.t r,.b (.cI kvs)]=some (.m (.lst (List.replicate (n+1) (.bl (decide (z="yes"))))),[.cI kvs]):=by
 have h1:((n:Int)+1).toNat=n+1:=by lia
 have h2:(0:Int)<=(n:Int)+1:=by lia
 have h3:n+1<=100000:=by lia
 have e:∀b:D,(List.replicate (n+1) [b]).flatten=List.replicate (n+1) b:=fun b=>by
  induction (n+1) with
  | zero=>rfl
  | succ m ih=>rw[ab9,acZ,ih,ab9];rfl
 refine tb_start (x:=AAA (.tup [.str z])) (y:=AAA r) (v:=AAA (.str z)) (w:=none) (u:=none) (za ?_)
 rcases hz with rfl | rfl <;> rcases hr with rfl | rfl <;> simp[th1,hl,h1,h2,h3,e]
def UA (e:ft [.t p,.t r,.b (.cI kvs)]=some (.t (.lst l),[.cI kvs'])) (e2:cR [.t (.lst l)]=some (.m o,[])):
  aK 6 (br fp fH fc cL ft cR bC cS) [.t (.tup [.str "not",p]),.t r,.b (.cI kvs)]=some (.m o,[.cI kvs']):=
 nh (⟨by decide,by decide,by decide,by decide,by decide⟩) (Hu _ _) e (za ((rF rfl).trans (by simp[e2];exact⟨rfl,rfl,rfl,rfl,rfl⟩)))
def Qu (e:ft [.t p,.t r,.b (.cI kvs)]=some (.t (.lst l),[.cI kvs'])) (hl:(l.drop 1).length < 90000):
  aK 6 (br fp fH fc cL ft cR bC cS) [.t (.tup [.str "next",p]),.t r,.b (.cI kvs)]=some (.m (.lst (l.drop 1++[.bl false])),[.cI kvs']):=by
 have c:L2.cutD l (some 1) none=l.drop 1:=DN l 1
 have h:(l.drop 1).length+1<=100000:=by lia
 exact nh (⟨by decide,by decide,by decide,by decide,by decide⟩) (Hu _ _) e ((iV (kI rfl (by decide))).trans (za ((rF rfl).trans (by simp[-List.drop_one,-List.length_drop,c,iw,h];exact⟨rfl,rfl,rfl,rfl,rfl⟩))))
def Jq (e:ft [.t p,.t r,.b (.cI kvs)]=some (.t (.lst l),[.cI kvs'])) (hc:l.take (l.length - 1)=l2) (e2:fH [.t (.lst l2)]=some (.m o,[])):
  aK 6 (br fp fH fc cL ft cR bC cS) [.t (.tup [.str "always",p]),.t r,.b (.cI kvs)]=some (.m o,[.cI kvs']):=by
 have c:=(pX l).trans hc
 exact nh (⟨by decide,by decide,by decide,by decide,by decide⟩) (Hu _ _) e ((iV (kI rfl (by decide))).trans ((iV (kI rfl (by decide))).trans (za ((rF rfl).trans (by simp[c,iw,e2];exact⟨rfl,rfl,rfl,rfl,rfl⟩)))))
def Qv (e:ft [.t p,.t r,.b (.cI kvs)]=some (.t (.lst l),[.cI kvs'])) (hc:l.take (l.length - 1)=l2) (e2:cL [.t (.lst l2)]=some (.m o,[])):
  aK 6 (br fp fH fc cL ft cR bC cS) [.t (.tup [.str "some",p]),.t r,.b (.cI kvs)]=some (.m o,[.cI kvs']):=by
 have c:=(pX l).trans hc
 exact nh (⟨by decide,by decide,by decide,by decide,by decide⟩) (Hu _ _) e ((iV (kI rfl (by decide))).trans ((iV (kI rfl (by decide))).trans ((iV (kI rfl (by decide))).trans (za ((rF rfl).trans (by simp[c,iw,e2];exact⟨rfl,rfl,rfl,rfl,rfl⟩))))))
def Jr {k:D}(e:ft [.t p,.t r,.b (.cI kvs)]=some (.t (.lst l),[.cI kvs'])) (hc:l.take (l.length - 1)=l2) (e2:bC [.t k,.t (.lst l2)]=some (.m o,[])):
  aK 6 (br fp fH fc cL ft cR bC cS) [.t (.tup [.str "within",k,p]),.t r,.b (.cI kvs)]=some (.m o,[.cI kvs']):=by
 have c:=(pX l).trans hc
 exact nh (⟨by decide,by decide,by decide,by decide,by decide⟩) (RM _ _ _) e ((iV (kI rfl (by decide))).trans ((iV (kI rfl (by decide))).trans ((iV (kI rfl (by decide))).trans ((iV (kI rfl (by decide))).trans (za ((rF rfl).trans (by simp[Yv,c,iw,e2];exact⟨rfl,rfl,rfl,rfl,rfl⟩)))))))
def Qw {a y:D}(e:fc [.t (.tup [.str "each",a,y,p]),.t r,.b (.cI kvs)]=some (.m (.lst l),[.cI kvs'])) (e2:fH [.t (.lst l)]=some (.m o,[])):
  aK 6 (br fp fH fc cL ft cR bC cS) [.t (.tup [.str "each",a,y,p]),.t r,.b (.cI kvs)]=some (.m o,[.cI kvs']):=
 tb_start ((iV (Qt rfl (by decide) (by decide))).trans ((iV (kI rfl (by decide))).trans (za ((rF rfl).trans (by simp[e,e2];exact⟨rfl,rfl,rfl,rfl,rfl⟩)))))
def UB {a y:D}(e:fc [.t (.tup [.str "one",a,y,p]),.t r,.b (.cI kvs)]=some (.m (.lst l),[.cI kvs'])) (e2:cL [.t (.lst l)]=some (.m o,[])):
  aK 6 (br fp fH fc cL ft cR bC cS) [.t (.tup [.str "one",a,y,p]),.t r,.b (.cI kvs)]=some (.m o,[.cI kvs']):=
 tb_start ((iV (Qt rfl (by decide) (by decide))).trans ((iV (kI rfl (by decide))).trans ((iV (kI rfl (by decide))).trans (za ((rF rfl).trans (by simp[e,e2];exact⟨rfl,rfl,rfl,rfl,rfl⟩))))))
structure acj (z:Str):Prop extends Inner z where
 m1:z≠"not"
 m2:z≠"next"
 m3:z≠"always"
 m4:z≠"some"
 m5:z≠"within"
def Cf {v:Option U}(hz:acj z) (e:ft [.t q,.t r,.b (.cI kvs)]=some (.t (.lst l),[.cI kvs'])) (e1:ft [.t p,.t r,.b (.cI kvs')]=some (.t (.lst l2),[.cI wN]))
  (h:aQ (Uy fp fH fc cL ft cR bC cS) (aQ (Uz fp fH fc cL ft cR bC cS) (Qs fp fH fc cL ft cR bC cS)) (SC z [p,q] r wN l l2)=some (.rt (.m o) [x,y,some (.b (.cI wN)),v,w,u])):
  aK 6 (br fp fH fc cL ft cR bC cS) [.t (.tup [.str z,p,q]),.t r,.b (.cI kvs)]=some (.m o,[.cI wN]):=
 nh (x:=x) (y:=y) (v:=v) (w:=w) (u:=u) hz.toInner (RM _ _ _) e ((iV (kI rfl hz.m1)).trans ((iV (kI rfl hz.m2)).trans ((iV (kI rfl hz.m3)).trans ((iV (kI rfl hz.m4)).trans ((iV (kI rfl hz.m5)).trans ((iV (aci (Yv _ _ _) e1)).trans h))))))
def Qx {l3 l4:List D}(e:ft [.t q,.t r,.b (.cI kvs)]=some (.t (.lst l),[.cI kvs'])) (e1:ft [.t p,.t r,.b (.cI kvs')]=some (.t (.lst l2),[.cI wN])) (hc:l.take (l.length - 1)=l3) (hc2:l2.take (l2.length - 1)=l4) (e2:cS [.t (.lst l4),.t (.lst l3)]=some (.m o,[])):
  aK 6 (br fp fH fc cL ft cR bC cS) [.t (.tup [.str "till",p,q]),.t r,.b (.cI kvs)]=some (.m o,[.cI wN]):=by
 have c:=(pX l).trans hc
 have c2:=(pX l2).trans hc2
 exact Cf (⟨⟨by decide,by decide,by decide,by decide,by decide⟩,by decide,by decide,by decide,by decide,by decide⟩) e e1 ((iV (kI rfl (by decide))).trans ((iV (kI rfl (by decide))).trans (by simp[Qs,c,c2,iw,e2];exact⟨rfl,rfl,rfl,rfl,rfl⟩)))
theorem zb (g:GD) (f:Bool->Bool->Bool) (hg:∀a b,g [AAA (.bl a),AAA (.bl b)]=some (.bl (f a b),[AAA (.bl a),AAA (.bl b)])) (S:SS):∀(ps:List (Bool×Bool)) (acc:List D),iS [] cF g (ps.map pd) S acc=some (acc++bl (ps.map fun p=>f p.1 p.2),S)
 | [],acc=>by simp[iS,bl]
 | p :: ps,acc=>by
  have ih:=zb g f hg S ps (acc++[.bl (f p.1 p.2)])
  show iS [] cF g (.tup [.bl p.1,.bl p.2] :: ps.map pd) S acc=_
  have e:=hg p.1 p.2
  simp[iS,dg,slotsOf,bJ,bz,cF,e,aL,wb,ih]
  kernel_rfl
def MX {f:Bool->Bool->Bool}(hz:(z="both"/\f=fun a b=>a && b)\/(z="either"/\f=fun a b=>a || b)){s:List Bool}(hl:s.length < 90000) (e:ft [.t q,.t r,.b (.cI kvs)]=some (.t (.lst (bl c)),[.cI kvs'])) (e1:ft [.t p,.t r,.b (.cI kvs')]=some (.t (.lst (bl s)),[.cI wN])):
  aK 6 (br fp fH fc cL ft cR bC cS) [.t (.tup [.str z,p,q]),.t r,.b (.cI kvs)]=some (.m (.lst (bl ((s.zip c).map fun p=>f p.1 p.2))),[.cI wN]):=by
 have hz2:List.zipWith (fun a b:D=>D.tup [a,b]) (bl s) (bl c)=(s.zip c).map pd:=Hq s c
 have hl2:((s.zip c).map pd).length<=100000:=by rw[aaw,afH];lia
 have e3:=zb (eQ (lO (qB (eF (aj 0))) (qB (eF (aj 1))))) (fun a b=>a && b) (fun a b=>by cases a <;> simp)
 have e4:=zb (eQ (C6 (qB (eF (aj 0))) (qB (eF (aj 1))))) (fun a b=>a || b) (fun a b=>by cases a <;> simp)
 rcases hz with⟨rfl,rfl⟩ | ⟨rfl,rfl⟩
 ·exact Cf (⟨⟨by decide,by decide,by decide,by decide,by decide⟩,by decide,by decide,by decide,by decide,by decide⟩) e e1 (za ((rF rfl).trans (by simp[-List.length_map,-List.length_zip,hz2,hl2,e3];exact⟨rfl,rfl,rfl,rfl,rfl⟩)))
 ·exact Cf (⟨⟨by decide,by decide,by decide,by decide,by decide⟩,by decide,by decide,by decide,by decide,by decide⟩) e e1 ((iV (kI rfl (by decide))).trans (za ((rF rfl).trans (by simp[-List.length_map,-List.length_zip,hz2,hl2,e4];exact⟨rfl,rfl,rfl,rfl,rfl⟩))))
end
def Rw (R:Row) (r:D):Prop:=r= .tup (R.map lM)\/r= .lst (R.map lM)
section
variable {fp fH fc cL ft cR bC cS FE:FM}{p q r t:D}{kvs kvs' wN:List (D×D)}{o:MO}{l l2:List D}{R:Row}
def MY (d:D) (hd:d= .tup [.str "now",t]) (b:Str×Int->Bool) (hp:∀h∈R,fp [.t t,.t (lM h)]=some (.t (.bl (b h)),[])) (hS:S1[0]? =some (AAA d)):
  dj [0] cF (eF (aO fp (aH (cD 1 (eC (.int 1))) (aH (eF (aj 0)) aT)))) (R.map lM) S1 []=some (bl (R.map b),S1):=by
 subst hd
 have:∀(R':Row) (acc:List D),(∀h∈R',h∈R)->dj [0] cF (eF (aO fp (aH (cD 1 (eC (.int 1))) (aH (eF (aj 0)) aT)))) (R'.map lM) S1 acc=some (acc++bl (R'.map b),S1):=by
  intro R'
  induction R' with
  | nil=>intro acc _;simp[dj,bl]
  | cons h R' ih=>
   intro acc hm
   have e:=hp h (hm h aaR)
   rw[aaQ,Sq.yQ]
   have e1:dj [0] cF (eF (aO fp (aH (cD 1 (eC (.int 1))) (aH (eF (aj 0)) aT)))) [lM h] S1 acc=some (acc++[.bl (b h)],S1):=by
    simp[dj,dg,yj,hS,aL,gO,e]
   rw[e1,aau,ih _ fun x hx=>hm x (aaP _ hx)]
   simp[bl]
 simpa using this R [] fun a h=>h
def UC (b:Str×Int->Bool) (hp:∀h∈R,fp [.t t,.t (lM h)]=some (.t (.bl (b h)),[])) (hr:Rw R r) (hl:R.length < 90000):
  aK 6 (br fp fH fc cL ft cR bC cS) [.t (.tup [.str "now",t]),.t r,.b (.cI kvs)]=some (.m (.lst (bl (R.map b++[false]))),[.cI kvs]):=by
 have e:=fun S1 hS=>MY (S1:=S1) (.tup [.str "now",t]) rfl b hp hS
 have h1:(R.map lM).length<=100000:=by rw[aaw];lia
 have h2:(bl (R.map b)).length+1<=100000:=by rw[nR,aaw];lia
 have e2:bl (R.map b)++[.bl false]=bl (R.map b++[false]):=by simp[bl]
 refine tb_start (x:=AAA (.tup [.str "now",t])) (y:=AAA r) (v:=AAA (.str "now")) (w:=none) (u:=none) ((iV (Qt rfl (by decide) (by decide))).trans (za ((rF rfl).trans ?_)))
 rcases hr with rfl | rfl <;> simp[-List.length_map,je,h1,h2,e,e2]
def UD {y x:Str}{m:Int}{part:D}{b:Bool}{x4 x5:Option U}(h6:fB x6=false) (hx:x=a) (e1:FE [.t p,.t (.str y),.t (.int m)]=some (.t part,[])) (e2:ft [.t part,.t r,.b (.cI kvs)]=some (.t (.lst l),[.cI kvs'])) (e3:gz l (i:Int)=some (.bl b)) (ha:acc.length < 100000):
  cQ FE ft [AAA (.tup [.str z,.str a,.str y,p]),AAA r,some (.b (.cI kvs)),AAB acc,AAC i,AAA (.tup [.str x,.int m]),x6]=
   some (.nx [AAA (.tup [.str z,.str a,.str y,p]),AAA r,some (.b (.cI kvs')),AAB (acc++[.bl b]),AAC i,AAA (.tup [.str x,.int m]),AAA part]):=by
 subst hx
 have t3:gz [D.str z,.str x,.str y,p] 3=some p:=rfl
 simp[-eZ,dh,h6,cQ,dD,gO,lW,t3,e1,e2,e3,ha]
def Qy {y x:Str}{m:Int}{x4 x5:Option U}(hx:¬x=a) (ha:acc.length < 100000):
  cQ FE ft [AAA (.tup [.str z,.str a,.str y,p]),AAA r,some (.b (.cI kvs)),AAB acc,AAC i,AAA (.tup [.str x,.int m]),x6]=
   some (.nx [AAA (.tup [.str z,.str a,.str y,p]),AAA r,some (.b (.cI kvs)),AAB (acc++[.bl (decide (z="each"))]),AAC i,AAA (.tup [.str x,.int m]),x6]):=by
 by_cases hz:z="each"
 ·subst hz;simp[cQ,dD,gO,lW,hx,ha]
 ·simp[cQ,dD,gO,lW,hx,ha,hz]
def MZ {j:Nat}{d:D}(h:(rC (R.map lM))[j]? =some d):∃x,R[j]? =some x/\d= .tup [.int j,lM x]:=by
 unfold rC at h
 rw[List.getElem?_mapIdx,aaO] at h
 cases e:R[j]? with
 | none=>rw[e] at h;cases h
 | some x=>rw[e] at h;cases h;exact⟨x,rfl,rfl⟩
def M0 (R:Row):(rC (R.map lM)).length=R.length:=by unfold rC;rw[List.length_mapIdx,aaw]
inductive ack (Kn:List (D×D)->Prop) (z a y:Str) (p r:D) (n C:Nat) (b:Nat->Bool) (j:Nat) (S:SS):Prop
 | mk (ks:List (D×D)) (x4 x5 x6:Option U) (k1:Kn ks) (k2:ks.length<=n+j * C) (b4:fB x4=false/\fB x5=false/\fB x6=false) (e:S=[some (.t (.tup [.str z,.str a,.str y,p])),some (.t r),some (.b (.cI ks)),some (.m (.lst (bl (tl j b)))),x4,x5,x6])
def UE {y:Str}{Kn:List (D×D)->Prop}{C:Nat}(hr:Rw R r) (hl:R.length < 90000) (b:Nat->Bool) (hk:Kn kvs)
  (step:∀(i:Nat) (h:Str×Int) (ks:List (D×D)),R[i]? =some h->Kn ks->ks.length<=kvs.length+i * C->h.1=a->∃part l ks',FE [.t p,.t (.str y),.t (.int h.2)]=some (.t part,[])/\ft [.t part,.t r,.b (.cI ks)]=some (.t (.lst l),[.cI ks'])/\gz l (i:Int)=some (.bl (b i))/\Kn ks'/\ks'.length<=ks.length+C)
  (hb:∀(i:Nat) (h:Str×Int),R[i]? =some h->¬h.1=a->b i=decide (z="each")):
  ∃kvs',aK 7 (dc FE ft) [.t (.tup [.str z,.str a,.str y,p]),.t r,.b (.cI kvs)]=some (.m (.lst (bl (tl R.length b))),[.cI kvs'])/\Kn kvs'/\kvs'.length<=kvs.length+R.length * C:=by
 obtain⟨S',e,ks,x4,x5,x6,h1,h2,hh,rfl⟩:=tY (bd:=oH 2 (eG (bName 4) (eG (bName 5) o9))) (body:=cQ FE ft) (rC (R.map lM))
  (ack Kn z a y p r kvs.length C b)
  [AAA (.tup [.str z,.str a,.str y,p]),AAA r,some (.b (.cI kvs)),AAB [],none,none,none] ⟨kvs,none,none,none,hk,by lia,⟨rfl,rfl,rfl⟩,rfl⟩ (by
   rintro j d S hd ⟨ks,x4,x5,x6,k1,k2,⟨b4,b5,b6⟩,rfl⟩
   obtain⟨h,hj,rfl⟩:=MZ hd
   have jl:j < R.length:=(aaG.mp hj).1
   have ha:(bl (tl j b)).length < 100000:=by rw[nR,ji];lia
   have et:bl (tl (j+1) b)=bl (tl j b)++[.bl (b j)]:=by unfold bl tl;rw[aeM,acH,acH];rfl
   have ej:(j+1) * C=j * C+C:=by rw[aex,afb]
   obtain⟨x,m⟩:=h
   have bind:oH 2 (eG (bName 4) (eG (bName 5) o9)) (.tup [.int j,lM (x,m)]) [AAA (.tup [.str z,.str a,.str y,p]),AAA r,some (.b (.cI ks)),AAB (bl (tl j b)),x4,x5,x6]=some [AAA (.tup [.str z,.str a,.str y,p]),AAA r,some (.b (.cI ks)),AAB (bl (tl j b)),AAC j,AAA (.tup [.str x,.int m]),x6]:=by
    simp[-eZ,dh,b4,b5,lM]
   by_cases c:x=a
   ·obtain⟨part,l,ks',e1,e2,e3,e4,e5⟩:=step j (x,m) ks hj k1 k2 c
    exact⟨_,_,bind,UD (x4:=x4) (x5:=x5) b6 c e1 e2 e3 ha,ks',AAC j,AAA (.tup [.str x,.int m]),AAA part,e4,by lia,⟨rfl,rfl,rfl⟩,by rw[et]⟩
   ·have hbj:=hb j (x,m) hj c
    exact⟨_,_,bind,Qy (x4:=x4) (x5:=x5) c ha,ks,AAC j,AAA (.tup [.str x,.int m]),x6,k1,by lia,⟨rfl,rfl,b6⟩,by rw[et,hbj]⟩)
 rw[M0] at h2 e
 refine⟨ks,?_,h1,h2⟩
 have e':loop (oH 2 (eG (bName 4) (eG (bName 5) o9))) (cQ FE ft) (rC (R.map lM)) [AAA (.tup [.str z,.str a,.str y,p]),AAA r,some (.b (.cI kvs)),AAB [],none,none,none]=_:=e
 rcases hr with rfl | rfl <;> simp[aK,dc,aL,e']
def M1 {d v:D}(hk:wM d=some d) (h:b7 kvs d=some v):aK 3 (fU fc) [.t d,.t r,.b (.cI kvs)]=some (.t v,[.cI kvs]):=by
 simp[aK,fU,aL,IF,LW,hk,h]
def UG {d:D}(hk:wM d=some d) (h:b7 kvs d=none) (e:fc [.t d,.t r,.b (.cI kvs)]=some (.m (.lst l),[.cI kvs'])) (hl:kvs'.length < 10000000) (h2:b7 (putD kvs' d (.lst l)) d=some (.lst l)):
  aK 3 (fU fc) [.t d,.t r,.b (.cI kvs)]=some (.t (.lst l),[.cI (putD kvs' d (.lst l))]):=by
 simp[aK,fU,aL,IF,LW,hk,h,e,hl,h2]
end
def rG  [DecidableEq κ] (kvs:List (κ×D)) (k:κ) (v:D):b7 (putD kvs k v) k=some v:=by
 unfold putD
 split
 ·rename_i h
  induction kvs with
  | nil=>simp at h
  | cons p ps ih=>
   by_cases e:p.1=k
   ·simp[b7,ab4,e]
   ·have h':(ps.any fun kv=>decide (kv.1=k))=true:=by simpa[acm,e] using h
    have:=ih h'
    simpa[b7,ab4,e] using this
 ·rename_i h
  induction kvs with
  | nil=>simp[b7]
  | cons p ps ih=>
   have e:¬p.1=k:=fun q=>h (by simp[acm,q])
   have h':¬(ps.any fun kv=>decide (kv.1=k))=true:=fun q=>h (by simp[acm,q])
   have:=ih h'
   simpa[b7,ab4,e] using this
def DY  [DecidableEq κ] (kvs:List (κ×D)){k k':κ}(v:D) (hn:k'≠k):b7 (putD kvs k v) k'=b7 kvs k':=by
 unfold putD
 split
 ·rename_i h
  clear h
  induction kvs with
  | nil=>rfl
  | cons p ps ih=>
   by_cases e:p.1=k
   ·have:¬p.1=k':=fun q=>hn (q.symm.trans e)
    have e2:¬k=k':=fun q=>hn q.symm
    simpa[b7,ab4,e,e2] using ih
   ·by_cases e2:p.1=k'
    ·simp[b7,ab4,e,e2,hn]
    ·simpa[b7,ab4,e,e2] using ih
 ·have e2:¬k=k':=fun q=>hn q.symm
  simp[b7,List.find?_append,e2]
def FF  [DecidableEq κ] (kvs:List (κ×D)) (k:κ) (v:D):(putD kvs k v).length<=kvs.length+1:=by
 unfold putD
 split
 ·rw[aaw];lia
 ·simp
def UH:Nat->FM×FM×FM
 | 0=>(fun a=>none,fun a=>none,fun a=>none)
 | j+1=>(aK 3 (fU (UH j).2.1),aK 6 (br wB DW (UH j).2.2 lZ (UH j).1 turnF wu lu),aK 7 (dc (d8 9) (UH j).1))
def DZ (j:Nat):FM:=(UH j).1
def RO (j:Nat):FM:=(UH j).2.1
def RP (j:Nat):FM:=(UH j).2.2
def UI (j:Nat):∀us r,DZ (j+1) us=some r->aK 3 (fU (RO j)) us=some r:=fun a a h=>h
def UJ (j:Nat):∀us r,RO (j+1) us=some r->aK 6 (br wB DW (RP j) lZ (DZ j) turnF wu lu) us=some r:=fun a a h=>h
def UK (j:Nat):∀us r,RP (j+1) us=some r->aK 7 (dc (d8 9) (DZ j)) us=some r:=fun a a h=>h
def M3 (us:List U):DZ 0 us=none:=rfl
def M4 (us:List U):RO 0 us=none:=rfl
def M5 (us:List U):RP 0 us=none:=rfl
def J5 (R:Row) (d:D):List D:=bl (tl (R.length+1) (ev R iD d))
def Kn (R:Row) (kvs:List (D×D)):Prop:=∀k v,b7 kvs k=some v->v= .lst (J5 R k)
def Kn.put {R:Row}{d:D}(h:Kn R kvs):Kn R (putD kvs d (.lst (J5 R d))):=fun k v e=>by
 by_cases c:k=d
 ·subst c
  rw[rG] at e
  cases e
  rfl
 ·rw[DY _ _ c] at e
  exact h k v e
def Qz (R:Row) (f:FM) (r:D) (n:Nat):Prop:=∀(d:D) (kvs:List (D×D)),Sy n [] d->Kn R kvs->kvs.length+cost R.length d < 10000000->
 ∃kvs',f [.t d,.t r,.b (.cI kvs)]=some (.t (.lst (J5 R d)),[.cI kvs'])/\Kn R kvs'/\kvs'.length<=kvs.length+cost R.length d
def M6 (R:Row) (t:D):R.map (fun h=>N8 iD h t)++[false]=tl (R.length+1) (ev R iD (.tup [.str "now",t])):=by
 apply adZ
 intro i
 by_cases c:i < R.length
 ·rw[pZ _ (by lia),r9,ada (by rw[aaw];exact c),aaO,aaD c];rfl
 ·by_cases c2:i=R.length
  ·subst c2
   rw[pZ _ (by lia),r9,ad6 (by rw[aaw];lia),aaw,abe (l:=R) (by lia)]
   simp
  ·rw[abe (by rw[aaB,aaw];simp;lia),abe (by rw[ji];lia)]
def iM {f:Nat->Bool}(h:∀i,i < n->f i=g i):tl n f=tl n g:=adN fun i hi=>h i (ab8.mp hi)
def uq (n:Nat) (f:Nat->Bool):(bl (tl (n+1) f)).take ((bl (tl (n+1) f)).length - 1)=bl (tl n f):=Qo n f
def Bb (R:Row) (z:Str):List.replicate (R.length+1) (D.bl (decide (z="yes")))=J5 R (.tup [.str z]):=by
 unfold J5 bl tl
 rw[ac4]
 apply adZ
 intro i
 by_cases c:i < R.length+1
 ·rw[aem,if_pos c,aaO,aeZ c];simp[nO]
 ·rw[abe (by rw[aeB];lia),abe (by rw[aaw,adG];lia)]
section
variable {R:Row}{r:D}
def N9 {ks:List (D×D)}{a b:List Bool}(h:a=b):some (U.m (MO.lst (bl a)),[MO.cI ks])=some (U.m (MO.lst (bl b)),[MO.cI ks]):=by rw[h]
def Yx {f fh:FM}{d:D}(hr:Rw R r) (hl:R.length < 80000) (hR:∀h∈R,0<=h.2/\h.2<=9) (h9:n<=9) (ih:Qz R f r n) (eh:fh=aK 7 (dc (d8 9) f)\/∃f2,Qz R f2 r n/\fh=aK 7 (dc (d8 9) f2))
  (hd:Sy (n+1) [] d) (hk:Kn R kvs) (hc:kvs.length+cost R.length d < 10000000):
  ∃kvs',aK 6 (br wB DW fh lZ f turnF wu lu) [.t d,.t r,.b (.cI kvs)]=some (.m (.lst (J5 R d)),[.cI kvs'])/\Kn R kvs'/\kvs'.length+1<=kvs.length+cost R.length d:=by
 have UL:∀g:Nat->Bool,(tl (R.length+1) g).length < 90000:=fun g=>by rw[ji];lia
 have Bc:∀g:Nat->Bool,(tl R.length g).length < 90000:=fun g=>by rw[ji];lia
 cases hd with
 | @leaf _ _ z h=>
  rw[A7]
  refine⟨kvs,?_,hk,by lia⟩
  rcases hr with rfl | rfl
  ·rw[Hv h (n:=R.length) (rs:=R.map lM) (by lia) (.inl rfl) (aaw ..),Bb]
  ·rw[Hv h (n:=R.length) (rs:=R.map lM) (by lia) (.inr rfl) (aaw ..),Bb]
 | @now _ _ t h=>
  rw[uf]
  refine⟨kvs,?_,hk,by lia⟩
  rw[UC (fun h=>N8 iD h t) (fun x e=>MW h x) hr (by lia),M6]
  rfl
 | @one _ _ z p hz hp=>
  rw[ug _ hz] at hc ⊢
  refine aa5 fun ng=>?_
  obtain⟨ks,e1,e2,e3⟩:=ih p kvs hp hk (by lia)
  rcases dF hz with rfl | rfl | rfl | rfl
  ·refine ng ⟨ks,?_,e2,by lia⟩
   have:=yY (l:=tl (R.length+1) (ev R iD p)) (by have:=UL (ev R iD p);lia)
   rw[UA e1 this,FD]
   exact N9 (iM fun i e=>(fX R iD i p).symm)
  ·refine ng ⟨ks,?_,e2,by lia⟩
   rw[Qu e1 (by unfold J5;rw[acy,nR,ji];lia)]
   unfold J5
   rw[Qp]
   exact N9 (iM fun i e=>(nP R iD i p).symm)
  ·refine ng ⟨ks,?_,e2,by lia⟩
   rw[Jq e1 (uq _ _) (Hs (c:=tl R.length (ev R iD p)) (by have:=Bc (ev R iD p);lia)),MU]
   exact N9 (iM fun i e=>(iY R iD i p).symm)
  ·refine ng ⟨ks,?_,e2,by lia⟩
   rw[Qv e1 (uq _ _) (yZ (c:=tl R.length (ev R iD p)) (by have:=Bc (ev R iD p);lia)),Cd]
   exact N9 (iM fun i e=>(kH R iD i p).symm)
 | @two _ _ z p q hz hp hq=>
  rw[uh _ hz] at hc ⊢
  refine aa5 fun ng=>?_
  obtain⟨ks,e1,e2,e3⟩:=ih q kvs hq hk (by lia)
  obtain⟨ks2,g1,g2,g3⟩:=ih p ks hp e2 (by lia)
  rcases dO hz with rfl | rfl | rfl
  ·refine ng ⟨ks2,?_,g2,by lia⟩
   rw[MX (.inl ⟨rfl,rfl⟩) (UL _) e1 g1,FA,ac4]
   exact N9 (iM (n:=R.length+1) fun i e=>(jh R iD i p q).symm)
  ·refine ng ⟨ks2,?_,g2,by lia⟩
   rw[MX (.inr ⟨rfl,rfl⟩) (UL _) e1 g1,FA,ac4]
   exact N9 (iM (n:=R.length+1) fun i e=>(gn R iD i p q).symm)
  ·refine ng ⟨ks2,?_,g2,by lia⟩
   rw[Qx e1 g1 (uq _ _) (uq _ _) (DV (tl R.length (ev R iD p)) (tl R.length (ev R iD q)) (by have:=Bc (ev R iD q);lia)),Ht]
   exact N9 (iM fun i e=>(nQ R iD i p q).symm)
 | @xB _ _ k p k0 k5 hp=>
  rw[um] at hc ⊢
  obtain⟨ks,e1,e2,e3⟩:=ih p kvs hp hk (by lia)
  refine⟨ks,?_,e2,by lia⟩
  have ek:(k.toNat:Int)=k:=by lia
  have es:=MS (c:=tl R.length (ev R iD p)) (n:=k.toNat) (Bc _)
  rw[ek] at es
  rw[Jr e1 (uq _ _) es,Qn]
  exact N9 (iM fun i e=>(jI R iD i k p).symm)
 | @bnd _ _ z a y p hz ha hb hp=>
  rw[uo] at hc ⊢
  have hp:Sy n [y] p:=hp
  have core:∀f2:FM,Qz R f2 r n->∃ks,aK 7 (dc (d8 9) f2) [.t (.tup [.str z,.str a,.str y,p]),.t r,.b (.cI kvs)]=some (.m (.lst (bl (tl R.length fun i=>match R[i]? with | some h=>if h.1=a then ev R (u6 iD y h.2) p i else decide (z="each") | none=>decide (z="each")))),[.cI ks])/\Kn R ks/\ks.length<=kvs.length+R.length * cost R.length p:=fun f2 ih2=>by
   refine UE (Kn:=Kn R) hr (by lia) _ hk (fun i h ks hi k1 k2 c=>?_) (fun i h hi c=>?_)
   ·have hm:=hR h (ab3 hi)
    have il:i < R.length:=(aaG.mp hi).1
    have sp:Sy n [] (iC n [y] (.int h.2) p):=by
     have:=MG hp hm.1 hm.2 [y]
     simpa using this
    have cp:=MK R.length hp [y] (.int h.2)
    have hi2:i * cost R.length p+cost R.length p<=R.length * cost R.length p:=by
     rw[<-Nat.succ_mul];exact Nat.mul_le_mul_right _ il
    obtain⟨ks',e1,e2,e3⟩:=ih2 (iC n [y] (.int h.2) p) ks sp k1 (by rw[cp];lia)
    refine⟨_,_,ks',Ho hp y (.int h.2) h9,e1,?_,e2,by rw[cp] at e3;exact e3⟩
    unfold J5
    refine Sq.uZ (by lia) ?_
    unfold bl
    rw[aaO]
    have:(i:Int).toNat=i:=by lia
    rw[this,pZ _ (by lia),MJ R hp,hi]
    simp[c]
   ·rw[hi];simp[c]
  obtain⟨ks,e1,e2,e3⟩:∃ks,fh [.t (.tup [.str z,.str a,.str y,p]),.t r,.b (.cI kvs)]=some (.m (.lst (bl (tl R.length fun i=>match R[i]? with | some h=>if h.1=a then ev R (u6 iD y h.2) p i else decide (z="each") | none=>decide (z="each")))),[.cI ks])/\Kn R ks/\ks.length<=kvs.length+R.length * cost R.length p:=by
   rcases eh with rfl | ⟨f2,ih2,rfl⟩
   ·exact core f ih
   ·exact core f2 ih2
  refine⟨ks,?_,e2,by lia⟩
  rcases hz with rfl | rfl
  ·rw[Qw e1 (Hs (by have:=Bc (fun i=>match R[i]? with | some h=>if h.1=a then ev R (u6 iD y h.2) p i else decide (("each":Str)="each") | none=>decide (("each":Str)="each"));lia)),MU]
   refine N9 (iM fun i e=>?_)
   rw[ud]
   try congr 1
  ·rw[UB e1 (yZ (by have:=Bc (fun i=>match R[i]? with | some h=>if h.1=a then ev R (u6 iD y h.2) p i else decide (("one":Str)="each") | none=>decide (("one":Str)="each"));lia)),Cd]
   refine N9 (iM fun i e=>?_)
   rw[Cc]
   have lit:decide (("one":Str)="each")=false:=by decide
   kernel_rfl
   try congr 1
theorem M7 (hr:Rw R r) (hl:R.length < 80000) (hR:∀h∈R,0<=h.2/\h.2<=9):∀(n:Nat),n<=7->∀j,3 * n<=j->Qz R (DZ j) r n
 | 0,_,_,_=>fun d kvs h=>by cases h
 | n+1,hn,j,hj=>fun d kvs hd hk hc=>by
  obtain⟨i,rfl⟩:∃i,j=i+3:=⟨j - 3,by lia⟩
  show ∃kvs',aK 3 (fU (RO (i+2))) _=_/\_
  have kd:=Qh hd hn
  cases e:b7 kvs d with
  | some v=>
   have:=hk d v e
   subst this
   exact⟨kvs,M1 kd e,hk,by lia⟩
  | none=>
   obtain⟨ks,e1,e2,e3⟩:=Yx (f:=DZ (i+1)) (fh:=RP (i+1)) hr hl hR (by lia) (M7 hr hl hR n (by lia) (i+1) (by lia)) (.inr ⟨DZ i,M7 hr hl hR n (by lia) i (by lia),rfl⟩) hd hk hc
   have:=FF ks d (.lst (J5 R d))
   exact⟨_,UG kd e e1 (by lia) (rG ..),e2.put,by lia⟩
end
def ur (aW:FM):GS:=
 (bT (eP En (aa (eF (aO aW (aH (eF (aj 0)) (aH (eF (aj 1)) (cg LV aT))))) (aa (eF (aj 2)) aq))))
def rH:FM:=aK 3 (ur (DZ 24))
def M8:∀us r,rH us=some r->aK 3 (ur (DZ 24)) us=some r:=fun a a h=>h
def Kn.nil (R:Row):Kn R []:=fun k v h=>by cases h
def Js {f:FM}{d r:D}{l:List D}{i:Int}{b:Bool}(e:f [.t d,.t r,.b (.cI [])]=some (.t (.lst l),[.cI kvs'])) (ei:gz l i=some (.bl b)):aK 3 (ur f) [.t d,.t r,.t (.int i)]=some (.t (.bl b),[]):=by
 simp[aK,ur,aL,e,ei]
def UM (R:Row) (d:D)(h:i<=R.length):gz (J5 R d) (i:Int)=some (.bl (ev R iD d i)):=by
 refine Sq.uZ (by lia) ?_
 unfold J5 bl
 have:(i:Int).toNat=i:=by lia
 rw[aaO,this,pZ _ (by lia)]
 rfl
def M9 {R:Row}{r d:D}(hr:Rw R r) (hl:R.length < 80000) (hR:∀h∈R,0<=h.2/\h.2<=9) (hn:n<=7) (hd:Sy n [] d) (hc:cost R.length d < 10000000) (hi:i<=R.length):rH [.t d,.t r,.t (.int i)]=some (.t (.bl (ev R iD d i)),[]):=by
 obtain⟨ks,e1,_,_⟩:=M7 hr hl hR n hn 24 (by lia) d [] hd (Kn.nil R) (by simpa using hc)
 exact Js e1 (UM R d hi)
end Sh
end
section
namespace Sj
open PySem PySem.Spec PyProof.Rows L2 Sw Ss Sn Sp Sh
variable {n:Nat}
def Na {bs:List Str}{i:Int}{d:D}(h:Sy n bs d):∀(xs:List Str),(cz n (iC n xs (.int i) d)).length=(cz n d).length/\((cz n (iC n xs (.int i) d)).filter jY).length=((cz n d).filter jY).length:=by
 induction h with
 | leaf h=>intro xs;rw[m6];exact⟨rfl,rfl⟩
 | now h=>intro xs;rw[qK];exact⟨rfl,rfl⟩
 | @one n bs z p hz _ ih=>
  intro xs
  rw[qL hz]
  obtain⟨i1,i2⟩:=ih xs
  have e:∀q:D,cz (n+1) (.tup [.str z,q])= .tup [.str z,q] :: cz n q:=fun q=>by rcases dF hz with rfl | rfl | rfl | rfl <;> exact congrArg _ (aa8 _)
  have b:∀q:D,jY (.tup [.str z,q])=false:=fun q=>by rcases dF hz with rfl | rfl | rfl | rfl <;> rfl
  rw[e,e,aar,aar,i1,aaT (by rw[b];decide),aaT (by rw[b];decide)]
  exact⟨rfl,i2⟩
 | @two n bs z p q hz _ _ ip iq=>
  intro xs
  rw[qM hz]
  obtain⟨i1,i2⟩:=ip xs
  obtain⟨j1,j2⟩:=iq xs
  have e:∀a b:D,cz (n+1) (.tup [.str z,a,b])= .tup [.str z,a,b] :: (cz n a++cz n b):=fun a b=>by rcases dO hz with rfl | rfl | rfl <;> exact congrArg (fun l=>D.tup _ :: (cz n a++l)) (aa8 _)
  have b:∀a b:D,jY (.tup [.str z,a,b])=false:=fun a b=>by rcases dO hz with rfl | rfl | rfl <;> rfl
  rw[e,e,aar,aar,aaB,aaB,i1,j1,aaT (by rw[b];decide),aaT (by rw[b];decide),adV,adV,aaB,aaB,i2,j2]
  exact⟨rfl,rfl⟩
 | @xB n bs k p _ _ _ ih=>
  intro xs
  rw[qN]
  obtain⟨i1,i2⟩:=ih xs
  have e:∀q:D,cz (n+1) (.tup [.str "within",.int k,q])= .tup [.str "within",.int k,q] :: cz n q:=fun q=>congrArg _ (aa8 _)
  rw[e,e,aar,aar,i1,aaT (fun h=>Bool.noConfusion (show false=true from h)),aaT (fun h=>Bool.noConfusion (show false=true from h))]
  exact⟨rfl,i2⟩
 | @bnd n bs z a y p hz ha hb hp ih=>
  intro xs
  rw[qO]
  obtain⟨i1,i2⟩:=ih (xs.filter fun x=>decide (x≠y))
  have e:∀q:D,cz (n+1) (.tup [.str z,.str a,.str y,q])= .tup [.str z,.str a,.str y,q] :: cz n q:=fun q=>by rcases hz with rfl | rfl <;> exact congrArg _ (aa8 _)
  have b:∀q:D,jY (.tup [.str z,.str a,.str y,q])=true:=fun q=>by rcases hz with rfl | rfl <;> rfl
  rw[e,e,aar,aar,i1,acF (b _),acF (b _),aar,aar,i2]
  exact⟨rfl,rfl⟩
structure Sz (n:Nat) (bs:List Str) (s b:Nat) (d:D):Prop where
 sy:Sy n bs d
 sz:(cz n d).length<=s
 bn:((cz n d).filter jY).length<=b
section
variable {n m s b s' b':Nat}{bs:List Str}{d p q:D}
def Sz.up (h:Sz n bs s b d) (hm:n<=m):Sz m bs s b d:=by
 obtain⟨a,e⟩:=Jj hm h.sy.gZ
 exact⟨Sy.of a,by rw[e];exact h.sz,by rw[e];exact h.bn⟩
def Sz.le (h:Sz n bs s b d) (h1:s<=s') (h2:b<=b'):Sz n bs s' b' d:=⟨h.sy,aaW h.sz h1,aaW h.bn h2⟩
def Sz.one {z:Str}(hz:z∈J3) (h:Sz n bs s b p):Sz (n+1) bs (s+1) b (.tup [.str z,p]):=by
 have e:cz (n+1) (.tup [.str z,p])= .tup [.str z,p] :: cz n p:=by rcases dF hz with rfl | rfl | rfl | rfl <;> exact congrArg _ (aa8 _)
 have k:jY (.tup [.str z,p])=false:=by rcases dF hz with rfl | rfl | rfl | rfl <;> rfl
 exact⟨.one hz h.sy,by rw[e,aar];have:=h.sz;lia,by rw[e,aaT (by rw[k];decide)];exact h.bn⟩
def Sz.two {z:Str}(hz:z∈J4) (h:Sz n bs s b p) (g:Sz n bs s' b' q):Sz (n+1) bs (s+s'+1) (b+b') (.tup [.str z,p,q]):=by
 have e:cz (n+1) (.tup [.str z,p,q])= .tup [.str z,p,q] :: (cz n p++cz n q):=by rcases dO hz with rfl | rfl | rfl <;> exact congrArg (fun l=>D.tup _ :: (cz n p++l)) (aa8 _)
 have k:jY (.tup [.str z,p,q])=false:=by rcases dO hz with rfl | rfl | rfl <;> rfl
 have h1:=h.sz
 have h2:=h.bn
 have h3:=g.sz
 have h4:=g.bn
 exact⟨.two hz h.sy g.sy,by rw[e,aar,aaB];lia,by rw[e,aaT (by rw[k];decide),adV,aaB];lia⟩
def Sz.xB {k:Int}(h0:0<=k) (h5:k<=5) (h:Sz n bs s b p):Sz (n+1) bs (s+1) b (.tup [.str "within",.int k,p]):=by
 have e:cz (n+1) (.tup [.str "within",.int k,p])= .tup [.str "within",.int k,p] :: cz n p:=congrArg _ (aa8 _)
 exact⟨.xB h0 h5 h.sy,by rw[e,aar];have:=h.sz;lia,by rw[e,aaT (fun h=>Bool.noConfusion (show false=true from h))];exact h.bn⟩
def Sz.bnd {z a y:Str}(hz:z="each"\/z="one") (ha:nameB (.str a)=true) (hy:nameB (.str y)=true) (h:Sz n (bs++[y]) s b p):Sz (n+1) bs (s+1) (b+1) (.tup [.str z,.str a,.str y,p]):=by
 have e:cz (n+1) (.tup [.str z,.str a,.str y,p])= .tup [.str z,.str a,.str y,p] :: cz n p:=by rcases hz with rfl | rfl <;> exact congrArg _ (aa8 _)
 have k:jY (.tup [.str z,.str a,.str y,p])=true:=by rcases hz with rfl | rfl <;> rfl
 exact⟨.bnd hz ha hy h.sy,by rw[e,aar];have:=h.sz;lia,by rw[e,acF k,aar];have:=h.bn;lia⟩
def Sz.any:Sz (n+1) bs 1 0 (.tup [.str "now",.tup [.str "any"]]):=by
 have e:cz (n+1) (.tup [.str "now",.tup [.str "any"]])=[.tup [.str "now",.tup [.str "any"]]]:=rfl
 exact⟨.now .any,by rw[e];exact aaC _,by rw[e];exact acJ _⟩
def Sz.put {x:Str}{i:Int}(h:Sz n [x] s b d) (h0:0<=i) (h9:i<=9):Sz n [] s b (iC n [x] (.int i) d):=by
 obtain⟨e1,e2⟩:=Na (i:=i) h.sy [x]
 refine⟨?_,by rw[e1];exact h.sz,by rw[e2];exact h.bn⟩
 have:=MG h.sy h0 h9 [x]
 simpa using this
end
section
variable {R:Sh.Row}{e:Ev}{i:Nat}{p q:D}
def QA (h:i < R.length):ev R e (.tup [.str "next",p]) i=ev R e p (i+1):=by rw[nP,ab6 h,Bool.true_and]
def QB (h:i < R.length):ev R e (.tup [.str "till",p,q]) i=(ev R e q i || (ev R e p i && ev R e (.tup [.str "till",p,q]) (i+1))):=by
 rw[nQ,nQ]
 have en:R.length - i=(R.length - (i+1))+1:=by lia
 rw[en,ve]
 simp only[Nat.add_zero,A9,afo]
 congr 1
 rw[<-DX]
 refine nT fun k a=>?_
 have e1:i+(k+1)=i+1+k:=by lia
 rw[e1,Ba]
 have e2:(gR k fun j=>ev R e p (i+(j+1)))=gR k fun j=>ev R e p (i+1+j):=se fun j a=>by
  have:i+(j+1)=i+1+j:=by lia
  rw[this]
 rw[e2]
 simp only[Nat.add_zero]
 cases ev R e p i <;> simp
def Jt {k:Int}(h:i < R.length) (h1:1<=k):ev R e (.tup [.str "within",.int k,p]) i=(ev R e p i || ev R e (.tup [.str "within",.int (k - 1),p]) (i+1)):=by
 rw[jI,jI]
 have e1:R.length - i=R.length - (i+1)+1:=by lia
 have e2:k.toNat=(k - 1).toNat+1:=by lia
 rw[e1,e2,Nat.add_min_add_right,ve]
 congr 1
 refine nT fun j a=>?_
 have:i+(j+1)=i+1+j:=by lia
 rw[this]
def FG:ev R e (.tup [.str "within",.int 0,p]) i=false:=by
 rw[jI]
 have:min (R.length - i) (0:Int).toNat=0:=by simp
 rw[this]
 rfl
def QC:ev R e (.tup [.str "next",p]) R.length=false:=by rw[nP];simp
def QD:ev R e (.tup [.str "till",p,q]) R.length=false:=by rw[nQ,Nat.sub_self];rfl
def Ju {k:Int}:ev R e (.tup [.str "within",.int k,p]) R.length=false:=by rw[jI,Nat.sub_self,Nat.zero_min];rfl
end
def QE {R:Sh.Row}{d:D}{s b:Nat}(h:Sz n [] s b d) (hs:s<=16) (hb:b<=3) (hl:R.length<=80):cost R.length d < 10000000:=by
 have c:=Qg R.length h.sy
 have h1:=h.sz
 have h2:=h.bn
 have p:(R.length+1) ^ ((cz n d).filter jY).length<=81 ^ 3:=aaW (adI (by lia) (by lia:_<=3)) (Nat.pow_le_pow_left (by lia) 3)
 have m:=ae9 (by lia:(cz n d).length<=16) p
 have:16 * 81 ^ 3 < 10000000:=by decide
 lia
def Cg {R:Sh.Row}{s b:Nat}{d:D}(h:Sz n [] s b d) (hn:n<=7) (hs:s<=16) (hb:b<=3) (hl:R.length<=80) (hR:∀h∈R,0<=h.2/\h.2<=9){i:Nat}(hi:i<=R.length):rH [.t d,.t (.tup (R.map lM)),.t (.int i)]=some (.t (.bl (ev R iD d i)),[]):=
 M9 (.inl rfl) (by lia) hR hn h.sy (QE h hs hb hl) hi
end Sj
end
section
namespace Sf
open PySem PySem.Spec PyProof.Rows L2 Sw Ss Sp
variable {n:Nat}{z y:Str}{p q:D}{w:D->List Str}{bs ws W:List Str}{r pl us:List D}{S:SS}{f1 f2:FM}
noncomputable def tW:D->Str
 | .str z=>z
 | .int k=>toString k
 | _=>""
def Ew:D->List Str
 | .tup ts=>ts.map tW
 | _=>[]
def jT:Nat->D->List Str
 | n+1,.tup [.str z]=>[z]
 | n+1,.tup [.str z,p]=>if z="now" then z :: Ew p else z :: jT n p
 | n+1,.tup [.str z,p,q]=>if z="within" then z :: tW p :: jT n q else z :: (jT n p++jT n q)
 | n+1,.tup [.str z,a,y,p]=>z :: tW a :: tW y :: jT n p
 | _,_=>[]
def D3 :jT (n+1) (.tup [.str z])=[z]:=rfl
def xD {t:D}:jT (n+1) (.tup [.str "now",t])=("now":Str) :: Ew t:=by show(if _ then _ else _)=_;rw[if_pos rfl]
def xE (h:z≠"now"):jT (n+1) (.tup [.str z,p])=z :: jT n p:=by show(if _ then _ else _)=_;rw[if_neg h]
def xF (h:z≠"within"):jT (n+1) (.tup [.str z,p,q])=z :: (jT n p++jT n q):=by show(if _ then _ else _)=_;rw[if_neg h]
def xG :jT (n+1) (.tup [.str "within",p,q])=("within":Str) :: tW p :: jT n q:=by show(if _ then _ else _)=_;rw[if_pos rfl]
def xH {a y:D}:jT (n+1) (.tup [.str z,a,y,p])=z :: tW a :: tW y :: jT n p:=rfl
noncomputable def sL (ws:List Str):List D:=ws.map D.str
def yX (h:z∈J3):z≠"now":=by rcases dF h with rfl | rfl | rfl | rfl <;> decide
def pR (h:z∈J4):z≠"within":=by rcases dO h with rfl | rfl | rfl <;> decide
def Jv (a b:List Str):sL (a++b)=sL a++sL b:=acH
def zd (a:List Str):(sL a).length=a.length:=aaw ..
def ze (z:Str):Dv [.str z]=AAA (.str z):=rfl
def Nc {k:Int}(h0:0<=k) (h9:k<=9):Dv [.int k]=AAA (.str (toString k)):=by
 show(if k.natAbs < 10 ^ 30 then some (U.t (.str (toString k))) else none)=_
 rw[if_pos (by lia)]
def j0 (d9:FM) (eu:FM):GS:=
 (fT (eT (eM 3 kG (aa (eF (aO eu (aH (eF (aj 4)) aT))) aq))))
def Oa (d9:FM) (eu:FM):GS:=
 (bT (aj 3))
def Ob (d9:FM) (eu:FM):GS:=
 (aQ (rR (bName 4) (zO (eF (aj 1))) (j0 d9 eu)) (Oa d9 eu))
def Nd (d9:FM) (eu:FM):GS:=
 (aQ (bX 3 (eP cH (aa (eF (eP j9 (aa (cD 0 (eC (.int 0))) aq))) (aa (eF (jy [] (zO (eF (aj 2))) cF (eF (eP Dv (aa (eF (aj 0)) aq))))) aq)))) (Ob d9 eu))
def UO (d9:FM) (eu:FM):GS:=
 (aQ (bX 2 (eIf (qB (eF (eP jz (aa (cD 0 (eC (.int 0))) (aa (eC (.str "now")) aq))))) (eT (cD 0 (eC (.int 1)))) (yx (eF (aj 0)) (some (eC (.int 1))) (some (eF (eP nF (aa (jd 0) (aa (jd 1) aq)))))))) (Nd d9 eu))
def cE (d9:FM) (eu:FM):GS:=
 (aQ (bX 1 (aO d9 (aH (eF (aj 0)) aT))) (UO d9 eu))
section
variable {f1 f2:FM}{z:Str}{p q:D}{wp wq:List Str}
def UP {ds:List D}{w:List Str}(h:ds.length+w.length<=100000):kG [.lst (sL w)] (.lst ds)=some (.cU,.lst (ds++sL w)):=by
 show(if _ then _ else _)=_
 rw[if_pos (by rw[zd];exact h)]
def acn (a:D):L2.cutD [a] (some 1) (some 1)=[]:=rfl
def aco (a b:D):L2.cutD [a,b] (some 1) (some 1)=[]:=rfl
def acp (a b c:D):L2.cutD [a,b,c] (some 1) (some 1)=[]:=rfl
def acq (a b c:D):L2.cutD [a,b,c] (some 1) (some 2)=[b]:=rfl
def acr (a b c d:D):L2.cutD [a,b,c,d] (some 1) (some 3)=[b,c]:=rfl
theorem D4 {w:D->List Str}{a0 a1 a2:Option U}:∀(pl:List D) (ws:List Str) (x4:Option U),fB x4=false->(∀p∈pl,f2 [.t p]=some (.m (.lst (sL (w p))),[]))->ws.length+(pl.flatMap w).length<=90000->
  ∃y4,fB y4=false/\loop (bName 4) (j0 f1 f2) pl [a0,a1,a2,AAB (sL ws),x4]=some (.nx [a0,a1,a2,AAB (sL (ws++pl.flatMap w)),y4])
 | [],ws,x4,h4,_,_=>⟨x4,h4,by simp[loop]⟩
 | p :: pl,ws,x4,h4,hp,hl=>by
  have e2:=hp p aaR
  rw[aeu,aaB] at hl
  have x1:=UP (ds:=sL ws) (w:=w p) (by rw[zd];lia)
  rw[<-Jv] at x1
  obtain⟨y4,q4,lp⟩:=D4 (a0:=a0) (a1:=a1) (a2:=a2) pl (ws++w p) (AAA p) rfl (fun q hq=>hp q (aaP _ hq)) (by rw[aaB];lia)
  refine⟨y4,q4,?_⟩
  have eb:bName 4 p [a0,a1,a2,AAB (sL ws),x4]=some [a0,a1,a2,AAB (sL ws),AAA p]:=by simp[-eZ,dh,h4]
  have tr:j0 f1 f2 [a0,a1,a2,AAB (sL ws),AAA p]=some (.nx [a0,a1,a2,AAB (sL (ws++w p)),AAA p]):=by simp[j0,e2,x1,VR,wL]
  show(bName 4 p _).bind (fun S1=>(j0 f1 f2 S1).bind _)=_
  rw[eb,aau,tr,aau,aeu,<-adY]
  exact lp
def QF (hz:z≠"now") (e1:f1 [.t (.tup [.str z])]=some (.t (.tup []),[])):aK 5 (cE f1 f2) [.t (.tup [.str z])]=some (.m (.lst (sL [z])),[]):=by
 simp[aK,cE,UO,Nd,Ob,Oa,e1,hz,je,dj,dg,slotsOf,bJ,bz,wb,cF,aL,sL,dD,acn]
def sL1 (z:Str):[D.str z]=sL [z]:=rfl
def UQ (hz:z≠"now") (e1:f1 [.t (.tup [.str z,p])]=some (.t (.tup [p]),[])) (e2:f2 [.t p]=some (.m (.lst (sL (w p))),[])) (hl:(w p).length<=80000):aK 5 (cE f1 f2) [.t (.tup [.str z,p])]=some (.m (.lst (sL (z :: w p))),[]):=by
 obtain⟨y4,_,lp⟩:=D4 (f1:=f1) (f2:=f2) (w:=w) (a0:=AAA (.tup [.str z,p])) (a1:=AAA (.tup [p])) (a2:=AAA (.tup [])) [p] [z] none rfl (fun q hq=>by rw[aax.mp hq];exact e2) (by simp;lia)
 rw[<-sL1] at lp
 simp[aK,cE,UO,Nd,Ob,Oa,e1,hz,je,dj,dg,slotsOf,bJ,bz,wb,cF,aL,dD,aco,lp]
def UR (hz:z≠"now") (e1:f1 [.t (.tup [.str z,p,q])]=some (.t (.tup [p,q]),[])) (e2:f2 [.t p]=some (.m (.lst (sL (w p))),[])) (e3:f2 [.t q]=some (.m (.lst (sL (w q))),[])) (hl:(w p).length+(w q).length<=80000):aK 5 (cE f1 f2) [.t (.tup [.str z,p,q])]=some (.m (.lst (sL (z :: (w p++w q)))),[]):=by
 obtain⟨y4,_,lp⟩:=D4 (f1:=f1) (f2:=f2) (w:=w) (a0:=AAA (.tup [.str z,p,q])) (a1:=AAA (.tup [p,q])) (a2:=AAA (.tup [])) [p,q] [z] none rfl (fun r hr=>by
  rcases aaA.mp hr with e | e
  ·rw[e];exact e2
  ·rw[aax.mp e];exact e3) (by simp;lia)
 rw[<-sL1] at lp
 simp[aK,cE,UO,Nd,Ob,Oa,e1,hz,je,dj,dg,slotsOf,bJ,bz,wb,cF,aL,dD,acp,lp]
def US {k:Int}(h0:0<=k) (h9:k<=9) (hz:z≠"now") (e1:f1 [.t (.tup [.str z,.int k,p])]=some (.t (.tup [p]),[])) (e2:f2 [.t p]=some (.m (.lst (sL (w p))),[])) (hl:(w p).length<=80000):aK 5 (cE f1 f2) [.t (.tup [.str z,.int k,p])]=some (.m (.lst (sL (z :: tW (.int k) :: w p))),[]):=by
 obtain⟨y4,_,lp⟩:=D4 (f1:=f1) (f2:=f2) (w:=w) (a0:=AAA (.tup [.str z,.int k,p])) (a1:=AAA (.tup [p])) (a2:=AAA (.tup [.int k])) [p] [z,tW (.int k)] none rfl (fun q hq=>by rw[aax.mp hq];exact e2) (by simp;lia)
 rw[show sL [z,tW (.int k)]=[D.str z,.str (toString k)] from rfl] at lp
 have e5:=Nc h0 h9
 have e6:tW (.int k)=(toString k:Str):=rfl
 rw[e6] at lp ⊢
 generalize (Str.ofString (toString k))=tk at e5 lp ⊢
 simp[aK,cE,UO,Nd,Ob,Oa,e1,hz,je,dj,dg,slotsOf,bJ,bz,wb,cF,aL,dD,acq,e5,lp]
def UT {a:Str}(hz:z≠"now") (e1:f1 [.t (.tup [.str z,.str a,.str y,p])]=some (.t (.tup [p]),[])) (e2:f2 [.t p]=some (.m (.lst (sL (w p))),[])) (hl:(w p).length<=80000):aK 5 (cE f1 f2) [.t (.tup [.str z,.str a,.str y,p])]=some (.m (.lst (sL (z :: a :: y :: w p))),[]):=by
 obtain⟨y4,_,lp⟩:=D4 (f1:=f1) (f2:=f2) (w:=w) (a0:=AAA (.tup [.str z,.str a,.str y,p])) (a1:=AAA (.tup [p])) (a2:=AAA (.tup [.str a,.str y])) [p] [z,a,y] none rfl (fun q hq=>by rw[aax.mp hq];exact e2) (by simp;lia)
 rw[show sL [z,a,y]=[D.str z,.str a,.str y] from rfl] at lp
 simp[aK,cE,UO,Nd,Ob,Oa,e1,hz,je,dj,dg,slotsOf,bJ,bz,wb,cF,aL,dD,acr,ze,lp]
def ZS {t:D}(e1:f1 [.t (.tup [.str "now",t])]=some (.t (.tup []),[])):cE f1 f2 [AAA (.tup [.str "now",t]),none,none,none,none]=Nd f1 f2 [AAA (.tup [.str "now",t]),AAA (.tup []),AAA t,none,none]:=by
 simp[cE,UO,e1,dD,gO]
def UU {t:D}(h:Ts bs t) (e1:f1 [.t (.tup [.str "now",t])]=some (.t (.tup []),[])):aK 5 (cE f1 f2) [.t (.tup [.str "now",t])]=some (.m (.lst (sL ("now" :: Ew t))),[]):=by
 cases h with
 | any=>simp[aK,ZS e1,Nd,Ob,Oa,je,dj,dg,slotsOf,bJ,bz,wb,cF,aL,dD,gO,ze,Ew,tW,sL]
 | name _=>simp[aK,ZS e1,Nd,Ob,Oa,je,dj,dg,slotsOf,bJ,bz,wb,cF,aL,dD,gO,ze,Ew,tW,sL]
 | num _ h0 h9=>simp[aK,ZS e1,Nd,Ob,Oa,je,dj,dg,slotsOf,bJ,bz,wb,cF,aL,dD,gO,ze,Nc h0 h9,Ew,tW,sL]
 | var _ _=>simp[aK,ZS e1,Nd,Ob,Oa,je,dj,dg,slotsOf,bJ,bz,wb,cF,aL,dD,gO,ze,Ew,tW,sL]
end
theorem qQ:∀{n:Nat}{bs:List Str}{d:D},Sy n bs d->(jT n d).length+4<=8 * 2 ^ n
 | _,_,_,.leaf (n:=n) _=>by
  rw[D3]
  have:1<=2 ^ n:=Nat.one_le_two_pow
  rw[ad2]
  show 1+4<=_
  lia
 | _,_,_,.now (n:=n) h=>by
  rw[xD]
  have:1<=2 ^ n:=Nat.one_le_two_pow
  rw[ad2]
  cases h <;> (show _+1+4<=_;simp[Ew];lia)
 | _,_,_,.one (n:=n) hz hp=>by
  have:=qQ hp
  rw[xE (yX hz),ad2]
  show _+1+4<=_
  lia
 | _,_,_,.two (n:=n) hz hp hq=>by
  have:=qQ hp
  have:=qQ hq
  rw[xF (pR hz),ad2]
  rw[aar,aaB]
  lia
 | _,_,_,.xB (n:=n) _ _ hp=>by
  have:=qQ hp
  rw[xG,ad2]
  show _+1+1+4<=_
  lia
 | _,_,_,.bnd (n:=n) _ _ _ hp=>by
  have:=qQ hp
  rw[xH,ad2]
  show _+1+1+1+4<=_
  lia
def nU {d:D}(h:Sy n bs d) (hn:n<=8):(jT n d).length<=2048:=by
 have a:=qQ h
 have b:2 ^ n<=2 ^ 8:=adI (by decide) hn
 have c:2 ^ 8=256:=rfl
 lia
def jK:Nat->FM
 | 0=>fun a=>none
 | j+1=>aK 5 (cE jf (jK j))
def Jw (j:Nat):∀us r,jK (j+1) us=some r->aK 5 (cE jf (jK j)) us=some r:=fun a a h=>h
def D5 (us:List U):jK 0 us=none:=rfl
def iP (hz:z∈iy)(h:(.str z :: r).drop (cN z)=pl):jf [.t (.tup (.str z :: r))]=some (.t (.tup pl),[]):=by rw[DO (lX z hz),h]
def pS (h:z∈J3):z∈iy/\cN z=1/\b8 z=false/\z≠"now":=by rcases dF h with rfl | rfl | rfl | rfl <;> decide
def pT (h:z∈J4):z∈iy/\cN z=1/\b8 z=false/\z≠"now":=by rcases dO h with rfl | rfl | rfl <;> decide
def m8 (h:z="yes"\/z="no"):z∈iy/\cN z=1/\b8 z=false/\z≠"now":=by rcases h with rfl | rfl <;> decide
def pU:("within":Str)∈iy/\cN "within" =2/\b8 "within" =false/\("within":Str)≠"now":=by decide
def pW (h:z="each"\/z="one"):z∈iy/\cN z=3/\b8 z=true/\z≠"now":=by rcases h with rfl | rfl <;> decide
def p5:("now":Str)∈iy/\cN "now" =2:=by decide
def Nf {d:D}(h:Sy n bs d):∀{j:Nat},n<=j->n<=8->jK j [.t d]=some (.m (.lst (sL (jT n d))),[]):=by
 induction h with
 | leaf hz=>
  intro j hj _
  obtain⟨i,rfl⟩:∃i,j=i+1:=⟨j - 1,by lia⟩
  obtain⟨a,b,c,d⟩:=m8 hz
  exact QF d (iP a (by rw[b];rfl))
 | now ht=>
  intro j hj _
  obtain⟨i,rfl⟩:∃i,j=i+1:=⟨j - 1,by lia⟩
  rw[xD]
  exact UU ht (iP p5.1 (by rw[p5.2];rfl))
 | @one n bs z p hz hp ih=>
  intro j hj hn
  obtain⟨i,rfl⟩:∃i,j=i+1:=⟨j - 1,by lia⟩
  obtain⟨a,b,c,d⟩:=pS hz
  have f:=nU hp (by lia)
  rw[xE d]
  exact UQ (w:=jT n) d (iP a (by rw[b];rfl)) (ih (by lia) (by lia)) (by lia)
 | @two n bs z p q hz hp hq UW UX=>
  intro j hj hn
  obtain⟨i,rfl⟩:∃i,j=i+1:=⟨j - 1,by lia⟩
  obtain⟨a,b,c,d⟩:=pT hz
  have f:=nU hp (by lia)
  have g:=nU hq (by lia)
  rw[xF (pR hz)]
  exact UR (w:=jT n) d (iP a (by rw[b];rfl)) (UW (by lia) (by lia)) (UX (by lia) (by lia)) (by lia)
 | @xB n bs k p h0 h5 hp ih=>
  intro j hj hn
  obtain⟨i,rfl⟩:∃i,j=i+1:=⟨j - 1,by lia⟩
  obtain⟨a,b,c,d⟩:=pU
  have f:=nU hp (by lia)
  rw[xG]
  exact US (w:=jT n) h0 (by lia) d (iP a (by rw[b];rfl)) (ih (by lia) (by lia)) (by lia)
 | @bnd n bs z a y p hz ha hy hp ih=>
  intro j hj hn
  obtain⟨i,rfl⟩:∃i,j=i+1:=⟨j - 1,by lia⟩
  obtain⟨a1,b,c,d⟩:=pW hz
  have f:=nU hp (by lia)
  rw[xH]
  exact UT (w:=jT n) d (iP a1 (by rw[b];rfl)) (ih (by lia) (by lia)) (by lia)
variable {C:Addr}{L:List Str}{k:Nat}{s b:Int}{w:Str}
def CD (L:List Str) (k:Nat) (s b:Int):List (Str×D):=[("words",.lst (sL L)),("at",.int k),("sayings",.int s),("binders",.int b)]
def rd (C:Addr) (L:List Str) (k:Nat) (s b:Int):MO:=.ins C (CD L k s b)
def acs:(CD L k s b).lookup ("at":Str)=some (.int k):=rfl
def acu:(CD L k s b).lookup ("sayings":Str)=some (.int s):=rfl
def acv:(CD L k s b).lookup ("binders":Str)=some (.int b):=rfl
def acw:(CD L k s b).length=4:=rfl
def p6 (i:Nat) (f:Str) (S:SS):lP C i f S=(lT C S i).bind fun kvs=>(kvs.lookup f).map fun d=>(d,S):=rfl
def uu (S:SS):lT C (some (.b (rd C L k s b)) :: S) 0=some (CD L k s b):=by
 show(if C=C then some (CD L k s b) else none)=_
 rw[if_pos rfl]
def FH {op:Int->Int->Int}{f:Str}{g:GD}{n m:Int}(h1:(CD L k s b).lookup f=some (.int n)) (h2:g (some (.b (rd C L k s b)) :: S)=some (.int m,some (.b (rd C L k s b)) :: S)):tR op C 0 f g (some (.b (rd C L k s b)) :: S)=some (.nx (some (.b (.ins C (jA f (.int (op n m)) (CD L k s b)))) :: S)):=by
 unfold tR
 rw[uu,aau,h1]
 dsimp only
 rw[h2,aau]
 dsimp only
 rw[uu,aau,if_pos (by rw[acw];decide)]
 rfl
def uH {m:Str}{f:FM}{gu:GU}{r:U}{o':MO}(hl:(CD L k s b).lookup m=none) (hg:gu (some (.b (rd C L k s b)) :: S)=some (us.map U.t,some (.b (rd C L k s b)) :: S)) (hf:f (.b (rd C L k s b) :: us.map U.t)=some (r,[o'])):
  fG C m 0 f gu (some (.b (rd C L k s b)) :: S)=some (r,some (.b o') :: S):=by
 unfold fG
 rw[uu,aau,if_pos hl]
 unfold aO L7
 rw[hg]
 have q1:slotsOf (U.v 0 :: us.map U.t)=[0]:=by show 0 :: slotsOf (us.map U.t)=_;rw[PM]
 have q2:bJ (U.v 0 :: us.map U.t)=0:=PN us
 have q3:bz (some (.b (rd C L k s b)) :: S) (.v 0 :: us.map U.t)=some (.b (rd C L k s b) :: us.map U.t):=by
  show(some (U.b (rd C L k s b))).bind (fun w=>(bz _ (us.map U.t)).map fun ws=>w :: ws)=_
  rw[Hg]
  rfl
 have q4:wb (.v 0 :: us.map U.t) [o'] (some (.b (rd C L k s b)) :: S)=some (some (.b o') :: S):=Mr _ us
 simp only[aeL,aau]
 rw[if_pos ⟨by rw[q1];decide,by rw[q2];decide⟩,q3,aau,hf,aau,q4]
 rfl
def jj (ao:Addr):GS:=
 (aQ (i8 (qB (eF (eP jz (aa (lP ao 0 "at") (aa (eF (eP yh (aa (lP ao 0 "words") aq))) aq))))) Y9 c8)
 (aQ (tR (fun i j=>i+j) ao 0 "at" (eC (.int 1)))
 (bT (eP En (aa (lP ao 0 "words") (aa (eF (eP nF (aa (lP ao 0 "at") (aa (eC (.int 1)) aq)))) aq))))))
def ni (C:Addr):FM:=aK 1 (jj C)
def QG (C:Addr):∀us r,ni C us=some r->aK 1 (jj C) us=some r:=fun a a h=>h
def nW (h:L[k]? =some w) (hl:L.length<=10000):ni C [.b (rd C L k s b)]=some (.t (.str w),[rd C L (k+1) s b]):=by
 have hk:k < L.length:=(aaG.mp h).1
 have e1:nI (.int (k:Int)) (.int (L.length:Int))=false:=by
  have:¬((k:Int)=(L.length:Int)):=by lia
  show decide _=false
  exact aa6 this
 have e2:=FH (C:=C) (L:=L) (k:=k) (s:=s) (b:=b) (op:=fun i j=>i+j) (f:="at") (g:=eC (.int 1)) (S:=[]) acs rfl
 have e3:gz (sL L) (k:Int)=some (.str w):=Sq.uZ (by lia) (by rw[adf];show(L.map D.str)[k]? =_;rw[aaO,h];rfl)
 have e4:(sL L).length<=100000:=by rw[zd];lia
 have e5:lP C 0 "at" [some (.b (rd C L k s b))]=some (.int k,[some (.b (rd C L k s b))]):=by rw[p6,uu];rfl
 have e6:lP C 0 "words" [some (.b (rd C L k s b))]=some (.lst (sL L),[some (.b (rd C L k s b))]):=by rw[p6,uu];rfl
 have e7:lP C 0 "at" [some (.b (rd C L (k+1) s b))]=some (.int ((k:Int)+1),[some (.b (rd C L (k+1) s b))]):=by rw[p6,uu];rfl
 have e8:lP C 0 "words" [some (.b (rd C L (k+1) s b))]=some (.lst (sL L),[some (.b (rd C L (k+1) s b))]):=by rw[p6,uu];rfl
 have e9:tR (fun i j=>i+j) C 0 "at" (eC (.int 1)) [some (.b (rd C L k s b))]=some (.nx [some (.b (rd C L (k+1) s b))]):=e2
 have e10:yh [.lst (sL L)]=AAC (L.length:Int):=by
  show some (U.t (.int ((sL L).length:Nat)))=_
  rw[zd]
 simp[ni,aK,jj,e5,e6,e7,e8,e9,e10,e1,e3,aL]
def kh:GS:=
 (i8 (C5 (qB (eF (aj 1)))) Y9 c8)
def jo:FM:=aK 2 kh
def Ng:∀us r,jo us=some r->aK 2 kh us=some r:=fun a a h=>h
def uv (o:MO):jo [.b o,.t (.bl true)]=some (.t .cU,[o]):=by kernel_rfl
def dR (d7:FM) (cX:FM) (Nh:FM) (ao:Addr):GS:=
 (aQ (bX 1 (fG ao "taken" 0 d7 aT))
 (aQ (fT (fG ao "wanted" 0 cX (aH (eF (aO Nh (aH (eF (aj 1)) aT))) aT)))
 (bT (aj 1))))
def QH {f3:FM}(e1:f1 [.b (rd C L k s b)]=some (.t (.str w),[rd C L (k+1) s b])) (e2:f2 [.b (rd C L (k+1) s b),.t (.bl true)]=some (.t .cU,[rd C L (k+1) s b])) (e3:f3 [.t (.str w)]=some (.t (.bl true),[])):
  aK 2 (dR f1 f2 f3 C) [.b (rd C L k s b)]=some (.t (.str w),[rd C L (k+1) s b]):=by
 have m1:=uH (m:="taken") (gu:=aT) (us:=[]) (S:=[none]) rfl rfl e1
 have m2:=uH (m:="wanted") (gu:=aH (eF (aO f3 (aH (eF (aj 1)) aT))) aT) (us:=[.bl true]) (S:=[AAA (.str w)]) rfl (by simp[e3]) e2
 simp[aK,dR,m1,m2,aL]
def Ex (C:Addr):FM:=aK 2 (dR (ni C) jo wj C)
def UY (C:Addr):∀us r,Ex C us=some r->aK 2 (dR (ni C) jo wj C) us=some r:=fun a a h=>h
def QI (h:nameB (.str z)=true):wj [.t (.str z)]=some (.t (.bl true),[]):=by
 have l:z.length<=20000:=by
  have h:(decide (1<=z.length) && decide (z.length<=8) && (Sw.signs z).all DL)=true:=h
  simp only[aa7,acU] at h
  lia
 show(if z.length<=20000 then some (U.t (.bl (nameB (.str z))),[]) else none)=_
 rw[if_pos l,h]
def Ni (h:L[k]? =some w) (hl:L.length<=10000) (hn:nameB (.str w)=true):Ex C [.b (rd C L k s b)]=some (.t (.str w),[rd C L (k+1) s b]):=QH (nW h hl) (uv _) (QI hn)
def vg:GS:=
 (bT (eT (pJ false [("yes",1),("no",1),("now",2),("not",2),("both",3),("either",3),("next",2),("till",3),("within",3),("always",2),("some",2),("each",4),("one",4)] (eF (aj 0)))))
def zf:FM:=aK 1 vg
def Nj:∀us r,zf us=some r->aK 1 vg us=some r:=fun a a h=>h
def QJ (h:z∈iy):zf [.t (.str z)]=some (.t (.bl true),[]):=by
 have:z∈(["yes","no","now","not","both","either","next","till","within","always","some","each","one"]:List Str):=h
 simp only[aaA,abb,ac7] at this
 rcases this with rfl | rfl | rfl | rfl | rfl | rfl | rfl | rfl | rfl | rfl | rfl | rfl | rfl <;> rfl
def c7 (d7:FM) (cX:FM) (Nk:FM) (ao:Addr):GS:=
 (aQ (bX 2 (fG ao "taken" 0 d7 aT))
 (aQ (tR (fun i j=>i+j) ao 0 "sayings" (eC (.int 1)))
 (aQ (i8 (qB (yE false ["each","one"] (eF (aj 2)))) (tR (fun i j=>i+j) ao 0 "binders" (eC (.int 1))) c8)
 (aQ (fT (fG ao "wanted" 0 cX (aH (eQ (lO (qB (eF (aO Nk (aH (eF (aj 2)) aT)))) (qB (eF (eP O0 (aa (lP ao 0 "sayings") (aa (eC (.int 16)) aq))))))) aT)))
 (aQ (fT (fG ao "wanted" 0 cX (aH (eQ (lO (qB (eF (eP JX (aa (eF (aj 1)) (aa (eC (.int 8)) aq))))) (qB (eF (eP O0 (aa (lP ao 0 "binders") (aa (eC (.int 3)) aq))))))) aT)))
 (bT (aj 2)))))))
def bI (z:Str):Int:=if b8 z then 1 else 0
def QK {f3:FM}{a:Int}(h1:s+1<=16) (h2:a < 8) (h3:b+bI w<=3) (e1:f1 [.b (rd C L k s b)]=some (.t (.str w),[rd C L (k+1) s b])) (e2:∀o,f2 [.b o,.t (.bl true)]=some (.t .cU,[o])) (e3:f3 [.t (.str w)]=some (.t (.bl true),[])):
  aK 3 (c7 f1 f2 f3 C) [.b (rd C L k s b),.t (.int a)]=some (.t (.str w),[rd C L (k+1) (s+1) (b+bI w)]):=by
 have m1:=uH (m:="taken") (gu:=aT) (us:=[]) (S:=[AAC a,none]) rfl rfl e1
 have m2:tR (fun i j=>i+j) C 0 "sayings" (eC (.int 1)) [some (.b (rd C L (k+1) s b)),AAC a,AAA (.str w)]=some (.nx [some (.b (rd C L (k+1) (s+1) b)),AAC a,AAA (.str w)]):=FH (op:=fun i j=>i+j) (m:=1) acu rfl
 have m3:tR (fun i j=>i+j) C 0 "binders" (eC (.int 1)) [some (.b (rd C L (k+1) (s+1) b)),AAC a,AAA (.str w)]=some (.nx [some (.b (rd C L (k+1) (s+1) (b+1))),AAC a,AAA (.str w)]):=FH (op:=fun i j=>i+j) (m:=1) acv rfl
 have fs:∀b:Int,lP C 0 "sayings" [some (.b (rd C L (k+1) (s+1) b)),AAC a,AAA (.str w)]=some (.int (s+1),[some (.b (rd C L (k+1) (s+1) b)),AAC a,AAA (.str w)]):=fun b=>by rw[p6,uu];rfl
 have fb:∀b:Int,lP C 0 "binders" [some (.b (rd C L (k+1) (s+1) b)),AAC a,AAA (.str w)]=some (.int b,[some (.b (rd C L (k+1) (s+1) b)),AAC a,AAA (.str w)]):=fun b=>by rw[p6,uu];rfl
 cases hb:b8 w with
 | false=>
  have e0:bI w=0:=by unfold bI;rw[hb];rfl
  rw[e0,Int.add_zero] at h3 ⊢
  have m4:=uH (C:=C) (L:=L) (m:="wanted") (k:=k+1) (s:=s+1) (b:=b) (gu:=aH (eQ (lO (qB (eF (aO f3 (aH (eF (aj 2)) aT)))) (qB (eF (eP O0 (aa (lP C 0 "sayings") (aa (eC (.int 16)) aq))))))) aT) (us:=[.bl true]) (S:=[AAC a,AAA (.str w)]) rfl (by simp[e3,fs,h1]) (e2 _)
  have m5:=uH (C:=C) (L:=L) (m:="wanted") (k:=k+1) (s:=s+1) (b:=b) (gu:=aH (eQ (lO (qB (eF (eP JX (aa (eF (aj 1)) (aa (eC (.int 8)) aq))))) (qB (eF (eP O0 (aa (lP C 0 "binders") (aa (eC (.int 3)) aq))))))) aT) (us:=[.bl true]) (S:=[AAC a,AAA (.str w)]) rfl (by simp[fb,h2,h3]) (e2 _)
  unfold b8 J2 at hb
  simp only[aaQ,acN] at hb
  simp[aK,c7,m1,m2,hb,m4,m5,yE,aL]
 | true=>
  have e0:bI w=1:=by unfold bI;rw[hb];rfl
  rw[e0] at h3 ⊢
  have m4:=uH (C:=C) (L:=L) (m:="wanted") (k:=k+1) (s:=s+1) (b:=b+1) (gu:=aH (eQ (lO (qB (eF (aO f3 (aH (eF (aj 2)) aT)))) (qB (eF (eP O0 (aa (lP C 0 "sayings") (aa (eC (.int 16)) aq))))))) aT) (us:=[.bl true]) (S:=[AAC a,AAA (.str w)]) rfl (by simp[e3,fs,h1]) (e2 _)
  have m5:=uH (C:=C) (L:=L) (m:="wanted") (k:=k+1) (s:=s+1) (b:=b+1) (gu:=aH (eQ (lO (qB (eF (eP JX (aa (eF (aj 1)) (aa (eC (.int 8)) aq))))) (qB (eF (eP O0 (aa (lP C 0 "binders") (aa (eC (.int 3)) aq))))))) aT) (us:=[.bl true]) (S:=[AAC a,AAA (.str w)]) rfl (by simp[fb,h2,h3]) (e2 _)
  unfold b8 J2 at hb
  simp only[aaQ,acN] at hb
  simp[aK,c7,m1,m2,m3,hb,m4,m5,yE,aL]
def UZ (C:Addr):FM:=aK 3 (c7 (ni C) jo zf C)
def U0 (C:Addr):∀us r,UZ C us=some r->aK 3 (c7 (ni C) jo zf C) us=some r:=fun a a h=>h
def Be {a:Int}(h:L[k]? =some w) (hl:L.length<=10000) (hw:w∈iy) (h1:s+1<=16) (h2:a < 8) (h3:b+bI w<=3):UZ C [.b (rd C L k s b),.t (.int a)]=some (.t (.str w),[rd C L (k+1) (s+1) (b+bI w)]):=QK h1 h2 h3 (nW h hl) uv (QJ hw)
variable {C:Addr}{L:List Str}{k:Nat}{s b:Int}{w:Str}
def Fw (kvs:AAJ) (g:GD) (S:SS):zR kvs g S=(g S).bind fun p=>match p.1 with | .str z=>(dZ kvs z).map fun i=>(.int i,p.2) | _=>none:=rfl
def zh (n:Bool) (kvs:AAJ) (g:GD) (S:SS):pJ n kvs g S=(g S).bind fun p=>match p.1 with | .str z=>some (.bl (n != (dZ kvs z).isSome),p.2) | _=>none:=rfl
def FI (kvs:AAJ) (g gd:GD) (S:SS):yK kvs g gd S=(g S).bind fun p=>(gd p.2).bind fun q=>match p.1 with | .str z=>some ((match dZ kvs z with | some i=>.int i | none=>q.1),q.2) | _=>none:=rfl
noncomputable def Jx:List (Str×Int):=[("0",0),("1",1),("2",2),("3",3),("4",4),("5",5),("6",6),("7",7),("8",8),("9",9)]
def D6 {k:Int}(h0:0<=k) (h1:k<=9):dZ Jx (tW (.int k))=some k:=by
 obtain⟨n,rfl⟩:=afE h0
 exact(by decide +kernel:∀n < 10,dZ Jx (tW (.int (n:Nat)))=some (n:Int)) n (by omega)
def bY (d7:FM) (fY:FM) (cX:FM) (ao:Addr):GS:=
 (aQ (bX 2 (fG ao "taken" 0 d7 aT))
 (aQ (i8 (qB (eF (eP jz (aa (eF (aj 2)) (aa (eC (.str "any")) aq))))) (bT (eP bw (aa (eC (.str "any")) aq))) c8)
 (aQ (i8 (qB (eF (eP jz (aa (eF (aj 2)) (aa (eC (.str "name")) aq))))) (bT (eP bw (aa (eC (.str "name")) (aa (eF (fG ao "name_taken" 0 fY aT)) aq)))) c8)
 (aQ (fT (fG ao "wanted" 0 cX (aH (eF (eP JZ (aa (eF (aj 2)) (aa (eF (eP bw (aa (eC (.str "less")) (aa (eC (.str "same")) (aa (eC (.str "more")) aq))))) aq)))) aT)))
 (aQ (bX 3 (fG ao "taken" 0 d7 aT))
 (aQ (fT (fG ao "wanted" 0 cX (aH (eQ (C6 (qB (pJ false [("0",0),("1",1),("2",2),("3",3),("4",4),("5",5),("6",6),("7",7),("8",8),("9",9)] (eF (aj 3)))) (qB (eF (eP JZ (aa (eF (aj 3)) (aa (eF (aj 1)) aq))))))) aT)))
 (bT (eP bw (aa (eF (aj 2)) (aa (yK [("0",0),("1",1),("2",2),("3",3),("4",4),("5",5),("6",6),("7",7),("8",8),("9",9)] (eF (aj 3)) (eF (aj 3))) aq))))))))))
section
variable {f1 f2 f3:FM}{bd:D}
def U4 (e1:f1 [.b (rd C L k s b)]=some (.t (.str "any"),[rd C L (k+1) s b])):aK 4 (bY f1 f2 f3 C) [.b (rd C L k s b),.t bd]=some (.t (.tup [.str "any"]),[rd C L (k+1) s b]):=by
 have m1:=uH (m:="taken") (gu:=aT) (us:=[]) (S:=[AAA bd,none,none]) rfl rfl e1
 simp[aK,bY,m1,aL]
def QL (e1:f1 [.b (rd C L k s b)]=some (.t (.str "name"),[rd C L (k+1) s b])) (e2:f2 [.b (rd C L (k+1) s b)]=some (.t (.str w),[rd C L (k+1+1) s b])):aK 4 (bY f1 f2 f3 C) [.b (rd C L k s b),.t bd]=some (.t (.tup [.str "name",.str w]),[rd C L (k+1+1) s b]):=by
 have m1:=uH (m:="taken") (gu:=aT) (us:=[]) (S:=[AAA bd,none,none]) rfl rfl e1
 have m2:=uH (m:="name_taken") (gu:=aT) (us:=[]) (S:=[AAA bd,AAA (.str "name"),none]) rfl rfl e2
 have ne:¬(("name":Str)="any"):=by decide
 simp[aK,bY,m1,m2,ne,aL]
def Nl {o:Str}{v:D}(ho:o∈yR) (e1:f1 [.b (rd C L k s b)]=some (.t (.str o),[rd C L (k+1) s b])) (e2:f1 [.b (rd C L (k+1) s b)]=some (.t (.str w),[rd C L (k+1+1) s b])) (e3:∀o,f3 [.b o,.t (.bl true)]=some (.t .cU,[o]))
  (hin:(dZ Jx w).isSome=true\/((dZ Jx w)=none/\JZ [.str w,bd]=AAA (.bl true))) (hv:(match dZ Jx w with | some i=>D.int i | none=>.str w)=v):aK 4 (bY f1 f2 f3 C) [.b (rd C L k s b),.t bd]=some (.t (.tup [.str o,v]),[rd C L (k+1+1) s b]):=by
 have m1:=uH (m:="taken") (gu:=aT) (us:=[]) (S:=[AAA bd,none,none]) rfl rfl e1
 have m2:=uH (m:="taken") (gu:=aT) (us:=[]) (S:=[AAA bd,AAA (.str o),none]) rfl rfl e2
 have n1:o≠"any":=(lg ho).2
 have n2:o≠"name":=(lg ho).1
 have t3:inD (.str o) [.str "less",.str "same",.str "more"]=true:=uc (zs:=yR) ho
 have m3:=uH (C:=C) (L:=L) (m:="wanted") (k:=k+1) (s:=s) (b:=b) (gu:=aH (eF (eP JZ (aa (eF (aj 2)) (aa (eF (eP bw (aa (eC (.str "less")) (aa (eC (.str "same")) (aa (eC (.str "more")) aq))))) aq)))) aT) (us:=[.bl true]) (S:=[AAA bd,AAA (.str o),none]) rfl (by simp[JZ,t3,cP,gC]) (e3 _)
 have m4:=uH (C:=C) (L:=L) (m:="wanted") (k:=k+1+1) (s:=s) (b:=b) (gu:=aH (eQ (C6 (qB (pJ false Jx (eF (aj 3)))) (qB (eF (eP JZ (aa (eF (aj 3)) (aa (eF (aj 1)) aq))))))) aT) (us:=[.bl true]) (S:=[AAA bd,AAA (.str o),AAA (.str w)]) rfl (by
  rcases hin with q | ⟨q1,q2⟩
  ·simp[zh,q]
  ·simp[zh,q1,q2]) (e3 _)
 unfold Jx at m4 hv
 simp[aK,bY,m1,m2,m3,m4,n1,n2,FI,hv,aL]
end
variable {C:Addr}{L:List Str}{k:Nat}{s b:Int}{w:Str}
def fJ (h:L.drop k=w :: ws):L[k]? =some w/\L.drop (k+1)=ws:=by
 constructor
 ·have:(L.drop k)[0]? =some w:=by rw[h];rfl
  rw[afj] at this
  exact this
 ·have:(L.drop k).drop 1=ws:=by rw[h];rfl
  rw[List.drop_drop] at this
  exact this
def J6 (C:Addr):FM:=aK 4 (bY (ni C) (Ex C) jo C)
def U5 (C:Addr):∀us r,J6 C us=some r->aK 4 (bY (ni C) (Ex C) jo C) us=some r:=fun a a h=>h
def Nm (h:nameB (.str y)=true):dZ Jx y=none:=by
 refine tZ fun hm=>?_
 have:∀z∈Jx.map (·.1),nameB (.str z)=false:=by decide +kernel
 rw[this y hm] at h
 cases h
theorem Bf:∀bs:List Str,cP (bs.map D.str)<=40
 | []=>acJ _
 | y :: bs=>by
  have:=Bf bs
  show max (gC (.str y)) (cP (bs.map D.str))<=40
  have e:gC (.str y)=0:=rfl
  lia
def Yy {rest:List Str}{t:D}(h:Ts bs t) (hb:∀y∈bs,nameB (.str y)=true) (hl:L.length<=10000) (hd:L.drop k=Ew t++rest):J6 C [.b (rd C L k s b),.t (.tup (bs.map D.str))]=some (.t t,[rd C L (k+(Ew t).length) s b])/\L.drop (k+(Ew t).length)=rest:=by
 cases h with
 | any=>
  obtain⟨a1,a2⟩:=fJ (show L.drop k=("any":Str) :: rest from hd)
  exact⟨U4 (nW a1 hl),a2⟩
 | @name w hn=>
  obtain⟨a1,a2⟩:=fJ (show L.drop k=("name":Str) :: w :: rest from hd)
  obtain⟨a3,a4⟩:=fJ a2
  exact⟨QL (nW a1 hl) (Ni a3 hl hn),a4⟩
 | @num o i ho h0 h9=>
  obtain⟨a1,a2⟩:=fJ (show L.drop k=o :: tW (.int i) :: rest from hd)
  obtain⟨a3,a4⟩:=fJ a2
  have lf:=D6 h0 h9
  exact⟨Nl ho (nW a1 hl) (nW a3 hl) uv (.inl (by rw[lf];rfl)) (by rw[lf]),a4⟩
 | @var o y ho hy=>
  obtain⟨a1,a2⟩:=fJ (show L.drop k=o :: y :: rest from hd)
  obtain⟨a3,a4⟩:=fJ a2
  have lf:=Nm (hb y hy)
  refine⟨Nl ho (nW a1 hl) (nW a3 hl) uv (.inr ⟨lf,?_⟩) (by rw[lf]),a4⟩
  show(if cP (bs.map D.str)<=40 then some (U.t (.bl (inD (.str y) (bs.map D.str)))) else none)=_
  rw[if_pos (Bf bs),uc hy]
def dm (d7:FM) (cX:FM) (ao:Addr):GS:=
 (aQ (bX 1 (fG ao "taken" 0 d7 aT))
 (aQ (fT (fG ao "wanted" 0 cX (aH (eQ (lO (qB (pJ false [("0",0),("1",1),("2",2),("3",3),("4",4),("5",5),("6",6),("7",7),("8",8),("9",9)] (eF (aj 1)))) (qB (eF (eP O0 (aa (zR [("0",0),("1",1),("2",2),("3",3),("4",4),("5",5),("6",6),("7",7),("8",8),("9",9)] (eF (aj 1))) (aa (eC (.int 5)) aq))))))) aT)))
 (bT (eT (zR [("0",0),("1",1),("2",2),("3",3),("4",4),("5",5),("6",6),("7",7),("8",8),("9",9)] (eF (aj 1)))))))
def J7 (C:Addr):FM:=aK 2 (dm (ni C) jo C)
def U6 (C:Addr):∀us r,J7 C us=some r->aK 2 (dm (ni C) jo C) us=some r:=fun a a h=>h
def QM {n:Int}(h5:n<=5) (hf:dZ Jx w=some n) (e1:f1 [.b (rd C L k s b)]=some (.t (.str w),[rd C L (k+1) s b])) (e2:∀o,f2 [.b o,.t (.bl true)]=some (.t .cU,[o])):aK 2 (dm f1 f2 C) [.b (rd C L k s b)]=some (.t (.int n),[rd C L (k+1) s b]):=by
 have m1:=uH (m:="taken") (gu:=aT) (us:=[]) (S:=[none]) rfl rfl e1
 have m2:=uH (C:=C) (L:=L) (m:="wanted") (k:=k+1) (s:=s) (b:=b) (gu:=aH (eQ (lO (qB (pJ false Jx (eF (aj 1)))) (qB (eF (eP O0 (aa (zR Jx (eF (aj 1))) (aa (eC (.int 5)) aq))))))) aT) (us:=[.bl true]) (S:=[AAA (.str w)]) rfl (by simp[zh,Fw,hf,h5]) (e2 _)
 unfold Jx at m2 hf
 simp[aK,dm,m1,m2,Fw,hf,aL]
def Yz {n:Int}(h0:0<=n) (h5:n<=5) (h:L[k]? =some (tW (.int n))) (hl:L.length<=10000):J7 C [.b (rd C L k s b)]=some (.t (.int n),[rd C L (k+1) s b]):=QM h5 (D6 h0 (by lia)) (nW h hl) uv
def bG (sf:FM) (sr:FM) (p7:FM) (fY:FM) (ao:Addr):GS:=
 (aQ (bX 3 (fG ao "head_taken" 0 sf (aH (eF (aj 2)) aT)))
 (aQ (i8 (qB (eF (eP jz (aa (eF (aj 3)) (aa (eC (.str "now")) aq))))) (bT (eP bw (aa (eF (aj 3)) (aa (eF (fG ao "test_taken" 0 sr (aH (eF (aj 1)) aT))) aq)))) c8)
 (aQ (i8 (qB (eF (eP jz (aa (eF (aj 3)) (aa (eC (.str "within")) aq))))) (bT (eP bw (aa (eF (aj 3)) (aa (eF (fG ao "within_taken" 0 p7 aT)) aq)))) c8)
 (aQ (i8 (qB (yE false ["each","one"] (eF (aj 3)))) (aQ (bX 4 (fG ao "name_taken" 0 fY aT))
 (bT (eP bw (aa (eF (aj 3)) (aa (eF (aj 4)) (aa (eF (fG ao "name_taken" 0 fY aT)) aq)))))) c8)
 (bT (eP bw (aa (eF (aj 3)) aq)))))))
section
variable {f1 f2 f3 f4:FM}{bd:D}{a:Int}{s' b':Int}
def U7 {t:D}{k':Nat}(e1:f1 [.b (rd C L k s b),.t (.int a)]=some (.t (.str "now"),[rd C L (k+1) s' b'])) (e2:f2 [.b (rd C L (k+1) s' b'),.t bd]=some (.t t,[rd C L k' s' b'])):aK 5 (bG f1 f2 f3 f4 C) [.b (rd C L k s b),.t bd,.t (.int a)]=some (.t (.tup [.str "now",t]),[rd C L k' s' b']):=by
 have m1:=uH (m:="head_taken") (gu:=aH (eF (aj 2)) aT) (us:=[.int a]) (S:=[AAA bd,AAC a,none,none]) rfl rfl e1
 have m2:=uH (m:="test_taken") (gu:=aH (eF (aj 1)) aT) (us:=[bd]) (S:=[AAA bd,AAC a,AAA (.str "now"),none]) rfl rfl e2
 simp[aK,bG,m1,m2,aL]
def U8 {n:Int}(e1:f1 [.b (rd C L k s b),.t (.int a)]=some (.t (.str "within"),[rd C L (k+1) s' b'])) (e2:f3 [.b (rd C L (k+1) s' b')]=some (.t (.int n),[rd C L (k+1+1) s' b'])):aK 5 (bG f1 f2 f3 f4 C) [.b (rd C L k s b),.t bd,.t (.int a)]=some (.t (.tup [.str "within",.int n]),[rd C L (k+1+1) s' b']):=by
 have m1:=uH (m:="head_taken") (gu:=aH (eF (aj 2)) aT) (us:=[.int a]) (S:=[AAA bd,AAC a,none,none]) rfl rfl e1
 have m2:=uH (m:="within_taken") (gu:=aT) (us:=[]) (S:=[AAA bd,AAC a,AAA (.str "within"),none]) rfl rfl e2
 have ne:¬(("within":Str)="now"):=by decide
 simp[aK,bG,m1,m2,ne,aL]
def U9 {x:Str}(hw:b8 w=true) (n1:w≠"now") (n2:w≠"within") (e1:f1 [.b (rd C L k s b),.t (.int a)]=some (.t (.str w),[rd C L (k+1) s' b'])) (e2:f4 [.b (rd C L (k+1) s' b')]=some (.t (.str x),[rd C L (k+1+1) s' b'])) (e3:f4 [.b (rd C L (k+1+1) s' b')]=some (.t (.str y),[rd C L (k+1+1+1) s' b'])):aK 5 (bG f1 f2 f3 f4 C) [.b (rd C L k s b),.t bd,.t (.int a)]=some (.t (.tup [.str w,.str x,.str y]),[rd C L (k+1+1+1) s' b']):=by
 have m1:=uH (m:="head_taken") (gu:=aH (eF (aj 2)) aT) (us:=[.int a]) (S:=[AAA bd,AAC a,none,none]) rfl rfl e1
 have m2:=uH (m:="name_taken") (gu:=aT) (us:=[]) (S:=[AAA bd,AAC a,AAA (.str w),none]) rfl rfl e2
 have m3:=uH (m:="name_taken") (gu:=aT) (us:=[]) (S:=[AAA bd,AAC a,AAA (.str w),AAA (.str x)]) rfl rfl e3
 unfold b8 J2 at hw
 simp only[aaQ,acN] at hw
 simp[aK,bG,m1,m2,m3,n1,n2,hw,yE,aL]
def zj (hw:b8 w=false) (n1:w≠"now") (n2:w≠"within") (e1:f1 [.b (rd C L k s b),.t (.int a)]=some (.t (.str w),[rd C L (k+1) s' b'])):aK 5 (bG f1 f2 f3 f4 C) [.b (rd C L k s b),.t bd,.t (.int a)]=some (.t (.tup [.str w]),[rd C L (k+1) s' b']):=by
 have m1:=uH (m:="head_taken") (gu:=aH (eF (aj 2)) aT) (us:=[.int a]) (S:=[AAA bd,AAC a,none,none]) rfl rfl e1
 unfold b8 J2 at hw
 simp only[aaQ,acN] at hw
 simp[aK,bG,m1,n1,n2,hw,yE,aL]
end
def Wg (C:Addr):FM:=aK 5 (bG (UZ C) (J6 C) (J7 C) (Ex C) C)
def Va (C:Addr):∀us r,Wg C us=some r->aK 5 (bG (UZ C) (J6 C) (J7 C) (Ex C) C) us=some r:=fun a a h=>h
variable {C:Addr}{L:List Str}{k:Nat}{s b:Int}{w:Str}
def lz:GS:=
 (bT (eP nF (aa (zR [("yes",1),("no",1),("now",2),("not",2),("both",3),("either",3),("next",2),("till",3),("within",3),("always",2),("some",2),("each",4),("one",4)] (eF (aj 0))) (aa (zR [("yes",1),("no",1),("now",2),("not",1),("both",1),("either",1),("next",1),("till",1),("within",2),("always",1),("some",1),("each",3),("one",3)] (eF (aj 0))) aq))))
def J8:FM:=aK 1 lz
def pw_run:∀us r,J8 us=some r->aK 1 lz us=some r:=fun a a h=>h
def pw_leaf (h:z="yes"\/z="no"):J8 [.t (.str z)]=some (.t (.int 0),[]):=by rcases h with rfl | rfl <;> rfl
def pw_now:J8 [.t (.str "now")]=some (.t (.int 0),[]):=rfl
def pw_wth:J8 [.t (.str "within")]=some (.t (.int 1),[]):=rfl
def pw_one (h:z∈J3):J8 [.t (.str z)]=some (.t (.int 1),[]):=by rcases dF h with rfl | rfl | rfl | rfl <;> rfl
def pw_two (h:z∈J4):J8 [.t (.str z)]=some (.t (.int 2),[]):=by rcases dO h with rfl | rfl | rfl <;> rfl
def pw_bnd (h:z="each"\/z="one"):J8 [.t (.str z)]=some (.t (.int 1),[]):=by rcases h with rfl | rfl <;> rfl
def fZ (iE:FM) (mw:FM) (mz:FM) (dM:FM) (ao:Addr):GS:=
 (bX 3 (eP cH (aa (eF (aj 3)) (aa (eF (eP bw (aa (eF (fG ao "saying_taken" 0 dM (aH (eF (aj 4)) (aH (eF (eP cH (aa (eF (aj 2)) (aa (eC (.int 1)) aq)))) aT)))) aq))) aq))))
def bM (iE:FM) (mw:FM) (mz:FM) (dM:FM) (ao:Addr):GS:=
 (aQ (bX 3 (fG ao "begin_taken" 0 iE (aH (eF (aj 1)) (aH (eF (aj 2)) aT))))
 (aQ (bX 4 (aO mw (aH (eF (aj 3)) (aH (eF (aj 1)) aT))))
 (aQ (rR (bName 5) (jx (aa (eF (aO mz (aH (cD 3 (eC (.int 0))) aT))) aq)) (fZ iE mw mz dM ao))
 (bT (aj 3)))))
section
variable {f1 f2 f3 f4:FM}{bd ib:D}{a:Int}{z:Str}{r:List D}{k1 k2 k3:Nat}{s1 b1 s2 b2 s3 b3:Int}{p q:D}
def rg {n:Int}(h0:0<=n) (h1:n < 1000000) (e3:f3 [.t (.str z)]=some (.t (.int n),[])) (hS:S[3]? =some (AAA (.tup (.str z :: r)))):jx (aa (eF (aO f3 (aH (cD 3 (eC (.int 0))) aT))) aq) S=some (oU 0 n.toNat,S):=by
 refine Sq.mZ ?_ h1 (by lia)
 simp[hS,dD,e3]
def Ci {j:Int}(hr:r.length<=1000) (e4:f4 [.b (rd C L k s b),.t ib,.t (.int (a+1))]=some (.t p,[rd C L k1 s1 b1])):
  fZ f1 f2 f3 f4 C [some (.b (rd C L k s b)),AAA bd,AAC a,AAA (.tup (.str z :: r)),AAA ib,AAC j]=some (.nx [some (.b (rd C L k1 s1 b1)),AAA bd,AAC a,AAA (.tup (.str z :: (r++[p]))),AAA ib,AAC j]):=by
 have m1:=uH (m:="saying_taken") (gu:=aH (eF (aj 4)) (aH (eF (eP cH (aa (eF (aj 2)) (aa (eC (.int 1)) aq)))) aT)) (us:=[ib,.int (a+1)]) (S:=[AAA bd,AAC a,AAA (.tup (.str z :: r)),AAA ib,AAC j]) rfl (by simp) e4
 have l:r.length+1+1<=100000:=by lia
 simp[fZ,m1,l]
def YA (hr:r.length<=900) (e1:f1 [.b (rd C L k s b),.t bd,.t (.int a)]=some (.t (.tup (.str z :: r)),[rd C L k1 s1 b1])) (e2:f2 [.t (.tup (.str z :: r)),.t bd]=some (.t ib,[])) (e3:f3 [.t (.str z)]=some (.t (.int 0),[])):
  aK 6 (bM f1 f2 f3 f4 C) [.b (rd C L k s b),.t bd,.t (.int a)]=some (.t (.tup (.str z :: r)),[rd C L k1 s1 b1]):=by
 have m1:=uH (m:="begin_taken") (gu:=aH (eF (aj 1)) (aH (eF (aj 2)) aT)) (us:=[bd,.int a]) (S:=[AAA bd,AAC a,none,none,none]) rfl rfl e1
 have g:=rg (n:=0) (S:=[some (.b (rd C L k1 s1 b1)),AAA bd,AAC a,AAA (.tup (.str z :: r)),AAA ib,none]) (by decide) (by decide) e3 rfl
 have e0:oU 0 (0:Int).toNat=[]:=rfl
 rw[e0] at g
 simp[-B3,aK,bM,m1,e2,uV,g,loop,aL]
def Vb (hr:r.length<=900) (e1:f1 [.b (rd C L k s b),.t bd,.t (.int a)]=some (.t (.tup (.str z :: r)),[rd C L k1 s1 b1])) (e2:f2 [.t (.tup (.str z :: r)),.t bd]=some (.t ib,[])) (e3:f3 [.t (.str z)]=some (.t (.int 1),[]))
  (e4:f4 [.b (rd C L k1 s1 b1),.t ib,.t (.int (a+1))]=some (.t p,[rd C L k2 s2 b2])):
  aK 6 (bM f1 f2 f3 f4 C) [.b (rd C L k s b),.t bd,.t (.int a)]=some (.t (.tup (.str z :: (r++[p]))),[rd C L k2 s2 b2]):=by
 have m1:=uH (m:="begin_taken") (gu:=aH (eF (aj 1)) (aH (eF (aj 2)) aT)) (us:=[bd,.int a]) (S:=[AAA bd,AAC a,none,none,none]) rfl rfl e1
 have g:=rg (n:=1) (S:=[some (.b (rd C L k1 s1 b1)),AAA bd,AAC a,AAA (.tup (.str z :: r)),AAA ib,none]) (by decide) (by decide) e3 rfl
 have e0:oU 0 (1:Int).toNat=[.int 0]:=rfl
 rw[e0] at g
 have t1:=Ci (f1:=f1) (f2:=f2) (f3:=f3) (bd:=bd) (z:=z) (r:=r) (j:=0) (by lia) e4
 simp[-B3,aK,bM,m1,e2,uV,g,loop,t1,aL]
def acz (hr:r.length<=900) (e1:f1 [.b (rd C L k s b),.t bd,.t (.int a)]=some (.t (.tup (.str z :: r)),[rd C L k1 s1 b1])) (e2:f2 [.t (.tup (.str z :: r)),.t bd]=some (.t ib,[])) (e3:f3 [.t (.str z)]=some (.t (.int 2),[]))
  (e4:f4 [.b (rd C L k1 s1 b1),.t ib,.t (.int (a+1))]=some (.t p,[rd C L k2 s2 b2])) (e5:f4 [.b (rd C L k2 s2 b2),.t ib,.t (.int (a+1))]=some (.t q,[rd C L k3 s3 b3])):
  aK 6 (bM f1 f2 f3 f4 C) [.b (rd C L k s b),.t bd,.t (.int a)]=some (.t (.tup (.str z :: (r++[p]++[q]))),[rd C L k3 s3 b3]):=by
 have m1:=uH (m:="begin_taken") (gu:=aH (eF (aj 1)) (aH (eF (aj 2)) aT)) (us:=[bd,.int a]) (S:=[AAA bd,AAC a,none,none,none]) rfl rfl e1
 have g:=rg (n:=2) (S:=[some (.b (rd C L k1 s1 b1)),AAA bd,AAC a,AAA (.tup (.str z :: r)),AAA ib,none]) (by decide) (by decide) e3 rfl
 have e0:oU 0 (2:Int).toNat=[.int 0,.int 1]:=rfl
 rw[e0] at g
 have t1:=Ci (f1:=f1) (f2:=f2) (f3:=f3) (bd:=bd) (z:=z) (r:=r) (j:=0) (by lia) e4
 have t2:=Ci (f1:=f1) (f2:=f2) (f3:=f3) (bd:=bd) (z:=z) (r:=r++[p]) (j:=1) (by rw[aaB];show r.length+1<=1000;lia) e5
 simp only[adY] at t2
 simp[-B3,aK,bM,m1,e2,uV,g,loop,t1,t2,aL]
end
variable {C:Addr}{L:List Str}
def FJ (C:Addr):Nat->FM
 | 0=>fun a=>none
 | j+1=>aK 6 (bM (Wg C) mq J8 (FJ C j) C)
def Vc (C:Addr) (j:Nat):∀us r,FJ C (j+1) us=some r->aK 6 (bM (Wg C) mq J8 (FJ C j) C) us=some r:=fun a a h=>h
def Nn (C:Addr) (us:List U):FJ C 0 us=none:=rfl
def vh (h:cA z r=pl):eO (n+1) (.tup (.str z :: r))=(pl.flatMap (cz n)).length+1:=by rw[<-h];rfl
def vj (h:cA z r=pl):iT (n+1) (.tup (.str z :: r))=(if b8 z=true then 1 else 0)+((pl.flatMap (cz n)).filter jY).length:=by
 rw[<-h]
 show(List.filter jY (.tup (.str z :: r) :: (cA z r).flatMap (cz n))).length=_
 rw[List.filter_cons]
 show(if b8 z=true then _ else _:List D).length=_
 split
 ·rw[aar];lia
 ·lia
def Bg {i:Nat}(hs:cN z=i) (h:(D.str z :: r).drop i=pl):cA z r=pl:=by unfold cA;rw[hs,h]
def Wh {k':Nat}{s' b':Int}(h1:k=k') (h2:s=s') (h3:b=b'):rd C L k s b=rd C L k' s' b':=by rw[h1,h2,h3]
def Wi (f:D->List D) (p:D):[p].flatMap f=f p:=by simp
def fm2 (f:D->List D) (p q:D):[p,q].flatMap f=f p++f q:=by simp
def uw (h:b8 z=false):bI z=0:=by unfold bI;rw[h];rfl
def Vd (h:b8 z=true):bI z=1:=by unfold bI;rw[h];rfl
def wR (C:Addr) (L:List Str) (n:Nat) (bs:List Str) (d:D):Prop:=∀{j k:Nat}{s b a:Int}{rest:List Str},n<=j->(∀y∈bs,nameB (.str y)=true)->bs.length+n<=100->L.length<=10000->L.drop k=jT n d++rest->s+(eO n d:Nat)<=16->b+(iT n d:Nat)<=3->a+n<=8->
 FJ C j [.b (rd C L k s b),.t (.tup (bs.map D.str)),.t (.int a)]=some (.t d,[rd C L (k+(jT n d).length) (s+(eO n d:Nat)) (b+(iT n d:Nat))])/\L.drop (k+(jT n d).length)=rest
def QN (hz:z="yes"\/z="no"):wR C L (n+1) bs (.tup [.str z]):=by
 intro j k s b a rest hj hb hl hL hd h1 h2 h3
 obtain⟨i,rfl⟩:∃i,j=i+1:=⟨j - 1,by lia⟩
 obtain⟨q1,q2,q3,q4⟩:=m8 hz
 have n2:z≠"within":=by rcases hz with rfl | rfl <;> decide
 have pl:cA z []=[]:=Bg q2 rfl
 have z1:eO (n+1) (.tup [.str z])=1:=by rw[vh pl];rfl
 have z2:iT (n+1) (.tup [.str z])=0:=by rw[vj pl,q3];rfl
 rw[z1] at h1 ⊢
 rw[z2] at h2 ⊢
 obtain⟨a1,a2⟩:=fJ (show L.drop k=z :: rest from hd)
 have e:=YA (f4:=FJ C i) (r:=[]) (by decide) (zj (f2:=J6 C) (f3:=J7 C) (f4:=Ex C) (bd:=.tup (bs.map D.str)) q3 q4 n2 (Be (C:=C) (a:=a) a1 hL q1 (by omega) (by lia) (by rw[uw q3];omega))) (pP q3) (pw_leaf hz)
 refine⟨e.trans ?_,a2⟩
 exact congrArg (fun o=>(some (_,[o]):Option (U×List MO))) (Wh (k':=k+(jT (n+1) (.tup [.str z])).length) (s':=s+((1:Nat):Int)) (b':=b+((0:Nat):Int)) rfl (by lia) (by rw[uw q3];lia))
def Ve {t:D}(ht:Ts bs t):wR C L (n+1) bs (.tup [.str "now",t]):=by
 intro j k s b a rest hj hb hl hL hd h1 h2 h3
 obtain⟨i,rfl⟩:∃i,j=i+1:=⟨j - 1,by lia⟩
 have q3:b8 "now" =false:=by decide
 have pl:cA "now" [t]=[]:=Bg p5.2 rfl
 have z1:eO (n+1) (.tup [.str "now",t])=1:=by rw[vh pl];rfl
 have z2:iT (n+1) (.tup [.str "now",t])=0:=by rw[vj pl,q3];rfl
 rw[z1] at h1 ⊢
 rw[z2] at h2 ⊢
 rw[xD] at hd ⊢
 obtain⟨a1,a2⟩:=fJ (show L.drop k=("now":Str) :: (Ew t++rest) from hd)
 obtain⟨t1,t2⟩:=Yy (C:=C) (s:=s+1) (b:=b+bI "now") ht hb hL a2
 have e:=YA (f4:=FJ C i) (r:=[t]) (by show 1<=900;decide) (U7 (f3:=J7 C) (f4:=Ex C) (Be (C:=C) (a:=a) a1 hL p5.1 (by lia) (by lia) (by rw[uw q3];lia)) t1) (pP q3) pw_now
 have ek:k+1+(Ew t).length=k+(("now":Str) :: Ew t).length:=by rw[aar];lia
 refine⟨e.trans ?_,by rw[<-ek];exact t2⟩
 exact congrArg (fun o=>(some (_,[o]):Option (U×List MO))) (Wh (k':=k+(("now":Str) :: Ew t).length) (s':=s+((1:Nat):Int)) (b':=b+((0:Nat):Int)) ek (by lia) (by rw[uw q3];lia))
def Vf (hz:z∈J3) (ih:wR C L n bs p):wR C L (n+1) bs (.tup [.str z,p]):=by
 intro j k s b a rest hj hb hl hL hd h1 h2 h3
 obtain⟨i,rfl⟩:∃i,j=i+1:=⟨j - 1,by lia⟩
 obtain⟨q1,q2,q3,q4⟩:=pS hz
 have n2:z≠"within":=by rcases dF hz with rfl | rfl | rfl | rfl <;> decide
 have pl:cA z [p]=[p]:=Bg q2 rfl
 have z1:eO (n+1) (.tup [.str z,p])=eO n p+1:=by rw[vh pl,Wi];rfl
 have z2:iT (n+1) (.tup [.str z,p])=iT n p:=by rw[vj pl,Wi,q3];show 0+_=_;rw[ad1];rfl
 rw[z1] at h1 ⊢
 rw[z2] at h2 ⊢
 rw[xE q4] at hd ⊢
 obtain⟨a1,a2⟩:=fJ (show L.drop k=z :: (jT n p++rest) from hd)
 obtain⟨i1,i2⟩:=ih (j:=i) (k:=k+1) (s:=s+1) (b:=b+bI z) (a:=a+1) (rest:=rest) (by lia) hb (by lia) hL a2 (by lia) (by rw[uw q3];lia) (by lia)
 have e:=Vb (r:=[]) (by decide) (zj (f2:=J6 C) (f3:=J7 C) (f4:=Ex C) (bd:=.tup (bs.map D.str)) q3 q4 n2 (Be (C:=C) (a:=a) a1 hL q1 (by lia) (by lia) (by rw[uw q3];lia))) (pP q3) (pw_one hz) i1
 have ek:k+1+(jT n p).length=k+(z :: jT n p).length:=by rw[aar];lia
 refine⟨e.trans ?_,by rw[<-ek];exact i2⟩
 exact congrArg (fun o=>(some (_,[o]):Option (U×List MO))) (Wh (k':=k+(z :: jT n p).length) (s':=s+((eO n p+1:Nat):Int)) (b':=b+((iT n p:Nat):Int)) ek (by lia) (by rw[uw q3];lia))
def Vg {i0:Int}(h0:0<=i0) (h5:i0<=5) (ih:wR C L n bs p):wR C L (n+1) bs (.tup [.str "within",.int i0,p]):=by
 intro j k s b a rest hj hb hl hL hd h1 h2 h3
 obtain⟨i,rfl⟩:∃i,j=i+1:=⟨j - 1,by lia⟩
 obtain⟨q1,q2,q3,q4⟩:=pU
 have pl:cA "within" [.int i0,p]=[p]:=Bg q2 rfl
 have z1:eO (n+1) (.tup [.str "within",.int i0,p])=eO n p+1:=by rw[vh pl,Wi];rfl
 have z2:iT (n+1) (.tup [.str "within",.int i0,p])=iT n p:=by rw[vj pl,Wi,q3];show 0+_=_;rw[ad1];rfl
 rw[z1] at h1 ⊢
 rw[z2] at h2 ⊢
 rw[xG] at hd ⊢
 obtain⟨a1,a2⟩:=fJ (show L.drop k=("within":Str) :: (tW (.int i0) :: (jT n p++rest)) from hd)
 obtain⟨a3,a4⟩:=fJ a2
 obtain⟨i1,i2⟩:=ih (j:=i) (k:=k+1+1) (s:=s+1) (b:=b+bI "within") (a:=a+1) (rest:=rest) (by lia) hb (by lia) hL a4 (by lia) (by rw[uw q3];lia) (by lia)
 have e:=Vb (r:=[.int i0]) (by show 1<=900;decide) (U8 (f2:=J6 C) (f4:=Ex C) (bd:=.tup (bs.map D.str)) (Be (C:=C) (a:=a) a1 hL q1 (by lia) (by lia) (by rw[uw q3];lia)) (Yz (C:=C) h0 h5 a3 hL)) (pP q3) pw_wth i1
 have ek:k+1+1+(jT n p).length=k+(("within":Str) :: tW (.int i0) :: jT n p).length:=by rw[aar,aar];lia
 refine⟨e.trans ?_,by rw[<-ek];exact i2⟩
 exact congrArg (fun o=>(some (_,[o]):Option (U×List MO))) (Wh (k':=k+(("within":Str) :: tW (.int i0) :: jT n p).length) (s':=s+((eO n p+1:Nat):Int)) (b':=b+((iT n p:Nat):Int)) ek (by lia) (by rw[uw q3];lia))
def Vh {x:Str}(hz:z="each"\/z="one") (hx:nameB (.str x)=true) (hy:nameB (.str y)=true) (ih:wR C L n (bs++[y]) p):wR C L (n+1) bs (.tup [.str z,.str x,.str y,p]):=by
 intro j k s b a rest hj hb hl hL hd h1 h2 h3
 obtain⟨i,rfl⟩:∃i,j=i+1:=⟨j - 1,by lia⟩
 obtain⟨q1,q2,q3,q4⟩:=pW hz
 have n2:z≠"within":=by rcases hz with rfl | rfl <;> decide
 have pl:cA z [.str x,.str y,p]=[p]:=Bg q2 rfl
 have z1:eO (n+1) (.tup [.str z,.str x,.str y,p])=eO n p+1:=by rw[vh pl,Wi];rfl
 have z2:iT (n+1) (.tup [.str z,.str x,.str y,p])=1+iT n p:=by rw[vj pl,Wi,q3];rfl
 rw[z1] at h1 ⊢
 rw[z2] at h2 ⊢
 rw[xH] at hd ⊢
 obtain⟨a1,a2⟩:=fJ (show L.drop k=z :: x :: y :: (jT n p++rest) from hd)
 obtain⟨a3,a4⟩:=fJ a2
 obtain⟨a5,a6⟩:=fJ a4
 obtain⟨i1,i2⟩:=ih (j:=i) (k:=k+1+1+1) (s:=s+1) (b:=b+bI z) (a:=a+1) (rest:=rest) (by lia) (fun v hv=>by
  rcases aaX.mp hv with e | e
  ·exact hb v e
  ·rw[aax.mp e];exact hy) (by rw[aaB];show bs.length+1+n<=100;lia) hL a6 (by lia) (by rw[Vd q3];lia) (by lia)
 rw[acH] at i1
 have e:=Vb (r:=[.str x,.str y]) (by show 2<=900;decide) (U9 (f2:=J6 C) (f3:=J7 C) (bd:=.tup (bs.map D.str)) q3 q4 n2 (Be (C:=C) (a:=a) a1 hL q1 (by lia) (by lia) (by rw[Vd q3];lia)) (Ni (C:=C) a3 hL hx) (Ni (C:=C) a5 hL hy)) (Jd q3 (by rw[aaw];lia)) (pw_bnd hz) i1
 have ek:k+1+1+1+(jT n p).length=k+(z :: tW (.str x) :: tW (.str y) :: jT n p).length:=by rw[aar,aar,aar];lia
 refine⟨e.trans ?_,by rw[<-ek];exact i2⟩
 exact congrArg (fun o=>(some (_,[o]):Option (U×List MO))) (Wh (k':=k+(z :: tW (.str x) :: tW (.str y) :: jT n p).length) (s':=s+((eO n p+1:Nat):Int)) (b':=b+((1+iT n p:Nat):Int)) ek (by lia) (by rw[Vd q3];lia))
def Vi (hz:z∈J4) (UW:wR C L n bs p) (UX:wR C L n bs q):wR C L (n+1) bs (.tup [.str z,p,q]):=by
 intro j k s b a rest hj hb hl hL hd h1 h2 h3
 obtain⟨i,rfl⟩:∃i,j=i+1:=⟨j - 1,by lia⟩
 obtain⟨q1,q2,q3,q4⟩:=pT hz
 have pl:cA z [p,q]=[p,q]:=Bg q2 rfl
 have z1:eO (n+1) (.tup [.str z,p,q])=eO n p+eO n q+1:=by rw[vh pl,fm2,aaB];rfl
 have z2:iT (n+1) (.tup [.str z,p,q])=iT n p+iT n q:=by rw[vj pl,fm2,q3,adV,aaB];show 0+_=_;rw[ad1];rfl
 rw[z1] at h1 ⊢
 rw[z2] at h2 ⊢
 rw[xF (pR hz)] at hd ⊢
 obtain⟨a1,a2⟩:=fJ (show L.drop k=z :: (jT n p++(jT n q++rest)) by rw[hd];simp)
 obtain⟨i1,i2⟩:=UW (j:=i) (k:=k+1) (s:=s+1) (b:=b+bI z) (a:=a+1) (rest:=jT n q++rest) (by lia) hb (by lia) hL a2 (by lia) (by rw[uw q3];lia) (by lia)
 obtain⟨j1,j2⟩:=UX (j:=i) (k:=k+1+(jT n p).length) (s:=s+1+(eO n p:Nat)) (b:=b+bI z+(iT n p:Nat)) (a:=a+1) (rest:=rest) (by lia) hb (by lia) hL i2 (by lia) (by rw[uw q3];lia) (by lia)
 have e:=acz (r:=[]) (by decide) (zj (f2:=J6 C) (f3:=J7 C) (f4:=Ex C) (bd:=.tup (bs.map D.str)) q3 q4 (pR hz) (Be (C:=C) (a:=a) a1 hL q1 (by lia) (by lia) (by rw[uw q3];lia))) (pP q3) (pw_two hz) i1 j1
 have ek:k+1+(jT n p).length+(jT n q).length=k+(z :: (jT n p++jT n q)).length:=by rw[aar,aaB];lia
 refine⟨e.trans ?_,by rw[<-ek];exact j2⟩
 exact congrArg (fun o=>(some (_,[o]):Option (U×List MO))) (Wh (k':=k+(z :: (jT n p++jT n q)).length) (s':=s+((eO n p+eO n q+1:Nat):Int)) (b':=b+((iT n p+iT n q:Nat):Int)) ek (by lia) (by rw[uw q3];lia))
def YB {d:D}(h:Sy n bs d):wR C L n bs d:=by
 induction h with
 | leaf hz=>exact QN hz
 | now ht=>exact Ve ht
 | one hz _ ih=>exact Vf hz ih
 | two hz _ _ UW UX=>exact Vi hz UW UX
 | xB h0 h5 _ ih=>exact Vg h0 h5 ih
 | bnd hz hx hy _ ih=>exact Vh hz hx hy ih
variable {C:Addr}{L:List Str}
theorem Np {c:Nat}:∀{a b r s:List Nat},c∉a->c∉b->a++c :: r=b++c :: s->a=b/\r=s
 | [],[],r,s,_,_,h=>by cases h;exact⟨rfl,rfl⟩
 | [],y :: b,r,s,_,hb,h=>by cases h;exact absurd aaR hb
 | x :: a,[],r,s,ha,_,h=>by cases h;exact absurd aaR ha
 | x :: a,y :: b,r,s,ha,hb,h=>by
  injection h with h1 h2
  obtain⟨e1,e2⟩:=Np (fun m=>ha (aaP _ m)) (fun m=>hb (aaP _ m)) h2
  rw[h1,e1]
  exact⟨rfl,e2⟩
def ux (c:Nat) (a b:Str) (r:List Str):(Str.join ⟨#[c]⟩ (a :: b :: r)).cps.toList=a.cps.toList++c :: (Str.join ⟨#[c]⟩ (b :: r)).cps.toList:=by
 show(a++⟨#[c]⟩++Str.join ⟨#[c]⟩ (b :: r)).cps.toList=_
 simp only[Str.cps_append,Array.toList_append]
 simp
theorem D7 {c:Nat}:∀{as bs:List Str},as≠[]->bs≠[]->(∀p∈as,c∉p.cps.toList)->(∀p∈bs,c∉p.cps.toList)->Str.join ⟨#[c]⟩ as=Str.join ⟨#[c]⟩ bs->as=bs
 | [],_,h,_,_,_,_=>absurd rfl h
 | _,[],_,h,_,_,_=>absurd rfl h
 | [a],[b],_,_,_,_,h=>by rw[show a=b from h]
 | [a],b :: b2 :: r,_,_,ha,hb,h=>by
  have e:=congrArg (fun z:Str=>z.cps.toList) h
  rw[ux] at e
  refine absurd ?_ (ha a aaR)
  rw[show a.cps.toList=_ from e]
  exact aaS _ aaR
 | a :: a2 :: r,[b],_,_,ha,hb,h=>by
  have e:=congrArg (fun z:Str=>z.cps.toList) h
  rw[ux] at e
  refine absurd ?_ (hb b aaR)
  rw[show b.cps.toList=_ from e.symm]
  exact aaS _ aaR
 | a :: a2 :: r,b :: b2 :: s,_,_,ha,hb,h=>by
  have e:=congrArg (fun z:Str=>z.cps.toList) h
  rw[ux,ux] at e
  obtain⟨e1,e2⟩:=Np (ha a aaR) (hb b aaR) e
  have q:Str.join ⟨#[c]⟩ (a2 :: r)=Str.join ⟨#[c]⟩ (b2 :: s):=Str.ext' (Array.toList_inj.mp e2)
  have ab:a=b:=Str.ext' (Array.toList_inj.mp e1)
  rw[ab,D7 (ac8 _ _) (ac8 _ _) (fun p hp=>ha p (aaP _ hp)) (fun p hp=>hb p (aaP _ hp)) q]
def FL (h0:ws≠[]) (hf:∀p∈ws,32∉p.cps.toList):Txt.split (Txt.join " " ws) " " =ws:=by
 have e:(" ":Str)=⟨#[32]⟩:=rfl
 rw[e]
 have j:Txt.join ⟨#[32]⟩ ws=Str.join ⟨#[32]⟩ ws:=StrLaws.glued_eq_join _ _
 rw[j]
 refine D7 (fun z=>?_) h0 (StrLaws.split_free _ 32) hf (StrLaws.join_split _ _)
 have:=PyProof.Rows.split_pos (Str.join ⟨#[32]⟩ ws) ⟨#[32]⟩
 rw[z] at this
 exact absurd this (by decide)
structure Wk (z:Str):Prop where
 len:z.length<=8
 fr:32∉z.cps.toList
def xJ (h:nameB (.str z)=true):Wk z:=by
 have h:(decide (1<=z.length) && decide (z.length<=8) && (Sw.signs z).all DL)=true:=h
 simp only[aa7,acU] at h
 refine⟨h.1.2,fun m=>?_⟩
 have:=aa9.mp h.2 ⟨#[32]⟩ (adz.mpr ⟨32,m,rfl⟩)
 exact absurd this (by decide +kernel)
def FO {zs:List Str}(h:(zs.all fun z=>decide (z.length<=8) && decide (32∉z.cps.toList))=true):∀z∈zs,Wk z:=fun z hz=>by
 have:=aa9.mp h z hz
 simp only[aa7,acU] at this
 exact⟨this.1,this.2⟩
def qR:∀z∈iy,Wk z:=FO (by decide +kernel)
def Hw:∀z∈(["any","name","less","same","more"]:List Str),Wk z:=FO (by decide +kernel)
def Nq {k:Int}(h0:0<=k) (h9:k<=9):Wk (tW (.int k)):=by
 obtain⟨n,rfl⟩:=afE h0
 have:=(by decide +kernel:∀n < 10,(tW (.int (n:Nat))).length<=8/\32∉(tW (.int (n:Nat))).cps.toList) n (by lia)
 exact⟨this.1,this.2⟩
def YC {t:D}(h:Ts bs t) (hb:∀y∈bs,nameB (.str y)=true):∀z∈Ew t,Wk z:=by
 have t3:∀o∈yR,Wk o:=FO (by decide +kernel)
 cases h with
 | any=>intro z hz;rw[aax.mp hz];exact Hw _ (by decide)
 | name hn=>
  intro z hz
  rcases aaA.mp (show z∈[_,_] from hz) with e | e
  ·rw[e];exact Hw _ (by decide)
  ·rw[aax.mp e];exact xJ hn
 | num ho h0 h9=>
  intro z hz
  rcases aaA.mp (show z∈[_,_] from hz) with e | e
  ·rw[e];exact t3 _ ho
  ·rw[aax.mp e];exact Nq h0 h9
 | var ho hy=>
  intro z hz
  rcases aaA.mp (show z∈[_,_] from hz) with e | e
  ·rw[e];exact t3 _ ho
  ·rw[aax.mp e];exact xJ (hb _ hy)
def RQ {d:D}(h:Sy n bs d):(∀y∈bs,nameB (.str y)=true)->(∀z∈jT n d,Wk z)/\jT n d≠[]:=by
 induction h with
 | leaf hz=>intro hb;rw[D3];exact⟨fun z hz'=>by rw[aax.mp hz'];exact qR _ (m8 hz).1,ac8 _ _⟩
 | now ht=>
  intro hb
  rw[xD]
  refine⟨fun z hz=>?_,ac8 _ _⟩
  rcases aaA.mp hz with e | e
  ·rw[e];exact qR _ p5.1
  ·exact YC ht hb z e
 | one hz _ ih=>
  intro hb
  rw[xE (yX hz)]
  refine⟨fun z hz'=>?_,ac8 _ _⟩
  rcases aaA.mp hz' with e | e
  ·rw[e];exact qR _ (pS hz).1
  ·exact(ih hb).1 z e
 | two hz _ _ UW UX=>
  intro hb
  rw[xF (pR hz)]
  refine⟨fun z hz'=>?_,ac8 _ _⟩
  rcases aaA.mp hz' with e | e
  ·rw[e];exact qR _ (pT hz).1
  ·rcases aaX.mp e with e | e
   ·exact(UW hb).1 z e
   ·exact(UX hb).1 z e
 | xB h0 h5 _ ih=>
  intro hb
  rw[xG]
  refine⟨fun z hz'=>?_,ac8 _ _⟩
  rcases aaA.mp hz' with e | e
  ·rw[e];exact qR _ pU.1
  ·rcases aaA.mp e with e | e
   ·rw[e];exact Nq h0 (by lia)
   ·exact(ih hb).1 z e
 | bnd hz hx hy _ ih=>
  intro hb
  rw[xH]
  refine⟨fun z hz'=>?_,ac8 _ _⟩
  have ih':=ih (fun v hv=>by
   rcases aaX.mp hv with e | e
   ·exact hb v e
   ·rw[aax.mp e];exact hy)
  rcases aaA.mp hz' with e | e
  ·rw[e];exact qR _ (pW hz).1
  ·rcases aaA.mp e with e | e
   ·rw[e];exact xJ hx
   ·rcases aaA.mp e with e | e
    ·rw[e];exact xJ hy
    ·exact ih'.1 z e
noncomputable def txt (W:List Str):Str:=Txt.join " " W
theorem Hx:∀W:List Str,wc (sL W)=some W
 | []=>rfl
 | z :: W=>by show(wc (sL W)).map _=_;rw[Hx W];rfl
theorem Vj:∀{W:List Str},(∀z∈W,Wk z)->(W.map (·.length)).sum<=8 * W.length
 | [],_=>aaC _
 | z :: W,h=>by
  have:=Vj fun q hq=>h q (aaP _ hq)
  have:=(h z aaR).len
  simp only[aaQ,List.sum_cons,aar]
  lia
def Nr (h:∀z∈W,Wk z) (hl:W.length<=2048):yG [.str " ",.lst (sL W)]=AAA (.str (txt W)):=by
 show((wc (sL W)).bind fun zs=>if JoinOk " " zs=true then some (U.t (.str (Txt.join " " zs))) else none)=_
 have:=Vj h
 rw[Hx,aau,if_pos (joinOk_of_weight (by lia) (by decide))]
 rfl
def Jy (h0:W≠[]) (h:∀z∈W,Wk z) (hl:W.length<=2048):nJ [.str (txt W),.str " "]=AAB (sL W):=by
 have e:Txt.split (txt W) " " =W:=FL h0 fun z hz=>(h z hz).fr
 have l1:(txt W).length<=100000:=by
  have a:=StrLaws.join_length_le (⟨#[32]⟩:Str) W
  have b:=Vj h
  have c:(⟨#[32]⟩:Str).length=1:=rfl
  have j:txt W=Str.join ⟨#[32]⟩ W:=StrLaws.glued_eq_join _ _
  rw[j]
  rw[c] at a
  lia
 have l2:(Txt.split (txt W) " ").length<=100000:=by rw[e];lia
 show(if _ then some (U.m (.lst ((Txt.split (txt W) " ").map D.str))) else none)=_
 rw[if_pos ⟨by decide,l1,l2⟩,e]
 rfl
def uy (eu:FM):GS:=
 (bT (eP yG (aa (eC (.str " ")) (aa (eF (aO eu (aH (eF (aj 0)) aT))) aq))))
def qb:FM:=aK 1 (uy (jK 9))
def Jz:∀us r,qb us=some r->aK 1 (uy (jK 9)) us=some r:=fun a a h=>h
def FP {f:FM}{d:D}(e1:f [.t d]=some (.m (.lst (sL W)),[])) (e2:yG [.str " ",.lst (sL W)]=AAA (.str (txt W))):aK 1 (uy f) [.t d]=some (.t (.str (txt W)),[]):=by
 simp[aK,uy,e1,e2,aL]
def Nt {d:D}(h:Sy 8 [] d):qb [.t d]=some (.t (.str (txt (jT 8 d))),[]):=FP (Nf h (by decide) (by decide)) (Nr (RQ h (by simp)).1 (nU h (by decide)))
def fy (ao:Addr):GS:=
 (aQ (yJ ao 0 "words" (eF (aj 1)))
 (aQ (yJ ao 0 "at" (eC (.int 0)))
 (aQ (yJ ao 0 "sayings" (eC (.int 0)))
 (yJ ao 0 "binders" (eC (.int 0))))))
def zm (C:Addr):FM:=aK 2 (fy C)
def Nu (C:Addr):∀us r,zm C us=some r->aK 2 (fy C) us=some r:=fun a a h=>h
def Cj {f:Str}{g:GD}{d:D}{kvs:List (Str×D)}(hl:kvs.length < 900) (h:g (some (.b (.ins C kvs)) :: S)=some (d,some (.b (.ins C kvs)) :: S)):yJ C 0 f g (some (.b (.ins C kvs)) :: S)=some (.nx (some (.b (.ins C (jA f d kvs))) :: S)):=by
 unfold yJ
 rw[h,aau]
 have e:lT C (some (.b (.ins C kvs)) :: S) 0=some kvs:=by
  show(if C=C then some kvs else none)=_
  rw[if_pos rfl]
 dsimp only
 rw[e,aau,if_pos hl]
 rfl
def QO (W:List Str):zm C [.b (.ins C []),.t (.lst (sL W))]=some (.t .cU,[rd C W 0 0 0]):=by
 have s1:=Cj (C:=C) (f:="words") (g:=eF (aj 1)) (S:=[AAA (.lst (sL W))]) (kvs:=[]) (by decide) rfl
 have s2:=Cj (C:=C) (f:="at") (g:=eC (.int 0)) (S:=[AAA (.lst (sL W))]) (kvs:=jA "words" (.lst (sL W)) []) (by show 1 < 900;decide) rfl
 have s3:=Cj (C:=C) (f:="sayings") (g:=eC (.int 0)) (S:=[AAA (.lst (sL W))]) (kvs:=jA "at" (.int 0) (jA "words" (.lst (sL W)) [])) (by show 2 < 900;decide) rfl
 have s4:=Cj (C:=C) (f:="binders") (g:=eC (.int 0)) (S:=[AAA (.lst (sL W))]) (kvs:=jA "sayings" (.int 0) (jA "at" (.int 0) (jA "words" (.lst (sL W)) []))) (by show 3 < 900;decide) rfl
 have e:jA "binders" (.int 0) (jA "sayings" (.int 0) (jA "at" (.int 0) (jA "words" (.lst (sL W)) [])))=CD W 0 0 0:=rfl
 rw[e] at s4
 show((fy C) [some (.b (.ins C [])),AAA (.lst (sL W))]).bind _=_
 unfold fy
 rw[B0,s1,aau]
 simp only
 rw[B0,s2,aau]
 simp only
 rw[B0,s3,aau]
 simp only
 rw[s4]
 rfl
def iN (vm:FM) (dM:FM) (ao:Addr):GS:=
 (aQ (bX 1 (AZ ao vm (aH (eF (eP nJ (aa (eF (aj 0)) (aa (eC (.str " ")) aq)))) aT)))
 (aQ (bX 2 (fG ao "saying_taken" 1 dM (aH (eF (eP bw aq)) (aH (eC (.int 0)) aT))))
 (aQ (i8 (qB (eF (eP JX (aa (lP ao 1 "at") (aa (eF (eP yh (aa (lP ao 1 "words") aq))) aq))))) Y9 c8)
 (bT (aj 2)))))
def acA {m:Str}{f:FM}{gu:GU}{r:U}{o':MO}{t0 t2:Option U}(hl:(CD L k s b).lookup m=none) (hg:gu [t0,some (.m (rd C L k s b)),t2]=some (us.map U.t,[t0,some (.m (rd C L k s b)),t2])) (hf:f (.b (rd C L k s b) :: us.map U.t)=some (r,[o'])):
  fG C m 1 f gu [t0,some (.m (rd C L k s b)),t2]=some (r,[t0,some (.m o'),t2]):=by
 unfold fG
 have e:lT C [t0,some (.m (rd C L k s b)),t2] 1=some (CD L k s b):=by
  show(if C=C then some (CD L k s b) else none)=_
  rw[if_pos rfl]
 rw[e,aau,if_pos hl]
 unfold aO L7
 rw[hg]
 have q1:slotsOf (U.v 1 :: us.map U.t)=[1]:=by show 1 :: slotsOf (us.map U.t)=_;rw[PM]
 have q2:bJ (U.v 1 :: us.map U.t)=0:=PN us
 have q3:bz [t0,some (.m (rd C L k s b)),t2] (.v 1 :: us.map U.t)=some (.b (rd C L k s b) :: us.map U.t):=by
  show(some (U.b (rd C L k s b))).bind (fun w=>(bz _ (us.map U.t)).map fun ws=>w :: ws)=_
  rw[Hg]
  rfl
 have q4:wb (.v 1 :: us.map U.t) [o'] [t0,some (.m (rd C L k s b)),t2]=some [t0,some (.m o'),t2]:=Mr _ us
 simp only[aeL,aau]
 rw[if_pos ⟨by rw[q1];decide,by rw[q2];decide⟩,q3,aau,hf,aau,q4]
 rfl
def QS {d:D}(e0:nJ [.str z,.str " "]=AAB (sL L)) (e1:f1 [.b (.ins C []),.t (.lst (sL L))]=some (.t .cU,[rd C L 0 0 0])) (e2:f2 [.b (rd C L 0 0 0),.t (.tup []),.t (.int 0)]=some (.t d,[rd C L L.length s b])):
  aK 3 (iN f1 f2 C) [.t (.str z)]=some (.t d,[]):=by
 have g1:(aH (eF (eP nJ (aa (eF (aj 0)) (aa (eC (.str " ")) aq)))) aT) [AAA (.str z),none,none]=some ([.t (.lst (sL L))],[AAA (.str z),none,none]):=by simp[e0]
 have mk:AZ C f1 (aH (eF (eP nJ (aa (eF (aj 0)) (aa (eC (.str " ")) aq)))) aT) [AAA (.str z),none,none]=some (.m (rd C L 0 0 0),[AAA (.str z),none,none]):=by
  unfold AZ
  rw[g1,aau]
  dsimp only
  rw[if_pos ⟨rfl,rfl⟩]
  show(some [U.t (.lst (sL L))]).bind _=_
  rw[aau,e1]
  rfl
 have m1:=acA (m:="saying_taken") (gu:=aH (eF (eP bw aq)) (aH (eC (.int 0)) aT)) (us:=[.tup [],.int 0]) (t0:=AAA (.str z)) (t2:=none) rfl rfl e2
 have f3:lP C 1 "at" [AAA (.str z),some (.m (rd C L L.length s b)),AAA d]=some (.int L.length,[AAA (.str z),some (.m (rd C L L.length s b)),AAA d]):=by
  have e:lT C [AAA (.str z),some (.m (rd C L L.length s b)),AAA d] 1=some (CD L L.length s b):=by
   show(if C=C then some (CD L L.length s b) else none)=_
   rw[if_pos rfl]
  rw[p6,e]
  rfl
 have f4:lP C 1 "words" [AAA (.str z),some (.m (rd C L L.length s b)),AAA d]=some (.lst (sL L),[AAA (.str z),some (.m (rd C L L.length s b)),AAA d]):=by
  have e:lT C [AAA (.str z),some (.m (rd C L L.length s b)),AAA d] 1=some (CD L L.length s b):=by
   show(if C=C then some (CD L L.length s b) else none)=_
   rw[if_pos rfl]
  rw[p6,e]
  rfl
 have e10:yh [.lst (sL L)]=AAC (L.length:Int):=by
  show some (U.t (.int ((sL L).length:Nat)))=_
  rw[zd]
 simp[aK,iN,mk,m1,f3,f4,e10,aL]
def RS (C:Addr):FM:=aK 3 (iN (zm C) (FJ C 9) C)
def Vk (C:Addr):∀us r,RS C us=some r->aK 3 (iN (zm C) (FJ C 9) C) us=some r:=fun a a h=>h
def YD {d:D}(h:Sy 8 [] d) (h1:eO 8 d<=16) (h2:iT 8 d<=3):RS C [.t (.str (txt (jT 8 d)))]=some (.t d,[]):=by
 have w:=RQ h (by simp)
 have few:=nU h (by decide)
 obtain⟨e,_⟩:=YB (C:=C) (L:=jT 8 d) h (j:=9) (k:=0) (s:=0) (b:=0) (a:=0) (rest:=[]) (by decide) (by simp) (by simp) (by lia) (by simp) (by lia) (by lia) (by decide)
 rw[ad1] at e
 exact QS (Jy w.2 w.1 few) (QO _) e
end Sf
end
section
namespace Sh
open PySem PySem.Spec PyProof.Rows L2 Sw Ss Sn Sp
variable {T:AAJ}
def jL {a b:GS}{S S1:SS}(h:a S=some (.nx S1)):aQ a b S=b S1:=by unfold aQ;rw[h];rfl
section
variable {fp fh fw:FM}{p q:D}{kvs:List (Key×D)}{i n:Nat}{rs ds L:List D}{z:Str}
end
section
variable {fp fh fw:FM}{p q:D}{kvs:List (Key×D)}{i n:Nat}{rs ds L:List D}{z:Str}
end
section
variable {fp fh fw:FM}{p:D}{kvs:List (Key×D)}{R:Row}{z a y:Str}
end
def Nv {ns:List Int}{k:Int}(h:0<=k) (h1:k < 1000000) (h2:ns.length < 1000000):tV [.s ns,.t (.int k)]=some (.m (.dct (cK (DA ns k))),[]):=by simp[tV,h,h1,h2]
def JC {t:dJ}(h:0<=t.n) (h1:t.n < 800000):nL [.b (.dct (cK t))]=some (.t (rX (gU t).tab),[.dct (cK (gU t).t)]):=by simp[nL,h,h1]
def QT {t:dJ}{most:Int}(ok:tX T) (h0:0<=most) (h1:most<=100) (h:0<=t.n) (h2:t.n < 700000):B6 [.b (.dct (cK t)),.t (rX T),.t (.int most)]=some (.t (rX (uX t T most).1),[.dct (cK (uX t T most).2)]):=by
 simp[B6,yO.mpr ok,h0,h1,h,h2]
structure ZT (s:Fq):Prop where
 nm:∀p∈s.tab,p.1∈fM
def Nx {k:Int}{s:Fq}(h:wg k s) (h2:ZT s) (hn:0 < s.names.length):ZT (cT s k):=by
 have p1:=cu (t:=s.t) (m:=s.names.length) (by lia)
 have hi:(bZ s.t s.names.length).toNat < s.names.length:=by lia
 refine⟨fun p hp=>?_⟩
 rcases aaX.mp (show p∈s.tab++[_] from hp) with hp | hp
 ·exact h2.nm p hp
 ·have hp:=aax.mp hp
  subst hp
  exact h.sub _ (getD_mem hi)
theorem D8:∀(n:Nat) (s:Fq),n<=4->wg 0 s->n<=s.names.length->ZT s->ZT ((Sw.upTo n).foldl cT s)
 | 0,s,_,_,_,h=>h
 | n+1,s,hn,h,hl,h2=>by
  obtain⟨i1,i2,i3,i4⟩:=xy n s (by lia) h (by lia)
  have e:(Sw.upTo (n+1)).foldl cT s=cT ((Sw.upTo n).foldl cT s) n:=by
   unfold Sw.upTo
   rw[aeM,acH,List.foldl_append]
   rfl
  rw[e]
  exact Nx i1 (D8 n s (by lia) h (by lia) h2) (by lia)
structure ZU (p:Str×Int):Prop where
 nm:p.1∈fM
 lo:0<=p.2
 hi:p.2<=5
def QU (t:dJ):∀p∈(gU t).tab,ZU p:=by
 have b:=B5 t
 have h0:wg 0 ⟨fM,[],12,c9 t 5⟩:=⟨by show([]++fM).Nodup;decide,fun z hz=>hz,(fun p hp=>by cases hp),by show(4:Int) - 0<=12;decide⟩
 obtain⟨i1,i2,i3,i4⟩:=xy (pN t) ⟨fM,[],12,c9 t 5⟩ b.2 h0 (by show pN t<=8;lia)
 have j:=D8 (pN t) ⟨fM,[],12,c9 t 5⟩ b.2 h0 (by show pN t<=8;lia) ⟨(fun p hp=>by cases hp)⟩
 have e:(Sw.upTo (pN t)).foldl cT ⟨fM,[],12,c9 t 5⟩=gU t:=rfl
 rw[e] at i1 j
 exact fun p hp=>⟨j.nm p hp,(i1.ok p hp).1.lo,(i1.ok p hp).2⟩
structure In (T:AAJ) (p:Str×Int):Prop where
 ex:∃q∈T,p.1=q.1/\0<=p.2/\p.2<=q.2
theorem Ny {T:AAJ}(ok:tX T):∀(ks:List Int) (s:List (Str×Int)×dJ),(∀p∈s.1,In T p)->∀p∈(ks.foldl (dW T) s).1,In T p
 | [],s,h=>h
 | k :: ks,s,h=>Ny ok ks (dW T s k) fun p hp=>by
  have p0:=ok.pos
  have p1:=cu (t:=s.2) (m:=T.length) (by lia)
  have hi:(bZ s.2 T.length).toNat < T.length:=by lia
  have hm:=getD_mem (x:=(("":Str),(0:Int))) hi
  rcases aaX.mp (show p∈s.1++[_] from hp) with h1 | h1
  ·exact h p h1
  ·have h1:=aax.mp h1
   subst h1
   have a:=(ok.mst _ hm).1
   have r:=cu (t:=c9 s.2 T.length) (m:=(T.getD (bZ s.2 T.length).toNat ("",0)).2+1) (by lia)
   exact⟨_,hm,rfl,r.1,by show bZ _ _<=_;lia⟩
def QV (ok:tX T) (t:dJ) (most:Int):∀p∈(uX t T most).1,In T p:=Ny ok _ _ fun p hp=>by cases hp
def acB {p:Str×Int}(hT:∀q∈T,ZU q) (h:In T p):ZU p:=by
 obtain⟨q,hq,e,a,b⟩:=h.ex
 have w:=hT q hq
 have:=w.hi
 exact⟨e▸w.nm,a,by lia⟩
def wC:∀z∈fM,nameB (.str z)=true/\z.length<=8:=by decide +kernel
def Nz (T:AAJ) (S:SS):iS [] cF (eF (aj 0)) (T.map lM) S []=some ((T.map (·.1)).map D.str,S):=by
 have:∀(T':AAJ) (acc:List D),iS [] cF (eF (aj 0)) (T'.map lM) S acc=some (acc++(T'.map (·.1)).map D.str,S):=by
  intro T'
  induction T' with
  | nil=>intro acc;simp[iS]
  | cons p T' ih=>
   intro acc
   show iS [] cF (eF (aj 0)) (.tup [.str p.1,.int p.2] :: T'.map lM) S acc=_
   simp[iS,dg,slotsOf,bJ,bz,cF,aL,wb,ih]
 simpa using this T []
end Sh
end
section
namespace Sa
open PySem PySem.Spec PyProof.Rows L2 Sw Ss Sn Sp Sh Sj Sf
variable {n i M:Nat}{g:Nat->Bool}{k:Int}{R:Sh.Row}{a:Str}{row at':D}{jw jM jN:Option U}{pl:List (D×D)}{T:AAJ}{ns:List Int}{bs:List Str}
structure Al (R:Sh.Row) (A B:D):Prop where
 a:Sz 7 [] 16 3 A
 b:Sz 7 [] 16 3 B
 e:∀i,i<=R.length->ev R iD A i=ev R iD B i
noncomputable abbrev T1 (z:Str) (p:D):D:=.tup [.str z,p]
noncomputable abbrev T2 (z:Str) (p q:D):D:=.tup [.str z,p,q]
noncomputable abbrev Vl:D:=.tup [.str "yes"]
noncomputable abbrev QW:D:=.tup [.str "no"]
noncomputable abbrev FQ:D:=.tup [.str "now",.tup [.str "any"]]
abbrev wD:D:=T1 "some" FQ
def Hy {f:Nat->Bool}:(!gQ n f)=gR n fun k=>!f k:=by
 unfold gQ gR
 rw[<-List.not_any_eq_all_not]
def QX {f:Nat->Bool}:(gR n fun k=>f k && g k)=(gR n f && gR n g):=by
 unfold gR
 generalize List.range n=l
 induction l with
 | nil=>rfl
 | cons x l ih=>rw[acg,acg,acg,ih];cases f x <;> cases g x <;> simp
def Vm {f:Nat->Bool}:(gQ n fun k=>f k || g k)=(gQ n f || gQ n g):=by
 unfold gQ
 generalize List.range n=l
 induction l with
 | nil=>rfl
 | cons x l ih=>rw[acm,acm,acm,ih];cases f x <;> cases g x <;> simp
def nT {f:Nat->Bool}(h:∀k,k < n->f k=g k):gQ n f=gQ n g:=by
 unfold gQ
 rw[adD,ac6,ac6]
 constructor
 ·rintro⟨k,hk,q⟩;exact⟨k,hk,by rw[<-h k (ab8.mp hk)];exact q⟩
 ·rintro⟨k,hk,q⟩;exact⟨k,hk,by rw[h k (ab8.mp hk)];exact q⟩
def se {f:Nat->Bool}(h:∀k,k < n->f k=g k):gR n f=gR n g:=by
 unfold gR
 rw[adD,aa9,aa9]
 constructor
 ·intro q k hk;rw[<-h k (ab8.mp hk)];exact q k hk
 ·intro q k hk;rw[h k (ab8.mp hk)];exact q k hk
def any_true :(gQ n fun a=>true)=decide (0 < n):=by
 cases n with
 | zero=>rfl
 | succ n=>unfold gQ;rw[aeM];simp
def NB (R:Sh.Row) (e:Ev) (i:Nat):ev R e FQ i=decide (i < R.length):=by
 rw[r9]
 by_cases h:i < R.length
 ·rw[aaD h,ab6 h];rfl
 ·rw[abe (by lia),aa6 h]
def D9 (R:Sh.Row) (e:Ev) (i:Nat):ev R e wD i=decide (i < R.length):=by
 rw[kH]
 have:(gQ (R.length - i) fun k=>ev R e FQ (i+k))=gQ (R.length - i) fun a=>true:=nT fun k hk=>by
  rw[NB,ab6 (by lia)]
 rw[this,any_true]
 by_cases h:i < R.length
 ·rw[ab6 h,ab6 (by lia)]
 ·rw[aa6 h,aa6 (by lia)]
section
variable {R:Sh.Row}{s r:D}(hs:Sz 3 [] 4 0 s) (hr:Sz 3 [] 4 0 r)
def Hz {z:Str}(hz:z="yes"\/z="no"):Sz 1 [] 1 0 (.tup [.str z]):=by
 refine⟨.leaf hz,?_,?_⟩
 ·rcases hz with rfl | rfl <;> decide
 ·rcases hz with rfl | rfl <;> decide
include hs hr in
def Vn (h0:0<=k) (h4:k<=4):∀p∈[(T1 "not" (T2 "both" s r),T2 "either" (T1 "not" s) (T1 "not" r)),(T1 "not" (T2 "either" s r),T2 "both" (T1 "not" s) (T1 "not" r)),(T1 "not" (T1 "next" s),T2 "either" (T1 "not" wD) (T1 "next" (T1 "not" s))),
  (T1 "some" s,T2 "till" Vl s),(T1 "always" s,T1 "not" (T1 "some" (T1 "not" s))),(T2 "till" QW s,T2 "both" FQ s),(T2 "both" (T2 "till" s r) QW,QW),(.tup [.str "within",.int (k+1),s],T2 "either" (T2 "both" wD s) (T1 "next" (.tup [.str "within",.int k,s]))),
  (T1 "always" (T2 "both" s r),T2 "both" (T1 "always" s) (T1 "always" r)),(T1 "some" (T2 "either" s r),T2 "either" (T1 "some" s) (T1 "some" r)),(T1 "not" (T1 "not" s),s),(.tup [.str "within",.int 0,s],QW)],Al R p.1 p.2:=by
 have up:∀{n sz b:Nat}{d:D},Sz n [] sz b d->n<=7->sz<=16->b<=3->Sz 7 [] 16 3 d:=fun h a b c=>(h.up a).le b c
 have s4:Sz 3 [] 1 0 QW:=(Hz (.inr rfl)).up (by decide)
 have y4:Sz 3 [] 1 0 Vl:=(Hz (.inl rfl)).up (by decide)
 have an:Sz 3 [] 1 0 FQ:=Sz.any
 have sa:Sz 4 [] 2 0 wD:=Sz.one (by decide) an
 have ns:Sz 4 [] 5 0 (T1 "not" s):=Sz.one (by decide) hs
 have nr:Sz 4 [] 5 0 (T1 "not" r):=Sz.one (by decide) hr
 intro p hp
 simp only[aaA,abb,ac7] at hp
 rcases hp with rfl | rfl | rfl | rfl | rfl | rfl | rfl | rfl | rfl | rfl | rfl | rfl
 ·refine⟨up (Sz.one (by decide) (Sz.two (by decide) hs hr)) (by decide) (by decide) (by decide),up (Sz.two (by decide) ns nr) (by decide) (by decide) (by decide),fun i hi=>?_⟩
  show ev R iD (.tup [.str "not",.tup [.str "both",s,r]]) i=ev R iD (.tup [.str "either",.tup [.str "not",s],.tup [.str "not",r]]) i
  rw[fX,jh,gn,fX,fX,Bool.not_and]
 ·refine⟨up (Sz.one (by decide) (Sz.two (by decide) hs hr)) (by decide) (by decide) (by decide),up (Sz.two (by decide) ns nr) (by decide) (by decide) (by decide),fun i hi=>?_⟩
  show ev R iD (.tup [.str "not",.tup [.str "either",s,r]]) i=ev R iD (.tup [.str "both",.tup [.str "not",s],.tup [.str "not",r]]) i
  rw[fX,jh,gn,fX,fX,Bool.not_or]
 ·refine⟨up (Sz.one (by decide) (Sz.one (by decide) hs)) (by decide) (by decide) (by decide),up (Sz.two (by decide) (Sz.one (by decide) sa) (Sz.one (by decide) ns)) (by decide) (by decide) (by decide),fun i hi=>?_⟩
  show ev R iD (.tup [.str "not",.tup [.str "next",s]]) i=ev R iD (.tup [.str "either",.tup [.str "not",wD],.tup [.str "next",.tup [.str "not",s]]]) i
  rw[fX,nP,gn,fX,nP,fX,D9]
  cases decide (i < R.length) <;> simp
 ·refine⟨up (Sz.one (by decide) hs) (by decide) (by decide) (by decide),up (Sz.two (by decide) y4 hs) (by decide) (by decide) (by decide),fun i hi=>?_⟩
  show ev R iD (.tup [.str "some",s]) i=ev R iD (.tup [.str "till",.tup [.str "yes"],s]) i
  rw[kH,nQ]
  congr 1
  funext k
  have:(gR k fun j=>ev R iD (.tup [.str "yes"]) (i+j))=true:=by
   unfold gR;rw[aa9];intro j _;rw[nO];decide
  rw[this,afo]
 ·refine⟨up (Sz.one (by decide) hs) (by decide) (by decide) (by decide),up (Sz.one (by decide) (Sz.one (by decide) ns)) (by decide) (by decide) (by decide),fun i hi=>?_⟩
  show ev R iD (.tup [.str "always",s]) i=ev R iD (.tup [.str "not",.tup [.str "some",.tup [.str "not",s]]]) i
  rw[iY,fX,kH,Hy]
  congr 1
  funext k
  rw[fX,aeO]
 ·refine⟨up (Sz.two (by decide) s4 hs) (by decide) (by decide) (by decide),up (Sz.two (by decide) an hs) (by decide) (by decide) (by decide),fun i hi=>?_⟩
  show ev R iD (.tup [.str "till",.tup [.str "no"],s]) i=ev R iD (.tup [.str "both",FQ,s]) i
  rw[jh,NB]
  by_cases h:i < R.length
  ·rw[QB h,nO,ab6 h]
   have:decide (("no":Str)="yes")=false:=by decide
   rw[this];simp
  ·have:i=R.length:=by lia
   rw[this,QD,aa6 (by lia)];rfl
 ·refine⟨up (Sz.two (by decide) (Sz.two (by decide) hs hr) (s4.up (by decide))) (by decide) (by decide) (by decide),up s4 (by decide) (by decide) (by decide),fun i hi=>?_⟩
  show ev R iD (.tup [.str "both",.tup [.str "till",s,r],.tup [.str "no"]]) i=ev R iD (.tup [.str "no"]) i
  rw[jh,nO]
  have:decide (("no":Str)="yes")=false:=by decide
  rw[this,aek]
 ·refine⟨up (Sz.xB (by lia) (by lia) hs) (by decide) (by decide) (by decide),up (Sz.two (by decide) (Sz.two (by decide) sa (hs.up (by decide))) (Sz.one (by decide) (Sz.xB h0 (by lia) hs))) (by decide) (by decide) (by decide),fun i hi=>?_⟩
  show ev R iD (.tup [.str "within",.int (k+1),s]) i=ev R iD (.tup [.str "either",.tup [.str "both",wD,s],.tup [.str "next",.tup [.str "within",.int k,s]]]) i
  rw[gn,jh,D9]
  by_cases h:i < R.length
  ·rw[Jt h (by lia),QA h,ab6 h,Bool.true_and]
   have e:k+1 - 1=k:=by lia
   rw[e]
  ·have:i=R.length:=by lia
   rw[this,Ju,QC,aa6 (by lia)];rfl
 ·refine⟨up (Sz.one (by decide) (Sz.two (by decide) hs hr)) (by decide) (by decide) (by decide),up (Sz.two (by decide) (Sz.one (z:="always") (by decide) hs) (Sz.one (z:="always") (by decide) hr)) (by decide) (by decide) (by decide),fun i hi=>?_⟩
  show ev R iD (.tup [.str "always",.tup [.str "both",s,r]]) i=ev R iD (.tup [.str "both",.tup [.str "always",s],.tup [.str "always",r]]) i
  rw[iY,jh,iY,iY,<-QX]
  congr 1
  funext k
  rw[jh]
 ·refine⟨up (Sz.one (by decide) (Sz.two (by decide) hs hr)) (by decide) (by decide) (by decide),up (Sz.two (by decide) (Sz.one (z:="some") (by decide) hs) (Sz.one (z:="some") (by decide) hr)) (by decide) (by decide) (by decide),fun i hi=>?_⟩
  show ev R iD (.tup [.str "some",.tup [.str "either",s,r]]) i=ev R iD (.tup [.str "either",.tup [.str "some",s],.tup [.str "some",r]]) i
  rw[kH,gn,kH,kH,<-Vm]
  congr 1
  funext k
  rw[gn]
 ·refine⟨up (Sz.one (by decide) ns) (by decide) (by decide) (by decide),up hs (by decide) (by decide) (by decide),fun i hi=>?_⟩
  show ev R iD (.tup [.str "not",.tup [.str "not",s]]) i=ev R iD s i
  rw[fX,fX,aeO]
 ·refine⟨up (Sz.xB (by decide) (by decide) hs) (by decide) (by decide) (by decide),up s4 (by decide) (by decide) (by decide),fun i hi=>?_⟩
  show ev R iD (.tup [.str "within",.int 0,s]) i=ev R iD (.tup [.str "no"]) i
  rw[FG,nO]
  decide
end
def HA {t:D}(ha:nameB (.str a)=true) (ht:Sz 3 ["x"] 3 0 t):Al R (.tup [.str "each",.str a,.str "x",t]) (T1 "not" (.tup [.str "one",.str a,.str "x",T1 "not" t])):=by
 have hx:nameB (.str "x")=true:=by decide +kernel
 refine⟨((Sz.bnd (bs:=[]) (.inl rfl) ha hx ht).up (by decide)).le (by decide) (by decide),((Sz.one (z:="not") (by decide) (Sz.bnd (bs:=[]) (.inr rfl) ha hx (Sz.one (z:="not") (by decide) ht))).up (by decide)).le (by decide) (by decide),fun i hi=>?_⟩
 show ev R iD (.tup [.str "each",.str a,.str "x",t]) i=ev R iD (.tup [.str "not",.tup [.str "one",.str a,.str "x",.tup [.str "not",t]]]) i
 rw[ud,fX,Cc,Hy]
 congr 1
 funext k
 cases R[i+k]? with
 | none=>rfl
 | some h=>
  by_cases c:h.1=a
  ·simp only[if_pos c,fX,aeO]
  ·simp only[if_neg c];rfl
def NC (n:Nat) (t:D) (a:Str) (m:Int):D:=T1 "always" (T2 "either" (T1 "not" (T2 "both" (T1 "now" (.tup [.str "name",.str a])) (T1 "now" (.tup [.str "same",.int m])))) (iC n ["x"] (.int m) t))
def Vo {t:D}{m:Int}(ha:nameB (.str a)=true) (ht:Sz 3 ["x"] 3 0 t) (h0:0<=m) (h9:m<=9):Sz 7 [] 16 3 (NC 3 t a m):=by
 have l1:Sz 1 [] 1 0 (T1 "now" (.tup [.str "name",.str a])):=⟨.now (.name ha),aef rfl,aef rfl⟩
 have l2:Sz 1 [] 1 0 (T1 "now" (.tup [.str "same",.int m])):=⟨.now (.num (by decide) h0 h9),aef rfl,aef rfl⟩
 have q:=Sz.one (z:="always") (by decide) (Sz.two (z:="either") (by decide) (Sz.one (z:="not") (by decide) (Sz.two (z:="both") (by decide) l1 l2)) (ht.put h0 h9))
 exact(q.up (by decide)).le (by decide) (by decide)
def ND {t:D}{m:Int}(ht:Sz 3 ["x"] 3 0 t):ev R iD (NC 3 t a m) i=gR (R.length - i) fun k=>match R[i+k]? with | some h=>(!(decide (h.1=a) && decide (h.2=m)) || ev R (u6 iD "x" m) t (i+k)) | none=>true:=by
 show ev R iD (.tup [.str "always",.tup [.str "either",.tup [.str "not",.tup [.str "both",.tup [.str "now",.tup [.str "name",.str a]],.tup [.str "now",.tup [.str "same",.int m]]]],iC 3 ["x"] (.int m) t]]) i=_
 rw[iY]
 refine se fun k hk=>?_
 have hi:i+k < R.length:=by lia
 rw[gn,fX,jh,r9,r9,MJ R ht.sy,aaD hi]
 simp only[ue,lY _ _ (by decide:("same":Str)≠"name")]
 rw[if_neg (by decide),if_pos trivial]
 rfl
def NF {t:D}(ht:Sz 3 ["x"] 3 0 t) (hR:∀h∈R,h.1=a->0<=h.2/\h.2<=(M:Int)):
  ev R iD (.tup [.str "each",.str a,.str "x",t]) i=(List.range (M+1)).all fun m=>ev R iD (NC 3 t a (m:Int)) i:=by
 rw[adD,ud,aa9]
 unfold gR
 rw[aa9]
 constructor
 ·intro h m hm
  rw[ND ht]
  unfold gR
  rw[aa9]
  intro k hk
  have q:=h k hk
  cases e:R[i+k]? with
  | none=>rfl
  | some x=>
   rw[e] at q
   simp only at q ⊢
   by_cases c:x.1=a
   ·rw[if_pos c] at q
    by_cases c2:x.2=m
    ·rw[<-c2,q];simp
    ·simp[c2]
   ·simp[c]
 ·intro h k hk
  cases e:R[i+k]? with
  | none=>rfl
  | some x=>
   simp only
   by_cases c:x.1=a
   ·rw[if_pos c]
    obtain⟨x0,xM⟩:=hR x (ab3 e) c
    have q:=h x.2.toNat (ab8.mpr (by lia))
    rw[ND ht] at q
    unfold gR at q
    rw[aa9] at q
    have q:=q k hk
    rw[e] at q
    have hx:((x.2.toNat:Nat):Int)=x.2:=by lia
    simp only[hx,c,decide_true,Bool.and_self,afK,Bool.false_or] at q
    exact q
   ·rw[if_neg c]
def gg (lq:FM):GS:=
 (aQ (bX 3 (eP bw (aa (eC (.str "both")) (aa (eF (eP bw (aa (eC (.str "now")) (aa (eF (eP bw (aa (eC (.str "name")) (aa (eF (aj 1)) aq)))) aq)))) (aa (eF (eP bw (aa (eC (.str "now")) (aa (eF (eP bw (aa (eC (.str "same")) (aa (eF (aj 2)) aq)))) aq)))) aq)))))
 (bT (eP bw (aa (eC (.str "always")) (aa (eF (eP bw (aa (eC (.str "either")) (aa (eF (eP bw (aa (eC (.str "not")) (aa (eF (aj 3)) aq)))) (aa (eF (aO lq (aH (eF (aj 0)) (aH (eC (.str "x")) (aH (eF (aj 2)) aT))))) aq))))) aq)))))
def nX:GS:=
 (aQ (bX 3 (eP bw (aa (eC (.str "some")) (aa (eF (eP bw (aa (eC (.str "now")) (aa (eF (eP bw (aa (eC (.str "any")) aq))) aq)))) aq))))
 (aQ (bX 4 (eP j9 (aa (eF (eP bw (aa (eF (eP bw (aa (eC (.str "not")) (aa (eF (eP bw (aa (eC (.str "both")) (aa (eF (aj 0)) (aa (eF (aj 1)) aq))))) aq)))) (aa (eF (eP bw (aa (eC (.str "either")) (aa (eF (eP bw (aa (eC (.str "not")) (aa (eF (aj 0)) aq)))) (aa (eF (eP bw (aa (eC (.str "not")) (aa (eF (aj 1)) aq)))) aq))))) aq)))) aq)))
 (aQ (fT (eT (eM 4 hAppend (aa (eF (eP bw (aa (eF (eP bw (aa (eC (.str "not")) (aa (eF (eP bw (aa (eC (.str "either")) (aa (eF (aj 0)) (aa (eF (aj 1)) aq))))) aq)))) (aa (eF (eP bw (aa (eC (.str "both")) (aa (eF (eP bw (aa (eC (.str "not")) (aa (eF (aj 0)) aq)))) (aa (eF (eP bw (aa (eC (.str "not")) (aa (eF (aj 1)) aq)))) aq))))) aq)))) aq))))
 (aQ (fT (eT (eM 4 hAppend (aa (eF (eP bw (aa (eF (eP bw (aa (eC (.str "not")) (aa (eF (eP bw (aa (eC (.str "next")) (aa (eF (aj 0)) aq)))) aq)))) (aa (eF (eP bw (aa (eC (.str "either")) (aa (eF (eP bw (aa (eC (.str "not")) (aa (eF (aj 3)) aq)))) (aa (eF (eP bw (aa (eC (.str "next")) (aa (eF (eP bw (aa (eC (.str "not")) (aa (eF (aj 0)) aq)))) aq)))) aq))))) aq)))) aq))))
 (aQ (fT (eT (eM 4 hAppend (aa (eF (eP bw (aa (eF (eP bw (aa (eC (.str "some")) (aa (eF (aj 0)) aq)))) (aa (eF (eP bw (aa (eC (.str "till")) (aa (eF (eP bw (aa (eC (.str "yes")) aq))) (aa (eF (aj 0)) aq))))) aq)))) aq))))
 (aQ (fT (eT (eM 4 hAppend (aa (eF (eP bw (aa (eF (eP bw (aa (eC (.str "always")) (aa (eF (aj 0)) aq)))) (aa (eF (eP bw (aa (eC (.str "not")) (aa (eF (eP bw (aa (eC (.str "some")) (aa (eF (eP bw (aa (eC (.str "not")) (aa (eF (aj 0)) aq)))) aq)))) aq)))) aq)))) aq))))
 (aQ (fT (eT (eM 4 hAppend (aa (eF (eP bw (aa (eF (eP bw (aa (eC (.str "till")) (aa (eF (eP bw (aa (eC (.str "no")) aq))) (aa (eF (aj 0)) aq))))) (aa (eF (eP bw (aa (eC (.str "both")) (aa (eF (eP bw (aa (eC (.str "now")) (aa (eF (eP bw (aa (eC (.str "any")) aq))) aq)))) (aa (eF (aj 0)) aq))))) aq)))) aq))))
 (aQ (fT (eT (eM 4 hAppend (aa (eF (eP bw (aa (eF (eP bw (aa (eC (.str "both")) (aa (eF (eP bw (aa (eC (.str "till")) (aa (eF (aj 0)) (aa (eF (aj 1)) aq))))) (aa (eF (eP bw (aa (eC (.str "no")) aq))) aq))))) (aa (eF (eP bw (aa (eC (.str "no")) aq))) aq)))) aq))))
 (aQ (fT (eT (eM 4 hAppend (aa (eF (eP bw (aa (eF (eP bw (aa (eC (.str "within")) (aa (eF (eP cH (aa (eF (aj 2)) (aa (eC (.int 1)) aq)))) (aa (eF (aj 0)) aq))))) (aa (eF (eP bw (aa (eC (.str "either")) (aa (eF (eP bw (aa (eC (.str "both")) (aa (eF (aj 3)) (aa (eF (aj 0)) aq))))) (aa (eF (eP bw (aa (eC (.str "next")) (aa (eF (eP bw (aa (eC (.str "within")) (aa (eF (aj 2)) (aa (eF (aj 0)) aq))))) aq)))) aq))))) aq)))) aq))))
 (aQ (fT (eT (eM 4 hAppend (aa (eF (eP bw (aa (eF (eP bw (aa (eC (.str "always")) (aa (eF (eP bw (aa (eC (.str "both")) (aa (eF (aj 0)) (aa (eF (aj 1)) aq))))) aq)))) (aa (eF (eP bw (aa (eC (.str "both")) (aa (eF (eP bw (aa (eC (.str "always")) (aa (eF (aj 0)) aq)))) (aa (eF (eP bw (aa (eC (.str "always")) (aa (eF (aj 1)) aq)))) aq))))) aq)))) aq))))
 (aQ (fT (eT (eM 4 hAppend (aa (eF (eP bw (aa (eF (eP bw (aa (eC (.str "some")) (aa (eF (eP bw (aa (eC (.str "either")) (aa (eF (aj 0)) (aa (eF (aj 1)) aq))))) aq)))) (aa (eF (eP bw (aa (eC (.str "either")) (aa (eF (eP bw (aa (eC (.str "some")) (aa (eF (aj 0)) aq)))) (aa (eF (eP bw (aa (eC (.str "some")) (aa (eF (aj 1)) aq)))) aq))))) aq)))) aq))))
 (aQ (fT (eT (eM 4 hAppend (aa (eF (eP bw (aa (eF (eP bw (aa (eC (.str "not")) (aa (eF (eP bw (aa (eC (.str "not")) (aa (eF (aj 0)) aq)))) aq)))) (aa (eF (aj 0)) aq)))) aq))))
 (aQ (fT (eT (eM 4 hAppend (aa (eF (eP bw (aa (eF (eP bw (aa (eC (.str "within")) (aa (eC (.int 0)) (aa (eF (aj 0)) aq))))) (aa (eF (eP bw (aa (eC (.str "no")) aq))) aq)))) aq))))
 (bT (aj 4)))))))))))))))
def FT:FM:=aK 4 (gg (d8 9))
def QY:∀us r,FT us=some r->aK 4 (gg (d8 9)) us=some r:=fun a a h=>h
def FU:FM:=aK 5 nX
def QZ:∀us r,FU us=some r->aK 5 nX us=some r:=fun a a h=>h
def YE {f:FM}{t p:D}{m:Int}(e:f [.t t,.t (.str "x"),.t (.int m)]=some (.t p,[])):aK 4 (gg f) [.t t,.t (.str a),.t (.int m)]=some (.t (T1 "always" (T2 "either" (T1 "not" (T2 "both" (T1 "now" (.tup [.str "name",.str a])) (T1 "now" (.tup [.str "same",.int m])))) p)),[]):=by
 simp[aK,gg,e,aL]
def Vp {t:D}{m:Int}(ht:Sz 3 ["x"] 3 0 t):FT [.t t,.t (.str a),.t (.int m)]=some (.t (NC 3 t a m),[]):=
 YE (Ho ht.sy "x" (.int m) (j:=9) (by decide))
def prL (s r:D) (k:Int):List (D×D):=[(T1 "not" (T2 "both" s r),T2 "either" (T1 "not" s) (T1 "not" r)),(T1 "not" (T2 "either" s r),T2 "both" (T1 "not" s) (T1 "not" r)),(T1 "not" (T1 "next" s),T2 "either" (T1 "not" wD) (T1 "next" (T1 "not" s))),
  (T1 "some" s,T2 "till" Vl s),(T1 "always" s,T1 "not" (T1 "some" (T1 "not" s))),(T2 "till" QW s,T2 "both" FQ s),(T2 "both" (T2 "till" s r) QW,QW),(.tup [.str "within",.int (k+1),s],T2 "either" (T2 "both" wD s) (T1 "next" (.tup [.str "within",.int k,s]))),
  (T1 "always" (T2 "both" s r),T2 "both" (T1 "always" s) (T1 "always" r)),(T1 "some" (T2 "either" s r),T2 "either" (T1 "some" s) (T1 "some" r)),(T1 "not" (T1 "not" s),s),(.tup [.str "within",.int 0,s],QW)]
noncomputable def oB (p:D×D):D:=.tup [p.1,p.2]
def Vq (s r:D) (k:Int):FU [.t s,.t r,.t (.int k)]=some (.m (.lst ((prL s r k).map oB)),[]):=by
 kernel_rfl
def vn (bh:FM) (aX:FM) (bx:FM) (aD:FM) (au:FM) (aY:FM) (b9:FM) (aU:FM) (cC:FM) (aM:FM):GS:=
 (aQ (bX 16 (aO b9 (aH (eF (aj 14)) (aH (eF (aj 5)) (aH (eF (aj 13)) aT)))))
 (i8 (C6 (qB (eF (eP Tp (aa (eF (aj 16)) (aa (eF (aO b9 (aH (eF (aj 15)) (aH (eF (aj 5)) (aH (eF (aj 13)) aT))))) aq))))) (qB (eF (eP Tp (aa (eF (aj 16)) (aa (eF (aO b9 (aH (eF (aO aU (aH (eF (aO cC (aH (eF (aj 14)) aT))) aT))) (aH (eF (aj 5)) (aH (eF (aj 13)) aT))))) aq)))))) (bT (eT (eC (.bl false)))) c8))
def vo (bh:FM) (aX:FM) (bx:FM) (aD:FM) (au:FM) (aY:FM) (b9:FM) (aU:FM) (cC:FM) (aM:FM):GS:=
 (aQ (rR (oH 2 (eG (bName 14) (eG (bName 15) o9))) (BJ (eF (aj 12))) (vn bh aX bx aD au aY b9 aU cC aM))
 (aQ (bX 17 (jy [13,10,5,9] (jx (aa (eF (eP cH (aa (eF (aj 11)) (aa (eC (.int 1)) aq)))) aq)) cF (eF (aO b9 (aH (eF (aO aM (aH (eF (aj 4)) (aH (eF (aj 2)) (aH (eF (aj 0)) aT))))) (aH (eF (aj 3)) (aH (eF (aj 1)) aT)))))))
 (i8 (qB (eF (eP Tp (aa (eF (aO b9 (aH (eF (eP bw (aa (eC (.str "each")) (aa (eF (aj 10)) (aa (eC (.str "x")) (aa (eF (aj 9)) aq)))))) (aH (eF (aj 5)) (aH (eF (aj 13)) aT))))) (aa (eF (eP EX (aa (eC (.bl false)) (aa (eF (aj 17)) aq)))) aq))))) (bT (eT (eC (.bl false)))) c8)))
def vp (bh:FM) (aX:FM) (bx:FM) (aD:FM) (au:FM) (aY:FM) (b9:FM) (aU:FM) (cC:FM) (aM:FM):GS:=
 (aQ (bX 2 (aO bh (cg (aj 0) (aH (eF (aj 1)) aT))))
 (aQ (bX 3 (aO aX (cg (aj 2) aT)))
 (aQ (bX 4 (kX [] (BJ (eF (aj 3))) cF (eF (aj 0))))
 (aQ (bX 5 (aO bx (cg (aj 2) (aH (eF (aj 3)) (aH (eC (.int 5)) aT)))))
 (aQ (bX 6 (v7 [("names",(eF (eP cH (aa (eF (aj 4)) (aa (eF (eP j9 (aa (eC (.str "strange")) aq))) aq))))),("binders",(eC (.int 3)))]))
 (aQ (bX 7 (aO aD (cg (aj 2) (cg (aj 6) (aH (eF (eP bw aq)) (aH (eF (eP cH (aa (eC (.int 1)) (aa (eF (aO au (cg (aj 2) (aH (eC (.int 4)) aT)))) aq)))) (aH (eF (eP cH (aa (eC (.int 1)) (aa (eF (aO au (cg (aj 2) (aH (eC (.int 3)) aT)))) aq)))) aT)))))))
 (aQ (bX 8 (aO aD (cg (aj 2) (cg (aj 6) (aH (eF (eP bw aq)) (aH (eF (eP cH (aa (eC (.int 1)) (aa (eF (aO au (cg (aj 2) (aH (eC (.int 4)) aT)))) aq)))) (aH (eF (eP cH (aa (eC (.int 1)) (aa (eF (aO au (cg (aj 2) (aH (eC (.int 3)) aT)))) aq)))) aT)))))))
 (aQ (bX 9 (aO aD (cg (aj 2) (cg (aj 6) (aH (eF (eP bw (aa (eC (.str "x")) aq))) (aH (eF (eP cH (aa (eC (.int 1)) (aa (eF (aO au (cg (aj 2) (aH (eC (.int 3)) aT)))) aq)))) (aH (eF (eP cH (aa (eC (.int 1)) (aa (eF (aO au (cg (aj 2) (aH (eC (.int 3)) aT)))) aq)))) aT)))))))
 (aQ (Lp (oH 2 (eG (bName 10) (eG (bName 11) o9))) (cD 3 (eF (aO au (cg (aj 2) (aH (jd 3) aT))))))
 (aQ (bX 12 (aO aY (aH (eF (aj 7)) (aH (eF (aj 8)) (aH (eF (aO au (cg (aj 2) (aH (eC (.int 5)) aT)))) aT)))))
 (aQ (fT (eT (eM 12 hAppend (aa (eF (eP bw (aa (eF (eP bw (aa (eC (.str "each")) (aa (eF (aj 10)) (aa (eC (.str "x")) (aa (eF (aj 9)) aq)))))) (aa (eF (eP bw (aa (eC (.str "not")) (aa (eF (eP bw (aa (eC (.str "one")) (aa (eF (aj 10)) (aa (eC (.str "x")) (aa (eF (eP bw (aa (eC (.str "not")) (aa (eF (aj 9)) aq)))) aq)))))) aq)))) aq)))) aq))))
 (rR (bName 13) (jx (aa (eF (eP cH (aa (jd 5) (aa (eC (.int 1)) aq)))) aq)) (vo bh aX bx aD au aY b9 aU cC aM)))))))))))))
def HB (bh:FM) (aX:FM) (bx:FM) (aD:FM) (au:FM) (aY:FM) (b9:FM) (aU:FM) (cC:FM) (aM:FM):GS:=
 (aQ (rR (bName 1) (jx (aa (eF (eP cH (aa (eC (.int 1)) (aa (eF (eP yh (aa (eF (LG 0 none (some (eC (.int 1))))) aq))) aq)))) aq)) (vp bh aX bx aD au aY b9 aU cC aM))
 (bT (eT (eC (.bl true)))))
section
variable {f1 f2 f3 f4 f5 f6 f7 f8 f9 vq:FM}{z0 z1 z2 z3 z4 z6 z7 z8 z9 Wj Q0 Q2 NG:Option U}
def Vr {one other:D}{w:Str}{b:Bool}(Oc:fB jw=false) (e1:f7 [.t one,.t row,.t at']=some (.t (.bl b),[])) (e2:f7 [.t other,.t row,.t at']=some (.t (.bl b),[])) (e3:f9 [.t one]=some (.t (.str w),[])) (e4:f8 [.t (.str w)]=some (.t one,[])):
  vn f1 f2 f3 f4 f5 f6 f7 f8 f9 vq [z0,z1,z2,z3,z4,AAA row,z6,z7,z8,z9,Wj,Q0,Q2,AAA at',AAA one,AAA other,jw,NG]=some (.nx [z0,z1,z2,z3,z4,AAA row,z6,z7,z8,z9,Wj,Q0,Q2,AAA at',AAA one,AAA other,AAA (.bl b),NG]):=by
 have q:nI (.bl b) (.bl b)=true:=mT _
 simp[-eZ,dh,vn,e1,e2,e3,e4,Oc,q]
def Q3 (P:List (D×D))(RU:fB jM=false) (JV:fB jN=false) (Oc:fB jw=false)
  (hP:∀p∈P,∃(b:Bool) (w:Str),f7 [.t p.1,.t row,.t at']=some (.t (.bl b),[])/\f7 [.t p.2,.t row,.t at']=some (.t (.bl b),[])/\f9 [.t p.1]=some (.t (.str w),[])/\f8 [.t (.str w)]=some (.t p.1,[])):
  ∃qT qU qV,fB qT=false/\fB qU=false/\fB qV=false/\loop (oH 2 (eG (bName 14) (eG (bName 15) o9))) (vn f1 f2 f3 f4 f5 f6 f7 f8 f9 vq) (P.map oB) [z0,z1,z2,z3,z4,AAA row,z6,z7,z8,z9,Wj,Q0,Q2,AAA at',jM,jN,jw,NG]=some (.nx [z0,z1,z2,z3,z4,AAA row,z6,z7,z8,z9,Wj,Q0,Q2,AAA at',qT,qU,qV,NG]):=by
 obtain⟨S',e,qT,qU,qV,NH,NI,NJ,rfl⟩:=tY (bd:=oH 2 (eG (bName 14) (eG (bName 15) o9))) (body:=vn f1 f2 f3 f4 f5 f6 f7 f8 f9 vq) (P.map oB)
  (fun j S=>∃qT qU qV,fB qT=false/\fB qU=false/\fB qV=false/\S=[z0,z1,z2,z3,z4,AAA row,z6,z7,z8,z9,Wj,Q0,Q2,AAA at',qT,qU,qV,NG])
  _ ⟨jM,jN,jw,RU,JV,Oc,rfl⟩ (by
   rintro j d S hd ⟨qT,qU,qV,NH,NI,NJ,rfl⟩
   rw[aaO] at hd
   cases hp:P[j]? with
   | none=>rw[hp] at hd;cases hd
   | some p=>
    rw[hp] at hd
    cases hd
    obtain⟨b,w,e1,e2,e3,e4⟩:=hP p (ab3 hp)
    refine⟨_,_,?_,Vr NJ e1 e2 e3 e4,AAA p.1,AAA p.2,AAA (.bl b),rfl,rfl,rfl,rfl⟩
    simp[-eZ,dh,NH,NI,oB])
 exact⟨qT,qU,qV,NH,NI,NJ,e⟩
abbrev ptG (f7 vq:FM):GD:=eF (aO f7 (aH (eF (aO vq (aH (eF (aj 4)) (aH (eF (aj 2)) (aH (eF (aj 0)) aT))))) (aH (eF (aj 3)) (aH (eF (aj 1)) aT))))
theorem HC {row t nm at':D}{P:Nat->Bool}{jM jN jw:Option U}:∀(l:List Nat) (acc:List D),(∀m∈l,∃q,vq [.t t,.t nm,.t (.int (m:Nat))]=some (.t q,[])/\f7 [.t q,.t row,.t at']=some (.t (.bl (P m)),[]))->
  dj [13,10,5,9] cF (ptG f7 vq) (l.map fun(m:Nat)=>D.int (m:Int)) [z0,z1,z2,z3,z4,AAA row,z6,z7,z8,AAA t,AAA nm,Q0,Q2,AAA at',jM,jN,jw,NG] acc=some (acc++l.map fun m=>D.bl (P m),[z0,z1,z2,z3,z4,AAA row,z6,z7,z8,AAA t,AAA nm,Q0,Q2,AAA at',jM,jN,jw,NG])
 | [],acc,_=>by simp[dj]
 | m :: l,acc,h=>by
  obtain⟨q,e1,e2⟩:=h m aaR
  have ih:=HC (row:=row) (t:=t) (nm:=nm) (at':=at') (P:=P) (jM:=jM) (jN:=jN) (jw:=jw) l (acc++[.bl (P m)]) fun k hk=>h k (aaP _ hk)
  rw[adY,List.singleton_append,<-aaQ (f:=fun m=>D.bl (P m))] at ih
  rw[aaQ]
  generalize (l.map fun(m:Nat)=>D.int (m:Int))=il at *
  generalize (m :: l).map (fun m=>D.bl (P m))=rl at *
  generalize ((m:Nat):Int)=mm at *
  simp[dj,dg,yj,e1,e2,aL]
  exact ih
theorem Ea {P:Nat->Bool}:∀l:List Nat,inD (.bl false) (l.map fun m=>D.bl (P m))=!(l.all P)
 | []=>rfl
 | m :: l=>by
  have ih:=Ea (P:=P) l
  unfold inD at *
  rw[aaQ,acm,ih,acg,PF]
  cases P m <;> simp
theorem HD {P:Nat->Bool}:∀l:List Nat,cP (l.map fun m=>D.bl (P m))=0
 | []=>by kernel_rfl
 | m :: l=>by
  rw[aaQ]
  simp[cP,HD l]
def Q4 {t nm:D}{P:Nat->Bool}{oK j3:Option U}(h12:oK=AAA (.lst (pl.map oB))\/oK=AAB (pl.map oB)) (hM:M<=10) (RU:fB jM=false) (JV:fB jN=false) (Oc:fB jw=false) (Wl:fB j3=false)
  (hP:∀p∈pl,∃(b:Bool) (w:Str),f7 [.t p.1,.t row,.t at']=some (.t (.bl b),[])/\f7 [.t p.2,.t row,.t at']=some (.t (.bl b),[])/\f9 [.t p.1]=some (.t (.str w),[])/\f8 [.t (.str w)]=some (.t p.1,[]))
  (hn:∀m,m < M+1->∃q,vq [.t t,.t nm,.t (.int (m:Nat))]=some (.t q,[])/\f7 [.t q,.t row,.t at']=some (.t (.bl (P m)),[]))
  (he:f7 [.t (.tup [.str "each",nm,.str "x",t]),.t row,.t at']=some (.t (.bl ((List.range (M+1)).all P)),[])) (hpl:pl.length < 1000):
  ∃qT qU qV FW,fB qT=false/\fB qU=false/\fB qV=false/\fB FW=false/\
  vo f1 f2 f3 f4 f5 f6 f7 f8 f9 vq [z0,z1,z2,z3,z4,AAA row,z6,z7,z8,AAA t,AAA nm,AAC (M:Nat),oK,AAA at',jM,jN,jw,j3]=some (.nx [z0,z1,z2,z3,z4,AAA row,z6,z7,z8,AAA t,AAA nm,AAC (M:Nat),AAA (.lst (pl.map oB)),AAA at',qT,qU,qV,FW]):=by
 obtain⟨qT,qU,qV,NH,NI,NJ,e1⟩:=Q3 (f1:=f1) (f2:=f2) (f3:=f3) (f4:=f4) (f5:=f5) (f6:=f6) (vq:=vq) (z0:=z0) (z1:=z1) (z2:=z2) (z3:=z3) (z4:=z4) (z6:=z6) (z7:=z7) (z8:=z8) (z9:=AAA t) (Wj:=AAA nm) (Q0:=AAC (M:Nat)) (Q2:=AAA (.lst (pl.map oB))) (NG:=j3) pl RU JV Oc hP
 have s0:(rR (oH 2 (eG (bName 14) (eG (bName 15) o9))) (BJ (eF (aj 12))) (vn f1 f2 f3 f4 f5 f6 f7 f8 f9 vq)) [z0,z1,z2,z3,z4,AAA row,z6,z7,z8,AAA t,AAA nm,AAC (M:Nat),oK,AAA at',jM,jN,jw,j3]=some (.nx [z0,z1,z2,z3,z4,AAA row,z6,z7,z8,AAA t,AAA nm,AAC (M:Nat),AAA (.lst (pl.map oB)),AAA at',qT,qU,qV,j3]):=by
  rw[uV]
  have:BJ (eF (aj 12)) [z0,z1,z2,z3,z4,AAA row,z6,z7,z8,AAA t,AAA nm,AAC (M:Nat),oK,AAA at',jM,jN,jw,j3]=some (pl.map oB,[z0,z1,z2,z3,z4,AAA row,z6,z7,z8,AAA t,AAA nm,AAC (M:Nat),AAA (.lst (pl.map oB)),AAA at',jM,jN,jw,j3]):=by rcases h12 with rfl | rfl <;> rfl
  rw[this]
  exact e1
 have ec:=HC (f7:=f7) (vq:=vq) (z0:=z0) (z1:=z1) (z2:=z2) (z3:=z3) (z4:=z4) (z6:=z6) (z7:=z7) (z8:=z8) (Q0:=AAC (M:Nat)) (Q2:=AAA (.lst (pl.map oB))) (NG:=j3) (row:=row) (t:=t) (nm:=nm) (at':=at') (P:=P) (jM:=qT) (jN:=qU) (jw:=qV) (List.range (M+1)) [] fun m hm=>hn m (ab8.mp hm)
 have er:((List.range (M+1)).map fun(m:Nat)=>D.int (m:Int))=oU 0 (M+1):=by
  unfold oU
  refine adN fun j a=>?_
  show _=D.int (0+(j:Int))
  rw[Int.zero_add]
 rw[er,adT] at ec
 have g:jx (aa (eF (eP cH (aa (eF (aj 11)) (aa (eC (.int 1)) aq)))) aq) [z0,z1,z2,z3,z4,AAA row,z6,z7,z8,AAA t,AAA nm,AAC (M:Nat),AAA (.lst (pl.map oB)),AAA at',qT,qU,qV,j3]=some (oU 0 (M+1),[z0,z1,z2,z3,z4,AAA row,z6,z7,z8,AAA t,AAA nm,AAC (M:Nat),AAA (.lst (pl.map oB)),AAA at',qT,qU,qV,j3]):=by
  have hb:M+1 < 1000000:=by lia
  have:=Sq.mZ (gA:=aa (eF (eP cH (aa (eF (aj 11)) (aa (eC (.int 1)) aq)))) aq) (S:=[z0,z1,z2,z3,z4,AAA row,z6,z7,z8,AAA t,AAA nm,AAC (M:Nat),AAA (.lst (pl.map oB)),AAA at',qT,qU,qV,j3]) (S':=[z0,z1,z2,z3,z4,AAA row,z6,z7,z8,AAA t,AAA nm,AAC (M:Nat),AAA (.lst (pl.map oB)),AAA at',qT,qU,qV,j3]) (j:=((M+1:Nat):Int)) (by
   generalize pl.map oB=pp
   have:((M+1:Nat):Int)=(M:Int)+1:=by lia
   rw[this]
   generalize (M:Int)=mm
   simp) (Int.ofNat_lt.mpr hb) (Sq.MB _)
  rw[adf] at this
  exact this
 have lr:(oU 0 (M+1)).length<=100000:=by rw[show(oU 0 (M+1)).length=M+1 from yW ..];lia
 have s1:(bX 17 (jy [13,10,5,9] (jx (aa (eF (eP cH (aa (eF (aj 11)) (aa (eC (.int 1)) aq)))) aq)) cF (ptG f7 vq))) [z0,z1,z2,z3,z4,AAA row,z6,z7,z8,AAA t,AAA nm,AAC (M:Nat),AAA (.lst (pl.map oB)),AAA at',qT,qU,qV,j3]=some (.nx [z0,z1,z2,z3,z4,AAA row,z6,z7,z8,AAA t,AAA nm,AAC (M:Nat),AAA (.lst (pl.map oB)),AAA at',qT,qU,qV,AAB ((List.range (M+1)).map fun m=>D.bl (P m))]):=by
  rw[TY,MA,g,aau]
  simp only[if_pos lr]
  rw[ec]
  simp[-eZ,dh,Wl]
 refine⟨qT,qU,qV,AAA (.lst ((List.range (M+1)).map fun m=>D.bl (P m))),NH,NI,NJ,rfl,?_⟩
 have i1:EX [.bl false,.lst ((List.range (M+1)).map fun m=>D.bl (P m))]=AAA (.bl ((List.range (M+1)).all P)):=by
  show(if _ then _ else _)=_
  rw[if_pos (by rw[HD];decide),Ea,aeO]
 have q:nI (.bl ((List.range (M+1)).all P)) (.bl ((List.range (M+1)).all P))=true:=mT _
 unfold vo
 rw[jL s0,jL s1]
 generalize pl.map oB=pp at *
 generalize ((List.range (M+1)).map fun m=>D.bl (P m))=bl at *
 generalize (List.range (M+1)).all P=ab at *
 simp[he,i1,q]
end
def vc0 (bh:FM) (aX:FM) (bx:FM) (aD:FM) (au:FM) (aY:FM) (b9:FM) (aU:FM) (cC:FM) (aM:FM):GS:=
 (bX 2 (aO bh (cg (aj 0) (aH (eF (aj 1)) aT))))
def vc1 (bh:FM) (aX:FM) (bx:FM) (aD:FM) (au:FM) (aY:FM) (b9:FM) (aU:FM) (cC:FM) (aM:FM):GS:=
 (bX 3 (aO aX (cg (aj 2) aT)))
def vc2 (bh:FM) (aX:FM) (bx:FM) (aD:FM) (au:FM) (aY:FM) (b9:FM) (aU:FM) (cC:FM) (aM:FM):GS:=
 (bX 4 (kX [] (BJ (eF (aj 3))) cF (eF (aj 0))))
def vc3 (bh:FM) (aX:FM) (bx:FM) (aD:FM) (au:FM) (aY:FM) (b9:FM) (aU:FM) (cC:FM) (aM:FM):GS:=
 (bX 5 (aO bx (cg (aj 2) (aH (eF (aj 3)) (aH (eC (.int 5)) aT)))))
def vc4 (bh:FM) (aX:FM) (bx:FM) (aD:FM) (au:FM) (aY:FM) (b9:FM) (aU:FM) (cC:FM) (aM:FM):GS:=
 (bX 6 (v7 [("names",(eF (eP cH (aa (eF (aj 4)) (aa (eF (eP j9 (aa (eC (.str "strange")) aq))) aq))))),("binders",(eC (.int 3)))]))
def vc5 (bh:FM) (aX:FM) (bx:FM) (aD:FM) (au:FM) (aY:FM) (b9:FM) (aU:FM) (cC:FM) (aM:FM):GS:=
 (bX 7 (aO aD (cg (aj 2) (cg (aj 6) (aH (eF (eP bw aq)) (aH (eF (eP cH (aa (eC (.int 1)) (aa (eF (aO au (cg (aj 2) (aH (eC (.int 4)) aT)))) aq)))) (aH (eF (eP cH (aa (eC (.int 1)) (aa (eF (aO au (cg (aj 2) (aH (eC (.int 3)) aT)))) aq)))) aT)))))))
def vc6 (bh:FM) (aX:FM) (bx:FM) (aD:FM) (au:FM) (aY:FM) (b9:FM) (aU:FM) (cC:FM) (aM:FM):GS:=
 (bX 8 (aO aD (cg (aj 2) (cg (aj 6) (aH (eF (eP bw aq)) (aH (eF (eP cH (aa (eC (.int 1)) (aa (eF (aO au (cg (aj 2) (aH (eC (.int 4)) aT)))) aq)))) (aH (eF (eP cH (aa (eC (.int 1)) (aa (eF (aO au (cg (aj 2) (aH (eC (.int 3)) aT)))) aq)))) aT)))))))
def vc7 (bh:FM) (aX:FM) (bx:FM) (aD:FM) (au:FM) (aY:FM) (b9:FM) (aU:FM) (cC:FM) (aM:FM):GS:=
 (bX 9 (aO aD (cg (aj 2) (cg (aj 6) (aH (eF (eP bw (aa (eC (.str "x")) aq))) (aH (eF (eP cH (aa (eC (.int 1)) (aa (eF (aO au (cg (aj 2) (aH (eC (.int 3)) aT)))) aq)))) (aH (eF (eP cH (aa (eC (.int 1)) (aa (eF (aO au (cg (aj 2) (aH (eC (.int 3)) aT)))) aq)))) aT)))))))
def vc8 (bh:FM) (aX:FM) (bx:FM) (aD:FM) (au:FM) (aY:FM) (b9:FM) (aU:FM) (cC:FM) (aM:FM):GS:=
 (Lp (oH 2 (eG (bName 10) (eG (bName 11) o9))) (cD 3 (eF (aO au (cg (aj 2) (aH (jd 3) aT))))))
def vc9 (bh:FM) (aX:FM) (bx:FM) (aD:FM) (au:FM) (aY:FM) (b9:FM) (aU:FM) (cC:FM) (aM:FM):GS:=
 (bX 12 (aO aY (aH (eF (aj 7)) (aH (eF (aj 8)) (aH (eF (aO au (cg (aj 2) (aH (eC (.int 5)) aT)))) aT)))))
def Vs (bh:FM) (aX:FM) (bx:FM) (aD:FM) (au:FM) (aY:FM) (b9:FM) (aU:FM) (cC:FM) (aM:FM):GS:=
 (fT (eT (eM 12 hAppend (aa (eF (eP bw (aa (eF (eP bw (aa (eC (.str "each")) (aa (eF (aj 10)) (aa (eC (.str "x")) (aa (eF (aj 9)) aq)))))) (aa (eF (eP bw (aa (eC (.str "not")) (aa (eF (eP bw (aa (eC (.str "one")) (aa (eF (aj 10)) (aa (eC (.str "x")) (aa (eF (eP bw (aa (eC (.str "not")) (aa (eF (aj 9)) aq)))) aq)))))) aq)))) aq)))) aq))))
def YF (bh:FM) (aX:FM) (bx:FM) (aD:FM) (au:FM) (aY:FM) (b9:FM) (aU:FM) (cC:FM) (aM:FM):GS:=
 (rR (bName 13) (jx (aa (eF (eP cH (aa (jd 5) (aa (eC (.int 1)) aq)))) aq)) (vo bh aX bx aD au aY b9 aU cC aM))
def YG (bh:FM) (aX:FM) (bx:FM) (aD:FM) (au:FM) (aY:FM) (b9:FM) (aU:FM) (cC:FM) (aM:FM):vp bh aX bx aD au aY b9 aU cC aM=aQ (vc0 bh aX bx aD au aY b9 aU cC aM) (aQ (vc1 bh aX bx aD au aY b9 aU cC aM) (aQ (vc2 bh aX bx aD au aY b9 aU cC aM) (aQ (vc3 bh aX bx aD au aY b9 aU cC aM) (aQ (vc4 bh aX bx aD au aY b9 aU cC aM) (aQ (vc5 bh aX bx aD au aY b9 aU cC aM) (aQ (vc6 bh aX bx aD au aY b9 aU cC aM) (aQ (vc7 bh aX bx aD au aY b9 aU cC aM) (aQ (vc8 bh aX bx aD au aY b9 aU cC aM) (aQ (vc9 bh aX bx aD au aY b9 aU cC aM) (aQ (Vs bh aX bx aD au aY b9 aU cC aM) (YF bh aX bx aD au aY b9 aU cC aM))))))))))):=rfl
def Ck (T:AAJ):rX T= .tup (T.map lM):=rfl
noncomputable def zo (T:AAJ):List Str:=T.map (·.1)++(["strange"]:List Str)
def Q5 (hT:∀q∈T,ZU q) (hl:T.length<=10):Fy (zo T) where
 ok:=fun z hz=>by
  rcases aaX.mp hz with h | h
  ·obtain⟨p,hp,rfl⟩:=adz.mp h
   exact wC _ (hT p hp).nm
  ·rw[aax.mp h];decide +kernel
 pos:=by unfold zo;rw[aaB];simp
 few:=by unfold zo;rw[aaB];simp;lia
section
variable {f1 f2 f3 f4 f5 f6 f7 f8 f9 vq:FM}{x0 x1 x2 x3 x4 x5 x6 x7 x8 x9 wU vt oK oE jM jN jw j3:Option U}{T0 U1 U2 U3 W0 W1:MO}{d s r t:D}{v w:Int}
def Vt (h2:fB x2=false) (e:f1 [.s ns,.t (.int k)]=some (.m T0,[])):vc0 f1 f2 f3 f4 f5 f6 f7 f8 f9 vq [some (.s ns),AAC k,x2,x3,x4,x5,x6,x7,x8,x9,wU,vt,oK,oE,jM,jN,jw,j3]=some (.nx [some (.s ns),AAC k,some (.m T0),x3,x4,x5,x6,x7,x8,x9,wU,vt,oK,oE,jM,jN,jw,j3]):=by
 simp[-eZ,dh,vc0,h2,e]
def Vu (h3:fB x3=false) (e:f2 [.b T0]=some (.t d,[U1])):vc1 f1 f2 f3 f4 f5 f6 f7 f8 f9 vq [x0,x1,some (.m T0),x3,x4,x5,x6,x7,x8,x9,wU,vt,oK,oE,jM,jN,jw,j3]=some (.nx [x0,x1,some (.m U1),AAA d,x4,x5,x6,x7,x8,x9,wU,vt,oK,oE,jM,jN,jw,j3]):=by
 simp[-eZ,dh,vc1,h3,e]
def Vv (h4:fB x4=false) (hl:T.length<=10):vc2 f1 f2 f3 f4 f5 f6 f7 f8 f9 vq [x0,x1,x2,AAA (.tup (T.map lM)),x4,x5,x6,x7,x8,x9,wU,vt,oK,oE,jM,jN,jw,j3]=some (.nx [x0,x1,x2,AAA (.tup (T.map lM)),AAB ((T.map (·.1)).map D.str),x5,x6,x7,x8,x9,wU,vt,oK,oE,jM,jN,jw,j3]):=by
 have ec:=fun S=>Nz T S
 have h1:(T.map lM).length<=100000:=by rw[aaw];lia
 have e0:∀S:SS,S[3]? =some (AAA (.tup (T.map lM)))->BJ (eF (aj 3)) S=some (T.map lM,S):=fun S h=>by simp[BJ,h]
 generalize (T.map (·.1)).map D.str=L at *
 generalize T.map lM=P at *
 simp[-eZ,dh,vc2,h4,e0,h1,ec]
def Vw (h5:fB x5=false) (e:f3 [.b T0,.t d,.t (.int 5)]=some (.t r,[U1])):vc3 f1 f2 f3 f4 f5 f6 f7 f8 f9 vq [x0,x1,some (.m T0),AAA d,x4,x5,x6,x7,x8,x9,wU,vt,oK,oE,jM,jN,jw,j3]=some (.nx [x0,x1,some (.m U1),AAA d,x4,AAA r,x6,x7,x8,x9,wU,vt,oK,oE,jM,jN,jw,j3]):=by
 simp[-eZ,dh,vc3,h5,e]
def w_3 (N:List D):pG [] [((.inr "names":Key),D.lst N),(.inr "binders",.int 3)]=[(.inr "names",.lst N),(.inr "binders",.int 3)]:=rfl
def Vx (h6:fB x6=false) (hl:T.length<=10):vc4 f1 f2 f3 f4 f5 f6 f7 f8 f9 vq [x0,x1,x2,x3,AAB ((T.map (·.1)).map D.str),x5,x6,x7,x8,x9,wU,vt,oK,oE,jM,jN,jw,j3]=some (.nx [x0,x1,x2,x3,AAA (.lst ((T.map (·.1)).map D.str)),x5,some (.m (.dct (DQ (zo T) ((3:Nat):Int)))),x7,x8,x9,wU,vt,oK,oE,jM,jN,jw,j3]):=by
 have h1:((T.map (·.1)).map D.str).length+1<=100000:=by rw[aaw,aaw];lia
 have e:DQ (zo T) ((3:Nat):Int)=[(.inr "names",.lst ((T.map (·.1)).map D.str++[.str "strange"])),(.inr "binders",.int 3)]:=by
  unfold DQ N7 zo
  rw[acH]
  rfl
 rw[e]
 generalize (T.map (·.1)).map D.str=L at *
 have w:=w_3 (L++[.str "strange"])
 simp[-eZ,dh,vc4,h6,w,h1]
def Vy (h7:fB x7=false) (e1:f5 [.b T0,.t (.int 4)]=some (.t (.int v),[U1])) (e2:f5 [.b U1,.t (.int 3)]=some (.t (.int w),[U2])) (e3:f4 [.b U2,.b W0,.t (.tup []),.t (.int (1+v)),.t (.int (1+w))]=some (.t d,[U3,W1])):
  vc5 f1 f2 f3 f4 f5 f6 f7 f8 f9 vq [x0,x1,some (.m T0),x3,x4,x5,some (.m W0),x7,x8,x9,wU,vt,oK,oE,jM,jN,jw,j3]=some (.nx [x0,x1,some (.m U3),x3,x4,x5,some (.m W1),AAA d,x8,x9,wU,vt,oK,oE,jM,jN,jw,j3]):=by
 simp[-eZ,dh,vc5,h7,e1,e2,e3]
def Vz (h8:fB x8=false) (e1:f5 [.b T0,.t (.int 4)]=some (.t (.int v),[U1])) (e2:f5 [.b U1,.t (.int 3)]=some (.t (.int w),[U2])) (e3:f4 [.b U2,.b W0,.t (.tup []),.t (.int (1+v)),.t (.int (1+w))]=some (.t d,[U3,W1])):
  vc6 f1 f2 f3 f4 f5 f6 f7 f8 f9 vq [x0,x1,some (.m T0),x3,x4,x5,some (.m W0),x7,x8,x9,wU,vt,oK,oE,jM,jN,jw,j3]=some (.nx [x0,x1,some (.m U3),x3,x4,x5,some (.m W1),x7,AAA d,x9,wU,vt,oK,oE,jM,jN,jw,j3]):=by
 simp[-eZ,dh,vc6,h8,e1,e2,e3]
def VA (h9:fB x9=false) (e1:f5 [.b T0,.t (.int 3)]=some (.t (.int v),[U1])) (e2:f5 [.b U1,.t (.int 3)]=some (.t (.int w),[U2])) (e3:f4 [.b U2,.b W0,.t (.tup [.str "x"]),.t (.int (1+v)),.t (.int (1+w))]=some (.t d,[U3,W1])):
  vc7 f1 f2 f3 f4 f5 f6 f7 f8 f9 vq [x0,x1,some (.m T0),x3,x4,x5,some (.m W0),x7,x8,x9,wU,vt,oK,oE,jM,jN,jw,j3]=some (.nx [x0,x1,some (.m U3),x3,x4,x5,some (.m W1),x7,x8,AAA d,wU,vt,oK,oE,jM,jN,jw,j3]):=by
 simp[-eZ,dh,vc7,h9,e1,e2,e3]
def VB {ds:List D}{m:Int}(h10:fB wU=false) (h11:fB vt=false) (e:f5 [.b T0,.t (.int ds.length)]=some (.t (.int v),[U1])) (ha:gz ds v=some (.tup [.str a,.int m])):
  vc8 f1 f2 f3 f4 f5 f6 f7 f8 f9 vq [x0,x1,some (.m T0),AAA (.tup ds),x4,x5,x6,x7,x8,x9,wU,vt,oK,oE,jM,jN,jw,j3]=some (.nx [x0,x1,some (.m U1),AAA (.tup ds),x4,x5,x6,x7,x8,x9,AAA (.str a),AAC m,oK,oE,jM,jN,jw,j3]):=by
 simp[-eZ,dh,vc8,h10,h11,e,ha]
def VC {L:List D}(h12:fB oK=false) (e:f5 [.b T0,.t (.int 5)]=some (.t (.int v),[U1])) (e1:f6 [.t s,.t r,.t (.int v)]=some (.m (.lst L),[])):
  vc9 f1 f2 f3 f4 f5 f6 f7 f8 f9 vq [x0,x1,some (.m T0),x3,x4,x5,x6,AAA s,AAA r,x9,wU,vt,oK,oE,jM,jN,jw,j3]=some (.nx [x0,x1,some (.m U1),x3,x4,x5,x6,AAA s,AAA r,x9,wU,vt,AAB L,oE,jM,jN,jw,j3]):=by
 simp[-eZ,dh,vc9,h12,e,e1]
def Q6 {P:List (D×D)}(hl:P.length < 1000):Vs f1 f2 f3 f4 f5 f6 f7 f8 f9 vq [x0,x1,x2,x3,x4,x5,x6,x7,x8,AAA t,AAA (.str a),vt,AAB (P.map oB),oE,jM,jN,jw,j3]=some (.nx [x0,x1,x2,x3,x4,x5,x6,x7,x8,AAA t,AAA (.str a),vt,AAB ((P++[((.tup [.str "each",.str a,.str "x",t],T1 "not" (.tup [.str "one",.str a,.str "x",T1 "not" t])):D×D)]).map oB),oE,jM,jN,jw,j3]):=by
 have h1:(P.map oB).length < 100000:=by rw[aaw];lia
 rw[acH,List.map_singleton]
 generalize P.map oB=L at *
 simp[-eZ,dh,Vs,wL,hAppend,h1,oB]
end
def YH {deep room bin D0 R0:Nat}{d:D}(h:Dr deep bs room bin d) (h1:deep<=D0) (h2:room<=R0):Sz D0 bs R0 bin d:=by
 have a:=h.sz
 have b:=h.bn
 unfold eO at a
 unfold iT at b
 exact Sz.up ⟨Sy.of h.fm,by lia,by lia⟩ h1
def Cm {nms:List Str} [hn:Fy nms] {t:dJ}(hM:1<=M) (hM2:M<=4) (h0:0<=t.n) (h1:t.n < 600000) (hs:∀z∈bs,z.length<=8) (hl:bs.length<=5):
  ∃(v w:Int) (ta tb tc:dJ) (d:D),cG [.b (tp t),.t (.int M)]=some (.t (.int v),[tp ta])/\cG [.b (tp ta),.t (.int 3)]=some (.t (.int w),[tp tb])/\oJ 17 [.b (tp tb),.b (.dct (DQ nms ((3:Nat):Int))),.t (.tup (bs.map D.str)),.t (.int (1+v)),.t (.int (1+w))]=some (.t d,[tp tc,.dct (DQ nms ((3:Nat):Int))])/\
   Sz 3 bs M 0 d/\0<=tc.n/\tc.n<=t.n+100:=by
 obtain⟨v,ta,p1,v0,v1,t1n⟩:=kC (t:=t) (m:=M) (by lia) (by lia) (by lia) (by lia)
 obtain⟨w,tb,p2,w0,w1,We⟩:=kC (t:=ta) (m:=3) (by decide) (by decide) (by lia) (by lia)
 obtain⟨d,tc,bin,g1,g2,g3,g4,g5⟩:=Uu (nms:=nms) (1+w).toNat (by lia) 17 (1+v).toNat (by lia) (by lia) (by lia) tb bs 3 (by lia) (by lia) (by lia) hs (by decide)
 have er:(((1+v).toNat:Nat):Int)=1+v:=by lia
 have ed:(((1+w).toNat:Nat):Int)=1+w:=by lia
 rw[er,ed] at g1
 have b0:bin=0:=by lia
 subst b0
 exact⟨v,w,ta,tb,tc,d,p1,p2,g1,YH g2 (by lia) (by lia),by lia,by lia⟩
def Q7 {A B:D}{C:Addr}(h:Al R A B) (hl:R.length<=80) (hR:∀h∈R,0<=h.2/\h.2<=9) (hi:i<=R.length):
  ∃(b:Bool) (w:Str),rH [.t A,.t (.tup (R.map lM)),.t (.int i)]=some (.t (.bl b),[])/\rH [.t B,.t (.tup (R.map lM)),.t (.int i)]=some (.t (.bl b),[])/\qb [.t A]=some (.t (.str w),[])/\RS C [.t (.str w)]=some (.t A,[]):=by
 have u:=h.a.up (m:=8) (by decide)
 refine⟨ev R iD A i,_,Cg h.a (by decide) (by decide) (by decide) hl hR hi,?_,Nt u.sy,YD u.sy ?_ ?_⟩
 ·rw[h.e i hi];exact Cg h.b (by decide) (by decide) (by decide) hl hR hi
 ·have:=u.sz;unfold eO;exact this
 ·have:=u.bn;unfold iT;exact this
abbrev RV (C:Addr) (g:FM->FM->FM->FM->FM->FM->FM->FM->FM->FM->GS):GS:=g tV nL B6 (oJ 17) cG FU rH (RS C) qb FT
section
variable {x0 x1 x2 x3 x4 x6 x7 x8 oK oE jM jN jw j3:Option U}{C:Addr}
def Q8 {t:D}(hl:R.length<=80) (hR:∀h∈R,0<=h.2/\h.2<=9) (hM:M<=9) (ha:nameB (.str a)=true) (ht:Sz 3 ["x"] 3 0 t) (hRa:∀h∈R,h.1=a->0<=h.2/\h.2<=(M:Int)) (hA:∀p∈pl,Al R p.1 p.2) (hpl:pl.length < 1000)
  (ZV:fB oE=false) (RU:fB jM=false) (JV:fB jN=false) (Oc:fB jw=false) (Wl:fB j3=false):
  ∃Od qT qU qV FW,fB Od=false/\fB qT=false/\fB qU=false/\fB qV=false/\fB FW=false/\
  RV C YF [x0,x1,x2,x3,x4,AAA (.tup (R.map lM)),x6,x7,x8,AAA t,AAA (.str a),AAC M,AAB (pl.map oB),oE,jM,jN,jw,j3]=some (.nx [x0,x1,x2,x3,x4,AAA (.tup (R.map lM)),x6,x7,x8,AAA t,AAA (.str a),AAC M,AAA (.lst (pl.map oB)),Od,qT,qU,qV,FW]):=by
 have he:Sz 7 [] 16 3 (.tup [.str "each",.str a,.str "x",t]):=(HA (R:=R) ha ht).a
 have tn:∀(i:Nat),i<=R.length->∀{oK oE jM jN jw j3:Option U},(oK=AAA (.lst (pl.map oB))\/oK=AAB (pl.map oB))->fB jM=false->fB jN=false->fB jw=false->fB j3=false->∃qT qU qV FW,fB qT=false/\fB qU=false/\fB qV=false/\fB FW=false/\
  RV C vo [x0,x1,x2,x3,x4,AAA (.tup (R.map lM)),x6,x7,x8,AAA t,AAA (.str a),AAC M,oK,AAC i,jM,jN,jw,j3]=some (.nx [x0,x1,x2,x3,x4,AAA (.tup (R.map lM)),x6,x7,x8,AAA t,AAA (.str a),AAC M,AAA (.lst (pl.map oB)),AAC i,qT,qU,qV,FW]):=fun i hi oK oE jM jN jw j3 h12 a14 a15 a16 a17=>
  Q4 (P:=fun m=>ev R iD (NC 3 t a (m:Int)) i) h12 (by lia) a14 a15 a16 a17 (fun p hp=>Q7 (hA p hp) hl hR hi)
   (fun m hm=>⟨_,Vp ht,Cg (Vo ha ht (by lia) (by lia)) (by decide) (by decide) (by decide) hl hR hi⟩)
   (by rw[Cg he (by decide) (by decide) (by decide) hl hR hi,NF ht hRa]) hpl
 obtain⟨S',e,Wm,Od,qT,qU,qV,FW,YI,YJ,NH,NI,NJ,YK,rfl⟩:=tY (bd:=bName 13) (body:=RV C vo) (oU 0 (R.length+1))
  (fun j S=>∃Wm Od qT qU qV FW,(Wm=AAA (.lst (pl.map oB))\/j=0/\Wm=AAB (pl.map oB))/\fB Od=false/\fB qT=false/\fB qU=false/\fB qV=false/\fB FW=false/\S=[x0,x1,x2,x3,x4,AAA (.tup (R.map lM)),x6,x7,x8,AAA t,AAA (.str a),AAC M,Wm,Od,qT,qU,qV,FW])
  _ ⟨_,oE,jM,jN,jw,j3,.inr ⟨rfl,rfl⟩,ZV,RU,JV,Oc,Wl,rfl⟩ (by
   rintro j d S hd ⟨Wm,Od,qT,qU,qV,FW,YI,YJ,NH,NI,NJ,YK,rfl⟩
   obtain⟨hj,rfl⟩:=Hh hd
   obtain⟨z14,z15,z16,NG,c14,c15,c16,c17,et⟩:=tn j (by lia) (oE:=Od) (YI.imp id (·.2)) NH NI NJ YK
   refine⟨_,_,?_,et,_,_,z14,z15,z16,NG,.inl rfl,rfl,c14,c15,c16,c17,rfl⟩
   generalize ((j:Nat):Int)=ii
   simp[-eZ,dh,YJ])
 have YI:Wm=AAA (.lst (pl.map oB)):=by
  rcases YI with h | ⟨h,_⟩
  ·exact h
  ·rw[show(oU 0 (R.length+1)).length=R.length+1 from yW ..] at h;lia
 subst YI
 refine⟨Od,qT,qU,qV,FW,YJ,NH,NI,NJ,YK,?_⟩
 have g:jx (aa (eF (eP cH (aa (jd 5) (aa (eC (.int 1)) aq)))) aq) [x0,x1,x2,x3,x4,AAA (.tup (R.map lM)),x6,x7,x8,AAA t,AAA (.str a),AAC M,AAB (pl.map oB),oE,jM,jN,jw,j3]=some (oU 0 (R.length+1),[x0,x1,x2,x3,x4,AAA (.tup (R.map lM)),x6,x7,x8,AAA t,AAA (.str a),AAC M,AAB (pl.map oB),oE,jM,jN,jw,j3]):=by
  have hb:R.length+1 < 1000000:=by lia
  have ln:((R.map lM).length:Int)=(R.length:Int):=by rw[aaw]
  have:=Sq.mZ (gA:=aa (eF (eP cH (aa (jd 5) (aa (eC (.int 1)) aq)))) aq) (S:=[x0,x1,x2,x3,x4,AAA (.tup (R.map lM)),x6,x7,x8,AAA t,AAA (.str a),AAC M,AAB (pl.map oB),oE,jM,jN,jw,j3]) (S':=[x0,x1,x2,x3,x4,AAA (.tup (R.map lM)),x6,x7,x8,AAA t,AAA (.str a),AAC M,AAB (pl.map oB),oE,jM,jN,jw,j3]) (j:=((R.length+1:Nat):Int)) (by
   have q:((R.length+1:Nat):Int)=(R.length:Int)+1:=by lia
   rw[q,<-ln]
   generalize pl.map oB=pp
   generalize R.map lM=rr
   generalize (M:Int)=mm
   simp) (Int.ofNat_lt.mpr hb) (Sq.MB _)
  rw[adf] at this
  exact this
 show rR _ _ _ _=_
 rw[uV,g,aau]
 exact e
end
inductive ZX (ns:List Int):SS->Prop
 | mk {x1 x2 x3 x4 x5 x6 x7 x8 x9 wU vt oK oE jM jN jw j3:Option U}(h1:fB x1=false) (h2:fB x2=false) (h3:fB x3=false) (h4:fB x4=false) (h5:fB x5=false) (h6:fB x6=false) (h7:fB x7=false) (h8:fB x8=false) (h9:fB x9=false) (h10:fB wU=false) (h11:fB vt=false) (h12:fB oK=false) (ZV:fB oE=false) (RU:fB jM=false) (JV:fB jN=false) (Oc:fB jw=false) (Wl:fB j3=false):ZX ns [some (.s ns),x1,x2,x3,x4,x5,x6,x7,x8,x9,wU,vt,oK,oE,jM,jN,jw,j3]
def VD {C:Addr}{S:SS}(hk:0<=k) (hk2:k < 1000) (hns:ns.length < 1000) (h:ZX ns S):∃S1 S2,bName 1 (.int k) S=some S1/\RV C vp S1=some (.nx S2)/\ZX ns S2:=by
 obtain @⟨x1,x2,x3,x4,x5,x6,x7,x8,x9,wU,vt,oK,oE,jM,jN,jw,j3,h1,h2,h3,h4,h5,h6,h7,h8,h9,h10,h11,h12,ZV,RU,JV,Oc,Wl⟩:=h
 refine aa5 fun ng=>?_
 have e0:=Nv (ns:=ns) (k:=k) hk (by lia) (by lia)
 generalize ht0:DA ns k=t0 at e0
 have n0:t0.n=0:=by rw[<-ht0];rfl
 have e1:=JC (t:=t0) (by lia) (by lia)
 have F:=DI t0
 have W:=QU t0
 obtain⟨st,hst⟩:∃s,gU t0=s:=⟨_,rfl⟩
 rw[hst] at e1 F W
 obtain⟨f1,f2,f3,f4,f5,f6⟩:=F
 have hn:Fy (zo st.tab):=Q5 W (by lia)
 have e2:=QT (t:=st.t) (T:=st.tab) (most:=5) f2 (by decide) (by decide) (by lia) (by lia)
 have G:=IZ f2 f3 st.t (most:=5) (by decide)
 have ZY:=QV f2 st.t 5
 generalize uX st.t st.tab 5=rr at e2 G ZY
 obtain⟨R,tb⟩:=rr
 dsimp only at e2 G ZY
 obtain⟨_,g2,g3,g4⟩:=G
 have hR9:∀p∈R,0<=p.2/\p.2<=9:=fun p hp=>by
  have w:=acB W (ZY p hp)
  have:=w.lo
  have:=w.hi
  lia
 rw[Ck] at e1
 rw[Ck R,Ck] at e2
 obtain⟨v5,w5,ta5,tb5,t5,s,q51,q52,q53,zs,k5,l5⟩:=Cm (nms:=zo st.tab) (t:=tb) (bs:=[]) (M:=4) (by decide) (by decide) (by lia) (by lia) (fun z hz=>by cases hz) (by simp)
 obtain⟨v6,w6,ta6,tb6,t6,r,q61,q62,q63,zr,k6,l6⟩:=Cm (nms:=zo st.tab) (t:=t5) (bs:=[]) (M:=4) (by decide) (by decide) (by lia) (by lia) (fun z hz=>by cases hz) (by simp)
 obtain⟨v8,w8,ta8,tb8,t8,t,q81,q82,q83,zt,k8,l8⟩:=Cm (nms:=zo st.tab) (t:=t6) (bs:=["x"]) (M:=3) (by decide) (by decide) (by lia) (by lia) (fun z hz=>by rw[aax.mp hz];decide) (by simp)
 have pos:=f2.pos
 obtain⟨v9,t9,p9,q0,q1,n9⟩:=kC (t:=t8) (m:=((st.tab.map lM).length:Int)) (by rw[aaw];lia) (by rw[aaw];lia) (by lia) (by lia)
 rw[aaw] at q1
 obtain⟨⟨a,m⟩,hq⟩:∃p,st.tab[v9.toNat]? =some p:=⟨_,aaD (by lia)⟩
 have hm:=ab3 hq
 have wq:=W _ hm
 have na:nameB (.str a)=true:=(wC _ wq.nm).1
 have wlo:0<=m:=wq.lo
 have whi:m<=5:=wq.hi
 have ha:gz (st.tab.map lM) v9=some (.tup [.str a,.int m]):=Sq.uZ q0 (by rw[aaO,hq];rfl)
 obtain⟨M,hM⟩:∃M:Nat,m=(M:Int):=⟨m.toNat,by lia⟩
 subst hM
 have hRa:∀h∈R,h.1=a->0<=h.2/\h.2<=(M:Int):=fun h hh ea=>by
  obtain⟨q,hq',e,lo,hi⟩:=(ZY h hh).ex
  have:q=(a,(M:Int)):=by
   obtain⟨i,hi'⟩:=List.getElem?_of_mem hq'
   have i1:(st.tab.map (·.1))[i]? =some a:=by rw[aaO,hi',<-ea,e];rfl
   have i2:(st.tab.map (·.1))[v9.toNat]? =some a:=by rw[aaO,hq];rfl
   have:=(List.getElem?_inj (by rw[aaw];exact(aaG.mp hi').1) f1).mp (i1.trans i2.symm)
   subst this
   rw[hi'] at hq
   exact aa0 hq
  rw[this] at hi
  exact⟨lo,hi⟩
 obtain⟨u,t10,p10,u0,u1,_⟩:=kC (t:=t9) (m:=5) (by decide) (by decide) (by lia) (by lia)
 have hA:∀p∈prL s r u++[((.tup [.str "each",.str a,.str "x",t],T1 "not" (.tup [.str "one",.str a,.str "x",T1 "not" t])):D×D)],Al R p.1 p.2:=fun p hp=>by
  rcases aaX.mp hp with hp | hp
  ·exact Vn (R:=R) zs zr u0 (by lia) p hp
  ·rw[aax.mp hp];exact HA na zt
 obtain⟨Od,qT,qU,qV,FW,YJ,NH,NI,NJ,YK,a11⟩:=Q8 (C:=C) (x0:=some (.s ns)) (x1:=AAC k) (x2:=some (.m (tp t10))) (x3:=AAA (.tup (st.tab.map lM))) (x4:=AAA (.lst ((st.tab.map (·.1)).map D.str))) (x6:=some (.m (.dct (DQ (zo st.tab) ((3:Nat):Int))))) (x7:=AAA s) (x8:=AAA r) (R:=R) (t:=t) (a:=a) (M:=M)
  (pl:=prL s r u++[((.tup [.str "each",.str a,.str "x",t],T1 "not" (.tup [.str "one",.str a,.str "x",T1 "not" t])):D×D)]) (by lia) hR9 (by lia) na zt hRa hA (by rw[aaB];show 12+1 < 1000;decide) ZV RU JV Oc Wl
 refine ng ⟨[some (.s ns),AAC k,x2,x3,x4,x5,x6,x7,x8,x9,wU,vt,oK,oE,jM,jN,jw,j3],_,by simp[-eZ,dh,h1],Eq.trans ?_ a11,.mk rfl rfl rfl rfl rfl rfl rfl rfl rfl rfl rfl rfl YJ NH NI NJ YK⟩
 show vp _ _ _ _ _ _ _ _ _ _ _=_
 rw[YG]
 refine(jL (Vt h2 e0)).trans ?_
 refine(jL (Vu h3 e1)).trans ?_
 refine(jL (Vv h4 (by lia))).trans ?_
 refine(jL (Vw h5 e2)).trans ?_
 refine(jL (Vx h6 (by lia))).trans ?_
 refine(jL (Vy h7 q51 q52 q53)).trans ?_
 refine(jL (Vz h8 q61 q62 q63)).trans ?_
 refine(jL (VA h9 q81 q82 q83)).trans ?_
 refine(jL (VB h10 h11 p9 ha)).trans ?_
 refine(jL (VC h12 p10 (Vq s r u))).trans ?_
 exact jL (Q6 (by show 12 < 1000;decide))
def NK (ns:List Int) (lo hi:Option Int):(yy ns lo hi).length<=ns.length:=by
 unfold yy
 rw[ad4,acy]
 lia
def VE (i:Nat) (lo hi:Option GD) (S:SS):LG i lo hi S=match S[i]? with | some (some (.s ns))=>(iw lo S).bind fun l=>(iw hi l.2).map fun h=>(.m (.lst ((yy ns l.1 h.1).map D.int)),h.2) | _=>none:=rfl
def NL {c:Int}{r:SS}:(aa (eF (eP cH (aa (eC (.int 1)) (aa (eF (eP yh (aa (eF (LG 0 none (some (eC (.int c))))) aq))) aq)))) aq) (some (.s ns) :: r)=some ([.int ((1+(yy ns none (some c)).length:Nat):Int)],some (.s ns) :: r):=by
 simp[VE,iw]
def JF (C:Addr):∀us r,DK 63 us=some r->aK 18 (RV C HB) us=some r:=by
 intro us r h
 unfold DK at h
 split at h
 ·rename_i ns
  obtain⟨hl,rfl⟩:=bV h
  have cl:=NK ns none (some 1)
  have eg:=Sq.mZ (NL (ns:=ns) (c:=1) (r:=List.replicate 17 none)) (by lia) (by lia)
  rw[adf] at eg
  obtain⟨S',e,jS⟩:=tY (bd:=bName 1) (body:=RV C vp) (oU 0 (1+(yy ns none (some 1)).length)) (fun _ S=>ZX ns S) (some (.s ns) :: List.replicate 17 none) (.mk rfl rfl rfl rfl rfl rfl rfl rfl rfl rfl rfl rfl rfl rfl rfl rfl rfl) (fun j d S hd hJ=>by
   obtain⟨hj,rfl⟩:=Hh hd
   exact VD (by lia) (by lia) (by lia) hJ)
  show((RV C HB) (some (.s ns) :: List.replicate 17 none)).bind _=_
  unfold RV HB
  rw[B0,uV,eg]
  simp only[aau]
  have e:loop (bName 1) (vp tV nL B6 (oJ 17) cG FU rH (RS C) qb FT) (oU 0 (1+(yy ns none (some 1)).length)) (some (.s ns) :: List.replicate 17 none)=some (.nx S'):=e
  rw[e]
  cases jS
  kernel_rfl
 ·cases h
end Sa
end
namespace K14
open PySem PySem.Spec PyProof.Rows L2 Sw Ss Sn Sp Sh Sj Sf Sa
variable {j:Nat}{l:PySem.W.OpenLaw}
def top (i:Nat):Stmt:=PySem.Challenge.pw_surewatch_k14_whole_put_otherwise.main.body.getD i (.Pass ⟨0,0,0,0⟩)
variable {P:Program}{w:World}{K:AAD}{mg:AAF}{base:Heap}
variable {ao:Addr}
noncomputable def YL (s:Stmt) (j:Nat):Stmt:=match s with
 | .ClassDef _ _ _ b _ _ _ _ _ _ _=>b.getD j (.Pass ⟨0,0,0,0⟩)
 | _=>.Pass ⟨0,0,0,0⟩
def nY (i j:Nat):Stmt:=YL (top i) j
structure Nb (P:Program) (w:World) (K:AAD) (ao:Addr) (mg:AAF):Prop where
 wF:mg "isinstance" =none
 VF:mg "str" =none
 mC:mg "len" =none
 acO:mg "all" =none
 VG:mg "tuple" =none
 VH:mg "zip" =none
 FY:mg "enumerate" =none
 YM:mg "list" =none
 JH:mg "reversed" =none
 su:mg "range" =none
 acP:mg "any" =none
 acQ:mg "max" =none
 acR:mg "min" =none
 zW:∃t,mg "LONGEST_NAME" =some (.int 8 t)
 NN:∃t,mg "LETTERS" =some (.str "abcdefghijklmnopqrstuvwxyz" t)
 Eb:∃a,mg "LENGTHS" =some (.ref a)/\KTab P w K a [("yes",1),("no",1),("now",2),("not",2),("both",3),("either",3),("next",2),("till",3),("within",3),("always",2),("some",2),("each",4),("one",4)]
 Cn:∃a,mg "STARTS" =some (.ref a)/\KTab P w K a [("yes",1),("no",1),("now",2),("not",1),("both",1),("either",1),("next",1),("till",1),("within",2),("always",1),("some",1),("each",3),("one",3)]
 uz:∃a,mg "BINDERS" =some (.ref a)/\LY K a ["each","one"]
 zX:∃t,mg "MOST_SAYINGS" =some (.int 16 t)
 Co:∃t,mg "MOST_WITHIN" =some (.int 8 t)
 zY:∃t,mg "MOST_BINDERS" =some (.int 3 t)
 Ec:∃a,mg "FIGURES" =some (.ref a)/\KTab P w K a [("0",0),("1",1),("2",2),("3",3),("4",4),("5",5),("6",6),("7",7),("8",8),("9",9)]
 vA:∃t,mg "GREATEST_WITHIN" =some (.int 5 t)
 bR:CA K ao
 jU:PySem.W.findIn K (.ref ao) "words" =some none
 lA:PySem.W.findIn K (.ref ao) "at" =some none
 ki:PySem.W.findIn K (.ref ao) "sayings" =some none
 kj:PySem.W.findIn K (.ref ao) "binders" =some none
abbrev vB:Stmt:=top 3
def FZ:bA ["thing"] ["thing"] (aP vB):=sI
def F5 (D:Df K mg "is_name" vB) (N:Nb P w K ao mg):fj P w K mg base 1 "is_name" ["thing"] wj:=
 by obtain⟨Oe,zZ⟩:=N.zW;obtain⟨YN,NO⟩:=N.NN;exact sQ (g:=mY) D FZ (fun a a a a a a a hr=>(aA (cJ (JW.t (AE (Lj (ER (AH rfl N.wF rfl N.VF aeD (jv 0)))) (AE (bL nG (gD (i:=0) rfl N.mC) aB) (qz (bL uO (gD (i:=0) rfl N.mC) (tH rfl zZ)))))) (aN (bg (JD.e q9))) bW)
  (aN (bg (kO (Ip rfl) rfl N.acO PyProof.Rows.Boot.all (ah (JE.d (qF cp rfl (uR (jv 0)) (fun a a a a=>jQ) (fun a a a a=>(JE.d (iB (EY hr.units) (jv 0) (Pb rfl NO) (by with_unfolding_all rfl)))))) az)))))) Mx
abbrev zp:Stmt:=top 5
def Bh:bA ["test","happening","head"] ["test","happening"] (aP zp):=sI
def JJ (D:Df K mg "passes" zp):fj P w K mg base 1 "passes" ["test","happening"] wB:=
 sQ (g:=y9) D Bh (fun a a a a a a a hr=>(aA (zs Bh.nd 2 (JD.e (ys hr 0 aB)))
  (aA (cJ (bL (cy hr.units) (jv 2) aC) (aN (bg (JD.e q9))) bW)
  (aA (cJ (bL (cy hr.units) (jv 2) aC) (aN (bg (iB (cy hr.units) (ys hr 1 aB) (ys hr 0 aB)))) bW)
  (aA (cJ (bL (cy hr.units) (jv 2) aC) (aN (bg (iB nG (ys hr 1 aB) (ys hr 0 aB)))) bW)
  (aA (cJ (bL (cy hr.units) (jv 2) aC) (aN (bg (iB (cy hr.units) (ys hr 1 aB) (ys hr 0 aB)))) bW)
  (aN (bg (iB uO (ys hr 1 aB) (ys hr 0 aB)))))))))) MV
abbrev vC:Stmt:=top 14
def F6:bA ["word"] ["word"] (aP vC):=sI
def F7 (D:Df K mg "is_head" vC) (N:Nb P w K ao mg):fj P w K mg base 1 "is_head" ["word"] zf:=
 by obtain⟨NP,zq,zu⟩:=N.Eb;exact sQ (g:=vg) D F6 (fun a a a a a a a hr=>(aN (bg (JD.e (yD rfl zq zu (jv 0)))))) Nj
abbrev lB:Stmt:=top 15
def wV:bA ["head"] ["head"] (aP lB):=sI
def wW (D:Df K mg "parts_wanted" lB) (N:Nb P w K ao mg):fj P w K mg base 1 "parts_wanted" ["head"] J8:=
 by obtain⟨NP,zq,zu⟩:=N.Eb;obtain⟨HE,uA,uB⟩:=N.Cn;exact sQ (g:=lz) D wV (fun a a a a a a a hr=>(aN (bg (bD eV (uU rfl zq zu (jv 0)) (uU rfl uA uB (jv 0)))))) pw_run
abbrev sA:Stmt:=top 16
def Ed:bA ["saying"] ["saying"] (aP sA):=sI
def Ef (D:Df K mg "parts_of" sA) (N:Nb P w K ao mg):fj P w K mg base 1 "parts_of" ["saying"] jf:=
 by obtain⟨HE,uA,uB⟩:=N.Cn;exact sQ (g:=nN) D Ed (fun a a a a a a a hr=>(aN (bg (iK (jv 0) (iu (uU rfl uA uB (ys hr 0 aB))) kF)))) Jb
abbrev lC:Stmt:=top 17
def wX:bA ["saying","bound"] ["saying","bound"] (aP lC):=sI
def wY (D:Df K mg "bound_within" lC) (N:Nb P w K ao mg):fj P w K mg base 1 "bound_within" ["saying","bound"] mq:=
 by obtain⟨zx,lD,lE⟩:=N.uz;exact sQ (g:=gY) D wX (fun a a a a a a a hr=>(aA (cJ (BW hr.units rfl lD lE (ys hr 0 aB)) (aN (bg (bD bN (jv 1) (JE.d (aG (ah (ys hr 0 aB) az)))))) bW)
  (aN (bg (bu 1))))) Jc
abbrev lF:Stmt:=top 18
def wZ:bA ["test"] ["test"] (aP lF):=sI
def xg (D:Df K mg "has_variable" lF) (N:Nb P w K ao mg):fj P w K mg base 1 "has_variable" ["test"] Hl:=
 sQ (g:=g8) D wZ (fun a a a a a a a hr=>(aN (bg (JD.e (rO (JE.d (iB (cy hr.units) (gD (i:=0) rfl N.mC) aB)) (rO (JE.d (iB (yr hr.units) (ys hr 0 aB) aC)) (nD (AH rfl N.wF rfl N.VF aeD (ys hr 0 aB))))))))) Uv
abbrev vD:Stmt:=top 19
def F8:bA ["saying","x","k"] ["saying","x","k"] (aP vD):=sI
def F9 (D:Df K mg "put_for" vD) (N:Nb P w K ao mg) (mD:fj P w K mg base 1 "has_variable" ["test"] Hl) (kK:fj P w K mg base 1 "parts_of" ["saying"] jf) (j4:fj P w K mg base (j+1) "put_for" ["saying","x","k"] (d8 j)):fj P w K mg base (j+1+1) "put_for" ["saying","x","k"] (d8 (j+1)):=
 by obtain⟨zx,lD,lE⟩:=N.uz;obtain⟨HE,uA,uB⟩:=N.Cn;exact sQ (g:=dP Hl jf (d8 j)) D F8 (fun a a a a a a a hr=>(aA (cJ (bL (cy hr.units) (ys hr 0 aB) aC) (aA (cJ (JW.t (yg (ER (JE.d (jc mD hr (aE (ys hr 0 aB) aR)))) (kP (bL (cy hr.units) (JE.d (mS uP (ys hr 0 aB) aB (fun a a=>rfl))) (jv 1))))) (aN (bg (aG (ah aC (ah (JE.d (aG (ah (JE.d (mS uP (ys hr 0 aB) aB (fun a a=>rfl))) (ah (jv 2) az)))) az))))) bW)
  (aN (bg (bu 0)))) bW)
  (aA (cJ (JW.t (yg (BW hr.units rfl lD lE (ys hr 0 aB)) (kP (bL (cy hr.units) (ys hr 0 aB) (jv 1))))) (aN (bg (bu 0))) bW)
  (aN (bg (bD bN (JE.d (iK (jv 0) kF (iu (uU rfl uA uB (ys hr 0 aB))))) (JE.d (AD De rfl N.VG PyProof.Rows.Boot.tuple (ah (JE.d (qF (cs ["k","x"] [2,1]) rfl (uR (JE.d (jc kK hr (aE (jv 0) aR)))) (fun a a a a=>jQ) (fun a a a a=>(JE.d (jc j4 hr (aE (jv 0) (aE (jv 2) (aE (jv 1) aR)))))))) az))))))))) (Qd j)
abbrev Cp:Stmt:=top 21
def NQ:bA ["saying","row","place"] ["saying","row","place"] (aP Cp):=sI
def NR (D:Df K mg "holds" Cp) (g9:fj P w K mg base 34 "truths_of" ["saying","row","known"] (DZ 24)):fj P w K mg base 35 "holds" ["saying","row","place"] rH:=
 sQ (g:=ur (DZ 24)) D NQ (fun a a a a a a a hr=>(aN (bg (mS uP (JE.d (jc g9 hr (aE (jv 0) (aE (jv 1) (bF Pp aR))))) (jv 2) (fun a a=>rfl))))) M8
abbrev qc:Stmt:=top 22
def Cq:bA ["saying","row","known"] ["saying","row","known"] (aP qc):=sI
def Cr (D:Df K mg "truths_of" qc) (oF:fj P w K mg base (j+10) "truths_by_head" ["saying","row","known"] (RO j)):fj P w K mg base (j+10+1) "truths_of" ["saying","row","known"] (DZ (j+1)):=
 sQ (g:=fU (RO j)) D Cq (fun a a a a a a a hr=>(aA (cJ (IG (i:=2) (AA hr) (jv 0)) (aN (BQ (i:=2) (AA hr) (jv 0) (JE.d (jc oF hr (aE (jv 0) (aE (jv 1) (bF (bu 2) aR))))))) bW)
  (aN (bg (JD.e (ys hr 2 (jv 0))))))) (UI j)
abbrev jO:Stmt:=top 23
def gP:bA ["saying","row","known","head","truths","ahead"] ["saying","row","known"] (aP jO):=sI
def uC (D:Df K mg "truths_by_head" jO) (N:Nb P w K ao mg) (Cs:fj P w K mg base 1 "passes" ["test","happening"] wB) (xK:fj P w K mg base 3 "at_all" ["truths"] Sh.DW) (lG:fj P w K mg base (j+10) "at_happenings" ["saying","row","known"] (RP j)) (lH:fj P w K mg base 2 "at_some" ["truths"] Sh.lZ) (g9:fj P w K mg base (j+10) "truths_of" ["saying","row","known"] (DZ j)) (eU:fj P w K mg base 1 "turned_truths" ["truths"] turnF) (NS:fj P w K mg base 1 "soon" ["n","truths"] wu) (nj:fj P w K mg base 1 "come_to" ["stays","comes"] lu):fj P w K mg base (j+10+1) "truths_by_head" ["saying","row","known"] (RO (j+1)):=
 sQ (g:=br wB Sh.DW (RP j) Sh.lZ (DZ j) turnF wu lu) D gP (fun a a a a a a a hr=>(aA (zs gP.nd 3 (JD.e (ys hr 0 aB)))
  (aA (cJ (JW.t (AE (bL (cy hr.units) (jv 3) aC) (qz (bL (cy hr.units) (jv 3) aC)))) (aN (bg (bD G0 (JE.d (gB (ah (JE.d (iB (cy hr.units) (jv 3) aC)) az))) (JE.d (bD bN (gD (i:=1) rfl N.mC) aB))))) bW)
  (aA (cJ (bL (cy hr.units) (jv 3) aC) (aN (bg (bD bN (JE.d (qF (cc 0) rfl (uR (jv 1)) (fun a a a a=>jQ) (fun a a a a=>(JE.d (jc Cs hr (aE (ys hr 1 aB) (aE (jv 0) aR))))))) (JE.d (gB (ah q9 az)))))) bW)
  (aA (cJ (bL (cy hr.units) (jv 3) aC) (aN (bg (jc xK hr (aE (JE.d (jc lG hr (aE (jv 0) (aE (jv 1) (bF (bu 2) aR))))) aR)))) bW)
  (aA (cJ (bL (cy hr.units) (jv 3) aC) (aN (bg (jc lH hr (aE (JE.d (jc lG hr (aE (jv 0) (aE (jv 1) (bF (bu 2) aR))))) aR)))) bW)
  (aA (zs gP.nd 4 (jc g9 hr (aE (ys hr 0 (JE.d (yf nH aB))) (aE (jv 1) (bF (bu 2) aR)))))
  (aA (cJ (bL (cy hr.units) (jv 3) aC) (aN (bg (jc eU hr (aE (jv 4) aR)))) bW)
  (aA (cJ (bL (cy hr.units) (jv 3) aC) (aN (bg (bD bN (JE.d (iK (jv 4) (iu aB) kF)) (JE.d (gB (ah q9 az)))))) bW)
  (aA (cJ (bL (cy hr.units) (jv 3) aC) (aN (bg (jc xK hr (aE (JE.d (iK (jv 4) kF (iu (JE.d (yf nH aB))))) aR)))) bW)
  (aA (cJ (bL (cy hr.units) (jv 3) aC) (aN (bg (jc lH hr (aE (JE.d (iK (jv 4) kF (iu (JE.d (yf nH aB))))) aR)))) bW)
  (aA (cJ (bL (cy hr.units) (jv 3) aC) (aN (bg (jc NS hr (aE (ys hr 0 aB) (aE (JE.d (iK (jv 4) kF (iu (JE.d (yf nH aB))))) aR))))) bW)
  (aA (zs gP.nd 5 (jc g9 hr (aE (ys hr 0 aB) (aE (jv 1) (bF (bu 2) aR)))))
  (aA (cJ (bL (cy hr.units) (jv 3) aC) (aN (bg (A2 ⟨cp,rfl,by decide⟩ rfl (G6 rfl N.VH (ah (jv 5) (ah (jv 4) az))) (fun a a a a=>jQ) (fun a a a a=>(rO (jv 0) (nD (jv 1))))))) bW)
  (aA (cJ (bL (cy hr.units) (jv 3) aC) (aN (bg (A2 ⟨cp,rfl,by decide⟩ rfl (G6 rfl N.VH (ah (jv 5) (ah (jv 4) az))) (fun a a a a=>jQ) (fun a a a a=>(Lk (jv 0) (nD (jv 1))))))) bW)
  (aN (bg (jc nj hr (aE (JE.d (iK (jv 5) kF (iu (JE.d (yf nH aB))))) (aE (JE.d (iK (jv 4) kF (iu (JE.d (yf nH aB))))) aR)))))))))))))))))))) (UJ j)
abbrev kq:Stmt:=top 24
def fP:bA ["saying","row","known","truths","place","happening","part"] ["saying","row","known"] (aP kq):=sI
def vE (D:Df K mg "at_happenings" kq) (N:Nb P w K ao mg) (j4:fj P w K mg base 10 "put_for" ["saying","x","k"] (d8 9)) (g9:fj P w K mg base (j+10) "truths_of" ["saying","row","known"] (DZ j)):fj P w K mg base (j+10+1) "at_happenings" ["saying","row","known"] (RP (j+1)):=
 sQ (g:=dc (d8 9) (DZ j)) D fP (fun a a a a a a a hr=>(aA (zs fP.nd 3 (gB az))
  (aA (Po ac1 rfl (Pn rfl N.FY (ah (jv 1) az)) (yi rfl (iJ (zg fP.nd 4) (iJ (zg fP.nd 5) tu))) (aN (cJ (bL (cy hr.units) (ys hr 5 aB) (ys hr 0 aB)) (aA (zs fP.nd 6 (jc j4 hr (aE (ys hr 0 aB) (aE (ys hr 0 aB) (aE (ys hr 5 aB) aR)))))
  (aN (cW (JD.e (fu (i:=3) aaU aaV dw dz dB (ah (JE.d (mS uP (JE.d (jc g9 hr (aE (jv 6) (aE (jv 1) (bF (bu 2) aR))))) (jv 4) (fun a a=>rfl))) az)))))) (aN (cW (JD.e (fu (i:=3) aaU aaV dw dz dB (ah (JE.d (iB (cy hr.units) (ys hr 0 aB) aC)) az))))))))
  (aN (bg (bu 3)))))) (UK j)
abbrev kr:Stmt:=top 25
def vF:bA ["truths"] ["truths"] (aP kr):=sI
def vG (D:Df K mg "turned_truths" kr):fj P w K mg base 1 "turned_truths" ["truths"] turnF:=
 sQ (g:=iQ) D vF (fun a a a a a a a hr=>(aN (bg (qF cp rfl (uR (jv 0)) (fun a a a a=>jQ) (fun a a a a=>(Ti (jv 0))))))) MM
abbrev vH:Stmt:=top 26
def nZ:bA ["stays","comes","truths","stay","come"] ["stays","comes"] (aP vH):=sI
def Ga (D:Df K mg "come_to" vH) (N:Nb P w K ao mg):fj P w K mg base 1 "come_to" ["stays","comes"] lu:=
 sQ (g:=qP) D nZ (fun a a a a a a a hr=>(aA (zs nZ.nd 2 (gB (ah q9 az)))
  (aA (pq ac1 rfl (TX rfl N.JH (ah (JE.d (Fp rfl rfl N.YM rfl N.VH (ah (jv 0) (ah (jv 1) az)))) az)) (yi rfl (iJ (zg nZ.nd 3) (iJ (zg nZ.nd 4) tu))) (aN (cW (JD.e (fu (i:=2) aaU aaV dw dz dB (ah (Lk (jv 4) (nD (rO (jv 3) (nD (ys hr 2 (JE.d (yf nH aB))))))) az))))))
  (aA (cW (JD.e (Lx (i:=2) PySem.F.slot_list_reverse PySem.F.type_list_reverse EK EV E5)))
  (aN (bg (bu 2))))))) MN
abbrev vI:Stmt:=top 27
def Gb:bA ["truths"] ["truths"] (aP vI):=sI
def Gd (D:Df K mg "at_some" vI) (N:Nb P w K ao mg) (nj:fj P w K mg base 1 "come_to" ["stays","comes"] lu):fj P w K mg base 2 "at_some" ["truths"] Sh.lZ:=
 sQ (g:=m9 lu) D Gb (fun a a a a a a a hr=>(aN (bg (jc nj hr (aE (JE.d (bD G0 (JE.d (gB (ah q9 az))) (gD (i:=0) rfl N.mC))) (aE (jv 0) aR)))))) Sh.MQ
abbrev zy:Stmt:=top 28
def JK:bA ["truths"] ["truths"] (aP zy):=sI
def JL (D:Df K mg "at_all" zy) (eU:fj P w K mg base 1 "turned_truths" ["truths"] turnF) (lH:fj P w K mg base 2 "at_some" ["truths"] Sh.lZ):fj P w K mg base 3 "at_all" ["truths"] Sh.DW:=
 sQ (g:=pY turnF Sh.lZ) D JK (fun a a a a a a a hr=>(aN (bg (jc eU hr (aE (JE.d (jc lH hr (aE (JE.d (jc eU hr (aE (jv 0) aR))) aR))) aR))))) Sh.Qj
abbrev Ge:Stmt:=top 29
def Q9:bA ["n","truths"] ["n","truths"] (aP Ge):=sI
def Rb (D:Df K mg "soon" Ge) (N:Nb P w K ao mg):fj P w K mg base 1 "soon" ["n","truths"] wu:=
 sQ (g:=Fz) D Q9 (fun a a a a a a a hr=>(aN (bg (qF (cs ["n","truths"] [0,1]) rfl (jC rfl N.su (ah (JE.d (bD bN (gD (i:=1) rfl N.mC) aB)) az)) (fun a a a a=>jQ) (fun a a a a=>(JE.d (kO (Iq rfl) rfl N.acP PyProof.Rows.Boot.any (ah (JE.d (iK (jv 2) (iu (jv 0)) (iu (JE.d (bD bN (jv 0) (jv 1)))))) az)))))))) MR
abbrev jq:Stmt:=nY 35 0
def sC:bA ["self","words"] ["self","words"] (aP jq):=sI
def sD (D:zT K ao "__init__" "Reader.__init__" jq) (N:Nb P w K ao mg):gX P w K mg base 1 ao "__init__" ["self","words"] ((zm ao)):=
 PV (g:=fy ao) D sC (fun a a a a a a a hr=>(aA (BX 0 N.bR N.jU (jv 1))
  (aA (BX 0 N.bR N.lA aB)
  (aA (BX 0 N.bR N.ki aB)
  (aN (BX 0 N.bR N.kj aB)))))) (Nu ao)
abbrev lI:Stmt:=nY 35 1
def xh:bA ["self"] ["self"] (aP lI):=sI
def xj (D:zT K ao "taken" "Reader.taken" lI) (N:Nb P w K ao mg):gX P w K mg base 1 ao "taken" ["self"] ((ni ao)):=
 PV (g:=jj ao) D xh (fun a a a a a a a hr=>(aA (cJ (bL (cy hr.units) (pK 0 N.bR N.lA) (JE.d (kO uQ rfl N.mC adL (ah (pK 0 N.bR N.jU) az)))) (aN L6) bW)
  (aA (BY 0 (fo:=fun i j=>i+j) N.bR N.lA EC aB)
  (aN (bg (mS uP (pK 0 N.bR N.jU) (JE.d (bD eV (pK 0 N.bR N.lA) aB)) (fun a a=>rfl))))))) (QG ao)
abbrev ku:Stmt:=nY 35 2
def vJ:bA ["self","right"] ["self","right"] (aP ku):=sI
def vK (D:zT K ao "wanted" "Reader.wanted" ku):gX P w K mg base 1 ao "wanted" ["self","right"] jo:=
 PV (g:=kh) D vJ (fun a a a a a a a hr=>(aN (cJ (Lj (ER (jv 1))) (aN L6) bW))) Ng
abbrev iF:Stmt:=nY 35 3
def j5:bA ["self","word"] ["self"] (aP iF):=sI
def qd (D:zT K ao "name_taken" "Reader.name_taken" iF) (N:Nb P w K ao mg) (cj:gX P w K mg base 1 ao "taken" ["self"] ((ni ao))) (bS:gX P w K mg base 1 ao "wanted" ["self","right"] jo) (zz:fj P w K mg base 1 "is_name" ["thing"] wj):gX P w K mg base 2 ao "name_taken" ["self"] ((Ex ao)):=
 PV (g:=dR ((ni ao)) jo wj ao) D j5 (fun a a a a a a a hr=>(aA (zs j5.nd 1 (PX 0 N.bR cj hr))
  (aA (cW (jm 0 N.bR bS hr (aE (JE.d (jc zz hr (aE (jv 1) aR))) aR)))
  (aN (bg (bu 1)))))) (UY ao)
abbrev iG:Stmt:=nY 35 4
def j6:bA ["self","around","head"] ["self","around"] (aP iG):=sI
def qg (D:zT K ao "head_taken" "Reader.head_taken" iG) (N:Nb P w K ao mg) (cj:gX P w K mg base 1 ao "taken" ["self"] ((ni ao))) (bS:gX P w K mg base 1 ao "wanted" ["self","right"] jo) (zA:fj P w K mg base 1 "is_head" ["word"] zf):gX P w K mg base 2 ao "head_taken" ["self","around"] ((UZ ao)):=
 by obtain⟨zx,lD,lE⟩:=N.uz;obtain⟨Of,z5⟩:=N.zX;obtain⟨Rc,Ct⟩:=N.Co;obtain⟨Og,Aa⟩:=N.zY;exact PV (g:=c7 ((ni ao)) jo zf ao) D j6 (fun a a a a a a a hr=>(aA (zs j6.nd 2 (PX 0 N.bR cj hr))
  (aA (BY 0 (fo:=fun i j=>i+j) N.bR N.ki EC aB)
  (aA (cJ (BW hr.units rfl lD lE (jv 2)) (aN (BY 0 (fo:=fun i j=>i+j) N.bR N.kj EC aB)) bW)
  (aA (cW (jm 0 N.bR bS hr (aE (rO (JE.d (jc zA hr (aE (jv 2) aR))) (nD (JE.d (iB ES (pK 0 N.bR N.ki) (tH rfl z5))))) aR)))
  (aA (cW (jm 0 N.bR bS hr (aE (rO (JE.d (iB nG (jv 1) (tH rfl Ct))) (nD (JE.d (iB ES (pK 0 N.bR N.kj) (tH rfl Aa))))) aR)))
  (aN (bg (bu 2))))))))) (U0 ao)
abbrev iH:Stmt:=nY 35 5
def ia:bA ["self","bound","head","word"] ["self","bound"] (aP iH):=sI
def qh (D:zT K ao "test_taken" "Reader.test_taken" iH) (N:Nb P w K ao mg) (cj:gX P w K mg base 1 ao "taken" ["self"] ((ni ao))) (cO:gX P w K mg base 2 ao "name_taken" ["self"] ((Ex ao))) (bS:gX P w K mg base 1 ao "wanted" ["self","right"] jo):gX P w K mg base 3 ao "test_taken" ["self","bound"] ((J6 ao)):=
 by obtain⟨NT,nk,nq⟩:=N.Ec;exact PV (g:=bY ((ni ao)) ((Ex ao)) jo ao) D ia (fun a a a a a a a hr=>(aA (zs ia.nd 2 (PX 0 N.bR cj hr))
  (aA (cJ (bL (cy hr.units) (jv 2) aC) (aN (bg (aG (ah aC az)))) bW)
  (aA (cJ (bL (cy hr.units) (jv 2) aC) (aN (bg (aG (ah aC (ah (JE.d (PX 0 N.bR cO hr)) az))))) bW)
  (aA (cW (jm 0 N.bR bS hr (aE (JE.d (iB (EY hr.units) (jv 2) (JE.d (aG (ah aC (ah aC (ah aC az))))) (by with_unfolding_all rfl))) aR)))
  (aA (zs ia.nd 3 (PX 0 N.bR cj hr))
  (aA (cW (jm 0 N.bR bS hr (aE (Lk (yD rfl nk nq (jv 3)) (nD (JE.d (iB (EY hr.units) (jv 3) (jv 1) (by with_unfolding_all rfl))))) aR)))
  (aN (bg (aG (ah (jv 2) (ah (Fj rfl nk nq (jv 3) (jv 3)) az)))))))))))) (U5 ao)
abbrev gF:Stmt:=nY 35 6
def jr:bA ["self","word"] ["self"] (aP gF):=sI
def n6 (D:zT K ao "within_taken" "Reader.within_taken" gF) (N:Nb P w K ao mg) (cj:gX P w K mg base 1 ao "taken" ["self"] ((ni ao))) (bS:gX P w K mg base 1 ao "wanted" ["self","right"] jo):gX P w K mg base 2 ao "within_taken" ["self"] ((J7 ao)):=
 by obtain⟨NT,nk,nq⟩:=N.Ec;obtain⟨JM,vL⟩:=N.vA;exact PV (g:=dm ((ni ao)) jo ao) D jr (fun a a a a a a a hr=>(aA (zs jr.nd 1 (PX 0 N.bR cj hr))
  (aA (cW (jm 0 N.bR bS hr (aE (rO (yD rfl nk nq (jv 1)) (nD (JE.d (iB ES (uU rfl nk nq (jv 1)) (tH rfl vL))))) aR)))
  (aN (bg (JD.e (uU rfl nk nq (jv 1)))))))) (U6 ao)
abbrev ie:Stmt:=nY 35 7
def gG:bA ["self","bound","around","head","name"] ["self","bound","around"] (aP ie):=sI
def oM (D:zT K ao "begin_taken" "Reader.begin_taken" ie) (N:Nb P w K ao mg) (iW:gX P w K mg base 2 ao "head_taken" ["self","around"] ((UZ ao))) (iX:gX P w K mg base 3 ao "test_taken" ["self","bound"] ((J6 ao))) (ig:gX P w K mg base 2 ao "within_taken" ["self"] ((J7 ao))) (cO:gX P w K mg base 2 ao "name_taken" ["self"] ((Ex ao))):gX P w K mg base 4 ao "begin_taken" ["self","bound","around"] ((Wg ao)):=
 by obtain⟨zx,lD,lE⟩:=N.uz;exact PV (g:=bG ((UZ ao)) ((J6 ao)) ((J7 ao)) ((Ex ao)) ao) D gG (fun a a a a a a a hr=>(aA (zs gG.nd 3 (jm 0 N.bR iW hr (aE (jv 2) aR)))
  (aA (cJ (bL (cy hr.units) (jv 3) aC) (aN (bg (aG (ah (jv 3) (ah (JE.d (jm 0 N.bR iX hr (aE (jv 1) aR))) az))))) bW)
  (aA (cJ (bL (cy hr.units) (jv 3) aC) (aN (bg (aG (ah (jv 3) (ah (JE.d (PX 0 N.bR ig hr)) az))))) bW)
  (aA (cJ (BW hr.units rfl lD lE (jv 3)) (aA (zs gG.nd 4 (PX 0 N.bR cO hr))
  (aN (bg (aG (ah (jv 3) (ah (jv 4) (ah (JE.d (PX 0 N.bR cO hr)) az))))))) bW)
  (aN (bg (aG (ah (jv 3) az))))))))) (Va ao)
abbrev gH:Stmt:=nY 35 8
def cY:bA ["self","bound","around","saying","inner","number"] ["self","bound","around"] (aP gH):=sI
def n8 (D:zT K ao "saying_taken" "Reader.saying_taken" gH) (N:Nb P w K ao mg) (iI:gX P w K mg base 4 ao "begin_taken" ["self","bound","around"] ((Wg ao))) (mF:fj P w K mg base 1 "bound_within" ["saying","bound"] mq) (mG:fj P w K mg base 1 "parts_wanted" ["head"] J8) (dN:gX P w K mg base (j+4) ao "saying_taken" ["self","bound","around"] (FJ ao j)):gX P w K mg base (j+4+1) ao "saying_taken" ["self","bound","around"] (FJ ao (j+1)):=
 PV (g:=bM ((Wg ao)) mq J8 (FJ ao j) ao) D cY (fun a a a a a a a hr=>(aA (zs cY.nd 3 (jm 0 N.bR iI hr (aE (jv 1) (aE (jv 2) aR))))
  (aA (zs cY.nd 4 (jc mF hr (aE (jv 3) (aE (jv 1) aR))))
  (aA (pq ac1 rfl (jC rfl N.su (ah (JE.d (jc mG hr (aE (ys hr 3 aB) aR))) az)) (zg cY.nd 5) (aN (zs cY.nd 3 (bD bN (jv 3) (JE.d (aG (ah (JE.d (jm 0 N.bR dN hr (aE (jv 4) (aE (JE.d (bD bN (jv 2) aB)) aR)))) az)))))))
  (aN (bg (bu 3))))))) (Vc ao j)
abbrev mH:Stmt:=top 36
def lJ:bA ["text","reader","saying"] ["text"] (aP mH):=sI
def zB (D:Df K mg "read_saying" mH) (N:Nb P w K ao mg) (jP:gX P w K mg base 1 ao "__init__" ["self","words"] ((zm ao))) (dN:gX P w K mg base 13 ao "saying_taken" ["self","bound","around"] (FJ ao 9)) (uD:ZE K mg "Reader" ao):fj P w K mg base 14 "read_saying" ["text"] ((RS ao)):=
 sQ (g:=iN ((zm ao)) (FJ ao 9) ao) D lJ (fun a a a a a a a hr=>(aA (zs lJ.nd 1 (jk uD jP hr (aE (JE.d (Ds Du adX PySem.F.type_str_split IM (jv 0) aC)) aR)))
  (aA (zs lJ.nd 2 (jm 1 N.bR dN hr (aE (JE.d (aG az)) (aE aB aR))))
  (aA (cJ (bL nG (pK 1 N.bR N.lA) (JE.d (kO uQ rfl N.mC adL (ah (pK 1 N.bR N.jU) az)))) (aN L6) bW)
  (aN (bg (bu 2))))))) (Vk ao)
abbrev sE:Stmt:=top 38
def j7:bA ["saying","parts","ahead","words","part"] ["saying"] (aP sE):=sI
def Eg (D:Df K mg "words_of" sE) (N:Nb P w K ao mg) (kK:fj P w K mg base 1 "parts_of" ["saying"] jf) (nu:fj P w K mg base (j+1) "words_of" ["saying"] (jK j)):fj P w K mg base (j+1+1) "words_of" ["saying"] (jK (j+1)):=
 sQ (g:=cE jf (jK j)) D j7 (fun a a a a a a a hr=>(aA (zs j7.nd 1 (jc kK hr (aE (jv 0) aR)))
  (aA (zs j7.nd 2 (Xr (bL (cy hr.units) (ys hr 0 aB) aC) (JD.e (ys hr 0 aB)) (iK (jv 0) (iu aB) (iu (JE.d (bD eV (gD (i:=0) rfl N.mC) (gD (i:=1) rfl N.mC)))))))
  (aA (zs j7.nd 3 (bD bN (JE.d (gB (ah (ys hr 0 aB) az))) (JE.d (qF cp rfl (uR (jv 2)) (fun a a a a=>jQ) (fun a a a a=>(JE.d (AD Fg rfl N.VF aeD (ah (jv 0) az))))))))
  (aA (pq ac1 rfl (uR (jv 1)) (zg j7.nd 4) (aN (cW (JD.e (fu (i:=3) PySem.F.slot_list_extend PySem.F.type_list_extend E6 Iz IA (ah (JE.d (jc nu hr (aE (jv 4) aR))) az))))))
  (aN (bg (bu 3)))))))) (Jw j)
abbrev Cu:Stmt:=top 39
def NU:bA ["saying"] ["saying"] (aP Cu):=sI
def NV (D:Df K mg "shown" Cu) (nu:fj P w K mg base 10 "words_of" ["saying"] (jK 9)):fj P w K mg base 11 "shown" ["saying"] qb:=
 sQ (g:=uy (jK 9)) D NU (fun a a a a a a a hr=>(aN (bg (Ds Fe PySem.F.slot_str_join PySem.F.type_str_join L5 aC (JE.d (jc nu hr (aE (jv 0) aR))))))) Jz
abbrev qi:Stmt:=top 41
def oh:bA ["_law_script","_law_at","_law_cell"] ["_law_script","_law_at"] (aP qi):=sI
def Cv (D:Df K mg "_law_tape" qi) (N:Nb P w K ao mg):fj P w K mg base 1 "_law_tape" ["_law_script","_law_at"] tV:=
 sQ (g:=lV) D oh (fun a a a a a a a hr=>(aA (zs oh.nd 2 (bu 1))
  (aA (cJ (bL uO (gD (i:=0) rfl N.mC) aB) (aN (zs oh.nd 2 (bD bN (ys hr 0 (JE.d (bD kE (jv 1) (gD (i:=0) rfl N.mC)))) (JE.d (bD BH (jv 1) (gD (i:=0) rfl N.mC)))))) bW)
  (aN (bg (GZ (hk:=Nat.le_of_ble_eq_true rfl) (pH (jv 2) (pH (JE.d (kO (E2 rfl) rfl N.acQ PyProof.Rows.Boot.max (ah aB (ah (JE.d (bD eV (jv 2) (JE.d (bD O2 aB aB)))) az)))) (pH aB GY))))))))) Mi
abbrev qj:Stmt:=top 42
def ju:bA ["_law_tape_here","_law_many","_law_turn","_law_found","_law_mixed"] ["_law_tape_here","_law_many"] (aP qj):=sI
def Cw (D:Df K mg "_law_pick" qj):fj P w K mg base 1 "_law_pick" ["_law_tape_here","_law_many"] cG:=
 sQ (g:=lU) D ju (fun a a a a a a a hr=>(aA (zs ju.nd 2 (bD bN (ys hr 0 aC) aB))
  (aA (BQ (i:=0) (AA hr) aC (jv 2))
  (aA (cJ (bL uO (ys hr 0 aC) aB) (aA (zs ju.nd 3 (bD kE (ys hr 0 aC) (jv 1)))
  (aA (BQ (i:=0) (AA hr) aC (JE.d (bD BH (ys hr 0 aC) (jv 1))))
  (aN (bg (bu 3))))) bW)
  (aA (zs ju.nd 4 (bD sY (JE.d (bD bN (JE.d (bD bN (JE.d (bD kE (ys hr 0 aC) aB)) (JE.d (bD sY (JE.d (bD sY aB (jv 2))) (jv 2))))) aB)) aB))
  (aA (zs ju.nd 4 (bD sY (JE.d (bD bN (JE.d (bD kE (jv 4) aB)) (JE.d (bD sY aB (jv 2))))) aB))
  (aN (bg (bD kE (JE.d (bD BH (JE.d (bD kE (jv 4) aB)) aB)) (jv 1)))))))))) pick_run
abbrev oq:Stmt:=top 43
def Ab:bA [] [] (aP oq):=sI
def Ac (D:Df K mg "_law_names" oq):fj P w K mg base 1 "_law_names" [] kg:=
 sQ (g:=tU) D Ab (fun a a a a a a a hr=>(aN (bg (gB (ah aC (ah aC (ah aC (ah aC (ah aC (ah aC (ah aC (ah aC az)))))))))))) IU
abbrev ou:Stmt:=top 44
def dH:bA ["_law_tape_here","_law_names_here","_law_table_here","_law_left","_law_k","_law_name","_law_most"] ["_law_tape_here"] (aP ou):=sI
def Ad (D:Df K mg "_law_table" ou) (N:Nb P w K ao mg) (qk:fj P w K mg base 1 "_law_names" [] kg) (aZ:fj P w K mg base 1 "_law_pick" ["_law_tape_here","_law_many"] cG):fj P w K mg base 2 "_law_table" ["_law_tape_here"] nL:=
 sQ (g:=nK kg cG) D dH (fun a a a a a a a hr=>(aA (zs dH.nd 1 (jc0 qk hr))
  (aA (zs dH.nd 2 (aG az))
  (aA (zs dH.nd 3 (JD.e aB))
  (aA (pq ac1 rfl (jC rfl N.su (ah (JE.d (mS uP (JE.d (gB (ah aB (ah aB (ah aB (ah aB (ah aB az))))))) (JE.d (jc aZ hr (bF (bu 0) (aE aB aR)))) (fun a a=>rfl))) az)) (zg dH.nd 4) (aA (zs dH.nd 5 (JD.e (fu (i:=1) PySem.F.slot_list_pop PySem.F.type_list_pop K3 Ly LJ (ah (JE.d (jc aZ hr (bF (bu 0) (aE (gD (i:=1) rfl N.mC) aR)))) az))))
  (aA (zs dH.nd 6 (kO (E1 rfl) rfl N.acR PyProof.Rows.Boot.min (ah aB (ah (JE.d (bD bN (JE.d (bD eV (jv 3) aB)) (jv 4))) (ah (JE.d (jc aZ hr (bF (bu 0) (aE aB aR)))) az)))))
  (aA (zs dH.nd 2 (bD bN (jv 2) (JE.d (aG (ah (JE.d (aG (ah (jv 5) (ah (jv 6) az)))) az)))))
  (aN (zs dH.nd 3 (bD eV (JE.d (bD eV (jv 3) (jv 6))) aB)))))))
  (aN (bg (bu 2)))))))) IW
abbrev sF:Stmt:=top 45
def iZ:bA ["_law_tape_here","_law_table_here","_law_most","_law_row_here","_law_k","_law_name","_law_highest"] ["_law_tape_here","_law_table_here","_law_most"] (aP sF):=sI
def Eh (D:Df K mg "_law_row" sF) (N:Nb P w K ao mg) (aZ:fj P w K mg base 1 "_law_pick" ["_law_tape_here","_law_many"] cG):fj P w K mg base 2 "_law_row" ["_law_tape_here","_law_table_here","_law_most"] B6:=
 sQ (g:=rY cG) D iZ (fun a a a a a a a hr=>(aA (zs iZ.nd 3 (aG az))
  (aA (pq ac1 rfl (jC rfl N.su (ah (JE.d (jc aZ hr (bF (bu 0) (aE (JE.d (bD bN (jv 2) aB)) aR)))) az)) (zg iZ.nd 4) (aA (Lq (ys hr 1 (JE.d (jc aZ hr (bF (bu 0) (aE (gD (i:=1) rfl N.mC) aR))))) (yi rfl (iJ (zg iZ.nd 5) (iJ (zg iZ.nd 6) tu))))
  (aN (zs iZ.nd 3 (bD bN (jv 3) (JE.d (aG (ah (JE.d (aG (ah (jv 5) (ah (JE.d (jc aZ hr (bF (bu 0) (aE (JE.d (bD bN (jv 6) aB)) aR)))) az)))) az))))))))
  (aN (bg (bu 3)))))) PJ
abbrev qm:Stmt:=top 46
def kJ:bA ["_law_tape_here","_law_names_here","_law_variables","_law_way","_law_number"] ["_law_tape_here","_law_names_here","_law_variables"] (aP qm):=sI
def Cy (D:Df K mg "_law_test" qm) (N:Nb P w K ao mg) (aZ:fj P w K mg base 1 "_law_pick" ["_law_tape_here","_law_many"] cG):fj P w K mg base 2 "_law_test" ["_law_tape_here","_law_names_here","_law_variables"] jH:=
 sQ (g:=jZ cG) D kJ (fun a a a a a a a hr=>(aA (zs kJ.nd 3 (jc aZ hr (bF (bu 0) (aE aB aR))))
  (aA (cJ (bL (cy hr.units) (jv 3) aB) (aN (bg (aG (ah aC az)))) bW)
  (aA (cJ (bL (cy hr.units) (jv 3) aB) (aN (bg (aG (ah aC (ah (ys hr 1 (JE.d (jc aZ hr (bF (bu 0) (aE (gD (i:=1) rfl N.mC) aR))))) az))))) bW)
  (aA (zs kJ.nd 4 (mS uP (JE.d (gB (ah aB (ah aB (ah aB (ah aB (ah aB (ah aB az)))))))) (JE.d (jc aZ hr (bF (bu 0) (aE aB aR)))) (fun a a=>rfl)))
  (aA (cJ (JW.t (yg (bL (yr hr.units) (jv 2) (JE.d (aG az))) (kP (bL uO (JE.d (jc aZ hr (bF (bu 0) (aE aB aR)))) aB)))) (aN (zs kJ.nd 4 (JD.e (ys hr 2 (JE.d (jc aZ hr (bF (bu 0) (aE (gD (i:=2) rfl N.mC) aR)))))))) bW)
  (aN (bg (aG (ah (JE.d (mS uP (JE.d (gB (ah aC (ah aC (ah aC az))))) (JE.d (bD eV (jv 3) aB)) (fun a a=>rfl))) (ah (jv 4) az))))))))))) Je
abbrev ow:Stmt:=top 47
def fE:bA ["_law_tape_here","_law_world","_law_variables","_law_room","_law_deep","_law_way","_law_names_here","_law_x","_law_head"] ["_law_tape_here","_law_world","_law_variables","_law_room","_law_deep"] (aP ow):=sI
def Ae (D:Df K mg "_law_inner" ow) (N:Nb P w K ao mg) (aZ:fj P w K mg base 1 "_law_pick" ["_law_tape_here","_law_many"] cG) (cZ:fj P w K mg base (j+2) "_law_saying" ["_law_tape_here","_law_world","_law_variables","_law_room","_law_deep"] (oJ j)):fj P w K mg base (j+2+1) "_law_inner" ["_law_tape_here","_law_world","_law_variables","_law_room","_law_deep"] (DS (j+1)):=
 sQ (g:=dX cG (oJ j)) D fE (fun a a a a a a a hr=>(aA (zs fE.nd 5 (jc aZ hr (bF (bu 0) (aE aB aR))))
  (aA (cJ (JW.t (yg (bL nG (jv 5) aB) (kP (bL nG (ys hr 1 aC) aB)))) (aA (BQ (i:=1) (AA hr) aC (JE.d (bD bN (ys hr 1 aC) aB)))
  (aA (zs fE.nd 6 (JD.e (ys hr 1 aC)))
  (aA (zs fE.nd 7 (mS uP (JE.d (gB (ah aC (ah aC (ah aC (ah aC az)))))) (JE.d (jc aZ hr (bF (bu 0) (aE aB aR)))) (fun a a=>rfl)))
  (aA (zs fE.nd 8 (aG (ah (JE.d (mS uP (JE.d (gB (ah aC (ah aC az)))) (JE.d (bD kE (jv 5) aB)) (fun a a=>rfl))) (ah (ys hr 6 (JE.d (jc aZ hr (bF (bu 0) (aE (gD (i:=6) rfl N.mC) aR))))) (ah (jv 7) az)))))
  (aN (bg (bD bN (jv 8) (JE.d (aG (ah (JE.d (jc cZ hr (bF (bu 0) (bF (bu 1) (aE (JE.d (bD bN (jv 2) (JE.d (aG (ah (jv 7) az))))) (aE (JE.d (bD eV (jv 3) aB)) (aE (JE.d (bD eV (jv 4) aB)) aR))))))) az)))))))))) bW)
  (aA (zs fE.nd 8 (aG (ah (JE.d (mS uP (JE.d (gB (ah aC (ah aC (ah aC (ah aC az)))))) (JE.d (bD kE (jv 5) aB)) (fun a a=>rfl))) az)))
  (aA (cJ (bL (cy hr.units) (jv 5) aB) (aN (zs fE.nd 8 (aG (ah aC (ah (JE.d (jc aZ hr (bF (bu 0) (aE aB aR)))) az))))) bW)
  (aN (bg (bD bN (jv 8) (JE.d (aG (ah (JE.d (jc cZ hr (bF (bu 0) (bF (bu 1) (aE (jv 2) (aE (JE.d (bD eV (jv 3) aB)) (aE (JE.d (bD eV (jv 4) aB)) aR))))))) az))))))))))) (P7 j)
abbrev mJ:Stmt:=top 48
def ir:bA ["_law_tape_here","_law_world","_law_variables","_law_room","_law_deep","_law_way","_law_first","_law_one","_law_other"] ["_law_tape_here","_law_world","_law_variables","_law_room","_law_deep"] (aP mJ):=sI
def zC (D:Df K mg "_law_saying" mJ) (aZ:fj P w K mg base 1 "_law_pick" ["_law_tape_here","_law_many"] cG) (sG:fj P w K mg base 2 "_law_test" ["_law_tape_here","_law_names_here","_law_variables"] jH) (cZ:fj P w K mg base (j+2) "_law_saying" ["_law_tape_here","_law_world","_law_variables","_law_room","_law_deep"] (oJ j)) (wG:fj P w K mg base (j+2) "_law_inner" ["_law_tape_here","_law_world","_law_variables","_law_room","_law_deep"] (DS j)):fj P w K mg base (j+2+1) "_law_saying" ["_law_tape_here","_law_world","_law_variables","_law_room","_law_deep"] (oJ (j+1)):=
 sQ (g:=cV cG jH (oJ j) (DS j)) D ir (fun a a a a a a a hr=>(aA (zs ir.nd 5 (jc aZ hr (bF (bu 0) (aE aB aR))))
  (aA (cJ (JW.t (AE (bL nG (jv 3) aB) (AE (bL nG (jv 4) aB) (qz (bL (cy hr.units) (jv 5) aB))))) (aA (cJ (bL (cy hr.units) (JE.d (bD kE (jv 5) aB)) aB) (aN (bg (aG (ah (JE.d (mS uP (JE.d (gB (ah aC (ah aC az)))) (JE.d (jc aZ hr (bF (bu 0) (aE aB aR)))) (fun a a=>rfl))) az)))) bW)
  (aN (bg (aG (ah aC (ah (JE.d (jc sG hr (bF (bu 0) (aE (ys hr 1 aC) (aE (jv 2) aR))))) az)))))) bW)
  (aA (cJ (JW.t (yg (bL nG (jv 5) aB) (kP (bL uO (jv 3) aB)))) (aA (zs ir.nd 6 (bD bN aB (JE.d (jc aZ hr (bF (bu 0) (aE (JE.d (bD eV (jv 3) aB)) aR))))))
  (aA (zs ir.nd 7 (jc cZ hr (bF (bu 0) (bF (bu 1) (aE (jv 2) (aE (jv 6) (aE (JE.d (bD eV (jv 4) aB)) aR)))))))
  (aA (zs ir.nd 8 (jc cZ hr (bF (bu 0) (bF (bu 1) (aE (jv 2) (aE (JE.d (bD eV (JE.d (bD eV (jv 3) aB)) (jv 6))) (aE (JE.d (bD eV (jv 4) aB)) aR)))))))
  (aN (bg (aG (ah (JE.d (mS uP (JE.d (gB (ah aC (ah aC (ah aC (ah aC az)))))) (JE.d (bD eV (jv 5) aB)) (fun a a=>rfl))) (ah (jv 7) (ah (jv 8) az))))))))) bW)
  (aN (bg (jc wG hr (bF (bu 0) (bF (bu 1) (aE (jv 2) (aE (jv 3) (aE (jv 4) aR)))))))))))) (P6 j)
abbrev kB:Stmt:=top 49
def nv:bA ["_law_t","_law_name","_law_k","_law_here"] ["_law_t","_law_name","_law_k"] (aP kB):=sI
def vM (D:Df K mg "_law_numbered" kB) (j4:fj P w K mg base 10 "put_for" ["saying","x","k"] (d8 9)):fj P w K mg base 11 "_law_numbered" ["_law_t","_law_name","_law_k"] FT:=
 sQ (g:=gg (d8 9)) D nv (fun a a a a a a a hr=>(aA (zs nv.nd 3 (aG (ah aC (ah (JE.d (aG (ah aC (ah (JE.d (aG (ah aC (ah (jv 1) az)))) az)))) (ah (JE.d (aG (ah aC (ah (JE.d (aG (ah aC (ah (jv 2) az)))) az)))) az)))))
  (aN (bg (aG (ah aC (ah (JE.d (aG (ah aC (ah (JE.d (aG (ah aC (ah (jv 3) az)))) (ah (JE.d (jc j4 hr (aE (jv 0) (aE aC (aE (jv 2) aR))))) az))))) az))))))) QY
abbrev oz:Stmt:=top 50
def mK:bA ["_law_s","_law_r","_law_n","_law_some","_law_found"] ["_law_s","_law_r","_law_n"] (aP oz):=sI
def Af (D:Df K mg "_law_pairs" oz):fj P w K mg base 1 "_law_pairs" ["_law_s","_law_r","_law_n"] FU:=
 sQ (g:=nX) D mK (fun a a a a a a a hr=>(aA (zs mK.nd 3 (aG (ah aC (ah (JE.d (aG (ah aC (ah (JE.d (aG (ah aC az))) az)))) az))))
  (aA (zs mK.nd 4 (gB (ah (JE.d (aG (ah (JE.d (aG (ah aC (ah (JE.d (aG (ah aC (ah (jv 0) (ah (jv 1) az))))) az)))) (ah (JE.d (aG (ah aC (ah (JE.d (aG (ah aC (ah (jv 0) az)))) (ah (JE.d (aG (ah aC (ah (jv 1) az)))) az))))) az)))) az)))
  (aA (cW (JD.e (fu (i:=4) aaU aaV dw dz dB (ah (JE.d (aG (ah (JE.d (aG (ah aC (ah (JE.d (aG (ah aC (ah (jv 0) (ah (jv 1) az))))) az)))) (ah (JE.d (aG (ah aC (ah (JE.d (aG (ah aC (ah (jv 0) az)))) (ah (JE.d (aG (ah aC (ah (jv 1) az)))) az))))) az)))) az))))
  (aA (cW (JD.e (fu (i:=4) aaU aaV dw dz dB (ah (JE.d (aG (ah (JE.d (aG (ah aC (ah (JE.d (aG (ah aC (ah (jv 0) az)))) az)))) (ah (JE.d (aG (ah aC (ah (JE.d (aG (ah aC (ah (jv 3) az)))) (ah (JE.d (aG (ah aC (ah (JE.d (aG (ah aC (ah (jv 0) az)))) az)))) az))))) az)))) az))))
  (aA (cW (JD.e (fu (i:=4) aaU aaV dw dz dB (ah (JE.d (aG (ah (JE.d (aG (ah aC (ah (jv 0) az)))) (ah (JE.d (aG (ah aC (ah (JE.d (aG (ah aC az))) (ah (jv 0) az))))) az)))) az))))
  (aA (cW (JD.e (fu (i:=4) aaU aaV dw dz dB (ah (JE.d (aG (ah (JE.d (aG (ah aC (ah (jv 0) az)))) (ah (JE.d (aG (ah aC (ah (JE.d (aG (ah aC (ah (JE.d (aG (ah aC (ah (jv 0) az)))) az)))) az)))) az)))) az))))
  (aA (cW (JD.e (fu (i:=4) aaU aaV dw dz dB (ah (JE.d (aG (ah (JE.d (aG (ah aC (ah (JE.d (aG (ah aC az))) (ah (jv 0) az))))) (ah (JE.d (aG (ah aC (ah (JE.d (aG (ah aC (ah (JE.d (aG (ah aC az))) az)))) (ah (jv 0) az))))) az)))) az))))
  (aA (cW (JD.e (fu (i:=4) aaU aaV dw dz dB (ah (JE.d (aG (ah (JE.d (aG (ah aC (ah (JE.d (aG (ah aC (ah (jv 0) (ah (jv 1) az))))) (ah (JE.d (aG (ah aC az))) az))))) (ah (JE.d (aG (ah aC az))) az)))) az))))
  (aA (cW (JD.e (fu (i:=4) aaU aaV dw dz dB (ah (JE.d (aG (ah (JE.d (aG (ah aC (ah (JE.d (bD bN (jv 2) aB)) (ah (jv 0) az))))) (ah (JE.d (aG (ah aC (ah (JE.d (aG (ah aC (ah (jv 3) (ah (jv 0) az))))) (ah (JE.d (aG (ah aC (ah (JE.d (aG (ah aC (ah (jv 2) (ah (jv 0) az))))) az)))) az))))) az)))) az))))
  (aA (cW (JD.e (fu (i:=4) aaU aaV dw dz dB (ah (JE.d (aG (ah (JE.d (aG (ah aC (ah (JE.d (aG (ah aC (ah (jv 0) (ah (jv 1) az))))) az)))) (ah (JE.d (aG (ah aC (ah (JE.d (aG (ah aC (ah (jv 0) az)))) (ah (JE.d (aG (ah aC (ah (jv 1) az)))) az))))) az)))) az))))
  (aA (cW (JD.e (fu (i:=4) aaU aaV dw dz dB (ah (JE.d (aG (ah (JE.d (aG (ah aC (ah (JE.d (aG (ah aC (ah (jv 0) (ah (jv 1) az))))) az)))) (ah (JE.d (aG (ah aC (ah (JE.d (aG (ah aC (ah (jv 0) az)))) (ah (JE.d (aG (ah aC (ah (jv 1) az)))) az))))) az)))) az))))
  (aA (cW (JD.e (fu (i:=4) aaU aaV dw dz dB (ah (JE.d (aG (ah (JE.d (aG (ah aC (ah (JE.d (aG (ah aC (ah (jv 0) az)))) az)))) (ah (jv 0) az)))) az))))
  (aA (cW (JD.e (fu (i:=4) aaU aaV dw dz dB (ah (JE.d (aG (ah (JE.d (aG (ah aC (ah aB (ah (jv 0) az))))) (ah (JE.d (aG (ah aC az))) az)))) az))))
  (aN (bg (bu 4))))))))))))))))) QZ
abbrev NW:Stmt:=top 51
def gI:bA ["_law_script","_law_k","_law_tape_here","_law_table_here","_law_names_here","_law_row_here","_law_world","_law_s","_law_r","_law_t","_law_name","_law_most","_law_pairs_here","_law_at","_law_one","_law_other","_law_found","_law_parts"] ["_law_script"] (aP NW):=sI
def VI {f:Addr}{fd:FuncData}(F:OR K "law" "law" NW f fd) (N:Nb P w K ao mg) (sH:fj P w K mg base 1 "_law_tape" ["_law_script","_law_at"] tV) (qo:fj P w K mg base 2 "_law_table" ["_law_tape_here"] nL) (vN:fj P w K mg base 2 "_law_row" ["_law_tape_here","_law_table_here","_law_most"] B6) (cZ:fj P w K mg base 19 "_law_saying" ["_law_tape_here","_law_world","_law_variables","_law_room","_law_deep"] (oJ 17)) (aZ:fj P w K mg base 1 "_law_pick" ["_law_tape_here","_law_many"] cG) (qp:fj P w K mg base 1 "_law_pairs" ["_law_s","_law_r","_law_n"] FU) (sJ:fj P w K mg base 35 "holds" ["saying","row","place"] rH) (oA:fj P w K mg base 14 "read_saying" ["text"] ((RS ao))) (Gf:fj P w K mg base 11 "shown" ["saying"] qb) (lK:fj P w K mg base 11 "_law_numbered" ["_law_t","_law_name","_law_k"] FT):jW P w K mg base BE 36 f fd ["_law_script"] (spT K 1 (DK 63)):=
 okT (g:=HB tV nL B6 (oJ 17) cG FU rH ((RS ao)) qb FT) F gI (fun a a a a a a hr=>(aA (pq ac1 rfl (jC rfl N.su (ah (JE.d (bD bN aB (JE.d (kO uQ rfl N.mC adL (ah (JE.d (Iw (i:=0) kF (iu aB))) az))))) az)) (zg gI.nd 1) (aA (zs gI.nd 2 (jc sH hr (bF (bu 0) (aE (jv 1) aR))))
  (aA (zs gI.nd 3 (jc qo hr (bF (bu 2) aR)))
  (aA (IT (i:=4) gI.nd rfl (by first | exact Or.inl rfl | exact Or.inr rfl) ⟨cp,rfl,by decide⟩ rfl (Ls (jv 3)) (fun a a a a=>jQ) (fun a a a a=>(jv 0)))
  (aA (zs gI.nd 5 (jc vN hr (bF (bu 2) (aE (jv 3) (aE aB aR)))))
  (aA (zs gI.nd 6 (GZ (hk:=Nat.le_of_ble_eq_true rfl) (pH (JE.d (bD bN (jv 4) (JE.d (gB (ah aC az))))) (pH aB GY))))
  (aA (zs gI.nd 7 (jc cZ hr (bF (bu 2) (bF (bu 6) (aE (JE.d (aG az)) (aE (JE.d (bD bN aB (JE.d (jc aZ hr (bF (bu 2) (aE aB aR)))))) (aE (JE.d (bD bN aB (JE.d (jc aZ hr (bF (bu 2) (aE aB aR)))))) aR)))))))
  (aA (zs gI.nd 8 (jc cZ hr (bF (bu 2) (bF (bu 6) (aE (JE.d (aG az)) (aE (JE.d (bD bN aB (JE.d (jc aZ hr (bF (bu 2) (aE aB aR)))))) (aE (JE.d (bD bN aB (JE.d (jc aZ hr (bF (bu 2) (aE aB aR)))))) aR)))))))
  (aA (zs gI.nd 9 (jc cZ hr (bF (bu 2) (bF (bu 6) (aE (JE.d (aG (ah aC az))) (aE (JE.d (bD bN aB (JE.d (jc aZ hr (bF (bu 2) (aE aB aR)))))) (aE (JE.d (bD bN aB (JE.d (jc aZ hr (bF (bu 2) (aE aB aR)))))) aR)))))))
  (aA (Lq (ys hr 3 (JE.d (jc aZ hr (bF (bu 2) (aE (gD (i:=3) rfl N.mC) aR))))) (yi rfl (iJ (zg gI.nd 10) (iJ (zg gI.nd 11) tu))))
  (aA (zs gI.nd 12 (jc qp hr (aE (jv 7) (aE (jv 8) (aE (JE.d (jc aZ hr (bF (bu 2) (aE aB aR)))) aR)))))
  (aA (cW (JD.e (fu (i:=12) aaU aaV dw dz dB (ah (JE.d (aG (ah (JE.d (aG (ah aC (ah (jv 10) (ah aC (ah (jv 9) az)))))) (ah (JE.d (aG (ah aC (ah (JE.d (aG (ah aC (ah (jv 10) (ah aC (ah (JE.d (aG (ah aC (ah (jv 9) az)))) az)))))) az)))) az)))) az))))
  (aN (pq ac1 rfl (jC rfl N.su (ah (JE.d (bD bN (gD (i:=5) rfl N.mC) aB)) az)) (zg gI.nd 13) (aA (pq ac1 rfl (Ls (jv 12)) (yi rfl (iJ (zg gI.nd 14) (iJ (zg gI.nd 15) tu))) (aA (zs gI.nd 16 (jc sJ hr (aE (jv 14) (aE (jv 5) (aE (jv 13) aR)))))
  (aN (cJ (JW.t (AE (bL (yr hr.units) (jv 16) (JE.d (jc sJ hr (aE (jv 15) (aE (jv 5) (aE (jv 13) aR)))))) (qz (bL (yr hr.units) (jv 16) (JE.d (jc sJ hr (aE (JE.d (jc oA hr (aE (JE.d (jc Gf hr (aE (jv 14) aR))) aR))) (aE (jv 5) (aE (jv 13) aR))))))))) (aN (bg (JD.e q9))) bW))))
  (aA (zc gI.nd 17 (cs ["_law_at","_law_name","_law_row_here","_law_t"] [13,10,5,9]) (jC rfl N.su (ah (JE.d (bD bN (jv 11) aB)) az)) (fun a a a a=>jQ) (fun a a a a=>(JE.d (jc sJ hr (aE (JE.d (jc lK hr (aE (jv 4) (aE (jv 2) (aE (jv 0) aR))))) (aE (jv 3) (aE (jv 1) aR)))))))
  (aN (cJ (bL (yr hr.units) (JE.d (jc sJ hr (aE (JE.d (aG (ah aC (ah (jv 10) (ah aC (ah (jv 9) az)))))) (aE (jv 5) (aE (jv 13) aR))))) (JE.d (iB (Im hr.units) q9 (jv 17) (by with_unfolding_all rfl)))) (aN (bg (JD.e q9))) bW))))))))))))))))))
  (aN (bg (JD.e q9))))) (JF ao)
set_option maxHeartbeats 0 in
def all_mk {fa:Addr}(uD:ZE K mg "Reader" ao) (NX:Df K mg "is_name" vB) (Rf:Df K mg "passes" zp) (NY:Df K mg "is_head" vC) (Ag:Df K mg "parts_wanted" lB) (JN:Df K mg "parts_of" sA) (Ah:Df K mg "bound_within" lC) (Ai:Df K mg "has_variable" lF) (Ei:Df K mg "put_for" vD) (VJ:Df K mg "holds" Cp) (zD:Df K mg "truths_of" qc) (oG:Df K mg "truths_by_head" jO) (qq:Df K mg "at_happenings" kq) (zE:Df K mg "turned_truths" kr) (NZ:Df K mg "come_to" vH) (N1:Df K mg "at_some" vI) (Rg:Df K mg "at_all" zy) (YO:Df K mg "soon" Ge) (vO:zT K ao "__init__" "Reader.__init__" jq) (Aj:zT K ao "taken" "Reader.taken" lI) (zF:zT K ao "wanted" "Reader.wanted" ku) (sM:zT K ao "name_taken" "Reader.name_taken" iF) (sN:zT K ao "head_taken" "Reader.head_taken" iG) (sO:zT K ao "test_taken" "Reader.test_taken" iH) (qu:zT K ao "within_taken" "Reader.within_taken" gF) (qY:zT K ao "begin_taken" "Reader.begin_taken" ie) (j8:zT K ao "saying_taken" "Reader.saying_taken" gH) (Cz:Df K mg "read_saying" mH) (Bj:Df K mg "words_of" sE) (VL:Df K mg "shown" Cu) (Gg:Df K mg "_law_tape" qi) (Gh:Df K mg "_law_pick" qj) (Ej:Df K mg "_law_names" oq) (Ek:Df K mg "_law_table" ou) (JP:Df K mg "_law_row" sF) (Gi:Df K mg "_law_test" qm) (wH:Df K mg "_law_inner" ow) (uE:Df K mg "_law_saying" mJ) (zG:Df K mg "_law_numbered" kB) (El:Df K mg "_law_pairs" oz) (acS:Df K mg "law" NW) (N:Nb l.prog w K ao mg) (Xx:mg "law" =some (.ref fa)):
  ∃fd:FuncData,(∀(s:Shared) (v:Value),BindsTo s fd ⟨[v],[]⟩ [("_law_script",v)])/\∀base:Heap,K.In base->base.Ns mainGlobals mg->jW l.prog w K mg base BE 36 fa fd ["_law_script"] (spT K 1 (DK 63)):=by
 obtain⟨f,fd,F,m⟩:=acS.ex
 cases Xx.symm.trans m
 refine⟨fd,fun s v=>?_,fun base a a=>?_⟩
 ·obtain⟨_,_,_,_,_,_,_,_,_,rfl,_,_⟩:=F.ex
  exact .of_eq rfl
 ·have zz:=F5 (P:=l.prog) (w:=w) (mg:=mg) (base:=base) NX N
  have Cs:=JJ (P:=l.prog) (w:=w) (mg:=mg) (base:=base) Rf
  have zA:=F7 (P:=l.prog) (w:=w) (mg:=mg) (base:=base) NY N
  have mG:=wW (P:=l.prog) (w:=w) (mg:=mg) (base:=base) Ag N
  have kK:=Ef (P:=l.prog) (w:=w) (mg:=mg) (base:=base) JN N
  have mF:=wY (P:=l.prog) (w:=w) (mg:=mg) (base:=base) Ah N
  have mD:=xg (P:=l.prog) (w:=w) (mg:=mg) (base:=base) Ai N
  have eU:=vG (P:=l.prog) (w:=w) (mg:=mg) (base:=base) zE
  have nj:=Ga (P:=l.prog) (w:=w) (mg:=mg) (base:=base) NZ N
  have NS:=Rb (P:=l.prog) (w:=w) (mg:=mg) (base:=base) YO N
  have jP:=sD (P:=l.prog) (w:=w) (mg:=mg) (base:=base) vO N
  have cj:=xj (P:=l.prog) (w:=w) (mg:=mg) (base:=base) Aj N
  have bS:=vK (P:=l.prog) (w:=w) (mg:=mg) (base:=base) zF
  have sH:=Cv (P:=l.prog) (w:=w) (mg:=mg) (base:=base) Gg N
  have aZ:=Cw (P:=l.prog) (w:=w) (mg:=mg) (base:=base) Gh
  have qk:=Ac (P:=l.prog) (w:=w) (mg:=mg) (base:=base) Ej
  have qp:=Af (P:=l.prog) (w:=w) (mg:=mg) (base:=base) El
  have lH:=Gd (P:=l.prog) (w:=w) (mg:=mg) (base:=base) N1 N nj
  have cO:=qd (P:=l.prog) (w:=w) (mg:=mg) (base:=base) sM N cj bS zz
  have iW:=qg (P:=l.prog) (w:=w) (mg:=mg) (base:=base) sN N cj bS zA
  have ig:=n6 (P:=l.prog) (w:=w) (mg:=mg) (base:=base) qu N cj bS
  have qo:=Ad (P:=l.prog) (w:=w) (mg:=mg) (base:=base) Ek N qk aZ
  have vN:=Eh (P:=l.prog) (w:=w) (mg:=mg) (base:=base) JP N aZ
  have sG:=Cy (P:=l.prog) (w:=w) (mg:=mg) (base:=base) Gi N aZ
  have xK:=JL (P:=l.prog) (w:=w) (mg:=mg) (base:=base) Rg eU lH
  have iX:=qh (P:=l.prog) (w:=w) (mg:=mg) (base:=base) sO N cj cO bS
  have iI:=oM (P:=l.prog) (w:=w) (mg:=mg) (base:=base) qY N iW iX ig cO
  have N2:∀j:Nat,fj l.prog w K mg base (j+1) "put_for" ["saying","x","k"] (d8 j):=by
   intro j
   induction j with
   | zero=>exact nM Ei (Jk)
   | succ j ih=>exact(F9 (P:=l.prog) (w:=w) (mg:=mg) (base:=base) Ei N mD kK ih).mono (by omega)
  have j4:=(N2 9)
  have JQ:∀j:Nat,fj l.prog w K mg base (j+1) "words_of" ["saying"] (jK j):=by
   intro j
   induction j with
   | zero=>exact nM Bj (D5)
   | succ j ih=>exact(Eg (P:=l.prog) (w:=w) (mg:=mg) (base:=base) Bj N kK ih).mono (by omega)
  have nu:=(JQ 9)
  have Gf:=NV (P:=l.prog) (w:=w) (mg:=mg) (base:=base) VL nu
  have lK:=vM (P:=l.prog) (w:=w) (mg:=mg) (base:=base) zG j4
  have qw:∀j:Nat,gX l.prog w K mg base (j+4) ao "saying_taken" ["self","bound","around"] (FJ ao j):=by
   intro j
   induction j with
   | zero=>exact Mv j8 (Nn ao)
   | succ j ih=>exact(n8 (P:=l.prog) (w:=w) (mg:=mg) (base:=base) j8 N iI mF mG ih).mono (by omega)
  have dN:=(qw 9)
  have oA:=zB (P:=l.prog) (w:=w) (mg:=mg) (base:=base) Cz N jP dN uD
  have wI:∀j:Nat,fj l.prog w K mg base (j+2) "_law_saying" ["_law_tape_here","_law_world","_law_variables","_law_room","_law_deep"] (oJ j)/\fj l.prog w K mg base (j+2) "_law_inner" ["_law_tape_here","_law_world","_law_variables","_law_room","_law_deep"] (DS j):=by
   intro j
   induction j with
   | zero=>exact⟨nM uE (Jg),nM wH (Jh)⟩
   | succ j ih=>exact⟨(zC (P:=l.prog) (w:=w) (mg:=mg) (base:=base) uE aZ sG ih.1 ih.2).mono (by omega),(Ae (P:=l.prog) (w:=w) (mg:=mg) (base:=base) wH N aZ ih.1).mono (by omega)⟩
  have cZ:=(wI 17).1
  have wG:=(wI 17).2
  have sP:∀j:Nat,fj l.prog w K mg base (j+10) "truths_of" ["saying","row","known"] (DZ j)/\fj l.prog w K mg base (j+10) "truths_by_head" ["saying","row","known"] (RO j)/\fj l.prog w K mg base (j+10) "at_happenings" ["saying","row","known"] (RP j):=by
   intro j
   induction j with
   | zero=>exact⟨nM zD (M3),nM oG (M4),nM qq (M5)⟩
   | succ j ih=>exact⟨(Cr (P:=l.prog) (w:=w) (mg:=mg) (base:=base) zD ih.2.1).mono (by omega),(uC (P:=l.prog) (w:=w) (mg:=mg) (base:=base) oG N Cs xK ih.2.2 lH ih.1 eU NS nj).mono (by omega),(vE (P:=l.prog) (w:=w) (mg:=mg) (base:=base) qq N j4 ih.1).mono (by omega)⟩
  have g9:=(sP 24).1
  have oF:=(sP 24).2.1
  have lG:=(sP 24).2.2
  have sJ:=NR (P:=l.prog) (w:=w) (mg:=mg) (base:=base) VJ g9
  exact VI F N sH qo vN cZ aZ qp sJ oA Gf lK
def walk {q:Program}{loose:List Str}{XP:(Str->Option Value)->Heap->Prop}{YP:World->Heap->Prop}{d:DefRec}{K:Params->PySem.W.Frag}(hn:l.most=some 63) (hdf:d.params.defaults=[])
  (hY:∀(w:World) (h:Heap),YP w h->(K w.params).In h)
  (F:∀(w:World) (mg:AAF) (fa:Addr) (h:Heap),(K w.params).In h->h.Ns mainGlobals mg->mg d.name=some (.ref fa)->
   ∃fd:FuncData,(∀(s:Shared) (u:Value),BindsTo s fd ⟨[u],[]⟩ [("_law_script",u)])/\∀base:Heap,(K w.params).In base->base.Ns mainGlobals mg->jW l.prog w (K w.params) mg base BE 36 fa fd ["_law_script"] (spT (K w.params) 1 (DK 63))):
  PySem.W.WalkO q loose XP YP l.row.toRowW d [] (fun f vs=>PySem.call f vs):=
 L2.OQ (n:=63) (k:=36) (x:="_law_script") (CX:=fun b=>BE) (sp:=fun w=>spT (K w.params) 1 (DK 63)) hn (by decide) hdf ⟨rfl,by decide,by decide,rfl⟩ hY F (fun w H a ns hl hO hS=>Uh hl hO hS) fun b b b b b z=>z
end K14
open PySem PySem.W PyProof.Rows
noncomputable def PySem.W.Fast.tw14028575841061095168:Nat->Stmt:=K14.top
theorem PySem.W.Fast.te14028575841061095168:K14.top=PySem.W.Fast.tw14028575841061095168:=rfl
def K14.sc:Scope:=PySem.Challenge.pw_surewatch_k14_whole_put_otherwise.main.scope
noncomputable def PySem.W.Fast.tw7015585097528778100:Scope:=K14.sc
theorem PySem.W.Fast.te7015585097528778100:K14.sc=PySem.W.Fast.tw7015585097528778100:=rfl
def K14.pw:Program:={main:={body:=[K14.top 0,K14.top 1,K14.top 2,K14.top 3,K14.top 4,K14.top 5,K14.top 6,K14.top 7,K14.top 8,K14.top 9,K14.top 10,K14.top 11,K14.top 12,K14.top 13,K14.top 14,K14.top 15,K14.top 16,K14.top 17,K14.top 18,K14.top 19,K14.top 20,K14.top 21,K14.top 22,K14.top 23,K14.top 24,K14.top 25,K14.top 26,K14.top 27,K14.top 28,K14.top 29,K14.top 30,K14.top 31,K14.top 32,K14.top 33,K14.top 34,K14.top 35,K14.top 36,K14.top 37,K14.top 38,K14.top 39,K14.top 40,K14.top 41,K14.top 42,K14.top 43,K14.top 44,K14.top 45,K14.top 46,K14.top 47,K14.top 48,K14.top 49,K14.top 50,K14.top 51],scope:=K14.sc,futureAnnotations:=false,file:="/claim/cut.py",more:=[]},modules:=[],parses:=[],absent:=[],harvested:=[],given:={argv:=[],stdin:=[],environ:=some [([76,67,95,65,76,76],[67,46,85,84,70,45,56])]}}
def K14.rw:OpenLaw:={prog:=K14.pw,name:=(PySem.Str.ofString "law"),about:=[(PySem.Str.ofString "holds")],foot:=11,most:=some 63,bound:=none,writes:=false}
def PySem.W.Fast.tw8173160589290272517:=0
def PySem.W.Fast.tw14022922137067615946:=0
def PySem.W.Fast.tw6033437646518839392:=0
def PySem.W.Fast.tw987808750735172826:=0
def PySem.W.Fast.tw11257735896106037406:=0
def PySem.W.Fast.tw18043914527110259658:=0
def PySem.W.Fast.tw3745963658111945174:=0
def PySem.W.Fast.tw6105165390235169306:=0
def PySem.W.Fast.tw14049549785712439121:=0
def PySem.W.Fast.tw4115643153714136838:=0
def PySem.W.Fast.tw10037296070939804728:=0
def PySem.W.Fast.tw16860628521554212474:=0
def PySem.W.Fast.tw15464118422320337461:=0
def PySem.W.Fast.tw1059369975963029757:=0
def PySem.W.Fast.tw9817742855599375052:=0
def PySem.W.Fast.tw1075116317362775736:=0
def PySem.W.Fast.tw10437424073184980023:=0
def PySem.W.Fast.tw16789612582358912001:=0
def PySem.W.Fast.tw13390686908846284179:=0
def PySem.W.Fast.tw6097432161961527692:=0
def PySem.W.Fast.tw1750676531992401346:=0
def PySem.W.Fast.tw15740315326224136482:=0
def PySem.W.Fast.tw6259408464977242781:=0
def PySem.W.Fast.tw15311561460937333948:=0
def PySem.W.Fast.tw14784437473923901513:=0
def PySem.W.Fast.tw15847233789913362877:=0
def PySem.W.Fast.tw13377809278712730984:=0
def PySem.W.Fast.tw13473983999832826118:=0
def PySem.W.Fast.tw8430989965311082368:=0
def PySem.W.Fast.tw12181930380335504572:=0
def PySem.W.Fast.tw12693978875283589902:=0
def PySem.W.Fast.tw2572815491129040898:=0
def PySem.W.Fast.tw9628022753525961795:=0
def PySem.W.Fast.tw612040110128843744:=0
def PySem.W.Fast.tw7984699773665670405:=0
def PySem.W.Fast.tw16563828891872497057:=0
def PySem.W.Fast.tw4020423881860299294:=0
def PySem.W.Fast.tw12662598759376794277:=0
def PySem.W.Fast.tw6747690317438200633:=0
def PySem.W.Fast.tw11500269426727642232:=0
def PySem.W.Fast.tw7836489438032594165:=0
def PySem.W.Fast.tw17031478994967524950:=0
def PySem.W.Fast.tw14774821507243145551:=0
def PySem.W.Fast.tw5486296519256063040:=0
def PySem.W.Fast.tw3942794020461220506:=0
def PySem.W.Fast.tw11622346502130122877:=0
def PySem.W.Fast.tw4489753527259701928:=0
def PySem.W.Fast.tw3279057225398214419:=0
def PySem.W.Fast.tw14483180002274185449:=0
def PySem.W.Fast.tw13539821210433396421:=0
def PySem.W.Fast.tw8438716323175900631:=0
def PySem.W.Fast.tw17215037721907493859:=0
def PySem.W.Fast.tw13995636356928588340:=0
def PySem.W.Fast.tw13181706797841846607:=0
def PySem.W.Fast.tw7090032425849089332:=0
def PySem.W.Fast.tw2279207446097513303:=0
def PySem.W.Fast.tw4804682933446429934:=0
def PySem.W.Fast.tw9571563681516233603:=0
def PySem.W.Fast.tw1432377222507875765:=0
def PySem.W.Fast.tw6726272947799203411:=0
def PySem.W.Fast.tw13429186628713378840:=0
def PySem.W.Fast.tw1267407860980843104:=0
def PySem.W.Fast.tw7717537357420821277:=0
def PySem.W.Fast.tw8340666169233808506:=0
def PySem.W.Fast.tw9865556522121278318:=0
def PySem.W.Fast.tw16369706829487079302:=0
def PySem.W.Fast.tw1337032951563827351:=0
def PySem.W.Fast.tw14837921928935046849:=0
def PySem.W.Fast.tw2825277378782271551:=0
set_option maxRecDepth 100000 in
set_option maxHeartbeats 0 in
def K14.holds:K14.rw.Holds:=by
 w_on;o_law;k_head;(case hw=>w_witness2)
 k_fill
 refine K14.walk (l:=K14.rw) rfl rfl (fun w h Y=>PySem.W.kIn_of Y) ?F
 case F=>
  intro w mg fa h KX G hmg
  refine' K14.all_mk ?uD ?_ ?_ ?_ ?_ ?_ ?_ ?_ ?_ ?_ ?_ ?_ ?_ ?_ ?_ ?_ ?_ ?_ ?_ ?_ ?_ ?_ ?_ ?_ ?_ ?_ ?_ ?_ ?_ ?_ ?_ ?_ ?_ ?_ ?_ ?_ ?_ ?_ ?_ ?_ ?_ ?_ hmg
  (case uD=>refine' L2.Uj KX G ?a ?b ?c;(case a=>k_is);(case b=>k_is);(case c=>k_is))
  iterate 17 (refine' L2.RG KX G ?a ?l ?c ?k;(case a=>k_is);(case l=>k_is);(case c=>k_is);(case k=>k_is))
  iterate 9 (refine' L2.Ui ?a ?l ?c ?k ?y;(case a=>k_is);(case l=>k_is);(case c=>k_is);(case k=>k_is);(case y=>k_is))
  iterate 14 (refine' L2.RG KX G ?a ?l ?c ?k;(case a=>k_is);(case l=>k_is);(case c=>k_is);(case k=>k_is))
  refine⟨ab5 KX G ?_,ab5 KX G ?_,ab5 KX G ?_,ab5 KX G ?_,ab5 KX G ?_,ab5 KX G ?_,ab5 KX G ?_,ab5 KX G ?_,ab5 KX G ?_,ab5 KX G ?_,ab5 KX G ?_,ab5 KX G ?_,ab5 KX G ?_,⟨_,acT KX G (by k_is)⟩,⟨_,acT KX G (by k_is)⟩,⟨_,acT KX G (by k_is),L2.BV (by k_is) (by decide) (by(repeat refine⟨⟨rfl,⟨_,rfl⟩,_,rfl⟩,?_⟩);trivial)⟩,⟨_,acT KX G (by k_is),L2.BV (by k_is) (by decide) (by(repeat refine⟨⟨rfl,⟨_,rfl⟩,_,rfl⟩,?_⟩);trivial)⟩,⟨_,acT KX G (by k_is),L2.Pu (by k_is) (by decide) (by(repeat refine⟨⟨_,rfl⟩,?_⟩);trivial)⟩,⟨_,acT KX G (by k_is)⟩,⟨_,acT KX G (by k_is)⟩,⟨_,acT KX G (by k_is)⟩,⟨_,acT KX G (by k_is),L2.BV (by k_is) (by decide) (by(repeat refine⟨⟨rfl,⟨_,rfl⟩,_,rfl⟩,?_⟩);trivial)⟩,⟨_,acT KX G (by k_is)⟩,⟨?_,?_,?_,?_⟩,?_,?_,?_,?_⟩ <;> k_is
theorem PySem.Challenge.cw_surewatch_k14_whole_put_otherwise_holds : PySem.Challenge.rw_surewatch_k14_whole_put_otherwise.Holds :=
 K14.holds
