import PyProof.Rows.All
import Wide.All
import OpenK.AllK
import Wide.FinOn
import PyProof.EqAt
import PyProof.EqKinds
import PyProof.TupleCall
import Lean
import PySem.Challenge.RW_surewatch_k06_counted_in_sayings
set_option Elab.async false
set_option linter.all false
set_option maxRecDepth 100000
abbrev BBB:=List PySem.Str
abbrev BBC:=List PySem.Expr
abbrev BBD:=List Int
abbrev BBE:=List PySem.Addr
abbrev BBF:=List PySem.Env
abbrev BBG:=List PySem.Value
abbrev BBH:=List PySem.Stmt
abbrev BBI:=List PySem.Keyword
abbrev BBJ:=List Nat
abbrev BBL:=Option PySem.Expr
abbrev BBM:=Option Int
abbrev BBN:=Option PySem.Addr
abbrev BBP:=Option PySem.Value
noncomputable section
abbrev BBT(x:PySem.Str):Prop:=(x == ("__debug__":PySem.Str))=false
abbrev BBU(x:PySem.Str):Prop:=(x == ("__classdict__":PySem.Str))=false
abbrev AAA:=PySem.W.Frag
abbrev AAB:=PySem.Value->PySem.Shared->Prop
abbrev AAC:=PySem.Str->Option PySem.Value
abbrev AAD:=List (PySem.Addr×PySem.Obj)
abbrev AAG:=List (PySem.Str×Int)
abbrev AAH:=Array PySem.Value
abbrev AAI:=List PySem.Value
abbrev XQ:=@PySem.wpAny_bind
abbrev XR:=@List.size_toArray
abbrev XS:=@PySem.Heap.get?_push_of_some
abbrev XT:=@List.mem_cons
abbrev XU:=@List.mem_singleton
abbrev XW:=@Nat.le_refl
abbrev XX:=@Option.bind_some
abbrev XY:=@List.getElem?_eq_some_iff
abbrev XZ:=@PySem.Heap.lt_size
abbrev X0:=@Nat.lt_of_lt_of_le
abbrev X3:=@List.length_map
abbrev X4:=@List.length_append
abbrev X5:=@List.getElem?_set_ne
abbrev X6:=@PySem.Heap.get?_push_size
abbrev X7:=@Nat.le_trans
abbrev X8:=@List.length_cons
abbrev Yb:=@List.mem_append
abbrev Yc:=@List.mem_cons_of_mem
abbrev Yd:=@List.map_cons
abbrev Ye:=@List.map_nil
abbrev Yg:=@List.mem_append_right
abbrev Yh:=@List.getElem?_eq_getElem
abbrev Yi:=@List.not_mem_nil
abbrev Yj:=@Nat.ne_of_lt
abbrev Yk:=@List.getElem?_set_self
abbrev Yl:=@List.getElem?_map
abbrev Ym:=@Option.some.inj
abbrev Yn:=@List.mem_of_getElem?
abbrev Yo:=@Bool.and_eq_true
abbrev Yp:=@List.mem_cons_self
abbrev Yq:=@Array.getElem?_eq_getElem
abbrev Yr:=@Array.length_toList
abbrev Ys:=@PySem.Heap.get?_update_other
abbrev Yt:=@List.append_nil
abbrev Yu:=@PySem.W.mg_none_of
abbrev Yv:=@List.getD_eq_getElem?_getD
abbrev Yw:=@PySem.wpAny_newObj_type
abbrev Yx:=@PyProof.Rows.slot_tuple_getitem
abbrev Yy:=@decide_eq_false
abbrev Yz:=@PySem.wpAny_ite_split
abbrev YA:=@Classical.byContradiction
abbrev YB:=@PySem.mem_of_lookup
abbrev YC:=@PySem.wpAny_mono
abbrev YD:=@PySem.wpAny_holding
abbrev YE:=@Array.getElem?_toList
abbrev YF:=@or_false
abbrev YG:=@Array.getD_eq_getD_getElem?
abbrev YH:=@PySem.Around.under_plainId
abbrev YI:=@PySem.W.mg_of
abbrev YJ:=@PySem.F.plain_max_loop
abbrev YK:=@decide_eq_true_eq
abbrev YL:=@List.getElem?_append_left
abbrev YM:=@List.find?_cons
abbrev YN:=@List.map_append
abbrev YO:=@List.getElem?_eq_none
abbrev YQ:=@PySem.F.slot_list_append
abbrev YR:=@PySem.F.type_list_append
abbrev YS:=@Nat.lt_irrefl
abbrev YT:=@List.nodup_cons
abbrev YU:=@List.length_set
abbrev YV:=@PySem.codeAny_builtin
abbrev YW:=@PySem.Calls.spliced_cons
abbrev YX:=@PySem.Heap.get?_update_self
abbrev YY:=@Nat.zero_le
abbrev YZ:=@List.mem_map
abbrev Y0:=@Bool.and_eq_true_iff
abbrev Y3:=@PySem.PassesOwn.never
abbrev Y4:=@Ne.symm
abbrev Y5:=@PySem.wpAny_truthy_bool
abbrev Y6:=@List.all_cons
abbrev Y7:=@List.any_cons
abbrev Y8:=@PySem.plainId_quiet
abbrev Y9:=@PySem.wpAny_callSpecial?_slot
abbrev Za:=@List.filter_cons_of_neg
abbrev Zb:=@PySem.wpAny_call_entry
abbrev Zd:=@PySem.Calls.callWith_builtin
abbrev Ze:=@PySem.wpAny_Call_Name_kw
abbrev Zf:=@Nat.lt_of_le_of_lt
abbrev Zg:=@PySem.wpAny_passesOwn
abbrev Zh:=@PySem.F.slot_dict_get
abbrev Zi:=@List.length_singleton
abbrev Zj:=@Classical.choose_spec
abbrev Zk:=@Nat.le_of_ble_eq_true
abbrev Zl:=@if_false
abbrev Zm:=@List.getElem?_append_right
abbrev Zn:=@List.append_assoc
abbrev Zo:=@List.mem_append_left
abbrev Zp:=@decide_eq_true
abbrev Zq:=@PySem.boot_len
abbrev Zr:=@Nat.le_of_lt
abbrev Zs:=@List.length_take
abbrev Zt:=@List.length_drop
abbrev Zu:=@List.all_eq_true
abbrev Zv:=@PySem.F.called_set
abbrev Zw:=@List.getElem?_replicate
abbrev Zx:=@PySem.wpAny_getItem_str_slice
abbrev Zy:=@Bool.false_eq_true
abbrev Zz:=@List.length_nil
abbrev ZA:=@PySem.W.kia_one
abbrev ZC:=@Int.emod_lt_of_pos
abbrev ZD:=@List.nil_append
abbrev ZE:=@PySem.Calls.spliced_nil
abbrev ZF:=@PySem.wpAny_setState_of
abbrev ZG:=@Nat.pow_succ
abbrev ZI:=@PyProof.Rows.Boot.str
abbrev ZJ:=@PySem.Calls.evalArgs_plain
abbrev ZK:=@PySem.wpAny_rule
abbrev ZL:=@PySem.wpAny_askSetting
abbrev ZM:=@List.filterMap_cons
abbrev ZN:=@Bool.or_eq_true
abbrev ZO:=@List.drop_eq_getElem_cons
abbrev ZP:=@Int.emod_nonneg
abbrev ZQ:=@PySem.wpAny_updateSeq
abbrev ZR:=@PySem.codeAny_mono
abbrev ZS:=@PySem.F.args_tuple_add_2
abbrev ZT:=@PySem.wpAny_setField_rec
abbrev ZU:=@PySem.F.slot_list_extend
abbrev ZV:=@PySem.F.type_list_extend
abbrev ZW:=@PySem.wpAny_seqItems
abbrev ZX:=@List.mem_range
abbrev ZY:=@PySem.Heap.size_push
abbrev ZZ:=@List.nodup_nil
abbrev Z0:=@PySem.isSubtype_type
abbrev Z1:=@List.Perm.refl
abbrev Z2:=@PySem.wpAny_tryCatch
abbrev Z3:=@PySem.F.args_dict_get_3
abbrev Z4:=@PySem.F.plainAttrs_dict
abbrev Z5:=@PySem.F.entry_tuple_add
abbrev Z6:=@PySem.F.plainAttrs_list
abbrev Z7:=@List.filter_cons_of_pos
abbrev Z8:=@PyProof.Rows.F.plain_set_update_loop
abbrev Z9:=@of_decide_eq_true
abbrev aaa:=@List.length_range
abbrev aab:=@Nat.lt_succ_of_lt
abbrev aac:=@PySem.F.entry_dict_get
abbrev aad:=@PySem.F.slot_tuple_add
abbrev aae:=@List.take_of_length_le
abbrev aaf:=@PySem.F.entry_max_loop
abbrev aag:=@Bool.or_false
abbrev aah:=@PySem.strLen_append
abbrev aai:=@Nat.lt_succ_self
abbrev aaj:=@List.getElem_mem
abbrev aak:=@PyProof.Rows.Boot.max
abbrev aal:=@PySem.SeqAt.EqAt.bool_bool
abbrev aam:=@PySem.SeqAt.EqAt.same
abbrev aan:=@PySem.wpAny_execs_nil
abbrev aao:=@PyProof.Rows.callWith_builtin1
abbrev aap:=@Nat.lt_trans
abbrev aaq:=@PySem.call_meetsIn
abbrev aar:=@PySem.wpAny_typeOf
abbrev aas:=@PySem.Txt.slice_le
abbrev aat:=@PySem.post_val_or_str
abbrev aau:=@Nat.pow_le_pow_right
abbrev aav:=@List.eq_nil_of_length_eq_zero
abbrev aaw:=@PySem.SeqAt.EqAt.int_bool
abbrev aax:=@PySem.SeqAt.EqAt.bool_int
abbrev aay:=@PySem.SeqAt.EqAt.bool_str
abbrev aaz:=@PySem.SeqAt.EqAt.str_bool
abbrev aaA:=@PySem.Value.isStrOf_shape
abbrev aaB:=@PySem.Heap.SameBut.update
abbrev aaC:=@PySem.wpAny_setEntries_of
abbrev aaD:=@Bool.false_and
abbrev aaE:=@Bool.and_false
abbrev aaF:=@PySem.sizeLine_eq
abbrev aaG:=@Nat.le_succ
abbrev aaH:=@PySem.wpAny_letGo
abbrev aaI:=@PySem.SeqAt.EqAt.int_str
abbrev aaJ:=@PySem.SeqAt.EqAt.str_int
abbrev aaK:=@PySem.SeqAt.EqAt.of_refs
abbrev aaL:=@Bool.false_ne_true
abbrev aaM:=@PyProof.Rows.callWith_type1
abbrev aaN:=@List.pairwise_cons
abbrev aaO:=@PySem.Paired.length
abbrev aaP:=@Sum.inr.injEq
abbrev aaQ:=@List.length_eraseIdx_of_lt
abbrev aaR:=@PySem.wpAny_pyIter_list
abbrev aaS:=@PySem.wpAny_Call_method
abbrev aaT:=@PySem.fits_of_scanBound
abbrev aaU:=@PySem.F.slot_dict_getitem
abbrev aaV:=@PySem.F.plain_extend_loop
abbrev aaW:=@PySem.Around.in1_units
abbrev aaX:=@PySem.wpAny_isInstance
abbrev aaY:=@List.getElem?_take_of_lt
abbrev aaZ:=@PySem.noFill_tuple_add
abbrev aa0:=@Option.getD_some
abbrev aa1:=@List.lookup_cons
abbrev aa2:=@beq_self_eq_true
abbrev aa3:=@Nat.add_zero
abbrev aa4:=@PySem.F.slot_dict_update
abbrev aa5:=@List.any_eq_true
abbrev aa6:=@List.length_eq_zero_iff
abbrev aa7:=@PySem.F.plain_list_iadd
abbrev aa8:=@List.of_mem_zip
section
section
namespace L2
open PySem PySem.Spec PyProof.Rows
inductive D where
 | bN | bl (b:Bool) | int (i:Int) | str (z:Str) | tup (ds:List D) | lst (ds:List D)
mutual
noncomputable def D.same:D->D->Bool
 | .bN,.bN=>true
 | .bl a,.bl b=>a == b
 | .int a,.int b=>a == b
 | .str a,.str b=>decide (a=b)
 | .tup a,.tup b=>D.pJ a b
 | .lst a,.lst b=>D.pJ a b
 | _,_=>false
noncomputable def D.pJ:List D->List D->Bool
 | [],[]=>true
 | a :: as,b :: bs=>D.same a b && D.pJ as bs
 | _,_=>false
end
mutual
theorem D.same_refl:∀a:D,D.same a a=true
 | .bN=>rfl
 | .bl _=>by simp[D.same]
 | .int _=>by simp[D.same]
 | .str _=>by simp[D.same]
 | .tup a=>by unfold D.same;exact D.oq a
 | .lst a=>by unfold D.same;exact D.oq a
theorem D.oq:∀a:List D,D.pJ a a=true
 | []=>rfl
 | a :: as=>by unfold D.pJ;rw[D.same_refl a,D.oq as];rfl
end
mutual
theorem D.same_eq:∀{a b:D},D.same a b=true->a=b
 | .bN,b,h=>by cases b <;> simp[D.same] at h ⊢
 | .bl _,b,h=>by cases b <;> simp[D.same] at h ⊢;exact h
 | .int _,b,h=>by cases b <;> simp[D.same] at h ⊢;exact h
 | .str _,b,h=>by cases b <;> simp[D.same] at h ⊢;exact h
 | .tup a,b,h=>by
  cases b with
  | tup b=>unfold D.same at h;rw[D.uA h]
  | _=>simp[D.same] at h
 | .lst a,b,h=>by
  cases b with
  | lst b=>unfold D.same at h;rw[D.uA h]
  | _=>simp[D.same] at h
theorem D.uA:∀{a b:List D},D.pJ a b=true->a=b
 | [],b,h=>by cases b <;> simp[D.pJ] at h ⊢
 | a :: as,b,h=>by
  cases b with
  | nil=>simp[D.pJ] at h
  | cons b bs=>
   unfold D.pJ at h;rw[Yo] at h;rw[D.same_eq h.1,D.uA h.2]
end
noncomputable instance:DecidableEq D:=fun a b=>if h:D.same a b=true then isTrue (D.same_eq h) else isFalse fun e=>h (e▸D.same_refl a)
noncomputable def bI (b:Bool):Int:=if b then 1 else 0
mutual
noncomputable def nf:D->D
 | .bl b=>.int (bI b)
 | .tup ds=>.tup (NT ds)
 | d=>d
noncomputable def NT:List D->List D
 | []=>[]
 | d :: ds=>nf d :: NT ds
end
noncomputable def fW:Nat->D->Bool
 | _,.bl _=>true
 | _,.int _=>true
 | _,.str _=>true
 | n+1,.tup ds=>ds.all (fW n)
 | _,_=>false
mutual
theorem CA:∀(d:D) (n:Nat),fW n d=true->fW n (nf d)=true
 | .bl _,n,_=>by cases n <;> rfl
 | .int _,n,_=>by cases n <;> rfl
 | .str _,n,_=>by cases n <;> rfl
 | .bN,n,h=>by cases n <;> exact h
 | .lst _,n,h=>by cases n <;> exact h
 | .tup ds,0,h=>by exact h
 | .tup ds,n+1,h=>zO ds n h
theorem zO:∀(ds:List D) (n:Nat),ds.all (fW n)=true->(NT ds).all (fW n)=true
 | [],n,_=>rfl
 | d :: ds,n,h=>by
  rw[Y6,Yo] at h;show((nf d :: NT ds).all (fW n))=true;rw[Y6,CA d n h.1,zO ds n h.2];rfl
end
mutual
inductive wc (h:Heap):Value->D->Prop
 | bool (b:Bool):wc h (.bool b) (.int (bI b))
 | int (i:Int) (t:Tok):wc h (.int i t) (.int i)
 | str (x:Str) (t:Tok):wc h (.str x t) (.str x)
 | tup {a:Addr}{its:AAI}{ds:List D}(p:h.IsTuple a its.toArray) (r:jw h its ds):wc h (.ref a) (.tup ds)
inductive jw (h:Heap):BBG->List D->Prop
 | nil:jw h [] []
 | cons {u:Value}{d:D}{us:AAI}{ds:List D}(r:wc h u d) (rs:jw h us ds):jw h (u :: us) (d :: ds)
end
mutual
noncomputable def E7 (w:World):D->Int
 | .int i=>hashInt i
 | .str x=>hashStr w x
 | .tup ds=>reduceHash (Builtin.Tuple.tupleHashOf (ou w ds))
 | _=>0
noncomputable def ou (w:World):List D->BBD
 | []=>[]
 | d :: ds=>E7 w d :: ou w ds
end
mutual
noncomputable def yE:D->Nat
 | .tup ds=>ue ds+1
 | _=>1
noncomputable def ue:List D->Nat
 | []=>0
 | d :: ds=>yE d+ue ds
end
theorem jw.length {h:Heap}:∀{us:AAI}{ds:List D},jw h us ds->us.length=ds.length
 | _,_,.nil=>rfl
 | _,_,.cons _ rs=>congrArg Nat.succ (jw.length rs)
mutual
theorem wc.inj {h:Heap}:∀{v:Value}{d e:D},wc h v d->wc h v e->d=e
 | _,_,_,.bool b,r=>by cases r;rfl
 | _,_,_,.int i t,r=>by cases r;rfl
 | _,_,_,.str x t,r=>by cases r;rfl
 | _,_,_,@wc.tup _ a its ds p r,q=>by
  cases q with
  | @tup _ its' ds' p' r'=>
   obtain⟨o,h1,_,n,h2⟩:=p;obtain⟨o',zP,_,n',h2'⟩:=p';rw[h1] at zP;cases zP;rw[h2] at h2';injection h2' with e1 _
   have e:its=its':=by simpa using congrArg Array.toList e1
   subst e;rw[jw.inj r r']
theorem jw.inj {h:Heap}:∀{vs:AAI}{ds es:List D},jw h vs ds->jw h vs es->ds=es
 | _,_,_,.nil,r=>by cases r;rfl
 | _,_,_,.cons r1 s1,r=>by
  cases r with
  | cons r2 s2=>rw[wc.inj r1 r2,jw.inj s1 s2]
end
mutual
theorem wc.keeps {h h':Heap}{d:Addr}{o:Obj}{es:Array DictEntry}{ep:Nat}(ho:h.get? d=some o) (hd:o.data= .dict es ep) (hs:Heap.SameBut d h h'):∀{v:Value}{k:D},wc h v k->wc h' v k
 | _,_,.bool b=>.bool b
 | _,_,.int i t=>.int i t
 | _,_,.str x t=>.str x t
 | _,_,@wc.tup _ a its ds p r=>by
  obtain⟨o',h1,h2,n,h3⟩:=p;have hne:a≠d:=by
   intro z;subst z;rw[ho] at h1;cases h1;rw[hd] at h3;cases h3
  exact .tup ⟨o',(hs.2 a hne).trans h1,h2,n,h3⟩ (jw.keeps ho hd hs r)
theorem jw.keeps {h h':Heap}{d:Addr}{o:Obj}{es:Array DictEntry}{ep:Nat}(ho:h.get? d=some o) (hd:o.data= .dict es ep) (hs:Heap.SameBut d h h'):∀{v:AAI}{k:List D},jw h v k->jw h' v k
 | _,_,.nil=>.nil
 | _,_,.cons r1 s1=>.cons (wc.keeps ho hd hs r1) (jw.keeps ho hd hs s1)
end
section
variable {prog:Program}{w:World}{E:AAB}
def sG {A:Around}{s:Shared}{b:Bool}{Q:Int->Shared->Prop}(h:Q (hashInt (bI b)) {s with toks:=s.toks+1}):wpAny (model prog w) A (pyHash (.bool b)) Q E s:=by
 refine PySem.W.pyHash_slot (T:="bool") rfl F.slot_bool_hash F.entry_int_hash (F.args_int_hash_1 _) (beq_builtin_none _) (.inl rfl) ?_;cases b
 ·exact(show wpAny _ _ (do ret (<-mkInt 0)) _ _ s from XQ (wpAny_mkInt (wpAny_pure ⟨_,_,rfl,h⟩)))
 ·exact(show wpAny _ _ (do ret (<-mkInt 1)) _ _ s from XQ (wpAny_mkInt (wpAny_pure ⟨_,_,rfl,h⟩)))
mutual
theorem zQ:∀(d:D){n:Nat}{v:Value}{A:Around}{s:Shared}{Q:Int->Shared->Prop},wc s.heap v d->fW n d=true->A.units+n < cLine->Q (E7 w d) {s with toks:=s.toks+yE d}->wpAny (model prog w) A (pyHash v) Q E s
 | .int i,n,v,A,s,Q,x,_,_,h=>by
  cases x with
  | int=>exact wpAny_pyHash_int h
  | bool b=>exact sG h
 | .str y,n,v,A,s,Q,x,_,_,h=>by cases x;exact wpAny_pyHash_str h
 | .bN,n,v,A,s,Q,x,_,_,h=>by cases x
 | .bl _,n,v,A,s,Q,x,_,_,h=>by cases x
 | .lst _,n,v,A,s,Q,x,_,_,h=>by cases x
 | .tup ds,n,v,A,s,Q,x,hk,hu,h=>by
  cases n with
  | zero=>simp[fW] at hk
  | succ n=>
   cases x with
   | @tup a its _ p r=>
    obtain⟨o,hg,hc,m,hd⟩:=p;refine PySem.W.pyHash_slot (T:="tuple") ⟨_,hg,hc⟩ F.slot_tuple_hash F.entry_tuple_hash (F.args_tuple_hash_1 _) (beq_builtin_none _) (.inr (by lia)) ?_;show wpAny _ _ (Builtin.Tuple.tupleItemsOf (.ref a) >>= _) _ _ s;refine XQ (wpAny_tupleItemsOf hg hd ?_);refine XQ ?_;rw[<-Array.forIn_toList];refine xj ds (n:=n) (A:=A.in1) (b:=#[]) r hk (by rw[aaW];lia) fun b hb=>?_;show wpAny _ _ (retInt (Builtin.Tuple.tupleHashOf b.toList)) _ _ _;rw[hb];refine XQ (wpAny_mkInt (wpAny_pure ⟨_,_,rfl,?_⟩));have e:(#[]:Array Int).toList++ou w ds=ou w ds:=by simp
    rw[e];exact h
theorem xj:∀(ds:List D){n:Nat}{vs:AAI}{A:Around}{s:Shared}{b:Array Int}{Q:Array Int->Shared->Prop},jw s.heap vs ds->ds.all (fW n)=true->A.units+n < cLine->
  (∀b',b'.toList=b.toList++ou w ds->Q b' {s with toks:=s.toks+ue ds})->
  wpAny (model prog w) A (forIn vs b fun x r=>do let h <-pyHash x;pure PUnit.unit;pure (ForInStep.yield (r.push h))) Q E s
 | [],n,_,A,s,b,Q,x,_,_,h=>by cases x;exact wpAny_pure (h b (by simp[ou]))
 | d :: ds,n,_,A,s,b,Q,x,hk,hu,h=>by
  cases x with
  | cons x1 x2=>
   rw[Y6,Yo] at hk;rw[List.forIn_cons];refine XQ (XQ (zQ d (n:=n) x1 hk.1 hu ?_));refine XQ (wpAny_pure (wpAny_pure ?_));refine xj ds (n:=n) x2 hk.2 hu fun b' hb=>?_;have q:=h b' (by simp[hb,ou]);show Q b' {s with toks:=s.toks+yE d+ue ds};rw[Nat.add_assoc];exact q
end
end
def yF (n:Nat) (f:Nat->Bool):(List.range (n+1)).all f=(f 0 && (List.range n).all fun j=>f (j+1)):=by
 rw[List.range_succ_eq_map,Y6,List.all_map];rfl
theorem zR:∀ds es:List D,((List.range (min ds.length es.length)).all (fun j=>decide (ds[j]? =es[j]?)) && ds.length == es.length)=decide (ds=es)
 | [],[]=>by simp
 | [],e :: es=>by simp
 | d :: ds,[]=>by simp
 | d :: ds,e :: es=>by
  have ih:=zR ds es;have e1:min (d :: ds).length (e :: es).length=min ds.length es.length+1:=by simp only[X8];lia
  rw[e1,yF];have e2:(fun j=>decide ((d :: ds)[j+1]? =(e :: es)[j+1]?))=fun j=>decide (ds[j]? =es[j]?):=by funext j;simp
  have e3:((d :: ds).length == (e :: es).length)=(ds.length == es.length):=by simp
  have e4:decide ((d :: ds)[0]? =(e :: es)[0]?)=decide (d=e):=by simp
  have e5:decide (d :: ds=e :: es)=(decide (d=e) && decide (ds=es)):=by
   by_cases a:d=e
   ·subst a;by_cases b:ds=es <;> simp[b]
   ·simp[a]
  rw[e2,e3,e4,Bool.and_assoc,ih,e5]
def E8 {α:Type}(l:List α) (j:Nat) (h:j < l.toArray.size):l[j]? =some l.toArray[j]:=by
 have z:j < l.length:=by simpa using h
 simp[z]
mutual
theorem UY:∀(d:D){e:D}{n:Nat}{A:Around}{s:Shared}{u v:Value},wc s.heap u d->wc s.heap v e->fW n d=true->A.units+n < cLine->SeqAt.EqAt A s u v (decide (d=e))
  | .int i,e,n,A,s,u,v,r1,r2,_,hu=>by
    have di:∀i j:Int,decide (D.int i=D.int j)=(i == j):=fun i j=>by by_cases z:i=j <;> simp[z]
    cases r1 with
    | int _ t=>
      cases r2 with
      | int j t'=>rw[di];exact SeqAt.EqAt.int_int i t j t'
      | bool b=>rw[di];exact aaw i t b
      | str x t'=>exact aaI i t x t'
      | tup p r=>exact SeqAt.EqAt.int_tuple i t p (by lia)
    | bool a=>
      cases r2 with
      | int j t'=>rw[di];exact aax a j t'
      | bool b=>
        have:(bI a == bI b)=(a == b):=by cases a <;> cases b <;> rfl
        rw[di,this];exact aal a b
      | str x t'=>exact aay a x t'
      | tup p r=>exact SeqAt.EqAt.bool_tuple a p (by lia)
  | .str i,e,n,A,s,u,v,r1,r2,_,hu=>by
    cases r1 with
    | str _ t=>
    cases r2 with
    | int j t'=>exact aaJ i t j t'
    | bool b=>exact aaz i t b
    | str x t' => have : decide (D.str i = D.str x) = (i == x) := by by_cases z : i = x <;> simp [z]
                  rw[this];exact SeqAt.EqAt.str_str i t x t'
    | tup p r=>exact SeqAt.EqAt.str_tuple i t p (by lia)
  | .bN,e,n,A,s,u,v,r1,r2,hk,hu=>by cases r1
  | .bl _,e,n,A,s,u,v,r1,r2,hk,hu=>by cases r1
  | .lst _,e,n,A,s,u,v,r1,r2,hk,hu=>by cases r1
  | .tup ds,e,n,A,s,u,v,r1,r2,hk,hu=>by
    cases n with
    | zero=>simp[fW] at hk
    | succ n=>
    cases r1 with
    | @tup ca dY _ pa ra=>
    cases r2 with
    | int j t'=>exact SeqAt.EqAt.tuple_int j t' pa (by lia)
    | bool b=>exact SeqAt.EqAt.tuple_bool b pa (by lia)
    | str x t'=>exact SeqAt.EqAt.tuple_str x t' pa (by lia)
    | @tup cb bM es pb rb=>
      have items:∀j (h1:j < dY.toArray.size) (h2:j < bM.toArray.size),SeqAt.EqAt A.in1 s dY.toArray[j] bM.toArray[j] (decide (ds[j]? =es[j]?)):=fun j h1 h2=>
        NU ds (n:=n) (A:=A.in1) ra rb hk (by rw[aaW];lia) (E8 dY j h1) (E8 bM j h2)
      by_cases hc:ca=cb
      . subst hc
        have z:=wc.inj (.tup pa ra) (.tup pb rb);rw[z,Zp rfl];exact aam _
      . have q:=SeqAt.RcAt.tuples (e:=fun j=>decide (ds[j]? =es[j]?)) pa pb (by lia) items
        rw[XR,XR,ra.length,rb.length,zR] at q;have z:decide (D.tup ds=D.tup es)=decide (ds=es):=by by_cases a:ds=es <;> simp[a]
        rw[z];exact aaK hc q
theorem NU:∀(ds:List D){es:List D}{n:Nat}{A:Around}{s:Shared}{us vs:AAI}{j:Nat}{u v:Value},jw s.heap us ds->jw s.heap vs es->ds.all (fW n)=true->A.units+n < cLine->us[j]? =some u->vs[j]? =some v->
  SeqAt.EqAt A s u v (decide (ds[j]? =es[j]?))
 | [],es,n,A,s,us,vs,j,u,v,r1,r2,hk,hu,h1,h2=>by cases r1;simp at h1
 | d :: ds,es,n,A,s,us,vs,j,u,v,r1,r2,hk,hu,h1,h2=>by
  rw[Y6,Yo] at hk;cases r1 with
  | cons a as=>
  cases r2 with
  | nil=>simp at h2
  | @cons v' e' vs' es' b bs=>
   cases j with
   | zero=>
    simp only[List.getElem?_cons_zero,Option.some.injEq] at h1 h2;subst h1;subst h2;have z:decide ((d :: ds)[0]? =(e' :: es')[0]?)=decide (d=e'):=by simp
    rw[z];exact UY d a b hk.1 hu
   | succ j=>
    have z:decide ((d :: ds)[j+1]? =(e' :: es')[j+1]?)=decide (ds[j]? =es'[j]?):=by simp
    rw[z];exact NU ds as bs hk.2 hu (by simpa using h1) (by simpa using h2)
end
section
variable {prog:Program}{w:World}{A:Around}{E:AAB}{s:Shared}
mutual
theorem E9:∀(d:D){n:Nat}{v:Value}{Q:Bool->Shared->Prop},wc s.heap v d->fW n d=true->Q true s->wpAny (model prog w) A (eqIsQuiet n v) Q E s
 | .int i,n,v,Q,x,_,h=>by cases x <;> (rw[eqIsQuiet_byValue n rfl];exact wpAny_pure h)
 | .str y,n,v,Q,x,_,h=>by cases x;rw[eqIsQuiet_byValue n rfl];exact wpAny_pure h
 | .bN,n,v,Q,x,_,h=>by cases x
 | .bl _,n,v,Q,x,_,h=>by cases x
 | .lst _,n,v,Q,x,_,h=>by cases x
 | .tup ds,n,v,Q,x,hk,h=>by
  cases n with
  | zero=>simp[fW] at hk
  | succ n=>
   cases x with
   | @tup a its _ p r=>
    obtain⟨o,hg,hc,m,hd⟩:=p;have hT:s.TypeIs (.ref a) "tuple":=⟨o,hg,hc⟩
    unfold eqIsQuiet;refine XQ (wpAny_specialOf hT F.slot_tuple_eq.lookup ?_);show wpAny _ _ (isInstance (.ref a) (.type "tuple") >>= _) _ _ s;refine XQ (aaX hT isSubtype_tuple_tuple ?_);simp only[Bool.not_true,Zy,Zl];refine XQ (ZW hg hd ?_);refine XQ ?_;show wpAny _ _ (forIn its.toArray _ _) _ _ s;rw[<-Array.forIn_toList];exact xm ds r hk (wpAny_pure h)
theorem xm:∀(ds:List D){n:Nat}{vs:AAI}{Q:Option Bool×Unit->Shared->Prop},jw s.heap vs ds->ds.all (fW n)=true->Q (none,()) s->
  wpAny (model prog w) A (forIn vs ((none,()):Option Bool×Unit) fun y __s=>do
   let __do_lift <-eqIsQuiet n y
   if(!__do_lift)=true then pure (ForInStep.done (some false,())) else pure (ForInStep.yield (none,()))) Q E s
 | [],n,_,Q,x,_,h=>by cases x;exact wpAny_pure h
 | d :: ds,n,_,Q,x,hk,h=>by
  cases x with
  | cons x1 x2=>
   rw[Y6,Yo] at hk;rw[List.forIn_cons];refine XQ (XQ (E9 d x1 hk.1 ?_));simp only[Bool.not_true,Zy,Zl];refine wpAny_pure ?_;exact xm ds x2 hk.2 h
end
end
def iP (prog:Program) (w:World):HeapKind prog w D where
 is:=fun h k a=>wc h (.ref a) k/\fW 8 k=true
 hash:=E7 w
 draws:=yE
 room:=fun A=>A.units+8 < cLine
 inj:=fun hx hy=>hx.1.inj hy.1
 keeps:=fun x ho hd hs=>⟨x.1.keeps ho hd hs,x.2⟩
 pyHash:=fun hu hk h=>zQ _ hk.1 hk.2 hu h
 eqBool:=fun hu hx hy h=>UY _ hx.1 hy.1 hx.2 hu _ _ _ _ h
 quiet:=fun hk h=>E9 _ hk.1 hk.2 h
def jF {prog:Program}{w:World}{A:Around}(hu:A.units+20 < cLine):(iP prog w).room A.in1:=by
 show A.in1.units+8 < cLine;rw[aaW];lia
end L2
end
namespace L2
open PySem PySem.Spec PyProof.Rows
variable {H H':Hp}{a:Addr}{o:Obj}{u:Value}{P:Program}{w:World}{g':Array GenState}{t' i:Nat}{ch fp:BBE}{N ps:BBB}{x qual:Str}{M:Model}{A:Around}{E Q:AAB}{X:Cx}{pos:Pos}{pins:AAD}{σ:St}{op:CmpOp}{K:AAA}{tg:Expr}{body:BBH}{r:R2}{g:Int->Int->Int}{us:AAI}{y:V}{vs:List V}{mg:AAC}{base:Heap}{scope:Scope}{kvs:List (D×V)}{xs:List (D×Addr×Value)}{Iv:List (TE×TE)}
abbrev Key:=Sum Int Str
def uB:Key->Value->Bool
 | .inl k,.bool b=>decide (k=bI b)
 | .inl k,v=>Value.isInt k v
 | .inr x,v=>Value.isStrOf x v
noncomputable def Ro (w:World):Key->Int
 | .inl k=>hashInt k
 | .inr x=>hashStr w x
theorem cE:∀{k:Key}{v:Value},uB k v=true->(∃i t,k=Sum.inl i/\v=Value.int i t)\/(∃b,k=Sum.inl (bI b)/\v=Value.bool b)\/(∃x t,k=Sum.inr x/\v=Value.str x t)
 | .inl i,v,h=>by
  cases v with
  | bool b=>exact .inr (.inl ⟨b,by rw[Z9 (show decide (i=bI b)=true from h)],rfl⟩)
  | int j t=>obtain⟨t,e⟩:=Value.isInt_shape (k:=i) (v:=Value.int j t) h;exact .inl ⟨i,t,rfl,e⟩
  | _=>exact absurd h (by simp[uB,Value.isInt])
 | .inr x,v,h=>by
  obtain⟨t,e⟩:=aaA (x:=x) (v:=v) h;exact .inr (.inr ⟨x,t,rfl,e⟩)
def Dw (i:Int) (t:Tok):uB (.inl i) (.int i t)=true:=by simp[uB,Value.isInt]
def Dy (x:Str) (t:Tok):uB (.inr x) (.str x t)=true:=by simp[uB,Value.isStrOf]
def yG (a b:Int):decide ((Sum.inl a:Key)=Sum.inl b)=(a == b):=by
 by_cases e:a=b
 ·subst e;simp
 ·have h:¬(Sum.inl a:Key)=Sum.inl b:=fun q=>e (Sum.inl.inj q);rw[Yy h];exact(beq_eq_false_iff_ne.mpr e).symm
def Li (a b:Str):decide ((Sum.inr a:Key)=Sum.inr b)=decide (a=b):=by
 by_cases e:a=b
 ·subst e;simp
 ·have h:¬(Sum.inr a:Key)=Sum.inr b:=fun q=>e (Sum.inr.inj q);rw[Yy h,Yy e]
def Fb (a:Int) (b:Str):decide ((Sum.inl a:Key)=Sum.inr b)=false:=Yy (fun q=>nomatch q)
def Fc (a:Str) (b:Int):decide ((Sum.inr a:Key)=Sum.inl b)=false:=Yy (fun q=>nomatch q)
def cB (prog:Program) (w:World):PySem.KeyKind prog w Key where
 is:=uB
 hash:=Ro w
 inj:=fun v a b ha hb=>by
  rcases cE ha with⟨i,t,rfl,rfl⟩ | ⟨c,rfl,rfl⟩ | ⟨x,t,rfl,rfl⟩
  ·rcases cE hb with⟨j,u,rfl,e⟩ | ⟨c',rfl,e⟩ | ⟨y,u,rfl,e⟩
   ·injection e with e1 _;rw[e1]
   ·exact nomatch e
   ·exact nomatch e
  ·rcases cE hb with⟨j,u,rfl,e⟩ | ⟨c',rfl,e⟩ | ⟨y,u,rfl,e⟩
   ·exact nomatch e
   ·injection e with e1;rw[e1]
   ·exact nomatch e
  ·rcases cE hb with⟨j,u,rfl,e⟩ | ⟨c',rfl,e⟩ | ⟨y,u,rfl,e⟩
   ·exact nomatch e
   ·exact nomatch e
   ·injection e with e1 _;rw[e1]
 byValue:=fun k v h=>by
  rcases cE h with⟨i,t,rfl,rfl⟩ | ⟨c,rfl,rfl⟩ | ⟨x,t,rfl,rfl⟩ <;> rfl
 pyHash:=fun hv h=>by
  rcases cE hv with⟨i,t,rfl,rfl⟩ | ⟨c,rfl,rfl⟩ | ⟨x,t,rfl,rfl⟩
  ·exact wpAny_pyHash_int h
  ·exact sG h
  ·exact wpAny_pyHash_str h
 eqBool:=fun hu hv h=>by
  rcases cE hu with⟨i,t,rfl,rfl⟩ | ⟨c,rfl,rfl⟩ | ⟨x,t,rfl,rfl⟩
  ·rcases cE hv with⟨j,u,rfl,rfl⟩ | ⟨c',rfl,rfl⟩ | ⟨y,u,rfl,rfl⟩
   ·rw[yG] at h;exact wpAny_eqBool_int h
   ·rw[yG] at h;exact aaw i t c' _ _ _ _ h
   ·rw[Fb] at h;exact aaI i t y u _ _ _ _ h
  ·rcases cE hv with⟨j,u,rfl,rfl⟩ | ⟨c',rfl,rfl⟩ | ⟨y,u,rfl,rfl⟩
   ·rw[yG] at h;exact aax c j u _ _ _ _ h
   ·have e:(bI c == bI c')=(c == c'):=by cases c <;> cases c' <;> rfl
    rw[yG,e] at h;exact aal c c' _ _ _ _ h
   ·rw[Fb] at h;exact aay c y u _ _ _ _ h
  ·rcases cE hv with⟨j,u,rfl,rfl⟩ | ⟨c',rfl,rfl⟩ | ⟨y,u,rfl,rfl⟩
   ·rw[Fc] at h;exact aaJ x t j u _ _ _ _ h
   ·rw[Fc] at h;exact aaz x t c' _ _ _ _ h
   ·rw[Li] at h;exact wpAny_eqBool_str h
 «strs»:=fun k x t v h=>by
  rcases cE h with⟨i,u,rfl,e⟩ | ⟨c,rfl,e⟩ | ⟨y,u,rfl,e⟩
  ·exact nomatch e
  ·exact nomatch e
  ·injection e with e1 _
   subst e1;cases v <;> rfl
def zS (prog:Program) (w:World) (i:Int) (t:Tok):(cB prog w).is (.inl i) (.int i t)=true:=Dw i t
def lW (prog:Program) (w:World) (x:Str) (t:Tok):(cB prog w).is (.inr x) (.str x t)=true:=Dy x t
inductive V where
 | bN | bl (b:Bool) | int (i:Int) | str (x:Str) | Rp (b:Array UInt8) | flt (b:UInt64) | ref (a:Addr) | ty (n:String)
 deriving DecidableEq
def RelV:V->Value->Prop
 | .bN,u=>u=Value.none
 | .bl b,u=>u=Value.bool b
 | .int i,u=>∃t,u=Value.int i t
 | .str x,u=>∃t,u=Value.str x t
 | .Rp b,u=>∃t,u=Value.bytes b t
 | .flt b,u=>∃t,u=Value.float b t
 | .ref a,u=>u=Value.ref a
 | .ty n,u=>u=Value.type n
abbrev Vals:List V->BBG->Prop:=Paired RelV
def Vals.length {xs:List V}{us:AAI}(r:Vals xs us):xs.length=us.length:=aaO r
theorem Vals.get:∀{xs:List V}{us:AAI}{i:Nat}{x:V},Vals xs us->xs[i]? =some x->∃u,us[i]? =some u/\RelV x u
 | _,_,_,_,.nil,e=>by simp at e
 | _,_,0,_,.cons r _,e=>by simp at e;subst e;exact⟨_,rfl,r⟩
 | _,_,i+1,x,.cons _ t,e=>by
  obtain⟨u,h1,h2⟩:=Vals.get (i:=i) (x:=x) t (by simpa using e);exact⟨u,by simpa using h1,h2⟩
theorem Vals.set {x:V}{u:Value}(r:RelV x u):∀{xs:List V}{us:AAI}(i:Nat),Vals xs us->Vals (xs.set i x) (us.set i u)
 | _,_,_,.nil=>.nil
 | _,_,0,.cons _ t=>.cons r t
 | _,_,i+1,.cons q t=>.cons q (Vals.set r i t)
theorem Vals.append:∀{xs ys:List V}{us ws:AAI},Vals xs us->Vals ys ws->Vals (xs++ys) (us++ws)
 | _,_,_,_,.nil,s=>s
 | _,_,_,_,.cons r t,s=>.cons r (Vals.append t s)
theorem Vals.take:∀{xs:List V}{us:AAI}(n:Nat),Vals xs us->Vals (xs.take n) (us.take n)
 | _,_,0,_=>.nil
 | _,_,_+1,.nil=>.nil
 | _,_,n+1,.cons r t=>.cons r (Vals.take n t)
theorem Vals.drop:∀{xs:List V}{us:AAI}(n:Nat),Vals xs us->Vals (xs.drop n) (us.drop n)
 | _,_,0,r=>r
 | _,_,_+1,.nil=>.nil
 | _,_,n+1,.cons _ t=>Vals.drop n t
def qG:Option V->BBP->Prop
 | some v,some u=>RelV v u
 | none,none=>True
 | _,_=>False
def KV {κ:Type}:List (κ×V)->List (κ×Value)->Prop:=Paired fun(p:κ×V) (q:κ×Value)=>p.1=q.1/\RelV p.2 q.2
noncomputable def kV:Key->V
 | .inl i=>.int i
 | .inr x=>.str x
inductive HO where
 | lst (xs:List V)
 | tup (xs:List V)
 | dK (kvs:List (Key×V)) | dT (kvs:List (D×V))
 | set (S:Int->Bool) (n:Nat)
 | ins (C dx:Addr) (fs:List (Str×V))
 | own (x:Addr)
 | NV (C dx:Addr) (fs:List (Str×V))
 | xd (fs:List (Str×V))
 | met (f x:Addr)
 | Bo (lo hi:Int)
 | iw (o:Obj) (u:HO)
 | Lj (ps:AAH)
 | ext (φ:Heap->Prop)
abbrev Hp:=Addr->Option HO
mutual
inductive Rep (H:Hp):V->D->Prop
 | bN:Rep H .bN .bN
 | bl (b:Bool):Rep H (.bl b) (.bl b)
 | int (i:Int):Rep H (.int i) (.int i)
 | str (z:Str):Rep H (.str z) (.str z)
 | tup {a:Addr}{vs:List V}{ds:List D}(e:H a=some (.tup vs)) (r:bh H vs ds):Rep H (.ref a) (.tup ds)
 | lst {a:Addr}{vs:List V}{ds:List D}(e:H a=some (.lst vs)\/∃o,H a=some (.iw o (.lst vs))) (r:bh H vs ds):Rep H (.ref a) (.lst ds)
inductive bh (H:Hp):List V->List D->Prop
 | nil:bh H [] []
 | cons {v:V}{d:D}{vs:List V}{ds:List D}(r:Rep H v d) (rs:bh H vs ds):bh H (v :: vs) (d :: ds)
end
mutual
theorem Rep.tups {H H':Hp}(ht:∀b xs,H b=some (.tup xs)->H' b=some (.tup xs)):∀(d:D){n:Nat}{v:V},Rep H v d->fW n d=true->Rep H' v d
 | .bN,n,_,_,k=>by simp[fW] at k
 | .bl b,n,_,r,k=>by cases r;exact .bl b
 | .lst _,n,_,_,k=>by simp[fW] at k
 | .int i,n,_,r,k=>by cases r;exact .int i
 | .str i,n,_,r,k=>by cases r;exact .str i
 | .tup ds,n,_,r,k=>by
  cases n with
  | zero=>simp[fW] at k
  | succ n=>
   cases r with
   | @tup a vs _ e rs=>exact .tup (ht _ _ e) (bh.tups ht ds rs k)
theorem bh.tups {H H':Hp}(ht:∀b xs,H b=some (.tup xs)->H' b=some (.tup xs)):∀(ds:List D){n:Nat}{vs:List V},bh H vs ds->ds.all (fW n)=true->bh H' vs ds
 | [],n,_,r,k=>by cases r;exact .nil
 | d :: ds,n,_,r,k=>by
  rw[Y6,Yo] at k;cases r with
  | cons r1 r2=>exact .cons (Rep.tups ht d r1 k.1) (bh.tups ht ds r2 k.2)
end
def Kd (H:Hp) (b:Addr) (k:D):Prop:=∃d,Rep H (.ref b) d/\fW 8 d=true/\nf d=k
def Kd.tups {H H':Hp}{b:Addr}{k:D}(x:Kd H b k) (ht:∀b xs,H b=some (.tup xs)->H' b=some (.tup xs)):Kd H' b k:=by
 obtain⟨d,r,hk,e⟩:=x;exact⟨d,Rep.tups ht d r hk,hk,e⟩
noncomputable def upd (H:Hp) (a:Addr) (o:HO):Hp:=fun b=>if b=a then some o else H b
def aX {o:HO}:upd H a o a=some o:=by unfold upd;rw[if_pos rfl]
def aW {b:Addr}{o:HO}(h:b≠a):upd H a o b=H b:=by unfold upd;rw[if_neg h]
def NW {b:Addr}{o u:HO}(h:H a=some o) (h':H b=some u) (d:o≠u):a≠b:=by
 intro e;subst e;rw[h] at h';exact d (Ym h')
def bz {b:Addr}{o:HO}(h:H a=some o) (h':H b=none):a≠b:=by
 intro e;subst e;rw[h] at h';cases h'
section
variable (P:Program)(w:World)
def fq (H:Hp) (h:Heap) (a:Addr):HO->Prop
 | .lst xs=>xs.length<=sizeLine/\∃(its:AAI) (n:Nat),Vals xs its/\h.get? a=some {cls:=.type "list",data:=.seq its.toArray n}
 | .tup xs=>xs.length<=sizeLine/\∃its:BBG,Vals xs its/\IsTup h a its.toArray
 | .dK kvs=>kvs.length<=sizeLine/\(a == sysModules)=false/\∃vs,KV kvs vs/\h.DictOf (cB P w) a vs
 | .dT kvs=>kvs.length<=sizeLine/\(a == sysModules)=false/\∃xs:List (D×Addr×Value),
   Paired (fun(p:D×V) (q:D×Addr×Value)=>p.1=q.1/\Kd H q.2.1 p.1/\RelV p.2 q.2.2) kvs xs/\
   ∃o es ep,h.get? a=some o/\o.ExactDict/\o.data= .dict es ep/\es.toList=xs.map (entryOfKey (iP P w))/\(xs.map (·.1)).Nodup
 | .set S n=>h.SetOf (intKind P w) a S n
 | .ins C dx fs=>H dx=some (.own a)/\fs.length<=1000/\dx≠a/\h.get? a=some (PySem.W.instObj C dx)/\
   ∃mA,h.Ns1 dx mA/\(∀f,qG (fs.lookup f) (mA f))/\PySem.Within mA (fs.map (·.1))
 | .NV C dx fs=>H dx=some (.own a)/\fs.length<=1000/\dx≠a/\(∃oe vs,h.get? a=some oe/\oe.cls= .ref C/\oe.dict=some dx/\oe.data= .fields vs)/\∃mA,h.Ns1 dx mA/\(∀f,qG (fs.lookup f) (mA f))/\PySem.Within mA (fs.map (·.1))
 | .own _=>∃o,h.get? a=some o
 | .xd fs=>∃mA,h.Ns1 a mA/\(∀f,qG (fs.lookup f) (mA f))/\PySem.Within mA (fs.map (·.1))
 | .Bo lo hi=>∃t u v,h.get? a=some {cls:=.type "range",data:=.fields #[.int lo t,.int hi u,.int 1 v]}
 | .iw o u=>h.get? a=some o/\fq H h a u
 | .Lj ps=>h.get? a=some {cls:=.none,data:=.fields ps}
 | .met f x=>h.get? a=some (PySem.W.methodObj (.ref f) (.ref x))
 | .ext φ=>φ h/\(∃o,h.get? a=some o)/\∀h1 h2:Heap,φ h1->(∀o,h1.get? a=some o->h2.get? a=some o)->φ h2
def lX (H:Hp) (h:Heap):Prop:=∀a o,H a=some o->fq P w H h a o
end
section
variable {P:Program}{w:World}{H H':Hp}{h h':Heap}{a:Addr}{o:HO}
def fq.lt (x:fq P w H h a o):a < h.objs.size:=by
 cases o with
 | lst xs=>obtain⟨_,_,_,_,e⟩:=x;exact XZ e
 | tup xs=>obtain⟨_,_,_,p⟩:=x;exact p.lt
 | dK kvs=>obtain⟨_,_,_,_,o,_,_,e,_⟩:=x;exact XZ e
 | dT kvs=>obtain⟨_,_,_,_,o,_,_,e,_⟩:=x;exact XZ e
 | set S n=>obtain⟨o,_,_,_,e,_⟩:=x;exact XZ e
 | ins C dx fs=>obtain⟨_,_,_,e,_⟩:=x;exact XZ e
 | NV C dx fs=>obtain⟨_,_,_,⟨_,_,e,_⟩,_⟩:=x;exact XZ e
 | own y=>obtain⟨_,e⟩:=x;exact XZ e
 | xd fs=>obtain⟨_,⟨_,_,_,e,_⟩,_⟩:=x;exact XZ e
 | Bo lo hi=>obtain⟨_,_,_,e⟩:=x;exact XZ e
 | iw ob u=>obtain⟨e,_⟩:=x;exact XZ e
 | Lj ps=>exact XZ (show h.get? a=some _ from x)
 | met f y=>exact XZ (show h.get? a=some _ from x)
 | ext φ=>obtain⟨_,⟨_,e⟩,_⟩:=x;exact XZ e
theorem Paired.zT {α β:Type}{F G:α->β->Prop}:∀{l₁:List α}{l₂:List β},Paired F l₁ l₂->(∀a b,F a b->G a b)->Paired G l₁ l₂
 | _,_,.nil,_=>.nil
 | _,_,.cons r t,f=>.cons (f _ _ r) (Paired.zT t f)
def fq.stay (x:fq P w H h a o) (k:∀b u,(b=a\/H b=some (.own a))->h.get? b=some u->h'.get? b=some u)
  (ho:∀b,H b=some (.own a)->H' b=some (.own a)) (ht:∀b xs,H b=some (.tup xs)->H' b=some (.tup xs)):fq P w H' h' a o:=by
 induction o with
 | lst xs=>obtain⟨z,its,n,r,e⟩:=x;exact⟨z,its,n,r,k _ _ (.inl rfl) e⟩
 | tup xs=>obtain⟨z,its,r,ob,e,c⟩:=x;exact⟨z,its,r,ob,k _ _ (.inl rfl) e,c⟩
 | dK kvs=>obtain⟨z,y,vs,r,ob,es,ep,e,c⟩:=x;exact⟨z,y,vs,r,ob,es,ep,k _ _ (.inl rfl) e,c⟩
 | dT kvs=>
  obtain⟨z,y,xs,r,ob,es,ep,e,c⟩:=x;exact⟨z,y,xs,Paired.zT r fun p q z=>⟨z.1,z.2.1.tups ht,z.2.2⟩,ob,es,ep,k _ _ (.inl rfl) e,c⟩
 | set S n=>obtain⟨ob,es,ep,t,e,c⟩:=x;exact⟨ob,es,ep,t,k _ _ (.inl rfl) e,c⟩
 | ins C dx fs=>
  obtain⟨d,z,ne,e,mA,⟨od,es,ep,e2,c⟩,r⟩:=x;exact⟨ho _ d,z,ne,k _ _ (.inl rfl) e,mA,⟨od,es,ep,k _ _ (.inr d) e2,c⟩,r⟩
 | NV C dx fs=>
  obtain⟨d,z,ne,⟨oe,vs,e,r1⟩,mA,⟨od,es,ep,e2,c⟩,r⟩:=x;exact⟨ho _ d,z,ne,⟨oe,vs,k _ _ (.inl rfl) e,r1⟩,mA,⟨od,es,ep,k _ _ (.inr d) e2,c⟩,r⟩
 | own y=>obtain⟨ob,e⟩:=x;exact⟨ob,k _ _ (.inl rfl) e⟩
 | xd fs=>obtain⟨mA,⟨od,es,ep,e,c⟩,r⟩:=x;exact⟨mA,⟨od,es,ep,k _ _ (.inl rfl) e,c⟩,r⟩
 | Bo lo hi=>obtain⟨t,u,v,e⟩:=x;exact⟨t,u,v,k _ _ (.inl rfl) e⟩
 | iw ob u ih=>obtain⟨e,q⟩:=x;exact⟨k _ _ (.inl rfl) e,ih q⟩
 | Lj ps=>
  have e:h.get? a=some {cls:=.none,data:=.fields ps}:=x;show h'.get? a=some {cls:=.none,data:=.fields ps};exact k a _ (.inl rfl) e
 | met f y=>
  have e:h.get? a=some (PySem.W.methodObj (.ref f) (.ref y)):=x;show h'.get? a=some (PySem.W.methodObj (.ref f) (.ref y));exact k a _ (.inl rfl) e
 | ext φ=>obtain⟨p,⟨o,e⟩,st⟩:=x;exact⟨st _ _ p fun o q=>k _ _ (.inl rfl) q,⟨o,k _ _ (.inl rfl) e⟩,st⟩
def lX.lt (x:lX P w H h) (e:H a=some o):a < h.objs.size:=(x a o e).lt
def lX.fresh (x:lX P w H h) (e:h.objs.size<=a):H a=none:=by
 cases q:H a with
 | none=>rfl
 | some u=>exact absurd (X0 (x.lt q) e) (YS _)
def lX.kept (x:lX P w H h) (k:∀b u,h.get? b=some u->h'.get? b=some u):lX P w H h':=fun a o e=>
 (x a o e).stay (fun b u _ q=>k b u q) (fun _ q=>q) fun _ _ q=>q
def lX.laid (x:lX P w H h) (k:∀b u,h.get? b=some u->h'.get? b=some u) (hp:h.objs.size<=a) (new:fq P w (upd H a o) h' a o):lX P w (upd H a o) h':=fun b u e=>by
 have hn:=x.fresh hp;by_cases hb:b=a
 ·subst hb;rw[aX] at e;cases e;exact new
 ·rw[aW hb] at e;exact(x b u e).stay (fun c v _ q=>k c v q) (fun c q=>by rw[aW (bz q hn)];exact q) fun c xs q=>by rw[aW (bz q hn)];exact q
end
def Rd (H:Hp) (a:Addr) (u:HO):Prop:=H a=some u\/∃o,H a=some (.iw o u)
def Rd.of {u:HO}(h:H a=some u):Rd H a u:=.inl h
def Rd.ok {h:Heap}{u:HO}(r:Rd H a u) (x:lX P w H h):fq P w H h a u:=by
 rcases r with r | ⟨o,r⟩
 ·exact x a u r
 ·obtain⟨_,q⟩:=x a _ r;exact q
def NX:Option HO->Prop
 | some (.lst _)=>True
 | some (.dK _)=>True
 | some (.dT _)=>True
 | some (.set _ _)=>True
 | some (.ins _ _ _)=>True
 | some (.NV _ _ _)=>True
 | some (.xd _)=>True
 | some (.ext _)=>True
 | _=>False
section
variable {P:Program}{w:World}{H:Hp}{h h':Heap}{x e:Addr}{o':HO}
def lX.write (ok:lX P w H h) (mu:NX (H x)) (he:e=x\/H e=some (.own x)) (k:∀b u,b≠e->h.get? b=some u->h'.get? b=some u) (Ni:∃u,h'.get? e=some u)
  (new:fq P w (upd H x o') h' x o'):lX P w (upd H x o') h':=fun b u q=>by
 have NY:∀c y,H c=some (.own y)->c≠x:=fun c y r z=>by subst z;rw[r] at mu;exact mu
 have Rq:∀c xs,H c=some (.tup xs)->c≠x:=fun c xs r z=>by subst z;rw[r] at mu;exact mu
 by_cases hb:b=x
 ·subst hb;rw[aX] at q;cases q;exact new
 ·rw[aW hb] at q;by_cases Lk:b=e
  ·have q':H b=some (.own x):=by
    rcases he with z | z
    ·exact absurd (Lk.trans z) hb
    ·rw[Lk];exact z
   rw[q] at q';cases q';obtain⟨v,hv⟩:=Ni;exact⟨v,by rw[Lk];exact hv⟩
  ·refine(ok b u q).stay (fun c v hc r=>k c v ?_ r) (fun c r=>by rw[aW (NY c b r)];exact r) fun c xs r=>by rw[aW (Rq c xs r)];exact r
   rcases hc with rfl | hc
   ·exact Lk
   ·rintro rfl;rcases he with z | z
    ·exact NY c b hc z
    ·rw[hc] at z;cases z;exact hb rfl
end
structure Un (fs ex:BBE) (H H':Hp) (h h':Heap):Prop where
 keep:∀b o,h.get? b=some o->H b=none->b∉fs->b∉ex->h'.get? b=some o
 slot:∀b o,h.get? b=some o->H b=none->b∈fs->b∉ex->∃sl,h'.get? b=some {o with slots:=sl}
 free:∀b o,h.get? b=some o->H b=none->b∉ex->H' b=none
 there:∀b o,h.get? b=some o->b∉ex->∃o',h'.get? b=some o'
 tups:∀b xs,H b=some (.tup xs)->H' b=some (.tup xs)
 wj:∀b o u,H b=some (.iw o u)->H' b=some (.iw o u)
 yH:∀b ps,H b=some (.Lj ps)->∃more,H' b=some (.Lj (ps++more))
section
variable {fs ex:BBE}{H H1:Hp}{h h1 h':Heap}{a x e:Addr}{o:HO}
def Un.any (u:Un fs ex H H1 h h1){b:Addr}{ob:Obj}(q:h.get? b=some ob) (n:H b=none) (hx:b∉ex):∃sl,h1.get? b=some {ob with slots:=sl}:=by
 by_cases hb:b∈fs
 ·exact u.slot b ob q n hb hx
 ·exact⟨ob.slots,u.keep b ob q n hb hx⟩
def Un.kept (k:∀b u,h.get? b=some u->h'.get? b=some u):Un fs ex H H h h':=
 ⟨fun b ob q _ _ _=>k b ob q,fun b ob q _ _ _=>⟨ob.slots,k b ob q⟩,fun _ _ _ n _=>n,fun b ob q _=>⟨ob,k b ob q⟩,fun _ _ q=>q,fun _ _ _ q=>q,fun _ ps q=>⟨#[],by rw[q];simp⟩⟩
def Un.refl:Un fs ex H H h h:=Un.kept fun _ _ q=>q
def Un.laid (k:∀b u,h.get? b=some u->h'.get? b=some u) (hp:h.objs.size<=a) (hn:H a=none):Un fs ex H (upd H a o) h h' where
 keep:=fun b u q _ _ _=>k b u q
 slot:=fun b u q _ _ _=>⟨u.slots,k b u q⟩
 free:=fun b u q n _=>by rw[aW (Yj (X0 (XZ q) hp))];exact n
 there:=fun b u q _=>⟨u,k b u q⟩
 tups:=fun b xs q=>by rw[aW (bz q hn)];exact q
 wj:=fun b u xs q=>by rw[aW (bz q hn)];exact q
 yH:=fun b ps q=>⟨#[],by rw[aW (bz q hn),q];simp⟩
def Un.write (mu:NX (H x)) (he:e=x\/H e=some (.own x)) (k:∀b u,b≠e->h.get? b=some u->h'.get? b=some u) (Ni:∃u,h'.get? e=some u):Un fs ex H (upd H x o) h h':=by
 have hx:∀b,H b=none->b≠x:=fun b n z=>by subst z;rw[n] at mu;exact mu
 have hb:∀b,H b=none->b≠e:=fun b n z=>by
  subst z;rcases he with r | r
  ·exact hx b n r
  ·rw[n] at r;cases r
 have hm:∀b u,H b=some u->¬NX (some u)->b≠x:=fun b u q nm z=>by subst z;rw[q] at mu;exact nm mu
 refine⟨fun b u q n _ _=>k b u (hb b n) q,fun b u q n _ _=>⟨u.slots,k b u (hb b n) q⟩,fun b u q n _=>by rw[aW (hx b n)];exact n,fun b u q _=>?_,
  fun b xs q=>by rw[aW (hm b _ q fun z=>z)];exact q,fun b u xs q=>by rw[aW (hm b _ q fun z=>z)];exact q,fun b ps q=>⟨#[],by rw[aW (hm b _ q fun z=>z),q];simp⟩⟩
 by_cases Lk:b=e
 ·subst Lk;exact Ni
 ·exact⟨u,k b u Lk q⟩
end
noncomputable def Qi (h:Heap) (H:Hp):BBE:=(List.range h.objs.size).filter fun a=>(H a).isSome
def yI (h:Heap) (H:Hp):Heap:=PySem.W.hideAll h (Qi h H)
def Dz (h:Heap) (H:Hp):(yI h H).objs.size=h.objs.size:=PySem.W.hideAll_size _ _
def Fd {h:Heap}{b:Addr}(e:h.get? b=some o) (n:H b=none):(yI h H).get? b=some o:=
 PySem.W.hideAll_get _ e fun hm=>by
  have q:(H b).isSome=true:=(List.mem_filter.mp hm).2;rw[n] at q;simp at q
def Ie {h:Heap}{b:Addr}(e:(yI h H).get? b=some o):h.get? b=some o/\H b=none:=by
 have e':h.get? b=some o:=PySem.W.of_hideAll (Qi h H) e;refine⟨e',?_⟩;cases q:H b with
 | none=>rfl
 | some x=>
  have hm:b∈Qi h H:=List.mem_filter.mpr ⟨ZX.mpr (XZ e'),by simp[q]⟩;have z:(yI h H).get? b=none:=PySem.W.hideAll_none (Qi h H) hm;rw[z] at e;cases e
noncomputable def Ig (g h:Heap) (L:Addr):List (Addr×Obj):=(List.range h.objs.size).filterMap fun a=>if a=L\/(g.get? a).isSome=true then none else(h.get? a).map fun o=>(a,o)
def rest (g h:Heap) (L d:Addr):List (Addr×Obj):=(Ig g h L).filter fun p=>decide (p.1≠d)
structure Mod (K:AAA) (mg:AAC) (base:Heap):Prop where
 Rr:K.In base
 glob:base.Ns mainGlobals mg
 blt:∃mb,base.Ns builtinsNs mb/\∀x:Str,x≠"__name__"->mb x=bootBuiltins x
 nolimit:base.NoLimit
structure Cx where
 prog:Program
 w:World
 K:PySem.W.Frag
 mg:Str->BBP
 base:Heap
 A:Around
 N:BBB
 s₀:Shared
 H₀:Hp
 env:Env
 outer:BBF
 stack:BBF
 ex:BBE
 fn:Str->Bool
 calm:Bool
 pn:List (Addr×Obj)
 xe:Value->Shared->Prop
noncomputable def frs (l:BBF):BBE:=l.filterMap (·.frame)
abbrev Cx.fs (X:Cx):BBE:=frs X.outer
def wm (sc:Scope) (x:Str):Prop:=sc.names.lookup x=some .local\/sc.names.lookup x=some .cell\/sc.names.lookup x=some .free
def Loc (sc:Scope) (x:Str):Prop:=sc.names.lookup x=some .local\/sc.names.lookup x=some .cell
def Look (env:Env) (h:Heap) (m:AAC) (x:Str) (u:Value):Prop:=
 (env.kindOf x=some .local/\m x=some u)\/((env.kindOf x=some .cell\/env.kindOf x=some .free)/\∃c,env.cells.lookup x=some c/\h.IsCell c (some u))
structure Cx.Ok (X:Cx):Prop where
 mod:Mod X.K X.mg X.base
 kind:X.env.scope.kind= .function
 glob:X.env.globals=mainGlobals
 blt:X.env.builtins=builtinsNs
 above:X.s₀.heap.objs.size<=X.env.locals
 inj:∀x y c,X.env.cells.lookup x=some c->X.env.cells.lookup y=some c->x=y
 has:∀x,(X.env.kindOf x=some .cell\/X.env.kindOf x=some .free)->∃c,X.env.cells.lookup x=some c
 N1:∀x c,X.fn x=true->X.env.cells.lookup x=some c->X.s₀.heap.objs.size<=c
 hd:X.calm=true->X.A.handled=none
 frames:X.A.frames=some X.stack
 stk:X.stack=X.outer\/(X.stack=X.env :: X.outer/\X.env.frame=some X.env.locals)
 Rt:∀b∈X.ex,b≠X.env.locals/\∀x c,X.env.cells.lookup x=some c->c≠b
 bs:∀b o,X.base.get? b=some o->X.s₀.heap.get? b=some o/\X.H₀ b=none
 KJ:X.base.objs.size<=X.s₀.heap.objs.size
 Fe:∀b o,X.base.get? b=some o->b∉X.ex
 Ff:∀b∈X.ex,b∉X.fs
 uC:X.s₀.heap.FunFrames X.base X.outer
 Nj:∀b∈X.fs,X.H₀ b=none
structure Inv (X:Cx) (pins:AAD) (σ:List (Option V)) (H:Hp) (s:Shared):Prop where
 ok:X.Ok
 os:s.os=X.s₀.os
 bare:AllBare s.gens
 base:Un X.fs X.ex X.H₀ H X.s₀.heap s.heap
 loc:∃m,s.heap.Ns X.env.locals m/\∀(i:Nat) (x:Str) (v:V),X.N[i]? =some x->σ[i]? =some (some v)->wm X.env.scope x->∃u,RelV v u/\Look X.env s.heap m x u
 cell:∀x c,X.env.cells.lookup x=some c->∃v,s.heap.IsCell c v
 free:H X.env.locals=none
 lY:∀x c,X.env.cells.lookup x=some c->H c=none
 pin:∀p∈X.pn++pins,s.heap.get? p.1=some p.2/\H p.1=none/\p.1≠X.env.locals/\p.1∉X.fs/\∀v,p.2.data≠.cell v
 hok:lX X.prog X.w H s.heap
 len:σ.length=X.N.length
section
variable {X:Cx}{pins:AAD}{σ:List (Option V)}{H H':Hp}{s:Shared}{h':Heap}
def Cx.Ok.iQ (ok:X.Ok){b:Addr}(e:X.base.get? b=some o):b∉X.fs:=fun hb=>by
 have:=(ok.uC.mem hb).1;rw[e] at this;cases this
def Inv.bs (I:Inv X pins σ H s):∀b o,X.base.get? b=some o->s.heap.get? b=some o/\H b=none:=fun b o e=>
 ⟨I.base.keep b o (I.ok.bs b o e).1 (I.ok.bs b o e).2 (I.ok.iQ e) (I.ok.Fe b o e),I.base.free b o (I.ok.bs b o e).1 (I.ok.bs b o e).2 (I.ok.Fe b o e)⟩
def Inv.bk (I:Inv X pins σ H s):∀b o,X.base.get? b=some o->s.heap.get? b=some o:=fun b o e=>(I.bs b o e).1
def Inv.mod (I:Inv X pins σ H s):Mod X.K X.mg X.base:=I.ok.mod
def Inv.Bp (I:Inv X pins σ H s):X.K.In s.heap:=I.ok.mod.Rr.keeps I.bk
def Inv.lt (I:Inv X pins σ H s):X.env.locals < s.heap.objs.size:=let⟨_,hn,_⟩:=I.loc;hn.lt
def Inv.sz (I:Inv X pins σ H s):X.s₀.heap.objs.size<=s.heap.objs.size:=X7 I.ok.above (Zr I.lt)
def Inv.N2 (I:Inv X pins σ H s)(h:s.heap.objs.size<=a):a∉X.fs:=fun hb=>by
 obtain⟨_,o,ho,_⟩:=I.ok.uC.mem hb;exact absurd (X0 (XZ ho) (X7 I.sz h)) (YS _)
def Inv.Ll (I:Inv X pins σ H s):∀x c,X.env.cells.lookup x=some c->c≠X.env.locals:=fun x c e z=>by
 obtain⟨v,o,ho,hd⟩:=I.cell x c e;obtain⟨m,⟨o',es,ep,ho',hd',_⟩,_⟩:=I.loc;rw[z,ho'] at ho;cases ho;rw[hd'] at hd;cases hd
def Inv.uC (I:Inv X pins σ H s):s.heap.FunFrames X.base X.outer:=by
 have all:∀(l:BBF),(∀b∈frs l,b∈X.fs)->X.s₀.heap.FunFrames X.base l->s.heap.FunFrames X.base l:=by
  intro l
  induction l with
  | nil=>intro _ _;trivial
  | cons env r ih=>
   intro hs hl;obtain⟨hk,⟨L,o,hf,hn,ho,hd⟩,hr⟩:=hl;have hL:L∈X.fs:=hs L (by unfold frs;rw[ZM,hf];exact Yp);obtain⟨sl,e⟩:=I.base.slot L o ho (I.ok.Nj L hL) hL fun z=>I.ok.Ff L z hL;exact⟨hk,⟨L,_,hf,hn,e,hd⟩,ih (fun b hb=>hs b (by unfold frs;rw[ZM,hf];exact Yc _ hb)) hr⟩
 exact all X.outer (fun _ hb=>hb) I.ok.uC
def Inv.stack (I:Inv X pins σ H s):s.heap.FunFrames X.base X.stack:=by
 rcases I.ok.stk with e | ⟨e,hf⟩
 ·rw[e];exact I.uC
 ·rw[e];obtain⟨m,hn,_⟩:=I.loc;refine .cons (by rw[I.ok.kind];decide) hf hn ?_ I.uC;exact Heap.get?_none_of_le (X7 I.ok.KJ I.ok.above)
def Inv.yJ (I:Inv X pins σ H s):∀b∈frs X.stack,b∈X.env.locals :: X.fs:=fun b hb=>by
 rcases I.ok.stk with e | ⟨e,hf⟩
 ·rw[e] at hb;exact Yc _ hb
 ·rw[e] at hb;unfold frs at hb;rw[ZM,hf] at hb;exact hb
def Inv.CB (I:Inv X pins σ H s):∀b∈frs X.stack,H b=none:=fun b hb=>by
 rcases XT.mp (I.yJ b hb) with e | hb
 ·rw[e];exact I.free
 ·obtain⟨_,o,ho,_⟩:=I.ok.uC.mem hb;exact I.base.free b o ho (I.ok.Nj b hb) fun z=>I.ok.Ff b z hb
def Inv.step {d':Drawn}(I:Inv X pins σ H s)
  (hch:∀b∈ch,(b∈X.ex\/X.s₀.heap.objs.size<=b)/\b≠X.env.locals/\(∀x c,X.env.cells.lookup x=some c->c≠b)/\∀p∈X.pn++pins,p.1≠b)
  (keep:∀b o,b≠X.env.locals->b∉X.fs->b∉ch->s.heap.get? b=some o->H b=none->h'.get? b=some o)
  (slot:∀b o,b≠X.env.locals->b∈X.fs->b∉ch->s.heap.get? b=some o->H b=none->∃sl,h'.get? b=some {o with slots:=sl}) (free:∀b o,b∉ch->s.heap.get? b=some o->H b=none->H' b=none)
  (there:∀b o,b∉ch->s.heap.get? b=some o->∃o',h'.get? b=some o')
  (tups:∀b xs,H b=some (.tup xs)->H' b=some (.tup xs)) (wj:∀b o u,H b=some (.iw o u)->H' b=some (.iw o u)) (yH:∀b ps,H b=some (.Lj ps)->∃more,H' b=some (.Lj (ps++more)))
  (ns:∀m,s.heap.Ns X.env.locals m->h'.Ns X.env.locals m) (hok:lX X.prog X.w H' h') (hg:AllBare g'):
  Inv X pins σ H' {s with heap:=h',gens:=g',drawn:=d',toks:=t'}:=by
 have UZ:∀b o,X.s₀.heap.get? b=some o->b≠X.env.locals:=fun b o e=>Yj (X0 (XZ e) I.ok.above);have Qj:∀b o,X.s₀.heap.get? b=some o->b∉X.ex->b∉ch:=fun b o e hx hb=>by
  rcases(hch b hb).1 with z | z
  ·exact hx z
  ·exact absurd (X0 (XZ e) z) (YS _)
 have cellK:∀x c,X.env.cells.lookup x=some c->∀v,s.heap.IsCell c v->h'.IsCell c v:=fun x c e v ⟨o,ho,hd⟩=>by
  have N3:c∉ch:=fun z=>(hch c z).2.2.1 x c e rfl;by_cases hc:c∈X.fs
  ·obtain⟨sl,q⟩:=slot c o (I.Ll x c e) hc N3 ho (I.lY x c e);exact⟨_,q,hd⟩
  ·exact⟨o,keep c o (I.Ll x c e) hc N3 ho (I.lY x c e),hd⟩
 refine⟨I.ok,I.os,hg,⟨fun b o e n hb hx=>?_,fun b o e n hb hx=>?_,fun b o e n hx=>?_,fun b o e hx=>?_,fun b xs e=>tups b xs (I.base.tups b xs e),fun b o xs e=>wj b o xs (I.base.wj b o xs e),fun b ps e=>?_⟩,?_,fun x c e=>?_,?_,fun x c e=>?_,fun p hp=>?_,hok,I.len⟩
 ·exact keep b o (UZ b o e) hb (Qj b o e hx) (I.base.keep b o e n hb hx) (I.base.free b o e n hx)
 ·obtain⟨sl,e1⟩:=I.base.slot b o e n hb hx;obtain⟨VN,e2⟩:=slot b _ (UZ b o e) hb (Qj b o e hx) e1 (I.base.free b o e n hx);exact⟨VN,e2⟩
 ·obtain⟨o',e1⟩:=I.base.there b o e hx;exact free b o' (Qj b o e hx) e1 (I.base.free b o e n hx)
 ·obtain⟨o',e1⟩:=I.base.there b o e hx;exact there b o' (Qj b o e hx) e1
 ·obtain⟨m1,e1⟩:=I.base.yH b ps e;obtain⟨m2,e2⟩:=yH b _ e1;exact⟨m1++m2,by rw[e2,Array.append_assoc]⟩
 ·obtain⟨m,hn,hl⟩:=I.loc;refine⟨m,ns m hn,fun i x v e1 e2 e3=>?_⟩;obtain⟨u,r,l⟩:=hl i x v e1 e2 e3;refine⟨u,r,?_⟩;rcases l with l | ⟨k,c,e,z⟩
  ·exact .inl l
  ·exact .inr ⟨k,c,e,cellK x c e _ z⟩
 ·obtain⟨v,z⟩:=I.cell x c e;exact⟨v,cellK x c e v z⟩
 ·obtain⟨m,⟨o,_,_,ho,_⟩,_⟩:=I.loc;exact free _ o (fun z=>(hch _ z).2.1 rfl) ho I.free
 ·obtain⟨v,o,ho,hd⟩:=I.cell x c e;exact free c o (fun z=>(hch c z).2.2.1 x c e rfl) ho (I.lY x c e)
 ·obtain⟨e,n,ne,nf,d⟩:=I.pin p hp;have N3:p.1∉ch:=fun z=>(hch p.1 z).2.2.2 p hp rfl;exact⟨keep p.1 p.2 ne nf N3 e n,free p.1 p.2 N3 e n,ne,nf,d⟩
def Inv.un (I:Inv X pins σ H s) (u:Un X.fs [] H H' s.heap h') (hok:lX X.prog X.w H' h'):Inv X pins σ H' {s with heap:=h',toks:=t'}:=by
 obtain⟨m,⟨o,es,ep,ho,r⟩,_⟩:=id I.loc;obtain⟨sl,hL⟩:=u.any ho I.free (by simp);exact I.step (g':=s.gens) (d':=s.drawn) (ch:=[]) (fun _ z=>nomatch z) (fun b o _ hb _ e n=>u.keep b o e n hb (by simp)) (fun b o _ hb _ e n=>u.slot b o e n hb (by simp)) (fun b o _ e n=>u.free b o e n (by simp)) (fun b o _ e=>u.there b o e (by simp)) u.tups u.wj u.yH (fun m' hm=>by
  obtain⟨o',es',Ru,ho',r'⟩:=hm;rw[ho] at ho';cases ho';exact⟨_,es',Ru,hL,r'⟩) hok I.bare
def Inv.call {d':Drawn}(I:Inv X pins σ H s) (u:Un (frs X.stack) ch H H' s.heap h') (hok:lX X.prog X.w H' h') (hg:AllBare g')
  (hch:∀b∈ch,(b∈X.ex\/X.s₀.heap.objs.size<=b)/\b≠X.env.locals/\(∀x c,X.env.cells.lookup x=some c->c≠b)/\∀p∈X.pn++pins,p.1≠b):
  Inv X pins σ H' {s with heap:=h',gens:=g',drawn:=d',toks:=t'}:=by
 obtain⟨m,⟨o,es,ep,ho,r⟩,_⟩:=id I.loc;obtain⟨sl,hL⟩:=u.any ho I.free fun z=>(hch _ z).2.1 rfl;exact I.step (ch:=ch) hch (fun b o hL hb hc e n=>u.keep b o e n (fun z=>(XT.mp (I.yJ b z)).elim hL hb) hc) (fun b o _ _ hc e n=>u.any e n hc) (fun b o hc e n=>u.free b o e n hc) (fun b o hc e=>u.there b o e hc) u.tups u.wj u.yH (fun m' hm=>by
  obtain⟨o',es',Ru,ho',r'⟩:=hm;rw[ho] at ho';cases ho';exact⟨_,es',Ru,hL,r'⟩) hok hg
def Inv.turned {it:Addr}(I:Inv X pins σ H s) (k:∀b o,b≠it->s.heap.get? b=some o->h'.get? b=some o) (hn:H it=none) (hL:it≠X.env.locals)
  (h1:it∈X.ex\/X.s₀.heap.objs.size<=it) (h2:∀x c,X.env.cells.lookup x=some c->c≠it) (h3:∀p∈X.pn++pins,p.1≠it):Inv X pins σ H {s with heap:=h',toks:=t'}:=by
 have U0:∀b u,H b=some u->b≠it:=fun b u e z=>by rw[z,hn] at e;cases e
 refine I.step (g':=s.gens) (d':=s.drawn) (ch:=[it]) (fun b hb=>?_) (fun b o _ _ hc e _=>k b o (fun z=>hc (by simp[z])) e) (fun b o _ _ hc e _=>⟨o.slots,k b o (fun z=>hc (by simp[z])) e⟩) (fun _ _ _ _ n=>n)
  (fun b o hc e=>⟨o,k b o (fun z=>hc (by simp[z])) e⟩) (fun _ _ e=>e) (fun _ _ _ e=>e) (fun b ps e=>⟨#[],by rw[e];simp⟩) (fun m hm=>?_) (fun b u e=>?_) I.bare
 ·have e:b=it:=by simpa using hb
  subst e;exact⟨h1,hL,h2,h3⟩
 ·obtain⟨o,es,ep,ho,r⟩:=hm;exact⟨o,es,ep,k _ o (Y4 hL) ho,r⟩
 ·refine(I.hok b u e).stay (fun c v hc q=>k c v ?_ q) (fun _ q=>q) fun _ _ q=>q;rcases hc with z | z
  ·rw[z];exact U0 b u e
  ·exact U0 c _ z
def Inv.tok (I:Inv X pins σ H s) (t:Nat):Inv X pins σ H {s with toks:=t}:=I.un (h':=s.heap) (t':=t) Un.refl I.hok
def Inv.kept {t':Nat}(I:Inv X pins σ H s) (k:∀b u,s.heap.get? b=some u->h'.get? b=some u):Inv X pins σ H {s with heap:=h',toks:=t'}:=I.un (Un.kept k) (I.hok.kept k)
def Inv.laid {a:Addr}{o:HO}{t':Nat}(I:Inv X pins σ H s) (k:∀b u,s.heap.get? b=some u->h'.get? b=some u) (hp:s.heap.objs.size<=a) (new:fq X.prog X.w (upd H a o) h' a o):
  Inv X pins σ (upd H a o) {s with heap:=h',toks:=t'}:=I.un (Un.laid k hp (I.hok.fresh hp)) (I.hok.laid k hp new)
def Inv.write {x e:Addr}{o:HO}{t':Nat}(I:Inv X pins σ H s) (mu:NX (H x)) (he:e=x\/H e=some (.own x)) (k:∀b u,b≠e->s.heap.get? b=some u->h'.get? b=some u) (Ni:∃u,h'.get? e=some u)
  (new:fq X.prog X.w (upd H x o) h' x o):Inv X pins σ (upd H x o) {s with heap:=h',toks:=t'}:=I.un (Un.write mu he k Ni) (I.hok.write mu he k Ni new)
def Inv.CC {KL:AAD}(I:Inv X pins σ H s) (h:∀p∈KL,s.heap.get? p.1=some p.2/\H p.1=none/\p.1≠X.env.locals/\p.1∉X.fs/\∀v,p.2.data≠.cell v):Inv X KL σ H s:=
 ⟨I.ok,I.os,I.bare,I.base,I.loc,I.cell,I.free,I.lY,fun p hp=>(Yb.mp hp).elim (fun z=>I.pin p (Zo _ z)) (h p),I.hok,I.len⟩
def zU (hN:N.Nodup){j:Nat}(a:N[i]? =some x) (b:N[j]? =some x):i=j:=by
 obtain⟨h1,e1⟩:=XY.mp a;obtain⟨h2,e2⟩:=XY.mp b;exact(List.getElem_inj hN).mp (e1.trans e2.symm)
def DA {v:V}{Q:Unit->Shared->Prop}(I:Inv X pins σ H s) (hN:X.N.Nodup) (hi:X.N[i]? =some x) (hx:Loc X.env.scope x) (r:RelV v u)
  (h:∀s',Inv X pins (σ.set i (some v)) H s'->(∃a,Heap.SameBut a s.heap s'.heap/\(a=X.env.locals\/X.env.cells.lookup x=some a))->Q () s') (hf:X.fn x=true\/X.env.scope.names.lookup x=some .local:=by first | exact .inl rfl | exact .inr rfl | assumption):wpAny M A (storeName X.env x u) Q E s:=by
 obtain⟨m,hn,hl⟩:=id I.loc;have hcls:(X.env.scope.kind == .class || (X.env.scope.kind == .module && X.env.locals != X.env.globals))=false:=by rw[I.ok.kind];rfl
 have N4:i < σ.length:=by rw[I.len];exact(XY.mp hi).1
 have Ll:=I.Ll;have tracked:∀{a:Addr}{h':Heap},(∃o,s.heap.get? a=some o/\H a=none)->Heap.SameBut a s.heap h'->lX X.prog X.w H h':=fun {a h'} ha hs b ob e=>by
  obtain⟨_,_,hfree⟩:=ha;refine(I.hok b ob e).stay (fun c w' hc q=>(hs.2 c ?_).trans q) (fun _ q=>q) fun _ _ q=>q;rintro rfl;rcases hc with rfl | hc
  ·rw[hfree] at e;cases e
  ·rw[hfree] at hc;cases hc
 rcases hx with hk | hk
 ·refine wpAny_storeName_local hk hn (fun h' hn' hs=>?_) hcls;obtain⟨oL,_,_,N5,_⟩:=id hn;refine h _ ⟨I.ok,I.os,I.bare,⟨fun b o e n hb hx=>?_,fun b o e n hb hx=>?_,I.base.free,fun b o e hx=>?_,I.base.tups,I.base.wj,I.base.yH⟩,⟨_,hn',fun j y v' e1 e2 e3=>?_⟩,fun y c e=>?_,I.free,I.lY,fun p hp=>?_,tracked ⟨oL,N5,I.free⟩ hs,by simpa using I.len⟩ ⟨_,hs,.inl rfl⟩
  ·exact(hs.2 b (Yj (X0 (XZ e) I.ok.above))).trans (I.base.keep b o e n hb hx)
  ·obtain⟨sl,e1⟩:=I.base.slot b o e n hb hx;exact⟨sl,(hs.2 b (Yj (X0 (XZ e) I.ok.above))).trans e1⟩
  ·obtain⟨o',e1⟩:=I.base.there b o e hx;exact⟨o',(hs.2 b (Yj (X0 (XZ e) I.ok.above))).trans e1⟩
  ·by_cases hj:j=i
   ·subst hj;rw[hi] at e1;cases e1;rw[Yk N4] at e2;cases e2;exact⟨u,r,.inl ⟨hk,by simp⟩⟩
   ·rw[X5 (Y4 hj)] at e2;obtain⟨u',r',q⟩:=hl j y v' e1 e2 e3;refine⟨u',r',?_⟩;rcases q with⟨k,e⟩ | ⟨k,c,e,z⟩
    ·refine .inl ⟨k,?_⟩;have:y≠x:=fun e=>hj (zU hN e1 (e▸hi));simp[this,e]
    ·exact .inr ⟨k,c,e,z.sameBut hs (Ll y c e)⟩
  ·obtain⟨w',z⟩:=I.cell y c e;exact⟨w',z.sameBut hs (Ll y c e)⟩
  ·obtain⟨e,n,ne,nf,d⟩:=I.pin p hp;exact⟨(hs.2 p.1 ne).trans e,n,ne,nf,d⟩
 ·have hfn:X.fn x=true:=by
   rcases hf with z | z
   ·exact z
   ·rw[z] at hk;cases hk
  obtain⟨c,hc⟩:=I.ok.has x (.inl hk);obtain⟨w',z⟩:=I.cell x c hc;refine wpAny_storeName_cell I.ok.kind hk hc z (fun h' hc' hs=>?_);obtain⟨oc,hoc,Rv⟩:=id z;refine h {s with heap:=h'} ⟨I.ok,I.os,I.bare,⟨fun b o e n hb hx=>?_,fun b o e n hb hx=>?_,I.base.free,fun b o e hx=>?_,I.base.tups,I.base.wj,I.base.yH⟩,⟨m,hn.sameBut hs (Y4 (Ll x c hc)),fun j y v' e1 e2 e3=>?_⟩,fun y c' e=>?_,I.free,I.lY,fun p hp=>?_,tracked ⟨oc,hoc,I.lY x c hc⟩ hs,by simpa using I.len⟩ ⟨c,hs,.inr hc⟩
  ·exact(hs.2 b (Yj (X0 (XZ e) (I.ok.N1 x c hfn hc)))).trans (I.base.keep b o e n hb hx)
  ·obtain⟨sl,e1⟩:=I.base.slot b o e n hb hx;exact⟨sl,(hs.2 b (Yj (X0 (XZ e) (I.ok.N1 x c hfn hc)))).trans e1⟩
  ·obtain⟨o',e1⟩:=I.base.there b o e hx;exact⟨o',(hs.2 b (Yj (X0 (XZ e) (I.ok.N1 x c hfn hc)))).trans e1⟩
  ·by_cases hj:j=i
   ·subst hj;rw[hi] at e1;cases e1;rw[Yk N4] at e2;cases e2;exact⟨u,r,.inr ⟨.inl hk,c,hc,hc'⟩⟩
   ·rw[X5 (Y4 hj)] at e2;obtain⟨u',r',q⟩:=hl j y v' e1 e2 e3;refine⟨u',r',?_⟩;rcases q with q | ⟨k,c',e,z'⟩
    ·exact .inl q
    ·refine .inr ⟨k,c',e,z'.sameBut hs ?_⟩;rintro rfl;exact hj (zU hN e1 (I.ok.inj _ _ _ e hc▸hi))
  ·by_cases hcc:c'=c
   ·subst hcc;exact⟨_,hc'⟩
   ·obtain⟨w2,z2⟩:=I.cell y c' e;exact⟨w2,z2.sameBut hs hcc⟩
  ·obtain⟨e,n,ne,nf,d⟩:=I.pin p hp;refine⟨(hs.2 p.1 ?_).trans e,n,ne,nf,d⟩;intro q;rw[q,hoc] at e;have q':oc=p.2:=Ym e;exact d w' (by rw[<-q'];exact Rv)
def zV {v:V}{Q:Unit->Shared->Prop}(I:Inv X pins σ H s) (hN:X.N.Nodup) (hi:X.N[i]? =some x) (hx:Loc X.env.scope x) (r:RelV v u)
  (h:∀s',Inv X pins (σ.set i (some v)) H s'->Q () s') (hf:X.fn x=true\/X.env.scope.names.lookup x=some .local:=by first | exact .inl rfl | exact .inr rfl | assumption):wpAny M A (storeName X.env x u) Q E s:=
 DA I hN hi hx r (fun s' I' _=>h s' I') hf
def Inv.N6 {s':Shared}(I:Inv X pins σ H s) (ho:s'.os=s.os) (u:Un (frs X.stack) ch H H' s.heap s'.heap) (hok:lX X.prog X.w H' s'.heap) (hg:AllBare s'.gens)
  (hch:∀b∈ch,(b∈X.ex\/X.s₀.heap.objs.size<=b)/\b≠X.env.locals/\(∀x c,X.env.cells.lookup x=some c->c≠b)/\∀p∈X.pn++pins,p.1≠b):Inv X pins σ H' s':=by
 obtain⟨h',g',d',t',o'⟩:=s';have e:o'=s.os:=ho;subst e;exact I.call (g':=g') (t':=t') (d':=d') u hok hg hch
end
abbrev XK:=Value->BBN->Hp->Prop
abbrev St:=List (Option V)
abbrev VK:=V->Hp->Prop
abbrev TE:=St->Hp->VK->Prop
abbrev TT:=St->Hp->(Bool->Hp->Prop)->Prop
abbrev TA:=St->Hp->(List V->Hp->Prop)->Prop
structure Ends where
 nx:St->Hp->Prop
 rt:VK
 bk:St->Hp->Prop:=fun _ _=>False
 ct:St->Hp->Prop:=fun _ _=>False
abbrev TS:=Ends->St->Hp->Prop
inductive EP (X:Cx) (pins:AAD) (σ:St) (Q:VK) (u:Value) (s':Shared):Prop
 | mk (v:V) (H':Hp) (I:Inv X pins σ H' s') (r:RelV v u) (q:Q v H')
def TP (X:Cx) (pins:AAD) (σ:St) (Q:Bool->Hp->Prop) (b:Bool) (s':Shared):Prop:=∃H',Inv X pins σ H' s'/\Q b H'
inductive AP (X:Cx) (pins:AAD) (σ:St) (Q:List V->Hp->Prop) (us:AAI) (s':Shared):Prop
 | mk (vs:List V) (H':Hp) (I:Inv X pins σ H' s') (r:Vals vs us) (q:Q vs H')
def SP (X:Cx) (pins:AAD) (D:Ends) (f:Flow) (s':Shared):Prop:=
 match f with
 | .next=>∃σ' H',Inv X pins σ' H' s'/\D.nx σ' H'
 | .brk=>∃σ' H',Inv X pins σ' H' s'/\D.bk σ' H'
 | .cont=>∃σ' H',Inv X pins σ' H' s'/\D.ct σ' H'
 | .ret u=>∃v σ' H',Inv X pins σ' H' s'/\RelV v u/\D.rt v H'
def PE (X:Cx) (e:Expr) (t:TE):Prop:=
 ∀(pins:AAD) (s:Shared) (σ:St) (H:Hp) (Q:VK),Inv X pins σ H s->t σ H Q->wpAny (model X.prog X.w) X.A (eval e X.env) (EP X pins σ Q) X.xe s
def PT (X:Cx) (e:Expr) (t:TT):Prop:=
 ∀(pins:AAD) (s:Shared) (σ:St) (H:Hp) (Q:Bool->Hp->Prop),Inv X pins σ H s->t σ H Q->wpAny (model X.prog X.w) X.A (isTrue e X.env (eval e X.env)) (TP X pins σ Q) X.xe s
def PW (X:Cx) (e:Expr) (t:TT):Prop:=
 ∀(whole:Sem Value) (pins:AAD) (s:Shared) (σ:St) (H:Hp) (Q:Bool->Hp->Prop),Inv X pins σ H s->t σ H Q->wpAny (model X.prog X.w) X.A (isTrue e X.env whole) (TP X pins σ Q) X.xe s
def PW.pt {e:Expr}{t:TT}(h:PW X e t):PT X e t:=h _
def PA (X:Cx) (es:BBC) (t:TA):Prop:=
 ∀(pos:Pos) (pins:AAD) (s:Shared) (σ:St) (H:Hp) (Q:List V->Hp->Prop),Inv X pins σ H s->t σ H Q->wpAny (model X.prog X.w) X.A (spliced (backTo pos (starEach es X.env))) (AP X pins σ Q) X.xe s
def PS (X:Cx) (st:Stmt) (t:TS):Prop:=
 ∀(pins:AAD) (s:Shared) (σ:St) (H:Hp) (D:Ends),Inv X pins σ H s->t D σ H->wpAny (model X.prog X.w) X.A (exec st X.env) (SP X pins D) X.xe s
def xq (X:Cx) (st:BBH) (t:TS):Prop:=
 ∀(pins:AAD) (s:Shared) (σ:St) (H:Hp) (D:Ends),Inv X pins σ H s->t D σ H->wpAny (model X.prog X.w) X.A (execs st X.env) (SP X pins D) X.xe s
def dw {α:Type}{t:Sem α}{Q Q':α->Shared->Prop}{s:Shared}(h:wpAny M A t Q E s) (hQ:∀a s,Q a s->Q' a s):wpAny M A t Q' E s:=YC h hQ fun _ _ x=>x
section
variable {X:Cx}
def Ih (i:Nat):TE:=fun σ H Q=>∃v,σ[i]? =some (some v)/\Q v H
def tC (v:V):TE:=fun _ H Q=>Q v H
def dF (hN:X.N[i]? =some x) (hv:wm X.env.scope x) (hd:BBT x:=by decide) (hcd:BBU x:=by decide):PE X (.Name x pos) (Ih i):=by
 intro pins s σ H Q I h;obtain⟨v,e,h⟩:=h;obtain⟨m,hn,hl⟩:=I.loc;obtain⟨u,r,l⟩:=hl i x v hN e hv;have fin:EP X pins σ Q u s:=⟨v,H,I,r,h⟩
 rcases l with⟨hk,hm⟩ | ⟨hk,c,hc,hcell⟩
 ·exact wpAny_Name (wpAny_loadName_local I.ok.kind hk hn hm fin) hd
 ·rcases hk with hk | hk
  ·exact wpAny_Name (wpAny_loadName_cell I.ok.kind hk hc hcell fin) hd
  ·exact wpAny_Name (wpAny_loadName_free I.ok.kind hk hc hcell fin hcd) hd
def ow {i j pos}:PE X (.Constant (.int i) j pos) (tC (.int i)):=fun _ _ _ H _ I h=>wpAny_Constant_int ⟨.int i,H,I.tok _,⟨_,rfl⟩,h⟩
def N7 {b j pos}:PE X (.Constant (.bool b) j pos) (tC (.bl b)):=fun _ _ _ H _ I h=>Constant_bool ⟨.bl b,H,I,rfl,h⟩
def Lm {j pos}:PE X (.Constant .none j pos) (tC .bN):=fun _ _ _ H _ I h=>Constant_none ⟨.bN,H,I,rfl,h⟩
def Fg {x j pos}:PE X (.Constant (.str x) j pos) (tC (.str x)):=fun _ _ _ H _ I h=>Calls.Constant_str ⟨.str x,H,I.tok _,⟨_,rfl⟩,h⟩
def Gl (X:Cx) (x:Str):Prop:=X.env.kindOf x=some .globalImplicit
def yK {s:Shared}(I:Inv X pins σ H s) (hg:Gl X x) (hm:X.mg x=some u) (h:Q u s)
  (hd:BBT x:=by decide):wpAny (model X.prog X.w) X.A (eval (.Name x pos) X.env) Q E s:=
 Calls.Name_function_global I.ok.kind hg (Calls.loadGlobal_global (by rw[I.ok.glob];exact I.mod.glob.keeps I.bk) hm h) hd
def qH {s:Shared}(I:Inv X pins σ H s) (hg:Gl X x) (hm:X.mg x=none) (hv:bootBuiltins x=some u) (h:Q u s)
  (hn:x≠"__name__":=by decide) (hd:BBT x:=by decide):wpAny (model X.prog X.w) X.A (eval (.Name x pos) X.env) Q E s:=by
 obtain⟨mb,h1,h2⟩:=I.mod.blt;exact Calls.Name_function_global I.ok.kind hg (Calls.loadGlobal_builtin (by rw[I.ok.glob];exact I.mod.glob.keeps I.bk) hm (by rw[I.ok.blt];exact h1.keeps I.bk) ((h2 x hn).trans hv) h) hd
def pK {v:V}(hg:Gl X x) (hm:X.mg x=some u) (r:RelV v u) (hd:BBT x:=by decide):PE X (.Name x pos) (tC v):=
 fun _ _ _ H _ I h=>yK I hg hm ⟨v,H,I,r,h⟩ hd
def Ii {v:V}(hg:Gl X x) (hm:X.mg x=none) (hv:bootBuiltins x=some u) (r:RelV v u) (hn:x≠"__name__":=by decide) (hd:BBT x:=by decide):PE X (.Name x pos) (tC v):=
 fun _ _ _ H _ I h=>qH I hg hm hv ⟨v,H,I,r,h⟩ hn hd
variable {a b:Expr}{ta tb:TE}{pos:Pos}
def PC (X:Cx) (op:CmpOp) (a b:Expr) (t:TE):Prop:=
 ∀(pins:AAD) (s:Shared) (σ:St) (H:Hp) (Q:VK),Inv X pins σ H s->t σ H Q->
  wpAny (model X.prog X.w) X.A (eval a X.env) (fun v s₁=>wpAny (model X.prog X.w) X.A (eval b X.env) (fun u s₂=>wpAny (model X.prog X.w) X.A (compareOp op v u) (EP X pins σ Q) X.xe s₂) X.xe s₁) X.xe s
def zW (b:Expr)(h:op≠.In) (h2:op≠.NotIn):behindInMarks op b=false:=by
 have e1:(op == CmpOp.In)=false:=by cases op <;> first | rfl | exact absurd rfl h
 have e2:(op == CmpOp.NotIn)=false:=by cases op <;> first | rfl | exact absurd rfl h2
 cases b <;> simp[behindInMarks,e1,e2]
def tB (t:TE):TT:=fun σ H Q=>t σ H fun x H1=>∃c,x= .bl c/\Q c H1
def Ln {t:TE}(h:PC X op a b t) (h1:behindInMarks op b=false:=by first | exact zW _ (by decide) (by decide) | rfl):PE X (.Compare a [op] [b] pos) t:=fun pins s σ H Q I hw=>wpAny_Compare1 (h pins s σ H Q I hw) h1
def Lo {t:TE}(h:PC X op a b t) (h1:behindInMarks op b=false:=by first | exact zW _ (by decide) (by decide) | rfl):PT X (.Compare a [op] [b] pos) (tB t):=by
 intro pins s σ H Q I hw;refine wpAny_isTrue_Compare1 (dw (h pins s σ H _ I hw) fun v s1 h1=>dw h1 fun u s2 h2=>dw h2 fun c s3 hh=>?_) h1;obtain⟨x,H1,I1,r1,q1⟩:=hh;obtain⟨d,rfl,q⟩:=q1;cases r1;exact Y5 ⟨H1,I1,q⟩
def Lp {e:Expr}{t:TE}(h:PE X e t) (he:∀whole,isTrue e X.env whole=(do let v <-whole;standAt e.pos;holding [v] (truthy v)):=by intro _;rfl):PT X e (tB t):=by
 intro pins s σ H Q I hw;refine isTrue_plain (dw (h pins s σ H _ I hw) fun v s1 hh=>?_) (he _);obtain⟨x,H1,I1,r1,q1⟩:=hh;obtain⟨d,rfl,q⟩:=q1;cases r1;exact Y5 ⟨H1,I1,q⟩
variable {tA Qk:TT}{rest:BBC}
def Rw (t u:TT):TT:=fun σ H Q=>t σ H fun c H1=>if c=true then u σ H1 Q else Q false H1
def VO (t u:TT):TT:=fun σ H Q=>t σ H fun c H1=>if c=true then Q true H1 else u σ H1 Q
def Rx (t:TT):TT:=fun σ H Q=>t σ H fun c H1=>Q (!c) H1
def pw_and1 (ha:PT X a tA):PW X (.BoolOp .And [a] pos) tA:=by
 intro wh pins s σ H Q I h;refine isTrue_and (dw (ha pins s σ H Q I h) fun c s1 e=>?_);cases c with
 | true=>exact isTrue_and_nil e
 | false=>exact e
def pw_or1 (ha:PT X a tA):PW X (.BoolOp .Or [a] pos) tA:=by
 intro wh pins s σ H Q I h;refine isTrue_or (dw (ha pins s σ H Q I h) fun c s1 e=>?_);cases c with
 | false=>exact isTrue_or_nil e
 | true=>exact e
def pw_and (ha:PT X a tA) (hb:PW X (.BoolOp .And (b :: rest) pos) Qk):PW X (.BoolOp .And (a :: b :: rest) pos) (Rw tA Qk):=by
 intro wh pins s σ H Q I h;refine isTrue_and (dw (ha pins s σ H _ I h) fun c s1 hh=>?_);obtain⟨H1,I1,q1⟩:=hh;cases c with
 | true=>exact hb wh pins s1 σ H1 Q I1 q1
 | false=>exact⟨H1,I1,q1⟩
def pw_or (ha:PT X a tA) (hb:PW X (.BoolOp .Or (b :: rest) pos) Qk):PW X (.BoolOp .Or (a :: b :: rest) pos) (VO tA Qk):=by
 intro wh pins s σ H Q I h;refine isTrue_or (dw (ha pins s σ H _ I h) fun c s1 hh=>?_);obtain⟨H1,I1,q1⟩:=hh;cases c with
 | true=>exact⟨H1,I1,q1⟩
 | false=>exact hb wh pins s1 σ H1 Q I1 q1
def Lq (ha:PT X a tA):PT X (.UnaryOp .Not a pos) (Rx tA):=by
 intro pins s σ H Q I h;exact isTrue_not (ha pins s σ H (fun c H1=>Q (!c) H1) I h)
def N8 (ta tb:TE):TE:=fun σ H Q=>ta σ H fun x H1=>∃c,x= .bl c/\if c=true then tb σ H1 Q else Q (.bl false) H1
def Ry (ta tb:TE):TE:=fun σ H Q=>ta σ H fun x H1=>∃c,x= .bl c/\if c=true then Q (.bl true) H1 else tb σ H1 Q
def Lr {op}{t:TE}(h:PE X a t):PE X (.BoolOp op [a] pos) t:=fun pins s σ H Q I hw=>BoolOp_one (h pins s σ H Q I hw)
def Ls (ha:PE X a ta) (hb:PE X (.BoolOp .And (b :: rest) pos) tb):PE X (.BoolOp .And (a :: b :: rest) pos) (N8 ta tb):=by
 intro pins s σ H Q I h;refine BoolOp_and (dw (ha pins s σ H _ I h) fun v s1 hh=>?_);obtain⟨x,H1,I1,r1,q1⟩:=hh;obtain⟨c,rfl,q1⟩:=q1;cases r1;refine Y5 ?_;cases c with
 | true=>exact hb pins s1 σ H1 Q I1 q1
 | false=>exact⟨.bl false,H1,I1,rfl,q1⟩
def N9 (ha:PE X a ta) (hb:PE X (.BoolOp .Or (b :: rest) pos) tb):PE X (.BoolOp .Or (a :: b :: rest) pos) (Ry ta tb):=by
 intro pins s σ H Q I h;refine BoolOp_or (dw (ha pins s σ H _ I h) fun v s1 hh=>?_);obtain⟨x,H1,I1,r1,q1⟩:=hh;obtain⟨c,rfl,q1⟩:=q1;cases r1;refine Y5 ?_;cases c with
 | false=>exact hb pins s1 σ H1 Q I1 q1
 | true=>exact⟨.bl true,H1,I1,rfl,q1⟩
end
def oz (K:AAA) (H:Hp) (a:Addr) (xs:List V):Prop:=
 Rd H a (.lst xs)\/
  ∃(o:Obj) (its:AAH) (n:Nat),K.lookup a=some o/\o.cls= .type "list"/\o.dict=none/\o.data= .seq its n/\its.size<=sizeLine/\Vals xs its.toList
def Bq (K:AAA) (H:Hp) (a:Addr) (xs:List V):Prop:=
 Rd H a (.tup xs)\/
  ∃(o:Obj) (its:AAH) (n:Nat),K.lookup a=some o/\o.cls= .type "tuple"/\o.data= .seq its n/\its.size<=sizeLine/\Vals xs its.toList
noncomputable def Rz:Value->Option V
 | .none=>some .bN
 | .bool b=>some (.bl b)
 | .int i _=>some (.int i)
 | .str x _=>some (.str x)
 | .bytes b _=>some (.Rp b)
 | .float b _=>some (.flt b)
 | .ref a=>some (.ref a)
 | .type n=>some (.ty n)
 | _=>none
def RelV.abs {x:V}(r:RelV x u):Rz u=some x:=by
 cases x with
 | bN=>cases r;rfl
 | bl _=>cases r;rfl
 | int _=>obtain⟨t,rfl⟩:=r;rfl
 | str _=>obtain⟨t,rfl⟩:=r;rfl
 | Rp _=>obtain⟨t,rfl⟩:=r;rfl
 | flt _=>obtain⟨t,rfl⟩:=r;rfl
 | ref _=>cases r;rfl
 | ty _=>cases r;rfl
def RelV.inj {x y:V}{u:Value}(r:RelV x u) (q:RelV y u):x=y:=Ym (r.abs.symm.trans q.abs)
theorem Vals.inj:∀{xs ys:List V}{us:AAI},Vals xs us->Vals ys us->xs=ys
 | _,_,_,.nil,.nil=>rfl
 | _,_,_,.cons r t,.cons r' t'=>by rw[r.inj r',Vals.inj t t']
section
variable {X:Cx}{pins:AAD}{σ:St}{H:Hp}{s:Shared}{a:Addr}{xs ys:List V}
def oz.of (h:H a=some (.lst xs)):oz K H a xs:=.inl (.inl h)
def Inv.list (I:Inv X pins σ H s) (h:oz X.K H a xs):∃its:BBG,Vals xs its/\PlainL s.heap a its.toArray/\xs.length<=sizeLine:=by
 rcases h with h | ⟨o,its,n,hk,hc,hd,hs,hz,r⟩
 ·obtain⟨z,its,n,r,e⟩:=h.ok I.hok;exact⟨its,r,⟨_,n,e,rfl,rfl,rfl⟩,z⟩
 ·refine⟨its.toList,r,⟨o,n,I.Bp a o hk,hc,hd,by simpa using hs⟩,?_⟩;have e:=r.length;simp only[Yr] at e;lia
def Inv.tuple (I:Inv X pins σ H s) (h:Bq X.K H a xs):∃its:BBG,Vals xs its/\IsTup s.heap a its.toArray/\xs.length<=sizeLine:=by
 rcases h with h | ⟨o,its,n,hk,hc,hs,hz,r⟩
 ·obtain⟨z,its,r,p⟩:=h.ok I.hok;exact⟨its,r,p,z⟩
 ·refine⟨its.toList,r,⟨o,I.Bp a o hk,hc,n,by simpa using hs⟩,?_⟩;have e:=r.length;simp only[Yr] at e;lia
def Inv.Fi (I:Inv X pins σ H s) (h:oz X.K H a xs) (h':oz X.K H a ys):xs=ys:=by
 obtain⟨its,r,⟨o,n,e,_,_,d⟩,_⟩:=I.list h;obtain⟨its',r',⟨o',n',e',_,_,d'⟩,_⟩:=I.list h';rw[e] at e';cases e';rw[d] at d';injection d' with d1 _
 have:its=its':=by simpa using congrArg Array.toList d1
 subst this;exact r.inj r'
def Inv.DB (I:Inv X pins σ H s) (h:Bq X.K H a xs) (h':Bq X.K H a ys):xs=ys:=by
 obtain⟨its,r,⟨o,e,_,n,d⟩,_⟩:=I.tuple h;obtain⟨its',r',⟨o',e',_,n',d'⟩,_⟩:=I.tuple h';rw[e] at e';cases e';rw[d] at d';injection d' with d1 _
 have:its=its':=by simpa using congrArg Array.toList d1
 subst this;exact r.inj r'
end
noncomputable abbrev Cx.wu (X:Cx) (E:AAB):Cx:={X with xe:=E}
noncomputable abbrev Cx.KN (X:Cx):Cx:=X.wu fun _ _=>False
def Cx.Ok.wu {X:Cx}(ok:X.Ok) (E:AAB):(X.wu E).Ok:=
 ⟨ok.mod,ok.kind,ok.glob,ok.blt,ok.above,ok.inj,ok.has,ok.N1,ok.hd,ok.frames,ok.stk,ok.Rt,ok.bs,ok.KJ,ok.Fe,ok.Ff,ok.uC,ok.Nj⟩
def Cx.Ok.lZ (ok:(X.wu E).Ok):X.Ok:=
 ⟨ok.mod,ok.kind,ok.glob,ok.blt,ok.above,ok.inj,ok.has,ok.N1,ok.hd,ok.frames,ok.stk,ok.Rt,ok.bs,ok.KJ,ok.Fe,ok.Ff,ok.uC,ok.Nj⟩
section
variable {X:Cx}{pins:AAD}{σ:St}{H:Hp}{s:Shared}{E:AAB}
def Inv.wu (I:Inv X pins σ H s) (E:AAB):Inv (X.wu E) pins σ H s:=⟨I.ok.wu E,I.os,I.bare,I.base,I.loc,I.cell,I.free,I.lY,I.pin,I.hok,I.len⟩
def Inv.lZ (I:Inv (X.wu E) pins σ H s):Inv X pins σ H s:=⟨I.ok.lZ,I.os,I.bare,I.base,I.loc,I.cell,I.free,I.lY,I.pin,I.hok,I.len⟩
def SP.lZ {D:Ends}{f:Flow}{s':Shared}(h:SP (X.wu E) pins D f s'):SP X pins D f s':=by
 cases f with
 | next=>obtain⟨σ',H',I,q⟩:=h;exact⟨σ',H',I.lZ,q⟩
 | brk=>obtain⟨σ',H',I,q⟩:=h;exact⟨σ',H',I.lZ,q⟩
 | cont=>obtain⟨σ',H',I,q⟩:=h;exact⟨σ',H',I.lZ,q⟩
 | ret u=>obtain⟨v,σ',H',I,r,q⟩:=h;exact⟨v,σ',H',I.lZ,r,q⟩
def xq.KN {st:BBH}{t:TS}(h:xq X.KN st t):xq X st t:=fun pins s σ H D I hw=>
 YC (h pins s σ H D (I.wu _) hw) (fun _ _ q=>q.lZ) fun _ _ z=>False.elim z
end
section
variable {X:Cx}{st:Stmt}{rest:BBH}{t u:TS}{e:Expr}{te:TE}{pos:Pos}
def Oa:TS:=fun D σ H=>D.nx σ H
def Ob (t u:TS):TS:=fun D σ H=>t {D with nx:=u D} σ H
def Ij:xq X [] Oa:=fun _ _ σ H _ I h=>aan ⟨σ,H,I,h⟩
def pL (h1:PS X st t) (h2:xq X rest u):xq X (st :: rest) (Ob t u):=by
 intro pins s σ H D I h;refine wpAny_execs_cons (dw (h1 pins s σ H {D with nx:=u D} I h) fun f s1 q=>?_);cases f with
 | next=>
  obtain⟨σ',H',I',q⟩:=q;exact h2 pins s1 σ' H' D I' q
 | ret v=>exact q
 | brk=>exact q
 | cont=>exact q
def Ik (h1:PS X st t):xq X [st] t:=by
 intro pins s σ H D I h;refine wpAny_execs_cons (dw (h1 pins s σ H D I h) fun f s1 q=>?_);cases f with
 | next=>exact aan q
 | ret v=>exact q
 | brk=>exact q
 | cont=>exact q
def Inv.quiet {s:Shared}(I:Inv X pins σ H s):interactive X.env=false:=by simp[interactive,I.ok.kind]
def Oc (te:TE):TS:=fun D σ H=>te σ H fun _ H1=>D.nx σ H1
def Il (he:PE X e te) (hs:swapsWith e none pos.line X.env=pure false:=by rfl):PS X (.Expr e pos) (Oc te):=by
 intro pins s σ H D I h;exact wpAny_Expr_any (dw (he pins s σ H _ I h) fun v s1 ⟨x,H1,I1,r1,q1⟩=>⟨σ,H1,I1,q1⟩) I.quiet hs
def RA (te:TE):TS:=fun D σ H=>te σ H D.rt
def Lu (he:PE X e te):PS X (.Return (some e) pos) (RA te):=by
 intro pins s σ H D I h;exact wpAny_Return_some (dw (he pins s σ H _ I h) fun v s1 ⟨x,H1,I1,r1,q1⟩=>⟨x,σ,H1,I1,r1,q1⟩)
def RB (c:TT) (t u:TS):TS:=fun D σ H=>c σ H fun b H1=>if b=true then t D σ H1 else u D σ H1
def Od {c:Expr}{a b:BBH}{tc:TT}(hc:PT X c tc) (ha:xq X a t) (hb:xq X b u):PS X (.If c a b pos) (RB tc t u):=by
 intro pins s σ H D I h;refine wpAny_If (dw (hc pins s σ H _ I h) fun d s1 hh=>?_);obtain⟨H1,I1,q1⟩:=hh;cases d with
 | true=>exact ha pins s1 σ H1 D I1 q1
 | false=>exact hb pins s1 σ H1 D I1 q1
end
abbrev TG:=V->St->Hp->(St->Hp->Prop)->Prop
def PG (X:Cx) (target:Expr) (t:TG):Prop:=
 ∀(pins:AAD) (s:Shared) (σ:St) (H:Hp) (v:V) (u:Value) (Q:St->Hp->Prop),Inv X pins σ H s->RelV v u->t v σ H Q->
  wpAny (model X.prog X.w) X.A (assign target X.env u) (fun _ s'=>∃σ' H',Inv X pins σ' H' s'/\Q σ' H') X.xe s
abbrev Lv:=V->V->V->Hp->(Hp->Prop)->Prop
def Oe (X:Cx) (t:Lv):Prop:=
 ∀(pins:AAD) (s:Shared) (σ:St) (H:Hp) (o i v:V) (ov iv u:Value) (Q:Hp->Prop),Inv X pins σ H s->RelV o ov->RelV i iv->RelV v u->t o i v H Q->
  wpAny (model X.prog X.w) X.A (setItem ov iv u) (fun _ s'=>∃H',Inv X pins σ H' s'/\Q H') X.xe s
section
variable {X:Cx}{pos:Pos}
def CD (i:Nat):TG:=fun v σ H Q=>Q (σ.set i (some v)) H
def CF (hN:X.N.Nodup) (hi:X.N[i]? =some x) (hx:Loc X.env.scope x) (hf:X.fn x=true\/X.env.scope.names.lookup x=some .local:=by first | exact .inl rfl | exact .inr rfl | assumption):PG X (.Name x pos) (CD i):=by
 intro pins s σ H v u Q I r h;exact wpAny_assign_Name (zV I hN hi hx r (fun s' I'=>⟨_,H,I',h⟩) hf)
def RC (to ti:TE) (t:Lv):TG:=fun v σ H Q=>to σ H fun o H1=>ti σ H1 fun i H2=>t o i v H2 fun H3=>Q σ H3
def Fj {o i:Expr}{to ti:TE}{t:Lv}(ho:PE X o to) (hi:PE X i ti) (hs:Oe X t)
  (ha:∀v,assign (.Subscript o i pos) X.env v=(do
   let ov <-holding [v] (eval o X.env)
   let iv <-holding [v,ov] (eval i X.env)
   standAt pos
   holding [v,ov,iv] (setItem ov iv v)
   release [v,ov,iv] []):=by intro _;rfl):PG X (.Subscript o i pos) (RC to ti t):=by
 intro pins s σ H v u Q I r h;rw[ha];refine XQ (YD (dw (ho pins s σ H _ I h) fun ov s1 hh=>?_));obtain⟨x,H1,I1,r1,q1⟩:=hh;refine XQ (YD (dw (hi pins s1 σ H1 _ I1 q1) fun iv s2 hh=>?_));obtain⟨y,H2,I2,r2,q2⟩:=hh;refine XQ (wpAny_standAt (XQ (YD (dw (hs pins s2 σ H2 x y v ov iv u _ I2 r1 r2 r q2) fun _ s3 hh=>?_))));obtain⟨H3,I3,q3⟩:=hh;exact wpAny_release ⟨σ,H3,I3,q3⟩
def Lw (te:TE) (g:TG):TS:=fun D σ H=>te σ H fun x H1=>g x σ H1 D.nx
def Fl {e:Expr}{te:TE}{g:TG}(he:PE X e te) (hg:PG X tg g) (hs:swapsWithSole [tg] e pos.line X.env=pure false:=by rfl) (hw:swappedStores [tg] e X.env=pure none:=by rfl)
  (h1:(assignEach [tg] X.env).map (·.2)=[assign tg X.env]:=by rfl):PS X (.Assign [tg] e pos) (Lw te g):=by
 intro pins s σ H D I h;refine wpAny_Assign_stores (dw (he pins s σ H _ I h) fun v s1 hh=>?_) hs hw;obtain⟨x,H1,I1,r1,q1⟩:=hh;rw[h1];exact dw (hg pins s1 σ H1 x v _ I1 r1 q1) fun _ s2 q=>q
def Br {e:Expr}{te:TE}{pos':Pos}(hN:X.N.Nodup) (hi:X.N[i]? =some x) (hx:Loc X.env.scope x) (he:PE X e te) (hs:swapsWith e (some (.Name x pos')) pos.line X.env=pure false:=by rfl) (hf:X.fn x=true\/X.env.scope.names.lookup x=some .local:=by first | exact .inl rfl | exact .inr rfl | assumption):
  PS X (.Assign [.Name x pos'] e pos) (Lw te (CD i)):=by
 intro pins s σ H D I h;refine wpAny_Assign_Name (dw (he pins s σ H _ I h) fun v s1 hh=>?_) hs;obtain⟨y,H1,I1,r1,q1⟩:=hh;exact zV I1 hN hi hx r1 (fun s2 I2=>⟨_,H1,I2,q1⟩) hf
def Lx (c:TT) (tb:TS):TS:=fun D σ H=>∃W:Nat->St->Hp->Prop,(∃m,W m σ H)/\∀m σ H,W m σ H->
 c σ H fun b H1=>if b=true then ∃N:St->Hp->Prop,(∀σ' H',N σ' H'->∃m',m' < m/\W m' σ' H')/\tb {D with nx:=N,ct:=N,bk:=D.nx} σ H1 else D.nx σ H1
def Fo {c:Expr}{tc:TT}{tb:TS}(hp:PassesOwn (model X.prog X.w) X.A X.env X.xe) (hc:PT X c tc) (hb:xq X body tb):PS X (.While c body [] pos) (Lx tc tb):=by
 intro pins s σ H D I h;obtain⟨W,⟨m0,w0⟩,turn⟩:=h;refine wpAny_While (codeAny_whileLoop (fun n s'=>∃σ' H',Inv X pins σ' H' s'/\W n σ' H') ?_ m0 ⟨σ,H,I,w0⟩);rintro n s1 ⟨σ1,H1,I1,w1⟩;refine Zg hp (dw (hc pins s1 σ1 H1 _ I1 (turn n σ1 H1 w1)) fun b s2 hh=>?_);obtain⟨H2,I2,q2⟩:=hh;cases b with
 | true=>
  obtain⟨N,hN,q2⟩:=q2;rw[if_pos rfl];refine Zg hp (dw (hb pins s2 σ1 H2 _ I2 q2) fun f s3 q3=>?_);cases f with
  | next=>
   obtain⟨σ3,H3,I3,n3⟩:=q3;obtain⟨m',hm,w3⟩:=hN σ3 H3 n3;exact⟨m',hm,σ3,H3,I3,w3⟩
  | cont=>
   obtain⟨σ3,H3,I3,n3⟩:=q3;obtain⟨m',hm,w3⟩:=hN σ3 H3 n3;exact⟨m',hm,σ3,H3,I3,w3⟩
  | brk=>exact q3
  | ret v=>exact q3
 | false=>
  rw[if_neg aaL];exact aan ⟨σ1,H2,I2,q2⟩
end
structure It where
 go:Nat->Hp->Prop
 Of:Nat->Hp->V->Hp->Prop
 stop:Nat->Hp->Prop
def qI (X:Cx) (pins:AAD) (H:Hp) (b:Addr):Prop:=
 H b=none/\b≠X.env.locals/\b∉X.fs/\(b∈X.ex\/X.s₀.heap.objs.size<=b)/\(∀x c,X.env.cells.lookup x=some c->c≠b)/\∀p∈X.pn++pins,p.1≠b
def Inv.Fp {s:Shared}{b:Addr}(I:Inv X pins σ H s) (hb:s.heap.objs.size<=b) (hn:H' b=none):qI X pins H' b:=by
 refine⟨hn,Nat.ne_of_gt (X0 I.lt hb),I.N2 hb,.inr (X7 I.sz hb),fun x c e z=>?_,fun p hp z=>?_⟩
 ·obtain⟨v,q⟩:=I.cell x c e;exact absurd (X0 q.lt (by rw[z];exact hb)) (YS _)
 ·exact absurd (X0 (XZ (I.pin p hp).1) (by rw[z];exact hb)) (YS _)
structure Turn (P:Program) (w:World) (K:AAA) (tg:Expr) (J:It) (fp:BBE) (it:Addr) (tn:Nat->Heap->Prop):Prop where
 mem:it∈fp
 obj:∀i h,tn i h->∀b∈fp,∃o,h.get? b=some o/\∀v,o.data≠.cell v
 keep:∀i h h',tn i h->(∀b∈fp,∀o,h.get? b=some o->h'.get? b=some o)->tn i h'
 item:∀(X:Cx),X.prog=P->X.w=w->X.K=K->X.calm=true->∀(i:Nat) (pins:AAD) (s:Shared) (σ:St) (H:Hp) (E:AAB),Inv X pins σ H s->(∀b∈fp,qI X pins H b)->tn i s.heap->J.go i H->
  wpAny (model P w) X.A (pyNext (.ref it)) (fun r s1=>∃u,r=some u/\
   wpAny (model P w) X.A (letOwnedTupleGo tg (.ref it) u) (fun _ s2=>∃x H',Inv X pins σ H' s2/\RelV x u/\J.Of i H x H'/\tn (i+1) s2.heap/\∀b∈fp,H' b=none) E s1) E s
 done:∀(X:Cx),X.prog=P->X.w=w->X.K=K->X.calm=true->∀(i:Nat) (pins:AAD) (s:Shared) (σ:St) (H:Hp) (E:AAB),Inv X pins σ H s->(∀b∈fp,qI X pins H b)->tn i s.heap->J.stop i H->
  wpAny (model P w) X.A (pyNext (.ref it)) (fun r s1=>r=none/\Inv X pins σ H s1) E s
 self:∀(A:Around) (i:Nat) (s:Shared) (Q:AAB) (E:AAB),tn i s.heap->Q (.ref it) s->wpAny (model P w) A (pyIter (.ref it)) Q E s
abbrev TI:=St->Hp->(It->Hp->Prop)->Prop
def RD (X:Cx) (pins:AAD) (σ:St) (tg:Expr) (R:It->Hp->Prop) (itv:Value) (s2:Shared):Prop:=
 ∃(it:Addr) (fp:BBE) (tn:Nat->Heap->Prop) (J:It) (H':Hp),itv= .ref it/\Inv X pins σ H' s2/\Turn X.prog X.w X.K tg J fp it tn/\tn 0 s2.heap/\(∀b∈fp,qI X pins H' b)/\R J H'
def PI (X:Cx) (tg iter:Expr) (wi:TI):Prop:=
 ∀(pins:AAD) (s:Shared) (σ:St) (H:Hp) (R:It->Hp->Prop),Inv X pins σ H s->wi σ H R->
  wpAny (model X.prog X.w) X.A (eval iter X.env) (fun v s1=>wpAny (model X.prog X.w) X.A (pyIter v) (RD X pins σ tg R) X.xe s1) X.xe s
def Fq {s:Shared}{it:Addr}{n:String}{vs:AAH}{Q:Unit->Shared->Prop}(ho:s.heap.get? it=some o) (hc:o.cls= .type n) (hd:o.data= .fields vs)
    (hn:["enumerate","zip","dict_itemiterator","dict_reverseitemiterator","odict_iterator","itertools.zip_longest","itertools.pairwise"].contains n=false) (hQ:Q () s):wpAny M A (letOwnedTupleGo tg (.ref it) u) Q E s:=by
  unfold letOwnedTupleGo;cases tg <;> first
    | exact wpAny_pure hQ
    | (cases u <;> first
        | exact wpAny_pure hQ
        | (refine XQ (wpAny_load ho ?_)
           rw[hc,hd];show wpAny M A (if(["enumerate","zip","dict_itemiterator","dict_reverseitemiterator","odict_iterator","itertools.zip_longest","itertools.pairwise"].contains n && vs[0]? == some (rawInt _))=true then _ else _) Q E s;rw[if_neg (by intro h;rw[hn,aaD] at h;cases h)];exact wpAny_pure hQ))
noncomputable def RE (K:AAA) (a:Addr):It:=
 ⟨fun i H=>∃xs x,oz K H a xs/\xs[i]? =some x,fun i H x H'=>H'=H/\∀xs,oz K H a xs->xs[i]? =some x,fun i H=>∃xs,oz K H a xs/\xs.length<=i⟩
noncomputable def RG (K:AAA) (a:Addr):It:=
 ⟨fun i H=>∃xs x,Bq K H a xs/\xs[i]? =some x,fun i H x H'=>H'=H/\∀xs,Bq K H a xs->xs[i]? =some x,fun i H=>∃xs,Bq K H a xs/\xs.length<=i⟩
noncomputable def Ql (lo:Int) (n:Nat):It:=⟨fun i _=>i < n,fun i H x H'=>H'=H/\x= .int (lo+i),fun i _=>n<=i⟩
def DC (a it:Addr):Turn P w K tg (RE K a) [it] it (fun i h=>h.IsListIter it a i) where
 mem:=by simp
 obj:=fun i h st b hb=>by
  have e:b=it:=by simpa using hb
  subst e;obtain⟨o,e,c,d⟩:=st;exact⟨o,e,fun v z=>by rw[d] at z;cases z⟩
 keep:=fun i h h' st k=>st.at fun o e=>k it (by simp) o e
 item:=by
  intro X hP hw hK hc i pins s σ H E I hf st hg;subst hP hw hK;obtain⟨xs,x,hq,hx⟩:=hg;obtain⟨its,rv,p,hz⟩:=I.list hq;obtain⟨u,hu,ru⟩:=rv.get hx;obtain⟨f0,f1,f2,f3,f4,f5⟩:=hf it (by simp);refine wpAny_pyNext_list_item st p.isList (x:=u) (by simpa using hu) fun h' st' sb=>?_;have I1:Inv X pins σ H {s with heap:=h'}:=I.turned (t':=s.toks) (fun b o hb e=>(sb.2 b hb).trans e) f0 f1 f3 f4 f5;obtain⟨o,e,c,d⟩:=id st';exact⟨u,rfl,Fq (s:={s with heap:=h'}) e c d (by decide) ⟨x,H,I1,ru,⟨rfl,fun ys hy=>by rw[I.Fi hy hq];exact hx⟩,st',fun b hb=>(hf b hb).1⟩⟩
 done:=by
  intro X hP hw hK hc i pins s σ H E I hf st hg;subst hP hw hK;obtain⟨xs,hq,hx⟩:=hg;obtain⟨its,rv,p,hz⟩:=I.list hq;obtain⟨f0,f1,f2,f3,f4,f5⟩:=hf it (by simp);have hl:=rv.length;exact wpAny_pyNext_list_end (I.ok.hd hc) st p.isList (by simp;lia) fun h' eb=>⟨rfl,I.turned (t':=s.toks) (fun b o hb e=>eb b o hb e) f0 f1 f3 f4 f5⟩
 self:=fun _ _ _ _ _ st h=>wpAny_pyIter_listiter st h
def Bs (a it:Addr):Turn P w K tg (RG K a) [it] it (fun i h=>h.IsTupleIter it a i) where
 mem:=by simp
 obj:=fun i h st b hb=>by
  have e:b=it:=by simpa using hb
  subst e;obtain⟨o,e,c,d⟩:=st;exact⟨o,e,fun v z=>by rw[d] at z;cases z⟩
 keep:=fun i h h' st k=>st.at fun o e=>k it (by simp) o e
 item:=by
  intro X hP hw hK hc i pins s σ H E I hf st hg;subst hP hw hK;obtain⟨xs,x,hq,hx⟩:=hg;obtain⟨its,rv,p,hz⟩:=I.tuple hq;obtain⟨u,hu,ru⟩:=rv.get hx;obtain⟨f0,f1,f2,f3,f4,f5⟩:=hf it (by simp);refine wpAny_pyNext_tuple_item st (show s.heap.IsTuple a its.toArray from p) (x:=u) (by simpa using hu) fun h' st' sb=>?_;have I1:Inv X pins σ H {s with heap:=h'}:=I.turned (t':=s.toks) (fun b o hb e=>(sb.2 b hb).trans e) f0 f1 f3 f4 f5;obtain⟨o,e,c,d⟩:=id st';exact⟨u,rfl,Fq (s:={s with heap:=h'}) e c d (by decide) ⟨x,H,I1,ru,⟨rfl,fun ys hy=>by rw[I.DB hy hq];exact hx⟩,st',fun b hb=>(hf b hb).1⟩⟩
 done:=by
  intro X hP hw hK hc i pins s σ H E I hf st hg;subst hP hw hK;obtain⟨xs,hq,hx⟩:=hg;obtain⟨its,rv,p,hz⟩:=I.tuple hq;obtain⟨f0,f1,f2,f3,f4,f5⟩:=hf it (by simp);have hl:=rv.length;exact wpAny_pyNext_tuple_end (I.ok.hd hc) st (show s.heap.IsTuple a its.toArray from p) (by simp;lia) fun h' eb=>⟨rfl,I.turned (t':=s.toks) (fun b o hb e=>eb b o hb e) f0 f1 f3 f4 f5⟩
 self:=fun _ _ _ _ _ st h=>wpAny_pyIter_tupleiter st h
def Bt (it:Addr) (lo:Int) (n:Nat):Turn P w K tg (Ql lo n) [it] it (fun i h=>IsRangeIter h it (lo+(i:Nat) * 1) ((n:Int) - (i:Nat)) 1) where
 mem:=by simp
 obj:=fun i h st b hb=>by
  have e:b=it:=by simpa using hb
  subst e;exact⟨_,st,fun v z=>by
   have z':Data.fields _=Data.cell v:=z;cases z'⟩
 keep:=fun i h h' st k=>k it (by simp) _ st
 item:=by
  intro X hP hw hK hc i pins s σ H E I hf st hg;subst hP hw hK;obtain⟨f0,f1,f2,f3,f4,f5⟩:=hf it (by simp);have W:=Walks.range (prog:=X.prog) (w:=X.w) (I.ok.hd hc) it lo 1 n;refine W.item i s _ _ hg st fun v h' tk hv st' kk=>?_;obtain⟨t,rfl⟩:=hv;have I1:Inv X pins σ H {s with heap:=h',toks:=tk}:=I.turned (fun b o hb e=>kk b o (by simpa using hb) e) f0 f1 f3 f4 f5;refine⟨_,rfl,Fq (s:={s with heap:=h',toks:=tk}) (n:="range_iterator") st' rfl rfl (by decide) ⟨.int (lo+i),H,I1,⟨t,?_⟩,⟨rfl,rfl⟩,st',fun b hb=>(hf b hb).1⟩⟩;rw[Int.mul_one]
 done:=by
  intro X hP hw hK hc i pins s σ H E I hf st hg;subst hP hw hK;obtain⟨f0,f1,f2,f3,f4,f5⟩:=hf it (by simp);exact wpAny_pyNext_range_end (I.ok.hd hc) st (by have:n<=i:=hg;lia) fun h' eb=>⟨rfl,I.turned (t':=s.toks) (fun b o hb e=>eb b o hb e) f0 f1 f3 f4 f5⟩
 self:=fun _ _ _ _ _ st h=>wpAny_pyIter_rangeiter st h
section
variable {X:Cx}{tg:Expr}
def Og (K:AAA) (tl:TE):TI:=fun σ H R=>tl σ H fun x H1=>∃a,x= .ref a/\(∃xs,oz K H1 a xs)/\R (RE K a) H1
def RH (K:AAA) (tl:TE):TI:=fun σ H R=>tl σ H fun x H1=>∃a,x= .ref a/\(∃xs,Bq K H1 a xs)/\R (RG K a) H1
def Im {l:Expr}{tl:TE}(hl:PE X l tl):PI X tg l (Og X.K tl):=by
 intro pins s σ H R I h;refine dw (hl pins s σ H _ I h) fun v s1 hh=>?_;obtain⟨x,H1,I1,r1,q1⟩:=hh;obtain⟨a,e,⟨xs,hq⟩,q⟩:=q1;subst e;cases r1;obtain⟨its,rv,p,hz⟩:=I1.list hq;refine aaR p.isList ?_;refine⟨s1.heap.objs.size,[s1.heap.objs.size],_,_,H1,rfl,I1.kept (t':=s1.toks) fun b o e=>XS _ e,DC a _,⟨_,X6 _ rfl,rfl,rfl⟩,fun b hb=>?_,q⟩;have e:b=s1.heap.objs.size:=by simpa using hb
 subst e;exact I1.Fp (XW _) (I1.hok.fresh (XW _))
def Ly {l:Expr}{tl:TE}(hl:PE X l tl):PI X tg l (RH X.K tl):=by
 intro pins s σ H R I h;refine dw (hl pins s σ H _ I h) fun v s1 hh=>?_;obtain⟨x,H1,I1,r1,q1⟩:=hh;obtain⟨a,e,⟨xs,hq⟩,q⟩:=q1;subst e;cases r1;obtain⟨its,rv,p,hz⟩:=I1.tuple hq;refine wpAny_pyIter_tuple (show s1.heap.IsTuple a its.toArray from p) ?_;refine⟨s1.heap.objs.size,[s1.heap.objs.size],_,_,H1,rfl,I1.kept (t':=s1.toks) fun b o e=>XS _ e,Bs a _,⟨_,X6 _ rfl,rfl,rfl⟩,fun b hb=>?_,q⟩;have e:b=s1.heap.objs.size:=by simpa using hb
 subst e;exact I1.Fp (XW _) (I1.hok.fresh (XW _))
def Ft {s:Shared}{R:It->Hp->Prop}{lo hi:Int}{t u v:Tok}{tk:Nat}(I:Inv X pins σ H s) (h1:-(2 ^ 62)<=lo) (h2:lo < 2 ^ 62) (h3:-(2 ^ 62)<=hi) (h4:hi < 2 ^ 62)
  (q:R (Ql lo (hi - lo).toNat) H):wpAny (model X.prog X.w) X.A (pyIter (.ref s.heap.objs.size)) (RD X pins σ tg R) E {s with heap:=s.heap.push {cls:=.type "range",data:=.fields #[.int lo t,.int hi u,.int 1 v]},toks:=tk}:=by
 refine wpAny_pyIter_range (IsRange.new ..) (small_one h1 h2 h3 h4) ?_;have I1:Inv X pins σ H {s with heap:=s.heap.push {cls:=.type "range",data:=.fields #[.int lo t,.int hi u,.int 1 v]},toks:=tk}:=I.kept fun b o e=>XS _ e;refine⟨(s.heap.push {cls:=.type "range",data:=.fields #[.int lo t,.int hi u,.int 1 v]}).objs.size,[(s.heap.push {cls:=.type "range",data:=.fields #[.int lo t,.int hi u,.int 1 v]}).objs.size],_,_,H,rfl,
  I1.kept (t':=tk) fun b o e=>XS _ e,Bt _ lo (hi - lo).toNat,?_,fun b hb=>?_,q⟩
 ·have e1:lo+((0:Nat):Int) * 1=lo:=by simp
  have e2:(((hi - lo).toNat:Nat):Int) - ((0:Nat):Int)=Builtin.Range.rangeSize lo hi 1:=by rw[rangeSize_one];split <;> lia
  show IsRangeIter _ _ (lo+((0:Nat):Int) * 1) ((((hi - lo).toNat:Nat):Int) - ((0:Nat):Int)) 1;rw[e1,e2];exact X6 _ rfl
 ·have e:b=(s.heap.push {cls:=.type "range",data:=.fields #[.int lo t,.int hi u,.int 1 v]}).objs.size:=by simpa using hb
  subst e;exact I1.Fp (XW _) (I1.hok.fresh (XW _))
def Oh (ta:TA):TI:=fun σ H R=>ta σ H fun vs H1=>∃j:Int,vs=[.int j]/\-(2 ^ 62)<=j/\j < 2 ^ 62/\R (Ql 0 j.toNat) H1
def DE {a:Expr}{ta:TA}{p:Pos}(hg:Gl X "range") (hm:X.mg "range" =none) (ha:PA X [a] ta) (hs:starEach [a] X.env=[(false,eval a X.env)]:=by rfl):PI X tg (.Call (.Name "range" p) [a] [] pos) (Oh ta):=by
 intro pins s σ H R I h;refine Call_ (qH I hg hm boot_range (aaM (dw (ha pos pins s σ H _ I h) fun us s1 hh=>?_) hs rfl));obtain⟨vs,H1,I1,r1,q1⟩:=hh;obtain⟨j,e,q1,q2,q⟩:=q1;subst e;cases r1 with
 | cons r rr=>
  cases rr;obtain⟨t,rfl⟩:=r;exact call_range_1 (Ft I1 (by lia) (by lia) q1 q2 (by simpa using q))
def RI (wi:TI) (g:TG) (tb:TS):TS:=fun D σ H=>wi σ H fun J H1=>∃W:Nat->Nat->St->Hp->Prop,(∃m,W 0 m σ H1)/\∀i m σ H,W i m σ H->
 (J.stop i H/\D.nx σ H)\/(J.go i H/\∃N:St->Hp->Prop,(∀σ' H',N σ' H'->∃m',m' < m/\W (i+1) m' σ' H')/\∀x H',J.Of i H x H'->g x σ H' fun σ2 H2=>tb {D with nx:=N,ct:=N,bk:=D.nx} σ2 H2)
noncomputable def oA (fp:BBE) (h:Heap):List (Addr×Obj):=fp.filterMap fun b=>(h.get? b).map fun o=>(b,o)
def fJ {h:Heap}{b:Addr}(hb:b∈fp) (e:h.get? b=some o):(b,o)∈oA fp h:=List.mem_filterMap.mpr ⟨b,hb,by rw[e];rfl⟩
def xr {h:Heap}{p:Addr×Obj}(hp:p∈oA fp h):p.1∈fp/\h.get? p.1=some p.2:=by
 obtain⟨b,hb,e⟩:=List.mem_filterMap.mp hp;cases q:h.get? b with
 | none=>rw[q] at e;cases e
 | some o=>
  rw[q] at e;have e':(b,o)=p:=Ym e;subst e';exact⟨hb,q⟩
def Inv.pinned {s:Shared}(I:Inv X pins σ H s) (hf:∀b∈fp,qI X pins H b) (ho:∀b∈fp,∃o,s.heap.get? b=some o/\∀v,o.data≠.cell v):Inv X (pins++oA fp s.heap) σ H s:=
 I.CC fun p hp=>(Yb.mp hp).elim (fun z=>I.pin p (Yg _ z)) fun z=>by
  obtain⟨hb,e⟩:=xr z;obtain⟨f0,f1,f2,_⟩:=hf p.1 hb;obtain⟨o,e',d⟩:=ho p.1 hb;rw[e] at e';cases e';exact⟨e,f0,f1,f2,d⟩
def Inv.l5 {pl:AAD}{s:Shared}(I:Inv X (pins++pl) σ H s):Inv X pins σ H s:=I.CC fun p hp=>I.pin p (Yg _ (Zo _ hp))
def Lz {iter:Expr}{wi:TI}{g:TG}{tb:TS}(hp:PassesOwn (model X.prog X.w) X.A X.env X.xe) (hc:X.calm=true) (hi:PI X tg iter wi) (hg:PG X tg g) (hb:xq X body tb)
  (hs:∀x,foldedSetIterable iter X.env x=pure x:=by intro _;rfl):PS X (.For tg iter body [] pos) (RI wi g tb):=by
 intro pins s σ H D I h;refine wpAny_For (dw (hi pins s σ H _ I h) fun v s1 h1=>dw h1 fun itv s2 h2=>?_) hs;obtain⟨it,fp,tn,J,H2,e,I2,T,st2,f2,W,⟨m0,w0⟩,turn⟩:=h2;subst e;have LA:∀{H':Hp},(∀b∈fp,H' b=none)->∀b∈fp,qI X pins H' b:=fun hn b hb=>⟨hn b hb,(f2 b hb).2⟩
 refine codeAny_forLoop_any (fun n s'=>∃i σ' H',Inv X pins σ' H' s'/\tn i s'.heap/\(∀b∈fp,H' b=none)/\W i n σ' H') ?_ m0 ⟨0,σ,H2,I2,st2,fun b hb=>(f2 b hb).1,w0⟩;rintro n s3 ⟨i,σ3,H3,I3,st3,U1,w3⟩;rcases turn i n σ3 H3 w3 with⟨stop,qn⟩ | ⟨go,N,hN,step⟩
 ·refine Zg hp (dw (T.done X rfl rfl rfl hc i pins s3 σ3 H3 X.xe I3 (LA U1) st3 stop) fun r s4 hh=>?_);obtain⟨hr,I4⟩:=hh;subst hr;exact aan ⟨σ3,H3,I4,qn⟩
 ·refine Zg hp (dw (T.item X rfl rfl rfl hc i pins s3 σ3 H3 X.xe I3 (LA U1) st3 go) fun r s4 hh=>?_);obtain⟨u,hr,h4⟩:=hh;subst hr;refine Zg hp (dw h4 fun _ s5 hh=>?_);obtain⟨x,H5,I5,r5,y5,RJ,VP⟩:=hh;have VQ:=I5.pinned (LA VP) (T.obj _ _ RJ);refine Zg hp (dw (hg _ s5 σ3 H5 x u _ VQ r5 (step x H5 y5)) fun _ s6 hh=>?_);obtain⟨VR,H6,I6,q6⟩:=hh;refine Zg hp (dw (hb _ s6 VR H6 _ I6 q6) fun f s7 q7=>?_);have again:∀{Fv:St}{H7:Hp},Inv X (pins++oA fp s5.heap) Fv H7 s7->N Fv H7->∃m,m < n/\∃i σ' H',Inv X pins σ' H' s7/\tn i s7.heap/\(∀b∈fp,H' b=none)/\W i m σ' H':=fun {Fv H7} I7 n7=>by
   obtain⟨m',hm,w7⟩:=hN Fv H7 n7;refine⟨m',hm,i+1,Fv,H7,I7.l5,T.keep _ _ _ RJ fun b hb o e=>(I7.pin (b,o) (Yg _ (Yg _ (fJ hb e)))).1,fun b hb=>?_,w7⟩;obtain⟨o,e,d⟩:=T.obj _ _ RJ b hb;exact(I7.pin (b,o) (Yg _ (Yg _ (fJ hb e)))).2.1
  cases f with
  | next=>obtain⟨Fv,H7,I7,n7⟩:=q7;exact again I7 n7
  | cont=>obtain⟨Fv,H7,I7,n7⟩:=q7;exact again I7 n7
  | brk=>obtain⟨Fv,H7,I7,q7⟩:=q7;exact⟨Fv,H7,I7.l5,q7⟩
  | ret v=>obtain⟨x7,Fv,H7,I7,r7,q7⟩:=q7;exact⟨x7,Fv,H7,I7.l5,r7,q7⟩
end
abbrev R2:=V->V->Hp->VK->Prop
def wz (X:Cx) (f:Value->Value->Sem Value) (r:R2):Prop:=
 ∀(pins:AAD) (s:Shared) (σ:St) (H:Hp) (x y:V) (v u:Value) (Q:VK),Inv X pins σ H s->RelV x v->RelV y u->r x y H Q->
  wpAny (model X.prog X.w) X.A (f v u) (EP X pins σ Q) X.xe s
def jX (X:Cx) (f:Value) (r:List V->Hp->VK->Prop):Prop:=
 ∀(pins:AAD) (s:Shared) (σ:St) (H:Hp) (xs:List V) (us:AAI) (Q:VK),Inv X pins σ H s->Vals xs us->r xs H Q->
  wpAny (model X.prog X.w) X.A (call f us) (EP X pins σ Q) X.xe s
def LB (r:R2) (ta tb:TE):TE:=fun σ H Q=>ta σ H fun x H1=>tb σ H1 fun y H2=>r x y H2 Q
def rI (C:Int->Int->Prop) (g:Int->Int->V):R2:=fun x y H Q=>∃i j,x= .int i/\y= .int j/\C i j/\Q (g i j) H
def LC (g:Int->Int->V):R2:=fun x y H Q=>∃i j,x= .int i/\y= .int j/\Q (g i j) H
section
variable {X:Cx}{a b:Expr}{ta tb:TE}{pos:Pos}
def LD (ha:PE X a ta) (hb:PE X b tb){s:Shared}{R:V->V->Hp->Prop}(I:Inv X pins σ H s)
  (h:ta σ H fun x H1=>tb σ H1 fun y H2=>R x y H2){f:Value->Value->Sem Value}
  (hf:∀v u s2 x y H2,Inv X pins σ H2 s2->RelV x v->RelV y u->R x y H2->wpAny (model X.prog X.w) X.A (f v u) Q X.xe s2):
  wpAny (model X.prog X.w) X.A (eval a X.env) (fun v s₁=>wpAny (model X.prog X.w) X.A (eval b X.env) (fun u s₂=>wpAny (model X.prog X.w) X.A (f v u) Q X.xe s₂) X.xe s₁) X.xe s:=by
 refine dw (ha pins s σ H _ I h) fun v s1 hh=>?_;obtain⟨x,H1,I1,r1,q1⟩:=hh;refine dw (hb pins s1 σ H1 _ I1 q1) fun u s2 hh=>?_;obtain⟨y,H2,I2,r2,q2⟩:=hh;exact hf v u s2 x y H2 I2 r1 r2 q2
def Oi {op:Operator}(ho:wz X (binaryOp op) r) (ha:PE X a ta) (hb:PE X b tb):PE X (.BinOp a op b pos) (LB r ta tb):=by
 intro pins s σ H Q I h;exact wpAny_BinOp (LD ha hb I h fun v u s2 x y H2 I2 rx ry q=>ho pins s2 σ H2 x y v u Q I2 rx ry q)
def Qm {f:Value->Value->Sem Value}{C:Int->Int->Prop}
  (rule:∀(i j:Int) (t u:Tok) (s:Shared) (Q:AAB) (E:AAB),C i j->Q (.int (g i j) s.toks) {s with toks:=s.toks+1}->wpAny (model X.prog X.w) X.A (f (.int i t) (.int j u)) Q E s):
  wz X f (rI C fun i j=>.int (g i j)):=by
 intro pins s σ H x y v u Q I rx ry h;obtain⟨i,j,rfl,rfl,hc,q⟩:=h;obtain⟨t,rfl⟩:=rx;obtain⟨t',rfl⟩:=ry;exact rule i j t t' s _ _ hc ⟨.int (g i j),H,I.tok _,⟨_,rfl⟩,q⟩
def Oj {f:Value->Value->Sem Value}
  (rule:∀(i j:Int) (t u:Tok) (s:Shared) (Q:AAB) (E:AAB),Q (.int (g i j) s.toks) {s with toks:=s.toks+1}->wpAny (model X.prog X.w) X.A (f (.int i t) (.int j u)) Q E s):
  wz X f (LC fun i j=>.int (g i j)):=by
 intro pins s σ H x y v u Q I rx ry h;obtain⟨i,j,rfl,rfl,q⟩:=h;obtain⟨t,rfl⟩:=rx;obtain⟨t',rfl⟩:=ry;exact rule i j t t' s _ _ ⟨.int (g i j),H,I.tok _,⟨_,rfl⟩,q⟩
def LF {f:Value->Value->Sem Value}{g:Int->Int->Bool}
  (rule:∀(i j:Int) (t u:Tok) (s:Shared) (Q:AAB) (E:AAB),Q (.bool (g i j)) s->wpAny (model X.prog X.w) X.A (f (.int i t) (.int j u)) Q E s):
  wz X f (LC fun i j=>.bl (g i j)):=by
 intro pins s σ H x y v u Q I rx ry h;obtain⟨i,j,rfl,rfl,q⟩:=h;obtain⟨t,rfl⟩:=rx;obtain⟨t',rfl⟩:=ry;exact rule i j t t' s _ _ ⟨.bl (g i j),H,I,rfl,q⟩
def Ol (i j:Int):Prop:=0 < j/\j < 1073741824
def RK (i j:Int):Prop:=0<=j/\j<=1000000/\i.natAbs < 2 ^ 64
def LG (i j:Int):Prop:=(-(2 ^ 64) < i/\i < 2 ^ 64)\/(-(2 ^ 64) < j/\j < 2 ^ 64)
def LG.ok {i j:Int}(h:LG i j):IntMulOk i j:=by
 rcases h with⟨h1,h2⟩ | ⟨h1,h2⟩
 ·exact .of_left (intBits_le_64 h1 h2)
 ·exact .of_right (intBits_le_64 h1 h2)
def LH:wz X (binaryOp .Add) (LC fun i j=>.int (i+j)):=Oj fun _ _ _ _ _ _ _ q=>add_int q
def LI:wz X (binaryOp .Sub) (LC fun i j=>.int (i - j)):=Oj fun _ _ _ _ _ _ _ q=>sub_int q
def LJ:wz X (binaryOp .Mult) (rI LG fun i j=>.int (i * j)):=Qm fun _ _ _ _ _ _ _ hc q=>mul_int q hc.ok
def Io:wz X (binaryOp .FloorDiv) (rI Ol fun i j=>.int (i / j)):=Qm fun i j _ _ _ _ _ hc q=>by
 have h1:(0:Int) < j:=hc.1;have h2:j < 1073741824:=hc.2;exact floordiv_int (by lia) (by rw[Int.fdiv_eq_ediv_of_nonneg i (by lia)];exact q) (.inl (PyProof.noPylong_small (by lia)))
def LK:wz X (binaryOp .Mod) (rI (fun _ j=>0 < j) fun i j=>.int (i % j)):=Qm fun i j _ _ _ _ _ hc q=>by
 have h1:(0:Int) < j:=hc;exact mod_int' (by lia) (by rw[Int.fmod_eq_emod_of_nonneg i (by lia)];exact q)
def LL:wz X (binaryOp .Pow) (rI RK fun i j=>.int (i ^ j.toNat)):=Qm fun _ _ _ _ _ _ _ hc q=>pow_int_small hc.1 hc.2.1 hc.2.2 q
end
section
variable {X:Cx}{a b c:Expr}{ta tb:TE}{pos:Pos}
def Fw {s:Shared}{Q:VK}{k k':Bool}(I:Inv X pins σ H s) (q:Q (.bl k) H) (e:k=k'):EP X pins σ Q (.bool k') s:=by
 subst e;exact⟨.bl k,H,I,rfl,q⟩
def Om:wz X (compareOp .Lt) (LC fun i j=>.bl (decide (i < j))):=LF fun _ _ _ _ _ _ _ q=>lt_int q
def Oo:wz X (compareOp .LtE) (LC fun i j=>.bl (decide (i<=j))):=LF fun _ _ _ _ _ _ _ q=>le_int q
def Oq:wz X (compareOp .Gt) (LC fun i j=>.bl (decide (j < i))):=LF fun _ _ _ _ _ _ _ q=>gt_int q
def DF:wz X (compareOp .In) (fun x y H Q=>∃i j,x= .str i/\y= .str j/\Q (.bl (!(Builtin.Str.occurrences j i 0 j.length 1).isEmpty)) H):=by
 intro pins s σ H x y v u Q I rx ry h;obtain⟨i,j,rfl,rfl,q⟩:=h;obtain⟨t,rfl⟩:=rx;obtain⟨t',rfl⟩:=ry;exact in_str (Fw I q rfl)
def yL:wz X (compareOp .NotIn) (fun x y H Q=>∃i j,x= .str i/\y= .str j/\Q (.bl (!(!(Builtin.Str.occurrences j i 0 j.length 1).isEmpty))) H):=by
 intro pins s σ H x y v u Q I rx ry h;obtain⟨i,j,rfl,rfl,q⟩:=h;obtain⟨t,rfl⟩:=rx;obtain⟨t',rfl⟩:=ry;exact notIn_str (Fw I q rfl)
def Bu (b:Expr)(h:op≠.In:=by decide) (h2:op≠.NotIn:=by decide):behindInMarks op b=false:=by
 have e1:(op == CmpOp.In)=false:=by cases op <;> first | rfl | exact absurd rfl h
 have e2:(op == CmpOp.NotIn)=false:=by cases op <;> first | rfl | exact absurd rfl h2
 cases b <;> simp[behindInMarks,e1,e2]
def Ip (ho:wz X (compareOp op) r) (ha:PE X a ta) (hb:PE X b tb) (hm:behindInMarks op b=false):PE X (.Compare a [op] [b] pos) (LB r ta tb):=by
 intro pins s σ H Q I h;exact wpAny_Compare1 (LD ha hb I h fun v u s2 x y H2 I2 rx ry q=>ho pins s2 σ H2 x y v u Q I2 rx ry q) hm
def Ot (t:TE):TT:=fun σ H Q=>t σ H fun x H'=>∃k,x= .bl k/\Q k H'
def CG (ho:wz X (compareOp op) r) (ha:PE X a ta) (hb:PE X b tb) (hm:behindInMarks op b=false):PT X (.Compare a [op] [b] pos) (Ot (LB r ta tb)):=by
 intro pins s σ H Q I h;refine wpAny_isTrue_Compare1 (dw (ha pins s σ H _ I h) fun v s1 ⟨x,H1,I1,r1,q1⟩=>dw (hb pins s1 σ H1 _ I1 q1) fun u s2 ⟨y,H2,I2,r2,q2⟩=>
  dw (ho pins s2 σ H2 x y v u _ I2 r1 r2 q2) fun c s3 ⟨z,H3,I3,r3,k,e,q3⟩=>?_) hm
 subst e;cases r3;exact Y5 ⟨H3,I3,q3⟩
def qJ:(sizeLine:Nat) < 2 ^ 63:=by rw[aaF];decide
def Bv:wz X (binaryOp .Add) (fun x y H Q=>∃i j,x= .str i/\y= .str j/\i.length+j.length<=sizeLine/\Q (.str (i++j)) H):=by
 intro pins s σ H x y v u Q I rx ry h;obtain⟨i,j,rfl,rfl,hz,q⟩:=h;obtain⟨t,rfl⟩:=rx;obtain⟨t',rfl⟩:=ry;exact add_str (fun t' tk=>⟨.str (i++j),H,I.tok _,⟨_,rfl⟩,q⟩) hz
def vals1 {x:V}(r:Vals [x] us):∃u,us=[u]/\RelV x u:=by
 cases r with
 | cons r1 r2=>cases r2;exact⟨_,rfl,r1⟩
def vals2 {x:V}(r:Vals [x,y] us):∃u w',us=[u,w']/\RelV x u/\RelV y w':=by
 cases r with
 | cons r1 r2=>
  cases r2 with
  | cons r3 r4=>cases r4;exact⟨_,_,rfl,r1,r3⟩
def DG (hc:X.calm=true):jX X (.builtin "max") (fun xs H Q=>∃i j,xs=[.int i,.int j]/\Q (.int (if j > i then j else i)) H):=by
 intro pins s σ H xs us Q I r h;obtain⟨i,j,rfl,q⟩:=h;obtain⟨u,w',rfl,⟨t,rfl⟩,⟨t',rfl⟩⟩:=vals2 r;refine max_two_ints (I.ok.hd hc) fun h' tk k=>⟨_,H,I.kept k,?_,q⟩
 by_cases hj:j > i
 ·rw[if_pos hj,if_pos hj];exact⟨_,rfl⟩
 ·rw[if_neg hj,if_neg hj];exact⟨_,rfl⟩
end
def qG.some_of {v:V}{o:BBP}(r:qG (some v) o):∃u,o=some u/\RelV v u:=by
 cases o with
 | none=>exact(show False from r).elim
 | some u=>exact⟨u,rfl,r⟩
structure fU (k:Nat) (A:Around):Prop where
 hd:A.handled=none
 dp:A.depth+3 * k+5 < recursionLimit
 un:A.units+16 * k+200 < cLine
 gd:A.guards=some []
def fU.mono {j k:Nat}(r:fU k A) (h:j<=k):fU j A:=⟨r.hd,by have:=r.dp;lia,by have:=r.un;lia,r.gd⟩
def fU.deeper {k:Nat}{A:Around}(r:fU (k+1) A) (env:Env):fU k (A.deeper env):=
 ⟨r.hd,by have:=r.dp;show A.depth+1+3 * k+5 < _;lia,by have:=r.un;show A.units+3+16 * k+200 < _;lia,r.gd⟩
def fU.depth {k:Nat}{A:Around}(r:fU k A):A.depth < recursionLimit:=by have:=r.dp;lia
def fU.units {k:Nat}{A:Around}(r:fU k A):A.units+64 < cLine:=by have:=r.un;lia
def Iq:TA:=fun _ H Q=>Q [] H
def xu (ta:TE) (tr:TA):TA:=fun σ H Q=>ta σ H fun x H1=>tr σ H1 fun xs H2=>Q (x :: xs) H2
section
variable {X:Cx}{e:Expr}{es:BBC}{te:TE}{t:TA}{pos:Pos}
def kE:PA X [] Iq:=fun _ _ _ _ H Q I h=>ZE ⟨[],H,I,.nil,h⟩
def cU (ha:PE X e te) (hr:PA X es t) (hs:starEach (e :: es) X.env=(false,eval e X.env) :: starEach es X.env:=by rfl):PA X (e :: es) (xu te t):=by
 intro pos pins s σ H Q I h;rw[hs];show wpAny _ _ (spliced ((false,eval e X.env) :: backTo pos (starEach es X.env))) _ _ s;refine YW (dw (ha pins s σ H _ I h) fun u s1 hh=>?_);obtain⟨x,H1,I1,r1,q1⟩:=hh;exact dw (hr pos pins s1 σ H1 _ I1 q1) fun us s2 ⟨xs,H2,I2,r2,q2⟩=>⟨x :: xs,H2,I2,.cons r1 r2,q2⟩
def RL (t:TA):TE:=fun σ H Q=>t σ H fun xs H1=>xs.length<=sizeLine/\∀p,H1 p=none->Q (.ref p) (upd H1 p (.tup xs))
def Ou (t:TA):TE:=fun σ H Q=>t σ H fun xs H1=>xs.length<=sizeLine/\∀p,H1 p=none->Q (.ref p) (upd H1 p (.lst xs))
def LM {x1}(h:PA X es t):PE X (.Tuple es x1 pos) (RL t):=by
 intro pins s σ H Q I hq;refine wpAny_Tuple_spliced (dw (h pos pins s σ H _ I hq) fun us s1 ⟨xs,H1,I1,r,z,q⟩=>⟨by rw[<-r.length];exact z,?_⟩);have hf:H1 s1.heap.objs.size=none:=I1.hok.fresh (XW _);refine⟨.ref s1.heap.objs.size,upd H1 s1.heap.objs.size (.tup xs),I1.laid (t':=s1.toks) (fun b u e=>XS _ e) (XW _) ?_,rfl,q _ hf⟩;exact⟨z,us,r,⟨_,X6 _ rfl,rfl,_,rfl⟩⟩
def Bw (h:PA X es t):PE X (.List es pos) (Ou t):=by
 intro pins s σ H Q I hq;refine wpAny_List_spliced (dw (h pos pins s σ H _ I hq) fun us s1 ⟨xs,H1,I1,r,z,q⟩=>⟨by rw[<-r.length];exact z,?_⟩);have hf:H1 s1.heap.objs.size=none:=I1.hok.fresh (XW _);refine⟨.ref s1.heap.objs.size,upd H1 s1.heap.objs.size (.lst xs),I1.laid (t':=s1.toks) (fun b u e=>XS _ e) (XW _) ?_,rfl,q _ hf⟩;exact⟨z,us,0,r,X6 _ rfl⟩
end
abbrev Sp:=List V->Hp->VK->XK->Prop
abbrev EZ:=BBF->Hp->Shared->XK->Value->Shared->Prop
structure Ir (P:Program) (w:World) (K:AAA) (mg:AAC) (base:Heap) (A:Around) (outer:BBF) (s:Shared) (H:Hp):Prop where
 frames:A.frames=some outer
 mod:Mod K mg base
 bs:∀b o,base.get? b=some o->s.heap.get? b=some o/\H b=none
 KJ:base.objs.size<=s.heap.objs.size
 uC:s.heap.FunFrames base outer
 Nj:∀b∈frs outer,H b=none
 hok:lX P w H s.heap
 bare:AllBare s.gens
def CE (outer:BBF) (P:Program) (w:World) (H:Hp) (s:Shared) (Q:VK) (u:Value) (s':Shared):Prop:=
 ∃v H',s'.os=s.os/\AllBare s'.gens/\Un (frs outer) [] H H' s.heap s'.heap/\lX P w H' s'.heap/\RelV v u/\Q v H'
def CR (CX:EZ) (outer:BBF) (P:Program) (w:World) (H:Hp) (s:Shared) (Q:VK) (E:XK) (r:Result) (s':Shared):Prop:=
 match r with
 | .ok (.ret u)=>CE outer P w H s Q u s'
 | .ok _=>False
 | .error e=>CX outer H s E e s'
structure jx (P:Program) (w:World) (K:AAA) (mg:AAC) (base:Heap) (CX:EZ) (k:Nat) (f:Addr) (fd:FuncData) (ps:BBB) (sp:Sp):Prop where
 len:∀vs H Q E,sp vs H Q E->vs.length=ps.length
 run:∀(A:Around) (outer:BBF) (s:Shared) (H:Hp) (args:Args) (us:AAI) (vs:List V) (Q:VK) (E:XK),fU k A->Ir P w K mg base A outer s H->BindsTo s fd args (ps.zip us)->Vals vs us->sp vs H Q E->
  codeAny (model P w) A (.call (.ref f) args) (CR CX outer P w H s Q E) s
def jx.mono {P:Program}{w:World}{K:AAA}{mg:AAC}{base:Heap}{CX:EZ}{j k:Nat}{f:Addr}{fd:FuncData}{ps:BBB}{sp:Sp}(F:jx P w K mg base CX j f fd ps sp) (h:j<=k):
  jx P w K mg base CX k f fd ps sp:=⟨F.len,fun A outer s H args us vs Q E hr=>F.run A outer s H args us vs Q E (hr.mono h)⟩
section
variable {X:Cx}{pins:AAD}{σ:St}{H:Hp}{s s':Shared}
def Inv.RM (I:Inv X pins σ H s):Ir X.prog X.w X.K X.mg X.base X.A X.stack s H:=
 ⟨I.ok.frames,I.ok.mod,I.bs,X7 I.ok.KJ I.sz,I.stack,I.CB,I.hok,I.bare⟩
def Inv.after {Q:VK}(I:Inv X pins σ H s) (h:CE X.stack X.prog X.w H s Q u s'):EP X pins σ Q u s':=by
 obtain⟨v,H',os,bare,un,hok,r,q⟩:=h;obtain⟨hh,g,d,t,os'⟩:=s';obtain rfl:os'=s.os:=os;exact⟨v,H',I.call (h':=hh) (g':=g) (d':=d) (t':=t) (ch:=[]) un hok bare (fun b z=>absurd z (by simp)),r,q⟩
end
def KO (sp:Sp) (HV:List V) (E:XK) (t:TA):TE:=fun σ H Q=>t σ H fun vs H1=>sp (vs++HV) H1 Q E
def Binds (K:AAA) (fd:FuncData) (ps:BBB) (ds:AAI):Prop:=
 ∀(s:Shared) (us:AAI),K.In s.heap->(us++ds).length=ps.length->BindsTo s fd ⟨us,[]⟩ (ps.zip (us++ds))
def Binds.all {fd:FuncData}(h:∀us:BBG,us.length=ps.length->bindArgs fd ⟨us,[]⟩=pure (ps.zip us)):Binds K fd ps []:=fun s us _ hl=>by
 rw[Yt] at hl ⊢;exact .of_eq (h us hl)
def Passes (CX:EZ) (X:Cx) (E:XK):Prop:=∀(pins:AAD) (σ:St) (H:Hp) (s:Shared) (e:Value) (s':Shared),Inv X pins σ H s->CX X.stack H s E e s'->X.xe e s'
section
variable {X:Cx}{CX:EZ}{k:Nat}{f:Addr}{fd:FuncData}{ps:BBB}{sp:Sp}{HV:List V}{ds:AAI}{E:XK}{x:Str}{p pos:Pos}{e:Expr}{es:BBC}{t:TA}
def Fx {s:Shared}{Q:VK}(F:jx X.prog X.w X.K X.mg X.base CX k f fd ps sp) (hr:fU k X.A) (hb:Binds X.K fd ps ds) (hd:Vals HV ds) (hx:Passes CX X E)
  (I:Inv X pins σ H s) (r:Vals vs us) (h:sp (vs++HV) H Q E):wpAny (model X.prog X.w) X.A (call (.ref f) us) (EP X pins σ Q) X.xe s:=by
 have r2:Vals (vs++HV) (us++ds):=r.append hd;have hl:(us++ds).length=ps.length:=by rw[<-r2.length];exact F.len _ _ _ _ h
 refine wpAny_call (ZR (F.run X.A X.stack s H ⟨us,[]⟩ (us++ds) (vs++HV) Q E hr I.RM (hb s us I.Bp hl) r2 h) fun r s' hq=>?_);cases r with
 | error e=>exact hx pins σ H s e s' I hq
 | ok fl=>
  cases fl with
  | ret u=>exact I.after hq
  | next=>exact False.elim hq
  | brk=>exact False.elim hq
  | cont=>exact False.elim hq
def CH (F:jx X.prog X.w X.K X.mg X.base CX k f fd ps sp) (hr:fU k X.A) (hg:Gl X x) (hm:X.mg x=some (.ref f)) (hk:PySem.W.keepIn X.K (.ref f)=true) (hb:Binds X.K fd ps ds) (hd:Vals HV ds) (hx:Passes CX X E)
  (ha:PA X (e :: es) t) (hdb:BBT x:=by decide) (he:starEach (e :: es) X.env=(false,eval e X.env) :: starEach es X.env:=by rfl) (hpl:(backTo pos (starEach es X.env)).any (·.1)=false:=by rfl):
  PE X (.Call (.Name x p) (e :: es) [] pos) (KO sp HV E t):=by
 intro pins s σ H Q I h;refine Ze (yK I hg hm ?_ hdb);refine PySem.W.callWith_K (h₀:=X.base) I.ok.mod.Rr hk (dw (ha pos pins s σ H _ I h) fun us s1 ⟨vs,H1,I1,r,q⟩=>⟨I1.Bp,?_⟩) he hpl;exact Fx F hr hb hd hx I1 r q
def Fy (F:jx X.prog X.w X.K X.mg X.base CX k f fd ps sp) (hr:fU k X.A) (hg:Gl X x) (hm:X.mg x=some (.ref f)) (hk:PySem.W.keepIn X.K (.ref f)=true) (hb:Binds X.K fd ps ds) (hd:Vals HV ds) (hx:Passes CX X E)
  (hdb:BBT x:=by decide):PE X (.Call (.Name x p) [] [] pos) (KO sp HV E Iq):=by
 intro pins s σ H Q I h;refine Ze (yK I hg hm ?_ hdb);exact PySem.W.callWith_K0 I.Bp hk (Fx (us:=[]) F hr hb hd hx I .nil h)
end
structure bg (N P:BBB) (sc:Scope):Prop where
 kind:sc.kind= .function
 co:sc.isCoroutine=false
 gen:sc.isGenerator=false
 nd:N.Nodup
 pre:N.take P.length=P
 par:∀x∈P,sc.names.lookup x=some .local\/sc.names.lookup x=some .cell
 LN:∀y∈sc.names,y.2≠.free
theorem xw {kindOf:Str->Option NameKind}{x:Str}:∀{binds:List (Str×Value)}{m:AAC},(∀v,(x,v)∉binds)->bindL kindOf binds m x=m x
 | [],_,_=>rfl
 | (n,v) :: r,m,h=>by
  unfold bindL;rw[xw fun w hw=>h w (Yc _ hw)];split
  ·have:x≠n:=by rintro rfl;exact h v Yp
   simp[this]
  ·rfl
theorem xx {kindOf:Str->Option NameKind}{x:Str}:∀{binds:List (Str×Value)}{m:AAC},(∀v,(x,v)∉binds)->bindC kindOf binds m x=m x
 | [],_,_=>rfl
 | (n,v) :: r,m,h=>by
  unfold bindC;rw[xx fun w hw=>h w (Yc _ hw)];split
  ·rfl
  ·have:x≠n:=by rintro rfl;exact h v Yp
   simp[this]
theorem xy {kindOf:Str->Option NameKind}{x:Str}{v:Value}:∀{P:BBB}{vs:AAI}{i:Nat}{m:AAC},P.Nodup->P[i]? =some x->vs[i]? =some v->kindOf x=some .local->
  bindL kindOf (P.zip vs) m x=some v
 | [],_,_,_,_,h,_,_=>by simp at h
 | _ :: _,[],_,_,_,_,h,_=>by simp at h
 | p :: P,w :: vs,0,m,nd,h1,h2,hk=>by
  simp at h1 h2;subst h1;subst h2;show bindL kindOf ((p,w) :: P.zip vs) m p=_;unfold bindL;rw[xw fun v hv=>(YT.mp nd).1 (aa8 hv).1,if_pos hk];simp
 | p :: P,w :: vs,i+1,m,nd,h1,h2,hk=>by
  show bindL kindOf ((p,w) :: P.zip vs) m x=_;unfold bindL;exact xy (i:=i) (YT.mp nd).2 (by simpa using h1) (by simpa using h2) hk
theorem xA {kindOf:Str->Option NameKind}{x:Str}{v:Value}:∀{P:BBB}{vs:AAI}{i:Nat}{m:AAC},P.Nodup->P[i]? =some x->vs[i]? =some v->kindOf x≠some .local->
  bindC kindOf (P.zip vs) m x=some v
 | [],_,_,_,_,h,_,_=>by simp at h
 | _ :: _,[],_,_,_,_,h,_=>by simp at h
 | p :: P,w :: vs,0,m,nd,h1,h2,hk=>by
  simp at h1 h2;subst h1;subst h2;show bindC kindOf ((p,w) :: P.zip vs) m p=_;unfold bindC;rw[xx fun v hv=>(YT.mp nd).1 (aa8 hv).1,if_neg hk];simp
 | p :: P,w :: vs,i+1,m,nd,h1,h2,hk=>by
  show bindC kindOf ((p,w) :: P.zip vs) m x=_;unfold bindC;exact xA (i:=i) (YT.mp nd).2 (by simpa using h1) (by simpa using h2) hk
noncomputable def start (N:BBB) (vs:List V):St:=vs.map some++List.replicate (N.length - vs.length) none
noncomputable def wA (CX:EZ) (P:Program) (w:World) (K:AAA) (mg:AAC) (base:Heap) (N:BBB) (qual:Str) (scope:Scope) (f:Addr) (cd:Value) (A:Around) (outer:BBF) (s:Shared) (H:Hp) (E:XK):Cx where
 prog:=P
 w:=w
 K:=K
 mg:=mg
 base:=base
 A:=A.deeper (envOfC qual scope s.heap.objs.size f cd)
 N:=N
 s₀:=s
 H₀:=H
 env:=envOfC qual scope s.heap.objs.size f cd
 outer:=outer
 stack:=envOfC qual scope s.heap.objs.size f cd :: outer
 ex:=[]
 calm:=true
 fn:=fun _=>true
 pn:=[]
 xe:=fun e s'=>wpAny (model P w) (A.deeper (envOfC qual scope s.heap.objs.size f cd)) (leaving (envOfC qual scope s.heap.objs.size f cd) e) (fun _ s''=>CX outer H s E e s'') (fun e' s''=>CX outer H s E e' s'') s'
def zX {sc:Scope}{n:Nat}(h:sc.names.lookup x=some .cell):∃c,(cellsFrom n sc.names []).lookup x=some c:=by
 have q:=PySem.W.cellsFrom_some sc.names n [] (.inl h);exact Option.isSome_iff_exists.mp q
def DH {CX:EZ}{f:Addr}{cd:Value}{outer:BBF}{s s1:Shared}{E:XK}
  (S:bg N ps scope) (hd:A.handled=none) (e0:Ir P w K mg base A outer s H) (hl:vs.length=ps.length) (r:Vals vs us)
  (x:InCallC s s.heap.objs.size (bindL (envOfC qual scope s.heap.objs.size f cd).kindOf (ps.zip us) fun _=>none) (cellsFrom (s.heap.objs.size+1) scope.names []) (bindC (envOfC qual scope s.heap.objs.size f cd).kindOf (ps.zip us) fun _=>none) s1):
  Inv (wA CX P w K mg base N qual scope f cd A outer s H E) [] (start N vs) H s1:=by
 have hpl:ps.length<=N.length:=by have:=congrArg List.length S.pre;rw[Zs] at this;lia
 obtain⟨h1,tk,rfl,hk⟩:=x.done;have Ov:∀b:Addr,b∉(wA CX P w K mg base N qual scope f cd A outer s H E).ex:=fun b z=>absurd (show b∈([]:BBE) from z) (by simp);refine⟨⟨e0.mod,S.kind,rfl,rfl,XW _,fun y z c h1 h2=>?_,fun y hy=>?_,fun y c _ h=>?_,fun _=>hd,Around.frames_deeper e0.frames,.inr ⟨rfl,rfl⟩,fun b z=>absurd z (Ov b),e0.bs,e0.KJ,fun b _ _=>Ov b,fun b z=>absurd z (Ov b),e0.uC,e0.Nj⟩,
  rfl,e0.bare,Un.kept hk,⟨_,x.toInCall.ns,fun i y v h1 h2 h3=>?_⟩,fun y c h=>⟨_,x.cell y c h⟩,e0.hok.fresh (XW _),fun y c h=>?_,fun p hp=>absurd (show p∈([]:AAD) from hp) (by simp),e0.hok.kept hk,?_⟩
 ·exact name_of_addr x.apart (YB h1) (YB h2)
 ·have hy:scope.names.lookup y=some .cell\/scope.names.lookup y=some .free:=hy;rcases hy with hy | hy
  ·exact zX hy
  ·exact absurd rfl (S.LN _ (YB hy))
 ·exact Zr (x.above y c (YB h))
 ·have hi:i < vs.length:=by
   unfold start at h2;by_cases hi:i < vs.length
   ·exact hi
   ·rw[Zm (by simpa using hi)] at h2;rw[Zw] at h2;split at h2 <;> cases h2
  have ha:vs[i]? =some v:=by
   unfold start at h2;rw[YL (by simpa using hi),Yl] at h2;cases e:vs[i]? with
   | none=>rw[e] at h2;cases h2
   | some a=>rw[e] at h2;cases h2;rfl
  obtain⟨u,hu,rv⟩:=r.get ha;have hp:ps[i]? =some y:=by
   rw[<-S.pre,aaY (by lia)];exact h1
  have U3:ps.Nodup:=by rw[<-S.pre];exact S.nd.sublist (List.take_sublist _ _)
  refine⟨u,rv,?_⟩;rcases S.par y (Yn hp) with k | k
  ·exact .inl ⟨k,xy U3 hp hu k⟩
  ·obtain⟨c,e⟩:=zX (n:=s.heap.objs.size+1) k;refine .inr ⟨.inl k,c,e,?_⟩;have q:=x.cell y c e;rw[xA U3 hp hu (by show scope.names.lookup y≠_;rw[k];decide)] at q;exact q
 ·exact e0.hok.fresh (Zr (x.above y c (YB h)))
 ·unfold start;show _=N.length;rw[X4,X3,List.length_replicate];lia
def Ow {CX:EZ}{k:Nat}{f:Addr}{name:Str}{params:Arguments}{dV kV doc pm cdv ct oc:Value}{an od:BBN}
  {osl:Array (BBP)}{sp:Sp}(lk:K.lookup f=some ⟨oc,od,.func (PySem.W.fnOf name qual params body scope dV kV doc pm an cdv ct),osl⟩) (hcd:PySem.W.codeIn K cdv qual=true) (S:bg N ps scope)
  (len:∀vs H Q E,sp vs H Q E->vs.length=ps.length)
  (hbody:∀(A:Around) (outer:BBF) (s:Shared) (H:Hp) (vs:List V) (Q:VK) (E:XK),fU k (A.deeper (envOfC qual scope s.heap.objs.size f cdv))->sp vs H Q E->
   ∃t,xq (wA CX P w K mg base N qual scope f cdv A outer s H E) body t/\t {nx:=fun _ H'=>Q .bN H',rt:=Q} (start N vs) H):
  jx P w K mg base CX (k+1) f (PySem.W.fnOf name qual params body scope dV kV doc pm an cdv ct) ps sp:=by
 refine⟨len,fun A outer s H args us vs Q E hr e0 hb r KP=>?_⟩;have hl:=len _ _ _ _ KP;have KX:K.In s.heap:=e0.mod.Rr.keeps fun b o e=>(e0.bs b o e).1;have lim:s.heap.NoLimit:=e0.mod.nolimit.keeps fun b o e=>(e0.bs b o e).1;have hkind:∀y∈ps.zip us,scope.names.lookup y.1=some .local\/(scope.names.lookup y.1=some .cell/\((cellsFrom (s.heap.objs.size+1) scope.names []).lookup y.1).isSome=true):=fun⟨n,v⟩ hy=>by
  rcases S.par n (aa8 hy).1 with q | q
  ·exact .inl q
  ·exact .inr ⟨q,PySem.W.cellsFrom_some _ _ _ (.inl q)⟩
 refine codeAny_call_function hr.depth (KX _ _ lk) rfl S.co S.gen rfl (PySem.W.codeRec_of KX hcd) (hb _ _ _ _ ?_);refine wpAny_newFunctionEnv_cells S.kind hkind fun env he s1 x=>?_;subst he;refine⟨lim.keeps x.toInCall.keep,codeAny_func ?_⟩;obtain⟨t,ht,hq⟩:=hbody A outer s H vs Q E (hr.deeper _) KP;have I:Inv (wA CX P w K mg base N qual scope f cdv A outer s H E) [] (start N vs) H s1:=DH S hr.hd e0 hl r x;refine YC (ht [] s1 (start N vs) H _ I hq) (fun fl s' hs=>?_) fun e s' hs=>hs;have fin:∀{σ':St}{H':Hp}{v:V}{u:Value},Inv (wA CX P w K mg base N qual scope f cdv A outer s H E) [] σ' H' s'->RelV v u->Q v H'->CE outer P w H s Q u s':=
  fun {σ' H' v u} J rv q=>⟨v,H',J.os,J.bare,J.base,J.hok,rv,q⟩
 cases fl with
 | ret u=>
  obtain⟨v,σ',H',J,rv,q⟩:=hs;exact fin J rv q
 | next=>
  obtain⟨σ',H',J,q⟩:=hs;exact fin (v:=V.bN) (u:=Value.none) J rfl q
 | brk=>
  obtain⟨_,_,_,q⟩:=hs;exact False.elim q
 | cont=>
  obtain⟨_,_,_,q⟩:=hs;exact False.elim q
section
variable {X:Cx}{x:Str}{p pos:Pos}{e:Expr}{es:BBC}{t:TA}{id:String}{r:List V->Hp->VK->Prop}
def VS (r:List V->Hp->VK->Prop) (t:TA):TE:=fun σ H Q=>t σ H fun vs H1=>r vs H1 Q
def iR (hc:jX X (.builtin id) r) (hg:Gl X x) (hm:X.mg x=none) (hv:bootBuiltins x=some (.builtin id)) (ha:PA X (e :: es) t) (hn:x≠"__name__":=by decide) (hdb:BBT x:=by decide)
  (he:starEach (e :: es) X.env=(false,eval e X.env) :: starEach es X.env:=by rfl) (hpl:(backTo pos (starEach es X.env)).any (·.1)=false:=by rfl):PE X (.Call (.Name x p) (e :: es) [] pos) (VS r t):=by
 intro pins s σ H Q I h;refine Ze (qH I hg hm hv ?_ hn hdb);exact aao (dw (ha pos pins s σ H _ I h) fun us s1 ⟨vs,H1,I1,r1,q1⟩=>hc pins s1 σ H1 vs us Q I1 r1 q1) he hpl
end
section
variable {κ:Type} [DecidableEq κ]
noncomputable def oB (kvs:List (κ×V)) (k:κ):Option V:=(kvs.find? fun kv=>decide (kv.1=k)).map (·.2)
noncomputable def putK (kvs:List (κ×V)) (k:κ) (v:V):List (κ×V):=
 if(kvs.any fun kv=>decide (kv.1=k))=true then kvs.map (fun kv=>if kv.1=k then(kv.1,v) else kv) else kvs++[(k,v)]
def pM {p:κ×V}{r:List (κ×V)}{k:κ}(e:p.1=k):oB (p :: r) k=some p.2:=by simp[oB,YM,e]
def l6 {p:κ×V}{r:List (κ×V)}{k:κ}(e:¬p.1=k):oB (p :: r) k=oB r k:=by simp[oB,YM,e]
theorem zY (k:κ):∀kvs:List (κ×V),(kvs.any fun kv=>decide (kv.1=k))=(oB kvs k).isSome
 | []=>rfl
 | p :: r=>by
  rw[Y7];by_cases e:p.1=k
  ·simp only[pM e,Zp e,Bool.true_or,Option.isSome_some]
  ·rw[l6 e,Yy e,Bool.false_or];exact zY k r
def l7 (kvs:List (κ×V)) (k:κ) (v:V):(putK kvs k v).length<=kvs.length+1:=by
 unfold putK;split
 ·rw[X3];lia
 ·rw[X4,X8,Zz];lia
def qG.DI {o:Option V}{u:BBP}(r:qG o u):o.isSome=u.isSome:=by
 cases o with
 | none=>cases u with
  | none=>rfl
  | some _=>exact(show False from r).elim
 | some _=>cases u with
  | none=>exact(show False from r).elim
  | some _=>rfl
def qG.getD {o:Option V}{u:BBP}{d:V}{d':Value}(r:qG o u) (rd:RelV d d'):RelV (o.getD d) (u.getD d'):=by
 cases o with
 | none=>cases u with
  | none=>exact rd
  | some _=>exact(show False from r).elim
 | some _=>cases u with
  | none=>exact(show False from r).elim
  | some _=>exact r
def KV.val {kvs:List (κ×V)}{vs:List (κ×Value)}(r:KV kvs vs) (k:κ):qG (oB kvs k) (valueAt vs k):=by
 unfold KV at r
 induction r with
 | nil=>exact True.intro
 | @cons p q ps qs h t ih=>
  obtain⟨h1,h2⟩:=h;by_cases e:p.1=k
  ·have e':q.1=k:=h1.symm.trans e;have b:valueAt (q :: qs) k=some q.2:=by simp[valueAt,YM,e']
   rw[pM e,b];exact h2
  ·have e':¬q.1=k:=fun z=>e (h1.trans z);have b:valueAt (q :: qs) k=valueAt qs k:=by simp[valueAt,YM,e']
   rw[l6 e,b];exact ih
def KV.any {kvs:List (κ×V)}{vs:List (κ×Value)}(r:KV kvs vs) (k:κ):(kvs.any fun kv=>decide (kv.1=k))=vs.any fun kv=>decide (kv.1=k):=by
 unfold KV at r
 induction r with
 | nil=>rfl
 | cons h t ih=>rw[Y7,Y7,ih,h.1]
def KV.repl {kvs:List (κ×V)}{vs:List (κ×Value)}(r:KV kvs vs) (k:κ)(ry:RelV y u):
  KV (kvs.map fun kv=>if kv.1=k then(kv.1,y) else kv) (vs.map fun kv=>if kv.1=k then(kv.1,u) else kv):=by
 unfold KV at r ⊢
 induction r with
 | nil=>exact .nil
 | @cons p q ps qs h t ih=>
  rw[Yd,Yd];refine .cons ?_ ih;obtain⟨h1,h2⟩:=h;by_cases e:p.1=k
  ·rw[if_pos e,if_pos (h1.symm.trans e)];exact⟨h1,ry⟩
  ·rw[if_neg e,if_neg (fun z=>e (h1.trans z))];exact⟨h1,h2⟩
def KV.put {kvs:List (κ×V)}{vs:List (κ×Value)}(r:KV kvs vs) (k:κ)(ry:RelV y u):KV (putK kvs k y) (stored vs k u):=by
 unfold putK stored;rw[r.any k];by_cases e:(vs.any fun kv=>decide (kv.1=k))=true
 ·rw[if_pos e,if_pos e];exact r.repl k ry
 ·rw[if_neg e,if_neg e];exact Paired.snoc r ⟨rfl,ry⟩
def KV.length {kvs:List (κ×V)}{vs:List (κ×Value)}(r:KV kvs vs):kvs.length=vs.length:=aaO r
end
def CI {k:Key}(r:RelV (kV k) u):(cB P w).is k u=true:=by
 cases k with
 | inl i=>obtain⟨t,e⟩:=(show ∃t,u=Value.int i t from r);subst e;exact zS P w i t
 | inr x=>obtain⟨t,e⟩:=(show ∃t,u=Value.str x t from r);subst e;exact lW P w x t
abbrev KT (H:Hp):List (D×V)->List (D×Addr×Value)->Prop:=Paired fun p q=>p.1=q.1/\Kd H q.2.1 p.1/\RelV p.2 q.2.2
def KT.val (r:KT H kvs xs) (k:D):qG (oB kvs k) ((atKey xs k).map (·.2)):=by
 induction r with
 | nil=>exact True.intro
 | @cons p q ps qs h t ih=>
  obtain⟨h1,_,h2⟩:=h;by_cases e:p.1=k
  ·have e':q.1=k:=h1.symm.trans e;have b:atKey (q :: qs) k=some q.2:=by simp[atKey,YM,e']
   rw[pM e,b];exact h2
  ·have e':¬q.1=k:=fun z=>e (h1.trans z);have b:atKey (q :: qs) k=atKey qs k:=by simp[atKey,YM,e']
   rw[l6 e,b];exact ih
def KT.repl (r:KT H kvs xs) (k:D)(ry:RelV y u):
  KT H (kvs.map fun kv=>if kv.1=k then(kv.1,y) else kv) (xs.map (putAt k u)):=by
 induction r with
 | nil=>exact .nil
 | @cons p q ps qs h t ih=>
  rw[Yd,Yd];refine .cons ?_ ih;obtain⟨h1,h2,h3⟩:=h;unfold putAt;by_cases e:p.1=k
  ·rw[if_pos e,if_pos (h1.symm.trans e)];exact⟨h1,h2,ry⟩
  ·rw[if_neg e,if_neg (fun z=>e (h1.trans z))];exact⟨h1,h2,h3⟩
def KT.put (r:KT H kvs xs) (k:D){b:Addr}(hb:Kd H b k) (ry:RelV y u):
  KT H (putK kvs k y) (storedH xs k b u):=by
 have e:(kvs.any fun kv=>decide (kv.1=k))=(atKey xs k).isSome:=by
  rw[zY,(r.val k).DI,Option.isSome_map]
 unfold putK storedH;rw[e];by_cases q:(atKey xs k).isSome=true
 ·rw[if_pos q,if_pos q];exact r.repl k ry
 ·rw[if_neg q,if_neg q];exact Paired.snoc r ⟨rfl,hb,ry⟩
def KT.keeps (r:KT H kvs xs) (ht:∀b ys,H b=some (.tup ys)->H' b=some (.tup ys)):KT H' kvs xs:=
 Paired.zT r fun _ _ z=>⟨z.1,z.2.1.tups ht,z.2.2⟩
section
variable {P:Program}{w:World}{H:Hp}{h:Heap}{a:Addr}
def KQ {u:HO}(ok:lX P w H h) (e:Rd H a u):fq P w H h a u:=e.ok ok
def xB {kvs:List (Key×V)}(ok:lX P w H h) (e:Rd H a (.dK kvs)):kvs.length<=sizeLine/\(a == sysModules)=false/\∃vs,KV kvs vs/\h.DictOf (cB P w) a vs:=
 show fq P w H h a (.dK kvs) from KQ ok e
def CJ {kvs:List (Key×V)}(ok:lX P w H h) (e:H a=some (.dK kvs)):kvs.length<=sizeLine/\(a == sysModules)=false/\∃vs,KV kvs vs/\h.DictOf (cB P w) a vs:=xB ok (.inl e)
mutual
theorem Fz (ok:lX P w H h):∀(d:D){n:Nat}{v:V}{u:Value},Rep H v d->RelV v u->fW n d=true->wc h u (nf d)
 | .bN,n,_,_,_,_,k=>by simp[fW] at k
 | .lst _,n,_,_,_,_,k=>by simp[fW] at k
 | .bl b,n,_,_,r,q,k=>by cases r;cases q;exact .bool b
 | .int i,n,_,_,r,q,k=>by cases r;obtain⟨t,rfl⟩:=q;exact .int i t
 | .str i,n,_,_,r,q,k=>by cases r;obtain⟨t,rfl⟩:=q;exact .str i t
 | .tup ds,n,_,_,r,q,k=>by
  cases n with
  | zero=>simp[fW] at k
  | succ n=>
   cases r with
   | @tup a vs _ e rs=>
    cases q;obtain⟨_,its,rv,o,h1,h2,m,h3⟩:=(show fq P w H h a (.tup vs) from ok a _ e)
    exact .tup ⟨o,h1,h2,m,h3⟩ (CK ok ds rs rv k)
theorem CK (ok:lX P w H h):∀(ds:List D){n:Nat}{vs:List V}{us:AAI},bh H vs ds->Vals vs us->ds.all (fW n)=true->jw h us (NT ds)
 | [],n,_,_,r,q,k=>by cases r;cases q;exact .nil
 | d :: ds,n,_,_,r,q,k=>by
  rw[Y6,Yo] at k;cases r with
  | cons r1 r2=>
   cases q with
   | cons q1 q2=>exact .cons (Fz ok d r1 q1 k.1) (CK ok ds r2 q2 k.2)
end
def yM {ks:D}(ok:lX P w H h) (e:Kd H a ks):(iP P w).is h ks a:=by
 obtain⟨d,r,hk,rfl⟩:=e;exact⟨Fz ok d r rfl hk,CA d 8 hk⟩
def zZ (ok:lX P w H h) (e:Rd H a (.dT kvs)):kvs.length<=sizeLine/\(a == sysModules)=false/\
  ∃xs,KT H kvs xs/\h.DictOfH (iP P w) a xs:=by
 obtain⟨z,y,xs,r,o,es,ep,h1,h2,h3,h4,h5⟩:=(show fq P w H h a (.dT kvs) from KQ ok e)
 refine⟨z,y,xs,r,o,es,ep,h1,h2,h3,h4,fun x hx=>?_,h5⟩;have all:∀{l:List (D×V)}{m:List (D×Addr×Value)},KT H l m->∀x∈m,(iP P w).is h x.1 x.2.1:=by
  intro l m q
  induction q with
  | nil=>intro x hx;exact nomatch hx
  | @cons p q ps qs hq t ih=>
   intro x hx;rcases XT.mp hx with e | hx
   ·subst e;exact yM ok (by rw[<-hq.1];exact hq.2.1)
   ·exact ih x hx
 exact all r x hx
def KR (ok:lX P w H h) (e:H a=some (.dT kvs)):kvs.length<=sizeLine/\(a == sysModules)=false/\
  ∃xs,KT H kvs xs/\h.DictOfH (iP P w) a xs:=zZ ok (.inl e)
end
def LO (y:V) (k:Key):Prop:=y=kV k\/∃b,y= .bl b/\k= .inl (bI b)
def LO.is {P:Program}{w:World}{y:V}{k:Key}{u:Value}(e:LO y k) (r:RelV y u):(cB P w).is k u=true:=by
 rcases e with rfl | ⟨b,rfl,rfl⟩
 ·exact CI r
 ·cases r;exact Zp rfl
def nK (H:Hp) (a:Addr) (y:V) (r:Option V):Prop:=
 (∃kvs k,Rd H a (.dK kvs)/\LO y k/\r=oB kvs k)\/∃kvs k b,Rd H a (.dT kvs)/\y= .ref b/\Kd H b k/\r=oB kvs k
def Aa (H:Hp) (a:Addr) (y v:V) (H':Hp):Prop:=
 (∃kvs k,H a=some (.dK kvs)/\LO y k/\kvs.length < sizeLine/\H'=upd H a (.dK (putK kvs k v)))\/
 ∃kvs k b,H a=some (.dT kvs)/\y= .ref b/\Kd H b k/\kvs.length < sizeLine/\H'=upd H a (.dT (putK kvs k v))
def nK.t {b:Addr}{k:D}(e:H a=some (.dT kvs)) (eb:Kd H b k):nK H a (.ref b) (oB kvs k):=.inr ⟨kvs,k,b,.inl e,rfl,eb,rfl⟩
def Aa.t {b:Addr}{k:D}{v:V}(e:H a=some (.dT kvs)) (eb:Kd H b k) (hl:kvs.length < sizeLine):
  Aa H a (.ref b) v (upd H a (.dT (putK kvs k v))):=.inr ⟨kvs,k,b,e,rfl,eb,hl,rfl⟩
section
variable {X:Cx}{pins:AAD}{σ:St}{H:Hp}{s:Shared}{a:Addr}{y v:V}{u r:Value}{o:Option V}{A:Around}{E:AAB}
def Inv.big (I:Inv X pins σ H s):sysModules < s.heap.objs.size:=by
 have h:mainGlobals < s.heap.objs.size:=(I.mod.glob.keeps I.bk).lt;exact aap (by decide) h
def DJ (hu:A.units+20 < cLine) (I:Inv X pins σ H s) (g:nK H a y (some v)) (ry:RelV y u) (h:∀w' s',Inv X pins σ H s'->RelV v w'->Q w' s'):
  wpAny (model X.prog X.w) A (getItem (.ref a) u) Q E s:=by
 rcases g with⟨kvs,k,e,ey,l⟩ | ⟨kvs,k,b,e,ey,eb,l⟩
 ·obtain⟨z,hd,vs,rel,dd⟩:=xB I.hok e;obtain⟨w',hw,rw'⟩:=qG.some_of (v:=v) (o:=valueAt vs k) (by rw[l];exact rel.val k);exact wpAny_getItem_of (ey.is ry) dd.mapOf hw (h w' _ (I.tok _) rw')
 ·subst ey;cases(show u=Value.ref b from ry);obtain⟨z,hd,xs,rel,dd⟩:=zZ I.hok e;obtain⟨w',hw,rw'⟩:=qG.some_of (v:=v) (o:=(atKey xs k).map (·.2)) (by rw[l];exact rel.val k);obtain⟨p,hp,hp2⟩:=Option.map_eq_some_iff.mp hw;refine wpAny_getItem_heap (jF hu) (yM I.hok eb) dd hp ?_;rw[hp2];exact h w' _ (I.tok _) rw'
def uf {h':Heap}{ob:HO}(I:Inv X pins σ H s) (mu:NX (H a)) (hs:Heap.SameBut a s.heap h') (he:∃q,h'.get? a=some q) (new:fq X.prog X.w (upd H a ob) h' a ob):
  Inv X pins σ (upd H a ob) {s with heap:=h',toks:=t'}:=
 I.write (x:=a) (e:=a) mu (.inl rfl) (fun b q hb z=>(hs.2 b hb).trans z) he new
def Bx {h':Heap}{kvs:List (Key×V)}{vs:List (Key×Value)}(z:kvs.length<=sizeLine) (hd:(a == sysModules)=false) (rel:KV kvs vs) (dd:h'.DictOf (cB P w) a vs):
  fq P w H' h' a (.dK kvs):=⟨z,hd,vs,rel,dd⟩
def DK {Q:Unit->Shared->Prop}(hu:A.units+20 < cLine) (I:Inv X pins σ H s) (g:Aa H a y v H') (ry:RelV y u) (rv:RelV v r) (h:∀s',Inv X pins σ H' s'->Q () s'):
  wpAny (model X.prog X.w) A (setItem (.ref a) u r) Q E s:=by
 rcases g with⟨kvs,k,e,ey,l,eH⟩ | ⟨kvs,k,b,e,ey,eb,l,eH⟩
 ·subst eH;obtain⟨z,hd,vs,rel,dd⟩:=CJ I.hok e;have hz:vs.length<=sizeLine:=by rw[<-rel.length];exact z
  have hl:(putK kvs k v).length<=sizeLine:=by have:=l7 kvs k v;lia
  refine wpAny_setItem_pairs (hsz:=hz) (ey.is ry) dd fun h' HW hs=>h _ ?_;have he:∃q,h'.get? a=some q:=let⟨q,_,_,hq,_⟩:=HW;⟨q,hq⟩
  exact uf I (by rw[e];exact True.intro) hs he (Bx hl hd (rel.put k rv) HW)
 ·subst ey eH;cases(show u=Value.ref b from ry);obtain⟨z,hd,xs,rel,dd⟩:=KR I.hok e;have hz:xs.length<=sizeLine:=by rw[<-aaO rel];exact z
  have hl:(putK kvs k v).length<=sizeLine:=by have:=l7 kvs k v;lia
  refine wpAny_setItem_heap (hsz:=hz) (jF hu) (yM I.hok eb) dd fun h' HW hs=>h _ ?_;obtain⟨q,es,ep,hq,h2,h3,h4,_,h5⟩:=HW;refine uf I (by rw[e];exact True.intro) hs ⟨q,hq⟩ ⟨hl,hd,_,(rel.put k eb rv).keeps fun c ys ec=>?_,q,es,ep,hq,h2,h3,h4,h5⟩;rw[aW (NW ec e (fun z=>nomatch z))];exact ec
end
section
variable {X:Cx}{pins:AAD}{σ:St}{H:Hp}{s:Shared}{a:Addr}{kvs:List (Key×V)}{A:Around}{E:AAB}
def Ox (I:Inv X pins σ H s) (e:Rd H a (.dK kvs)) (h:∀t s',Inv X pins σ H s'->Q (.int kvs.length t) s'):wpAny (model X.prog X.w) A (call (.builtin "len") [.ref a]) Q E s:=by
 obtain⟨z,hd,vs,rel,dd⟩:=xB I.hok e;refine call_len_dict hd dd (by rw[<-rel.length];rw[aaF] at z;lia) ?_;rw[<-rel.length];exact h _ _ (I.tok _)
end
def Iu (i:Expr):Prop:=∀ov iv,subscripted i false ov iv=operate [ov,iv] (getItem ov iv)
def CL {prog:Program}{s:Shared}{env:Env}{value slice:Expr}{T id:String}
  (hl:typeLookup (.type T) "__getitem__" =pure (some (.builtin id))) (hs:Iu slice)
  (h:wpAny (model prog w) A (eval value env) (fun o s₁=>wpAny (model prog w) A (eval slice env) (fun i s₂=>s₂.TypeIs o T/\wpAny (model prog w) A (getItem o i) Q E s₂) E s₁) E s):
  wpAny (model prog w) A (eval (.Subscript value slice pos) env) Q E s:=by
 refine Subscript_ (YC h (fun o s₁ h₁=>YC h₁ (fun i s₂ h₂=>?_) fun _ _ x=>x) fun _ _ x=>x);obtain⟨hT,h₂⟩:=h₂;unfold subscriptTail;refine XQ ?_;rw[getitemInPython_of_ne hT.not_modules];refine XQ (wpAny_specialOf hT hl ?_);have fin:wpAny (model prog w) A (subscripted slice false o i) (fun r s₃=>wpAny (model prog w) A (letTemporaryGo value o r >>= fun _=>pure r) Q E s₃) E s₂:=by
  rw[hs o i];exact wpAny_operating (YC h₂ (fun r s₃ h₃=>XQ (wpAny_letTemporaryGo (wpAny_pure h₃))) fun _ _ x=>x)
 first
  | exact wpAny_pure (XQ fin)
  | exact XQ (wpAny_pure (XQ fin))
  | exact XQ fin
def Ab {s:Shared}{o:Option V}(I:Inv X pins σ H s) (g:nK H a y o):s.TypeIs (.ref a) "dict":=by
 rcases g with⟨kvs,k,e,_,_⟩ | ⟨kvs,k,b,e,_,_,_⟩
 ·obtain⟨_,_,vs,_,dd⟩:=xB I.hok e;exact dd.typeIs
 ·obtain⟨_,_,xs,_,dd⟩:=zZ I.hok e;exact dd.typeIs
def Oz (td ty:TE):TE:=fun σ H Q=>td σ H fun x H1=>ty σ H1 fun y H2=>∃a v,x= .ref a/\nK H2 a y (some v)/\Q v H2
def OA (td ty tv:TE):TS:=fun D σ H=>tv σ H fun v H1=>td σ H1 fun x H2=>ty σ H2 fun y H3=>∃a H4,x= .ref a/\Aa H3 a y v H4/\D.nx σ H4
section
variable {X:Cx}{o i value:Expr}{pos pos':Pos}{td ty tv:TE}
def CM (hu:X.A.units+20 < cLine) (ho:PE X o td) (hi:PE X i ty) (hs:Iu i):PE X (.Subscript o i pos) (Oz td ty):=by
 intro pins s σ H Q I h;refine CL aaU.lookup hs (dw (ho pins s σ H _ I h) fun u s1 ⟨x,H1,I1,rx,q1⟩=>dw (hi pins s1 σ H1 _ I1 q1) fun iv s2 hh=>?_);obtain⟨y,H2,I2,ry,a,v,ex,g,q2⟩:=hh;subst ex;obtain rfl:u=Value.ref a:=rx;exact⟨Ab I2 g,DJ hu I2 g ry fun w' s3 I3 rw'=>⟨v,H2,I3,rw',q2⟩⟩
def CN (hu:X.A.units+20 < cLine) (ho:PE X o td) (hi:PE X i ty) (hv:PE X value tv) (hs:swapsWith value (some (.Subscript o i pos')) pos.line X.env=pure false):
  PS X (.Assign [.Subscript o i pos'] value pos) (OA td ty tv):=by
 intro pins s σ H D I h;refine wpAny_Assign_Subscript (dw (hv pins s σ H _ I h) fun r s1 ⟨v,H1,I1,rv,q1⟩=>dw (ho pins s1 σ H1 _ I1 q1) fun u s2 ⟨x,H2,I2,rx,q2⟩=>dw (hi pins s2 σ H2 _ I2 q2) fun iv s3 hh=>?_) hs;obtain⟨y,H3,I3,ry,a,H4,ex,g,q3⟩:=hh;subst ex;obtain rfl:u=Value.ref a:=rx;exact DK hu I3 g ry rv fun s4 I4=>⟨σ,H4,I4,q3⟩
end
def FA (h:Heap) (hb:sysModules < h.objs.size):fq P w H (h.push {cls:=.type "dict",data:=.dict #[]}) h.objs.size (.dK []):=
 ⟨YY _,beq_eq_false_iff_ne.mpr (Y4 (Yj hb)),[],.nil,Heap.DictOf.new h⟩
def uD:List (TE×TE)->St->Hp->(List (V×V)->Hp->Prop)->Prop
 | [],_,H,Q=>Q [] H
 | (tk,tv) :: r,σ,H,Q=>tk σ H fun x H1=>tv σ H1 fun y H2=>uD r σ H2 fun ps H3=>Q ((x,y) :: ps) H3
abbrev VV:List (V×V)->List (Value×Value)->Prop:=Paired fun p q=>RelV p.1 q.1/\RelV p.2 q.2
def OB (X:Cx) (pos:Pos) (keys:List (BBL)) (values:BBC) (Iv:List (TE×TE)):Prop:=
 ∀(pins:AAD) (s:Shared) (σ:St) (H:Hp) (Q:List (V×V)->Hp->Prop),Inv X pins σ H s->uD Iv σ H Q->
  wpAny (model X.prog X.w) X.A (evalPairs (pairTrees keys values X.env pos)) (fun vs s'=>∃ps H',Inv X pins σ H' s'/\VV ps vs/\Q ps H') X.xe s
def Iw :OB X pos [] [] []:=fun pins s σ H Q I h=>pairTrees_nil_walk ⟨[],H,I,.nil,h⟩
def FD {k v:Expr}{ks:List (BBL)}{vs:BBC}{tk tv:TE}(hk:PE X k tk) (hv:PE X v tv) (hr:OB X pos ks vs Iv):
  OB X pos (some k :: ks) (v :: vs) ((tk,tv) :: Iv):=fun pins s σ H Q I h=>
 pairTrees_cons_walk (dw (hk pins s σ H _ I h) fun u s1 ⟨x,H1,I1,rx,q1⟩=>dw (hv pins s1 σ H1 _ I1 q1) fun w2 s2 ⟨y,H2,I2,ry,q2⟩=>
  dw (hr pins s2 σ H2 _ I2 q2) fun ws s3 ⟨ps,H3,I3,rel,q3⟩=>⟨(x,y) :: ps,H3,I3,.cons ⟨rx,ry⟩ rel,q3⟩)
def iS (kvs more:List (Key×V)):List (Key×V):=more.foldl (fun acc kv=>putK acc kv.1 kv.2) kvs
def KV.merge:∀{more:List (Key×V)}{rs:List (Key×Value)}{kvs:List (Key×V)}{vs:List (Key×Value)},KV more rs->KV kvs vs->KV (iS kvs more) (merged vs rs):=by
 intro more rs kvs vs r;unfold KV at r
 induction r generalizing kvs vs with
 | nil=>intro q;exact q
 | @cons p q ps qs h t ih=>
  intro r0;have e:KV (putK kvs p.1 p.2) (stored vs q.1 q.2):=by
   have:=r0.put p.1 h.2;rw[<-h.1];exact this
  exact ih e
theorem jG:∀(more kvs:List (Key×V)),(iS kvs more).length<=kvs.length+more.length
 | [],kvs=>by show kvs.length<=kvs.length+0;lia
 | p :: r,kvs=>by
  have h1:=jG r (putK kvs p.1 p.2);have h2:=l7 kvs p.1 p.2;show(iS (putK kvs p.1 p.2) r).length<=_;rw[X8];lia
theorem uE {P:Program}{w:World}:∀{kvs:List (Key×V)}{ws:List (Value×Value)},VV (kvs.map fun kv=>(kV kv.1,kv.2)) ws->∃rs,Carries (cB P w) ws rs/\KV kvs rs
 | [],_,r=>by rw[Ye] at r;cases r;exact⟨[],True.intro,.nil⟩
 | p :: kvs,_,r=>by
  rw[Yd] at r;cases r with
  | @cons a b as bs h t=>
   obtain⟨rs,c,q⟩:=uE (P:=P) (w:=w) t;obtain⟨b1,b2⟩:=b;exact⟨(p.1,b2) :: rs,⟨CI h.1,rfl,c⟩,.cons ⟨rfl,h.2⟩ q⟩
def OC (Iv:List (TE×TE)):TE:=fun σ H Q=>∀p,H p=none->uD Iv σ (upd H p (.dK [])) fun ps H2=>H2 p=some (.dK [])/\∃kvs:List (Key×V),ps=kvs.map (fun kv=>(kV kv.1,kv.2))/\kvs.length<=15/\Q (.ref p) (upd H2 p (.dK (iS [] kvs)))
def Iz {keys:List (BBL)}{values:BBC}(h:OB X pos keys values Iv) (hall:keys.all (·.isSome)=true) (hl:keys.length=values.length) (h0:keys≠[])
  (RN:keys.length<=15):PE X (.Dict keys values pos) (OC Iv):=by
 intro pins s σ H Q I q;have hn:=I.hok.fresh (XW s.heap.objs.size);have I1:=I.laid (a:=s.heap.objs.size) (o:=.dK []) (h':=s.heap.push {cls:=.type "dict",data:=.dict #[]}) (t':=s.toks) (fun _ _ q=>XS _ q) (XW _) (FA s.heap I.big);refine wpAny_Dict_walk (knd:=cB X.prog X.w) hall hl h0 RN (dw (h pins _ σ _ _ I1 (q _ hn)) fun ws s2 hh=>?_);obtain⟨ps,H2,I2,rel,e,kvs,ep,lk,q2⟩:=hh;subst ep;obtain⟨rs,c,rk⟩:=uE (P:=X.prog) (w:=X.w) rel;obtain⟨z,hd,Nk,r0,dd⟩:=CJ I2.hok e;cases r0;refine⟨rs,c,dd,fun h' HW hs=>⟨.ref s.heap.objs.size,_,?_,rfl,q2⟩⟩;have hz:(iS [] kvs).length<=sizeLine:=by
  have h1:=jG kvs [];rw[Zz] at h1;rw[aaF];lia
 have he:∃q,h'.get? s.heap.objs.size=some q:=let⟨q,_,_,hq,_⟩:=HW;⟨q,hq⟩
 exact uf I2 (by rw[e];exact True.intro) hs he (Bx hz hd (rk.merge .nil) HW)
structure M1 (X:Cx) (o:Expr) (m:Str) (apos:Pos) (e:Expr) (cpos:Pos):Prop where
 base:attributeBase o m X.env (eval o X.env)=eval o X.env
 few:((backTo cpos (starEach [e] X.env)).all (fun x=>!x.1) && (backToKw cpos (keywordEach [] X.env)).all (fun x=>x.1.isSome)
  && decide (([e]:BBC).length+([]:BBI).length+(if([]:BBI).isEmpty then 0 else 1) < 30))=true
 line:(apos.endLine == cpos.line)=true
 trees:backTo cpos (starEach [e] X.env)=[(false,eval e X.env)]
structure M2 (X:Cx) (o:Expr) (m:Str) (apos:Pos) (e f:Expr) (cpos:Pos):Prop where
 base:attributeBase o m X.env (eval o X.env)=eval o X.env
 few:((backTo cpos (starEach [e,f] X.env)).all (fun x=>!x.1) && (backToKw cpos (keywordEach [] X.env)).all (fun x=>x.1.isSome)
  && decide (([e,f]:BBC).length+([]:BBI).length+(if([]:BBI).isEmpty then 0 else 1) < 30))=true
 line:(apos.endLine == cpos.line)=true
 trees:backTo cpos (starEach [e,f] X.env)=[(false,eval e X.env),(false,eval f X.env)]
def Qn (H:Hp) (a:Addr):Prop:=(∃kvs,Rd H a (.dK kvs))\/∃kvs,Rd H a (.dT kvs)
def FE {s:Shared}(I:Inv X pins σ H s) (d:Qn H a):
  s.TypeIs (.ref a) "dict"/\(∀b,Value.ref a= .ref b->∃ob,s.heap.get? b=some ob/\ob.dict=none)/\(a == sysModules)=false:=by
 rcases d with⟨kvs,e⟩ | ⟨kvs,e⟩
 ·obtain⟨_,hd,vs,_,dd⟩:=xB I.hok e;refine⟨dd.typeIs,fun b q=>?_,hd⟩;cases q;obtain⟨ob,_,_,h1,h2,_⟩:=dd;exact⟨ob,h1,h2.2.1⟩
 ·obtain⟨_,hd,xs,_,dd⟩:=zZ I.hok e;refine⟨dd.typeIs,fun b q=>?_,hd⟩;cases q;obtain⟨ob,_,_,h1,h2,_⟩:=dd;exact⟨ob,h1,h2.2.1⟩
section
variable {X:Cx}{pins:AAD}{σ:St}{H:Hp}{s:Shared}{a:Addr}{y d:V}{u r:Value}{o:Option V}{A:Around}{E:AAB}
def LP (hu:A.units+20 < cLine) (I:Inv X pins σ H s) (g:nK H a y o) (ry:RelV y u) (rd:RelV d r) (h:∀w' s',Inv X pins σ H s'->RelV (o.getD d) w'->Q w' s'):
  wpAny (model X.prog X.w) A (call (.builtin "dict.get") [.ref a,u,r]) Q E s:=by
 rcases g with⟨kvs,k,e,ey,l⟩ | ⟨kvs,k,b,e,ey,eb,l⟩
 ·obtain⟨z,hd,vs,rel,dd⟩:=xB I.hok e;refine aaq Zh dd.typeIs aac (Z3 _ _ _) (meets_dict_get_default (cB X.prog X.w) a (ey.is ry) hd r) ⟨_,dd.mapOf,h _ _ (I.tok _) ?_⟩;rw[l];exact(rel.val k).getD rd
 ·subst ey;cases(show u=Value.ref b from ry);obtain⟨z,hd,xs,rel,dd⟩:=zZ I.hok e;refine aaq Zh dd.typeIs aac (Z3 _ _ _) (meetsH_dict_get_default (iP X.prog X.w) a b hd r) ⟨jF hu,k,xs,yM I.hok eb,dd,h _ _ (I.tok _) ?_⟩;rw[l];exact(rel.val k).getD rd
end
def LQ (td ty tx:TE):TE:=fun σ H Q=>td σ H fun x H1=>∃a,x= .ref a/\Qn H1 a/\ty σ H1 fun y H2=>tx σ H2 fun z H3=>∃o,nK H3 a y o/\Q (o.getD z) H3
section
variable {X:Cx}{o e f:Expr}{apos cpos:Pos}{td ty tx:TE}
def FF (hu:X.A.units+20 < cLine) (ho:PE X o td) (he:PE X e ty) (hf:PE X f tx) (m:M2 X o "get" apos e f cpos):PE X (.Call (.Attribute o "get" apos) [e,f] [] cpos) (LQ td ty tx):=by
 intro pins s σ H Q I h;refine aaS m.base m.few m.line Z4 Zh PySem.F.type_dict_get (dw (ho pins s σ H _ I h) fun u s1 hh=>?_);obtain⟨x,H1,I1,rx,a,ex,d,q1⟩:=hh;subst ex;obtain rfl:u=Value.ref a:=rx;obtain⟨t1,t2,_⟩:=FE I1 d;refine⟨t1,t2,?_⟩;rw[m.trees];refine Zd rfl (ZJ (YW (dw (he pins s1 σ H1 _ I1 q1) fun iv s2 ⟨y,H2,I2,ry,q2⟩=>
  YW (dw (hf pins s2 σ H2 _ I2 q2) fun fv s3 ⟨z,H3,I3,rz,ov,g,q3⟩=>ZE ?_))))
 exact LP hu I3 g ry rz fun w' s4 I4 rw'=>⟨_,H3,I4,rw',q3⟩
end
end L2
namespace HT
open PySem PyProof.Rows
variable {Q:AAB}{lo hi:BBM}
section
open PySem.SeqAt
open PySem.AutoSeq1 (wpAny_loadPart')
open PySem.MeetsSeq PySem.MeetsSeq2 PySem.MeetsSeq3
end
section
variable {prog:Program}{w:World}{A:Around}{E:AAB}{s:Shared}
def IA {t b:Addr}{vs ws:AAI}(ht:IsTup s.heap t vs.toArray) (hb:IsTup s.heap b ws.toArray) (hv:vs≠[])
  (h1:ws=[]->Q (.ref t) s) (h2:ws≠[]->Q (.ref s.heap.objs.size) {s with heap:=s.heap.push {cls:=.type "tuple",data:=.seq (vs++ws).toArray}})
  (hsz:vs.length+ws.length<=sizeLine):wpAny (model prog w) A (binaryOp .Add (.ref t) (.ref b)) Q E s:=by
 obtain⟨⟨cls,dd,data,sl⟩,ho,hc,n,hd⟩:=id ht;obtain⟨⟨RO,dd2,data2,sl2⟩,ho2,hc2,n2,hd2⟩:=id hb;simp only at hc hd hc2 hd2;subst hc hd hc2 hd2;have e:vs.toArray++ws.toArray=(vs++ws).toArray:=by simp
 by_cases hw:ws=[]
 ·exact concat_meets ⟨_,ho,rfl⟩ ⟨_,ho2,rfl⟩ aaZ seq_tuple_add aad Z5 (ZS _ _)
   (tuple_addW1 t b vs.toArray ws.toArray n n2 dd dd2 sl sl2 (by simpa using hv) (by simp[hw])) ⟨ho,ho2,h1 hw⟩
 ·refine concat_meets ⟨_,ho,rfl⟩ ⟨_,ho2,rfl⟩ aaZ seq_tuple_add aad Z5 (ZS _ _)
   (tuple_addW2 t b vs.toArray ws.toArray n n2 dd dd2 sl sl2 (by simpa using hv) (by simpa using hw) (by rw[XR,XR];exact hsz)) ⟨ho,ho2,?_⟩
  rw[e];exact h2 hw
noncomputable def eu (n d:Nat):BBM->Nat
 | none=>d
 | some v=>if v < 0 then(v+(n:Int)).toNat else min v.toNat n
def FG (n d:Nat):eu n d none=d:=rfl
def CO (n d k:Nat):eu n d (some (k:Int))=min k n:=by
 show(if(k:Int) < 0 then((k:Int)+(n:Int)).toNat else min (k:Int).toNat n)=min k n;rw[if_neg (by lia),Int.toNat_natCast]
def LR (n d:Nat) (hd:d<=n) (o:BBM):eu n d o<=n:=by
 cases o with
 | none=>exact hd
 | some v=>
  show(if v < 0 then(v+(n:Int)).toNat else min v.toNat n)<=n;by_cases hv:v < 0
  ·rw[if_pos hv];lia
  ·rw[if_neg hv];exact Nat.min_le_right _ _
def CP (v:Int) (n d:Nat):(if v < 0 then max (v+(n:Int)) 0 else min v (n:Int))=((eu n d (some v):Nat):Int):=by
 show(if v < 0 then max (v+(n:Int)) 0 else min v (n:Int))=(((if v < 0 then(v+(n:Int)).toNat else min v.toNat n):Nat):Int);by_cases hv:v < 0
 ·simp only[if_pos hv];lia
 ·simp only[if_neg hv];lia
def By (lo hi:BBM) (n:Nat):Builtin.Slice.sliceAdjust lo hi 1 (n:Int)=(((eu n 0 lo:Nat):Int),((eu n n hi:Nat):Int)):=by
 have h1:¬((1:Int) < 0):=by lia
 unfold Builtin.Slice.sliceAdjust;simp only[h1,Zl];refine Prod.ext ?_ ?_
 ·cases lo with
  | none=>rfl
  | some v=>exact CP v n 0
 ·cases hi with
  | none=>rfl
  | some v=>exact CP v n n
def BA (i j:Nat):Builtin.Slice.slicePlaces (i:Int) (j:Int) 1=j - i:=by
 unfold Builtin.Slice.slicePlaces;have h1:(1:Int) > 0:=by lia
 simp only[h1,if_true,Int.ediv_one];split <;> lia
def uF {v:Value}{o:BBM}{Q:BBM->Shared->Prop}(p:IsPart v o) (h:Q o s):wpAny (model prog w) A (Builtin.Slice.slicePartIndex v) Q E s:=by
 cases p with
 | none=>exact slicePart_none h
 | int i t=>exact slicePart_int h
def jY {sl:Addr}{vl vu:Value}{n:Nat}{Q:Int×Int×Nat->Shared->Prop}(hs:s.heap.IsSliceOf sl vl vu .none) (pl:IsPart vl lo) (pu:IsPart vu hi)
  (h:Q (((eu n 0 lo:Nat):Int),1,eu n n hi - eu n 0 lo) s):wpAny (model prog w) A (Builtin.Slice.sliceApplied (.ref sl) (pure (n:Int))) Q E s:=by
 obtain⟨os,hos,hcs,hds⟩:=id hs;unfold Builtin.Slice.sliceApplied Builtin.Slice.sliceFields;refine XQ (XQ (wpAny_field hos hds (x:=vl) rfl (XQ (wpAny_field hos hds (x:=vu) rfl (XQ (wpAny_field hos hds (x:=.none) rfl (wpAny_pure ?_)))))));refine XQ (slicePart_none ?_);show wpAny _ _ (if((1:Int) == 0)=true then _ else _) _ _ s;rw[if_neg (by decide)];refine XQ (uF pl (XQ (uF pu (XQ (wpAny_pure ?_)))));show wpAny _ _ (match Builtin.Slice.sliceAdjust lo hi 1 (n:Int) with | (lo,hi)=>pure (lo,(1:Int),Builtin.Slice.slicePlaces lo hi 1)) _ _ s;rw[By lo hi n];show wpAny _ _ (pure (((eu n 0 lo:Nat):Int),(1:Int),Builtin.Slice.slicePlaces ((eu n 0 lo:Nat):Int) ((eu n n hi:Nat):Int) 1)) _ _ s;rw[BA];exact wpAny_pure h
def FH (xs:AAH) (i k:Nat):((List.range k).filterMap fun(m:Nat)=>xs[((i:Int)+(m:Int) * 1).toNat]?).toArray=((xs.toList.drop i).take k).toArray:=by
 have e:(fun(m:Nat)=>xs[((i:Int)+(m:Int) * 1).toNat]?)=fun m=>xs[i+m]?:=by
  funext m;have:((i:Int)+(m:Int) * 1).toNat=i+m:=by lia
  rw[this]
 rw[e];have:=pick_run xs i k;rw[List.filterMap_map] at this;have e2:((fun x=>xs[x]?) ∘ fun x=>i+x)=fun m=>xs[i+m]?:=rfl;rw[e2] at this;rw[this]
def pN {t sl:Addr}{items:AAH}{vl vu:Value}(ht:IsTup s.heap t items) (hs:s.heap.IsSliceOf sl vl vu .none) (pl:IsPart vl lo) (pu:IsPart vu hi)
  (hw:¬(eu items.size 0 lo=0/\eu items.size items.size hi=items.size))
  (h:Q (.ref s.heap.objs.size) {s with heap:=s.heap.push {cls:=.type "tuple",data:=.seq ((items.toList.drop (eu items.size 0 lo)).take (eu items.size items.size hi - eu items.size 0 lo)).toArray}})
  (hsz:items.size<=sizeLine):wpAny (model prog w) A (getItem (.ref t) (.ref sl)) Q E s:=by
 have CQ:sizeOk (.seq ((items.toList.drop (eu items.size 0 lo)).take (eu items.size items.size hi - eu items.size 0 lo)).toArray):=by
  show((items.toList.drop (eu items.size 0 lo)).take (eu items.size items.size hi - eu items.size 0 lo)).toArray.size<=sizeLine;rw[XR,Zs,Zt,Yr];lia
 have hj:eu items.size items.size hi<=items.size:=LR _ _ (XW _) hi;obtain⟨os,hos,hcs,hds⟩:=id hs;have RP:s.TypeIs (.ref sl) "slice":=⟨os,hos,hcs⟩
 unfold getItem
 try with_reducible refine YD ?_
 first | refine XQ (wpAny_pure ?_) | skip
 refine XQ (wpAny_sequenceKey ht.typeIs (by decide) ?_);refine XQ (Y9 (name:=Str.ofString "__getitem__") ht.typeIs Yx
  (Zb Yx ht.typeIs entry_tuple_getitem ?_ (args_tuple_getitem _ _)))
 show wpAny _ _ (Builtin.Tuple.tupleItemsOf (.ref t) >>= _) _ _ s;refine XQ (tupleItemsOf_ ht ?_);refine XQ (aar RP ?_);rw[if_pos (by decide)];refine XQ (jY hs pl pu ?_);have hno:¬((((eu items.size 0 lo:Nat):Int) == 0 && (1:Int) == 1 && (eu items.size items.size hi - eu items.size 0 lo) == items.size)=true):=by
  intro q;rw[Yo,Yo] at q;have q1:((eu items.size 0 lo:Nat):Int)=0:=eq_of_beq q.1.1;have q2:eu items.size items.size hi - eu items.size 0 lo=items.size:=eq_of_beq q.2;exact hw ⟨by lia,by lia⟩
 show wpAny _ _ (if(((eu items.size 0 lo:Nat):Int) == 0 && (1:Int) == 1 && (eu items.size items.size hi - eu items.size 0 lo) == items.size)=true then _ else _) _ _ s;rw[if_neg hno,FH]
 first
  | exact XQ (m:=Builtin.Tuple.tupleExact _) (Yw (wpAny_pure ⟨_,rfl,wpAny_pure h⟩) CQ)
  | exact XQ (m:=Builtin.Tuple.tupleExact _) (Yw (XQ (wpAny_pure (wpAny_pure ⟨_,rfl,wpAny_pure h⟩))) CQ)
  | exact XQ (XQ (m:=Builtin.Tuple.tupleExact _) (Yw (wpAny_pure (wpAny_pure ⟨_,rfl,wpAny_pure h⟩)) CQ))
  | exact XQ (XQ (m:=Builtin.Tuple.tupleExact _) (Yw (wpAny_pure ⟨_,rfl,wpAny_pure h⟩) CQ))
end
end HT
namespace L2
open PySem PySem.Spec PyProof.Rows
variable {xs:List V}{n:Nat}{pins:AAD}{its its':AAI}
abbrev TO:=St->Hp->(BBM->Hp->Prop)->Prop
def PO (X:Cx) (e:BBL) (t:TO):Prop:=
 ∀(pins:AAD) (s:Shared) (σ:St) (H:Hp) (Q:BBM->Hp->Prop),Inv X pins σ H s->t σ H Q->
  wpAny (model X.prog X.w) X.A (evalPart e X.env) (fun u s'=>∃o H',Inv X pins σ H' s'/\IsPart u o/\Q o H') X.xe s
def IB:TO:=fun _ H Q=>Q none H
def OD (t:TE):TO:=fun σ H Q=>t σ H fun x H1=>∃i,x= .int i/\Q (some i) H1
def intsAre_of {ns:BBD}:∀{us:AAI},Vals (ns.map V.int) us->IntsAre us ns:=by
 induction ns with
 | nil=>intro us r;rw[Ye] at r;cases r;exact .nil
 | cons n ns ih=>
  intro us r;rw[Yd] at r;cases r with
  | cons r1 r2=>
   obtain⟨t,e⟩:=r1;subst e;exact .cons n t (ih r2)
section
variable {X:Cx}{e:Expr}{te:TE}{lo hi:BBL}{tl th:TO}{pos p2:Pos}
def IC:PO X none IB:=by
 intro pins s σ H Q I h;rw[evalPart_none];exact wpAny_pure ⟨none,H,I,.none,h⟩
def ID (h:PE X e te):PO X (some e) (OD te):=by
 intro pins s σ H Q I hw;rw[evalPart_some];refine dw (h pins s σ H _ I hw) fun u s1 hh=>?_;obtain⟨x,H1,I1,r1,q1⟩:=hh;obtain⟨i,rfl,q⟩:=q1;obtain⟨t,rfl⟩:=r1;exact⟨some i,H1,I1,.int i t,q⟩
def OE (X:Cx) (r:V->BBM->BBM->Hp->VK->Prop):Prop:=
 ∀(pins:AAD) (s:Shared) (σ:St) (H:Hp) (x:V) (v vl vu:Value) (lo hi:BBM) (sl:Addr) (Q:VK),Inv X pins σ H s->RelV x v->s.heap.IsSliceOf sl vl vu .none->IsPart vl lo->IsPart vu hi->r x lo hi H Q->
  ∃T id,typeLookup (.type T) "__getitem__" =pure (some (.builtin id))/\s.TypeIs v T/\wpAny (model X.prog X.w) X.A (getItem v (.ref sl)) (EP X pins σ Q) X.xe s
def VT (r:V->BBM->BBM->Hp->VK->Prop) (te:TE) (tl th:TO):TE:=fun σ H Q=>te σ H fun x H1=>tl σ H1 fun l H2=>th σ H2 fun u H3=>r x l u H3 Q
def Ac {r:V->BBM->BBM->Hp->VK->Prop}(hr:OE X r) (he:PE X e te) (hl:PO X lo tl) (hu:PO X hi th):PE X (.Subscript e (.Slice lo hi none p2) pos) (VT r te tl th):=by
 intro pins s σ H Q I h;refine Subscript_ (dw (he pins s σ H _ I h) fun v s1 hh=>?_);obtain⟨x,H1,I1,r1,q1⟩:=hh;refine wpAny_Slice (dw (hl pins s1 σ H1 _ I1 q1) fun vl s2 ⟨l,H2,I2,pl,q2⟩=>dw (hu pins s2 σ H2 _ I2 q2) fun vu s3 hh=>?_);obtain⟨u,H3,I3,pu,q3⟩:=hh;rw[evalPart_none];refine wpAny_pure ?_;have I4:Inv X pins σ H3 {s3 with heap:=s3.heap.push {cls:=.type "slice",data:=.fields #[vl,vu,.none]}}:=I3.kept (t':=s3.toks) fun b ob q=>XS _ q;obtain⟨T,id,hT,ht,hg⟩:=hr pins {s3 with heap:=s3.heap.push {cls:=.type "slice",data:=.fields #[vl,vu,.none]}} σ H3 x v vl vu l u s3.heap.objs.size Q I4 r1 (Heap.IsSliceOf.new ..) pl pu q3;show wpAny (model X.prog X.w) X.A (subscriptTail e (.Slice lo hi none p2) v (.ref s3.heap.objs.size)) (EP X pins σ Q) X.xe {s3 with heap:=s3.heap.push {cls:=.type "slice",data:=.fields #[vl,vu,.none]}};exact tail_any (ops:=[.ref s3.heap.objs.size,v]) ht hT hg (by with_unfolding_all rfl)
noncomputable def wB (xs:List V) (lo hi:BBM):List V:=(xs.drop (HT.eu xs.length 0 lo)).take (HT.eu xs.length xs.length hi - HT.eu xs.length 0 lo)
def sH (xs:List V) (lo hi:BBM):(wB xs lo hi).length<=xs.length:=by
 unfold wB;rw[Zs,Zt];lia
def RQ (K:AAA):V->BBM->BBM->Hp->VK->Prop:=fun x lo hi H Q=>∃a xs,x= .ref a/\Bq K H a xs/\
 ¬(HT.eu xs.length 0 lo=0/\HT.eu xs.length xs.length hi=xs.length)/\∀p,H p=none->Q (.ref p) (upd H p (.tup (wB xs lo hi)))
def LS:OE X (RQ X.K):=by
 intro pins s σ H x v vl vu lo hi sl Q I rx hs pl pu h;obtain⟨a,xs,rfl,hx,hw,q⟩:=h;cases rx;obtain⟨its,r,ht,hz⟩:=I.tuple hx;have hlen:its.toArray.size=xs.length:=by rw[XR];exact r.length.symm
 refine⟨"tuple",_,Yx.lookup,ht.typeIs,?_⟩;refine HT.pN ht hs pl pu (by rw[hlen];exact hw) ?_ (by rw[hlen];exact hz);rw[hlen];refine⟨.ref s.heap.objs.size,_,I.laid (t':=s.toks) (o:=.tup (wB xs lo hi)) (fun b ob q=>XS _ q) (XW _) ?_,rfl,q _ (I.hok.fresh (XW _))⟩;exact⟨X7 (sH xs lo hi) hz,_,(r.drop (HT.eu xs.length 0 lo)).take (HT.eu xs.length xs.length hi - HT.eu xs.length 0 lo),IsTup.new _ _⟩
def OF (K:AAA):R2:=fun x y H Q=>∃a b xs ys,x= .ref a/\y= .ref b/\Bq K H a xs/\Bq K H b ys/\xs≠[]/\xs.length+ys.length<=sizeLine/\
 (ys=[]->Q (.ref a) H)/\(ys≠[]->∀p,H p=none->Q (.ref p) (upd H p (.tup (xs++ys))))
def Vals.yN {us:AAI}(r:Vals xs us):us=[]↔xs=[]:=by
 cases r with
 | nil=>simp
 | cons _ _=>simp
def IE:wz X (binaryOp .Add) (OF X.K):=by
 intro pins s σ H x y v u Q I rx ry h;obtain⟨a,b,xs,ys,rfl,rfl,ha,hb,hx,hz,q1,q2⟩:=h;cases rx;cases ry;obtain⟨its,r1,p1,_⟩:=I.tuple ha;obtain⟨its2,r2,p2,_⟩:=I.tuple hb;refine HT.IA p1 p2 (fun z=>hx (r1.yN.mp z)) (fun z=>⟨.ref a,H,I,rfl,q1 (r2.yN.mp z)⟩) (fun z=>?_) (by rw[<-r1.length,<-r2.length];exact hz);refine⟨.ref s.heap.objs.size,_,I.laid (t':=s.toks) (o:=.tup (xs++ys)) (fun b ob q=>XS _ q) (XW _) ?_,rfl,q2 (fun w=>z (r2.yN.mpr w)) _ (I.hok.fresh (XW _))⟩;exact⟨by rw[X4];exact hz,_,r1.append r2,IsTup.new _ _⟩
end
noncomputable def yO (n:Nat) (i:Int):Option Nat:=if 0<=i then(if i < n then some i.toNat else none) else if -(n:Int)<=i then some (i+n).toNat else none
def dj {α:Type}(xs:List α) (i:Int):Option α:=(yO xs.length i).bind fun j=>xs[j]?
def CS {i:Int}{j:Nat}(h:yO n i=some j):seqIndex? i n=some j/\j < n/\-(n:Int)<=i/\i < n:=by
 unfold yO at h;by_cases h0:0<=i
 ·rw[if_pos h0] at h;by_cases h1:i < n
  ·rw[if_pos h1] at h;have e:i.toNat=j:=Ym h;exact⟨by rw[seqIndex_of h0 h1,e],by lia,by lia,h1⟩
  ·rw[if_neg h1] at h;cases h
 ·rw[if_neg h0] at h;by_cases h1:-(n:Int)<=i
  ·rw[if_pos h1] at h;have e:(i+n).toNat=j:=Ym h;exact⟨by rw[seqIndex_neg (by lia) h1,e],by lia,h1,by lia⟩
  ·rw[if_neg h1] at h;cases h
def yP {α:Type}{xs:List α}{i:Int}{v:α}(h:dj xs i=some v):∃j,seqIndex? i xs.length=some j/\xs[j]? =some v/\j < xs.length/\-(xs.length:Int)<=i/\i < xs.length:=by
 unfold dj at h;cases e:yO xs.length i with
 | none=>rw[e] at h;cases h
 | some j=>
  rw[e] at h;obtain⟨h1,h2,h3,h4⟩:=CS e;exact⟨j,h1,h,h2,h3,h4⟩
def pO (b:Expr):Prop:=∀o i,subscripted b false o i=operate [o,i] (getItem o i)
def FI (X:Cx) (r:R2):Prop:=
 ∀(value slice:Expr) (pins:AAD) (s:Shared) (σ:St) (H:Hp) (x y:V) (v u:Value) (Q:VK),Inv X pins σ H s->RelV x v->RelV y u->r x y H Q->
  subscripted slice false v u=operate [v,u] (getItem v u)->wpAny (model X.prog X.w) X.A (subscriptTail value slice v u) (EP X pins σ Q) X.xe s
def Nl (X:Cx) (id:String) (r:V->List V->Hp->VK->Prop):Prop:=
 ∀(pins:AAD) (s:Shared) (σ:St) (H:Hp) (x:V) (xs:List V) (v:Value) (us:AAI) (Q:VK),Inv X pins σ H s->RelV x v->Vals xs us->r x xs H Q->
  wpAny (model X.prog X.w) X.A (call (.builtin id) (v :: us)) (EP X pins σ Q) X.xe s
section
variable {X:Cx}{a b:Expr}{ta tb:TE}{pos:Pos}
def FI.or {r r':R2}(h:FI X r) (h':FI X r'):FI X (fun x y H Q=>r x y H Q\/r' x y H Q):=by
 intro value slice pins s σ H x y v u Q I rx ry q hs;rcases q with q | q
 ·exact h value slice pins s σ H x y v u Q I rx ry q hs
 ·exact h' value slice pins s σ H x y v u Q I rx ry q hs
def Ad {r:R2}(hr:FI X r) (ha:PE X a ta) (hb:PE X b tb) (hs:pO b):PE X (.Subscript a b pos) (LB r ta tb):=by
 intro pins s σ H Q I h;exact Subscript_ (LD ha hb I h fun v u s2 x y H2 I2 rx ry q=>hr a b pins s2 σ H2 x y v u Q I2 rx ry q (hs _ _))
def OG (K:AAA):R2:=fun x y H Q=>∃p xs i v,x= .ref p/\y= .int i/\oz K H p xs/\dj xs i=some v/\Q v H
def OH (K:AAA):R2:=fun x y H Q=>∃p xs i v,x= .ref p/\y= .int i/\Bq K H p xs/\dj xs i=some v/\Q v H
def OI:R2:=fun x y H Q=>∃z i c,x= .str z/\y= .int i/\z.length<=sizeLine/\dj z.cps.toList i=some c/\Q (.str ⟨#[c]⟩) H
def CT:FI X (OG X.K):=by
 intro value slice pins s σ H x y v u Q I rx ry h hs;obtain⟨p,xs,i,z,rfl,rfl,hq,he,q⟩:=h;cases rx;obtain⟨t,rfl⟩:=ry;obtain⟨its,r,pl,hz⟩:=I.list hq;obtain⟨j,h1,h2,h3,h4,h5⟩:=yP he;obtain⟨w,ew,rw'⟩:=r.get h2;have hl:=r.length;have hn:=qJ;have fin:EP X pins σ Q w s:=⟨z,H,I,rw',q⟩
 by_cases h0:0<=i
 ·have hj:i.toNat=j:=by
   rw[seqIndex_of h0 h5] at h1;exact Ym h1
  exact item_listR pl.isList h0 (by lia) (by rw[hj];simpa using ew) fin hs
 ·have hj:(i+(its.toArray.size:Int)).toNat=j:=by
   rw[seqIndex_neg (by lia) h4] at h1;rw[XR,<-hl];exact Ym h1
  exact subscriptTail_builtinR (x:=w) pl.isList.typeIs slot_list_getitem.lookup
   (wpAny_getItem_list_neg (Q:=fun r s'=>r=w/\EP X pins σ Q r s') pl.isList (by lia) (by rw[XR] <;> lia) (by lia) (by rw[hj];simpa using ew) ⟨rfl,fin⟩) hs
def FJ:FI X (OH X.K):=by
 intro value slice pins s σ H x y v u Q I rx ry h hs;obtain⟨p,xs,i,z,rfl,rfl,hq,he,q⟩:=h;cases rx;obtain⟨t,rfl⟩:=ry;obtain⟨its,r,pl,hz⟩:=I.tuple hq;obtain⟨j,h1,h2,h3,h4,h5⟩:=yP he;obtain⟨w,ew,rw'⟩:=r.get h2;have hl:=r.length;have hn:=qJ;have fin:EP X pins σ Q w s:=⟨z,H,I,rw',q⟩
 exact subscriptTail_builtinR (x:=w) pl.typeIs slot_tuple_getitem.lookup
  (getItem_tuple (j:=j) (Q:=fun r s'=>r=w/\EP X pins σ Q r s') pl (by lia) (by lia) (by rw[XR,<-hl];exact h1) (by simpa using ew) ⟨rfl,fin⟩) hs
def FL:FI X OI:=by
 intro value slice pins s σ H x y v u Q I rx ry h hs;obtain⟨z,i,c,rfl,rfl,hz,he,q⟩:=h;obtain⟨t,rfl⟩:=rx;obtain⟨t',rfl⟩:=ry;obtain⟨j,h1,h2,h3,h4,h5⟩:=yP he;have hl:z.cps.toList.length=z.length:=by simp[Str.length]
 rw[hl] at h1 h4 h5;have hn:=qJ;exact tail_any (typeIs_str s z t) slot_str_getitem.lookup (getItem_str (c:=c) (by
  have e1:decide (i < -(2 ^ 63:Int))=false:=Yy (by lia);have e2:decide (i≥2 ^ 63)=false:=Yy (by lia);rw[e1,e2,aag]) (by rw[h1];simpa using h2) ⟨.str ⟨#[c]⟩,H,I.tok _,⟨_,rfl⟩,q⟩) hs
def VU (K:AAA):R2:=fun x y H Q=>OG K x y H Q\/OH K x y H Q\/OI x y H Q
def yQ:FI X (VU X.K):=CT.or (FJ.or FL)
def BB (its:AAI) (n j:Nat) (u:Value):Obj.mapSeq (·.setIfInBounds j u) {cls:=.type "list",data:=.seq its.toArray n}={cls:=.type "list",data:=.seq (its.set j u).toArray n}:=by
 simp[Obj.mapSeq]
def Inv.lst {pins:AAD}{σ:St}{H:Hp}{s:Shared}{p:Addr}{xs:List V}(I:Inv X pins σ H s) (h:H p=some (.lst xs)):
  ∃(its:AAI) (n:Nat),Vals xs its/\s.heap.get? p=some {cls:=.type "list",data:=.seq its.toArray n}/\xs.length<=sizeLine:=by
 obtain⟨z,its,n,r,e⟩:=I.hok p _ h;exact⟨its,n,r,e,z⟩
def Inv.LU {σ:St}{H:Hp}{s:Shared}{p:Addr}{ys:List V}{n':Nat}{f:Obj->Obj}(I:Inv X pins σ H s) (h:H p=some (.lst xs))
  (ho:s.heap.get? p=some {cls:=.type "list",data:=.seq its.toArray n}) (hf:f {cls:=.type "list",data:=.seq its.toArray n}={cls:=.type "list",data:=.seq its'.toArray n'}) (r:Vals ys its') (hz:ys.length<=sizeLine) (t:Nat):
  Inv X pins σ (upd H p (.lst ys)) {s with heap:=s.heap.update p f,toks:=t}:=by
 have e:(s.heap.update p f).get? p=some {cls:=.type "list",data:=.seq its'.toArray n'}:=by
  rw[YX f ho (by rw[hf] <;> rfl),hf]
 refine I.write (x:=p) (e:=p) (by rw[h];trivial) (.inl rfl) (fun b u hb q=>(Ys _ _ (Y4 hb)).trans q) ⟨_,e⟩ ?_;exact⟨hz,its',n',r,e⟩
def OJ:V->V->V->Hp->(Hp->Prop)->Prop:=fun o i v H Q=>∃p xs k j,o= .ref p/\i= .int k/\H p=some (.lst xs)/\yO xs.length k=some j/\Q (upd H p (.lst (xs.set j v)))
def set_list:Oe X OJ:=by
 intro pins s σ H o i v ov iv u Q I ro ri rv h;obtain⟨p,xs,k,j,rfl,rfl,hp,hj,q⟩:=h;cases ro;obtain⟨t,rfl⟩:=ri;obtain⟨its,n,r,ho,hz⟩:=I.lst hp;obtain⟨h1,h2,h3,h4⟩:=CS hj;have hl:=r.length;have hn:=qJ;have I':Inv X pins σ (upd H p (.lst (xs.set j v))) {s with heap:=s.heap.update p (Obj.mapSeq (·.setIfInBounds j u))}:=
  I.LU hp ho (BB its n j u) (r.set rv j) (by rw[YU];exact hz) s.toks
 by_cases h0:0<=k
 ·have hk:k.toNat=j:=by
   rw[seqIndex_of h0 h4] at h1;exact Ym h1
  exact PySem.W.ki_setAt ho h0 (by lia) (by rw[XR,<-hl];exact h4) (by rw[hk];exact⟨_,I',q⟩)
 ·have hk:(k+(its.toArray.size:Int)).toNat=j:=by
   rw[seqIndex_neg (by lia) h3] at h1;rw[XR,<-hl];exact Ym h1
  exact PySem.W.ki_setBack ho (by lia) (by rw[XR,<-hl];exact h3) (by lia) (by rw[hk];exact⟨_,I',q⟩)
def yR (lo hi:BBM) (n:Nat):(sliceBounds lo hi none n).1=((HT.eu n 0 lo:Nat):Int)/\(sliceBounds lo hi none n).2.1=((HT.eu n n hi:Nat):Int)/\(sliceBounds lo hi none n).2.2=1:=by
 refine⟨?_,?_,rfl⟩
 ·cases lo with
  | none=>simp[sliceBounds,HT.eu]
  | some i=>
   simp only[sliceBounds,HT.eu,Option.getD_none,show(1:Int) > 0 by decide,if_true];by_cases h:i < 0
   ·simp only[h,if_true] <;> lia
   ·simp only[h,Zl] <;> lia
 ·cases hi with
  | none=>simp[sliceBounds,HT.eu]
  | some i=>
   simp only[sliceBounds,HT.eu,Option.getD_none,show(1:Int) > 0 by decide,if_true];by_cases h:i < 0
   ·simp only[h,if_true] <;> lia
   ·simp only[h,Zl] <;> lia
def wC (its:AAI) (lo hi:BBM):slicePick its.toArray lo hi none=((its.drop (HT.eu its.length 0 lo)).take (HT.eu its.length its.length hi - HT.eu its.length 0 lo)).toArray:=by
 obtain⟨h1,h2,h3⟩:=yR lo hi its.toArray.size;unfold slicePick;rw[h1,h2,h3];simp only[sliceRange_one,pick_run,XR] <;> rfl
def RS (K:AAA):V->BBM->BBM->Hp->VK->Prop:=fun x lo hi H Q=>∃a xs,x= .ref a/\oz K H a xs/\∀p,H p=none->Q (.ref p) (upd H p (.lst (wB xs lo hi)))
def CU:OE X (RS X.K):=by
 intro pins s σ H x v vl vu lo hi sl Q I rx hs pl pu h;obtain⟨a,xs,rfl,hx,q⟩:=h;cases rx;obtain⟨its,r,ht,hz⟩:=I.list hx;have hlen:=r.length;refine⟨"list",_,slot_list_getitem.lookup,ht.isList.typeIs,?_⟩;refine wpAny_getItem_list_slice ht.isList hs pl pu .none (by simp) ?_ (by rw[XR] <;> lia);rw[wC,<-hlen];refine⟨.ref s.heap.objs.size,_,I.laid (t':=s.toks) (o:=.lst (wB xs lo hi)) (fun b ob q=>XS _ q) (XW _) ?_,rfl,q _ (I.hok.fresh (XW _))⟩;exact⟨X7 (sH xs lo hi) hz,_,0,(r.drop (HT.eu xs.length 0 lo)).take (HT.eu xs.length xs.length hi - HT.eu xs.length 0 lo),X6 _ rfl⟩
def kF:jX X (.builtin "len") (fun xs H Q=>∃p ys,xs=[.ref p]/\(oz X.K H p ys\/Bq X.K H p ys)/\Q (.int ys.length) H):=by
 intro pins s σ H xs us Q I r h;obtain⟨p,ys,rfl,hq,q⟩:=h;obtain⟨u,rfl,rx⟩:=vals1 r;cases rx;have hn:=qJ;rcases hq with hq | hq
 ·obtain⟨its,r',pl,hz⟩:=I.list hq;have hlen:=r'.length;exact Calls.call_len_list pl.isList (by simp only[XR] <;> lia) ⟨.int ys.length,H,I.tok _,⟨s.toks+1,by rw[XR,hlen]⟩,q⟩
 ·obtain⟨its,r',pl,hz⟩:=I.tuple hq;have hlen:=r'.length;exact len_tuple pl (by simp only[XR] <;> lia) ⟨.int ys.length,H,I.tok _,⟨s.toks+1,by rw[XR,hlen]⟩,q⟩
def pP:jX X (.builtin "len") (fun xs H Q=>∃z,xs=[.str z]/\z.length<=sizeLine/\Q (.int z.length) H):=by
 intro pins s σ H xs us Q I r h;obtain⟨z,rfl,hz,q⟩:=h;obtain⟨u,rfl,t,rfl⟩:=vals1 r;have hn:=qJ;exact len_str (by lia) ⟨.int z.length,H,I.tok _,⟨_,rfl⟩,q⟩
def RU (K:AAA) (T:String) (x:V) (H:Hp):Prop:=match x with
 | .str _=>T="str"
 | .int _=>T="int"
 | .ref p=>(T="list"/\∃xs,oz K H p xs)\/(T="tuple"/\∃o,K.lookup p=some o/\o.cls= .type "tuple"/\o.dict=none)\/
   (T="dict"/\((∃kvs,H p=some (.dK kvs))\/∃kvs,H p=some (.dT kvs)))\/(T="set"/\∃S n,H p=some (.set S n))
 | _=>False
def FN {σ:St}{H:Hp}{s:Shared}{T:String}{x:V}{v:Value}(I:Inv X pins σ H s) (r:RelV x v) (ty:RU X.K T x H):
  s.TypeIs v T/\∀a,v= .ref a->∃ob,s.heap.get? a=some ob/\ob.dict=none:=by
 cases x with
 | str z=>
  obtain⟨t,rfl⟩:=r;cases(show T="str" from ty);exact⟨typeIs_str s z t,fun _ e=>nomatch e⟩
 | int i=>
  obtain⟨t,rfl⟩:=r;cases(show T="int" from ty);exact⟨typeIs_int s i t,fun _ e=>nomatch e⟩
 | ref p=>
  cases r;rcases ty with⟨rfl,xs,hq⟩ | ⟨rfl,o,hk,hc,hd⟩ | ⟨rfl,hk⟩ | ⟨rfl,S,n,hk⟩
  ·obtain⟨its,_,pl,_⟩:=I.list hq;refine⟨pl.isList.typeIs,fun a e=>?_⟩;cases e;obtain⟨o,n,e,c,hd,_⟩:=pl;exact⟨o,e,hd⟩
  ·refine⟨⟨o,I.Bp p o hk,hc⟩,fun a e=>?_⟩;cases e;exact⟨o,I.Bp _ o hk,hd⟩
  ·have z:∃o,s.heap.get? p=some o/\o.ExactDict:=by
    rcases hk with⟨kvs,hk⟩ | ⟨kvs,hk⟩
    ·obtain⟨_,_,_,_,o,_,_,e,ex,_⟩:=I.hok p _ hk;exact⟨o,e,ex⟩
    ·obtain⟨_,_,_,_,o,_,_,e,ex,_⟩:=I.hok p _ hk;exact⟨o,e,ex⟩
   obtain⟨o,e,ex⟩:=z;refine⟨⟨o,e,ex.1⟩,fun a e2=>?_⟩;cases e2;exact⟨o,e,ex.2.1⟩
  ·obtain⟨o,_,_,_,e,ex,_⟩:=I.hok p _ hk;refine⟨⟨o,e,ex.1⟩,fun a e2=>?_⟩;cases e2;exact⟨o,e,ex.2.1⟩
 | _=>exact False.elim ty
def RV (K:AAA) (T:String) (r:V->List V->Hp->VK->Prop) (to:TE):TE:=fun σ H Q=>to σ H fun x H1=>RU K T x H1/\r x [] H1 Q
def VW (K:AAA) (T:String) (r:V->List V->Hp->VK->Prop) (to:TE) (t:TA):TE:=fun σ H Q=>to σ H fun x H1=>RU K T x H1/\t σ H1 fun xs H2=>r x xs H2 Q
variable {o e:Expr}{es:BBC}{to:TE}{t:TA}{name:Str}{apos cpos:Pos}{T id:String}{r:V->List V->Hp->VK->Prop}
def LV (pa:PlainAttrs T) (slot:Slot T name id) (hty:typeOf (.builtin id)=pure (.type "method_descriptor")) (hm:Nl X id r) (ho:PE X o to)
  (hbase:attributeBase o name X.env (eval o X.env)=eval o X.env:=by rfl) (hline:(apos.endLine == cpos.line)=true:=by rfl):PE X (.Call (.Attribute o name apos) [] [] cpos) (RV X.K T r to):=by
 intro pins s σ H Q I h;refine wpAny_Call_method0_late hbase hline (dw (ho pins s σ H _ I h) fun v s1 hh=>?_);obtain⟨x,H1,I1,r1,ty,q1⟩:=hh;obtain⟨h1,h2⟩:=FN I1 r1 ty;exact⟨T,id,pa,slot,hty,h1,h2,Zd rfl (PySem.evalArgs_none (hm pins s1 σ H1 x [] v [] Q I1 r1 .nil q1))⟩
def KS (pa:PlainAttrs T) (slot:Slot T name id) (hty:typeOf (.builtin id)=pure (.type "method_descriptor")) (hm:Nl X id r) (ho:PE X o to) (ha:PA X (e :: es) t)
  (hbase:attributeBase o name X.env (eval o X.env)=eval o X.env:=by rfl)
  (hfew:((backTo cpos (starEach (e :: es) X.env)).all (fun x=>!x.1) && (backToKw cpos (keywordEach [] X.env)).all (fun x=>x.1.isSome)
   && decide ((e :: es).length+([]:BBI).length+(if([]:BBI).isEmpty then 0 else 1) < 30))=true:=by rfl)
  (hline:(apos.endLine == cpos.line)=true:=by rfl) (hs:starEach (e :: es) X.env=(false,eval e X.env) :: starEach es X.env:=by rfl) (hplain:(backTo cpos (starEach es X.env)).any (·.1)=false:=by rfl):
  PE X (.Call (.Attribute o name apos) (e :: es) [] cpos) (VW X.K T r to t):=by
 intro pins s σ H Q I h;refine wpAny_Call_method_late hbase hfew hline rfl (dw (ho pins s σ H _ I h) fun v s1 hh=>?_);obtain⟨x,H1,I1,r1,ty,q1⟩:=hh;obtain⟨h1,h2⟩:=FN I1 r1 ty;refine⟨T,id,pa,slot,hty,h1,h2,?_⟩;have hA:=ha cpos pins s1 σ H1 _ I1 q1;rw[hs] at hA ⊢;refine Zd (by show(false || (backTo cpos (starEach es X.env)).any (·.1))=false;rw[hplain] <;> rfl) (ZJ ?_);exact dw hA fun us s2 ⟨vs,H2,I2,r2,q2⟩=>hm pins s2 σ H2 x vs v us Q I2 r1 r2 q2
end
def RW (X:Cx) (id:String) (r:V->List V->Hp->VK->Prop):Prop:=
 ∀(pins:AAD) (s:Shared) (σ:St) (H:Hp) (x:V) (xs:List V) (v:Value) (us:AAI) (Q:VK),Inv X pins σ H s->RelV x v->Vals xs us->r x xs H Q->
  wpAny (model X.prog X.w) X.A (call (.builtin id) (v :: us)) (EP X pins σ Q) X.xe s
theorem Vals.one:∀{x:V}{us:AAI},Vals [x] us->∃u,us=[u]/\RelV x u
 | _,_,.cons r .nil=>⟨_,rfl,r⟩
theorem Vals.zero:∀{us:AAI},Vals [] us->us=[]
 | _,.nil=>rfl
def Vals.dropLast {xs:List V}{us:AAI}(h:Vals xs us):Vals xs.dropLast us.dropLast:=by
 induction h with
 | nil=>exact .nil
 | cons r t ih=>
  cases t with
  | nil=>exact .nil
  | cons q t'=>exact .cons r ih
def BC {α:Type}(l:List α):l.eraseIdx (l.length - 1)=l.dropLast:=by
 induction l with
 | nil=>rfl
 | cons a r ih=>
  cases r with
  | nil=>rfl
  | cons b r=>
   have e:(a :: b :: r).length - 1=((b :: r).length - 1)+1:=by
    have h1:(a :: b :: r).length=r.length+2:=rfl;have h2:(b :: r).length=r.length+1:=rfl;lia
   rw[e,List.eraseIdx_cons_succ,ih]
   all_goals rfl
section
variable {X:Cx}{pins:AAD}{σ:St}{H:Hp}{s:Shared}{l:Addr}{xs ys:List V}
def Inv.IF {f:Array Value->Array Value}{t':Nat}(I:Inv X pins σ H s) (hH:H l=some (.lst xs))
  (e:s.heap.get? l=some {cls:=.type "list",data:=.seq its.toArray n}) (hf:f its.toArray=its'.toArray) (hv:Vals ys its') (hz:ys.length<=sizeLine):
  Inv X pins σ (upd H l (.lst ys)) {s with heap:=s.heap.update l (Obj.mapSeq f),toks:=t'}:=by
 have q:=PySem.IsL.update e f;rw[hf] at q;refine I.write (x:=l) (e:=l) (by rw[hH];exact trivial) (.inl rfl) (fun b' u hb hu=>(Ys s.heap (Obj.mapSeq f) (Y4 hb)).trans hu) ⟨_,q⟩ ?_;exact⟨hz,its',_,hv,q⟩
def Inv.RX {t':Nat}(I:Inv X pins σ H s) (hv:Vals ys its) (hz:ys.length<=sizeLine):
  Inv X pins σ (upd H s.heap.objs.size (.lst ys)) {s with heap:=s.heap.push {cls:=.type "list",data:=.seq its.toArray},toks:=t'}:=
 I.laid (fun _ _ q=>XS _ q) (XW _) ⟨hz,its,0,hv,X6 _ rfl⟩
def Inv.fresh (I:Inv X pins σ H s):H s.heap.objs.size=none:=I.hok.fresh (XW _)
def Inv.Ae (I:Inv X pins σ H s) (hH:H l=some (.lst xs)):xs.length<=sizeLine/\∃(its:AAI) (n:Nat),Vals xs its/\xs.length=its.length/\s.heap.get? l=some {cls:=.type "list",data:=.seq its.toArray n}:=by
 obtain⟨z,its,n,r,e⟩:=I.hok l _ hH;exact⟨z,its,n,r,r.length,e⟩
def FO (h:n<=sizeLine):Builtin.List.listTooLong n=false:=by
 unfold Builtin.List.listTooLong;exact Yy (by lia)
end
section
variable {X:Cx}
def CV:V->List V->Hp->VK->Prop:=fun x vs H Q=>∃l xs y,x= .ref l/\vs=[y]/\H l=some (.lst xs)/\xs.length < sizeLine/\Q .bN (upd H l (.lst (xs++[y])))
def iJ:RW X "list.append" CV:=by
 intro pins s σ H x vs v us Q I rx rv h;obtain⟨l,xs,y,rfl,rfl,hH,hz,q⟩:=h;cases rx;obtain⟨u,rfl,ru⟩:=rv.one;obtain⟨z,its,n,r,hl,e⟩:=I.Ae hH;refine call_meets F.slot_list_append ⟨_,e,rfl⟩ F.entry_list_append (F.args_list_append_2 _ _) (PySem.list_append l its.toArray n u (by rw[XR];lia)) ⟨e,?_⟩;refine⟨.bN,_,I.IF (its':=its++[u]) hH e (by simp) (r.append (.cons ru .nil)) ?_,rfl,q⟩;rw[X4,Zi];lia
def OL:V->List V->Hp->VK->Prop:=fun x vs H Q=>∃l xs y,x= .ref l/\vs=[]/\H l=some (.lst xs)/\xs[xs.length - 1]? =some y/\Q y (upd H l (.lst xs.dropLast))
def LW:RW X "list.pop" OL:=by
 intro pins s σ H x vs v us Q I rx rv h;obtain⟨l,xs,y,rfl,rfl,hH,hy,q⟩:=h;cases rx;have RY:=rv.zero;subst RY;obtain⟨z,its,n,r,hl,e⟩:=I.Ae hH;obtain⟨u,hu,ru⟩:=r.get hy;have hy':its.toArray[its.toArray.size - 1]? =some u:=by
  show its.toArray[its.length - 1]? =some u;rw[<-YE,<-hl];exact hu
 refine call_meets F.slot_list_pop ⟨_,e,rfl⟩ F.entry_list_pop (F.args_list_pop_1 _) (MeetsSeq.list_pop_last l its.toArray n u hy' (by rw[XR];lia)) ⟨e,?_⟩;refine⟨y,_,I.IF (its':=its.dropLast) hH e ?_ r.dropLast ?_,ru,q⟩
 ·show its.toArray.eraseIdxIfInBounds (its.toArray.size - 1)=its.dropLast.toArray;rw[XR,List.eraseIdxIfInBounds_toArray,BC]
 ·rw[List.length_dropLast];lia
end
end L2
namespace U4
open PySem PySem.W PySem.Calls PyProof.Rows
def tR {P:Params}{h:Heap}:∀(ns:BBD) (vs:AAI),WellAll P h vs (ns.map WData.int)->IntsAre vs ns:=by
 intro ns
 induction ns with
 | nil=>
  intro vs w;rw[Ye] at w;cases w;exact .nil
 | cons n ns ih=>
  intro vs w;rw[Yd] at w;cases w with
  | cons a b=>
   cases a;exact .cons _ _ (ih _ b)
def DL {l:OpenLaw}{n:Nat}(hn:l.most=some n){P:Params}{h:Heap}{args:List WData}{vals:AAI}
  (hpre:l.row.toRowW.claim.pre args=true) (hwl:WellAll P h vals args):
  ∃a vs ns,vals=[Value.ref a]/\args=[WData.list (ns.map WData.int)]/\h.get? a=some {cls:=.type "list",data:=.seq vs.toArray}/\IntsAre vs ns/\ns.length<=n:=by
 have hsh:WShape.hasAll [] args [.list .int]=true:=(pre_splitW hpre).1;have hc:l.pre.holds [] {args:=args}=true:=(pre_splitW hpre).2;obtain⟨d,r,rfl,h1,h2⟩:=hasAllW_cons hsh;obtain rfl:=hasAllW_nil h2;obtain⟨xs,rfl,h3⟩:=hasW_list h1;obtain⟨ns,rfl⟩:=items_int h3;have hlen:ns.length<=n:=by
  unfold OpenLaw.pre at hc;have h4:(WTm.not (.lt (.lit (.int (n:Int))) (.len (.arg 0)))).holds [] {args:=[.list (ns.map .int)]}=true:=by
   have h4:=(holds_andW hc).1;rw[hn] at h4;exact h4
  have h5:=condW_of h4 (w_not (w_lt w_lit (w_len_list (w_arg rfl))));rw[X3] at h5;refine Nat.le_of_not_lt fun q=>?_;have q':(n:Int) < ((ns.length:Nat):Int):=by lia
  first
   | (rw[Zp q'] at h5;exact absurd h5 (by decide))
   | (simp at h5;lia)
 cases hwl with
 | cons w1 w2=>
  cases w2;cases w1 with
  | list ho hall=>exact⟨_,_,ns,rfl,rfl,ho,tR ns _ hall,hlen⟩
def DM (l:OpenLaw) (args:List WData):l.row.toRowW.claim.post args (.bool true) args=true:=
 postW_of (r:=l.row.toRowW) (X:=(true == true))
  (show WShape.has [] (.bool true) .bool=true by first | rfl | decide | simp[WShape.has,WShape.arms,WShape.armsAll])
  (show(WTm.eq .res (.lit (.bool true))).value [] {args:=args,res:=some (.bool true),after:=args}=some (.bool (true == true)) from w_eq_bool (w_res rfl) w_lit) rfl
def Af {l:OpenLaw}{n:Nat}{q:Program}{loose:BBB}{XP:(Str->BBP)->Heap->Prop}{YP:World->Heap->Prop}{d:DefRec}
  (hn:l.most=some n) (hdf:d.params.defaults=[])
  (call:∀(w:World) (s₀ s₁:Shared) (mg mb:AAC) (fa:Addr) (o:Obj) (pm cd doc:Value) (a:Addr) (vs:AAI) (ns:BBD),
   Ground q loose [] XP w s₀ mg mb s₁.heap->YP w s₁.heap->
   s₁.heap.get? fa=some o->o.data= .func (docDef d.name d.params d.body d.scope pm cd doc)->s₁.heap.CodeRec cd d.name->mg d.name=some (.ref fa)->
   s₁.heap.get? a=some {cls:=.type "list",data:=.seq vs.toArray}->IntsAre vs ns->ns.length<=n->s₁.gens=#[]->
   codeAny (model l.prog w) callerA (.call (.ref fa) ⟨[.ref a],[]⟩) (fun r s'=>r= .ok (.ret (.bool true))/\OldK s₁.heap s'.heap/\s'.os=s₁.os/\AllBare s'.gens) s₁):
  WalkO q loose XP YP l.row.toRowW d [] (fun f vs=>PySem.call f vs):=by
 intro w s₀ s₁ mg mb G Y fa o pm cd doc dV kV ho hd hcd hD hmg hg args vals as hpre hlay hrd hwl hlo;obtain rfl:dV= .none:=Dflts.none hD hdf;obtain rfl:kV= .none:=Dflts.noKw hD;obtain⟨a,vs,ns,rfl,rfl,hobj,hints,hlen⟩:=DL hn hpre hwl;refine enter_call (ZR (call w s₀ s₁ mg mb fa o pm cd doc a vs ns G Y ho (fd_plain hd) hcd hmg hobj hints hlen hg) fun r s' hq=>?_);obtain⟨rfl,h2,h3,h4⟩:=hq;exact⟨.inl ⟨.bool true,.bool true,[],rfl,fun _=>rfl,.bool true,DM l _,fun _=>⟨List.Pairwise.nil,fun _ hm=>(nomatch hm)⟩⟩,h2,h3,h4⟩
end U4
namespace L2
open PySem PySem.Spec PyProof.Rows
variable {P:Program}{w:World}{K:AAA}{k:Nat}{fd:FuncData}{x qual:Str}{X:Cx}{st:Stmt}{ps cH:BBB}{H:Hp}{tc:TT}{pins:AAD}{σ:St}{cap:BBJ}{scope:Scope}{cl:List (Str×Addr)}{elt iter:Expr}{ifs:BBC}{pos pos2 px:Pos}{wi:TI}{te:TE}{use:Option (Value->Sem Unit)}{Qf:AAB}
theorem xC:∀{vs:AAI}{ns:BBD},IntsAre vs ns->Vals (ns.map V.int) vs
 | _,_,.nil=>.nil
 | _,_,.cons n t h=>.cons ⟨t,rfl⟩ (xC h)
def IG (H:Hp):Prop:=∀b,H b=none\/∃o xs,H b=some (.iw o (.lst xs))
def FP {mg mb:AAC}{CX:EZ}{fa a:Addr}{sp:Sp}{s₁:Shared}{vs:AAI}{ns:BBD}
  (KX:K.In s₁.heap) (hns:s₁.heap.Ns mainGlobals mg) (hb:s₁.heap.Ns builtinsNs mb) (VX:∀x:Str,x≠"__name__"->mb x=bootBuiltins x) (hlim:s₁.heap.NoLimit) (hg:s₁.gens=#[])
  (ha:s₁.heap.get? a=some {cls:=.type "list",data:=.seq vs.toArray}) (hi:IntsAre vs ns) (hl:ns.length<=sizeLine) (hr:fU k callerA)
  (F:∀base:Heap,K.In base->base.Ns mainGlobals mg->jx P w K mg base CX k fa fd [x] sp) (hbind:∀(s:Shared) (u:Value),BindsTo s fd ⟨[u],[]⟩ [(x,u)])
  (KP:∀H:Hp,IG H->oz K H a (ns.map V.int)->sp [.ref a] H (fun v _=>v= .bl true) fun _ _ _=>False)
  (RZ:∀H e s',CX [] H s₁ (fun _ _ _=>False) e s'->False):
  codeAny (model P w) callerA (.call (.ref fa) ⟨[.ref a],[]⟩) (fun r s'=>r= .ok (.ret (.bool true))/\OldK s₁.heap s'.heap/\s'.os=s₁.os/\AllBare s'.gens) s₁:=by
 have rv:=xC hi;have lenV:=hi.length;have core:∀H:Hp,IG H->oz K H a (ns.map V.int)->lX P w H s₁.heap->(∀b,H b≠none->b=a)->(H a≠none->K.lookup a=none)->
   codeAny (model P w) callerA (.call (.ref fa) ⟨[.ref a],[]⟩) (fun r s'=>r= .ok (.ret (.bool true))/\OldK s₁.heap s'.heap/\s'.os=s₁.os/\AllBare s'.gens) s₁:=by
  intro H hO hS hok hA hK;have CW:∀{b:Addr}{o:Obj},s₁.heap.get? b=some o->H b=none->(yI s₁.heap H).get? b=some o:=fun e n=>Fd e n;have Ov:∀{b:Addr}{o:Obj}{es:Array DictEntry}{ep:Nat},s₁.heap.get? b=some o->o.data= .dict es ep->H b=none:=fun {b o es ep} e d=>by
   cases q:H b with
   | none=>rfl
   | some u=>
    have e':b=a:=hA b (by rw[q];simp);subst e';rw[ha] at e;cases e;have d':Data.seq vs.toArray _=Data.dict es ep:=d;cases d'
  have Qo:∀{b:Addr}{m:AAC},s₁.heap.Ns b m->(yI s₁.heap H).Ns b m:=fun {b m} ⟨o,es,ep,e,d,r⟩=>⟨o,es,ep,CW e (Ov e d),d,r⟩
  have U5:K.In (yI s₁.heap H):=fun b o e=>CW (KX b o e) (by
   cases q:H b with
   | none=>rfl
   | some u=>
    have e':b=a:=hA b (by rw[q];simp);subst e';rw[hK (by rw[q];simp)] at e;cases e)
  have hM:Mod K mg (yI s₁.heap H):=⟨U5,Qo hns,⟨mb,Qo hb,VX⟩,let⟨mc,h1,h2⟩:=hlim;⟨mc,Qo h1,h2⟩⟩
  have e0:Ir P w K mg (yI s₁.heap H) callerA [] s₁ H:=⟨rfl,hM,fun b o e=>Ie e,Nat.le_of_eq (Dz _ _),trivial,fun b hb=>absurd (show b∈([]:BBE) from hb) (by simp),hok,.of_eq hg⟩
  refine ZR ((F _ U5 (Qo hns)).run callerA [] s₁ H ⟨[.ref a],[]⟩ [.ref a] [.ref a] _ _ hr e0 (hbind s₁ (.ref a)) (.cons rfl .nil) (KP H hO hS)) fun r s' h=>?_;cases r with
  | error e=>exact(RZ H e s' h).elim
  | ok fl=>
   cases fl with
   | next=>exact False.elim h
   | brk=>exact False.elim h
   | cont=>exact False.elim h
   | ret u=>
    obtain⟨v,H',os,bare,un,R5,r',q⟩:=h;have q':v= .bl true:=q;subst q';obtain rfl:u=Value.bool true:=r';refine⟨rfl,OldK.of_keep fun b o e=>?_,os,bare⟩;cases q:H b with
    | none=>exact un.keep b o e q (by intro z;exact absurd (show b∈([]:BBE) from z) (by simp)) (by simp)
    | some u=>
     rcases hO b with z | ⟨ob,xs,z⟩
     ·rw[q] at z;cases z
     ·have z2:=un.wj b ob _ z;obtain⟨e1,_⟩:=hok b _ z;obtain⟨e2,_⟩:=R5 b _ z2;rw[e] at e1;cases e1;exact e2
 cases hk:K.lookup a with
 | some o=>
  have e:=KX a o hk;rw[ha] at e;cases e;refine core (fun _=>none) (fun _=>.inl rfl) (.inr ⟨_,vs.toArray,_,hk,rfl,rfl,rfl,by rw[XR,lenV];exact hl,by simpa using rv⟩) (fun b u z=>by have z':(none:Option HO)=some u:=z;cases z') (fun b z=>absurd rfl z) fun z=>absurd rfl z
 | none=>
  refine core (fun b=>if b=a then some (.iw {cls:=.type "list",data:=.seq vs.toArray} (.lst (ns.map V.int))) else none) (fun b=>?_) (.inl (.inr ⟨{cls:=.type "list",data:=.seq vs.toArray},if_pos rfl⟩)) (fun b u z=>?_) (fun b z=>?_) fun _=>hk
  ·by_cases hb:b=a
   ·exact .inr ⟨_,_,if_pos hb⟩
   ·exact .inl (if_neg hb)
  ·by_cases hb:b=a
   ·have z':=(if_pos hb).symm.trans z;cases z';subst hb;exact⟨ha,by rw[X3];exact hl,vs,_,rv,ha⟩
   ·have z':=(if_neg hb).symm.trans z;cases z'
  ·by_cases hb:b=a
   ·exact hb
   ·exact absurd (if_neg hb) z
noncomputable abbrev Xp {K:AAA}{h:Heap}(_:K.In h):PySem.W.Frag:=K
def II {l:PySem.W.OpenLaw}{n:Nat}{q:Program}{loose:BBB}{XP:(Str->BBP)->Heap->Prop}{YP:World->Heap->Prop}{d:DefRec}{K:Params->PySem.W.Frag}{CX:World->EZ}{sp:World->Sp}
  (hn:l.most=some n) (hn2:n<=sizeLine) (hdf:d.params.defaults=[]) (hr:fU k callerA)
  (hY:∀(w:World) (h:Heap),YP w h->(K w.params).In h)
  (F:∀(w:World) (mg:AAC) (fa:Addr) (h:Heap),(K w.params).In h->h.Ns mainGlobals mg->mg d.name=some (.ref fa)->
   ∃fd:FuncData,(∀(s:Shared) (u:Value),BindsTo s fd ⟨[u],[]⟩ [(x,u)])/\
    ∀base:Heap,(K w.params).In base->base.Ns mainGlobals mg->jx l.prog w (K w.params) mg base (CX w) k fa fd [x] (sp w))
  (KP:∀(w:World) (H:Hp) (a:Addr) (ns:BBD),ns.length<=n->IG H->oz (K w.params) H a (ns.map V.int)->sp w [.ref a] H (fun v _=>v= .bl true) fun _ _ _=>False)
  (RZ:∀(w:World) (H:Hp) (s:Shared) (e:Value) (s':Shared),CX w [] H s (fun _ _ _=>False) e s'->False):
  PySem.W.WalkO q loose XP YP l.row.toRowW d [] (fun f vs=>PySem.call f vs):=by
 refine U4.Af hn hdf fun w s₀ s₁ mg mb fa o pm cd doc a vs ns G Y ho hd hcd hmg hobj hints hlen hg=>?_;have KX:=hY w _ Y;obtain⟨fd,hb,hF⟩:=F w mg fa _ KX G.T.g hmg;exact FP KX G.T.g G.T.b G.T.builtins G.T.nolimit hg hobj hints (X7 hlen hn2) hr hF hb (fun H hO hS=>KP w H a ns hlen hO hS) fun H e s'=>RZ w H s₁ e s'
noncomputable def nA (s:Stmt):Arguments:=match s with
 | .FunctionDef _ a _ _ _ _ _ _ _ _=>a
 | _=>{posonlyargs:=[],args:=[],vararg:=none,kwonlyargs:=[],kw_defaults:=[],kwarg:=none,defaults:=[]}
noncomputable def fX (s:Stmt):BBH:=match s with
 | .FunctionDef _ _ b _ _ _ _ _ _ _=>b
 | _=>[]
noncomputable def aL (s:Stmt):Scope:=match s with
 | .FunctionDef _ _ _ _ _ _ sc _ _ _=>sc
 | _=>{kind:=.function,names:=[],isGenerator:=false,isCoroutine:=false}
noncomputable abbrev xD:EZ:=fun _ _ _ _ _ _=>False
noncomputable abbrev E0:XK:=fun _ _ _=>False
def FQ :Passes xD X E0:=fun _ _ _ _ _ _ _ h=>h.elim
structure IJ (K:AAA) (x qual:Str) (st:Stmt) (f:Addr) (fd:FuncData):Prop where
 ex:∃(oc:Value) (od:BBN) (kV doc pm:Value) (an:BBN) (cdv ct:Value) (osl:Array (BBP)),
  fd=PySem.W.fnOf x qual (nA st) (fX st) (aL st) .none kV doc pm an cdv ct/\K.lookup f=some ⟨oc,od,.func fd,osl⟩/\PySem.W.codeIn K cdv qual=true
 kp:PySem.W.keepIn K (.ref f)=true
section
variable {P:Program}{w:World}{K:AAA}{mg:AAC}{base:Heap}
def IJ.ok {f:Addr}{N:BBB}{sp:Sp}(F:IJ K x qual st f fd) (S:bg N ps (aL st)) (len:∀vs H Q E,sp vs H Q E->vs.length=ps.length)
  (hbody:∀(cdv:Value) (A:Around) (outer:BBF) (s:Shared) (H:Hp) (vs:List V) (Q:VK) (E:XK),fU k (A.deeper (envOfC qual (aL st) s.heap.objs.size f cdv))->sp vs H Q E->
   ∃t,xq (wA xD P w K mg base N qual (aL st) f cdv A outer s H E).KN (fX st) t/\t {nx:=fun _ H'=>Q .bN H',rt:=Q} (start N vs) H):jx P w K mg base xD (k+1) f fd ps sp:=by
 obtain⟨oc,od,kV,doc,pm,an,cdv,ct,osl,rfl,lk,hcd⟩:=F.ex;refine Ow lk hcd S len fun A outer s H vs Q E hr KP=>?_;obtain⟨t,h,q⟩:=hbody cdv A outer s H vs Q E hr KP;exact⟨t,h.KN,q⟩
def IJ.binds {f:Addr}(F:IJ K x qual st f fd)
  (h:∀(kV doc pm:Value) (an:BBN) (cdv ct:Value) (us:AAI),us.length=ps.length->bindArgs (PySem.W.fnOf x qual (nA st) (fX st) (aL st) .none kV doc pm an cdv ct) ⟨us,[]⟩=pure (ps.zip us)):Binds K fd ps []:=by
 obtain⟨oc,od,kV,doc,pm,an,cdv,ct,osl,rfl,lk,hcd⟩:=F.ex;exact .all (h kV doc pm an cdv ct)
def LX {f:Addr}{oc:Value}{od an:BBN}{osl:Array (BBP)}{kV doc pm cdv ct:Value}(l:K.lookup f=some ⟨oc,od,.func (PySem.W.fnOf x qual (nA st) (fX st) (aL st) .none kV doc pm an cdv ct),osl⟩)
  (c:PySem.W.codeIn K cdv qual=true) (k:PySem.W.keepIn K (.ref f)=true):IJ K x qual st f (PySem.W.fnOf x qual (nA st) (fX st) (aL st) .none kV doc pm an cdv ct):=⟨⟨oc,od,kV,doc,pm,an,cdv,ct,osl,rfl,l,c⟩,k⟩
end
def uG {A:Around}(hr:fU k A):A.units+20 < cLine:=Zf (Nat.add_le_add_left (by decide:20<=64) _) hr.units
section
variable {X:Cx}
def DN:jX X (.builtin "len") (fun xs H Q=>∃a kvs,xs=[V.ref a]/\H a=some (.dK kvs)/\Q (.int kvs.length) H):=by
 intro pins s σ H xs us Q I r h;obtain⟨a,kvs,rfl,ha,q⟩:=h;obtain⟨u,rfl,ru⟩:=vals1 r;cases ru;exact Ox I (.inl ha) fun t s' I'=>⟨.int kvs.length,H,I',⟨t,rfl⟩,q⟩
end
def BD {A B:Prop}(h:B):if false=true then A else B:=by
 rw[if_neg aaL];exact h
def BE {A B:Prop}(h:A):if true=true then A else B:=by
 rw[if_pos rfl];exact h
def lX.OM {h:Heap}{a:Addr}{o:HO}(x:lX P w H h) (hn:H a=none) (new:fq P w (upd H a o) h a o):lX P w (upd H a o) h:=fun b u e=>by
 by_cases hb:b=a
 ·subst hb;rw[aX] at e;cases e;exact new
 ·rw[aW hb] at e;exact(x b u e).stay (fun c v _ q=>q) (fun c q=>by rw[aW (bz q hn)];exact q) fun c xs q=>by rw[aW (bz q hn)];exact q
noncomputable def gC (X:Cx) (N':BBB) (scope:Scope) (cl:List (Str×Addr)) (C:Addr) (s:Shared) (H:Hp) (fp:BBE):Cx:=
 {X with N:=N',s₀:=s,H₀:=H,env:=compEnvC scope cl C X.env,outer:=X.stack,stack:=X.stack,ex:=fp,fn:=fun _=>false,pn:=[],xe:=fun _ _=>False}
noncomputable def iT (cap:BBJ) (σ:St):St:=cap.map fun i=>(σ[i]?).join
structure fY (X:Cx) (x:Str) (cH:BBB) (cap:BBJ) (scope:Scope) (cl:List (Str×Addr)):Prop where
 clos:closureFor scope X.env=pure cl
 iU:∀y∈scope.names,y.2≠.cell
 kind:scope.kind= .function
 names:∀y∈scope.names,y.2= .local->scope.names.lookup y.1=some .local
 loc:scope.names.lookup x=some .local
 cells:∀n c,cl.lookup n=some c->X.env.cells.lookup n=some c
 has:∀n,((relabel scope X.env).names.lookup n=some .cell\/(relabel scope X.env).names.lookup n=some .free)->∃c,cl.lookup n=some c
 nd:(x :: cH).Nodup
 len:cap.length=cH.length
 slot:∀(j:Nat) n,cH[j]? =some n->∃i:Nat,cap[j]? =some i/\X.N[i]? =some n/\wm X.env.scope n
 vis:∀n,n∈cH->((relabel scope X.env).names.lookup n=some .cell\/(relabel scope X.env).names.lookup n=some .free)/\(∃c,cl.lookup n=some c)/\X.env.scope.names.lookup n≠some .local
def R6 (wi:TI) (cap:BBJ) (tc:TT) (te:TE):TE:=fun σ H Q=>wi σ H fun J H1=>∃W:Nat->Nat->List V->Hp->Prop,(∃m,W 0 m [] H1)/\∀i m ys H,W i m ys H->ys.length < sizeLine/\
  ((J.stop i H/\∀p,H p=none->Q (.ref p) (upd H p (.lst ys)))\/
   (J.go i H/\∀x H',J.Of i H x H'->tc (some x :: iT cap σ) H' fun b H2=>if b=true then te (some x :: iT cap σ) H2 fun y H3=>∃m',m' < m/\W (i+1) m' (ys++[y]) H3 else ∃m',m' < m/\W (i+1) m' ys H2))
def R7:TT:=fun _ H Q=>Q true H
def LY (X:Cx) (ifs:BBC) (tc:TT):Prop:=
 ∀(pins:AAD) (s:Shared) (σ:St) (H:Hp) (Q:Bool->Hp->Prop),Inv X pins σ H s->tc σ H Q->
  wpAny (model X.prog X.w) X.A (forIn ifs true fun c r=>if r=true then do let ok <-isTrue c X.env (eval c X.env);pure (ForInStep.yield ok) else pure (ForInStep.yield r)) (TP X pins σ Q) X.xe s
def IK :LY X [] R7:=fun pins s σ H Q I h=>wpAny_tests_nil ⟨H,I,h⟩
def IL {c:Expr}(h:PT X c tc):LY X [c] tc:=fun pins s σ H Q I q=>wpAny_tests_one (h pins s σ H Q I q)
def LZ (ys:AAI) (y:Value):({cls:=.type "list",data:=.seq (ys.toArray.push y) (ys.length+1)}:Obj)={cls:=.type "list",data:=.seq (ys++[y]).toArray (ys++[y]).length}:=by
 rw[X4,Zi,List.push_toArray]
def FT {s s4:Shared}{C:Addr}{fp:BBE}{m':AAC}
  (I:Inv X pins σ H s) (T:fY X x cH cap scope cl) (hfp:∀b∈fp,qI X pins H b) (hfo:∀b∈fp,∃o,s.heap.get? b=some o)
  (hC:s.heap.objs.size<=C) (hns:s4.heap.Ns C m') (hos:s4.os=s.os) (hg:s4.gens=s.gens)
  (kept:∀b o,s.heap.get? b=some o->s4.heap.get? b=some o):
  Inv (gC X (x :: cH) scope cl C s H fp) [] (none :: iT cap σ) H s4:=by
 have fr:∀b,s.heap.objs.size<=b->H b=none:=fun b hb=>I.hok.fresh hb;refine⟨⟨I.ok.mod,T.kind,I.ok.glob,I.ok.blt,hC,fun y z c h1 h2=>I.ok.inj y z c (T.cells _ _ h1) (T.cells _ _ h2),fun y hy=>T.has y hy,fun y c h=>(by cases h),I.ok.hd,I.ok.frames,.inl rfl,fun b hb=>⟨?_,fun y c e z=>?_⟩,I.bs,X7 I.ok.KJ I.sz,fun b o e hb=>?_,fun b hb z=>?_,I.stack,I.CB⟩,
  hos,by rw[hg];exact I.bare,Un.kept kept,⟨m',hns,fun i y v h1 h2 h3=>?_⟩,fun y c h=>?_,fr C hC,fun y c h=>I.lY y c (T.cells _ _ h),fun p hp=>?_,I.hok.kept kept,?_⟩
 ·obtain⟨o,e⟩:=hfo b hb;exact Yj (X0 (XZ e) hC)
 ·exact(hfp b hb).2.2.2.2.1 y c (T.cells _ _ e) z
 ·rcases(hfp b hb).2.2.2.1 with z | z
  ·exact I.ok.Fe b o e z
  ·exact absurd (X0 (XZ e) (X7 I.ok.KJ z)) (YS _)
 ·rcases XT.mp (I.yJ b z) with q | q
  ·exact(hfp b hb).2.1 q
  ·exact(hfp b hb).2.2.1 q
 ·cases i with
  | zero=>cases h2
  | succ j=>
   have h1:cH[j]? =some y:=by simpa[gC] using h1
   have h2:(iT cap σ)[j]? =some (some v):=by simpa using h2
   obtain⟨i,e1,e2,e3⟩:=T.slot j y h1;have e4:σ[i]? =some (some v):=by
    unfold iT at h2;rw[Yl,e1] at h2;have h2:some ((σ[i]?).join)=some (some v):=h2;have h2:=Ym h2;cases q:σ[i]? with
    | none=>rw[q] at h2;cases h2
    | some o=>rw[q] at h2;cases h2;rfl
   obtain⟨m,hn,hl⟩:=I.loc;obtain⟨u,r,l⟩:=hl i y v e2 e4 e3;obtain⟨k1,⟨c,hc⟩,k3⟩:=T.vis y (Yn h1);refine⟨u,r,.inr ⟨k1,c,hc,?_⟩⟩;rcases l with⟨hk,_⟩ | ⟨hk,c',hc',z⟩
   ·exact absurd hk k3
   ·rw[T.cells _ _ hc] at hc';cases hc';obtain⟨o,ho,hd⟩:=z;exact⟨o,kept _ _ ho,hd⟩
 ·obtain⟨v,o,ho,hd⟩:=I.cell y c (T.cells _ _ h);exact⟨v,o,kept _ _ ho,hd⟩
 ·exact absurd (show p∈([]:AAD) from hp) (by simp)
 ·show(none :: iT cap σ).length=(x :: cH).length;simp[iT,T.len]
def qK (P:Program) (w:World) (A:Around) (env:Env) (R:Result->Shared->Prop):Value->Shared->Prop:=notedBy (model P w) A env fun e s'=>R (.error e) s'
theorem yS {A:Around}{R:Result->Shared->Prop}{s:Shared}{tg:Expr}{it acc:Value}{env:Env}(J:Nat->Shared->Prop)
  (turn:∀n s,J n s->wpAny (model P w) A (pyNext it) (fun r s1=>match r with
   | none=>R (.ok .next) s1
   | some v=>wpAny (model P w) A (letOwnedTupleGo tg it v) (fun _ s1=>wpAny (model P w) A (assign tg env v) (fun _ s2=>
     wpAny (model P w) A (forIn ifs true fun c r=>if r=true then do let ok <-isTrue c env (eval c env);pure (ForInStep.yield ok) else pure (ForInStep.yield r)) (fun ok s3=>
      if ok=true then wpAny (model P w) A (eval elt env) (fun x s4=>wpAny (model P w) A (call (.builtin "list.append") [acc,x]) (fun _ s5=>∃m,m < n/\J m s5) (qK P w A env R) s4) (qK P w A env R) s3
      else ∃m,m < n/\J m s3) (qK P w A env R) s2) (qK P w A env R) s1) (qK P w A env R) s1) (qK P w A env R) s)
  (n:Nat) (h:J n s):codeAny (model P w) A (.compLoop (.ListComp elt [⟨tg,iter,ifs,0⟩] scope pos) 0 it acc env) R s:=by
 refine codeAny_loop rfl J (fun n s hJ=>?_) n h;show wpAny _ A ((compTurn (.ListComp elt [⟨tg,iter,ifs,0⟩] scope pos) 0 it acc env).onRaise (fun x=>do noteFrame x env;theTreesLotGoes x)) _ _ s;refine wpAny_noted ?_;rw[compTurn_list];refine XQ (wpAny_standAt (XQ (YC (turn n s hJ) (fun r s1 k1=>?_) fun _ _ z=>z)));cases r with
 | none=>exact wpAny_pure k1
 | some v=>
  refine XQ (YC k1 (fun _ s1 k1=>?_) fun _ _ z=>z);refine XQ (YC k1 (fun _ s2 k2=>XQ (YC k2 (fun ok s3 k3=>?_) fun _ _ z=>z)) fun _ _ z=>z);cases ok with
  | false=>exact wpAny_pure ⟨rfl,k3⟩
  | true=>exact XQ (XQ (YC k3 (fun x s4 k4=>XQ (YC k4 (fun _ s5 k5=>wpAny_pure (wpAny_pure ⟨rfl,k5⟩)) fun _ _ z=>z)) fun _ _ z=>z))
inductive CompI (Y:Cx) (Z:St->Prop) (tn:Nat->Heap->Prop) (fp:BBE) (D:Addr) (W:Nat->Nat->List V->Hp->Prop) (n:Nat) (s':Shared):Prop
 | mk (i:Nat) (ys:List V) (us:AAI) (H':Hp) (z:St) (hz:Z z) (I:Inv Y [] z H' s') (st:tn i s'.heap) (fr:∀b∈fp,H' b=none) (d:H' D=none) (a:s'.heap.get? D=some {cls:=.type "list",data:=.seq us.toArray us.length}) (v:Vals ys us) (w:W i n ys H')
def Ag {tg:Expr}{N:BBB}{s:Shared}{z0:St}{Q:VK}{Z:St->Prop}{pt:V->Hp->St->Prop}{R:It->Hp->Prop}
    (T:fY X x cH cap scope cl) (hc:X.calm=true) (hi:PI X tg iter wi)
    (ht:∀C s H fp,LY (gC X N scope cl C s H fp) ifs tc) (he:∀C s H fp,PE (gC X N scope cl C s H fp) elt te)
    (hs:∀x,foldedSetIterable iter X.env x=pure x) (I:Inv X pins σ H s) (h:wi σ H R)
    (hR:∀J H1,R J H1->∃W:Nat->Nat->List V->Hp->Prop,(∃m,W 0 m [] H1)/\∀i m ys H,W i m ys H->ys.length < sizeLine/\
      ((J.stop i H/\∀p,H p=none->Q (.ref p) (upd H p (.lst ys)))\/
       (J.go i H/\∀x H',J.Of i H x H'->∃z,pt x H' z/\tc z H' fun b H2=>if b=true then te z H2 fun y H3=>∃m',m' < m/\W (i+1) m' (ys++[y]) H3 else ∃m',m' < m/\W (i+1) m' ys H2)))
    (hZ:Z z0) (hI:∀{s s4:Shared}{H:Hp}{C:Addr}{fp:BBE}{m':AAC},Inv X pins σ H s->(∀b∈fp,qI X pins H b)->(∀b∈fp,∃o,s.heap.get? b=some o)->s.heap.objs.size<=C->s4.heap.Ns C m'->s4.os=s.os->s4.gens=s.gens->(∀b o,s.heap.get? b=some o->s4.heap.get? b=some o)->Inv (gC X N scope cl C s H fp) [] z0 H s4)
    (hG:∀{Y:Cx}{C:Addr}{z z':St}{xv:V}{H:Hp},Y.N=N->Y.env=compEnvC scope cl C X.env->Y.K=X.K->Y.calm=true->Z z->pt xv H z'->Z z'/\∃g,PG Y tg g/\g xv z H fun σ' H'=>σ'=z'/\H'=H)
    (hend:∀(D C:Addr) (s7:Shared) (H6:Hp) (ys:List V),Inv X pins σ (upd H6 D (.lst ys)) s7->(∃m,s7.heap.Ns C m)->qI X pins (upd H6 D (.lst ys)) C->Q (.ref D) (upd H6 D (.lst ys))->compPost (model X.prog X.w) X.A X.xe use Qf (.ref D) C (.ok .next) s7):
    wpAny (model X.prog X.w) X.A (comprehension (.ListComp elt [⟨tg,iter,ifs,0⟩] scope pos) scope X.env pos2 (newList []) false (eval iter X.env) use) Qf X.xe s:=by
  refine wpAny_comprehension_free (use:=use) rfl hs T.clos T.kind T.names (dw (hi pins s σ H _ I h) fun v s1 h1=>dw h1 fun itv s2 h2=>YA fun ng=>?_);obtain⟨it,fp,tn,J,H2,rfl,I2,IM,st2,f2,hJ⟩:=h2;obtain⟨W,⟨m0,w0⟩,turn⟩:=hR J H2 hJ;refine ng (Yw (wpAny_newFunctionEnv T.iU (by intro y hy;simp at hy) (fun h4 IP FU=>?_) T.kind));clear ng;dsimp only at IP FU ⊢;generalize R8:s2.heap.push {cls:=.type "list",dict:=none,data:=.seq ([]:AAI).toArray}=H3 at IP FU ⊢;have eC:H3.objs.size=s2.heap.objs.size+1:=by rw[<-R8,ZY]
  generalize Xq:H3.objs.size=C at eC IP FU ⊢;generalize eD:s2.heap.objs.size=D at eC ⊢;have ON:C=D+1:=eC;have hDC:D≠C:=by rw[ON];exact Yj (aai D)
  have hC:s2.heap.objs.size<=C:=by rw[eD,ON];exact aaG D
  have hD:s2.heap.objs.size<=D:=by rw[eD];exact XW D
  have kept:∀b o,s2.heap.get? b=some o->h4.get? b=some o:=fun b o e=>FU.extBut b o (Yj (X0 (XZ e) hC)) (XS _ (R8▸XS _ e));have hacc:h4.get? D=some {cls:=.type "list",data:=.seq ([]:AAI).toArray ([]:AAI).length}:=FU.extBut _ _ hDC (XS _ (R8▸eD▸X6 _ rfl));have U6:∀b∈fp,∃o,s2.heap.get? b=some o:=fun b hb=>let⟨o,e,_⟩:=IM.obj _ _ st2 b hb;⟨o,e⟩
  have hDf:D∉fp:=fun hb=>by
    obtain⟨o,e⟩:=U6 D hb;exact absurd (X0 (XZ e) hD) (YS _)
  have U7:tn 0 h4:=IM.keep _ _ _ st2 fun b _ o e=>kept b o e;have key:∀s5:Shared,s5={s2 with heap:=h4,toks:=s2.toks+([]:List (Str×Value)).length}->
      codeAny (model X.prog X.w) X.A (.compLoop (.ListComp elt [⟨tg,iter,ifs,0⟩] scope pos) 0 (.ref it) (.ref D) (compEnvC scope cl C X.env)) (compPost (model X.prog X.w) X.A X.xe use Qf (.ref D) C) s5:=by
    rintro s5 rfl;have I4:Inv (gC X N scope cl C s2 H2 fp) [] z0 H2 {s2 with heap:=h4,toks:=s2.toks+([]:List (Str×Value)).length}:=
      hI (s4:={s2 with heap:=h4,toks:=s2.toks+([]:List (Str×Value)).length}) I2 f2 U6 hC IP rfl rfl kept
    generalize hY:gC X N scope cl C s2 H2 fp=Y at I4;have fD:∀{H':Hp},H' D=none->qI Y [] H' D:=fun {H'} hn=>by
      subst hY;refine⟨hn,hDC,fun z=>(XT.mp (I2.yJ D z)).elim (fun q=>absurd (X0 (q▸I2.lt) hD) (YS _)) fun q=>I2.N2 hD q,.inr hD,fun y c e z=>?_,fun p hp=>absurd (show p∈([]:AAD) from hp) (by simp)⟩;obtain⟨v,q⟩:=I2.cell y c (T.cells _ _ e);exact absurd (X0 q.lt (by rw[z];exact hD)) (YS _)
    have R9:fp=Y.ex:=hY▸rfl;have VY:Y.pn++([]:AAD)=[]:=hY▸rfl;have fF:∀{H':Hp},(∀b∈fp,H' b=none)->∀b∈fp,qI Y [] H' b:=fun {H'} hn b hb=>by
      have q:=I4.ok.Rt b (R9▸hb);exact⟨hn b hb,fun z=>q.1 z,I4.ok.Ff b (R9▸hb),.inl (R9▸hb),fun y c e z=>q.2 y c e z,fun p hp=>absurd (VY▸hp) (by simp)⟩
    have eA:Y.A=X.A:=hY▸rfl;have eP:Y.prog=X.prog:=hY▸rfl;have eW:Y.w=X.w:=hY▸rfl;have eK:Y.K=X.K:=hY▸rfl;have eE:Y.env=compEnvC scope cl C X.env:=hY▸rfl;have eX:Y.xe=fun _ _=>False:=hY▸rfl;have eN:Y.N=N:=hY▸rfl;have Sd:Y.calm=true:=hY▸hc;have VZ:LY Y ifs tc:=hY▸ht _ _ _ _;have V0:PE Y elt te:=hY▸he _ _ _ _;have BF:∀(E':AAB) (e:Value) (s':Shared),Y.xe e s'->E' e s':=fun E' e s' z=>by rw[eX] at z;exact z.elim
    refine yS (CompI Y Z tn fp D W) ?_ m0
      ⟨0,[],[],H2,z0,hZ,I4,U7,fun b hb=>(f2 b hb).1,I2.hok.fresh hD,hacc,.nil,w0⟩
    rintro n s6 ⟨i,ys,us,H6,z6,V1,I6,U8,U9,d6,a6,v6,w6⟩;refine YA fun ng=>?_;have V2:us.length=ys.length:=v6.length.symm;obtain⟨hz,FW⟩:=turn i n ys H6 w6;have Se:∀{H':Hp},(∀b∈fp,H' b=none)->∀b∈fp,qI Y ([]++oA [D] s6.heap) H' b:=fun {H'} hn b hb=>by
      obtain⟨f0,f1,V3,f3,f4,f5⟩:=fF hn b hb;refine⟨f0,f1,V3,f3,f4,fun p hp z=>?_⟩;rcases Yb.mp hp with q' | q'
      . exact f5 p (Zo _ q') z
      . rcases Yb.mp q' with q' | q'
        . exact absurd q' (by simp)
        . have:=(xr q').1
          rw[XU.mp this] at z;exact hDf (z▸hb)
    rcases FW with⟨stop,qn⟩ | ⟨go,step⟩
    . have Sg:=I6.pinned (fp:=[D]) (fun b hb=>by rw[XU.mp hb];exact fD d6) (fun b hb=>by rw[XU.mp hb];exact⟨_,a6,fun v z=>by cases z⟩)
      have q:=IM.done Y eP eW eK Sd i _ s6 z6 H6 (notedBy (model X.prog X.w) X.A (compEnvC scope cl C X.env) fun e s'=>compPost (model X.prog X.w) X.A X.xe use Qf (.ref D) C (.error e) s') Sg (Se U9) U8 stop;rw[eA] at q;refine ng (dw q fun r s7 hh=>?_);obtain⟨hr,I7⟩:=hh;subst hr;have a7:s7.heap.get? D=_:=(I7.pin (D,{cls:=.type "list",data:=.seq us.toArray us.length}) (Yg _ (Yg _ (fJ (XU.mpr rfl) a6)))).1;obtain⟨m7,Qp,_⟩:=I7.loc;rw[eE] at Qp;have OO:H6 D=none:=d6;have V4:H6 C=none:=by have:=I7.free;rw[eE] at this;exact this
      have Sh:lX X.prog X.w H6 s7.heap:=by have q:=I7.hok;rw[eP,eW] at q;exact q
      have new:fq X.prog X.w (upd H6 D (.lst ys)) s7.heap D (.lst ys):=⟨Zr hz,us,us.length,v6,a7⟩
      have u7:Un (frs X.stack) fp H2 H6 s2.heap s7.heap:=by have:=I7.base;rw[<-hY] at this;exact this
      have V5:∀b o,s2.heap.get? b=some o->b≠D:=fun b o e=>Yj (X0 (XZ e) hD);have u8:Un (frs X.stack) fp H2 (upd H6 D (.lst ys)) s2.heap s7.heap:=
        ⟨u7.keep,u7.slot,fun b o e n hx=>by rw[aW (V5 b o e)];exact u7.free b o e n hx,u7.there,
         fun b xs e=>by have z:=u7.tups b xs e;rw[aW (bz z OO)];exact z,fun b o u e=>by have z:=u7.wj b o u e;rw[aW (bz z OO)];exact z,
         fun b ps e=>by obtain⟨more,z⟩:=u7.yH b ps e;exact⟨more,by rw[aW (bz z OO)];exact z⟩⟩
      have V6:s7.os=s2.os:=by have:=I7.os;rw[<-hY] at this;exact this
      have I9:Inv X pins σ (upd H6 D (.lst ys)) s7:=I2.N6 (ch:=fp) V6 u8 (Sh.OM OO new) I7.bare fun b hb=>⟨(f2 b hb).2.2.2.1,(f2 b hb).2.1,(f2 b hb).2.2.2.2.1,(f2 b hb).2.2.2.2.2⟩
      exact hend D C s7 H6 ys I9 ⟨m7,Qp⟩ (I2.Fp hC (by rw[aW (Y4 hDC)];exact V4)) (qn D OO)
    . have Sg:=I6.pinned (fp:=[D]) (fun b hb=>by rw[XU.mp hb];exact fD d6) (fun b hb=>by rw[XU.mp hb];exact⟨_,a6,fun v z=>by cases z⟩)
      have q:=IM.item Y eP eW eK Sd i _ s6 z6 H6 (notedBy (model X.prog X.w) X.A (compEnvC scope cl C X.env) fun e s'=>compPost (model X.prog X.w) X.A X.xe use Qf (.ref D) C (.error e) s') Sg (Se U9) U8 go;rw[eA] at q;refine ng (dw q fun r Xr hh=>YA fun ng=>?_);obtain⟨u,hr,h7⟩:=hh;subst hr;refine ng (dw h7 fun _ s7 hh=>YA fun ng=>?_);obtain⟨xv,H8,I8,r8,y8,Si,V7⟩:=hh;have V8:=I8.pinned (Se V7) (IM.obj _ _ Si);obtain⟨z8,p8,stp⟩:=step xv _ y8;obtain⟨Va,g,V9,gx⟩:=hG eN eE eK Sd V1 p8;have qa:=V9 _ s7 z6 H8 xv u (fun σ' H'=>σ'=z8/\H'=H8) V8 r8 gx;rw[eP,eW,eA,eE] at qa;refine ng (YC qa (fun _ s9 h9=>YA fun ng=>?_) (BF _));obtain⟨OP,H9,I9,e9,Wa⟩:=h9;subst e9 Wa;have qt:=VZ _ s9 _ _ _ I9 stp;rw[eP,eW,eA,eE] at qt;refine ng (YC qt (fun ok Wb h10=>?_) (BF _));obtain⟨Wc,Vb,Qq⟩:=h10;have back:∀{s':Shared}{H':Hp},Inv Y (([]++oA [D] s6.heap)++oA fp s7.heap) OP H' s'->Inv Y [] OP H' s'/\tn (i+1) s'.heap/\(∀b∈fp,H' b=none)/\H' D=none/\s'.heap.get? D=some {cls:=.type "list",data:=.seq us.toArray us.length}:=fun {s' H'} J=>by
        refine⟨J.l5.l5,IM.keep _ _ _ Si fun b hb o e=>(J.pin (b,o) (Yg _ (Yg _ (fJ hb e)))).1,fun b hb=>?_,?_,?_⟩
        . obtain⟨o,e,d⟩:=IM.obj _ _ Si b hb
          exact(J.pin (b,o) (Yg _ (Yg _ (fJ hb e)))).2.1
        . exact(J.pin (D,_) (Yg _ (Zo _ (Yg _ (fJ (XU.mpr rfl) a6))))).2.1
        . exact(J.pin (D,_) (Yg _ (Zo _ (Yg _ (fJ (XU.mpr rfl) a6))))).1
      cases ok with
      | false=>
        rw[if_neg (by decide)] at Qq ⊢;obtain⟨m',hm,We⟩:=Qq;obtain⟨b1,b2,b3,b4,b5⟩:=back Vb;exact⟨m',hm,i+1,ys,us,Wc,OP,Va,b1,b2,b3,b4,b5,v6,We⟩
      | true=>
        rw[if_pos rfl] at Qq ⊢;have qe:=V0 _ Wb _ _ _ Vb Qq;rw[eP,eW,eA,eE] at qe;refine YC qe (fun y Sj h11=>?_) (BF _);obtain⟨yv,Vc,Wf,Wg,m',hm,Wh⟩:=h11;obtain⟨b1,b2,b3,b4,b5⟩:=back Wf;refine append_at (hsz:=by rw[XR,V2];exact Zr hz) b5 fun h12 Sk Sl=>?_;have Vd:∀b o,b≠D->Sj.heap.get? b=some o->h12.get? b=some o:=fun b o hb e=>Sk.extBut b o hb e;obtain⟨g0,g1,g2,g3,g4,g5⟩:=fD b4;have Wi:Inv Y [] OP Vc {Sj with heap:=h12}:=b1.turned (t':=Sj.toks) Vd g0 g1 g3 g4 g5;refine⟨m',hm,i+1,ys++[yv],us++[y],Vc,OP,Va,Wi,IM.keep _ _ _ b2 fun b hb o e=>Vd b o (fun z=>hDf (z▸hb)) e,b3,b4,Sl.trans (congrArg some (LZ us y)),v6.append (.cons Wg .nil),Wh⟩
  exact codeAny_compStart_list (key _ rfl) (IM.self _ 0 _ _ _ U7 (key _ rfl))
def BG {s:Shared}{Q:VK}
  (T:fY X x cH cap scope cl) (hc:X.calm=true) (hi:PI X (.Name x px) iter wi)
  (ht:∀C s H fp,LY (gC X (x :: cH) scope cl C s H fp) ifs tc) (he:∀C s H fp,PE (gC X (x :: cH) scope cl C s H fp) elt te)
  (hs:∀x,foldedSetIterable iter X.env x=pure x) (I:Inv X pins σ H s) (h:R6 wi cap tc te σ H Q)
  (hend:∀(D C:Addr) (s7:Shared) (H6:Hp) (ys:List V),Inv X pins σ (upd H6 D (.lst ys)) s7->(∃m,s7.heap.Ns C m)->qI X pins (upd H6 D (.lst ys)) C->Q (.ref D) (upd H6 D (.lst ys))->compPost (model X.prog X.w) X.A X.xe use Qf (.ref D) C (.ok .next) s7):
  wpAny (model X.prog X.w) X.A (comprehension (.ListComp elt [⟨.Name x px,iter,ifs,0⟩] scope pos) scope X.env pos2 (newList []) false (eval iter X.env) use) Qf X.xe s:=
 Ag (N:=x :: cH) (z0:=none :: iT cap σ) (Z:=fun z=>∃o,z=o :: iT cap σ) (pt:=fun v _ z=>z=some v :: iT cap σ) T hc hi ht he hs I h
  (fun J H1 ⟨W,w0,t⟩=>⟨W,w0,fun i m ys H w=>⟨(t i m ys H w).1,(t i m ys H w).2.imp id fun⟨g,k⟩=>⟨g,fun v H' y=>⟨_,rfl,k v H' y⟩⟩⟩⟩) ⟨none,rfl⟩ (fun I2=>FT I2 T)
  (by
   rintro Y C _ _ xv H eN eE _ _ ⟨o,rfl⟩ rfl;exact⟨⟨_,rfl⟩,CD 0,CF (by rw[eN];exact T.nd) (by rw[eN];rfl) (by rw[eE];exact .inl (lookup_relabel_local T.loc)) (.inr (by rw[eE];exact lookup_relabel_local T.loc)),rfl,rfl⟩) hend
def FY 
  (T:fY X x cH cap scope cl) (hc:X.calm=true) (hi:PI X (.Name x px) iter wi)
  (ht:∀C s H fp,LY (gC X (x :: cH) scope cl C s H fp) ifs tc) (he:∀C s H fp,PE (gC X (x :: cH) scope cl C s H fp) elt te)
  (hs:∀x,foldedSetIterable iter X.env x=pure x:=by intro _;rfl):
  PE X (.ListComp elt [⟨.Name x px,iter,ifs,0⟩] scope pos) (R6 wi cap tc te):=by
 intro pins s σ H Q I h;rw[eval_ListComp];refine BG T hc hi ht he hs I h ?_;rintro p C s7 H6 ys I9 ⟨m7,Qp⟩ ⟨g0,g1,g2,g3,g4,g5⟩ q;exact⟨m7,Qp,fun h' hs'=>⟨.ref p,_,I9.turned (t':=s7.toks) (fun b o hb e=>hs'.extBut b o hb e) g0 g1 g3 g4 g5,rfl,q⟩⟩
noncomputable def we (z:Str):It:=⟨fun i _=>i < z.cps.size,fun i H x H'=>H'=H/\∃c,z.cps[i]? =some c/\x= .str ⟨#[c]⟩,fun i _=>z.cps.size<=i⟩
def FZ (z:Str) (it:Addr) (t:Tok) (ty:String) (hW:∀A':Around,A'.handled=none->Walks P w A' it [it] [it] z.cps.size (SignAt z) fun i h=>h.IsStrIter it ty z t i)
  (hself:∀(A:Around) (i:Nat) (s:Shared) (Q:AAB) (E:AAB),s.heap.IsStrIter it ty z t i->Q (.ref it) s->wpAny (model P w) A (pyIter (.ref it)) Q E s):
  Turn P w K (.Name x px) (we z) [it] it (fun i h=>i<=z.cps.size/\h.IsStrIter it ty z t i) where
 mem:=by simp
 obj:=fun i h st b hb=>by
  obtain rfl:b=it:=by simpa using hb
  obtain⟨o,e,c,d⟩:=st.2;exact⟨o,e,fun v q=>by rw[d] at q;cases q⟩
 keep:=fun i h h' st k=>by
  obtain⟨o,e,r⟩:=st.2;exact⟨st.1,o,k it (by simp) o e,r⟩
 item:=by
  intro X hP hw hK hc i pins s σ H E I hf st hg;subst hP hw hK;obtain⟨f0,f1,f2,f3,f4,f5⟩:=hf it (by simp);refine(hW X.A (I.ok.hd hc)).item i s _ _ hg st.2 fun v h' tk hv st' kk=>?_;obtain⟨c,u,hc',rfl⟩:=hv;exact⟨_,rfl,wpAny_pure ⟨.str ⟨#[c]⟩,H,I.turned (fun b o hb e=>kk b o (by simpa using hb) e) f0 f1 f3 f4 f5,⟨u,rfl⟩,⟨rfl,c,hc',rfl⟩,⟨hg,st'⟩,fun b hb=>(hf b hb).1⟩⟩
 done:=by
  intro X hP hw hK hc i pins s σ H E I hf st hg;subst hP hw hK;obtain⟨f0,f1,f2,f3,f4,f5⟩:=hf it (by simp);obtain⟨s1,s2⟩:=st;have e:i=z.cps.size:=Nat.le_antisymm s1 hg;subst e;exact(hW X.A (I.ok.hd hc)).done s _ _ s2 fun h' tk kk=>⟨rfl,I.turned (fun b o hb e=>kk b o (by simpa using hb) e) f0 f1 f3 f4 f5⟩
 self:=fun A i s Q E st h=>hself A i s Q E st.2 h
def So (tl:TE):TI:=fun σ H R=>tl σ H fun x H1=>∃z,x= .str z/\R (we z) H1
def L1 {l:Expr}{tl:TE}(hl:PE X l tl):PI X (.Name x px) l (So tl):=by
 intro pins s σ H R I h;refine dw (hl pins s σ H _ I h) fun v s1 hh=>?_;obtain⟨y,H1,I1,r1,q1⟩:=hh;obtain⟨z,rfl,q⟩:=q1;obtain⟨t,rfl⟩:=r1;refine wpAny_pyIter_strU ?_;have hst:∀ty,strIterType z=ty->(s1.heap.push {cls:=.type (strIterType z),data:=.fields #[.str z t,.int 0 0]}).IsStrIter s1.heap.objs.size ty z t 0:=fun ty e=>⟨_,X6 _ rfl,by rw[<-e],rfl⟩
 have go:∀ty,strIterType z=ty->(∀A':Around,A'.handled=none->Walks X.prog X.w A' s1.heap.objs.size [s1.heap.objs.size] [s1.heap.objs.size] z.cps.size (SignAt z) fun i h=>h.IsStrIter s1.heap.objs.size ty z t i)->
   (∀(A:Around) (i:Nat) (s:Shared) (Q:AAB) (E:AAB),s.heap.IsStrIter s1.heap.objs.size ty z t i->Q (.ref s1.heap.objs.size) s->wpAny (model X.prog X.w) A (pyIter (.ref s1.heap.objs.size)) Q E s)->
   RD X pins σ (.Name x px) R (.ref s1.heap.objs.size) {s1 with heap:=s1.heap.push {cls:=.type (strIterType z),data:=.fields #[.str z t,.int 0 0]}}:=fun ty e hW hself=>by
  refine⟨s1.heap.objs.size,[s1.heap.objs.size],_,_,H1,rfl,I1.kept (t':=s1.toks) fun b o e=>XS _ e,FZ z _ t ty hW hself,⟨YY _,hst ty e⟩,fun b hb=>?_,q⟩;obtain rfl:b=s1.heap.objs.size:=by simpa using hb
  exact I1.Fp (XW _) (I1.hok.fresh (XW _))
 cases ha:z.cps.all (· < 128)
 ·exact go "str_iterator" (by simp[strIterType,ha]) (fun A' hA=>Walks.strWide hA _ z t) fun A i s Q E st h=>wpAny_pyIter_striter_wide st h
 ·exact go "str_ascii_iterator" (by simp[strIterType,ha]) (fun A' hA=>Walks.strAscii hA _ z t) fun A i s Q E st h=>wpAny_pyIter_striter_ascii st h
def F5 {bs:List Bool}:∀{us:AAI},Vals (bs.map V.bl) us->us=bs.map Value.bool:=by
 induction bs with
 | nil=>intro us r;cases r;rfl
 | cons b bs ih=>
  intro us r;cases r with
  | cons r1 r2=>
   cases r1;rw[ih r2];rfl
def BH (bs:List Bool):((List.range bs.length).all fun i=>(bs[i]?).getD true)=bs.all id:=by
 rw[Bool.eq_iff_iff,Zu,Zu];constructor
 ·intro h b hb;obtain⟨i,hi,rfl⟩:=List.mem_iff_getElem.mp hb;have:=h i (ZX.mpr hi)
  simpa[hi] using this
 ·intro h i hi;have hi:=ZX.mp hi;simp only[Yh hi,aa0];exact h _ (aaj hi)
def DO (hc:X.calm=true):jX X (.builtin "all") (fun xs H Q=>∃(p:Addr) (bs:List Bool),xs=[.ref p]/\oz X.K H p (bs.map V.bl)/\Q (.bl (bs.all id)) H):=by
 intro pins s σ H xs us Q I r h;obtain⟨p,bs,rfl,hp,q⟩:=h;obtain⟨u,rfl,ru⟩:=vals1 r;cases ru;obtain⟨its,rv,pl,hz⟩:=I.list hp;obtain rfl:=F5 rv;have hlt:p < s.heap.objs.size:=by obtain⟨_,e,_⟩:=pl.isList;exact XZ e
 refine call_all_walk (aaR pl.isList ?_);refine⟨s.heap.objs.size,[s.heap.objs.size,p],[s.heap.objs.size],_,_,_,fun i=>(bs[i]?).getD true,rfl,Walks.list (A:=X.A.in1) (I.ok.hd hc) _ p (Yj hlt) _,
  ⟨⟨_,X6 _ rfl,rfl,rfl⟩,pl.isList.push _⟩,fun i v s' Q' E' hP hQ=>?_,fun h' tk hk=>?_⟩
 ·have hP:(bs.map Value.bool)[i]? =some v:=by simpa using hP
  rw[Yl] at hP;cases e:bs[i]? with
  | none=>rw[e] at hP;cases hP
  | some b=>
   rw[e] at hP;cases hP;simp only[e,aa0] at hQ;exact Y5 hQ
 ·have e:((List.range (bs.map Value.bool).toArray.size).all fun i=>(bs[i]?).getD true)=bs.all id:=by
   rw[XR,X3];exact BH bs
  rw[e];exact⟨.bl (bs.all id),H,I.kept (t':=tk) fun b o e=>hk b o (fun hm=>by rw[XU.mp hm] at e;exact YS _ (XZ e)) (XS _ e),rfl,q⟩
def Su:V->BBM->BBM->Hp->VK->Prop:=fun x lo hi H Q=>∃z,x= .str z/\z.length<=sizeLine/\((Txt.slice z lo hi).length<=z.length->Q (.str (Txt.slice z lo hi)) H)
def L3 :OE X Su:=by
 intro pins s σ H x v vl vu lo hi sl Q I rx hs pl pu h;obtain⟨z,rfl,hz,q⟩:=h;obtain⟨t,rfl⟩:=rx;have q:=q (aas z _ _);refine⟨"str",_,F.slot_str_getitem.lookup,typeIs_str _ _ _,?_⟩;cases pl with
 | none=>
  cases pu with
  | none=>exact Zx (l:=none) (u:=none) (st:=none) hs rfl (aat ⟨X7 (aas z _ _) hz,fun t' k=>⟨V.str (Txt.slice z none none),H,I.tok k,⟨t',rfl⟩,q⟩⟩)
  | int j u=>exact Zx (l:=none) (u:=some (j,u)) (st:=none) hs rfl (aat ⟨X7 (aas z _ _) hz,fun t' k=>⟨V.str (Txt.slice z none (some j)),H,I.tok k,⟨t',rfl⟩,q⟩⟩)
 | int i u'=>
  cases pu with
  | none=>exact Zx (l:=some (i,u')) (u:=none) (st:=none) hs rfl (aat ⟨X7 (aas z _ _) hz,fun t' k=>⟨V.str (Txt.slice z (some i) none),H,I.tok k,⟨t',rfl⟩,q⟩⟩)
  | int j u=>exact Zx (l:=some (i,u')) (u:=some (j,u)) (st:=none) hs rfl (aat ⟨X7 (aas z _ _) hz,fun t' k=>⟨V.str (Txt.slice z (some i) (some j)),H,I.tok k,⟨t',rfl⟩,q⟩⟩)
theorem bh.length {H:Hp}:∀{vs:List V}{ds:List D},bh H vs ds->vs.length=ds.length
 | _,_,.nil=>rfl
 | _,_,.cons _ rs=>congrArg Nat.succ (bh.length rs)
theorem bh.get {H:Hp}:∀{vs:List V}{ds:List D}{i:Nat}{d:D},bh H vs ds->ds[i]? =some d->∃v,vs[i]? =some v/\Rep H v d
 | _,_,_,_,.nil,e=>by simp at e
 | _,_,0,_,.cons r _,e=>by simp at e;subst e;exact⟨_,rfl,r⟩
 | _,_,i+1,_,.cons _ rs,e=>by
  obtain⟨v,h1,h2⟩:=bh.get (i:=i) rs (by simpa using e);exact⟨v,by simpa using h1,h2⟩
theorem bh.append {H:Hp}:∀{vs ws:List V}{ds es:List D},bh H vs ds->bh H ws es->bh H (vs++ws) (ds++es)
 | _,_,_,_,.nil,s=>s
 | _,_,_,_,.cons r rs,s=>.cons r (bh.append rs s)
theorem bh.take {H:Hp}:∀{vs:List V}{ds:List D}(n:Nat),bh H vs ds->bh H (vs.take n) (ds.take n)
 | _,_,0,_=>.nil
 | _,_,_+1,.nil=>.nil
 | _,_,n+1,.cons r rs=>.cons r (bh.take n rs)
theorem bh.drop {H:Hp}:∀{vs:List V}{ds:List D}(n:Nat),bh H vs ds->bh H (vs.drop n) (ds.drop n)
 | _,_,0,rs=>rs
 | _,_,_+1,.nil=>.nil
 | _,_,n+1,.cons _ rs=>bh.drop n rs
noncomputable def L4:D->String
 | .bN=>"NoneType" | .bl _=>"bool" | .int _=>"int" | .str _=>"str" | .tup _=>"tuple" | .lst _=>"list"
open PySem.W in
noncomputable def fV (T U:String):Option Bool:=if(Value.type T == Value.type U)=true then some true else if kitMeta U=true then(fastBuiltinMro T).map (·.contains (Value.type U)) else none
noncomputable def BI:D->Bool
 | .tup _=>true
 | _=>false
noncomputable def F6:D->Bool
 | .lst _=>true
 | _=>false
noncomputable def gZ:D->Bool
 | .str _=>true
 | _=>false
noncomputable def F7:D->Bool
 | .bl _=>true
 | _=>false
noncomputable def BJ:D->Bool
 | .int _=>true
 | .bl _=>true
 | _=>false
def IQ (d:D):PySem.W.kitOne K (.type (L4 d)) (.type "tuple")=some (BI d):=by
 cases d with
 | bN=>exact(show fV "NoneType" "tuple" =some false by decide +kernel)
 | bl b=>exact(show fV "bool" "tuple" =some false by decide +kernel)
 | int i=>exact(show fV "int" "tuple" =some false by decide +kernel)
 | str z=>exact(show fV "str" "tuple" =some false by decide +kernel)
 | tup ds=>exact(show fV "tuple" "tuple" =some true by decide +kernel)
 | lst ds=>exact(show fV "list" "tuple" =some false by decide +kernel)
def IS (d:D):PySem.W.kitOne K (.type (L4 d)) (.type "list")=some (F6 d):=by
 cases d with
 | bN=>exact(show fV "NoneType" "list" =some false by decide +kernel)
 | bl b=>exact(show fV "bool" "list" =some false by decide +kernel)
 | int i=>exact(show fV "int" "list" =some false by decide +kernel)
 | str z=>exact(show fV "str" "list" =some false by decide +kernel)
 | tup ds=>exact(show fV "tuple" "list" =some false by decide +kernel)
 | lst ds=>exact(show fV "list" "list" =some true by decide +kernel)
def F8 (d:D):PySem.W.kitOne K (.type (L4 d)) (.type "str")=some (gZ d):=by
 cases d with
 | bN=>exact(show fV "NoneType" "str" =some false by decide +kernel)
 | bl b=>exact(show fV "bool" "str" =some false by decide +kernel)
 | int i=>exact(show fV "int" "str" =some false by decide +kernel)
 | str z=>exact(show fV "str" "str" =some true by decide +kernel)
 | tup ds=>exact(show fV "tuple" "str" =some false by decide +kernel)
 | lst ds=>exact(show fV "list" "str" =some false by decide +kernel)
def L5 (d:D):PySem.W.kitOne K (.type (L4 d)) (.type "bool")=some (F7 d):=by
 cases d with
 | bN=>exact(show fV "NoneType" "bool" =some false by decide +kernel)
 | bl b=>exact(show fV "bool" "bool" =some true by decide +kernel)
 | int i=>exact(show fV "int" "bool" =some false by decide +kernel)
 | str z=>exact(show fV "str" "bool" =some false by decide +kernel)
 | tup ds=>exact(show fV "tuple" "bool" =some false by decide +kernel)
 | lst ds=>exact(show fV "list" "bool" =some false by decide +kernel)
def IT (d:D):PySem.W.kitOne K (.type (L4 d)) (.type "int")=some (BJ d):=by
 cases d with
 | bN=>exact(show fV "NoneType" "int" =some false by decide +kernel)
 | bl b=>exact(show fV "bool" "int" =some true by decide +kernel)
 | int i=>exact(show fV "int" "int" =some true by decide +kernel)
 | str z=>exact(show fV "str" "int" =some false by decide +kernel)
 | tup ds=>exact(show fV "tuple" "int" =some false by decide +kernel)
 | lst ds=>exact(show fV "list" "int" =some false by decide +kernel)
end L2
end
section
namespace HT
open PySem PySem.Spec PyProof.Rows
section
variable {prog:Program}{w:World}{A:Around}{E:AAB}{s:Shared}
def DP {t sl:Addr}{items:AAH}{vl vu:Value}{lo hi:BBM}{Q:AAB}(ht:IsTup s.heap t items) (hs:s.heap.IsSliceOf sl vl vu .none) (pl:IsPart vl lo) (pu:IsPart vu hi)
  (hw:eu items.size 0 lo=0/\eu items.size items.size hi=items.size) (h:Q (.ref t) s):wpAny (model prog w) A (getItem (.ref t) (.ref sl)) Q E s:=by
 obtain⟨os,hos,hcs,hds⟩:=id hs;have RP:s.TypeIs (.ref sl) "slice":=⟨os,hos,hcs⟩
 unfold getItem
 try with_reducible refine YD ?_
 first | refine XQ (wpAny_pure ?_) | skip
 refine XQ (wpAny_sequenceKey ht.typeIs (by decide) ?_);refine XQ (Y9 (name:=Str.ofString "__getitem__") ht.typeIs Yx
  (Zb Yx ht.typeIs entry_tuple_getitem ?_ (args_tuple_getitem _ _)))
 show wpAny _ _ (Builtin.Tuple.tupleItemsOf (.ref t) >>= _) _ _ s;refine XQ (tupleItemsOf_ ht ?_);refine XQ (aar RP ?_);rw[if_pos (by decide)];refine XQ (jY hs pl pu ?_);have hyes:(((eu items.size 0 lo:Nat):Int) == 0 && (1:Int) == 1 && (eu items.size items.size hi - eu items.size 0 lo) == items.size)=true:=by
  rw[hw.1,hw.2];simp
 show wpAny _ _ (if(((eu items.size 0 lo:Nat):Int) == 0 && (1:Int) == 1 && (eu items.size items.size hi - eu items.size 0 lo) == items.size)=true then _ else _) _ _ s;rw[if_pos hyes];have hex:∀{α:Type}{k:Bool->Sem α}{Q':α->Shared->Prop}{E':AAB}{A':Around},wpAny (model prog w) A' (k true) Q' E' s->wpAny (model prog w) A' (Builtin.Tuple.tupleIsExact (.ref t) >>= k) Q' E' s:=fun {α k Q' E' A'} hk=>by
  refine XQ ?_;unfold Builtin.Tuple.tupleIsExact;exact XQ (aar ht.typeIs (wpAny_pure hk))
 first
  | (refine hex ?_;exact ZK (wpAny_pure ⟨_,rfl,wpAny_pure h⟩))
  | (refine hex ?_;refine XQ (ZK ?_);exact wpAny_pure ⟨_,rfl,wpAny_pure h⟩)
end
end HT
end
section
namespace L2
open PySem PySem.Spec PyProof.Rows
variable {scope:Scope}{X:Cx}{x y:V}{K:AAA}{H F1 H1 F' H' H0 F0:Hp}{a p ca cb:Addr}{ns:BBD}{κ α β:Type}{k:Bool}{i n:Nat}{o:HO}{B:Base}{S S' S0:SS}{σ:St}{u:U}{Q E:AAB}{op:CmpOp}{q1 q2 q:GT}{r:BBC}{ds es:List D}{xs vs:List V}{tg iter:Expr}{z:Str}{gi:GI}{us ws:List U}{cap:BBJ}{g:GD}{cl:List (Str×Addr)}{cH:BBB}{A:Around}{dY bM:AAI}{T:String}{kvs:List (Key×V)}{prog:Program}{w:World}{wL:List (Str×GD)}{its:AAH}
section

noncomputable def cutD (ds:List D) (lo hi:BBM):List D:=(ds.drop (HT.eu ds.length 0 lo)).take (HT.eu ds.length ds.length hi - HT.eu ds.length 0 lo)
def bh.dj {H:Hp}{vs:List V}{ds:List D}{i:Int}{d:D}(r:bh H vs ds) (h:L2.dj ds i=some d):∃v,L2.dj vs i=some v/\Rep H v d:=by
 have hl:=r.length;unfold L2.dj at h ⊢;rw[hl];cases e:yO ds.length i with
 | none=>rw[e] at h;cases h
 | some j=>
  rw[e] at h;exact r.get h
end
def Ah {env:Env}{n:Str}{k:NameKind}(h:(relabel scope env).names.lookup n=some k):(n,k)∈(relabel scope env).names:=YB h
def BK {x:Str}(h1:∀y∈scope.names,y.2≠.free) (h2:∀y∈scope.names,y.2≠.cell) (h3:scope.kind= .function) (h4:∀y∈scope.names,y.2= .local->scope.names.lookup y.1=some .local) (h5:scope.names.lookup x=some .local):
  fY X x [] [] scope []:=by
 refine⟨closureFor_none h1,h2,h3,h4,h5,fun n c h=>(by cases h),fun n h=>?_,by simp,rfl,fun j n h=>(by simp at h),fun n h=>(by simp at h)⟩;have no:∀k,(k=NameKind.cell\/k=NameKind.free)->(relabel scope X.env).names.lookup n≠some k:=fun k hk e=>by
  have m:=Ah e;unfold relabel at m;obtain⟨⟨n',k'⟩,hm,q⟩:=YZ.mp m;have z:(k' == NameKind.free)=false:=by simpa using h1 _ hm
  simp only[z,aaD,Zl] at q;have q2:k'=k:=by
   have:=congrArg Prod.snd q
   simpa using this
  rcases hk with rfl | rfl
  ·exact h2 _ hm q2
  ·exact h1 _ hm q2
 rcases h with h | h
 ·exact absurd h (no _ (.inl rfl))
 ·exact absurd h (no _ (.inr rfl))
mutual
def xE (n:Nat):D->Prop
 | .str z=>z.length<=n
 | .tup ds=>ds.length<=n/\Fits n ds
 | .lst ds=>ds.length<=n/\Fits n ds
 | .bN=>True
 | .bl _=>True
 | .int _=>True
def Fits (n:Nat):List D->Prop
 | []=>True
 | d :: ds=>xE n d/\Fits n ds
end
mutual
theorem xE.mono {n m:Nat}(l:n<=m):∀{d:D},xE n d->xE m d
 | .str _,h=>X7 h l
 | .tup _,h=>⟨X7 h.1 l,Fits.mono l h.2⟩
 | .lst _,h=>⟨X7 h.1 l,Fits.mono l h.2⟩
 | .bN,_=>True.intro
 | .bl _,_=>True.intro
 | .int _,_=>True.intro
theorem Fits.mono {n m:Nat}(l:n<=m):∀{ds:List D},Fits n ds->Fits m ds
 | [],_=>True.intro
 | _ :: _,h=>⟨xE.mono l h.1,Fits.mono l h.2⟩
end
noncomputable def fu (d:D) (l m:Int):Bool:=match d with
 | .int i=>decide (l<=i) && decide (i<=m)
 | _=>false
noncomputable def fK (d:D) (l m:Int):Bool:=match d with
 | .tup ds=>decide (l<=(ds.length:Int)) && decide ((ds.length:Int)<=m)
 | _=>false
theorem lookup_some {α:Type}:∀{l:List (Str×α)}{n:Str},n∈l.map (·.1)->∃c,l.lookup n=some c
 | [],_,h=>by simp at h
 | (m,c) :: l,n,h=>by
  rw[aa1];cases e:n == m with
  | true=>exact⟨c,rfl⟩
  | false=>
   rcases XT.mp h with h | h
   ·have h:n=m:=h;rw[h,aa2] at e;cases e
   ·exact lookup_some h
mutual
noncomputable def toPy:D->PyData
 | .bN=>.none
 | .bl b=>.bool b
 | .int i=>.int i
 | .str z=>.str z
 | .tup ds=>.tuple (fC ds)
 | .lst ds=>.list (fC ds)
noncomputable def fC:List D->List PyData
 | []=>[]
 | d :: ds=>toPy d :: fC ds
end
mutual
theorem sJ:∀d:D,(toPy d).hasDict=false
 | .bN=>rfl
 | .bl _=>rfl
 | .int _=>rfl
 | .str _=>rfl
 | .tup ds=>kG ds
 | .lst ds=>kG ds
theorem kG:∀ds:List D,PyData.hasDictAll (fC ds)=false
 | []=>rfl
 | d :: ds=>by
  show((toPy d).hasDict || PyData.hasDictAll (fC ds))=false;rw[sJ d,kG ds];rfl
end
inductive MO where
 | lst (ds:List D)
 | dct (kvs:List (Key×D))
 | wg (kvs:List (D×D))
 | ins (C:Addr) (kvs:List (Str×D))
 | gap (es:List (D ⊕ Addr))
 | lat (c:Addr) (ds:List D)
 | E1 (c:Addr) (kvs:List (D×D))
 | E2 (C:Addr) (kvs:List (Str×(D ⊕ Addr)))
inductive U where
 | t (d:D) | m (o:MO) | b (o:MO) | v (i:Nat) | s (ns:BBD) | f (a:Addr) | x (C:Addr) (kvs:List (Str×D))
abbrev XM (d:D):Option U:=some (.t d)
abbrev XN (d:List D):Option U:=some (.m (.lst d))
abbrev XO (i:Int):Option U:=some (.t (.int i))
abbrev SS:=List (Option U)
def Sub (F H:Hp):Prop:=∀a o,F a=some o->H a=some o
def ez {κ:Type}(F:Hp) (p:κ×V) (q:κ×D):Prop:=p.1=q.1/\Rep F p.2 q.2
def yT (F:Hp) (v:V) (C:Addr) (kvs:List (Str×D)):Prop:=∃a dx fs,v= .ref a/\F a=some (.NV C dx fs)/\F dx=some (.own a)/\Paired (ez F) fs kvs
def BL (F:Hp) (v:V):D ⊕ Addr->Prop
 | .inl d=>Rep F v d
 | .inr c=>v= .ref c
def Sv (F:Hp) (p:Str×V) (q:Str×(D ⊕ Addr)):Prop:=p.1=q.1/\BL F p.2 q.2
def At (F H:Hp) (a:Addr):MO->Prop
 | .lst ds=>∃vs,H a=some (.lst vs)/\bh F vs ds
 | .dct kvs=>∃ws,H a=some (.dK ws)/\Paired (ez F) ws kvs
 | .wg kvs=>∃ws,H a=some (.dT ws)/\Paired (ez F) ws kvs
 | .ins C kvs=>∃ws,(∃dx,H a=some (.ins C dx ws))/\Paired (ez F) ws kvs
 | .gap es=>∃vs,H a=some (.lst vs)/\Paired (BL F) vs es
 | .lat c ds=>∃vs,(a=c/\H a=some (.lst vs))/\bh F vs ds
 | .E1 c kvs=>∃ws,(a=c/\H a=some (.dT ws))/\Paired (ez F) ws kvs
 | .E2 C kvs=>∃ws,(∃dx,H a=some (.ins C dx ws))/\Paired (Sv F) ws kvs
noncomputable def dM:U->Bool
 | .m _=>true
 | .b _=>true
 | _=>false
def cg (S:SS) (σ:St) (a:Addr):Prop:=∃(i:Nat) (u:U),S[i]? =some (some u)/\dM u=true/\σ[i]? =some (some (.ref a))
def IU (K:AAA) (H:Hp) (a:Addr) (ns:BBD):Prop:=
 (∃o,H a=some (.iw o (.lst (ns.map V.int))))\/∃(o:Obj) (its:AAH) (n:Nat),K.lookup a=some o/\o.cls= .type "list"/\o.dict=none/\o.data= .seq its n/\its.size<=sizeLine/\Vals (ns.map V.int) its.toList
theorem IU.sq :IU K H a ns->oz K H a (ns.map V.int)
 | .inl h=>.inl (.inr h)
 | .inr h=>.inr h
def wF (K:AAA) (F H:Hp) (v:V):U->Prop
 | .t d=>Rep F v d
 | .m o=>∃a,v= .ref a/\F a=none/\At F H a o
 | .b o=>∃a,v= .ref a/\F a=none/\At F H a o
 | .v _=>False
 | .s ns=>∃a,v= .ref a/\IU K H a ns
 | .f a=>v= .ref a
 | .x C k=>yT F v C k
structure Ext (M:Addr->Prop) (F H F' H':Hp):Prop where
 le:∀b o,F b=some o->F' b=some o
 keep:∀b o,H b=some o->¬M b->H' b=some o
 iQ:∀b o,H b=some o->¬M b->F b=none->F' b=none
 there:∀b o,H b=some o->∃o',H' b=some o'
 iw:∀b o u,H b=some (.iw o u)->H' b=some (.iw o u)
structure Base where
 P:List (BBN)
 F:Hp
 H:Hp
def Base.M (B:Base) (a:Addr):Prop:=some a∈B.P
structure Rel (K:AAA) (B:Base) (S:SS) (σ:St) (F H:Hp):Prop where
 sub:Sub F H
 len:S.length=σ.length
 rep:∀(i:Nat) u,S[i]? =some (some u)->∃v,σ[i]? =some (some v)/\wF K F H v u
 BN:∀(i j:Nat) u w a,S[i]? =some (some u)->dM u=true->S[j]? =some (some w)->dM w=true->σ[i]? =some (some (.ref a))->σ[j]? =some (some (.ref a))->i=j
 own:∀(i:Nat) o a,S[i]? =some (some (.m o))->σ[i]? =some (some (.ref a))->B.H a=none
 bor:∀(i:Nat) o a,S[i]? =some (some (.b o))->σ[i]? =some (some (.ref a))->B.M a
 par:∀(i:Nat) a,B.P[i]? =some (some a)->σ[i]? =some (some (.ref a))/\∃o,S[i]? =some (some (.b o))
 ext:Ext B.M B.F B.H F H
structure Step (S S':SS) (σ:St) (F H F' H':Hp):Prop where
 ext:Ext (cg S σ) F H F' H'
 mu:∀a,cg S' σ a->cg S σ a
 slots:∀(i:Nat) u,S[i]? =some (some u)->∃u',S'[i]? =some (some u')
def Ext.refl (M:Addr->Prop) (F H:Hp):Ext M F H F H:=⟨fun _ _ h=>h,fun _ _ h _=>h,fun _ _ _ _ h=>h,fun _ o h=>⟨o,h⟩,fun _ _ _ h=>h⟩
def Ext.trans {M M':Addr->Prop}{F F2 H2:Hp}(x:Ext M F H F1 H1) (y:Ext M' F1 H1 F2 H2) (s:∀b,M' b->M b\/H b=none):Ext M F H F2 H2 where
 le:=fun b o h=>y.le b o (x.le b o h)
 keep:=fun b o h n=>y.keep b o (x.keep b o h n) fun q=>(s b q).elim n fun z=>by rw[h] at z;cases z
 iQ:=fun b o h n f=>y.iQ b o (x.keep b o h n) (fun q=>(s b q).elim n fun z=>by rw[h] at z;cases z) (x.iQ b o h n f)
 there:=fun b o h=>let⟨o',h'⟩:=x.there b o h;y.there b o' h'
 iw:=fun b o u h=>y.iw b o u (x.iw b o u h)
def Step.refl (S:SS) (σ:St) (F H:Hp):Step S S σ F H F H:=⟨Ext.refl _ _ _,fun _ h=>h,fun _ u h=>⟨u,h⟩⟩
def Step.trans {S S1 S2:SS}{σ:St}{F H F1 H1 F2 H2:Hp}(x:Step S S1 σ F H F1 H1) (y:Step S1 S2 σ F1 H1 F2 H2):Step S S2 σ F H F2 H2:=
 ⟨x.ext.trans y.ext fun b q=>.inl (x.mu b q),fun a q=>x.mu a (y.mu a q),fun i u h=>let⟨u',h'⟩:=x.slots i u h;y.slots i u' h'⟩
mutual
theorem Rep.le {F F':Hp}(g:∀b o,F b=some o->F' b=some o):∀{v:V}{d:D},Rep F v d->Rep F' v d
 | _,_,.bN=>.bN
 | _,_,.bl b=>.bl b
 | _,_,.int i=>.int i
 | _,_,.str z=>.str z
 | _,_,.tup e r=>.tup (g _ _ e) (bh.le g r)
 | _,_,.lst e r=>.lst (e.imp (g _ _) fun⟨o,h⟩=>⟨o,g _ _ h⟩) (bh.le g r)
theorem bh.le {F F':Hp}(g:∀b o,F b=some o->F' b=some o):∀{vs:List V}{ds:List D},bh F vs ds->bh F' vs ds
 | _,_,.nil=>.nil
 | _,_,.cons r rs=>.cons (Rep.le g r) (bh.le g rs)
end
def l8 {κ:Type}{F:Hp}(g:∀b o,F b=some o->F' b=some o){ws:List (κ×V)}{kvs:List (κ×D)}(r:Paired (ez F) ws kvs):Paired (ez F') ws kvs:=
 Paired.zT r fun _ _ z=>⟨z.1,z.2.le g⟩
theorem yT.le {F:Hp}(g:∀b o,F b=some o->F' b=some o){v:V}{C:Addr}{k:List (Str×D)}:yT F v C k->yT F' v C k
 | ⟨a,dx,fs,e,h1,h2,h3⟩=>⟨a,dx,fs,e,g _ _ h1,g _ _ h2,l8 g h3⟩
theorem BL.le {F F':Hp}(g:∀b o,F b=some o->F' b=some o){v:V}:∀{e:D ⊕ Addr},BL F v e->BL F' v e
 | .inl _,h=>Rep.le g h
 | .inr _,h=>h
theorem At.le {F F' H H':Hp}{a:Addr}(g:∀b o,F b=some o->F' b=some o) (k:∀o,H a=some o->H' a=some o):∀{o:MO},At F H a o->At F' H' a o
 | .lst _,⟨vs,e,r⟩=>⟨vs,k _ e,r.le g⟩
 | .dct _,⟨ws,e,r⟩=>⟨ws,k _ e,l8 g r⟩
 | .wg _,⟨ws,e,r⟩=>⟨ws,k _ e,l8 g r⟩
 | .ins _ _,⟨ws,⟨dx,e⟩,r⟩=>⟨ws,⟨dx,k _ e⟩,l8 g r⟩
 | .gap _,⟨ws,e,r⟩=>⟨ws,k _ e,Paired.zT r fun _ _ z=>z.le g⟩
 | .lat _ _,⟨vs,⟨q,e⟩,r⟩=>⟨vs,⟨q,k _ e⟩,r.le g⟩
 | .E1 _ _,⟨ws,⟨q,e⟩,r⟩=>⟨ws,⟨q,k _ e⟩,l8 g r⟩
 | .E2 _ _,⟨ws,⟨dx,e⟩,r⟩=>⟨ws,⟨dx,k _ e⟩,Paired.zT r fun _ _ z=>⟨z.1,z.2.le g⟩⟩
theorem At.has {F:Hp}:∀{o:MO},At F H a o->∃u,H a=some u
 | .lst _,⟨_,e,_⟩=>⟨_,e⟩
 | .dct _,⟨_,e,_⟩=>⟨_,e⟩
 | .wg _,⟨_,e,_⟩=>⟨_,e⟩
 | .ins _ _,⟨_,⟨_,e⟩,_⟩=>⟨_,e⟩
 | .gap _,⟨_,e,_⟩=>⟨_,e⟩
 | .lat _ _,⟨_,⟨_,e⟩,_⟩=>⟨_,e⟩
 | .E1 _ _,⟨_,⟨_,e⟩,_⟩=>⟨_,e⟩
 | .E2 _ _,⟨_,⟨_,e⟩,_⟩=>⟨_,e⟩
def iV (K:AAA) (B:Base) (S:SS) (σ:St) (H0 F H:Hp) (v:V):U->Prop
 | .t d=>Rep F v d
 | .m o=>∃a,v= .ref a/\H0 a=none/\F a=none/\At F H a o/\¬cg S σ a/\B.H a=none
 | .v i=>σ[i]? =some (some v)/\∃u,S[i]? =some (some u)
 | .b _=>False
 | .s ns=>∃a,v= .ref a/\IU K H a ns
 | .f a=>v= .ref a
 | .x C k=>yT F v C k
def PE.imp {e:Expr}{t t':TE}(h:PE X e t) (k:∀σ H Q,t' σ H Q->t σ H Q):PE X e t':=fun pins s σ H Q I q=>h pins s σ H Q I (k σ H Q q)
def PT.imp {e:Expr}{t t':TT}(h:PT X e t) (k:∀σ H Q,t' σ H Q->t σ H Q):PT X e t':=fun pins s σ H Q I q=>h pins s σ H Q I (k σ H Q q)
def PW.imp {e:Expr}{t t':TT}(h:PW X e t) (k:∀σ H Q,t' σ H Q->t σ H Q):PW X e t':=fun w pins s σ H Q I q=>h w pins s σ H Q I (k σ H Q q)
def PA.imp {e:BBC}{t t':TA}(h:PA X e t) (k:∀σ H Q,t' σ H Q->t σ H Q):PA X e t':=fun p pins s σ H Q I q=>h p pins s σ H Q I (k σ H Q q)
def PS.imp {e:Stmt}{t t':TS}(h:PS X e t) (k:∀D σ H,t' D σ H->t D σ H):PS X e t':=fun pins s σ H Q I q=>h pins s σ H Q I (k Q σ H q)
def xq.imp {e:BBH}{t t':TS}(h:xq X e t) (k:∀D σ H,t' D σ H->t D σ H):xq X e t':=fun pins s σ H Q I q=>h pins s σ H Q I (k Q σ H q)
def PE.orelse {e:Expr}{t:TE}(h:∀σ H Q,t σ H Q->∃t',PE X e t'/\t' σ H Q):PE X e t:=fun pins s σ H Q I q=>let⟨_,h1,h2⟩:=h σ H Q q;h1 pins s σ H Q I h2
def PS.orelse {e:Stmt}{t:TS}(h:∀D σ H,t D σ H->∃t',PS X e t'/\t' D σ H):PS X e t:=fun pins s σ H Q I q=>let⟨_,h1,h2⟩:=h Q σ H q;h1 pins s σ H Q I h2
abbrev GE:=SS->Option (U×SS)
abbrev GD:=SS->Option (D×SS)
abbrev GT:=SS->Option (Bool×SS)
abbrev GA:=SS->Option (List D×SS)
inductive Out where
 | nx (S:SS) | rt (u:U) (S:SS) | bk (S:SS) | ct (S:SS)
abbrev GS:=SS->Option Out
inductive tE (K:AAA) (B:Base) (g:GE) (σ:St) (H:Hp) (Q:VK):Prop
 | mk (S:SS) (F:Hp) (u:U) (S':SS) (R:Rel K B S σ F H) (hg:g S=some (u,S')) (q:∀v F' H',Rel K B S' σ F' H'->Step S S' σ F H F' H'->iV K B S' σ H F' H' v u->Q v H')
inductive tD (K:AAA) (B:Base) (g:GD) (σ:St) (H:Hp) (Q:VK):Prop
 | mk (S:SS) (F:Hp) (d:D) (S':SS) (R:Rel K B S σ F H) (hg:g S=some (d,S')) (q:∀v F' H',Rel K B S' σ F' H'->Step S S' σ F H F' H'->Rep F' v d->Q v H')
inductive tQ (K:AAA) (B:Base) (g:GT) (σ:St) (H:Hp) (Q:Bool->Hp->Prop):Prop
 | mk (S:SS) (F:Hp) (b:Bool) (S':SS) (R:Rel K B S σ F H) (hg:g S=some (b,S')) (q:∀F' H',Rel K B S' σ F' H'->Step S S' σ F H F' H'->Q b H')
inductive Ve (K:AAA) (B:Base) (g:GA) (σ:St) (H:Hp) (Q:List V->Hp->Prop):Prop
 | mk (S:SS) (F:Hp) (ds:List D) (S':SS) (R:Rel K B S σ F H) (hg:g S=some (ds,S')) (q:∀vs F' H',Rel K B S' σ F' H'->Step S S' σ F H F' H'->bh F' vs ds->Q vs H')
def xF (K:AAA) (B:Base) (F:Hp) (D:Ends):Out->Prop
 | .nx S=>∀σ' F' H',Rel K B S σ' F' H'->(∀b o,F b=some o->F' b=some o)->D.nx σ' H'
 | .bk S=>∀σ' F' H',Rel K B S σ' F' H'->(∀b o,F b=some o->F' b=some o)->D.bk σ' H'
 | .ct S=>∀σ' F' H',Rel K B S σ' F' H'->(∀b o,F b=some o->F' b=some o)->D.ct σ' H'
 | .rt u S=>∀v σ' F' H',Rel K B S σ' F' H'->(∀b o,F b=some o->F' b=some o)->iV K B S σ' B.H F' H' v u->D.rt v H'
inductive tO (K:AAA) (B:Base) (g:GS) (D:Ends) (σ:St) (H:Hp):Prop
 | mk (S:SS) (F:Hp) (o:Out) (R:Rel K B S σ F H) (hg:g S=some o) (q:xF K B F D o)
structure JE (X:Cx) (e:Expr) (g:GE):Prop where
 h:∀B,PE X e (tE X.K B g)
structure JD (X:Cx) (e:Expr) (g:GD):Prop where
 h:∀B,PE X e (tD X.K B g)
structure JT (X:Cx) (e:Expr) (g:GT):Prop where
 h:∀B,PT X e (tQ X.K B g)
structure JW (X:Cx) (e:Expr) (g:GT):Prop where
 h:∀B,PW X e (tQ X.K B g)
structure JA (X:Cx) (es:BBC) (g:GA):Prop where
 h:∀B,PA X es (Ve X.K B g)
structure JS (X:Cx) (st:Stmt) (g:GS):Prop where
 h:∀B,PS X st (tO X.K B g)
structure JB (X:Cx) (st:BBH) (g:GS):Prop where
 h:∀B,xq X st (tO X.K B g)
noncomputable def fz:U->SS->Option (D×SS)
 | .t d,S=>some (d,S)
 | .m (.lst ds),S=>some (.lst ds,S)
 | .v i,S=>match S[i]? with
  | some (some (.t d))=>some (d,S)
  | some (some (.m (.lst ds)))=>some (.lst ds,S.set i (some (.t (.lst ds))))
  | _=>none
 | _,_=>none
def get_set {α:Type}{l:List α}{j:Nat}{x y:α}(h:(l.set i x)[j]? =some y):(i=j/\x=y/\i < l.length)\/(i≠j/\l[j]? =some y):=by
 by_cases e:i=j
 ·subst e;by_cases hl:i < l.length
  ·rw[Yk hl] at h;exact .inl ⟨rfl,Ym h,hl⟩
  ·rw[YO (by simpa using hl)] at h;cases h
 ·rw[X5 e] at h;exact .inr ⟨e,h⟩
def Sub.iw {F:Hp}(s:Sub F H) (h:H a=some o):Sub (upd F a o) H:=fun b u e=>by
 by_cases hb:b=a
 ·subst hb;rw[aX] at e;cases e;exact h
 ·rw[aW hb] at e;exact s b u e
def Sub.fresh {F:Hp}(s:Sub F H) (h:H p=Option.none):F p=Option.none:=by
 cases e:F p with
 | none=>rfl
 | some o=>have q:=s p o e;rw[h] at q;cases q
def jH {F:Hp}(h:F a=none):∀b u,F b=some u->upd F a o b=some u:=fun b u e=>by rw[aW (bz e h)];exact e
theorem IU.le (k:∀b o u,H b=some (.iw o u)->H' b=some (.iw o u)):IU K H a ns->IU K H' a ns
 | .inl ⟨o,h⟩=>.inl ⟨o,k _ _ _ h⟩
 | .inr h=>.inr h
theorem wF.le {K:AAA}{F F' H H':Hp}{v:V}(g:∀b o,F b=some o->F' b=some o) (kf:∀b o u,H b=some (.iw o u)->H' b=some (.iw o u)):∀{u:U},wF K F H v u->(∀a,dM u=true->v= .ref a->(∀o,H a=some o->H' a=some o)/\F' a=none)->wF K F' H' v u
 | .t _,h,_=>Rep.le g h
 | .m _,⟨a,e,_,h⟩,k=>let⟨k1,k2⟩:=k a rfl e;⟨a,e,k2,h.le g k1⟩
 | .b _,⟨a,e,_,h⟩,k=>let⟨k1,k2⟩:=k a rfl e;⟨a,e,k2,h.le g k1⟩
 | .v _,h,_=>h
 | .s _,⟨a,e,h⟩,_=>⟨a,e,h.le kf⟩
 | .f _,h,_=>h
 | .x _ _,h,_=>yT.le g h
def CY {F:Hp}{v:V}{d:D}(R:Rel K B S σ F H) (st:Step S0 S σ F0 H0 F H) (r:iV K B S σ H0 F H v u) (e:fz u S=some (d,S')):
  ∃F',Rel K B S' σ F' H/\Step S0 S' σ F0 H0 F' H/\Rep F' v d:=by
 cases u with
 | t d'=>cases e;exact⟨F,R,st,r⟩
 | b o=>cases r
 | s o=>cases e
 | f o=>cases e
 | x cx kx=>cases e
 | m o=>
  cases o with
  | dct kvs=>cases e
  | wg kvs=>cases e
  | ins C kvs=>cases e
  | gap _=>cases e
  | lat _ _=>cases e
  | E1 _ _=>cases e
  | E2 _ _=>cases e
  | lst ds=>
   cases e;obtain⟨a,rfl,h0,hf,⟨vs,ha,rs⟩,nm,hB⟩:=r;have g:=jH (o:=.lst vs) hf;refine⟨upd F a (.lst vs),⟨R.sub.iw ha,R.len,fun i u h=>?_,R.BN,R.own,R.bor,R.par,?_⟩,⟨⟨fun b o h=>g b o (st.ext.le b o h),st.ext.keep,fun b o h n f=>?_,st.ext.there,st.ext.iw⟩,st.mu,st.slots⟩,.lst (.inl aX) (rs.le g)⟩
   ·obtain⟨w,h1,h2⟩:=R.rep i u h;refine⟨w,h1,h2.le g (fun _ _ _ z=>z) fun c hm hc=>⟨fun o q=>q,?_⟩⟩;have hca:c≠a:=fun z=>nm ⟨i,u,h,hm,by rw[h1,hc,z]⟩;rw[aW hca];cases u with
    | m o=>obtain⟨c',e',f',_⟩:=h2;rw[hc] at e';cases e';exact f'
    | b o=>obtain⟨c',e',f',_⟩:=h2;rw[hc] at e';cases e';exact f'
    | t d=>cases hm
    | v j=>cases hm
    | s j=>cases hm
    | f j=>cases hm
    | x cx kx=>cases hm
   ·exact⟨fun b o h=>g b o (R.ext.le b o h),R.ext.keep,fun b o h n f=>by rw[aW (fun z=>by rw[z,hB] at h;cases h)];exact R.ext.iQ b o h n f,R.ext.there,R.ext.iw⟩
   ·rw[aW (fun z=>by rw[z,h0] at h;cases h)];exact st.ext.iQ b o h n f
 | v i=>
  obtain⟨hv,u,hu⟩:=r;unfold fz at e;simp only[hu] at e;cases u with
  | t d'=>
   cases e;obtain⟨w,h1,h2⟩:=R.rep i _ hu;rw[hv] at h1;cases h1;exact⟨F,R,st,h2⟩
  | b o=>cases e
  | v j=>cases e
  | s j=>cases e
  | f j=>cases e
  | x cx kx=>cases e
  | m o=>
   cases o with
   | dct kvs=>cases e
   | wg kvs=>cases e
   | ins C kvs=>cases e
   | gap _=>cases e
   | lat _ _=>cases e
   | E1 _ _=>cases e
   | E2 _ _=>cases e
   | lst ds=>
    cases e;obtain⟨w,h1,a,rfl,hf,⟨vs,ha,rs⟩⟩:=R.rep i _ hu;have hiv:σ[i]? =some (some (.ref a)):=h1;rw[hv] at h1;cases h1;have hB:=R.own i _ a hu hiv;have g:=jH (o:=.lst vs) hf;have back:∀j w,(S.set i (XM (.lst ds)))[j]? =some (some w)->dM w=true->i≠j/\S[j]? =some (some w):=fun j w h hm=>by
     rcases get_set h with⟨_,q,_⟩ | q
     ·cases q;cases hm
     ·exact q
    have mu:∀c,cg (S.set i (XM (.lst ds))) σ c->cg S σ c:=fun c ⟨j,w,h,hm,z⟩=>⟨j,w,(back j w h hm).2,hm,z⟩
    refine⟨upd F a (.lst vs),⟨R.sub.iw ha,by rw[YU];exact R.len,fun j u h=>?_,fun j k u w c h1 m1 h2 m2=>R.BN j k u w c (back j u h1 m1).2 m1 (back k w h2 m2).2 m2,fun j o c h=>R.own j o c (back j _ h rfl).2,fun j o c h=>R.bor j o c (back j _ h rfl).2,fun j c h=>?_,?_⟩,
     ⟨⟨fun b o h=>g b o (st.ext.le b o h),st.ext.keep,fun b o h n f=>?_,st.ext.there,st.ext.iw⟩,fun c q=>st.mu c (mu c q),fun j u h=>?_⟩,.lst (.inl aX) (rs.le g)⟩
    ·rcases get_set h with⟨rfl,q,_⟩ | ⟨ne,q⟩
     ·cases q;exact⟨.ref a,hiv,.lst (.inl aX) (rs.le g)⟩
     ·obtain⟨w,h1,h2⟩:=R.rep j u q;refine⟨w,h1,h2.le g (fun _ _ _ z=>z) fun c hm hc=>⟨fun o q=>q,?_⟩⟩;have hca:c≠a:=fun z=>ne (R.BN i j _ u a hu rfl q hm hiv (by rw[h1,hc,z]));rw[aW hca];cases u with
      | m o=>obtain⟨c',e',f',_⟩:=h2;rw[hc] at e';cases e';exact f'
      | b o=>obtain⟨c',e',f',_⟩:=h2;rw[hc] at e';cases e';exact f'
      | t d=>cases hm
      | v j=>cases hm
      | s j=>cases hm
      | f j=>cases hm
      | x cx kx=>cases hm
    ·obtain⟨h1,o,h2⟩:=R.par j c h;refine⟨h1,o,?_⟩;have ne:i≠j:=fun z=>by subst z;rw[hu] at h2;cases h2
     rw[X5 ne];exact h2
    ·exact⟨fun b o h=>g b o (R.ext.le b o h),R.ext.keep,fun b o h n f=>by rw[aW (fun z=>by rw[z,hB] at h;cases h)];exact R.ext.iQ b o h n f,R.ext.there,R.ext.iw⟩
    ·have hb:b≠a:=fun z=>n (st.mu b ⟨i,_,hu,rfl,by rw[z];exact hiv⟩);rw[aW hb];exact st.ext.iQ b o h n f
    ·obtain⟨u',h'⟩:=st.slots j u h;by_cases hj:i=j
     ·subst hj;exact⟨.t (.lst ds),Yk (XY.mp h').1⟩
     ·exact⟨u',by rw[X5 hj];exact h'⟩
def eF (g:GE):GD:=fun S=>(g S).bind fun p=>fz p.1 p.2
def JE.d {X:Cx}{e:Expr}{g:GE}(h:JE X e g):JD X e (eF g):=⟨fun B=>(h.h B).imp fun σ H Q hh=>by
 obtain⟨S,F,d,S',R,hg,q⟩:=hh;unfold eF at hg;cases e1:g S with
 | none=>rw[e1] at hg;cases hg
 | some p=>
  obtain⟨u,S1⟩:=p;rw[e1] at hg;refine⟨S,F,u,S1,R,e1,fun v F1 H1 R1 st1 r1=>?_⟩;obtain⟨F2,R2,st2,r2⟩:=CY R1 st1 r1 hg;exact q v F2 H1 R2 st2 r2⟩
noncomputable def eT (g:GD):GE:=fun S=>(g S).map fun p=>(.t p.1,p.2)
def JD.e {X:Cx}{e:Expr}{g:GD}(h:JD X e g):JE X e (eT g):=⟨fun B=>(h.h B).imp fun σ H Q hh=>by
 obtain⟨S,F,u,S',R,hg,q⟩:=hh;unfold eT at hg;cases e1:g S with
 | none=>rw[e1] at hg;cases hg
 | some p=>
  obtain⟨d,S1⟩:=p;rw[e1] at hg;cases hg;exact⟨S,F,d,S1,R,e1,fun v F1 H1 R1 st1 r1=>q v F1 H1 R1 st1 r1⟩⟩
structure gO (F H F' H':Hp):Prop where
 le:∀b o,F b=some o->F' b=some o
 same:∀b o,H b=some o->H' b=some o
 iQ:∀b o,H b=some o->F b=none->F' b=none
def gO.refl (F H:Hp):gO F H F H:=⟨fun _ _ h=>h,fun _ _ h=>h,fun _ _ _ h=>h⟩
def gO.step {F:Hp}(n:gO F H F' H'):Step S S σ F H F' H':=
 ⟨⟨n.le,fun b o h _=>n.same b o h,fun b o h _ f=>n.iQ b o h f,fun b o h=>⟨o,n.same b o h⟩,fun b o u h=>n.same b _ h⟩,fun _ h=>h,fun _ u h=>⟨u,h⟩⟩
def gO.obj {F:Hp}(h:H p=none) (o:HO):gO F H F (upd H p o):=
 ⟨fun _ _ q=>q,fun b u q=>by rw[aW (bz q h)];exact q,fun _ _ _ q=>q⟩
def Sub.same {F:Hp}(s:Sub F H) (k:∀b o,H b=some o->H' b=some o):Sub F H':=fun a o e=>k a o (s a o e)
def Sub.BO {F:Hp}(s:Sub F H) (h:H p=none):Sub (upd F p o) (upd H p o):=fun b u e=>by
 by_cases hb:b=p
 ·subst hb;rw[aX] at e;cases e;exact aX
 ·rw[aW hb] at e;have q:=s b u e;rw[aW (bz q h)];exact q
def gO.root {F:Hp}(s:Sub F H) (h:H p=none) (o:HO):gO F H (upd F p o) (upd H p o):=
 ⟨jH (s.fresh h),fun b u q=>by rw[aW (bz q h)];exact q,fun b u q f=>by rw[aW (bz q h)];exact f⟩
def Rel.has {K:AAA}{B:Base}{S:SS}{σ:St}{F H:Hp}(R:Rel K B S σ F H){a:Addr}(m:cg S σ a):∃o,H a=some o:=by
 obtain⟨i,u,h,hm,hv⟩:=m;obtain⟨v,h1,h2⟩:=R.rep i u h;rw[hv] at h1;cases h1;cases u with
 | t d=>cases hm
 | v j=>cases hm
 | s j=>cases hm
 | f j=>cases hm
 | x cx kx=>cases hm
 | m o=>obtain⟨b,e,_,h⟩:=h2;cases e;exact h.has
 | b o=>obtain⟨b,e,_,h⟩:=h2;cases e;exact h.has
def Rel.new {F:Hp}(R:Rel K B S σ F H) (n:gO F H F' H') (s:Sub F' H'):Rel K B S σ F' H' where
 sub:=s
 len:=R.len
 rep:=fun i u h=>by
  obtain⟨v,h1,h2⟩:=R.rep i u h;refine⟨v,h1,h2.le n.le (fun b o u z=>n.same b _ z) fun a hm ha=>⟨fun o q=>n.same a o q,?_⟩⟩;obtain⟨o,ho⟩:=R.has ⟨i,u,h,hm,by rw[h1,ha]⟩;refine n.iQ a o ho ?_;cases u with
  | t d=>cases hm
  | v j=>cases hm
  | s j=>cases hm
  | f j=>cases hm
  | x cx kx=>cases hm
  | m o=>obtain⟨b,e,f,_⟩:=h2;rw[ha] at e;cases e;exact f
  | b o=>obtain⟨b,e,f,_⟩:=h2;rw[ha] at e;cases e;exact f
 BN:=R.BN
 own:=R.own
 bor:=R.bor
 par:=R.par
 ext:=⟨fun b o h=>n.le b o (R.ext.le b o h),fun b o h m=>n.same b o (R.ext.keep b o h m),fun b o h m f=>n.iQ b o (R.ext.keep b o h m) (R.ext.iQ b o h m f),fun b o h=>let⟨o',h'⟩:=R.ext.there b o h;⟨o',n.same b o' h'⟩,fun b o u h=>n.same b _ (R.ext.iw b o u h)⟩
def Ai (H0 F H:Hp) (v:V):U->Prop
 | .t d=>Rep F v d
 | .m o=>∃a,v= .ref a/\H0 a=none/\F a=none/\At F H a o
 | _=>False
def none_of (t:∀b o,H b=some o->∃o',H' b=some o') (h:H' a=none):H a=none:=by
 cases e:H a with
 | none=>rfl
 | some o=>obtain⟨o',h'⟩:=t a o e;rw[h] at h';cases h'
def Ai.F9 {F:Hp}{v:V}(R:Rel K B S σ F1 H1) (st:Step S0 S σ F0 H0 F1 H1) (r:Ai H1 F H v u):iV K B S σ H0 F H v u:=by
 cases u with
 | t d=>exact r
 | b o=>cases r
 | v i=>cases r
 | s i=>cases r
 | f i=>cases r
 | x cx kx=>cases r
 | m o=>
  obtain⟨a,e,h0,f,h⟩:=r;refine⟨a,e,none_of st.ext.there h0,f,h,fun m=>?_,none_of R.ext.there h0⟩;obtain⟨o,ho⟩:=R.has m;rw[h0] at ho;cases ho
inductive rP (f:List D->Option U) (xs:List V) (H:Hp) (Q:VK):Prop
 | mk (F:Hp) (ds:List D) (u:U) (s:Sub F H) (r:bh F xs ds) (hf:f ds=some u) (q:∀v F' H',gO F H F' H'->Sub F' H'->Ai H F' H' v u->Q v H')
noncomputable def nQ:D->Bool
 | .tup _=>false
 | .lst _=>false
 | _=>true
noncomputable def toV:D->V
 | .bl b=>.bl b
 | .int i=>.int i
 | .str z=>.str z
 | _=>.bN
theorem Aj {F:Hp}:∀{d:D},nQ d=true->Rep F (toV d) d
 | .bN,_=>.bN
 | .bl b,_=>.bl b
 | .int i,_=>.int i
 | .str z,_=>.str z
 | .tup _,h=>by cases h
 | .lst _,h=>by cases h
noncomputable def aE (i:Nat):GE:=fun S=>match S[i]? with
 | some (some (.t d))=>some (.t d,S)
 | some (some (.s d))=>some (.s d,S) | some (some (.f d))=>some (.f d,S) | some (some (.x C k))=>some (.x C k,S)
 | some (some _)=>some (.v i,S)
 | _=>none
noncomputable def eC (d:D):GD:=fun S=>some (d,S)
noncomputable def aA:GA:=fun S=>some ([],S)
noncomputable def aa (g:GD) (ga:GA):GA:=fun S=>(g S).bind fun p=>(ga p.2).map fun q=>(p.1 :: q.1,q.2)
noncomputable def eP (f:List D->Option U) (ga:GA):GE:=fun S=>(ga S).bind fun p=>(f p.1).map fun u=>(u,p.2)
section
variable {X:Cx}{a b e:Expr}{es:BBC}{pos p:Pos}{x:Str}{g ga gb:GD}{gA:GA}{f:List D->Option U}
def bC (i:Nat) (hN:X.N[i]? =some x:=by rfl) (hv:wm X.env.scope x:=by first | exact Or.inl rfl | exact Or.inr (Or.inl rfl) | exact Or.inr (Or.inr rfl)) (hd:BBT x:=by decide)
  (hcd:BBU x:=by decide):JE X (.Name x pos) (aE i):=⟨fun B=>(dF hN hv hd hcd).imp fun σ H Q hh=>by
 obtain⟨S,F,u,S',R,hg,q⟩:=hh;unfold aE at hg;cases hs:S[i]? with
 | none=>rw[hs] at hg;cases hg
 | some o=>
  cases o with
  | none=>rw[hs] at hg;cases hg
  | some w=>
   rw[hs] at hg;obtain⟨v,h1,h2⟩:=R.rep i w hs;refine⟨v,h1,?_⟩;cases w with
   | t d=>cases hg;exact q v F H R (Step.refl ..) h2
   | m o=>cases hg;exact q v F H R (Step.refl ..) ⟨h1,_,hs⟩
   | b o=>cases hg;exact q v F H R (Step.refl ..) ⟨h1,_,hs⟩
   | s j=>cases hg;exact q v F H R (Step.refl ..) h2
   | f j=>cases hg;exact q v F H R (Step.refl ..) h2
   | x cx kx=>cases hg;exact q v F H R (Step.refl ..) h2
   | v j=>cases hg;exact q v F H R (Step.refl ..) ⟨h1,_,hs⟩⟩
def DQ {d:D}(hf:nQ d=true) (h:PE X e (tC (toV d))):JD X e (eC d):=⟨fun B=>h.imp fun σ H Q hh=>by
 obtain⟨S,F,u,S',R,hg,q⟩:=hh;cases hg;exact q _ F H R (Step.refl ..) (Aj hf)⟩
def aq {i j}:JD X (.Constant (.int i) j pos) (eC (.int i)):=DQ rfl ow
def jZ {i j}:JD X (.Constant (.bool i) j pos) (eC (.bl i)):=DQ rfl N7
def L6 {j}:JD X (.Constant .none j pos) (eC .bN):=DQ rfl Lm
def aM {i j}:JD X (.Constant (.str i) j pos) (eC (.str i)):=DQ rfl Fg
def aF:JA X [] aA:=⟨fun B=>kE.imp fun σ H Q hh=>by
 obtain⟨S,F,u,S',R,hg,q⟩:=hh;cases hg;exact q [] F H R (Step.refl ..) .nil⟩
def ah {α β:Type}{o:Option α}{f:α->Option β}{y:β}(h:o.bind f=some y):∃z,o=some z/\f z=some y:=by
 cases o with
 | none=>cases h
 | some z=>exact⟨z,rfl,h⟩
def az {α β:Type}{o:Option α}{f:α->β}{y:β}(h:o.map f=some y):∃z,o=some z/\f z=y:=by
 cases o with
 | none=>cases h
 | some z=>exact⟨z,rfl,Ym h⟩
def ao (h:JD X e g) (hr:JA X es gA) (hs:starEach (e :: es) X.env=(false,eval e X.env) :: starEach es X.env:=by rfl):JA X (e :: es) (aa g gA):=
 ⟨fun B=>(cU (h.h B) (hr.h B) hs).imp fun σ H Q hh=>by
 obtain⟨S,F,u,S',R,hg,q⟩:=hh;obtain⟨⟨d,S1⟩,h1,hg⟩:=ah hg;obtain⟨⟨ds,S2⟩,h2,hg⟩:=az hg;cases hg;exact⟨S,F,d,S1,R,h1,fun v F1 H1 R1 st1 r1=>⟨S1,F1,ds,S2,R1,h2,fun vs F2 H2 R2 st2 r2=>q _ F2 H2 R2 (st1.trans st2) (.cons (r1.le st2.ext.le) r2)⟩⟩⟩
def oE {Q:VK}{r:List V->Hp->VK->Prop}(hr:∀vs H1 Q1,rP f vs H1 Q1->r vs H1 Q1) (h:tE K B (eP f gA) σ H Q):Ve K B gA σ H fun vs H1=>r vs H1 Q:=by
 obtain⟨S,F,u,S',R,hg,q⟩:=h;obtain⟨⟨ds,S1⟩,h1,hg⟩:=ah hg;obtain⟨u',h2,hg⟩:=az hg;cases hg;exact⟨S,F,ds,S1,R,h1,fun vs F1 H1 R1 st1 r1=>hr _ _ _ ⟨F1,ds,_,R1.sub,r1,h2,fun v F2 H2 n s2 r2=>q v F2 H2 (R1.new n s2) (st1.trans n.step) (r2.F9 R1 st1)⟩⟩
def gP {id:String}(hc:jX X (.builtin id) (rP f)) (hg:Gl X x) (hm:X.mg x=none) (hv:bootBuiltins x=some (.builtin id)) (ha:JA X (e :: es) gA) (hn:x≠"__name__":=by decide) (hdb:BBT x:=by decide)
  (he:starEach (e :: es) X.env=(false,eval e X.env) :: starEach es X.env:=by rfl) (hpl:(backTo pos (starEach es X.env)).any (·.1)=false:=by rfl):JE X (.Call (.Name x p) (e :: es) [] pos) (eP f gA):=
 ⟨fun B=>(iR hc hg hm hv (ha.h B) hn hdb he hpl).imp fun σ H Q h=>oE (fun _ _ _ z=>z) h⟩
abbrev yU (X:Cx) (o:Value->Value->Sem Value) (f:List D->Option U):Prop:=wz X o (fun x y H Q=>rP f [x,y] H Q)
def pQ {Q:VK}(h:tE K B (eP f (aa ga (aa gb aA))) σ H Q):LB (fun x y H Q=>rP f [x,y] H Q) (tD K B ga) (tD K B gb) σ H Q:=by
 obtain⟨S,F,u,S',R,hg,q⟩:=h;obtain⟨⟨ds,S1⟩,h1,hg⟩:=ah hg;obtain⟨u',h2,hg⟩:=az hg;cases hg;obtain⟨⟨d1,T1⟩,k1,h1⟩:=ah h1;obtain⟨⟨Xs,T2⟩,k2,h1⟩:=az h1;cases h1;obtain⟨⟨d2,T3⟩,k3,k2⟩:=ah k2;obtain⟨⟨Xu,T4⟩,k4,k2⟩:=az k2;cases k2;cases k4;exact⟨S,F,d1,T1,R,k1,fun v1 F1 H1 R1 st1 r1=>⟨T1,F1,d2,_,R1,k3,fun v2 F2 H2 R2 st2 r2=>⟨F2,_,_,R2.sub,.cons (r1.le st2.ext.le) (.cons r2 .nil),h2,fun v F3 H3 n s3 r3=>q v F3 H3 (R2.new n s3) ((st1.trans st2).trans n.step) (r3.F9 R2 (st1.trans st2))⟩⟩⟩
def bE {op:Operator}(ho:yU X (binaryOp op) f) (ha:JD X a ga) (hb:JD X b gb):JE X (.BinOp a op b pos) (eP f (aa ga (aa gb aA))):=
 ⟨fun B=>(Oi ho (ha.h B) (hb.h B)).imp fun σ H Q h=>pQ h⟩
def fL (ho:yU X (compareOp op) f) (ha:JD X a ga) (hb:JD X b gb) (hm:behindInMarks op b=false:=by first | exact Bu _ | rfl):JE X (.Compare a [op] [b] pos) (eP f (aa ga (aa gb aA))):=
 ⟨fun B=>(Ip ho (ha.h B) (hb.h B) hm).imp fun σ H Q h=>pQ h⟩
def fO (hr:FI X (fun x y H Q=>rP f [x,y] H Q)) (ha:JD X a ga) (hb:JD X b gb) (hs:pO b):JE X (.Subscript a b pos) (eP f (aa ga (aa gb aA))):=
 ⟨fun B=>(Ad hr (ha.h B) (hb.h B) hs).imp fun σ H Q h=>pQ h⟩
noncomputable def cF:List D->Option U:=fun ds=>if ds.length<=100000 then XM (.tup ds) else none
noncomputable def cG:List D->Option U:=fun ds=>if ds.length<=100000 then XN ds else none
def iy (h:n<=100000):n<=sizeLine:=X7 h (by decide)
end
section
variable {X:Cx}{a b e:Expr}{es:BBC}{pos p:Pos}{g ga gb gc:GD}{gA:GA}{f f':List D->Option U}
def bu {x1}(h:JA X es gA):JE X (.Tuple es x1 pos) (eP cF gA):=
 ⟨fun B=>(LM (h.h B)).imp fun σ H Q z=>oE (r:=fun xs H1 Q=>xs.length<=sizeLine/\∀p,H1 p=none->Q (.ref p) (upd H1 p (.tup xs))) (fun vs H1 Q1 hh=>by
 obtain⟨F,ds,u,sb,rs,hf,q⟩:=hh;unfold cF at hf;split at hf
 ·rename_i hl;cases hf;refine⟨by rw[rs.length];exact iy hl,fun p hp=>?_⟩;exact q _ _ _ (gO.root sb hp _) (sb.BO hp) (.tup aX (rs.le (jH (sb.fresh hp))))
 ·cases hf) z⟩
def bD (h:JA X es gA):JE X (.List es pos) (eP cG gA):=
 ⟨fun B=>(Bw (h.h B)).imp fun σ H Q z=>oE (r:=fun xs H1 Q=>xs.length<=sizeLine/\∀p,H1 p=none->Q (.ref p) (upd H1 p (.lst xs))) (fun vs H1 Q1 hh=>by
 obtain⟨F,ds,u,sb,rs,hf,q⟩:=hh;unfold cG at hf;split at hf
 ·rename_i hl;cases hf;refine⟨by rw[rs.length];exact iy hl,fun p hp=>?_⟩;exact q _ F _ (gO.obj hp _) (sb.same (gO.obj (F:=F) hp _).same) ⟨p,rfl,hp,sb.fresh hp,vs,aX,rs⟩
 ·cases hf) z⟩
noncomputable def qB (g:GD):GT:=fun S=>(g S).bind fun p=>match p.1 with
 | .bl k=>some (k,p.2)
 | _=>none
noncomputable def wG (g:GT):GT:=fun S=>(g S).map fun p=>(!p.1,p.2)
noncomputable def ia (g h:GT):GT:=fun S=>(g S).bind fun p=>if p.1 then h p.2 else some (false,p.2)
noncomputable def Ga (g h:GT):GT:=fun S=>(g S).bind fun p=>if p.1 then some (true,p.2) else h p.2
noncomputable def eQ (g:GT):GD:=fun S=>(g S).map fun p=>(.bl p.1,p.2)
def kH (h:qB g S=some (k,S')):g S=some (.bl k,S'):=by
 obtain⟨⟨d,S1⟩,h1,h⟩:=ah h;cases d <;> cases h
 exact h1
def jI {F:Hp}{v:V}(r:Rep F v (.bl k)):v= .bl k:=by cases r;rfl
def fZ {F:Hp}{v:V}{i:Int}(r:Rep F v (.int i)):v= .int i:=by cases r;rfl
def CZ {F:Hp}{v:V}{i:Str}(r:Rep F v (.str i)):v= .str i:=by cases r;rfl
def iW (h:JD X e g) (he:∀whole,isTrue e X.env whole=(do let v <-whole;standAt e.pos;holding [v] (truthy v)):=by intro _;rfl):JT X e (qB g):=
 ⟨fun B=>(Lp (h.h B) he).imp fun σ H Q ⟨S,F,k,S',R,hg,q⟩=>⟨S,F,.bl k,S',R,kH hg,fun v F' H' R' st r=>⟨k,jI r,q F' H' R' st⟩⟩⟩
def OQ {gE:GE}{Q:VK}(h:tD K B (eF gE) σ H Q):tE K B gE σ H Q:=by
 obtain⟨S,F,d,S',R,hg,q⟩:=h;obtain⟨⟨u,S1⟩,h1,hg⟩:=ah hg;refine⟨S,F,u,S1,R,h1,fun v F1 H1 R1 st1 r1=>?_⟩;obtain⟨F2,R2,st2,r2⟩:=CY R1 st1 r1 hg;exact q v F2 H1 R2 st2 r2
def bK (ho:yU X (compareOp op) f) (ha:JD X a ga) (hb:JD X b gb) (hm:behindInMarks op b=false:=by first | exact Bu _ | rfl):JT X (.Compare a [op] [b] pos) (qB (eF (eP f (aa ga (aa gb aA))))):=
 ⟨fun B=>(CG ho (ha.h B) (hb.h B) hm).imp fun σ H Q ⟨S,F,k,S',R,hg,q⟩=>pQ (OQ ⟨S,F,.bl k,S',R,kH hg,fun v F' H' R' st r=>⟨k,jI r,q F' H' R' st⟩⟩)⟩
def l9 (h:JT X a q1):JT X (.UnaryOp .Not a pos) (wG q1):=
 ⟨fun B=>(Lq (h.h B)).imp fun σ H Q hh=>by
 obtain⟨S,F,k,S',R,hg,q⟩:=hh;obtain⟨⟨d,S1⟩,h1,hg⟩:=az hg;cases hg;exact⟨S,F,d,_,R,h1,fun F' H' R' st=>q F' H' R' st⟩⟩
def eB (h:JT X a q1):JW X (.BoolOp .And [a] pos) q1:=⟨fun B=>pw_and1 (h.h B)⟩
def j0 (h:JT X a q1):JW X (.BoolOp .Or [a] pos) q1:=⟨fun B=>pw_or1 (h.h B)⟩
def kI (h:JT X a q1) (hr:JW X (.BoolOp .And (b :: r) pos) q2):JW X (.BoolOp .And (a :: b :: r) pos) (ia q1 q2):=
 ⟨fun B=>(pw_and (h.h B) (hr.h B)).imp fun σ H Q hh=>by
 obtain⟨S,F,k,S',R,hg,q⟩:=hh;obtain⟨⟨d,S1⟩,h1,hg⟩:=ah hg;refine⟨S,F,d,S1,R,h1,fun F1 H1 R1 st1=>?_⟩;cases d with
 | true=>exact BE ⟨S1,F1,k,S',R1,hg,fun F2 H2 R2 st2=>q F2 H2 R2 (st1.trans st2)⟩
 | false=>cases hg;exact BD (q F1 H1 R1 st1)⟩
def uH (h:JT X a q1) (hr:JW X (.BoolOp .Or (b :: r) pos) q2):JW X (.BoolOp .Or (a :: b :: r) pos) (Ga q1 q2):=
 ⟨fun B=>(pw_or (h.h B) (hr.h B)).imp fun σ H Q hh=>by
 obtain⟨S,F,k,S',R,hg,q⟩:=hh;obtain⟨⟨d,S1⟩,h1,hg⟩:=ah hg;refine⟨S,F,d,S1,R,h1,fun F1 H1 R1 st1=>?_⟩;cases d with
 | false=>exact BD ⟨S1,F1,k,S',R1,hg,fun F2 H2 R2 st2=>q F2 H2 R2 (st1.trans st2)⟩
 | true=>cases hg;exact BE (q F1 H1 R1 st1)⟩
def JW.t (h:JW X e q1):JT X e q1:=⟨fun B=>(h.h B).pt⟩
def jJ {op}(h:JD X a g):JD X (.BoolOp op [a] pos) (eQ (qB g)):=⟨fun B=>(Lr (h.h B)).imp fun σ H Q hh=>by
 obtain⟨S,F,k,S',R,hg,q⟩:=hh;obtain⟨⟨d,S1⟩,h1,hg⟩:=az hg;cases hg;exact⟨S,F,.bl d,_,R,kH h1,q⟩⟩
def iX (h:JD X a g) (hr:JD X (.BoolOp .And (b :: r) pos) (eQ q2)):JD X (.BoolOp .And (a :: b :: r) pos) (eQ (ia (qB g) q2)):=
 ⟨fun B=>(Ls (h.h B) (hr.h B)).imp fun σ H Q hh=>by
 obtain⟨S,F,k,S',R,hg,q⟩:=hh;obtain⟨⟨d,S1⟩,h1,hg⟩:=az hg;cases hg;obtain⟨⟨d1,S2⟩,h1,h2⟩:=ah h1;refine⟨S,F,.bl d1,S2,R,kH h1,fun v F1 H1 R1 st1 r1=>⟨d1,jI r1,?_⟩⟩;cases d1 with
 | true=>
  have h2:q2 S2=some (d,S1):=h2;exact BE ⟨S2,F1,.bl d,S1,R1,by show(q2 S2).map _=_;rw[h2];rfl,fun v F2 H2 R2 st2 r2=>q v F2 H2 R2 (st1.trans st2) r2⟩
 | false=>cases h2;exact BD (q _ F1 H1 R1 st1 (.bl false))⟩
def OR (h:JD X a g) (hr:JD X (.BoolOp .Or (b :: r) pos) (eQ q2)):JD X (.BoolOp .Or (a :: b :: r) pos) (eQ (Ga (qB g) q2)):=
 ⟨fun B=>(N9 (h.h B) (hr.h B)).imp fun σ H Q hh=>by
 obtain⟨S,F,k,S',R,hg,q⟩:=hh;obtain⟨⟨d,S1⟩,h1,hg⟩:=az hg;cases hg;obtain⟨⟨d1,S2⟩,h1,h2⟩:=ah h1;refine⟨S,F,.bl d1,S2,R,kH h1,fun v F1 H1 R1 st1 r1=>⟨d1,jI r1,?_⟩⟩;cases d1 with
 | false=>
  have h2:q2 S2=some (d,S1):=h2;exact BD ⟨S2,F1,.bl d,S1,R1,by show(q2 S2).map _=_;rw[h2];rfl,fun v F2 H2 R2 st2 r2=>q v F2 H2 R2 (st1.trans st2) r2⟩
 | true=>cases h2;exact BE (q _ F1 H1 R1 st1 (.bl true))⟩
theorem iV.weak {F:Hp}{v:V}(t:∀b o,H0 b=some o->∃o',H1 b=some o'):∀{u:U},iV K B S σ H1 F H v u->iV K B S σ H0 F H v u
 | .t _,h=>h
 | .s _,h=>h
 | .f _,h=>h
 | .x _ _,h=>h
 | .m _,⟨a,e,h0,h⟩=>⟨a,e,none_of t h0,h⟩
 | .v _,h=>h
 | .b _,h=>h
noncomputable def Wj (f f':List D->Option U) (ga gb gc:GD):GD:=fun S=>(ga S).bind fun p=>(gb p.2).bind fun q=>match f [p.1,q.1] with
 | some (.t (.bl k))=>if k then(gc q.2).bind fun r=>match f' [q.1,r.1] with
   | some (.t (.bl k'))=>some (.bl k',r.2)
   | _=>none
  else some (.bl false,q.2)
 | _=>none
end
def bw {α:Type}{c:Prop}{i:Decidable c}{x w:α}(h:(@ite _ c i (some x) none)=some w):c/\x=w:=by
 by_cases hc:c
 ·rw[if_pos hc] at h;exact⟨hc,Ym h⟩
 ·rw[if_neg hc] at h;cases h
def j4 {α:Type}{c:Prop}{i:Decidable c}{x:Option α}{w:α}(h:(@ite _ c i x none)=some w):c/\x=some w:=by
 by_cases hc:c
 ·rw[if_pos hc] at h;exact⟨hc,h⟩
 ·rw[if_neg hc] at h;cases h
def KU {F:Hp}(r:bh F [x] ds):∃d,ds=[d]/\Rep F x d:=by
 cases r with
 | cons r rs=>cases rs;exact⟨_,rfl,r⟩
def sL {F:Hp}(r:bh F [x,y] ds):∃d e,ds=[d,e]/\Rep F x d/\Rep F y e:=by
 cases r with
 | cons r rs=>obtain⟨e,rfl,r2⟩:=KU rs;exact⟨_,e,rfl,r,r2⟩
noncomputable def Gb (C:Int->Int->Bool) (h:Int->Int->D):List D->Option U
 | [.int i,.int j]=>if C i j then some (.t (h i j)) else none
 | _=>none
section
variable {X:Cx}
def sM {o:Value->Value->Sem Value}{C:Int->Int->Bool}{h:Int->Int->D}{r:R2}(hr:wz X o r) (k:∀i j H Q,C i j=true->Q (toV (h i j)) H->r (.int i) (.int j) H Q) (hf:∀i j,nQ (h i j)=true):yU X o (Gb C h):=by
 intro pins s σ H x y v u Q I rx ry ⟨F,ds,w,sb,rs,hw,q⟩;obtain⟨d,e,rfl,r1,r2⟩:=sL rs;cases r1 <;> cases r2 <;> try (simp[Gb] at hw;done)
 rename_i i j;obtain⟨hc,rfl⟩:=bw hw;exact hr pins s σ H _ _ v u Q I rx ry (k i j H Q hc (q _ F H (gO.refl ..) sb (Aj (hf i j))))
abbrev nL:=Gb (fun _ _=>true) fun i j=>.int (i - j)
abbrev L7:=Gb (fun _ _=>true) fun i j=>.bl (decide (i < j))
abbrev L8:=Gb (fun _ _=>true) fun i j=>.bl (decide (i<=j))
abbrev Nm:=Gb (fun _ _=>true) fun i j=>.bl (decide (j < i))
abbrev IV:=Gb (fun _ j=>decide (0 < j) && decide (j < 1073741824)) fun i j=>.int (i / j)
abbrev wH:=Gb (fun _ j=>decide (0 < j)) fun i j=>.int (i % j)
abbrev OS:=Gb (fun i j=>decide (0<=j) && (decide (j<=1000) && decide (i.natAbs < 2 ^ 64))) fun i j=>.int (i ^ j.toNat)
def fh:yU X (binaryOp .Sub) nL:=sM LI (fun i j H Q _ q=>⟨i,j,rfl,rfl,q⟩) fun _ _=>rfl
def qL:yU X (compareOp .Lt) L7:=sM Om (fun i j H Q _ q=>⟨i,j,rfl,rfl,q⟩) fun _ _=>rfl
def qM:yU X (compareOp .LtE) L8:=sM Oo (fun i j H Q _ q=>⟨i,j,rfl,rfl,q⟩) fun _ _=>rfl
def uI:yU X (compareOp .Gt) Nm:=sM Oq (fun i j H Q _ q=>⟨i,j,rfl,rfl,q⟩) fun _ _=>rfl
def yV:yU X (binaryOp .FloorDiv) IV:=sM Io (fun i j H Q c q=>⟨i,j,rfl,rfl,by simpa[Ol] using c,q⟩) fun _ _=>rfl
def iz:yU X (binaryOp .Mod) wH:=sM LK (fun i j H Q c q=>⟨i,j,rfl,rfl,by simpa using c,q⟩) fun _ _=>rfl
def IW:yU X (binaryOp .Pow) OS:=sM LL (fun i j H Q c q=>⟨i,j,rfl,rfl,by
 simp only[Yo,YK] at c;exact⟨c.1,Int.le_trans c.2.1 (by decide),c.2.2⟩,q⟩) fun _ _=>rfl
def Sub.nR {F:Hp}{v:V}(s:Sub F H) (r:Rep F v (.tup ds)):∃a vs,v= .ref a/\F a=some (.tup vs)/\Rd H a (.tup vs)/\bh F vs ds:=by
 cases r with
 | tup e rs=>exact⟨_,_,rfl,e,Rd.of (s _ _ e),rs⟩
def Sub.jy {F:Hp}{v:V}(s:Sub F H) (r:Rep F v (.lst ds)):∃a vs,v= .ref a/\Rd F a (.lst vs)/\Rd H a (.lst vs)/\bh F vs ds:=by
 cases r with
 | lst e rs=>exact⟨_,_,rfl,e,e.imp (s _ _) fun⟨o,h⟩=>⟨o,s _ _ h⟩,rs⟩
def _root_.L2.Rd.Ae {pins:AAD}{s:Shared}(I:Inv X pins σ H s){l:Addr}(h:Rd H l (.lst xs)):
  xs.length<=sizeLine/\∃its n,Vals xs its/\xs.length=its.length/\s.heap.get? l=some {cls:=.type "list",data:=.seq its.toArray n}:=by
 obtain⟨z,its,n,r,e⟩:=(h.ok I.hok:fq X.prog X.w H s.heap l (.lst xs))
 exact⟨z,its,n,r,r.length,e⟩
noncomputable def gD:List D->Option U
 | [.int i,.int j]=>some (.t (.int (i+j)))
 | [.str i,.str j]=>if i.length+j.length<=100000 then some (.t (.str (i++j))) else none
 | [.tup i,.tup j]=>if i.length+j.length<=100000 then some (.t (.tup (i++j))) else none
 | [.lst i,.lst j]=>if i.length+j.length<=100000 then some (.m (.lst (i++j))) else none
 | _=>none
def cR:yU X (binaryOp .Add) gD:=by
 intro pins s σ H x y v u Q I rx ry ⟨F,ds,w,sb,rs,hw,q⟩;obtain⟨d,e,rfl,r1,r2⟩:=sL rs;cases d <;> cases e <;> try (cases hw;done)
 ·rename_i i j;cases hw;cases r1;cases r2;exact LH pins s σ H _ _ v u Q I rx ry ⟨i,j,rfl,rfl,q _ F H (gO.refl ..) sb (.int _)⟩
 ·rename_i i j;obtain⟨hl,rfl⟩:=bw hw;cases r1;cases r2;exact Bv pins s σ H _ _ v u Q I rx ry ⟨i,j,rfl,rfl,iy hl,q _ F H (gO.refl ..) sb (.str _)⟩
 ·rename_i i j;obtain⟨hl,rfl⟩:=bw hw;have Wl:=r2;have Wm:=r1;obtain⟨a,xs,rfl,fa,ha,xG⟩:=sb.nR r1;obtain⟨b,ys,rfl,fb,hb,IX⟩:=sb.nR r2;by_cases hx:xs=[]
  ·subst hx;cases xG;cases rx;cases ry;obtain⟨its,r1',p1,_⟩:=I.tuple (.inl ha);obtain⟨its2,r2',p2,_⟩:=I.tuple (.inl hb);cases r1';obtain⟨⟨cls,dd,data,sl⟩,ho,hc,n,hd⟩:=id p1;obtain⟨⟨RO,dd2,data2,sl2⟩,ho2,hc2,n2,hd2⟩:=id p2;simp only at hc hd hc2 hd2;subst hc hd hc2 hd2;exact concat_meets ⟨_,ho,rfl⟩ ⟨_,ho2,rfl⟩ aaZ seq_tuple_add aad Z5 (ZS _ _)
    (tuple_addW0 a b _ _ n n2 dd dd2 sl sl2 (by simp)) ⟨ho,ho2,⟨.ref b,H,I,rfl,q _ F H (gO.refl ..) sb Wl⟩⟩
  ·refine IE pins s σ H (.ref a) (.ref b) v u Q I rx ry ⟨a,b,xs,ys,rfl,rfl,.inl ha,.inl hb,hx,?_,fun hy=>?_,fun hy p hp=>?_⟩
   ·rw[xG.length,IX.length];exact iy hl
   ·subst hy;cases IX;exact q _ F H (gO.refl ..) sb (by show Rep F (.ref a) (.tup (i++[]));rw[Yt];exact Wm)
   ·exact q _ _ _ (gO.root sb hp _) (sb.BO hp) (.tup aX ((xG.append IX).le (jH (sb.fresh hp))))
 ·rename_i i j;obtain⟨hl,rfl⟩:=bw hw;obtain⟨a,xs,rfl,fa,ha,xG⟩:=sb.jy r1;obtain⟨b,ys,rfl,fb,hb,IX⟩:=sb.jy r2;cases rx;cases ry;obtain⟨z,its,n,r,hl1,e⟩:=Rd.Ae I ha;obtain⟨z2,its2,n2,r2,hl2,e2⟩:=Rd.Ae I hb;have hlen:xs.length+ys.length<=sizeLine:=by rw[xG.length,IX.length];exact iy hl
  refine PySem.P.add_list e e2 ?_ (by rw[XR,XR];lia);have ea:its.toArray++its2.toArray=(its++its2).toArray:=by simp
  rw[ea];have hp:H s.heap.objs.size=none:=I.fresh;refine⟨.ref _,_,I.RX (t':=s.toks) (r.append r2) (by rw[X4];lia),rfl,?_⟩;exact q _ F _ (gO.obj hp _) (sb.same (gO.obj (F:=F) hp _).same) ⟨_,rfl,hp,sb.fresh hp,_,aX,xG.append IX⟩
def BP:List D->Option U:=Gb (fun i j=>(decide (-(2 ^ 64) < i) && decide (i < 2 ^ 64)) || (decide (-(2 ^ 64) < j) && decide (j < 2 ^ 64))) fun i j=>.int (i * j)
def pR:yU X (binaryOp .Mult) BP:=sM LJ (fun i j H Q c q=>⟨i,j,rfl,rfl,by
 simp only[ZN,Yo,YK] at c;exact c,q⟩) fun _ _=>rfl
def ug:List D->Option U
 | [.tup ds,.int i]=>(dj ds i).map .t
 | [.lst ds,.int i]=>(dj ds i).map .t
 | [.str z,.int i]=>if z.length<=100000 then(dj z.cps.toList i).map fun c=>.t (.str ⟨#[c]⟩) else none
 | _=>none
def j5:FI X (fun x y H Q=>rP ug [x,y] H Q):=by
 intro value slice pins s σ H x y v u Q I rx ry ⟨F,ds,w,sb,rs,hw,q⟩ hsb;obtain⟨d,e,rfl,r1,r2⟩:=sL rs;cases d <;> cases e <;> try (cases hw;done)
 ·rename_i z i;obtain⟨hl,hw⟩:=j4 hw;obtain⟨c,hc,hw⟩:=az hw;subst hw;cases r1;cases r2;exact FL value slice pins s σ H _ _ v u Q I rx ry ⟨z,i,c,rfl,rfl,iy hl,hc,q _ F H (gO.refl ..) sb (.str _)⟩ hsb
 ·rename_i ds i;obtain⟨c,hc,hw⟩:=az (show(dj ds i).map U.t=some w from hw);subst hw;obtain⟨a,xs,rfl,fa,ha,xG⟩:=sb.nR r1;cases r2;obtain⟨w',h1,h2⟩:=xG.dj hc;exact FJ value slice pins s σ H _ _ v u Q I rx ry ⟨a,xs,i,w',rfl,rfl,.inl ha,h1,q _ F H (gO.refl ..) sb h2⟩ hsb
 ·rename_i ds i;obtain⟨c,hc,hw⟩:=az (show(dj ds i).map U.t=some w from hw);subst hw;obtain⟨a,xs,rfl,fa,ha,xG⟩:=sb.jy r1;cases r2;obtain⟨w',h1,h2⟩:=xG.dj hc;exact CT value slice pins s σ H _ _ v u Q I rx ry ⟨a,xs,i,w',rfl,rfl,.inl ha,h1,q _ F H (gO.refl ..) sb h2⟩ hsb
noncomputable def wI:List D->Option U
 | [.tup ds]=>some (.t (.int ds.length))
 | [.lst ds]=>some (.t (.int ds.length))
 | [.str z]=>if z.length<=100000 then some (.t (.int z.length)) else none
 | _=>none
def qN:jX X (.builtin "len") (rP wI):=by
 intro pins s σ H xs us Q I r ⟨F,ds,w,sb,rs,hw,q⟩
 match xs,ds,rs with
 | [],[],_=>exact absurd hw (by simp[wI])
 | [x],_,rs=>
  obtain⟨d,rfl,r1⟩:=KU rs;cases d <;> try (cases hw;done)
  ·rename_i z;obtain⟨hl,rfl⟩:=bw hw;cases r1;exact pP pins s σ H _ us Q I r ⟨z,rfl,iy hl,q _ F H (gO.refl ..) sb (.int _)⟩
  ·cases hw;obtain⟨a,xs,rfl,fa,ha,xG⟩:=sb.nR r1;exact kF pins s σ H _ us Q I r ⟨a,xs,rfl,.inr (.inl ha),by rw[xG.length];exact q _ F H (gO.refl ..) sb (.int _)⟩
  ·cases hw;obtain⟨a,xs,rfl,fa,ha,xG⟩:=sb.jy r1;exact kF pins s σ H _ us Q I r ⟨a,xs,rfl,.inl (.inl ha),by rw[xG.length];exact q _ F H (gO.refl ..) sb (.int _)⟩
 | _ :: _ :: _,[],rs=>cases rs
 | _ :: _ :: _,[_],rs=>cases rs with | cons _ rs=>cases rs
 | _ :: _ :: _,_ :: _ :: _,_=>exact absurd hw (by simp[wI])
end
noncomputable def mh (i:Nat) (u:U) (S:SS):Option SS:=match S[i]? with
 | some (some (.b _))=>none
 | some _=>some (S.set i (some u))
 | none=>none
def qO (h:mh i u S=some S'):S'=S.set i (some u)/\i < S.length/\∀o,S[i]?≠some (some (.b o)):=by
 unfold mh at h;cases e:S[i]? with
 | none=>rw[e] at h;cases h
 | some w=>
  have hl:i < S.length:=(XY.mp e).1;rw[e] at h;cases w with
  | none=>cases h;exact⟨rfl,hl,fun o z=>by cases z⟩
  | some w=>
   cases w with
   | b o=>cases h
   | t d=>cases h;exact⟨rfl,hl,fun o z=>by cases z⟩
   | m d=>cases h;exact⟨rfl,hl,fun o z=>by cases z⟩
   | v d=>cases h;exact⟨rfl,hl,fun o z=>by cases z⟩
   | s d=>cases h;exact⟨rfl,hl,fun o z=>by cases z⟩
   | f d=>cases h;exact⟨rfl,hl,fun o z=>by cases z⟩
   | x cx kx=>cases h;exact⟨rfl,hl,fun o z=>by cases z⟩
def KW (B:Base) (S:SS) (σ:St) (F H:Hp) (v:V):U->Prop
 | .t d=>Rep F v d
 | .m o=>∃a,v= .ref a/\F a=none/\At F H a o/\¬cg S σ a/\B.H a=none
 | .x C k=>yT F v C k
 | _=>False
def Rel.put {F:Hp}{v:V}(R:Rel K B S σ F H) (h:mh i u S=some S') (p:KW B S σ F H v u):Rel K B S' (σ.set i (some v)) F H:=by
 obtain⟨rfl,hl,nb⟩:=qO h;have hl':i < σ.length:=by rw[<-R.len];exact hl
 have out:∀{j:Nat},i≠j->(σ.set i (some v))[j]? =σ[j]?:=fun ne=>X5 ne;have DR:(σ.set i (some v))[i]? =some (some v):=Yk hl';have KY:∀j w a,i≠j->S[j]? =some (some w)->dM w=true->dM u=true->σ[j]? =some (some (.ref a))->v≠.ref a:=fun j w a ne hj hm hu hv z=>by
  cases u with
  | t d=>cases hu
  | v k=>cases hu
  | s k=>cases hu
  | f k=>cases hu
  | x cx kx=>cases hu
  | b o=>exact p
  | m o=>
   obtain⟨c,e,_,_,nm,_⟩:=p;rw[z] at e;cases e;exact nm ⟨j,w,hj,hm,hv⟩
 refine⟨R.sub,by rw[YU,YU];exact R.len,fun j w hj=>?_,fun j k w1 w2 a h1 m1 h2 m2 v1 v2=>?_,fun j o a hj hv=>?_,fun j o a hj hv=>?_,fun j a hj=>?_,R.ext⟩
 ·rcases get_set hj with⟨rfl,q,_⟩ | ⟨ne,q⟩
  ·cases q;refine⟨v,DR,?_⟩;cases u with
   | t d=>exact p
   | m o=>obtain⟨a,e,f,h,_⟩:=p;exact⟨a,e,f,h⟩
   | b o=>cases p
   | v k=>cases p
   | s k=>cases p
   | f k=>cases p
   | x cx kx=>exact p
  ·rw[out ne];exact R.rep j w q
 ·rcases get_set h1 with⟨rfl,q1,_⟩ | ⟨ne1,q1⟩
  ·rcases get_set h2 with⟨rfl,q2,_⟩ | ⟨ne2,q2⟩
   ·rfl
   ·cases q1;rw[DR] at v1;rw[out ne2] at v2;cases v1;exact absurd rfl (KY k w2 a ne2 q2 m2 m1 v2)
  ·rcases get_set h2 with⟨rfl,q2,_⟩ | ⟨ne2,q2⟩
   ·cases q2;rw[DR] at v2;rw[out ne1] at v1;cases v2;exact absurd rfl (KY j w1 a ne1 q1 m1 m2 v1)
   ·rw[out ne1] at v1;rw[out ne2] at v2;exact R.BN j k w1 w2 a q1 m1 q2 m2 v1 v2
 ·rcases get_set hj with⟨rfl,q,_⟩ | ⟨ne,q⟩
  ·cases q;rw[DR] at hv;cases hv;obtain⟨c,e,_,_,_,hB⟩:=p;cases e;exact hB
  ·rw[out ne] at hv;exact R.own j o a q hv
 ·rcases get_set hj with⟨rfl,q,_⟩ | ⟨ne,q⟩
  ·cases q;cases p
  ·rw[out ne] at hv;exact R.bor j o a q hv
 ·obtain⟨h1,o,h2⟩:=R.par j a hj;have ne:i≠j:=fun z=>by subst z;exact nb o h2
  exact⟨by rw[out ne];exact h1,o,by rw[X5 ne];exact h2⟩
noncomputable def eG:GS:=fun S=>some (.nx S)
noncomputable def bf (a b:GS):GS:=fun S=>(a S).bind fun o=>match o with
 | .nx S1=>b S1
 | o=>some o
def cP (i:Nat) (g:GE):GS:=fun S=>(g S).bind fun p=>match p.1 with
 | .m o=>(mh i (.m o) p.2).map .nx
 | u=>(fz u p.2).bind fun q=>(mh i (.t q.1) q.2).map .nx
noncomputable def gQ (g:GE):GS:=fun S=>(g S).map fun p=>.nx p.2
noncomputable def cy (g:GE):GS:=fun S=>(g S).bind fun p=>match p.1 with
 | .v i=>match p.2[i]? with
  | some (some (.t d))=>some (.rt (.t d) p.2)
  | some (some (.m o))=>some (.rt (.m o) (p.2.set i none))
  | _=>none
 | .s _=>none
 | .f _=>none
 | .x _ _=>none
 | u=>some (.rt u p.2)
noncomputable def mj (q:GT) (a b:GS):GS:=fun S=>(q S).bind fun p=>if p.1 then a p.2 else b p.2
theorem xF.mono {F:Hp}{D:Ends}(g:∀b o,F b=some o->F1 b=some o):∀{o:Out},xF K B F D o->xF K B F1 D o
 | .nx _,h=>fun σ' F' H' R le=>h σ' F' H' R fun b o z=>le b o (g b o z)
 | .bk _,h=>fun σ' F' H' R le=>h σ' F' H' R fun b o z=>le b o (g b o z)
 | .ct _,h=>fun σ' F' H' R le=>h σ' F' H' R fun b o z=>le b o (g b o z)
 | .rt _ _,h=>fun v σ' F' H' R le=>h v σ' F' H' R fun b o z=>le b o (g b o z)
section
variable {X:Cx}{a b c e:Expr}{pos p:Pos}{x:Str}{st:Stmt}{rest b1 b2 body:BBH}{g:GE}{s1 s2:GS}{q1:GT}
def bO:JB X [] eG:=⟨fun B=>Ij.imp fun D σ H ⟨S,F,o,R,h,k⟩=>by cases h;exact k σ F H R fun _ _ z=>z⟩
def aH (h1:JS X st s1) (h2:JB X rest s2):JB X (st :: rest) (bf s1 s2):=⟨fun B=>(pL (h1.h B) (h2.h B)).imp fun D σ H hh=>by
 obtain⟨S,F,o,R,h,k⟩:=hh;obtain⟨o1,e1,h⟩:=ah h;refine⟨S,F,o1,R,e1,?_⟩;cases o1 with
 | nx S1=>exact fun σ' F' H' R' le=>⟨S1,F',o,R',h,k.mono le⟩
 | rt u S1=>cases h;exact k
 | bk S1=>cases h;exact k
 | ct S1=>cases h;exact k⟩
def aO (h1:JS X st s1):JB X [st] s1:=⟨fun B=>Ik (h1.h B)⟩
def iV.put {F:Hp}{v:V}{o:MO}(r:iV K B S σ H0 F H v (.m o)):KW B S σ F H v (.m o):=by
 obtain⟨a,e,_,f,h,n,hB⟩:=r;exact⟨a,e,f,h,n,hB⟩
def IY {D:Ends}(h:tO K B (cP i g) D σ H):Lw (tE K B g) (CD i) D σ H:=by
 obtain⟨S,F,o,R,h,k⟩:=h;obtain⟨⟨u,S1⟩,h1,h⟩:=ah h;refine⟨S,F,u,S1,R,h1,fun v F1 H1 R1 st1 r1=>?_⟩;have go:(∀o',u≠.m o')->(fz u S1).bind (fun q=>(mh i (.t q.1) q.2).map Out.nx)=some o->D.nx (σ.set i (some v)) H1:=fun _ h=>by
  obtain⟨⟨d,S2⟩,h2,h⟩:=ah h;obtain⟨S3,h3,h⟩:=az h;subst h;obtain⟨F2,R2,st2,r2⟩:=CY R1 st1 r1 h2;exact k _ F2 H1 (R2.put h3 r2) st2.ext.le
 cases u with
 | m o'=>
  obtain⟨S3,h3,h⟩:=az (show(mh i (.m o') S1).map Out.nx=some o from h);subst h;exact k _ F1 H1 (R1.put h3 r1.put) st1.ext.le
 | t d=>exact go (fun _ z=>by cases z) h
 | b d=>exact go (fun _ z=>by cases z) h
 | s d=>exact go (fun _ z=>by cases z) h
 | f d=>exact go (fun _ z=>by cases z) h
 | x cx kx=>exact go (fun _ z=>by cases z) h
 | v d=>exact go (fun _ z=>by cases z) h
def Ma {pos':Pos}(hN:X.N.Nodup) (hi:X.N[i]? =some x) (hx:Loc X.env.scope x) (he:JE X e g) (hs:swapsWith e (some (.Name x pos')) pos.line X.env=pure false:=by rfl)
  (hf:X.fn x=true\/X.env.scope.names.lookup x=some .local:=by first | exact .inl rfl | exact .inr rfl | assumption):JS X (.Assign [.Name x pos'] e pos) (cP i g):=
 ⟨fun B=>(Br hN hi hx (he.h B) hs hf).imp fun D σ H h=>IY h⟩
def d7 (he:JE X e g) (hs:swapsWith e none pos.line X.env=pure false:=by rfl):JS X (.Expr e pos) (gQ g):=⟨fun B=>(Il (he.h B) hs).imp fun D σ H hh=>by
 obtain⟨S,F,o,R,h,k⟩:=hh;obtain⟨⟨u,S1⟩,h1,h⟩:=az h;subst h;exact⟨S,F,u,S1,R,h1,fun v F1 H1 R1 st1 r1=>k σ F1 H1 R1 st1.ext.le⟩⟩
def Rel.drop {F:Hp}{o:MO}(R:Rel K B S σ F H) (h:S[i]? =some (some (.m o))):Rel K B (S.set i none) σ F H:=by
 have back:∀{j w},(S.set i none)[j]? =some (some w)->i≠j/\S[j]? =some (some w):=fun {j w} z=>by
  rcases get_set z with⟨_,q,_⟩ | q
  ·cases q
  ·exact q
 refine⟨R.sub,by rw[YU];exact R.len,fun j w z=>R.rep j w (back z).2,fun j k w1 w2 a h1 m1 h2 m2=>R.BN j k w1 w2 a (back h1).2 m1 (back h2).2 m2,fun j o a z=>R.own j o a (back z).2,fun j o a z=>R.bor j o a (back z).2,fun j a z=>?_,R.ext⟩;obtain⟨k1,o',k2⟩:=R.par j a z;have ne:i≠j:=fun z=>by subst z;rw[h] at k2;cases k2
 exact⟨k1,o',by rw[X5 ne];exact k2⟩
def aY (he:JE X e g):JS X (.Return (some e) pos) (cy g):=⟨fun B=>(Lu (he.h B)).imp fun D σ H hh=>by
 obtain⟨S,F,o,R,h,k⟩:=hh;obtain⟨⟨u,S1⟩,h1,h⟩:=ah h;refine⟨S,F,u,S1,R,h1,fun v F1 H1 R1 st1 r1=>?_⟩;cases u with
 | t d=>cases h;exact k v σ F1 H1 R1 st1.ext.le r1
 | b d=>cases h;cases r1
 | s d=>cases h
 | f d=>cases h
 | x cx kx=>cases h
 | m o'=>cases h;exact k v σ F1 H1 R1 st1.ext.le (by obtain⟨a,e,h0,f,h,n,hB⟩:=r1;exact⟨a,e,hB,f,h,n,hB⟩)
 | v i=>
  obtain⟨hv,w,hw⟩:=r1;dsimp only at h;rw[hw] at h;obtain⟨v',z1,z2⟩:=R1.rep i w hw;rw[hv] at z1;cases z1;cases w with
  | t d=>cases h;exact k v σ F1 H1 R1 st1.ext.le z2
  | b d=>cases h
  | v d=>cases h
  | s d=>cases h
  | f d=>cases h
  | x cx kx=>cases h
  | m o'=>
   cases h;obtain⟨a,rfl,f,ha⟩:=z2;have hB:=R1.own i o' a hw hv;refine k _ σ F1 H1 (R1.drop hw) st1.ext.le ⟨a,rfl,hB,f,ha,fun hh=>?_,hB⟩;obtain⟨j,w,z,hm,hj⟩:=hh;rcases get_set z with⟨_,q,_⟩ | ⟨ne,q⟩
   ·cases q
   ·exact ne (R1.BN i j _ w a hw rfl q hm hv hj)⟩
def cL (hc:JT X c q1) (ha:JB X b1 s1) (hb:JB X b2 s2):JS X (.If c b1 b2 pos) (mj q1 s1 s2):=⟨fun B=>(Od (hc.h B) (ha.h B) (hb.h B)).imp fun D σ H hh=>by
 obtain⟨S,F,o,R,h,k⟩:=hh;obtain⟨⟨d,S1⟩,h1,h⟩:=ah h;refine⟨S,F,d,S1,R,h1,fun F1 H1 R1 st1=>?_⟩;cases d with
 | true=>exact BE ⟨S1,F1,o,R1,h,k.mono st1.ext.le⟩
 | false=>exact BD ⟨S1,F1,o,R1,h,k.mono st1.ext.le⟩⟩
abbrev GB:=D->SS->Option SS
inductive Wn (K:AAA) (B:Base) (bd:GB) (v:V) (σ:St) (H:Hp) (Q:St->Hp->Prop):Prop
 | mk (S:SS) (F:Hp) (d:D) (S':SS) (R:Rel K B S σ F H) (r:Rep F v d) (hg:bd d S=some S') (q:∀σ',Rel K B S' σ' F H->Q σ' H)
structure JG (X:Cx) (tg:Expr) (bd:GB):Prop where
 h:∀B,PG X tg (Wn X.K B bd)
abbrev Wo:=List D->SS->Option SS
def PG.imp {t t':TG}(h:PG X tg t) (k:∀v σ H Q,t' v σ H Q->t v σ H Q):PG X tg t':=fun pins s σ H v u Q I r q=>h pins s σ H v u Q I r (k v σ H Q q)
def bName (i:Nat):GB:=fun d S=>mh i (.t d) S
def IZ (hN:X.N.Nodup) (hi:X.N[i]? =some x) (hx:Loc X.env.scope x) (hf:X.fn x=true\/X.env.scope.names.lookup x=some .local:=by first | exact .inl rfl | exact .inr rfl | assumption):JG X (.Name x pos) (bName i):=
 ⟨fun B=>(CF hN hi hx hf).imp fun v σ H Q ⟨S,F,d,S',R,r,h,k⟩=>k _ (R.put h r)⟩
noncomputable def Sx:Wo:=fun ds S=>match ds with
 | []=>some S
 | _=>none
def Walk (J:It) (F:Hp) (ds:List D):Prop:=∀F' H',(∀b o,F b=some o->F' b=some o)->Sub F' H'->∀i,(∀d,ds[i]? =some d->J.go i H'/\∀x H2,J.Of i H' x H2->H2=H'/\Rep F' x d)/\(ds.length<=i->J.stop i H')
abbrev GI:=SS->Option (List D×SS)
inductive Vf (K:AAA) (B:Base) (gi:GI) (σ:St) (H:Hp) (Q:It->Hp->Prop):Prop
 | mk (S:SS) (F:Hp) (ds:List D) (S':SS) (R:Rel K B S σ F H) (hg:gi S=some (ds,S')) (q:∀J F' H',Rel K B S' σ F' H'->Step S S' σ F H F' H'->Walk J F' ds->Q J H')
structure JI (X:Cx) (tg e:Expr) (gi:GI):Prop where
 h:∀B,PI X tg e (Vf X.K B gi)
def PI.orelse {wi:TI}(h:∀σ H R,wi σ H R->∃wi',PI X tg e wi'/\wi' σ H R):PI X tg e wi:=fun pins s σ H R I q=>let⟨_,h1,h2⟩:=h σ H R q;h1 pins s σ H R I h2
noncomputable def pS (g:GD):GI:=fun S=>(g S).bind fun p=>match p.1 with
 | .tup ds=>some (ds,p.2)
 | .lst ds=>some (ds,p.2)
 | .str z=>some (z.cps.toList.map fun c=>.str ⟨#[c]⟩,p.2)
 | _=>none
def DS {F:Hp}{a:Addr}(fa:Rd F a (.lst vs)) (rs:bh F vs ds):Walk (RE K a) F ds:=fun F' H' le sb i=>by
 have ha:oz K H' a vs:=.inl (fa.imp (fun z=>sb a _ (le _ _ z)) fun⟨o,z⟩=>⟨o,sb a _ (le _ _ z)⟩);refine⟨fun d hd=>?_,fun hl=>⟨vs,ha,by rw[rs.length];exact hl⟩⟩;obtain⟨v,h1,h2⟩:=rs.get hd;refine⟨⟨vs,v,ha,h1⟩,fun x H2 y=>⟨y.1,?_⟩⟩;have:=y.2 vs ha;rw[h1] at this;cases this;exact h2.le le
def Gd {F:Hp}{a:Addr}(fa:F a=some (.tup vs)) (rs:bh F vs ds):Walk (RG K a) F ds:=fun F' H' le sb i=>by
 have ha:Bq K H' a vs:=.inl (Rd.of (sb a _ (le _ _ fa)));refine⟨fun d hd=>?_,fun hl=>⟨vs,ha,by rw[rs.length];exact hl⟩⟩;obtain⟨v,h1,h2⟩:=rs.get hd;refine⟨⟨vs,v,ha,h1⟩,fun x H2 y=>⟨y.1,?_⟩⟩;have:=y.2 vs ha;rw[h1] at this;cases this;exact h2.le le
def Ge {F:Hp}:Walk (we z) F (z.cps.toList.map fun c=>.str ⟨#[c]⟩):=fun F' H' le sb i=>by
 refine⟨fun d hd=>?_,fun hl=>(show z.cps.size<=i by simpa using hl)⟩;rw[Yl] at hd;obtain⟨c,hc,rfl⟩:=az hd;have hc':z.cps[i]? =some c:=by rw[<-YE];exact hc
 refine⟨(Array.getElem?_eq_some_iff.mp hc').1,fun x H2 y=>⟨y.1,?_⟩⟩;obtain⟨c2,k1,rfl⟩:=y.2;rw[hc'] at k1;cases k1;exact .str _
def jK {gd:GD}(h:JD X e gd):JI X (.Name x pos) e (pS gd):=⟨fun B=>PI.orelse fun σ H R0 hh=>by
 obtain⟨S,F,ds,S',R,hg,k⟩:=hh;obtain⟨⟨d,S1⟩,h1,hg⟩:=ah hg;cases d <;> try (cases hg)
 ·refine⟨_,L1 (h.h B),S,F,_,_,R,h1,fun v F1 H1 R1 st1 r1=>?_⟩;exact⟨_,CZ r1,k _ F1 H1 R1 st1 Ge⟩
 ·refine⟨_,Ly (h.h B),S,F,_,_,R,h1,fun v F1 H1 R1 st1 r1=>?_⟩;obtain⟨a,vs,rfl,fa,ha,rs⟩:=R1.sub.nR r1;exact⟨a,rfl,⟨vs,.inl ha⟩,k _ F1 H1 R1 st1 (Gd fa rs)⟩
 ·refine⟨_,Im (h.h B),S,F,_,_,R,h1,fun v F1 H1 R1 st1 r1=>?_⟩;obtain⟨a,vs,rfl,fa,ha,rs⟩:=R1.sub.jy r1;exact⟨a,rfl,⟨vs,.inl ha⟩,k _ F1 H1 R1 st1 (DS fa rs)⟩⟩
noncomputable def Bo (lo:Int) (n:Nat):List D:=(List.range n).map fun(k:Nat)=>D.int (lo+(k:Int))
def nT (gA:GA):GI:=fun S=>(gA S).bind fun p=>match p.1 with
 | [.int j]=>if j < 1000000/\-1000000 < j then some (Bo 0 j.toNat,p.2) else none
 | _=>none
def Gf {F:Hp}{lo:Int}:Walk (Ql lo n) F (Bo lo n):=fun F' H' le sb i=>by
 refine⟨fun d hd=>?_,fun hl=>(show n<=i by simpa[Bo] using hl)⟩;unfold Bo at hd;rw[Yl] at hd;obtain⟨c,hc,rfl⟩:=az hd;obtain⟨hl,e⟩:=XY.mp hc;rw[List.getElem_range] at e;subst e;refine⟨show i < n by simpa using hl,fun x H2 y=>⟨y.1,?_⟩⟩;rw[y.2];exact .int _
def xH {gA:GA}(hg:Gl X "range") (hm:X.mg "range" =none) (ha:JA X [a] gA) (hs:starEach [a] X.env=[(false,eval a X.env)]:=by rfl):JI X tg (.Call (.Name "range" p) [a] [] pos) (nT gA):=
 ⟨fun B=>PI.orelse fun σ H R0 hh=>by
 obtain⟨S,F,ds,S',R,hg',k⟩:=hh;obtain⟨⟨d,S1⟩,h1,hg'⟩:=ah hg';refine⟨_,DE hg hm (ha.h B) hs,S,F,d,S1,R,h1,fun vs F1 H1 R1 st1 r1=>?_⟩;dsimp only at hg';split at hg'
 ·split at hg'
  ·rename_i j hj;cases hg';cases r1 with
   | cons r rs=>
    cases rs;exact⟨j,by rw[fZ r],by lia,by lia,k _ F1 H1 R1 st1 Gf⟩
  ·cases hg'
 ·cases hg'⟩
noncomputable def loop (bd:GB) (body:GS):List D->SS->Option Out
 | [],S=>some (.nx S)
 | d :: ds,S=>(bd d S).bind fun S1=>(body S1).bind fun o=>match o with
  | .nx S2=>loop bd body ds S2
  | .ct S2=>loop bd body ds S2
  | .bk S2=>some (.nx S2)
  | .rt u S2=>some (.rt u S2)
def tT (bd:GB) (gi:GI) (body:GS):GS:=fun S=>(gi S).bind fun p=>loop bd body p.1 p.2
def oF {bd:GB}(hp:PassesOwn (model X.prog X.w) X.A X.env X.xe) (hc:X.calm=true) (hi:JI X tg iter gi) (hg:JG X tg bd) (hb:JB X body s1) (hs:∀x,foldedSetIterable iter X.env x=pure x:=by intro _;rfl):
  JS X (.For tg iter body [] pos) (tT bd gi s1):=⟨fun B=>(Lz hp hc (hi.h B) (hg.h B) (hb.h B) hs).imp fun D σ H hh=>by
 obtain⟨S,F,o,R,h,k⟩:=hh;obtain⟨⟨ds,S1⟩,h1,h⟩:=ah h;refine⟨S,F,ds,S1,R,h1,fun J F1 H1 R1 st1 w=>?_⟩;refine⟨fun i m σ' H'=>∃S' F',Rel X.K B S' σ' F' H'/\(∀b o,F1 b=some o->F' b=some o)/\i<=ds.length/\m=ds.length - i/\loop bd s1 (ds.drop i) S'=some o,⟨_,S1,F1,R1,fun _ _ z=>z,YY _,rfl,h⟩,?_⟩;rintro i m σ' H' ⟨S',F',R',le,hl,rfl,mq⟩;have w':=w F' H' le R'.sub i;by_cases hlt:i < ds.length
 ·have hd:ds[i]? =some ds[i]:=Yh hlt;obtain⟨go,yl⟩:=w'.1 _ hd;rw[ZO hlt] at mq;obtain⟨S2,e2,mq⟩:=ah mq;obtain⟨o2,e3,mq⟩:=ah mq;refine .inr ⟨go,_,fun σ2 H2 n=>⟨ds.length - (i+1),by lia,n⟩,fun x H2 y=>?_⟩;obtain⟨rfl,rx⟩:=yl x H2 y;refine⟨S',F',_,S2,R',rx,e2,fun σ3 R3=>⟨S2,F',o2,R3,e3,?_⟩⟩;cases o2 with
  | nx S3=>exact fun Gg F4 H4 R4 BQ=>⟨S3,F4,R4,fun b o z=>BQ b o (le b o z),hlt,rfl,mq⟩
  | ct S3=>exact fun Gg F4 H4 R4 BQ=>⟨S3,F4,R4,fun b o z=>BQ b o (le b o z),hlt,rfl,mq⟩
  | bk S3=>cases mq;exact fun Gg F4 H4 R4 BQ=>k Gg F4 H4 R4 fun b o z=>BQ b o (le b o (st1.ext.le b o z))
  | rt u S3=>cases mq;exact fun v Gg F4 H4 R4 BQ=>k v Gg F4 H4 R4 fun b o z=>BQ b o (le b o (st1.ext.le b o z))
 ·have e:i=ds.length:=by lia
  subst e;rw[List.drop_length] at mq;cases mq;exact .inl ⟨w'.2 (XW _),k σ' F' H' R' fun b o z=>le b o (st1.ext.le b o z)⟩⟩
noncomputable def sN (q:GT) (body:GS):Nat->SS->Option Out
 | 0,_=>none
 | n+1,S=>(q S).bind fun p=>if p.1 then(body p.2).bind fun o=>match o with
  | .nx S2=>sN q body n S2
  | .ct S2=>sN q body n S2
  | .bk S2=>some (.nx S2)
  | .rt u S2=>some (.rt u S2)
 else some (.nx p.2)
def BR (fuel:Nat) (q:GT) (body:GS):GS:=fun S=>sN q body fuel S
def Gh {fuel:Nat}(hp:PassesOwn (model X.prog X.w) X.A X.env X.xe) (hc:JT X c q1) (hb:JB X body s1):JS X (.While c body [] pos) (BR fuel q1 s1):=⟨fun B=>(Fo hp (hc.h B) (hb.h B)).imp fun D σ H hh=>by
 obtain⟨S,F,o,R,h,k⟩:=hh;refine⟨fun m σ' H'=>∃S' F',Rel X.K B S' σ' F' H'/\(∀b o,F b=some o->F' b=some o)/\sN q1 s1 m S'=some o,⟨fuel,S,F,R,fun _ _ z=>z,h⟩,?_⟩;rintro m σ' H' ⟨S',F',R',le,h⟩;cases m with
 | zero=>cases h
 | succ m=>
  obtain⟨⟨d,S1⟩,h1,h⟩:=ah h;refine⟨S',F',d,S1,R',h1,fun F1 H1 R1 st1=>?_⟩;cases d with
  | false=>
   cases h;exact BD (k σ' F1 H1 R1 fun b o z=>st1.ext.le b o (le b o z))
  | true=>
   obtain⟨o2,e3,h⟩:=ah (show(s1 S1).bind _=some o from h);refine BE ⟨_,fun σ2 H2 n=>⟨m,aai m,n⟩,S1,F1,o2,R1,e3,?_⟩;have Nn:∀b o,F b=some o->F1 b=some o:=fun b o z=>st1.ext.le b o (le b o z);cases o2 with
   | nx S3=>exact fun Gg F4 H4 R4 BQ=>⟨S3,F4,R4,fun b o z=>BQ b o (Nn b o z),h⟩
   | ct S3=>exact fun Gg F4 H4 R4 BQ=>⟨S3,F4,R4,fun b o z=>BQ b o (Nn b o z),h⟩
   | bk S3=>cases h;exact fun Gg F4 H4 R4 BQ=>k Gg F4 H4 R4 fun b o z=>BQ b o (Nn b o z)
   | rt u S3=>cases h;exact fun v Gg F4 H4 R4 BQ=>k v Gg F4 H4 R4 fun b o z=>BQ b o (Nn b o z)⟩
end
noncomputable def Np:U->MO->Option U
 | .m _,o=>some (.m o)
 | .b _,o=>some (.b o)
 | _,_=>none
noncomputable def Nq:U->Option MO
 | .m o=>some o
 | .b o=>some o
 | _=>none
noncomputable def uJ (S:SS) (i:Nat) (f:MO->Option (D×MO)):Option (D×SS):=match S[i]? with
 | some (some (.m o))=>(f o).map fun r=>(r.1,S.set i (some (.m r.2)))
 | some (some (.b o))=>(f o).map fun r=>(r.1,S.set i (some (.b r.2)))
 | _=>none
def At.OT {F:Hp}{o:MO}{ob:Obj}{u:HO}(h:At F H a o):H a≠some (.iw ob u):=fun z=>by
 cases o with
 | lst ds=>obtain⟨vs,e,_⟩:=h;rw[z] at e;cases e
 | dct ds=>obtain⟨vs,e,_⟩:=h;rw[z] at e;cases e
 | wg ds=>obtain⟨vs,e,_⟩:=h;rw[z] at e;cases e
 | ins C ds=>obtain⟨vs,⟨dx,e⟩,_⟩:=h;rw[z] at e;cases e
 | gap ds=>obtain⟨vs,e,_⟩:=h;rw[z] at e;cases e
 | lat c ds=>obtain⟨vs,⟨_,e⟩,_⟩:=h;rw[z] at e;cases e
 | E1 c ds=>obtain⟨vs,⟨_,e⟩,_⟩:=h;rw[z] at e;cases e
 | E2 C ds=>obtain⟨vs,⟨dx,e⟩,_⟩:=h;rw[z] at e;cases e
def wF.cg {F:Hp}{v:V}(r:wF K F H v u) (hm:dM u=true):∃a o,v= .ref a/\F a=none/\Nq u=some o/\At F H a o:=by
 cases u with
 | t d=>cases hm
 | v d=>cases hm
 | s d=>cases hm
 | f d=>cases hm
 | x cx kx=>cases hm
 | m o=>obtain⟨a,e,f,h⟩:=r;exact⟨a,o,e,f,rfl,h⟩
 | b o=>obtain⟨a,e,f,h⟩:=r;exact⟨a,o,e,f,rfl,h⟩
def Rel.write {F:Hp}{u':U}{ho:HO}{o:MO}(R:Rel K B S σ F H) (hS:S[i]? =some (some u)) (hu:Np u o=some u') (hv:σ[i]? =some (some (.ref a))) (ha:At F (upd H a ho) a o):
  Rel K B (S.set i (some u')) σ F (upd H a ho)/\Step S (S.set i (some u')) σ F H F (upd H a ho):=by
 have hm:dM u=true/\dM u'=true:=by cases u <;> cases hu <;> exact⟨rfl,rfl⟩
 have OU:F a=none/\∀b ob w,H b=some (.iw ob w)->b≠a:=by
  obtain⟨v,h1,h2⟩:=R.rep i u hS;rw[hv] at h1;cases h1;obtain⟨b,_,e,f,_,k⟩:=h2.cg hm.1;cases e;exact⟨f,fun b ob w z e=>k.OT (by rw[e] at z;exact z)⟩
 have Mb:=OU.1;have Nr:∀b ob w,H b=some (.iw ob w)->upd H a ho b=some (.iw ob w):=fun b ob w z=>by rw[aW (OU.2 b ob w z)];exact z
 have Wq:L2.cg S σ a:=⟨i,u,hS,hm.1,hv⟩
 have hl:i < S.length:=(XY.mp hS).1;have kb:∀{j w},(S.set i (some u'))[j]? =some (some w)->(i=j/\u'=w)\/(i≠j/\S[j]? =some (some w)):=fun {j w} z=>by
  rcases get_set z with⟨e,q,_⟩ | q
  ·exact .inl ⟨e,Ym q⟩
  ·exact .inr q
 have orig:∀{j w},(S.set i (some u'))[j]? =some (some w)->dM w=true->∃w0,S[j]? =some (some w0)/\dM w0=true:=fun {j w} z hw=>by
  rcases kb z with⟨rfl,rfl⟩ | ⟨_,q⟩
  ·exact⟨u,hS,hm.1⟩
  ·exact⟨w,q,hw⟩
 have keepR:∀b o,b≠a->Rd H b o->Rd (upd H a ho) b o:=fun b o ne r=>by
  rcases r with r | ⟨ob,r⟩
  ·exact .inl (by rw[aW ne];exact r)
  ·exact .inr ⟨ob,by rw[aW ne];exact r⟩
 refine⟨⟨fun b o z=>by rw[aW (fun e=>by rw[e,Mb] at z;cases z)];exact R.sub b o z,by rw[YU];exact R.len,fun j w z=>?_,fun j k w1 w2 c z1 m1 z2 m2=>?_,fun j o' c z hc=>?_,fun j o' c z hc=>?_,fun j c z=>?_,?_⟩,⟨?_,fun c ⟨j,w,z,hw,hc⟩=>?_,fun j w z=>?_⟩⟩
 ·rcases kb z with⟨rfl,rfl⟩ | ⟨ne,q⟩
  ·refine⟨.ref a,hv,?_⟩;cases u <;> cases hu
   ·exact⟨a,rfl,Mb,ha⟩
   ·exact⟨a,rfl,Mb,ha⟩
  ·obtain⟨v,h1,h2⟩:=R.rep j w q;refine⟨v,h1,?_⟩;by_cases hw:dM w=true
   ·obtain⟨c,o',rfl,f,e,h⟩:=h2.cg hw;have hca:c≠a:=fun z=>ne (R.BN i j u w a hS hm.1 q hw hv (by rw[h1,z]));have h':At F (upd H a ho) c o':=h.le (fun _ _ z=>z) fun o z=>by rw[aW hca];exact z
    cases w <;> cases hw <;> cases e
    ·exact⟨c,rfl,f,h'⟩
    ·exact⟨c,rfl,f,h'⟩
   ·cases w with
    | t d=>exact h2
    | v d=>exact h2
    | s d=>obtain⟨c,e,h⟩:=h2;exact⟨c,e,h.le Nr⟩
    | f d=>exact h2
    | x cx kx=>exact h2
    | m o=>exact absurd rfl hw
    | b o=>exact absurd rfl hw
 ·obtain⟨OV,q1,n1⟩:=orig z1 m1;obtain⟨OW,q2,n2⟩:=orig z2 m2;exact R.BN j k OV OW c q1 n1 q2 n2
 ·rcases kb z with⟨rfl,rfl⟩ | ⟨_,q⟩
  ·cases u <;> cases hu
   exact R.own _ _ c hS hc
  ·exact R.own j o' c q hc
 ·rcases kb z with⟨rfl,rfl⟩ | ⟨_,q⟩
  ·cases u <;> cases hu
   exact R.bor _ _ c hS hc
  ·exact R.bor j o' c q hc
 ·obtain⟨k1,o',k2⟩:=R.par j c z;refine⟨k1,?_⟩;by_cases e:i=j
  ·subst e;rw[hS] at k2;cases k2;cases hu;exact⟨o,Yk hl⟩
  ·exact⟨o',by rw[X5 e];exact k2⟩
 ·refine⟨R.ext.le,fun b o z n=>?_,R.ext.iQ,fun b o z=>?_,fun b o w z=>Nr b o w (R.ext.iw b o w z)⟩
  ·have hb:b≠a:=fun e=>by
    subst e;cases u with
    | m o'=>rw[R.own i o' b hS hv] at z;cases z
    | b o'=>exact n (R.bor i o' b hS hv)
    | t d=>cases hu
    | v d=>cases hu
    | s d=>cases hu
    | f d=>cases hu
    | x cx kx=>cases hu
   rw[aW hb];exact R.ext.keep b o z n
  ·by_cases hb:b=a
   ·exact⟨ho,by rw[hb,aX]⟩
   ·rw[aW hb];exact R.ext.there b o z
 ·refine⟨fun _ _ z=>z,fun b o z n=>?_,fun _ _ _ _ z=>z,fun b o z=>?_,Nr⟩
  ·rw[aW (fun e=>n (by rw[e];exact Wq))];exact z
  ·by_cases hb:b=a
   ·exact⟨ho,by rw[hb,aX]⟩
   ·exact⟨o,by rw[aW hb];exact z⟩
 ·obtain⟨w0,q,n⟩:=orig z hw;exact⟨j,w0,q,n,hc⟩
 ·by_cases e:i=j
  ·subst e;exact⟨u',Yk hl⟩
  ·exact⟨w,by rw[X5 e];exact z⟩
def j6 {f:MO->Option (D×MO)}{d:D}(h:uJ S i f=some (d,S')):∃u u' o o',S[i]? =some (some u)/\dM u=true/\Nq u=some o/\f o=some (d,o')/\Np u o'=some u'/\S'=S.set i (some u'):=by
 unfold uJ at h;split at h
 ·rename_i o e;obtain⟨⟨d',o'⟩,h1,h⟩:=az h;cases h;exact⟨_,_,o,o',e,rfl,rfl,h1,rfl,rfl⟩
 ·rename_i o e;obtain⟨⟨d',o'⟩,h1,h⟩:=az h;cases h;exact⟨_,_,o,o',e,rfl,rfl,h1,rfl,rfl⟩
 ·cases h
def Mc (r:V->List V->Hp->VK->Prop) (h:List D->MO->Option (D×MO)):Prop:=
 ∀F H a vs xs ds args res o',Sub F H->H a=some (.lst vs)->F a=none->bh F vs ds->bh F xs args->h args (.lst ds)=some (res,o')->
  ∀Q:VK,(∀rv ho,Rep F rv res->At F (upd H a ho) a o'->Q rv (upd H a ho))->r (.ref a) xs H Q
noncomputable def cQ:MO->Bool
 | .lst _=>true
 | _=>false
noncomputable def OX (S:SS) (i:Nat):Bool:=match S[i]? with
 | some (some (.m (.lst _)))=>true
 | some (some (.b (.lst _)))=>true
 | _=>false
def Gi {F:Hp}(R:Rel K B S σ F H) (h:OX S i=true):∃u a vs ds,S[i]? =some (some u)/\dM u=true/\Nq u=some (.lst ds)/\σ[i]? =some (some (.ref a))/\F a=none/\H a=some (.lst vs)/\bh F vs ds:=by
 unfold OX at h;split at h
 ·rename_i ds e;obtain⟨v,k1,a,rfl,f,vs,k2,k3⟩:=R.rep i _ e;exact⟨_,a,vs,ds,e,rfl,rfl,k1,f,k2,k3⟩
 ·rename_i ds e;obtain⟨v,k1,a,rfl,f,vs,k2,k3⟩:=R.rep i _ e;exact⟨_,a,vs,ds,e,rfl,rfl,k1,f,k2,k3⟩
 ·cases h
def eM (i:Nat) (h:List D->MO->Option (D×MO)) (gA:GA):GD:=fun S=>if OX S i then(gA S).bind fun p=>uJ p.2 i (h p.1) else none
def Ak {F:Hp}(R:Rel K B S σ F H) (hS:S[i]? =some (some u)) (hm:dM u=true) (hi:Nq u=some (.lst ds)) (hv:σ[i]? =some (some (.ref a))):F a=none/\∃vs,H a=some (.lst vs)/\bh F vs ds:=by
 obtain⟨v,k1,k2⟩:=R.rep i u hS;rw[hv] at k1;cases k1;obtain⟨b,o2,e1,f,e2,k⟩:=k2.cg hm;cases e1;rw[hi] at e2;cases e2;exact⟨f,k⟩
section
variable {X:Cx}{a e:Expr}{es:BBC}{apos cpos px:Pos}{x name:Str}{gA:GA}{id:String}
def pT {r:V->List V->Hp->VK->Prop}{h:List D->MO->Option (D×MO)}(slot:Slot "list" name id) (hty:typeOf (.builtin id)=pure (.type "method_descriptor")) (hm:Nl X id r) (hh:Mc r h) (hl:∀args o,cQ o=false->h args o=none) (ha:JA X (e :: es) gA)
  (hN:X.N[i]? =some x:=by rfl) (hv:wm X.env.scope x:=by first | exact Or.inl rfl | exact Or.inr (Or.inl rfl) | exact Or.inr (Or.inr rfl))
  (hbase:attributeBase (.Name x px) name X.env (eval (.Name x px) X.env)=eval (.Name x px) X.env:=by rfl)
  (hfew:((backTo cpos (starEach (e :: es) X.env)).all (fun x=>!x.1) && (backToKw cpos (keywordEach [] X.env)).all (fun x=>x.1.isSome)
   && decide ((e :: es).length+([]:BBI).length+(if([]:BBI).isEmpty then 0 else 1) < 30))=true:=by rfl)
  (hline:(apos.endLine == cpos.line)=true:=by rfl) (hs:starEach (e :: es) X.env=(false,eval e X.env) :: starEach es X.env:=by rfl) (hplain:(backTo cpos (starEach es X.env)).any (·.1)=false:=by rfl)
  (hd:BBT x:=by decide) (hcd:BBU x:=by decide):
  JD X (.Call (.Attribute (.Name x px) name apos) (e :: es) [] cpos) (eM i h gA):=
 ⟨fun B=>(KS Z6 slot hty hm (dF hN hv hd hcd) (ha.h B) hbase hfew hline hs hplain).imp fun σ H Q hh=>by
 obtain⟨S,F,d,S',R,hg,q⟩:=hh;unfold eM at hg;split at hg
 ·rename_i hL;obtain⟨⟨args,S1⟩,h1,hg⟩:=ah hg;obtain⟨u,u',o,o',hS,DT,hio,hf,E3,rfl⟩:=j6 hg;obtain⟨u0,a,Nk,Wr,_,_,_,hv0,_,hH,_⟩:=Gi R hL;cases o with
  | dct kvs=>rw[hl _ _ rfl] at hf;cases hf
  | wg kvs=>rw[hl _ _ rfl] at hf;cases hf
  | ins C kvs=>rw[hl _ _ rfl] at hf;cases hf
  | gap _=>rw[hl _ _ rfl] at hf;cases hf
  | lat _ _=>rw[hl _ _ rfl] at hf;cases hf
  | E1 _ _=>rw[hl _ _ rfl] at hf;cases hf
  | E2 _ _=>rw[hl _ _ rfl] at hf;cases hf
  | lst ds=>
   refine⟨.ref a,hv0,.inl ⟨rfl,Nk,oz.of hH⟩,S,F,args,S1,R,h1,fun xs F1 H1 R1 st1 r1=>?_⟩;obtain⟨hf1,vs,OY,rs⟩:=Ak R1 hS DT hio hv0;refine hh F1 H1 a vs xs ds args d o' R1.sub OY hf1 rs r1 hf Q fun rv ho rr ha=>?_;obtain⟨R2,st2⟩:=R1.write hS E3 hv0 ha;exact q rv F1 _ R2 (st1.trans st2) rr
 ·cases hg⟩
def Gj {r:V->List V->Hp->VK->Prop}{h:List D->MO->Option (D×MO)}(slot:Slot "list" name id) (hty:typeOf (.builtin id)=pure (.type "method_descriptor")) (hm:Nl X id r) (hh:Mc r h) (hl:∀args o,cQ o=false->h args o=none)
  (hN:X.N[i]? =some x:=by rfl) (hv:wm X.env.scope x:=by first | exact Or.inl rfl | exact Or.inr (Or.inl rfl) | exact Or.inr (Or.inr rfl))
  (hbase:attributeBase (.Name x px) name X.env (eval (.Name x px) X.env)=eval (.Name x px) X.env:=by rfl) (hline:(apos.endLine == cpos.line)=true:=by rfl)
  (hd:BBT x:=by decide) (hcd:BBU x:=by decide):
  JD X (.Call (.Attribute (.Name x px) name apos) [] [] cpos) (eM i h aA):=
 ⟨fun B=>(LV Z6 slot hty hm (dF hN hv hd hcd) hbase hline).imp fun σ H Q hh=>by
 obtain⟨S,F,d,S',R,hg,q⟩:=hh;unfold eM at hg;split at hg
 ·rename_i hL;obtain⟨⟨args,S1⟩,h1,hg⟩:=ah hg;cases h1;obtain⟨u,u',o,o',hS,DT,hio,hf,E3,rfl⟩:=j6 hg;obtain⟨u0,a,Nk,Wr,_,_,_,hv0,_,hH,_⟩:=Gi R hL;cases o with
  | dct kvs=>rw[hl _ _ rfl] at hf;cases hf
  | wg kvs=>rw[hl _ _ rfl] at hf;cases hf
  | ins C kvs=>rw[hl _ _ rfl] at hf;cases hf
  | gap _=>rw[hl _ _ rfl] at hf;cases hf
  | lat _ _=>rw[hl _ _ rfl] at hf;cases hf
  | E1 _ _=>rw[hl _ _ rfl] at hf;cases hf
  | E2 _ _=>rw[hl _ _ rfl] at hf;cases hf
  | lst ds=>
   refine⟨.ref a,hv0,.inl ⟨rfl,Nk,oz.of hH⟩,?_⟩;obtain⟨hf1,vs,OY,rs⟩:=Ak R hS DT hio hv0;refine hh F H a vs [] ds [] d o' R.sub OY hf1 rs .nil hf Q fun rv ho rr ha=>?_;obtain⟨R2,st2⟩:=R.write hS E3 hv0 ha;exact q rv F _ R2 st2 rr
 ·cases hg⟩
noncomputable def hAppend:List D->MO->Option (D×MO)
 | [d],.lst ds=>if ds.length < 100000 then some (.bN,.lst (ds++[d])) else none
 | _,_=>none
def iK:Mc CV hAppend:=by
 intro F H a vs xs ds args res o' sb hH fa rs rx hw Q q;unfold hAppend at hw;split at hw
 ·rename_i d ds' e2;cases e2;split at hw
  ·rename_i hl;cases hw;cases rx with
   | cons r rr=>
    cases rr;exact⟨a,vs,_,rfl,rfl,hH,by rw[rs.length];exact X0 hl (by decide),q .bN _ .bN ⟨_,aX,rs.append (.cons r .nil)⟩⟩
  ·cases hw
 ·cases hw
noncomputable def tU:List D->MO->Option (D×MO)
 | [],.lst ds=>(ds[ds.length - 1]?).map fun d=>(d,.lst ds.dropLast)
 | _,_=>none
def bh.dropLast {F:Hp}{vs:List V}{ds:List D}(r:bh F vs ds):bh F vs.dropLast ds.dropLast:=by
 rw[List.dropLast_eq_take,List.dropLast_eq_take,r.length];exact r.take _
def Me:Mc OL tU:=by
 intro F H a vs xs ds args res o' sb hH fa rs rx hw Q q;unfold tU at hw;split at hw
 ·rename_i ds' e2;cases e2;obtain⟨d,hd,hw⟩:=az hw;cases hw;cases rx;obtain⟨v,k1,k2⟩:=rs.get hd;exact⟨a,vs,v,rfl,rfl,hH,by rw[rs.length];exact k1,q v _ k2 ⟨_,aX,rs.dropLast⟩⟩
 ·cases hw
end
def iV.step {F:Hp}{v:V}(r:iV K B S σ H0 F H v u) (st:Step S S' σ F H F' H'):iV K B S' σ H0 F' H' v u:=by
 cases u with
 | t d=>exact r.le st.ext.le
 | b o=>exact r
 | v i=>obtain⟨h1,u,h2⟩:=r;exact⟨h1,st.slots i u h2⟩
 | s i=>obtain⟨a,e,h⟩:=r;exact⟨a,e,h.le st.ext.iw⟩
 | f i=>exact r
 | x cx kx=>exact yT.le st.ext.le r
 | m o=>
  obtain⟨a,e,h0,f,h,n,hB⟩:=r;obtain⟨ho,hh⟩:=h.has;exact⟨a,e,h0,st.ext.iQ a ho hh n f,h.le st.ext.le fun o z=>st.ext.keep a o z n,fun m=>n (st.mu a m),hB⟩
abbrev GU:=SS->Option (List U×SS)
inductive Ws (K:AAA) (B:Base) (gu:GU) (σ:St) (H:Hp) (Q:List V->Hp->Prop):Prop
 | mk (S:SS) (F:Hp) (us:List U) (S':SS) (R:Rel K B S σ F H) (hg:gu S=some (us,S')) (q:∀vs F' H',Rel K B S' σ F' H'->Step S S' σ F H F' H'->Paired (fun v u=>iV K B S' σ H F' H' v u) vs us->Q vs H')
structure JU (X:Cx) (es:BBC) (gu:GU):Prop where
 h:∀B,PA X es (Ws X.K B gu)
 len:∀S us S',gu S=some (us,S')->us.length=es.length
noncomputable def bx:GU:=fun S=>some ([],S)
noncomputable def aU (g:GD) (gu:GU):GU:=fun S=>(g S).bind fun p=>(gu p.2).map fun q=>(.t p.1 :: q.1,q.2)
noncomputable def dB (g:GE) (gu:GU):GU:=fun S=>(g S).bind fun p=>(gu p.2).map fun q=>(p.1 :: q.1,q.2)
section
variable {X:Cx}{e:Expr}{es:BBC}{g:GD}{ge:GE}{gu:GU}
def aR:JU X [] bx:=⟨fun B=>kE.imp fun σ H Q hh=>by
 obtain⟨S,F,us,S',R,hg,q⟩:=hh;cases hg;exact q [] F H R (Step.refl ..) .nil,fun S us S' h=>by cases h;rfl⟩
def aG (h:JD X e g) (hr:JU X es gu) (hs:starEach (e :: es) X.env=(false,eval e X.env) :: starEach es X.env:=by rfl):JU X (e :: es) (aU g gu):=
 ⟨fun B=>(cU (h.h B) (hr.h B) hs).imp fun σ H Q hh=>by
 obtain⟨S,F,us,S',R,hg,q⟩:=hh;obtain⟨⟨d,S1⟩,h1,hg⟩:=ah hg;obtain⟨⟨Bj,S2⟩,h2,hg⟩:=az hg;cases hg;exact⟨S,F,d,S1,R,h1,fun v F1 H1 R1 st1 r1=>⟨S1,F1,Bj,S2,R1,h2,fun vs F2 H2 R2 st2 r2=>q _ F2 H2 R2 (st1.trans st2) (.cons (r1.le st2.ext.le) (Paired.zT r2 fun _ _ z=>z.weak st1.ext.there))⟩⟩,
 fun S us S' hg=>by
  obtain⟨⟨d,S1⟩,h1,hg⟩:=ah hg;obtain⟨⟨Bj,S2⟩,h2,hg⟩:=az hg;cases hg;show Bj.length+1=es.length+1;rw[hr.len _ _ _ h2]⟩
def bV (h:JE X e ge) (hr:JU X es gu) (hs:starEach (e :: es) X.env=(false,eval e X.env) :: starEach es X.env:=by rfl):JU X (e :: es) (dB ge gu):=
 ⟨fun B=>(cU (h.h B) (hr.h B) hs).imp fun σ H Q hh=>by
 obtain⟨S,F,us,S',R,hg,q⟩:=hh;obtain⟨⟨d,S1⟩,h1,hg⟩:=ah hg;obtain⟨⟨Bj,S2⟩,h2,hg⟩:=az hg;cases hg;exact⟨S,F,d,S1,R,h1,fun v F1 H1 R1 st1 r1=>⟨S1,F1,Bj,S2,R1,h2,fun vs F2 H2 R2 st2 r2=>q _ F2 H2 R2 (st1.trans st2) (.cons (r1.step st2) (Paired.zT r2 fun _ _ z=>z.weak st1.ext.there))⟩⟩,
 fun S us S' hg=>by
  obtain⟨⟨d,S1⟩,h1,hg⟩:=ah hg;obtain⟨⟨Bj,S2⟩,h2,hg⟩:=az hg;cases hg;show Bj.length+1=es.length+1;rw[hr.len _ _ _ h2]⟩
end
noncomputable def resolve (S:SS):U->Option U
 | .t d=>some (.t d)
 | .v i=>match S[i]? with
  | some (some (.m o))=>some (.b o)
  | some (some (.b o))=>some (.b o)
  | _=>none
 | .m o=>some (.b o)
 | .b _=>none
 | .s ns=>some (.s ns)
 | .f a=>some (.f a)
 | .x C k=>some (.x C k)
def bW (S:SS):List U->Option (List U)
 | []=>some []
 | u :: us=>(resolve S u).bind fun w=>(bW S us).map fun ws=>w :: ws
noncomputable def slotsOf:List U->BBJ
 | []=>[]
 | .v i :: us=>i :: slotsOf us
 | _ :: us=>slotsOf us
noncomputable def cN:List U->Nat
 | []=>0
 | .m _ :: us=>cN us+1
 | _ :: us=>cN us
noncomputable def wb:List U->List MO->SS->Option SS
 | [],[],S=>some S
 | .v i :: us,o :: outs,S=>match S[i]? with
  | some (some (.m _))=>wb us outs (S.set i (some (.m o)))
  | some (some (.b _))=>wb us outs (S.set i (some (.b o)))
  | _=>none
 | .m _ :: us,_ :: outs,S=>wb us outs S
 | .t _ :: us,outs,S=>wb us outs S
 | .s _ :: us,outs,S=>wb us outs S
 | .f _ :: us,outs,S=>wb us outs S
 | .x _ _ :: us,outs,S=>wb us outs S
 | _,_,_=>none
abbrev FM:=List U->Option (U×List MO)
def aT (f:FM) (gu:GU):GE:=fun S=>(gu S).bind fun p=>
 if(slotsOf p.1).Nodup/\cN p.1<=1 then(bW p.2 p.1).bind fun us=>(f us).bind fun r=>(wb p.1 r.2 p.2).map fun S2=>(r.1,S2) else none
def DU (K:AAA) (F H:Hp) (v:V):U->Prop
 | .s ns=>∃a,v= .ref a/\IU K H a ns
 | .f a=>v= .ref a
 | .x C k=>yT F v C k
 | .t d=>Rep F v d
 | .b o=>∃a,v= .ref a/\F a=none/\At F H a o
 | _=>False
noncomputable def addrs:List V->List U->BBE
 | .ref a :: vs,.b _ :: us=>a :: addrs vs us
 | _ :: vs,_ :: us=>addrs vs us
 | _,_=>[]
structure Post (F H F' H':Hp) (as:BBE) (outs:List MO):Prop where
 sub:Sub F' H'
 ext:Ext (fun a=>a∈as) F H F' H'
 out:Paired (fun a o=>F' a=none/\At F' H' a o) as outs
def spT (K:AAA) (n:Nat) (f:FM):Sp:=fun vs H Q _=>vs.length=n/\∃F us r outs,Sub F H/\Paired (DU K F H) vs us/\(addrs vs us).Nodup/\f us=some (r,outs)/\∀v F' H',Post F H F' H' (addrs vs us) outs->Ai H F' H' v r->Q v H'
section
variable {K:AAA}{B:Base}{S S1 S2:SS}{σ:St}{H0 F H:Hp}
def j7 {w:U}(h:resolve S (.v i)=some w):∃u o,S[i]? =some (some u)/\dM u=true/\Nq u=some o/\w= .b o:=by
 unfold resolve at h;dsimp only at h;split at h
 ·rename_i o e;cases h;exact⟨_,o,e,rfl,rfl,rfl⟩
 ·rename_i o e;cases h;exact⟨_,o,e,rfl,rfl,rfl⟩
 ·cases h
theorem uh (R:Rel K B S σ F H):∀{vs:List V}{us ws:List U},Paired (fun v u=>iV K B S σ H0 F H v u) vs us->bW S us=some ws->Paired (DU K F H) vs ws
 | _,_,_,.nil,h=>by cases h;exact .nil
 | _,_,_,@Paired.cons _ _ _ v u vs us r rs,h=>by
  obtain⟨w,h1,h⟩:=ah h;obtain⟨ws,h2,h⟩:=az h;subst h;refine .cons ?_ (uh R rs h2);cases u with
  | t d=>cases h1;exact r
  | s d=>cases h1;exact r
  | f d=>cases h1;exact r
  | x cx kx=>cases h1;exact r
  | b o=>cases h1
  | m o=>cases h1;obtain⟨a,e,_,f,k,_⟩:=r;exact⟨a,e,f,k⟩
  | v i=>
   obtain⟨u,o,hu,hm,hi,rfl⟩:=j7 h1;obtain⟨hv,_⟩:=r;obtain⟨v',k1,k2⟩:=R.rep i u hu;rw[hv] at k1;cases k1;obtain⟨a,o2,e,f,e2,k⟩:=k2.cg hm;rw[hi] at e2;cases e2;exact⟨a,e,f,k⟩
def Sz {v:V}{d:D}:addrs (v :: vs) (.t d :: us)=addrs vs us:=by cases v <;> rfl
def SA {v:V}{d:BBD}:addrs (v :: vs) (.s d :: us)=addrs vs us:=by cases v <;> rfl
def SD {v:V}{C:Addr}{k:List (Str×D)}:addrs (v :: vs) (.x C k :: us)=addrs vs us:=by cases v <;> rfl
def SE {v:V}{d:Addr}:addrs (v :: vs) (.f d :: us)=addrs vs us:=by cases v <;> rfl
theorem pU (R:Rel K B S σ F H):∀{vs:List V}{us ws:List U},Paired (fun v u=>iV K B S σ H0 F H v u) vs us->bW S us=some ws->∀a∈addrs vs ws,
  (∃i u,i∈slotsOf us/\S[i]? =some (some u)/\dM u=true/\σ[i]? =some (some (.ref a)))\/(0 < cN us/\H0 a=none/\B.H a=none/\¬cg S σ a)
 | _,_,_,.nil,h,a,ha=>by cases h;cases ha
 | _,_,_,@Paired.cons _ _ _ v u vs us r rs,h,a,ha=>by
  obtain⟨w,h1,h⟩:=ah h;obtain⟨ws,h2,h⟩:=az h;subst h;have ih:=pU R rs h2;cases u with
  | t d=>
   cases h1;exact ih a (Sz▸ha)
  | s d=>
   cases h1;exact ih a (SA▸ha)
  | f d=>
   cases h1;exact ih a (SE▸ha)
  | x cx kx=>
   cases h1;exact ih a (SD▸ha)
  | b o=>cases h1
  | m o=>
   cases h1;obtain⟨c,rfl,k0,f,k,n,hB⟩:=r;rcases XT.mp (show a∈c :: addrs vs ws from ha) with rfl | ha
   ·exact .inr ⟨Nat.succ_pos _,k0,hB,n⟩
   ·rcases ih a ha with z | ⟨_,z⟩
    ·exact .inl z
    ·exact .inr ⟨Nat.succ_pos _,z⟩
  | v i=>
   obtain⟨u,o,hu,hm,hi,rfl⟩:=j7 h1;obtain⟨hv,_⟩:=r;obtain⟨v',k1,k2⟩:=R.rep i u hu;rw[hv] at k1;cases k1;obtain⟨c,o2,rfl,f,e2,k⟩:=k2.cg hm;rcases XT.mp (show a∈c :: addrs vs ws from ha) with rfl | ha
   ·exact .inl ⟨i,u,Yp,hu,hm,hv⟩
   ·rcases ih a ha with⟨j,w,z,z2⟩ | z
    ·exact .inl ⟨j,w,Yc _ z,z2⟩
    ·exact .inr z
theorem cV (R:Rel K B S σ F H):∀{vs:List V}{us ws:List U},Paired (fun v u=>iV K B S σ H0 F H v u) vs us->bW S us=some ws->(slotsOf us).Nodup->cN us<=1->(addrs vs ws).Nodup
 | _,_,_,.nil,h,_,_=>by cases h;exact ZZ
 | _,_,_,@Paired.cons _ _ _ v u vs us r rs,h,nd,fr=>by
  obtain⟨w,h1,h⟩:=ah h;obtain⟨ws,h2,h⟩:=az h;subst h;cases u with
  | t d=>
   cases h1;rw[Sz];exact cV R rs h2 nd fr
  | s d=>
   cases h1;rw[SA];exact cV R rs h2 nd fr
  | f d=>
   cases h1;rw[SE];exact cV R rs h2 nd fr
  | x cx kx=>
   cases h1;rw[SD];exact cV R rs h2 nd fr
  | b o=>cases h1
  | m o=>
   cases h1;have Xv:cN us=0:=by have:cN us+1<=1:=fr;lia
   obtain⟨c,rfl,k0,f,k,n,hB⟩:=r;refine YT.mpr ⟨fun hc=>?_,cV R rs h2 nd (by lia)⟩;rcases pU R rs h2 c hc with⟨j,w,_,z1,z2,z3⟩ | ⟨z,_⟩
   ·exact n ⟨j,w,z1,z2,z3⟩
   ·lia
  | v i=>
   obtain⟨u,o,hu,hm,hi,rfl⟩:=j7 h1;obtain⟨hv,_⟩:=r;obtain⟨v',k1,k2⟩:=R.rep i u hu;rw[hv] at k1;cases k1;obtain⟨c,o2,rfl,f,e2,k⟩:=k2.cg hm;obtain⟨SG,SH⟩:=YT.mp (show(i :: slotsOf us).Nodup from nd);refine YT.mpr ⟨fun hc=>?_,cV R rs h2 SH fr⟩;rcases pU R rs h2 c hc with⟨j,w,z0,z1,z2,z3⟩ | ⟨_,_,_,z⟩
   ·have:=R.BN i j u w c hu hm z1 z2 hv z3;subst this;exact SG z0
   ·exact z ⟨i,u,hu,hm,hv⟩
theorem kJ (R:Rel K B S σ F H) (P:Addr->MO->Prop):∀{vs:List V}{us ws:List U}{outs:List MO}{S1 S2:SS},Paired (fun v u=>iV K B S σ H0 F H v u) vs us->bW S us=some ws->wb us outs S1=some S2->(slotsOf us).Nodup->Paired P (addrs vs ws) outs->
  S2.length=S1.length/\(∀j,j∉slotsOf us->S2[j]? =S1[j]?)/\∀j∈slotsOf us,∃u u' o a,S1[j]? =some (some u)/\Np u o=some u'/\S2[j]? =some (some u')/\σ[j]? =some (some (.ref a))/\P a o
 | _,_,_,_,_,_,.nil,h,hw,_,hp=>by
  cases h;cases hp;cases hw;exact⟨rfl,fun _ _=>rfl,fun j hj=>by cases hj⟩
 | _,_,_,outs,S1,S2,@Paired.cons _ _ _ v u vs us r rs,h,hw,nd,hp=>by
  obtain⟨w,h1,h⟩:=ah h;obtain⟨ws,h2,h⟩:=az h;subst h;cases u with
  | t d=>
   cases h1;rw[Sz] at hp;have ih:=kJ R P rs h2 (show wb us outs S1=some S2 by cases outs <;> exact hw) nd hp;exact ih
  | s d=>
   cases h1;rw[SA] at hp;have ih:=kJ R P rs h2 (show wb us outs S1=some S2 by cases outs <;> exact hw) nd hp;exact ih
  | f d=>
   cases h1;rw[SE] at hp;have ih:=kJ R P rs h2 (show wb us outs S1=some S2 by cases outs <;> exact hw) nd hp;exact ih
  | x cx kx=>
   cases h1;rw[SD] at hp;have ih:=kJ R P rs h2 (show wb us outs S1=some S2 by cases outs <;> exact hw) nd hp;exact ih
  | b o=>cases h1
  | m o=>
   cases h1;obtain⟨c,rfl,k0,f,k,n,hB⟩:=r;cases hp with
   | cons p1 p2=>
    have ih:=kJ R P rs h2 (show wb us _ S1=some S2 from hw) nd p2;exact ih
  | v i=>
   obtain⟨u0,o0,hu,hm,hi,rfl⟩:=j7 h1;obtain⟨hv,_⟩:=r;obtain⟨v',k1,k2⟩:=R.rep i u0 hu;rw[hv] at k1;cases k1;obtain⟨c,o2,rfl,f,e2,k⟩:=k2.cg hm;obtain⟨SG,SH⟩:=YT.mp (show(i :: slotsOf us).Nodup from nd);cases hp with
   | @cons _ o _ outs p1 p2=>
    have go:∀u u',S1[i]? =some (some u)->Np u o=some u'->wb us outs (S1.set i (some u'))=some S2->S2.length=S1.length/\(∀j,j∉i :: slotsOf us->S2[j]? =S1[j]?)/\∀j∈i :: slotsOf us,∃u u' o a,S1[j]? =some (some u)/\Np u o=some u'/\S2[j]? =some (some u')/\σ[j]? =some (some (.ref a))/\P a o:=fun u u' e1 e2 hw=>by
     obtain⟨l,out,DR⟩:=kJ R P rs h2 hw SH p2;refine⟨by rw[l,YU],fun j hj=>?_,fun j hj=>?_⟩
     ·rw[out j fun z=>hj (Yc _ z),X5 fun z=>hj (by rw[z];exact Yp)]
     ·by_cases e:i=j
      ·subst e;exact⟨u,u',o,c,e1,e2,by rw[out i SG];exact Yk (XY.mp e1).1,hv,p1⟩
      ·rcases XT.mp hj with z | z
       ·exact absurd z.symm e
       ·obtain⟨w,w',o',a',q1,q2,q3,q4,q5⟩:=DR j z;rw[X5 e] at q1;exact⟨w,w',o',a',q1,q2,q3,q4,q5⟩
    unfold wb at hw;split at hw
    ·rename_i o' e;exact go _ _ e rfl hw
    ·rename_i o' e;exact go _ _ e rfl hw
    ·cases hw
end
def kK {S2:SS}{F:Hp}{outs:List MO}(R:Rel K B S σ F H) (st:Step S0 S σ F0 H0 F H) (rr:Paired (fun v u=>iV K B S σ H0 F H v u) vs us) (hr:bW S us=some ws) (hw:wb us outs S=some S2) (nd:(slotsOf us).Nodup) (p:Post F H F' H' (addrs vs ws) outs):
  Rel K B S2 σ F' H'/\Step S0 S2 σ F0 H0 F' H'/\∀a,cg S2 σ a->cg S σ a:=by
 obtain⟨hl,out,DR⟩:=kJ R (fun a o=>F' a=none/\At F' H' a o) rr hr hw nd p.out;have Wt:∀{u:U}{o:MO}{u':U},Np u o=some u'->dM u=true/\dM u'=true/\Nq u'=some o:=fun {u o u'} h=>by cases u <;> cases h <;> exact⟨rfl,rfl,rfl⟩
 have orig:∀{j w},S2[j]? =some (some w)->dM w=true->∃w0,S[j]? =some (some w0)/\dM w0=true:=fun {j w} z hm=>by
  by_cases hj:j∈slotsOf us
  ·obtain⟨u,u',o,a,q1,q2,q3,q4,q5⟩:=DR j hj;exact⟨u,q1,(Wt q2).1⟩
  ·rw[out j hj] at z;exact⟨w,z,hm⟩
 have mu:∀a,cg S2 σ a->cg S σ a:=fun a ⟨j,w,z,hm,hv⟩=>let⟨w0,q,n⟩:=orig z hm;⟨j,w0,q,n,hv⟩
 have Bk:=pU R rr hr;refine⟨⟨p.sub,by rw[hl];exact R.len,fun j w z=>?_,fun j k w1 w2 c z1 m1 z2 m2=>?_,fun j o a z hv=>?_,fun j o a z hv=>?_,fun j a z=>?_,?_⟩,⟨⟨?_,?_,?_,?_,fun b o u z=>p.ext.iw b o u (st.ext.iw b o u z)⟩,fun a m=>st.mu a (mu a m),fun j u z=>?_⟩,mu⟩
 ·by_cases hj:j∈slotsOf us
  ·obtain⟨u,u',o,a,q1,q2,q3,q4,q5,q6⟩:=DR j hj;rw[q3] at z;cases z;refine⟨.ref a,q4,?_⟩;cases u <;> cases q2
   ·exact⟨a,rfl,q5,q6⟩
   ·exact⟨a,rfl,q5,q6⟩
  ·rw[out j hj] at z;obtain⟨v,h1,h2⟩:=R.rep j w z;refine⟨v,h1,h2.le p.ext.le p.ext.iw fun a hm ha=>?_⟩;have hna:a∉addrs vs ws:=fun hc=>by
    rcases Bk a hc with⟨i,u,q0,q1,q2,q3⟩ | ⟨_,_,_,q⟩
    ·have:=R.BN i j u w a q1 q2 z hm q3 (by rw[h1,ha]);subst this;exact hj q0
    ·exact q ⟨j,w,z,hm,by rw[h1,ha]⟩
   obtain⟨c,o,e,f,_,k⟩:=h2.cg hm;rw[ha] at e;cases e;obtain⟨ho,hh⟩:=k.has;exact⟨fun o q=>p.ext.keep a o q hna,p.ext.iQ a ho hh hna f⟩
 ·obtain⟨OV,q1,n1⟩:=orig z1 m1;obtain⟨OW,q2,n2⟩:=orig z2 m2;exact R.BN j k OV OW c q1 n1 q2 n2
 ·by_cases hj:j∈slotsOf us
  ·obtain⟨u,u',o',a',q1,q2,q3,q4,q5⟩:=DR j hj;rw[q3] at z;cases z;cases u <;> cases q2
   exact R.own j _ a q1 hv
  ·rw[out j hj] at z;exact R.own j o a z hv
 ·by_cases hj:j∈slotsOf us
  ·obtain⟨u,u',o',a',q1,q2,q3,q4,q5⟩:=DR j hj;rw[q3] at z;cases z;cases u <;> cases q2
   exact R.bor j _ a q1 hv
  ·rw[out j hj] at z;exact R.bor j o a z hv
 ·obtain⟨k1,o,k2⟩:=R.par j a z;refine⟨k1,?_⟩;by_cases hj:j∈slotsOf us
  ·obtain⟨u,u',o',a',q1,q2,q3,q4,q5⟩:=DR j hj;rw[k2] at q1;cases q1;cases q2;exact⟨_,q3⟩
  ·exact⟨o,by rw[out j hj];exact k2⟩
 ·refine R.ext.trans p.ext fun b hb=>?_;rcases Bk b hb with⟨i,u,q0,q1,q2,q3⟩ | ⟨_,_,q,_⟩
  ·cases u with
   | t d=>cases q2
   | v d=>cases q2
   | s d=>cases q2
   | f d=>cases q2
   | x cx kx=>cases q2
   | m o=>exact .inr (R.own i o b q1 q3)
   | b o=>exact .inl (R.bor i o b q1 q3)
  ·exact .inr q
 ·exact fun b o h=>p.ext.le b o (st.ext.le b o h)
 ·intro b o h n;refine p.ext.keep b o (st.ext.keep b o h n) fun hb=>?_;rcases Bk b hb with⟨i,u,q0,q1,q2,q3⟩ | ⟨_,q,_⟩
  ·exact n (st.mu b ⟨i,u,q1,q2,q3⟩)
  ·rw[h] at q;cases q
 ·intro b o h n f;refine p.ext.iQ b o (st.ext.keep b o h n) (fun hb=>?_) (st.ext.iQ b o h n f);rcases Bk b hb with⟨i,u,q0,q1,q2,q3⟩ | ⟨_,q,_⟩
  ·exact n (st.mu b ⟨i,u,q1,q2,q3⟩)
  ·rw[h] at q;cases q
 ·intro b o h;obtain⟨o',h'⟩:=st.ext.there b o h;exact p.ext.there b o' h'
 ·obtain⟨u',h'⟩:=st.slots j u z;by_cases hj:j∈slotsOf us
  ·obtain⟨_,u2,_,_,_,_,q3,_⟩:=DR j hj;exact⟨u2,q3⟩
  ·exact⟨u',by rw[out j hj];exact h'⟩
section
variable {X:Cx}{e:Expr}{es:BBC}{gu:GU}{x:Str}{p pos:Pos}{f:FM}{fa:Addr}{fd:FuncData}{ps:BBB}{k n:Nat}
def I0 (F:jx X.prog X.w X.K X.mg X.base xD k fa fd ps (spT X.K n f)) (hr:fU k X.A) (hg:Gl X x) (hm:X.mg x=some (.ref fa)) (hk:PySem.W.keepIn X.K (.ref fa)=true) (hb:Binds X.K fd ps []) (ha:JU X (e :: es) gu) (hn:(e :: es).length=n:=by rfl)
  (hdb:BBT x:=by decide) (he:starEach (e :: es) X.env=(false,eval e X.env) :: starEach es X.env:=by rfl) (hpl:(backTo pos (starEach es X.env)).any (·.1)=false:=by rfl):
  JE X (.Call (.Name x p) (e :: es) [] pos) (aT f gu):=⟨fun B=>(CH F hr hg hm hk hb .nil FQ (ha.h B) hdb he hpl).imp fun σ H Q hh=>by
 obtain⟨S,F0,u,S',R,hg,q⟩:=hh;obtain⟨⟨us,S1⟩,h1,hg⟩:=ah hg;dsimp only at hg;split at hg
 ·rename_i hc;obtain⟨ws,h2,hg⟩:=ah hg;obtain⟨⟨r,outs⟩,h3,hg⟩:=ah hg;obtain⟨S2,h4,hg⟩:=az hg;cases hg;refine⟨S,F0,us,S1,R,h1,fun vs F1 H1 R1 st1 rr=>?_⟩;show spT X.K n f (vs++[]) H1 Q E0;rw[Yt];have hlen:vs.length=n:=by rw[rr.length,ha.len _ _ _ h1];exact hn
  refine⟨hlen,F1,ws,r,outs,R1.sub,uh R1 rr h2,cV R1 rr h2 hc.1 hc.2,h3,fun v F2 H2 po rn=>?_⟩;obtain⟨R2,st2,mu⟩:=kK R1 st1 rr h2 h4 hc.1 po;refine q v F2 H2 R2 st2 ?_;cases r with
  | t d=>exact rn
  | b o=>cases rn
  | v i=>cases rn
  | s i=>cases rn
  | f i=>cases rn
  | x cx kx=>cases rn
  | m o=>
   obtain⟨a,e,h0,f,h⟩:=rn;refine⟨a,e,none_of st1.ext.there h0,f,h,fun m=>?_,none_of R1.ext.there h0⟩;obtain⟨o',ho⟩:=R1.has (mu a m);rw[h0] at ho;cases ho
 ·cases hg⟩
end
noncomputable def aB:List U->SS->Option (List MO)
 | [],_=>some []
 | .b _ :: us,some (.b o) :: S=>(aB us S).map fun os=>o :: os
 | .b _ :: _,_=>none
 | _ :: us,_ :: S=>aB us S
 | _ :: _,[]=>none
def aJ (n:Nat) (g:GS):FM:=fun us=>(g (us.map some++List.replicate (n - us.length) none)).bind fun o=>match o with
 | .rt (.t d) S=>(aB us S).map fun os=>(.t d,os)
 | .rt (.m o) S=>(aB us S).map fun os=>(.m o,os)
 | .nx S=>(aB us S).map fun os=>(.t .bN,os)
 | _=>none
noncomputable def lent:List V->List U->List (BBN)
 | .ref a :: vs,.b _ :: us=>some a :: lent vs us
 | _ :: vs,_ :: us=>none :: lent vs us
 | _,_=>[]
theorem mw:∀(vs:List V) (us:List U) (a:Addr),some a∈lent vs us↔a∈addrs vs us
 | [],us,a=>by cases us <;> simp[lent,addrs]
 | v :: vs,[],a=>by cases v <;> simp[lent,addrs]
 | v :: vs,u :: us,a=>by
  have ih:=mw vs us a;cases v <;> cases u <;> simp[lent,addrs,ih]
theorem Al:∀{vs:List V}{us:List U}{i:Nat}{a:Addr},(lent vs us)[i]? =some (some a)->vs[i]? =some (.ref a)/\∃o,us[i]? =some (.b o)
 | [],us,i,a,h=>by cases us <;> simp[lent] at h
 | v :: vs,[],i,a,h=>by cases v <;> simp[lent] at h
 | v :: vs,u :: us,0,a,h=>by
  cases v <;> cases u <;> simp[lent] at h
  subst h;exact⟨rfl,_,rfl⟩
 | v :: vs,u :: us,i+1,a,h=>by
  have h':(lent vs us)[i]? =some (some a):=by cases v <;> cases u <;> simpa[lent] using h
  simpa using Al h'
theorem yW {K:AAA}:∀{F H:Hp}{vs:List V}{us:List U}{i:Nat}{o:MO},Paired (DU K F H) vs us->us[i]? =some (.b o)->∃a,vs[i]? =some (.ref a)/\(lent vs us)[i]? =some (some a)/\F a=none/\At F H a o
 | _,_,_,_,_,_,.nil,h=>by simp at h
 | _,_,_,_,0,o,@Paired.cons _ _ _ v u vs us r rs,h=>by
  simp at h;subst h;obtain⟨a,rfl,f,k⟩:=r;exact⟨a,rfl,rfl,f,k⟩
 | _,_,_,_,i+1,o,@Paired.cons _ _ _ v u vs us r rs,h=>by
  obtain⟨a,h1,h2,h3⟩:=yW (i:=i) rs (by simpa using h);refine⟨a,by simpa using h1,?_,h3⟩;cases v <;> cases u <;> simpa[lent] using h2
theorem xJ:∀{vs:List V}{us:List U}{i j:Nat}{a:Addr},(addrs vs us).Nodup->(lent vs us)[i]? =some (some a)->(lent vs us)[j]? =some (some a)->i=j
 | [],us,i,j,a,_,h,_=>by cases us <;> simp[lent] at h
 | v :: vs,[],i,j,a,_,h,_=>by cases v <;> simp[lent] at h
 | v :: vs,u :: us,i,j,a,nd,h1,h2=>by
  have ih:∀{i j},(addrs vs us).Nodup->(lent vs us)[i]? =some (some a)->(lent vs us)[j]? =some (some a)->i=j:=fun {i j}=>xJ (i:=i) (j:=j);by_cases SJ:∃c o,v= .ref c/\u= .b o
  ·obtain⟨c,o,rfl,rfl⟩:=SJ;obtain⟨n1,n2⟩:=YT.mp (show(c :: addrs vs us).Nodup from nd);cases i with
   | zero=>
    cases j with
    | zero=>rfl
    | succ j=>
     have e1:c=a:=by simpa[lent] using h1
     have e2:(lent vs us)[j]? =some (some a):=by simpa[lent] using h2
     subst e1;exact absurd ((mw vs us c).mp (Yn e2)) n1
   | succ i=>
    have e1:(lent vs us)[i]? =some (some a):=by simpa[lent] using h1
    cases j with
    | zero=>
     have e2:c=a:=by simpa[lent] using h2
     subst e2;exact absurd ((mw vs us c).mp (Yn e1)) n1
    | succ j=>exact congrArg Nat.succ (ih n2 e1 (by simpa[lent] using h2))
  ·have e1:lent (v :: vs) (u :: us)=none :: lent vs us:=by cases v <;> cases u <;> first | rfl | exact absurd ⟨_,_,rfl,rfl⟩ SJ
   have e2:addrs (v :: vs) (u :: us)=addrs vs us:=by cases v <;> cases u <;> first | rfl | exact absurd ⟨_,_,rfl,rfl⟩ SJ
   rw[e1] at h1 h2;rw[e2] at nd;cases i with
   | zero=>simp at h1
   | succ i=>
    cases j with
    | zero=>simp at h2
    | succ j=>exact congrArg Nat.succ (ih nd (by simpa using h1) (by simpa using h2))
theorem kL {α β:Type}{P:α->β->Prop}:∀{l:List α}{r:List β}{i:Nat}{y:β},Paired P l r->r[i]? =some y->∃x,l[i]? =some x/\P x y
 | _,_,_,_,.nil,h=>by simp at h
 | _,_,0,_,.cons p _,h=>by simp at h;subst h;exact⟨_,rfl,p⟩
 | _,_,i+1,_,.cons _ ps,h=>by
  obtain⟨x,h1,h2⟩:=kL (i:=i) ps (by simpa using h);exact⟨x,by simpa using h1,h2⟩
def qP {F:Hp}(sb:Sub F H) (ar:Paired (DU K F H) vs us) (nd:(addrs vs us).Nodup) (N:BBB) (hN:N.length=n):
  Rel K ⟨lent vs us,F,H⟩ (us.map some++List.replicate (n - us.length) none) (start N vs) F H:=by
 have hl:vs.length=us.length:=ar.length;have gS:∀{i:Nat}{u:U},(us.map some++List.replicate (n - us.length) none)[i]? =some (some u)->us[i]? =some u:=fun {i u} h=>by
  rw[List.getElem?_append] at h;split at h
  ·rw[Yl] at h;obtain⟨w,h1,h2⟩:=az h;cases h2;exact h1
  ·rw[Zw] at h;split at h <;> cases h
 have SK:∀{i:Nat}{v:V},vs[i]? =some v->(start N vs)[i]? =some (some v):=fun {i v} h=>by
  unfold start;have hi:=(XY.mp h).1;rw[YL (by simpa using hi),Yl,h];rfl
 have vb:∀{i:Nat}{v w:V},vs[i]? =some v->(start N vs)[i]? =some (some w)->v=w:=fun {i v w} h k=>by
  rw[SK h] at k;cases k;rfl
 have Ja:∀{i:Nat}{u:U},us[i]? =some u->dM u=true->∃o a,u= .b o/\vs[i]? =some (.ref a)/\(lent vs us)[i]? =some (some a)/\F a=none/\At F H a o:=fun {i u} h hm=>by
  obtain⟨v,h1,h2⟩:=kL ar h;cases u with
  | t d=>cases hm
  | v d=>cases hm
  | s d=>cases hm
  | f d=>cases hm
  | x cx kx=>cases hm
  | m o=>cases h2
  | b o=>obtain⟨a,k1,k2,k3,k4⟩:=yW ar h;exact⟨o,a,rfl,k1,k2,k3,k4⟩
 refine⟨sb,?_,fun i u h=>?_,fun i j u w a h1 m1 h2 m2 v1 v2=>?_,fun i o a h hv=>?_,fun i o a h hv=>?_,fun i a h=>?_,Ext.refl ..⟩
 ·unfold start;simp[hl,hN]
 ·obtain⟨v,h1,h2⟩:=kL ar (gS h);refine⟨v,SK h1,?_⟩;cases u with
  | t d=>exact h2
  | s d=>exact h2
  | f d=>exact h2
  | x cx kx=>exact h2
  | v d=>cases h2
  | m o=>cases h2
  | b o=>exact h2
 ·obtain⟨_,a1,_,k1,k2,_⟩:=Ja (gS h1) m1;obtain⟨_,a2,_,l1,l2,_⟩:=Ja (gS h2) m2;have e1:=vb k1 v1;have e2:=vb l1 v2;cases e1;cases e2;exact xJ nd k2 l2
 ·obtain⟨_,_,e,_⟩:=Ja (gS h) rfl;cases e
 ·obtain⟨_,a1,_,k1,k2,_⟩:=Ja (gS h) rfl;have e1:=vb k1 hv;cases e1;exact Yn k2
 ·obtain⟨k1,o,k2⟩:=Al h;refine⟨SK k1,o,?_⟩;have hi:=(XY.mp k2).1;rw[YL (by simpa using hi),Yl,k2];rfl
def OZ {v:V}(hu:¬∃o,u= .b o):addrs (v :: vs) (u :: us)=addrs vs us/\lent (v :: vs) (u :: us)=none :: lent vs us/\(∀s S os,aB (u :: us) (s :: S)=some os->aB us S=some os)/\∀os,¬aB (u :: us) []=some os:=by
 cases v <;> cases u <;> first | exact⟨rfl,rfl,fun _ _ _ h=>h,fun _ h=>by cases h⟩ | exact absurd ⟨_,rfl⟩ hu
theorem yX {F' H':Hp}:∀{vs:List V}{us:List U}{S:SS}{os:List MO},aB us S=some os->vs.length=us.length->(∀(i:Nat) (o:MO) (a:Addr),(lent vs us)[i]? =some (some a)->S[i]? =some (some (.b o))->F' a=none/\At F' H' a o)->(∀(i:Nat) (o:MO),us[i]? =some (.b o)->∃a,vs[i]? =some (.ref a))->
  Paired (fun a o=>F' a=none/\At F' H' a o) (addrs vs us) os
 | [],[],S,os,h,_,_,_=>by cases S <;> (simp[aB] at h;subst h;exact .nil)
 | [],_ :: _,_,_,_,l,_,_=>by cases l
 | _ :: _,[],_,_,_,l,_,_=>by cases l
 | v :: vs,u :: us,S,os,h,l,k,kb=>by
  have l':vs.length=us.length:=by simpa using l
  have kb':∀(i:Nat) (o:MO),us[i]? =some (.b o)->∃a,vs[i]? =some (.ref a):=fun i o z=>kb (i+1) o z;by_cases hu:∃o,u= .b o
  ·obtain⟨o,rfl⟩:=hu;obtain⟨a,ha⟩:=kb 0 o rfl;have ha:v= .ref a:=by simpa using ha
   subst ha;cases S with
   | nil=>cases h
   | cons s S=>
    cases s with
    | none=>cases h
    | some s=>
     cases s with
     | b o'=>
      obtain⟨os',h1,h2⟩:=az (show(aB us S).map (fun os=>o' :: os)=some os from h);subst h2;exact .cons (k 0 o' a rfl rfl) (yX h1 l' (fun i o a z1 z2=>k (i+1) o a z1 z2) kb')
     | t d=>cases h
     | m d=>cases h
     | v d=>cases h
     | s d=>cases h
     | f d=>cases h
     | x cx kx=>cases h
  ·obtain⟨e2,e1,e3⟩:=OZ (v:=v) (vs:=vs) (us:=us) hu;rw[e2];cases S with
   | nil=>exact absurd h (e3.2 os)
   | cons s S=>exact yX (e3.1 s S os h) l' (fun i o a z1 z2=>k (i+1) o a (by rw[e1];exact z1) z2) kb'
def post_of (ar:Paired (DU K F0 H) vs us) (S':SS) (σ':St) (F' H':Hp) (os:List MO) (R':Rel K ⟨lent vs us,F0,H⟩ S' σ' F' H') (ho':aB us S'=some os):Post F0 H F' H' (addrs vs us) os:=by
 refine⟨R'.sub,⟨R'.ext.le,fun b o z n=>R'.ext.keep b o z fun m=>n ((mw vs us b).mp m),fun b o z n=>R'.ext.iQ b o z fun m=>n ((mw vs us b).mp m),R'.ext.there,R'.ext.iw⟩,yX ho' ar.length (fun i o a z1 z2=>?_) fun i o z=>?_⟩
 ·obtain⟨k1,o2,k2⟩:=R'.par i a z1;obtain⟨v,j1,j2⟩:=R'.rep i _ z2;rw[k1] at j1;cases j1;obtain⟨c,e,f,k⟩:=j2;cases e;exact⟨f,k⟩
 ·obtain⟨a,h1,_⟩:=yW ar z;exact⟨a,h1⟩
section
variable {P:Program}{w:World}{K:AAA}{mg:AAC}{base:Heap}
def Vg {x qual:Str}{st:Stmt}{f:Addr}{fd:FuncData}{N ps:BBB}{k:Nat}{fm:FM}{g:GS}(F:IJ K x qual st f fd) (Sc:bg N ps (aL st))
  (hb:∀(cdv:Value) (A:Around) (outer:BBF) (s:Shared) (H:Hp) (E:XK),fU k (A.deeper (envOfC qual (aL st) s.heap.objs.size f cdv))->JB (wA xD P w K mg base N qual (aL st) f cdv A outer s H E).KN (fX st) g)
  (hf:∀us r,fm us=some r->aJ N.length g us=some r):jx P w K mg base xD (k+1) f fd ps (spT K ps.length fm):=by
 refine F.ok Sc (fun vs H Q E h=>h.1) fun cdv A outer s H vs Q E hr h=>?_;obtain⟨hlen,F0,us,r,outs,sb,ar,nd,hfm,q⟩:=h;have hrun:=hf us (r,outs) hfm;have J:=hb cdv A outer s H E hr;refine⟨_,J.h ⟨lent vs us,F0,H⟩,?_⟩;have R0:=qP sb ar nd N rfl;obtain⟨o,ho,hrun⟩:=ah hrun;refine⟨_,F0,o,R0,ho,?_⟩;have post:=post_of ar;cases o with
 | bk S'=>cases hrun
 | ct S'=>cases hrun
 | nx S'=>
  obtain⟨os,h1,h2⟩:=az (show(aB us S').map _=some (r,outs) from hrun);cases h2;exact fun σ' F' H' R' le=>q .bN F' H' (post S' σ' F' H' outs R' h1) .bN
 | rt u S'=>
  cases u with
  | b o=>cases hrun
  | v i=>cases hrun
  | s i=>cases hrun
  | f i=>cases hrun
  | x cx kx=>cases hrun
  | t d=>
   obtain⟨os,h1,h2⟩:=az (show(aB us S').map _=some (r,outs) from hrun);cases h2;exact fun v σ' F' H' R' le rr=>q v F' H' (post S' σ' F' H' outs R' h1) rr
  | m o=>
   obtain⟨os,h1,h2⟩:=az (show(aB us S').map _=some (r,outs) from hrun);cases h2;exact fun v σ' F' H' R' le rr=>q v F' H' (post S' σ' F' H' outs R' h1) (by obtain⟨a,e,h0,f,h,n,hB⟩:=rr;exact⟨a,e,hB,f,h⟩)
end
noncomputable def BS (S:SS) (i:Nat):Option U:=match S[i]? with
 | some (some (.t d))=>some (.t d)
 | some (some (.s d))=>some (.s d)
 | some (some (.f d))=>some (.f d)
 | some (some (.m _))=>some (.v i)
 | some (some (.b _))=>some (.v i)
 | _=>none
def iA (S:SS):BBJ->Option (List U)
 | []=>some []
 | i :: cap=>(BS S i).bind fun u=>(iA S cap).map fun us=>u :: us
noncomputable def iu:GT:=fun S=>some (true,S)
def d8 (cap:BBJ) (q:GT) (g:GD):List D->SS->List D->Option (List D×SS)
 | [],S,acc=>some (acc,S)
 | d :: ds,S,acc=>(iA S cap).bind fun us=>
  if(slotsOf us).Nodup/\cN us<=1 then(bW S us).bind fun ws=>(q (XM d :: ws.map some)).bind fun p=>
   if p.1 then(g p.2).bind fun r=>(aB (.t d :: ws) r.2).bind fun outs=>(wb us outs S).bind fun S'=>d8 cap q g ds S' (acc++[r.1])
   else(aB (.t d :: ws) p.2).bind fun outs=>(wb us outs S).bind fun S'=>d8 cap q g ds S' acc
  else none
def sO (cap:BBJ) (gi:GI) (q:GT) (g:GD):GE:=fun S=>(gi S).bind fun p=>if p.1.length<=100000 then(d8 cap q g p.1 p.2 []).map fun r=>(.m (.lst r.1),r.2) else none
structure SM (X:Cx) (es:BBC) (q:GT):Prop where
 h:∀B,LY X es (tQ X.K B q)
def um :SM X [] iu:=⟨fun B pins s σ H Q I ⟨S,F,b,S',R,hg,q⟩=>by cases hg;exact IK pins s σ H Q I (q F H R (Step.refl ..))⟩
def Jb {c:Expr}(h:JT X c q):SM X [c] q:=⟨fun B=>IL (h.h B)⟩
theorem Gk {K:AAA}{B:Base}{S:SS}{σ:St}{F H:Hp}(R:Rel K B S σ F H):∀{cap:BBJ}{us:List U},iA S cap=some us->∃vs:List V,iT cap σ=vs.map some/\Paired (fun v u=>iV K B S σ H F H v u) vs us
 | [],us,h=>by cases h;exact⟨[],rfl,.nil⟩
 | i :: cap,us,h=>by
  obtain⟨u,h1,h⟩:=ah h;obtain⟨us',h2,h⟩:=az h;subst h;obtain⟨vs,k1,k2⟩:=Gk R h2;have one:∀w,S[i]? =some (some w)->∃v,σ[i]? =some (some v)/\wF K F H v w:=R.rep i;unfold BS at h1;have fin:∀v,σ[i]? =some (some v)->iV K B S σ H F H v u->∃vs:List V,iT (i :: cap) σ=vs.map some/\Paired (fun v u=>iV K B S σ H F H v u) vs (u :: us'):=fun v e r=>
   ⟨v :: vs,by show(σ[i]?).join :: iT cap σ=_;rw[e,k1];rfl,.cons r k2⟩
  split at h1
  ·rename_i d e;cases h1;obtain⟨v,e1,r⟩:=one _ e;exact fin v e1 r
  ·rename_i d e;cases h1;obtain⟨v,e1,r⟩:=one _ e;exact fin v e1 r
  ·rename_i d e;cases h1;obtain⟨v,e1,r⟩:=one _ e;exact fin v e1 r
  ·rename_i o e;cases h1;obtain⟨v,e1,r⟩:=one _ e;exact fin v e1 ⟨e1,_,e⟩
  ·rename_i o e;cases h1;obtain⟨v,e1,r⟩:=one _ e;exact fin v e1 ⟨e1,_,e⟩
  ·cases h1
def Gm {F:Hp}(R:Rel K B S σ F H) (d:D)(h:bW S us=some ws):bW S (.t d :: us)=some (.t d :: ws):=by
 show(some (U.t d)).bind _=_;show(bW S us).map _=_;rw[h];rfl
inductive O0 (K:AAA) (B:Base) (S:SS) (σ:St) (F H F1:Hp) (lp:List D->SS->List D->Option (List D×SS)) (ds:List D) (r:List D×SS) (i m:Nat) (ys:List V) (H':Hp):Prop
 | mk (S2:SS) (F2:Hp) (acc:List D) (R:Rel K B S2 σ F2 H') (st:Step S S2 σ F H F2 H') (le:∀b o,F1 b=some o->F2 b=some o) (ry:bh F2 ys acc) (ha:acc.length<=i) (hl:i<=ds.length) (hm:m=ds.length - i) (e:lp (ds.drop i) S2 acc=some r)
def Gn {Q:VK}(h:tE K B (sO cap gi q g) σ H Q):R6 (Vf K B gi) cap (fun σ H Q=>∃B,tQ K B q σ H Q) (fun σ H Q=>∃B,tD K B g σ H Q) σ H Q:=by
 obtain⟨x,_⟩:∃x:Str,True:=⟨"",trivial⟩
 obtain⟨S,F,u,S',R,hg,k⟩:=h;obtain⟨⟨ds,S1⟩,h1,hg⟩:=ah hg;dsimp only at hg;split at hg
 ·rename_i hlen;obtain⟨⟨res,Sf⟩,h2,hg⟩:=az hg;cases hg;refine⟨S,F,ds,S1,R,h1,fun J F1 H1 R1 st1 w=>?_⟩;refine⟨O0 K B S σ F H F1 (d8 cap q g) ds (res,Sf),
   ⟨_,S1,F1,[],R1,st1,fun _ _ z=>z,.nil,XW _,YY _,rfl,h2⟩,?_⟩
  rintro i m ys H' ⟨S2,F2,acc,R2,st2,le,ry,ha,hl,rfl,mq⟩;refine⟨by rw[ry.length];exact Zf (X7 ha (X7 hl hlen)) (by decide),?_⟩;have w':=w F2 H' le R2.sub i;by_cases hlt:i < ds.length
  ·have hd:ds[i]? =some ds[i]:=Yh hlt;obtain⟨go,yl⟩:=w'.1 _ hd;rw[ZO hlt] at mq;refine .inr ⟨go,fun xv H3 y=>?_⟩;obtain⟨rfl,rx⟩:=yl xv H3 y;obtain⟨us,e1,mq⟩:=ah mq
   skip
   split at mq
   ·rename_i hnd;obtain⟨ws,e2,mq⟩:=ah mq;obtain⟨⟨bk,T1⟩,e3,mq⟩:=ah mq;obtain⟨vs,k1,k2⟩:=Gk R2 e1;have rr:Paired (fun v u=>iV K B S2 σ H3 F2 H3 v u) (xv :: vs) (.t ds[i] :: us):=.cons rx k2;have er:=Gm R2 ds[i] e2;have ar:=uh R2 rr er;have nd:=cV R2 rr er hnd.1 hnd.2;have R3:=qP (n:=ws.length+1) R2.sub ar nd (List.replicate (ws.length+1) x) (by simp);have hvl:vs.length=ws.length:=by have:=ar.length;simpa using this
    have es:start (List.replicate (ws.length+1) x) (xv :: vs)=some xv :: iT cap σ:=by
     unfold start;rw[k1];simp[hvl]
    have eS:(U.t ds[i] :: ws).map some++List.replicate (ws.length+1 - (U.t ds[i] :: ws).length) none=some (U.t ds[i]) :: ws.map some:=by simp
    rw[es,eS] at R3;have back:∀(T2:SS) (F3 H4:Hp) (outs:List MO) (S3:SS),Rel K ⟨lent (xv :: vs) (U.t ds[i] :: ws),F2,H3⟩ T2 (some xv :: iT cap σ) F3 H4->aB (U.t ds[i] :: ws) T2=some outs->wb us outs S2=some S3->Rel K B S3 σ F3 H4/\Step S S3 σ F H F3 H4/\(∀b o,F2 b=some o->F3 b=some o):=fun T2 F3 H4 outs S3 RT ho hw=>by
     have po:=post_of ar T2 _ F3 H4 outs RT ho;obtain⟨Ra,KZ,_⟩:=kK (S0:=S2) (F0:=F2) (H0:=H3) R2 (Step.refl ..) rr er (show wb (U.t ds[i] :: us) outs S2=some S3 by cases outs <;> exact hw) hnd.1 po;exact⟨Ra,st2.trans KZ,KZ.ext.le⟩
    refine⟨_,_,F2,bk,T1,R3,e3,fun F3 H4 Vh Wu=>?_⟩;cases bk with
    | true=>
     obtain⟨⟨yd,T2⟩,e4,mq⟩:=ah (show(g T1).bind _=_ from mq);obtain⟨outs,e5,mq⟩:=ah mq;obtain⟨S3,e6,mq⟩:=ah mq;refine BE ⟨_,T1,F3,yd,T2,Vh,e4,fun yv F4 H5 Wv Ww SN=>?_⟩;obtain⟨Ra,KZ,O1⟩:=back T2 F4 H5 outs S3 Wv e5 e6;refine⟨ds.length - (i+1),by lia,S3,F4,acc++[yd],Ra,KZ,fun b o z=>O1 b o (le b o z),(ry.le O1).append (.cons SN .nil),by simp;lia,hlt,rfl,mq⟩
    | false=>
     obtain⟨outs,e5,mq⟩:=ah (show(aB (U.t ds[i] :: ws) T1).bind _=_ from mq);obtain⟨S3,e6,mq⟩:=ah mq;obtain⟨Ra,KZ,O1⟩:=back T1 F3 H4 outs S3 Vh e5 e6;exact BD ⟨ds.length - (i+1),by lia,S3,F3,acc,Ra,KZ,fun b o z=>O1 b o (le b o z),ry.le O1,by lia,hlt,rfl,mq⟩
   ·cases mq
  ·have e:i=ds.length:=by lia
   subst e;rw[List.drop_length] at mq;cases mq;refine .inl ⟨w'.2 (XW _),fun p hp=>?_⟩;have n:=gO.obj (F:=F2) hp (.lst ys);refine k (.ref p) F2 _ (R2.new n (R2.sub.same n.same)) (st2.trans n.step) ⟨p,rfl,none_of st2.ext.there hp,R2.sub.fresh hp,⟨ys,aX,ry⟩,fun m=>?_,none_of R2.ext.there hp⟩;obtain⟨o,ho⟩:=R2.has m;rw[hp] at ho;cases ho
 ·cases hg
def pW {elt:Expr}{ifs:BBC}{x:Str}{px pos:Pos}(T:fY X x cH cap scope cl) (hc:X.calm=true) (hi:JI X (.Name x px) iter gi)
  (ht:∀C s H fp,SM (gC X (x :: cH) scope cl C s H fp) ifs q) (he:∀C s H fp,JD (gC X (x :: cH) scope cl C s H fp) elt g)
  (hs:∀x,foldedSetIterable iter X.env x=pure x:=by intro _;rfl):JE X (.ListComp elt [⟨.Name x px,iter,ifs,0⟩] scope pos) (sO cap gi q g):=⟨fun B=>by
 exact(FY (tc:=fun σ H Q=>∃B,tQ X.K B q σ H Q) (te:=fun σ H Q=>∃B,tD X.K B g σ H Q) T hc (hi.h B) (fun C s H fp pins s' σ H' Q I ⟨B',z⟩=>(ht C s H fp).h B' pins s' σ H' Q I z) (fun C s H fp pins s' σ H' Q I ⟨B',z⟩=>(he C s H fp).h B' pins s' σ H' Q I z) hs).imp fun σ H Q h=>Gn h⟩
mutual
noncomputable def kD:D->D->Bool
 | .bN,.bN=>true
 | .bl a,.bl b=>a == b
 | .int a,.int b=>a == b
 | .bl a,.int b=>(if a then 1 else 0) == b
 | .int a,.bl b=>a == (if b then 1 else 0)
 | .str a,.str b=>a == b
 | .tup a,.tup b=>oG a b
 | .lst a,.lst b=>oG a b
 | _,_=>false
noncomputable def oG:List D->List D->Bool
 | [],[]=>true
 | a :: as,b :: bs=>kD a b && oG as bs
 | _,_=>false
end
mutual
noncomputable def bX:D->Nat
 | .tup ds=>bF ds+1
 | .lst ds=>bF ds+1
 | _=>0
noncomputable def bF:List D->Nat
 | []=>0
 | d :: ds=>max (bX d) (bF ds)
end
mutual
theorem pX:∀d:D,kD d d=true
 | .bN=>rfl
 | .bl a=>by simp[kD]
 | .int a=>by simp[kD]
 | .str a=>by simp[kD]
 | .tup a=>by unfold kD;exact j8 a
 | .lst a=>by unfold kD;exact j8 a
theorem j8:∀ds:List D,oG ds ds=true
 | []=>rfl
 | d :: ds=>by unfold oG;rw[pX d,j8 ds];rfl
end
def nU (as bs:List D) (j:Nat):Bool:=match as[j]?,bs[j]? with
 | some a,some b=>kD a b
 | _,_=>true
def uK (n:Nat) (e:Nat->Bool):(List.range (n+1)).all e=(e 0 && (List.range n).all fun j=>e (j+1)):=by
 rw[List.range_succ_eq_map,Y6,List.all_map];rfl
theorem mz:∀{as bs:List D},as.length≠bs.length->oG as bs=false
 | [],[],h=>absurd rfl h
 | [],_ :: _,_=>rfl
 | _ :: _,[],_=>rfl
 | a :: as,b :: bs,h=>by
  unfold oG;rw[mz (as:=as) (bs:=bs) (fun z=>h (by simp[z])),aaE]
theorem iY:∀{as bs:List D},as.length=bs.length->(List.range as.length).all (nU as bs)=oG as bs
 | [],[],_=>rfl
 | [],_ :: _,h=>by cases h
 | _ :: _,[],h=>by cases h
 | a :: as,b :: bs,h=>by
  have h':as.length=bs.length:=by simpa using h
  show(List.range (as.length+1)).all _=_;rw[uK];unfold oG;have ih:=iY h';have e:(fun j=>nU (a :: as) (b :: bs) (j+1))=nU as bs:=by funext j;kernel_rfl
  rw[e,ih];rfl
def Jc {F:Hp}{ws:List V}(h:Rd F a (.lst vs)) (h':Rd F a (.lst ws)):vs=ws:=by
 rcases h with e1 | ⟨o,e1⟩ <;> rcases h' with e2 | ⟨o',e2⟩ <;> (rw[e1] at e2;cases e2) <;> rfl
mutual
theorem Rep.uniq {F:Hp}:∀{v:V}{d e:D},Rep F v d->Rep F v e->d=e
 | _,_,_,.bN,r=>by cases r;rfl
 | _,_,_,.bl b,r=>by cases r;rfl
 | _,_,_,.int b,r=>by cases r;rfl
 | _,_,_,.str b,r=>by cases r;rfl
 | _,_,_,.tup e1 r1,r=>by
  cases r with
  | tup e2 r2=>rw[e1] at e2;cases e2;rw[bh.uniq r1 r2]
  | lst e2 r2=>rcases e2 with e2 | ⟨o,e2⟩ <;> (rw[e1] at e2;cases e2)
 | _,_,_,.lst e1 r1,r=>by
  cases r with
  | tup e2 r2=>rcases e1 with e1 | ⟨o,e1⟩ <;> (rw[e1] at e2;cases e2)
  | lst e2 r2=>rcases e1 with e1 | ⟨o,e1⟩ <;> rcases e2 with e2 | ⟨o',e2⟩ <;> (rw[e1] at e2;cases e2) <;> rw[bh.uniq r1 r2]
theorem bh.uniq {F:Hp}:∀{vs:List V}{ds es:List D},bh F vs ds->bh F vs es->ds=es
 | _,_,_,.nil,r=>by cases r;rfl
 | _,_,_,.cons r1 s1,r=>by
  cases r with
  | cons r2 s2=>rw[Rep.uniq r1 r2,bh.uniq s1 s2]
end
section
variable {X:Cx}{pins:AAD}{σ:St}{F H:Hp}{s:Shared}
def Sub.isTup (I:Inv X pins σ H s) (sb:Sub F H)(h:F a=some (.tup vs)):∃its:BBG,Vals vs its/\s.heap.IsTuple a its.toArray:=by
 obtain⟨its,rv,p,_⟩:=I.tuple (.inl (Rd.of (sb a _ h)));exact⟨its,rv,p⟩
def Sub.cQ (I:Inv X pins σ H s) (sb:Sub F H)(h:Rd F a (.lst vs)):∃its:BBG,Vals vs its/\s.heap.IsList a its.toArray:=by
 obtain⟨its,rv,p,_⟩:=I.list (.inl (h.imp (sb a _) fun⟨o,z⟩=>⟨o,sb a _ z⟩));exact⟨its,rv,p.isList⟩
def gJ (A:Around) (s:Shared) (its bM:AAI) (ds es:List D):Prop:=∀j (h1:j < its.toArray.size) (h2:j < bM.toArray.size),SeqAt.EqAt A.in1 s its.toArray[j] bM.toArray[j] (nU ds es j)
def C0 {m:Nat}(h:n=m) (e:Nat->Bool):((List.range (min n m)).all e && n == m)=(List.range n).all e:=by
 subst h;simp
def pY (hu:A.units < cLine) (pa:s.heap.IsTuple ca dY.toArray) (pb:s.heap.IsTuple cb bM.toArray) (la:dY.length=ds.length) (lb:bM.length=es.length) (h:gJ A s dY bM ds es):
  SeqAt.RcAt A s (.ref ca) (.ref cb) (oG ds es):=by
 have q:=SeqAt.RcAt.tuples (e:=nU ds es) pa pb hu h;rw[XR,XR,la,lb] at q;by_cases hl:ds.length=es.length
 ·rw[C0 hl,iY hl] at q;exact q
 ·rw[mz hl];have:(ds.length == es.length)=false:=by simpa using hl
  rw[this,aaE] at q;exact q
def uL (hu:A.units < cLine) (pa:s.heap.IsTuple ca dY.toArray) (pb:s.heap.IsTuple cb bM.toArray) (la:dY.length=ds.length) (lb:bM.length=es.length) (h:gJ A s dY bM ds es):
  SeqAt.RcNeAt A s (.ref ca) (.ref cb) (!oG ds es):=by
 have q:=SeqAt.RcNeAt.tuples (e:=nU ds es) pa pb hu h;rw[XR,XR,la,lb] at q;by_cases hl:ds.length=es.length
 ·rw[C0 hl,iY hl] at q;exact q
 ·rw[mz hl];have:(ds.length == es.length)=false:=by simpa using hl
  rw[this,aaE] at q;exact q
def sP (hu:A.units < cLine) (pa:s.heap.IsList ca dY.toArray) (pb:s.heap.IsList cb bM.toArray) (la:dY.length=ds.length) (lb:bM.length=es.length) (h:gJ A s dY bM ds es):
  SeqAt.RcAt A s (.ref ca) (.ref cb) (oG ds es):=by
 by_cases hl:ds.length=es.length
 ·have q:=SeqAt.RcAt.lists (e:=nU ds es) pa pb (by rw[XR,XR,la,lb];exact hl) hu h;rw[XR,la,iY hl] at q;exact q
 ·rw[mz hl];exact SeqAt.RcAt.lists_lengths pa pb (by rw[XR,XR,la,lb];simpa using hl) hu
def wJ (hu:A.units < cLine) (pa:s.heap.IsList ca dY.toArray) (pb:s.heap.IsList cb bM.toArray) (la:dY.length=ds.length) (lb:bM.length=es.length) (h:gJ A s dY bM ds es):
  SeqAt.RcNeAt A s (.ref ca) (.ref cb) (!oG ds es):=by
 by_cases hl:ds.length=es.length
 ·have q:=SeqAt.RcNeAt.lists (e:=nU ds es) pa pb (by rw[XR,XR,la,lb];exact hl) hu h;rw[XR,la,iY hl] at q;exact q
 ·rw[mz hl];exact SeqAt.RcNeAt.lists_lengths pa pb (by rw[XR,XR,la,lb];simpa using hl) hu
def cS (l:List α) (j:Nat) (h:j < l.toArray.size):l[j]? =some l.toArray[j]:=by
 have z:j < l.length:=by simpa using h
 simp[z]
mutual
theorem K0 (I:Inv X pins σ H s) (sb:Sub F H):∀(d:D){e:D}{A:Around}{x y:V}{u w':Value},Rep F x d->Rep F y e->RelV x u->RelV y w'->A.units+bX d < cLine->SeqAt.EqAt A s u w' (kD d e):=fun d {e A x y u w'} r1 r2 rx ry hu=>by
 cases r1 with
 | bN=>
  cases rx;cases r2 with
  | bN=>cases ry;exact aam _
  | bl b=>cases ry;exact SeqAt.EqAt.none_bool b
  | int b=>obtain⟨tb,rfl⟩:=ry;exact SeqAt.EqAt.none_int b tb
  | str b=>obtain⟨tb,rfl⟩:=ry;exact SeqAt.EqAt.none_str b tb
  | @tup cb mC j9 eb rb=>cases ry;obtain⟨bM,iZ,pb⟩:=sb.isTup I eb;exact SeqAt.EqAt.none_tuple pb (by lia)
  | @lst cb mC j9 eb rb=>cases ry;obtain⟨bM,iZ,pb⟩:=sb.cQ I eb;exact SeqAt.EqAt.none_list pb (by lia)
 | bl a=>
  cases rx;cases r2 with
  | bN=>cases ry;exact SeqAt.EqAt.bool_none a
  | bl b=>cases ry;exact aal a b
  | int b=>obtain⟨tb,rfl⟩:=ry;exact aax a b tb
  | str b=>obtain⟨tb,rfl⟩:=ry;exact aay a b tb
  | @tup cb mC j9 eb rb=>cases ry;obtain⟨bM,iZ,pb⟩:=sb.isTup I eb;exact SeqAt.EqAt.bool_tuple a pb (by lia)
  | @lst cb mC j9 eb rb=>cases ry;obtain⟨bM,iZ,pb⟩:=sb.cQ I eb;exact SeqAt.EqAt.bool_list a pb (by lia)
 | int a=>
  obtain⟨ta,rfl⟩:=rx;cases r2 with
  | bN=>cases ry;exact SeqAt.EqAt.int_none a ta
  | bl b=>cases ry;exact aaw a ta b
  | int b=>obtain⟨tb,rfl⟩:=ry;exact SeqAt.EqAt.int_int a ta b tb
  | str b=>obtain⟨tb,rfl⟩:=ry;exact aaI a ta b tb
  | @tup cb mC j9 eb rb=>cases ry;obtain⟨bM,iZ,pb⟩:=sb.isTup I eb;exact SeqAt.EqAt.int_tuple a ta pb (by lia)
  | @lst cb mC j9 eb rb=>cases ry;obtain⟨bM,iZ,pb⟩:=sb.cQ I eb;exact SeqAt.EqAt.int_list a ta pb (by lia)
 | str a=>
  obtain⟨ta,rfl⟩:=rx;cases r2 with
  | bN=>cases ry;exact SeqAt.EqAt.str_none a ta
  | bl b=>cases ry;exact aaz a ta b
  | int b=>obtain⟨tb,rfl⟩:=ry;exact aaJ a ta b tb
  | str b=>obtain⟨tb,rfl⟩:=ry;exact SeqAt.EqAt.str_str a ta b tb
  | @tup cb mC j9 eb rb=>cases ry;obtain⟨bM,iZ,pb⟩:=sb.isTup I eb;exact SeqAt.EqAt.str_tuple a ta pb (by lia)
  | @lst cb mC j9 eb rb=>cases ry;obtain⟨bM,iZ,pb⟩:=sb.cQ I eb;exact SeqAt.EqAt.str_list a ta pb (by lia)
 | @tup ca O2 nM ea ra=>
  cases rx;obtain⟨dY,Am,pa⟩:=sb.isTup I ea;cases r2 with
  | bN=>cases ry;exact SeqAt.EqAt.tuple_none pa (by lia)
  | bl b=>cases ry;exact SeqAt.EqAt.tuple_bool b pa (by lia)
  | int b=>obtain⟨tb,rfl⟩:=ry;exact SeqAt.EqAt.tuple_int b tb pa (by lia)
  | str b=>obtain⟨tb,rfl⟩:=ry;exact SeqAt.EqAt.tuple_str b tb pa (by lia)
  | @tup cb mC j9 eb rb=>cases ry;obtain⟨bM,iZ,pb⟩:=sb.isTup I eb;exact(by
   have hd:A.units+(bF nM+1) < cLine:=hu;have items:gJ A s dY bM nM j9:=fun j h1 h2=>i6 I sb nM (A:=A.in1) ra rb Am iZ (by show A.units+1+bF nM < cLine;lia) (cS dY j h1) (cS bM j h2);by_cases hc:ca=cb
   ·subst hc;rw[ea] at eb;cases eb;obtain rfl:=bh.uniq ra rb;show SeqAt.EqAt A s _ _ (oG nM nM);rw[j8];exact aam _
   ·exact aaK hc (pY (by lia) pa pb (Am.length.symm.trans ra.length) (iZ.length.symm.trans rb.length) items))
  | @lst cb mC j9 eb rb=>cases ry;obtain⟨bM,iZ,pb⟩:=sb.cQ I eb;exact SeqAt.EqAt.tuple_list pa pb (by lia)
 | @lst ca O2 nM ea ra=>
  cases rx;obtain⟨dY,Am,pa⟩:=sb.cQ I ea;cases r2 with
  | bN=>cases ry;exact SeqAt.EqAt.list_none pa (by lia)
  | bl b=>cases ry;exact SeqAt.EqAt.list_bool b pa (by lia)
  | int b=>obtain⟨tb,rfl⟩:=ry;exact SeqAt.EqAt.list_int b tb pa (by lia)
  | str b=>obtain⟨tb,rfl⟩:=ry;exact SeqAt.EqAt.list_str b tb pa (by lia)
  | @tup cb mC j9 eb rb=>cases ry;obtain⟨bM,iZ,pb⟩:=sb.isTup I eb;exact SeqAt.EqAt.list_tuple pa pb (by lia)
  | @lst cb mC j9 eb rb=>cases ry;obtain⟨bM,iZ,pb⟩:=sb.cQ I eb;exact(by
   have hd:A.units+(bF nM+1) < cLine:=hu;have items:gJ A s dY bM nM j9:=fun j h1 h2=>i6 I sb nM (A:=A.in1) ra rb Am iZ (by show A.units+1+bF nM < cLine;lia) (cS dY j h1) (cS bM j h2);by_cases hc:ca=cb
   ·subst hc;obtain rfl:=Jc ea eb;obtain rfl:=bh.uniq ra rb;show SeqAt.EqAt A s _ _ (oG nM nM);rw[j8];exact aam _
   ·exact aaK hc (sP (by lia) pa pb (Am.length.symm.trans ra.length) (iZ.length.symm.trans rb.length) items))
theorem i6 (I:Inv X pins σ H s) (sb:Sub F H):∀(ds:List D){es:List D}{A:Around}{vs ws:List V}{us us':AAI}{j:Nat}{u w':Value},bh F vs ds->bh F ws es->Vals vs us->Vals ws us'->A.units+bF ds < cLine->us[j]? =some u->us'[j]? =some w'->SeqAt.EqAt A s u w' (nU ds es j):=fun ds {es A vs ws us us' j u w'} r1 r2 v1 v2 hu h1 h2=>by
 cases r1 with
 | nil=>cases v1;simp at h1
 | @cons v d vs ds r rs=>
  cases v1 with
  | cons q qs=>
   cases r2 with
   | nil=>cases v2;simp at h2
   | @cons w e ws es r' rs'=>
    cases v2 with
    | cons q' Wx=>
     have hd:A.units+max (bX d) (bF ds) < cLine:=hu;cases j with
     | zero=>
      simp at h1 h2;subst h1 h2;exact K0 I sb d r r' q q' (by lia)
     | succ j=>
      simp at h1 h2;have:=i6 I sb ds (A:=A) rs rs' qs Wx (j:=j) (by lia) h1 h2
      simpa[nU] using this
end
def O3 (I:Inv X pins σ H s) (sb:Sub F H){d e:D}{u w':Value}(r1:Rep F x d) (r2:Rep F y e) (rx:RelV x u) (ry:RelV y w') (hu:A.units+bX d < cLine):SeqAt.RcAt A s u w' (kD d e):=by
 cases r1 with
 | bN=>
  cases rx;cases r2 with
  | bN=>cases ry;exact SeqAt.RcAt.none_none
  | bl b=>cases ry;exact SeqAt.RcAt.none_bool b
  | int b=>obtain⟨tb,rfl⟩:=ry;exact SeqAt.RcAt.none_int b tb
  | str b=>obtain⟨tb,rfl⟩:=ry;exact SeqAt.RcAt.none_str b tb
  | @tup cb mC j9 eb rb=>cases ry;obtain⟨bM,iZ,pb⟩:=sb.isTup I eb;exact SeqAt.RcAt.none_tuple pb (by lia)
  | @lst cb mC j9 eb rb=>cases ry;obtain⟨bM,iZ,pb⟩:=sb.cQ I eb;exact SeqAt.RcAt.none_list pb (by lia)
 | bl a=>
  cases rx;cases r2 with
  | bN=>cases ry;exact SeqAt.RcAt.bool_none a
  | bl b=>cases ry;exact SeqAt.RcAt.bool_bool a b
  | int b=>obtain⟨tb,rfl⟩:=ry;exact SeqAt.RcAt.bool_int a b tb
  | str b=>obtain⟨tb,rfl⟩:=ry;exact SeqAt.RcAt.bool_str a b tb
  | @tup cb mC j9 eb rb=>cases ry;obtain⟨bM,iZ,pb⟩:=sb.isTup I eb;exact SeqAt.RcAt.bool_tuple a pb (by lia)
  | @lst cb mC j9 eb rb=>cases ry;obtain⟨bM,iZ,pb⟩:=sb.cQ I eb;exact SeqAt.RcAt.bool_list a pb (by lia)
 | int a=>
  obtain⟨ta,rfl⟩:=rx;cases r2 with
  | bN=>cases ry;exact SeqAt.RcAt.int_none a ta
  | bl b=>cases ry;exact SeqAt.RcAt.int_bool a ta b
  | int b=>obtain⟨tb,rfl⟩:=ry;exact SeqAt.RcAt.int_int a ta b tb
  | str b=>obtain⟨tb,rfl⟩:=ry;exact SeqAt.RcAt.int_str a ta b tb
  | @tup cb mC j9 eb rb=>cases ry;obtain⟨bM,iZ,pb⟩:=sb.isTup I eb;exact SeqAt.RcAt.int_tuple a ta pb (by lia)
  | @lst cb mC j9 eb rb=>cases ry;obtain⟨bM,iZ,pb⟩:=sb.cQ I eb;exact SeqAt.RcAt.int_list a ta pb (by lia)
 | str a=>
  obtain⟨ta,rfl⟩:=rx;cases r2 with
  | bN=>cases ry;exact SeqAt.RcAt.str_none a ta
  | bl b=>cases ry;exact SeqAt.RcAt.str_bool a ta b
  | int b=>obtain⟨tb,rfl⟩:=ry;exact SeqAt.RcAt.str_int a ta b tb
  | str b=>obtain⟨tb,rfl⟩:=ry;exact SeqAt.RcAt.str_str a ta b tb
  | @tup cb mC j9 eb rb=>cases ry;obtain⟨bM,iZ,pb⟩:=sb.isTup I eb;exact SeqAt.RcAt.str_tuple a ta pb (by lia)
  | @lst cb mC j9 eb rb=>cases ry;obtain⟨bM,iZ,pb⟩:=sb.cQ I eb;exact SeqAt.RcAt.str_list a ta pb (by lia)
 | @tup ca O2 nM ea ra=>
  cases rx;obtain⟨dY,Am,pa⟩:=sb.isTup I ea;cases r2 with
  | bN=>cases ry;exact SeqAt.RcAt.tuple_none pa (by lia)
  | bl b=>cases ry;exact SeqAt.RcAt.tuple_bool b pa (by lia)
  | int b=>obtain⟨tb,rfl⟩:=ry;exact SeqAt.RcAt.tuple_int b tb pa (by lia)
  | str b=>obtain⟨tb,rfl⟩:=ry;exact SeqAt.RcAt.tuple_str b tb pa (by lia)
  | @tup cb mC j9 eb rb=>cases ry;obtain⟨bM,iZ,pb⟩:=sb.isTup I eb;exact(by
   have hd:A.units+(bF nM+1) < cLine:=hu;have items:gJ A s dY bM nM j9:=fun j h1 h2=>i6 I sb nM (A:=A.in1) ra rb Am iZ (by show A.units+1+bF nM < cLine;lia) (cS dY j h1) (cS bM j h2);exact pY (by lia) pa pb (Am.length.symm.trans ra.length) (iZ.length.symm.trans rb.length) items)
  | @lst cb mC j9 eb rb=>cases ry;obtain⟨bM,iZ,pb⟩:=sb.cQ I eb;exact SeqAt.RcAt.tuple_list pa pb (by lia)
 | @lst ca O2 nM ea ra=>
  cases rx;obtain⟨dY,Am,pa⟩:=sb.cQ I ea;cases r2 with
  | bN=>cases ry;exact SeqAt.RcAt.list_none pa (by lia)
  | bl b=>cases ry;exact SeqAt.RcAt.list_bool b pa (by lia)
  | int b=>obtain⟨tb,rfl⟩:=ry;exact SeqAt.RcAt.list_int b tb pa (by lia)
  | str b=>obtain⟨tb,rfl⟩:=ry;exact SeqAt.RcAt.list_str b tb pa (by lia)
  | @tup cb mC j9 eb rb=>cases ry;obtain⟨bM,iZ,pb⟩:=sb.isTup I eb;exact SeqAt.RcAt.list_tuple pa pb (by lia)
  | @lst cb mC j9 eb rb=>cases ry;obtain⟨bM,iZ,pb⟩:=sb.cQ I eb;exact(by
   have hd:A.units+(bF nM+1) < cLine:=hu;have items:gJ A s dY bM nM j9:=fun j h1 h2=>i6 I sb nM (A:=A.in1) ra rb Am iZ (by show A.units+1+bF nM < cLine;lia) (cS dY j h1) (cS bM j h2);exact sP (by lia) pa pb (Am.length.symm.trans ra.length) (iZ.length.symm.trans rb.length) items)
def Jd (I:Inv X pins σ H s) (sb:Sub F H){d e:D}{u w':Value}(r1:Rep F x d) (r2:Rep F y e) (rx:RelV x u) (ry:RelV y w') (hu:A.units+bX d < cLine):SeqAt.RcNeAt A s u w' (!kD d e):=by
 cases r1 with
 | bN=>
  cases rx;cases r2 with
  | bN=>cases ry;exact SeqAt.RcNeAt.none_none
  | bl b=>cases ry;exact SeqAt.RcNeAt.none_bool b
  | int b=>obtain⟨tb,rfl⟩:=ry;exact SeqAt.RcNeAt.none_int b tb
  | str b=>obtain⟨tb,rfl⟩:=ry;exact SeqAt.RcNeAt.none_str b tb
  | @tup cb mC j9 eb rb=>cases ry;obtain⟨bM,iZ,pb⟩:=sb.isTup I eb;exact SeqAt.RcNeAt.none_tuple pb (by lia)
  | @lst cb mC j9 eb rb=>cases ry;obtain⟨bM,iZ,pb⟩:=sb.cQ I eb;exact SeqAt.RcNeAt.none_list pb (by lia)
 | bl a=>
  cases rx;cases r2 with
  | bN=>cases ry;exact SeqAt.RcNeAt.bool_none a
  | bl b=>cases ry;exact SeqAt.RcNeAt.bool_bool a b
  | int b=>obtain⟨tb,rfl⟩:=ry;exact SeqAt.RcNeAt.bool_int a b tb
  | str b=>obtain⟨tb,rfl⟩:=ry;exact SeqAt.RcNeAt.bool_str a b tb
  | @tup cb mC j9 eb rb=>cases ry;obtain⟨bM,iZ,pb⟩:=sb.isTup I eb;exact SeqAt.RcNeAt.bool_tuple a pb (by lia)
  | @lst cb mC j9 eb rb=>cases ry;obtain⟨bM,iZ,pb⟩:=sb.cQ I eb;exact SeqAt.RcNeAt.bool_list a pb (by lia)
 | int a=>
  obtain⟨ta,rfl⟩:=rx;cases r2 with
  | bN=>cases ry;exact SeqAt.RcNeAt.int_none a ta
  | bl b=>cases ry;exact SeqAt.RcNeAt.int_bool a ta b
  | int b=>obtain⟨tb,rfl⟩:=ry;exact SeqAt.RcNeAt.int_int a ta b tb
  | str b=>obtain⟨tb,rfl⟩:=ry;exact SeqAt.RcNeAt.int_str a ta b tb
  | @tup cb mC j9 eb rb=>cases ry;obtain⟨bM,iZ,pb⟩:=sb.isTup I eb;exact SeqAt.RcNeAt.int_tuple a ta pb (by lia)
  | @lst cb mC j9 eb rb=>cases ry;obtain⟨bM,iZ,pb⟩:=sb.cQ I eb;exact SeqAt.RcNeAt.int_list a ta pb (by lia)
 | str a=>
  obtain⟨ta,rfl⟩:=rx;cases r2 with
  | bN=>cases ry;exact SeqAt.RcNeAt.str_none a ta
  | bl b=>cases ry;exact SeqAt.RcNeAt.str_bool a ta b
  | int b=>obtain⟨tb,rfl⟩:=ry;exact SeqAt.RcNeAt.str_int a ta b tb
  | str b=>obtain⟨tb,rfl⟩:=ry;exact SeqAt.RcNeAt.str_str a ta b tb
  | @tup cb mC j9 eb rb=>cases ry;obtain⟨bM,iZ,pb⟩:=sb.isTup I eb;exact SeqAt.RcNeAt.str_tuple a ta pb (by lia)
  | @lst cb mC j9 eb rb=>cases ry;obtain⟨bM,iZ,pb⟩:=sb.cQ I eb;exact SeqAt.RcNeAt.str_list a ta pb (by lia)
 | @tup ca O2 nM ea ra=>
  cases rx;obtain⟨dY,Am,pa⟩:=sb.isTup I ea;cases r2 with
  | bN=>cases ry;exact SeqAt.RcNeAt.tuple_none pa (by lia)
  | bl b=>cases ry;exact SeqAt.RcNeAt.tuple_bool b pa (by lia)
  | int b=>obtain⟨tb,rfl⟩:=ry;exact SeqAt.RcNeAt.tuple_int b tb pa (by lia)
  | str b=>obtain⟨tb,rfl⟩:=ry;exact SeqAt.RcNeAt.tuple_str b tb pa (by lia)
  | @tup cb mC j9 eb rb=>cases ry;obtain⟨bM,iZ,pb⟩:=sb.isTup I eb;exact(by
   have hd:A.units+(bF nM+1) < cLine:=hu;have items:gJ A s dY bM nM j9:=fun j h1 h2=>i6 I sb nM (A:=A.in1) ra rb Am iZ (by show A.units+1+bF nM < cLine;lia) (cS dY j h1) (cS bM j h2);exact uL (by lia) pa pb (Am.length.symm.trans ra.length) (iZ.length.symm.trans rb.length) items)
  | @lst cb mC j9 eb rb=>cases ry;obtain⟨bM,iZ,pb⟩:=sb.cQ I eb;exact SeqAt.RcNeAt.tuple_list pa pb (by lia)
 | @lst ca O2 nM ea ra=>
  cases rx;obtain⟨dY,Am,pa⟩:=sb.cQ I ea;cases r2 with
  | bN=>cases ry;exact SeqAt.RcNeAt.list_none pa (by lia)
  | bl b=>cases ry;exact SeqAt.RcNeAt.list_bool b pa (by lia)
  | int b=>obtain⟨tb,rfl⟩:=ry;exact SeqAt.RcNeAt.list_int b tb pa (by lia)
  | str b=>obtain⟨tb,rfl⟩:=ry;exact SeqAt.RcNeAt.list_str b tb pa (by lia)
  | @tup cb mC j9 eb rb=>cases ry;obtain⟨bM,iZ,pb⟩:=sb.isTup I eb;exact SeqAt.RcNeAt.list_tuple pa pb (by lia)
  | @lst cb mC j9 eb rb=>cases ry;obtain⟨bM,iZ,pb⟩:=sb.cQ I eb;exact(by
   have hd:A.units+(bF nM+1) < cLine:=hu;have items:gJ A s dY bM nM j9:=fun j h1 h2=>i6 I sb nM (A:=A.in1) ra rb Am iZ (by show A.units+1+bF nM < cLine;lia) (cS dY j h1) (cS bM j h2);exact wJ (by lia) pa pb (Am.length.symm.trans ra.length) (iZ.length.symm.trans rb.length) items)
def sQ:List D->Option U
 | [a,b]=>if bX a<=40 then some (.t (.bl (kD a b))) else none
 | _=>none
def Gp:List D->Option U
 | [a,b]=>if bX a<=40 then some (.t (.bl (!kD a b))) else none
 | _=>none
def c7 (hu:X.A.units+64 < cLine):yU X (compareOp .Eq) sQ:=by
 intro pins s σ H x y v u Q I rx ry ⟨F,ds,w,sb,rs,hw,q⟩;obtain⟨d,e,rfl,r1,r2⟩:=sL rs;obtain⟨hd,rfl⟩:=bw (show(if bX d<=40 then some (U.t (.bl (kD d e))) else none)=some w from hw);exact O3 I sb r1 r2 rx ry (by lia) _ _ _ _ ⟨.bl _,H,I,rfl,q _ F H (gO.refl ..) sb (.bl _)⟩
def uM (hu:X.A.units+64 < cLine):yU X (compareOp .NotEq) Gp:=by
 intro pins s σ H x y v u Q I rx ry ⟨F,ds,w,sb,rs,hw,q⟩;obtain⟨d,e,rfl,r1,r2⟩:=sL rs;obtain⟨hd,rfl⟩:=bw (show(if bX d<=40 then some (U.t (.bl (!kD d e))) else none)=some w from hw);exact Jd I sb r1 r2 rx ry (by lia) _ _ _ _ ⟨.bl _,H,I,rfl,q _ F H (gO.refl ..) sb (.bl _)⟩
def inD (x:D) (ds:List D):Bool:=ds.any fun y=>kD y x
def Gq:List D->Option U
 | [x,.tup ds]=>if bF ds<=40 then some (.t (.bl (inD x ds))) else none
 | [x,.lst ds]=>if bF ds<=40 then some (.t (.bl (inD x ds))) else none
 | [.str i,.str j]=>some (.t (.bl (!(Builtin.Str.occurrences j i 0 j.length 1).isEmpty)))
 | _=>none
def f9:List D->Option U
 | [x,.tup ds]=>if bF ds<=40 then some (.t (.bl (!inD x ds))) else none
 | [x,.lst ds]=>if bF ds<=40 then some (.t (.bl (!inD x ds))) else none
 | [.str i,.str j]=>some (.t (.bl (!(!(Builtin.Str.occurrences j i 0 j.length 1).isEmpty))))
 | _=>none
theorem xK:∀{ds:List D}{d:D},d∈ds->bX d<=bF ds
 | d :: ds,e,h=>by
  show bX e<=max (bX d) (bF ds);rcases XT.mp h with rfl | h
  ·exact Nat.le_max_left _ _
  ·exact X7 (xK h) (Nat.le_max_right _ _)
def RelV.uniq {v w':V}{u:Value}(a:RelV v u) (b:RelV w' u):v=w':=by
 cases v <;> cases w' <;> simp only[RelV] at a b <;> first
  | rfl
  | (subst a;cases b;done)
  | (subst a;cases b;rfl)
  | (obtain⟨t,rfl⟩:=a;obtain⟨t',e⟩:=b;cases e;done)
  | (obtain⟨t,rfl⟩:=a;obtain⟨t',e⟩:=b;cases e;rfl)
  | (obtain⟨t,rfl⟩:=a;cases b;done)
  | (obtain⟨t,rfl⟩:=b;cases a;done)
open Classical in
def wK (F:Hp) (d:D) (y:Value):Bool:=if h:∃(v:V) (dd:D),RelV v y/\Rep F v dd then kD (Classical.choose (Zj h)) d else false
def Gr {v:V}{dd d:D}{y:Value}(a:RelV v y) (r:Rep F v dd):wK F d y=kD dd d:=by
 unfold wK;have h:∃(v:V) (dd:D),RelV v y/\Rep F v dd:=⟨v,dd,a,r⟩
 rw[dif_pos h];have k:=Zj (Zj h);have e1:=RelV.uniq k.1 a;have r':Rep F (Classical.choose h) dd:=by rw[e1];exact r
 rw[Rep.uniq k.2 r']
theorem kg (I:Inv X pins σ H s) (sb:Sub F H){A:Around}{x:V}{u:Value}{d:D}(r:Rep F x d) (rx:RelV x u):∀{vs:List V}{ds:List D}{its:AAI},bh F vs ds->Vals vs its->A.units+bF ds < cLine->
  (∀y∈its,SeqAt.EqAt A s y u (wK F d y))/\its.any (wK F d)=inD d ds
 | _,_,_,.nil,.nil,_=>⟨(fun y hy=>absurd hy (by simp)),rfl⟩
 | _,_,_,@bh.cons _ v dd vs ds r1 rs,.cons q qs,hu=>by
  have hd:A.units+max (bX dd) (bF ds) < cLine:=hu;obtain⟨h1,h2⟩:=kg I sb (A:=A) r rx rs qs (by lia);refine⟨fun y hy=>?_,?_⟩
  ·rcases XT.mp hy with rfl | hy
   ·rw[Gr q r1];exact K0 I sb dd r1 r q rx (by lia)
   ·exact h1 y hy
  ·rw[Y7,h2,Gr q r1];rfl
def uN (hu:X.A.units+64 < cLine):yU X (compareOp .In) Gq:=by
 intro pins s σ H x y v u Q I rx ry ⟨F,ds,w,sb,rs,hw,q⟩;obtain⟨d,e,rfl,r1,r2⟩:=sL rs;cases e with
 | tup ds=>
  obtain⟨hd,rfl⟩:=bw (show(if bF ds<=40 then some (U.t (.bl (inD d ds))) else none)=some w by cases d <;> exact hw);obtain⟨a,vs,rfl,fa,ha,rs⟩:=sb.nR r2;cases ry;obtain⟨its,rv,p⟩:=sb.isTup I fa;obtain⟨h1,h2⟩:=kg I sb (A:=X.A.in1) r1 rx rs rv (by show X.A.units+1+bF ds < cLine;lia);refine SeqAt.in_tupleAt (wK F d) p (fun y hy=>h1 y (by simpa using hy)) ⟨.bl _,H,I,rfl,?_⟩;rw[show its.toArray.any (wK F d)=its.any (wK F d) by simp,h2];exact q _ F H (gO.refl ..) sb (.bl _)
 | lst ds=>
  obtain⟨hd,rfl⟩:=bw (show(if bF ds<=40 then some (U.t (.bl (inD d ds))) else none)=some w by cases d <;> exact hw);obtain⟨a,vs,rfl,fa,ha,rs⟩:=sb.jy r2;cases ry;obtain⟨its,rv,p⟩:=sb.cQ I fa;obtain⟨h1,h2⟩:=kg I sb (A:=X.A.in1) r1 rx rs rv (by show X.A.units+1+bF ds < cLine;lia);refine SeqAt.in_listAt (wK F d) p (fun y hy=>h1 y (by simpa using hy)) ⟨.bl _,H,I,rfl,?_⟩;rw[show its.toArray.any (wK F d)=its.any (wK F d) by simp,h2];exact q _ F H (gO.refl ..) sb (.bl _)
 | str j=>
  cases d <;> try (cases hw;done)
  rename_i i;cases hw;cases r1;cases r2;exact DF pins s σ H _ _ v u Q I rx ry ⟨i,j,rfl,rfl,q _ F H (gO.refl ..) sb (.bl _)⟩
 | bN=>cases d <;> (cases hw;done)
 | bl b=>cases d <;> (cases hw;done)
 | int b=>cases d <;> (cases hw;done)
def qQ (hu:X.A.units+64 < cLine):yU X (compareOp .NotIn) f9:=by
 intro pins s σ H x y v u Q I rx ry ⟨F,ds,w,sb,rs,hw,q⟩;obtain⟨d,e,rfl,r1,r2⟩:=sL rs;cases e with
 | tup ds=>
  obtain⟨hd,rfl⟩:=bw (show(if bF ds<=40 then some (U.t (.bl (!inD d ds))) else none)=some w by cases d <;> exact hw);obtain⟨a,vs,rfl,fa,ha,rs⟩:=sb.nR r2;cases ry;obtain⟨its,rv,p⟩:=sb.isTup I fa;obtain⟨h1,h2⟩:=kg I sb (A:=X.A.in1) r1 rx rs rv (by show X.A.units+1+bF ds < cLine;lia);refine SeqAt.notIn_tupleAt (wK F d) p (fun y hy=>h1 y (by simpa using hy)) ⟨.bl _,H,I,rfl,?_⟩;rw[show its.toArray.any (wK F d)=its.any (wK F d) by simp,h2];exact q _ F H (gO.refl ..) sb (.bl _)
 | lst ds=>
  obtain⟨hd,rfl⟩:=bw (show(if bF ds<=40 then some (U.t (.bl (!inD d ds))) else none)=some w by cases d <;> exact hw);obtain⟨a,vs,rfl,fa,ha,rs⟩:=sb.jy r2;cases ry;obtain⟨its,rv,p⟩:=sb.cQ I fa;obtain⟨h1,h2⟩:=kg I sb (A:=X.A.in1) r1 rx rs rv (by show X.A.units+1+bF ds < cLine;lia);refine SeqAt.notIn_listAt (wK F d) p (fun y hy=>h1 y (by simpa using hy)) ⟨.bl _,H,I,rfl,?_⟩;rw[show its.toArray.any (wK F d)=its.any (wK F d) by simp,h2];exact q _ F H (gO.refl ..) sb (.bl _)
 | str j=>
  cases d <;> try (cases hw;done)
  rename_i i;cases hw;cases r1;cases r2;exact yL pins s σ H _ _ v u Q I rx ry ⟨i,j,rfl,rfl,q _ F H (gO.refl ..) sb (.bl _)⟩
 | bN=>cases d <;> (cases hw;done)
 | bl b=>cases d <;> (cases hw;done)
 | int b=>cases d <;> (cases hw;done)
end
def iB (T:String) (d:D):Option Bool:=match T with
 | "tuple"=>some (BI d)
 | "list"=>some (F6 d)
 | "str"=>some (gZ d)
 | "bool"=>some (F7 d)
 | "int"=>some (BJ d)
 | _=>none
def Gs {d:D}{b:Bool}(h:iB T d=some b):PySem.W.kitOne K (.type (L4 d)) (.type T)=some b:=by
 unfold iB at h;split at h
 ·cases h;exact IQ d
 ·cases h;exact IS d
 ·cases h;exact F8 d
 ·cases h;exact L5 d
 ·cases h;exact IT d
 ·cases h
def d9:List String->D->Option Bool
 | [],_=>some false
 | T :: Ts,d=>match iB T d with
  | some true=>some true
  | some false=>d9 Ts d
  | none=>none
section
variable {X:Cx}{pins:AAD}{σ:St}{F H:Hp}{s:Shared}
def Je (I:Inv X pins σ H s) (sb:Sub F H){u:Value}{d:D}{c:Value}{b:Bool}(r:Rep F x d) (rx:RelV x u) (e:PySem.W.kitOne X.K (.type (L4 d)) c=some b) (h:∀tk,Q (.bool b) {s with toks:=tk}):
  wpAny (model X.prog X.w) A (call (.builtin "isinstance") [u,c]) Q E s:=by
 cases r with
 | bN=>cases rx;exact ZA PySem.W.kitx_none I.Bp True.intro e (fun z=>nomatch z) h
 | bl y=>cases rx;exact ZA PySem.W.kitx_bool I.Bp True.intro e (fun z=>nomatch z) h
 | int i=>obtain⟨t,rfl⟩:=rx;exact ZA PySem.W.kitx_int I.Bp True.intro e (fun z=>nomatch z) h
 | str y=>obtain⟨t,rfl⟩:=rx;exact ZA PySem.W.kitx_str I.Bp True.intro e (fun z=>nomatch z) h
 | tup ea _=>
  cases rx;obtain⟨its,_,o,h1,h2,_⟩:=sb.isTup I ea;exact ZA PySem.W.kitx_tuple I.Bp ⟨o,h1,h2⟩ e (fun z=>nomatch z) h
 | lst ea _=>
  cases rx;obtain⟨its,_,o,h1,h2,_⟩:=sb.cQ I ea;exact ZA PySem.W.kitx_list I.Bp ⟨o,h1,h2⟩ e (fun z=>nomatch z) h
end
def Gu (Ts:List String) (g:GD):GD:=fun S=>(g S).bind fun p=>(d9 Ts p.1).map fun b=>(.bl b,p.2)
section
variable {X:Cx}{a b e:Expr}{pos p px:Pos}{x y:Str}{ga:GD}
def DV {d:D}{b:Bool}(h:d9 [T] d=some b):iB T d=some b:=by
 unfold d9 at h;cases e:iB T d with
 | none=>rw[e] at h;cases h
 | some k=>rw[e] at h;cases k <;> exact h
def fP (hg:Gl X "isinstance") (hm:X.mg "isinstance" =none) (Nt:Gl X y) (hm2:X.mg y=none) (hv2:bootBuiltins y=some (.type T)) (ha:JD X a ga) (hn2:y≠"__name__":=by decide) (hd2:BBT y:=by decide)
  (hs:starEach [a,.Name y px] X.env=(false,eval a X.env) :: starEach [.Name y px] X.env:=by rfl) (hs2:starEach [.Name y px] X.env=(false,eval (.Name y px) X.env) :: starEach [] X.env:=by rfl) (hpl:(backTo pos (starEach [.Name y px] X.env)).any (·.1)=false:=by rfl):
  JD X (.Call (.Name "isinstance" p) [a,.Name y px] [] pos) (Gu [T] ga):=⟨fun B=>
 (iR (r:=fun xs H Q=>∃x F d b,xs=[x,.ty T]/\Sub F H/\Rep F x d/\iB T d=some b/\Q (.bl b) H) (fun pins s σ H xs us Q I r hh=>by
   obtain⟨x,F,d,b,e1,sb,rd,hk,q⟩:=hh;subst e1;obtain⟨u,w',rfl,ru,rw'⟩:=vals2 r;cases rw';exact Je I sb rd ru (Gs hk) fun tk=>⟨.bl b,H,I.tok tk,rfl,q⟩) hg hm PyProof.Rows.Boot.isinstance (cU (ha.h B) (cU (Ii (v:=.ty T) Nt hm2 hv2 rfl hn2 hd2) kE hs2) hs) (by decide) (by decide) hs hpl).imp fun σ H Q hh=>by
 obtain⟨S,F,d,S',R,hg,q⟩:=hh;obtain⟨⟨d1,S1⟩,h1,hg⟩:=ah hg;obtain⟨k,h2,hg⟩:=az hg;cases hg;exact⟨S,F,d1,_,R,h1,fun v F1 H1 R1 st1 r1=>⟨v,F1,d1,k,rfl,R1.sub,r1,DV h2,q _ F1 H1 R1 st1 (.bl k)⟩⟩⟩
noncomputable def kM:List D->Option (List Bool)
 | []=>some []
 | .bl b :: ds=>(kM ds).map fun bs=>b :: bs
 | _=>none
theorem sR {F:Hp}:∀{vs:List V}{ds:List D}{bs:List Bool},bh F vs ds->kM ds=some bs->vs=bs.map V.bl
 | _,_,_,.nil,h=>by cases h;rfl
 | _,_,_,@bh.cons _ v d vs ds r rs,h=>by
  cases d <;> try (cases h;done)
  obtain⟨bs,h1,h2⟩:=az (show(kM ds).map _=_ from h);subst h2;rw[jI r,sR rs h1];rfl
def Jf:List D->Option U
 | [.lst ds]=>(kM ds).map fun bs=>.t (.bl (bs.all id))
 | _=>none
def C1 {P:D->Prop}{F:Hp}{f:List D->Option U}{w':U}(rs:bh F xs ds) (h:f ds=some w') (hn:f []=none) (h2:∀a b r,f (a :: b :: r)=none):∃x d,xs=[x]/\ds=[d]/\Rep F x d:=by
 cases rs with
 | nil=>rw[hn] at h;cases h
 | cons r rs=>
  cases rs with
  | nil=>exact⟨_,_,rfl,rfl,r⟩
  | cons _ _=>rw[h2] at h;cases h
def xM (hc:X.calm=true):jX X (.builtin "all") (rP Jf):=by
 intro pins s σ H xs us Q I r ⟨F,ds,w,sb,rs,hw,q⟩;obtain⟨x,d,rfl,rfl,r1⟩:=C1 (P:=fun _=>True) rs hw rfl (fun d _ _=>by cases d <;> rfl);cases d <;> try (cases hw;done)
 rename_i ds;obtain⟨bs,h1,rfl⟩:=az (show(kM ds).map _=some w from hw);obtain⟨a,vs,rfl,fa,ha,xG⟩:=sb.jy r1;obtain rfl:=sR xG h1;exact DO hc pins s σ H _ us Q I r ⟨a,bs,rfl,.inl ha,q _ F H (gO.refl ..) sb (.bl _)⟩
noncomputable def O4:List D->Option U
 | [.int i,.int j,.int k]=>some (.t (.int (if j < i then(if k < j then k else j) else if k < i then k else i)))
 | _=>none
noncomputable def O5:List D->Option U
 | [.int i,.int j]=>some (.t (.int (if j < i then j else i)))
 | _=>none
noncomputable def An:List D->Option U
 | [.int i,.int j]=>some (.t (.int (if j > i then j else i)))
 | _=>none
def uO (hc:X.calm=true):jX X (.builtin "max") (rP An):=by
 intro pins s σ H xs us Q I r ⟨F,ds,w,sb,rs,hw,q⟩;unfold An at hw;split at hw
 ·rename_i i j;cases hw;cases rs with
  | cons r1 rs=>cases rs with
   | cons r2 rs=>
    cases rs;rw[fZ r1,fZ r2] at r;exact DG hc pins s σ H _ us Q I r ⟨i,j,rfl,q _ F H (gO.refl ..) sb (.int _)⟩
 ·cases hw
end
def nK.ky {k:Key}(e:H a=some (.dK kvs)) (h:LO y k):nK H a y (oB kvs k):=.inl ⟨kvs,k,.inl e,h,rfl⟩
def Aa.ky {k:Key}{v:V}(e:H a=some (.dK kvs)) (h:LO y k) (hl:kvs.length < sizeLine):Aa H a y v (upd H a (.dK (putK kvs k v))):=.inl ⟨kvs,k,e,h,hl,rfl⟩
def keyOf:D->Option Key
 | .bl b=>some (.inl (bI b))
 | .int i=>some (.inl i)
 | .str z=>some (.inr z)
 | _=>none
def nB {F:Hp}{v:V}{d:D}{k:Key}(r:Rep F v d) (h:keyOf d=some k):LO v k:=by
 cases r <;> cases h <;> first | exact .inl rfl | exact .inr ⟨_,rfl,rfl⟩
noncomputable def bY {κ:Type} [DecidableEq κ] (kvs:List (κ×D)) (k:κ):Option D:=(kvs.find? fun kv=>decide (kv.1=k)).map (·.2)
noncomputable def putD {κ:Type} [DecidableEq κ] (kvs:List (κ×D)) (k:κ) (d:D):List (κ×D):=
 if(kvs.any fun kv=>decide (kv.1=k))=true then kvs.map (fun kv=>if kv.1=k then(kv.1,d) else kv) else kvs++[(k,d)]
theorem nC {κ:Type} [DecidableEq κ] {F:Hp}{k:κ}{d:D}:∀{ws:List (κ×V)}{kvs:List (κ×D)},Paired (ez F) ws kvs->bY kvs k=some d->∃v,oB ws k=some v/\Rep F v d
 | _,_,.nil,h=>by cases h
 | _,_,@Paired.cons _ _ _ p q ws kvs r rs,h=>by
  by_cases e:q.1=k
  ·have e':p.1=k:=r.1.trans e;refine⟨p.2,pM e',?_⟩;have:bY (q :: kvs) k=some q.2:=by simp[bY,YM,e]
   rw[this] at h;cases h;exact r.2
  ·have e':¬p.1=k:=fun z=>e (r.1.symm.trans z);have:bY (q :: kvs) k=bY kvs k:=by simp[bY,YM,e]
   rw[this] at h;obtain⟨v,h1,h2⟩:=nC rs h;exact⟨v,by rw[l6 e'];exact h1,h2⟩
theorem xN {κ:Type} [DecidableEq κ] {F:Hp}{k:κ}:∀{ws:List (κ×V)}{kvs:List (κ×D)},Paired (ez F) ws kvs->bY kvs k=none->oB ws k=none
 | _,_,.nil,h=>rfl
 | _,_,@Paired.cons _ _ _ p q ws kvs r rs,h=>by
  by_cases e:q.1=k
  ·have:bY (q :: kvs) k=some q.2:=by simp[bY,YM,e]
   rw[this] at h;cases h
  ·have e':¬p.1=k:=fun z=>e (r.1.symm.trans z);have:bY (q :: kvs) k=bY kvs k:=by simp[bY,YM,e]
   rw[this] at h;rw[l6 e'];exact xN rs h
theorem Ao {κ:Type} [DecidableEq κ] {F:Hp}{k:κ}:∀{ws:List (κ×V)}{kvs:List (κ×D)},Paired (ez F) ws kvs->(ws.any fun kv=>decide (kv.1=k))=(kvs.any fun kv=>decide (kv.1=k))
 | _,_,.nil=>rfl
 | _,_,.cons r rs=>by rw[Y7,Y7,Ao rs,r.1]
theorem Aq {κ:Type} [DecidableEq κ] {F:Hp}{k:κ}{v:V}{d:D}(r:Rep F v d):∀{ws:List (κ×V)}{kvs:List (κ×D)},Paired (ez F) ws kvs->Paired (ez F) (ws.map fun kv=>if kv.1=k then(kv.1,v) else kv) (kvs.map fun kv=>if kv.1=k then(kv.1,d) else kv)
 | _,_,.nil=>.nil
 | _,_,@Paired.cons _ _ _ p q ws kvs h hs=>by
  refine .cons ?_ (Aq r hs);show ez F (if p.1=k then(p.1,v) else p) (if q.1=k then(q.1,d) else q);rw[h.1];by_cases e:q.1=k
  ·rw[if_pos e,if_pos e];exact⟨rfl,r⟩
  ·rw[if_neg e,if_neg e];exact h
theorem sS {α β:Type}{P:α->β->Prop}{x:α}{y:β}(p:P x y):∀{l:List α}{r:List β},Paired P l r->Paired P (l++[x]) (r++[y])
 | _,_,.nil=>.cons p .nil
 | _,_,.cons q qs=>.cons q (sS p qs)
def uP {κ:Type} [DecidableEq κ] {F:Hp}{k:κ}{v:V}{d:D}{ws:List (κ×V)}{kvs:List (κ×D)}(h:Paired (ez F) ws kvs) (r:Rep F v d):Paired (ez F) (putK ws k v) (putD kvs k d):=by
 unfold putK putD;rw[Ao h];by_cases e:(kvs.any fun kv=>decide (kv.1=k))=true
 ·rw[if_pos e,if_pos e];exact Aq r h
 ·rw[if_neg e,if_neg e];exact sS ⟨rfl,r⟩ h
def BU:D->Option D
 | .tup ds=>if fW 8 (.tup ds)=true then some (nf (.tup ds)) else none
 | _=>none
def pZ {F:Hp}{v:V}{d:D}{ks:D}(sb:Sub F H) (r:Rep F v d) (h:BU d=some ks):∃b,v= .ref b/\Kd H b ks:=by
 cases r with
 | @tup a vs ds e rs=>
  obtain⟨h1,h2⟩:=bw (show(if fW 8 (.tup ds)=true then some (nf (.tup ds)) else none)=some ks from h);subst h2;exact⟨a,rfl,_,Rep.le sb (.tup e rs),h1,rfl⟩
 | bN=>cases h
 | bl _=>cases h
 | int _=>cases h
 | str _=>cases h
 | lst _ _=>cases h
noncomputable def DW:D ⊕ Addr->Option D
 | .inl d=>some d
 | .inr _=>none
def uQ {α β:Type}{P:α->β->Prop}{l:List α}{r:List β}{i:Int}{y:β}(p:Paired P l r) (h:dj r i=some y):∃x,dj l i=some x/\P x y:=by
 obtain⟨j,h1,h2⟩:=ah h;obtain⟨x,k1,k2⟩:=kL p h2;refine⟨x,?_,k2⟩;unfold dj;rw[p.length,h1];exact k1
def mD:U->D->Option D
 | .t (.tup ds),.int i=>dj ds i
 | .t (.lst ds),.int i=>dj ds i
 | .m (.lst ds),.int i=>dj ds i
 | .b (.lst ds),.int i=>dj ds i
 | .s ns,.int i=>(dj ns i).map D.int
 | .m (.dct kvs),k=>(keyOf k).bind (bY kvs)
 | .b (.dct kvs),k=>(keyOf k).bind (bY kvs)
 | .m (.wg kvs),k=>(BU k).bind (bY kvs)
 | .b (.wg kvs),k=>(BU k).bind (bY kvs)
 | .m (.gap es),.int i=>(dj es i).bind DW
 | .b (.gap es),.int i=>(dj es i).bind DW
 | _,_=>none
def bJ (i:Nat) (gb:GD):GD:=fun S=>match S[i]? with
 | some (some _)=>(gb S).bind fun p=>match p.2[i]? with
  | some (some u)=>(mD u p.1).map fun d=>(d,p.2)
  | _=>none
 | _=>none
def Jg (f:α->β){l:List α}{i:Int}{x:α}(h:dj l i=some x):dj (l.map f) i=some (f x):=by
 unfold dj at h ⊢;rw[X3];obtain⟨j,h1,h2⟩:=ah h;rw[h1];show(l.map f)[j]? =_;rw[Yl,h2];rfl
section
variable {X:Cx}{a b c:Expr}{es:BBC}{pos p px:Pos}{x y:Str}{gb:GD}
def Mf (hu:X.A.units+20 < cLine) (hb:JD X b gb) (hs:pO b:=by first | (intro _ _;rfl)) (hN:X.N[i]? =some x:=by rfl) (hv:wm X.env.scope x:=by first | exact Or.inl rfl | exact Or.inr (Or.inl rfl) | exact Or.inr (Or.inr rfl))
  (hd:BBT x:=by decide) (hcd:BBU x:=by decide):JD X (.Subscript (.Name x px) b pos) (bJ i gb):=⟨fun B=>PE.orelse fun σ H Q hh=>by
 obtain⟨S,F,d,S',R,hg,q⟩:=hh;unfold bJ at hg;split at hg
 ·rename_i u0 BV;obtain⟨v0,hv0,_⟩:=R.rep i u0 BV;obtain⟨⟨k,S1⟩,h1,hg⟩:=ah hg;dsimp only at hg;split at hg
  ·rename_i u hS;obtain⟨d',hr,hg⟩:=az hg;cases hg;have Bk:∀F1 H1,Rel X.K B S' σ F1 H1->wF X.K F1 H1 v0 u:=fun F1 H1 R1=>by
    obtain⟨v,k1,k2⟩:=R1.rep i u hS;rw[hv0] at k1;cases k1;exact k2
   have seq:∀(Y:V->V->Hp->VK->Prop),PE X (.Subscript (.Name x px) b pos) (LB Y (Ih i) (tD X.K B gb))->(∀v F1 H1,Rel X.K B S' σ F1 H1->Step S S' σ F H F1 H1->Rep F1 v k->Y v0 v H1 Q)->∃t',PE X (.Subscript (.Name x px) b pos) t'/\t' σ H Q:=fun Y hY h=>
    ⟨_,hY,v0,hv0,S,F,k,S',R,h1,fun v F1 H1 R1 st1 r1=>h v F1 H1 R1 st1 r1⟩
   have dict:∀kvs,(∀F1 H1,Rel X.K B S' σ F1 H1->∃a ws,v0= .ref a/\H1 a=some (.dK ws)/\Paired (ez F1) ws kvs)->(keyOf k).bind (bY kvs)=some d->∃t',PE X (.Subscript (.Name x px) b pos) t'/\t' σ H Q:=fun kvs hat hr=>by
    obtain⟨kk,e1,e2⟩:=ah hr;refine⟨_,CM hu (dF hN hv hd hcd) (hb.h B) hs,v0,hv0,S,F,k,S',R,h1,fun v F1 H1 R1 st1 r1=>?_⟩;obtain⟨a,ws,rfl,ha,pr⟩:=hat F1 H1 R1;obtain⟨w',z1,z2⟩:=nC pr e2;exact⟨a,w',rfl,by rw[<-z1];exact nK.ky ha (nB r1 e1),q w' F1 H1 R1 st1 z2⟩
   have Ar:∀kvs,(∀F1 H1,Rel X.K B S' σ F1 H1->∃a ws,v0= .ref a/\H1 a=some (.dT ws)/\Paired (ez F1) ws kvs)->(BU k).bind (bY kvs)=some d->∃t',PE X (.Subscript (.Name x px) b pos) t'/\t' σ H Q:=fun kvs hat hr=>by
    obtain⟨kk,e1,e2⟩:=ah hr;refine⟨_,CM hu (dF hN hv hd hcd) (hb.h B) hs,v0,hv0,S,F,k,S',R,h1,fun v F1 H1 R1 st1 r1=>?_⟩;obtain⟨a,ws,rfl,ha,pr⟩:=hat F1 H1 R1;obtain⟨w',z1,z2⟩:=nC pr e2;obtain⟨b',rfl,hb'⟩:=pZ R1.sub r1 e1;exact⟨a,w',rfl,by rw[<-z1];exact nK.t ha hb',q w' F1 H1 R1 st1 z2⟩
   have list:∀ds ii,k= .int ii->dj ds ii=some d->(∀F1 H1,Rel X.K B S' σ F1 H1->∃a vs,v0= .ref a/\(oz X.K H1 a vs\/Bq X.K H1 a vs)/\bh F1 vs ds)->∃t',PE X (.Subscript (.Name x px) b pos) t'/\t' σ H Q:=fun ds ii ek hrr hat=>by
    subst ek;refine seq _ (Ad yQ (dF hN hv hd hcd) (hb.h B) hs) fun v F1 H1 R1 st1 r1=>?_;obtain⟨a,vs,rfl,ha,rs⟩:=hat F1 H1 R1;obtain⟨w',z1,z2⟩:=rs.dj hrr;rw[fZ r1];rcases ha with ha | ha
    ·exact .inl ⟨a,vs,ii,w',rfl,rfl,ha,z1,q w' F1 H1 R1 st1 z2⟩
    ·exact .inr (.inl ⟨a,vs,ii,w',rfl,rfl,ha,z1,q w' F1 H1 R1 st1 z2⟩)
   have gap:∀es ii,k= .int ii->(dj es ii).bind DW=some d->(∀F1 H1,Rel X.K B S' σ F1 H1->∃a vs,v0= .ref a/\H1 a=some (.lst vs)/\Paired (BL F1) vs es)->∃t',PE X (.Subscript (.Name x px) b pos) t'/\t' σ H Q:=fun es ii ek hrr hat=>by
    subst ek;obtain⟨y,e1,e2⟩:=ah hrr;cases y with
    | inr c=>cases e2
    | inl d'=>
     cases e2;refine seq _ (Ad yQ (dF hN hv hd hcd) (hb.h B) hs) fun v F1 H1 R1 st1 r1=>?_;obtain⟨a,vs,rfl,ha,rs⟩:=hat F1 H1 R1;obtain⟨w',z1,z2⟩:=uQ rs e1;rw[fZ r1];exact .inl ⟨a,vs,ii,w',rfl,rfl,oz.of ha,z1,q w' F1 H1 R1 st1 z2⟩
   unfold mD at hr;split at hr
   ·rename_i ds ii;exact list ds ii rfl hr fun F1 H1 R1=>let⟨a,vs,e1,fa,ha,rs⟩:=R1.sub.nR (Bk F1 H1 R1);⟨a,vs,e1,.inr (.inl ha),rs⟩
   ·rename_i ds ii;exact list ds ii rfl hr fun F1 H1 R1=>let⟨a,vs,e1,fa,ha,rs⟩:=R1.sub.jy (Bk F1 H1 R1);⟨a,vs,e1,.inl (.inl ha),rs⟩
   ·rename_i ds ii;exact list ds ii rfl hr fun F1 H1 R1=>let⟨a,e1,fa,vs,ha,rs⟩:=Bk F1 H1 R1;⟨a,vs,e1,.inl (oz.of ha),rs⟩
   ·rename_i ds ii;exact list ds ii rfl hr fun F1 H1 R1=>let⟨a,e1,fa,vs,ha,rs⟩:=Bk F1 H1 R1;⟨a,vs,e1,.inl (oz.of ha),rs⟩
   ·rename_i ns ii;obtain⟨n,z1,z2⟩:=az hr;subst z2;refine seq _ (Ad yQ (dF hN hv hd hcd) (hb.h B) hs) fun v F1 H1 R1 st1 r1=>?_;obtain⟨a,e1,ha⟩:=Bk F1 H1 R1;rw[fZ r1];exact .inl ⟨a,ns.map V.int,ii,.int n,e1,rfl,ha.sq,Jg V.int z1,q _ F1 H1 R1 st1 (.int n)⟩
   ·rename_i kvs;exact dict kvs (fun F1 H1 R1=>let⟨a,e1,fa,ws,ha,pr⟩:=Bk F1 H1 R1;⟨a,ws,e1,ha,pr⟩) hr
   ·rename_i kvs;exact dict kvs (fun F1 H1 R1=>let⟨a,e1,fa,ws,ha,pr⟩:=Bk F1 H1 R1;⟨a,ws,e1,ha,pr⟩) hr
   ·rename_i kvs;exact Ar kvs (fun F1 H1 R1=>let⟨a,e1,fa,ws,ha,pr⟩:=Bk F1 H1 R1;⟨a,ws,e1,ha,pr⟩) hr
   ·rename_i kvs;exact Ar kvs (fun F1 H1 R1=>let⟨a,e1,fa,ws,ha,pr⟩:=Bk F1 H1 R1;⟨a,ws,e1,ha,pr⟩) hr
   ·rename_i es ii;exact gap es ii rfl hr fun F1 H1 R1=>let⟨a,e1,fa,vs,ha,pr⟩:=Bk F1 H1 R1;⟨a,vs,e1,ha,pr⟩
   ·rename_i es ii;exact gap es ii rfl hr fun F1 H1 R1=>let⟨a,e1,fa,vs,ha,pr⟩:=Bk F1 H1 R1;⟨a,vs,e1,ha,pr⟩
   ·cases hr
  ·cases hg
 ·cases hg⟩
noncomputable def yY:U->Option Nat
 | .t (.tup ds)=>some ds.length
 | .t (.lst ds)=>some ds.length
 | .t (.str z)=>if z.length<=100000 then some z.length else none
 | .m (.lst ds)=>some ds.length
 | .b (.lst ds)=>some ds.length
 | .m (.dct ds)=>some ds.length
 | .b (.dct ds)=>some ds.length
 | .m (.wg ds)=>some ds.length
 | .b (.wg ds)=>some ds.length
 | .s ns=>some ns.length
 | _=>none
def nN (i:Nat):GD:=fun S=>match S[i]? with
 | some (some u)=>(yY u).map fun n=>(.int (n:Nat),S)
 | _=>none
theorem bS {α β:Type}{P:α->β->Prop}:∀{l:List α}{r:List β},Paired P l r->l.length=r.length
 | _,_,.nil=>rfl
 | _,_,.cons _ ps=>congrArg Nat.succ (bS ps)
def BW {K:Type} [DecidableEq K] (knd:HeapKind prog w K) (d:Addr) (hd:(d == sysModules)=false):
  MeetsIn prog w (Builtin.«dict.__len__» ⟨[.ref d],[]⟩) (fun _ R s=>∃xs,s.heap.DictOfH knd d xs/\R (.ok (.ret (.int xs.length s.toks))) {s with toks:=s.toks+1}):=
 .of_wp fun A R s hh=>by
  obtain⟨xs,hm,h⟩:=hh;obtain⟨o,es,ep,ho,hc,hdat,he,his,hn⟩:=hm;show wpAny _ _ (dictSize d >>= _) _ _ s;unfold dictSize;refine XQ (XQ (wpAny_dictEntries ho hdat (wpAny_pure ?_)));show wpAny _ _ (Builtin.Dict.pendingCount d >>= _) _ _ s;refine XQ (wpAny_pendingCount_other hd ?_);refine wpAny_ret_mkInt ?_;rw[aa3,size_of_entries he];exact h
def DX {K:Type} [DecidableEq K] {knd:HeapKind prog w K}{s:Shared}{d:Addr}{xs:List (K×Addr×Value)}(hd:(d == sysModules)=false) (hm:s.heap.DictOfH knd d xs) (hfit:(xs.length:Int) < 2 ^ 63)
  (h:Q (.int xs.length (s.toks+1)) {s with toks:=s.toks+1+1}):wpAny (model prog w) A (Builtin.«len» ⟨[.ref d],[]⟩) (fun fin s'=>∃r,fin= .done (.ret r)/\Q r s') E s:=by
 unfold Builtin.«len»
 refine XQ (m:=oneArg "len" _) (wpAny_pure ?_);refine XQ (m:=callSpecial? (.ref d) (Str.ofString "__len__")) (Y9 (name:=Str.ofString "__len__") hm.typeIs F.slot_dict_len
  (aaq F.slot_dict_len hm.typeIs F.entry_dict_len (F.args_dict_len_1 _) (BW knd d hd) ⟨xs,hm,?_⟩))
 show wpAny _ _ _ _ _ {s with toks:=s.toks+1};refine XQ (YD (wpAny_pure ?_));refine XQ (aaH ?_);show wpAny _ _ (if((xs.length:Nat):Int) < 0 then _ else _) _ _ _;rw[if_neg (by lia)];show wpAny _ _ (if((xs.length:Nat):Int)≥2 ^ 63 then _ else _) _ _ _;rw[if_neg (by lia)];exact XQ (wpAny_mkInt (wpAny_pure ⟨_,rfl,h⟩))
def BX:jX X (.builtin "len") (fun xs H Q=>∃a kvs,xs=[V.ref a]/\H a=some (.dT kvs)/\Q (.int kvs.length) H):=by
 intro pins s σ H xs us Q I r h;obtain⟨a,kvs,rfl,ha,q⟩:=h;obtain⟨u,rfl,ru⟩:=vals1 r;cases ru;obtain⟨z,hd,ys,rel,dd⟩:=KR I.hok ha;have hl:kvs.length=ys.length:=aaO rel;refine Calls.call_function_entry kind_len plain_len entry_len (args_len1 _) (DX hd dd (by rw[<-hl];rw[aaF] at z;lia) ?_);rw[<-hl];exact⟨.int kvs.length,H,I.tok _,⟨_,rfl⟩,q⟩
def gF (hg:Gl X "len") (hm:X.mg "len" =none) (hN:X.N[i]? =some x:=by rfl) (hv:wm X.env.scope x:=by first | exact Or.inl rfl | exact Or.inr (Or.inl rfl) | exact Or.inr (Or.inr rfl))
  (hd:BBT x:=by decide) (hcd:BBU x:=by decide) (he:starEach [.Name x px] X.env=(false,eval (.Name x px) X.env) :: starEach [] X.env:=by rfl) (hpl:(backTo pos (starEach [] X.env)).any (·.1)=false:=by rfl):
  JD X (.Call (.Name "len" p) [.Name x px] [] pos) (nN i):=⟨fun B=>PE.orelse fun σ H Q hh=>by
 obtain⟨S,F,d,S',R,hg',q⟩:=hh;unfold nN at hg';split at hg'
 ·rename_i u hS;obtain⟨n,hn,hg'⟩:=az hg';cases hg';obtain⟨v0,hv0,r0⟩:=R.rep i u hS;have fin:=q (.int n) F H R (Step.refl ..) (.int _);have arg:PA X [.Name x px] (xu (Ih i) Iq):=cU (dF hN hv hd hcd) kE he;have list:∀a vs,v0= .ref a->(oz X.K H a vs\/Bq X.K H a vs)->vs.length=n->∃t',PE X (.Call (.Name "len" p) [.Name x px] [] pos) t'/\t' σ H Q:=fun a vs e1 ha hl=>
   ⟨_,iR kF hg hm Zq arg (by decide) (by decide) he hpl,v0,hv0,a,vs,by rw[e1],ha,by rw[hl];exact fin⟩
  have dict:∀a ws,v0= .ref a->H a=some (.dK ws)->ws.length=n->∃t',PE X (.Call (.Name "len" p) [.Name x px] [] pos) t'/\t' σ H Q:=fun a vs e1 ha hl=>
   ⟨_,iR DN hg hm Zq arg (by decide) (by decide) he hpl,v0,hv0,a,vs,by rw[e1],ha,by rw[hl];exact fin⟩
  have Ar:∀a ws,v0= .ref a->H a=some (.dT ws)->ws.length=n->∃t',PE X (.Call (.Name "len" p) [.Name x px] [] pos) t'/\t' σ H Q:=fun a vs e1 ha hl=>
   ⟨_,iR BX hg hm Zq arg (by decide) (by decide) he hpl,v0,hv0,a,vs,by rw[e1],ha,by rw[hl];exact fin⟩
  unfold yY at hn;split at hn
  ·cases hn;obtain⟨a,vs,e1,fa,ha,rs⟩:=R.sub.nR r0;exact list a vs e1 (.inr (.inl ha)) rs.length
  ·cases hn;obtain⟨a,vs,e1,fa,ha,rs⟩:=R.sub.jy r0;exact list a vs e1 (.inl (.inl ha)) rs.length
  ·rename_i z;obtain⟨hl,rfl⟩:=bw hn;exact⟨_,iR pP hg hm Zq arg (by decide) (by decide) he hpl,v0,hv0,z,by rw[CZ r0],iy hl,fin⟩
  ·cases hn;obtain⟨a,e1,fa,vs,ha,rs⟩:=r0;exact list a vs e1 (.inl (oz.of ha)) rs.length
  ·cases hn;obtain⟨a,e1,fa,vs,ha,rs⟩:=r0;exact list a vs e1 (.inl (oz.of ha)) rs.length
  ·cases hn;obtain⟨a,e1,fa,ws,ha,pr⟩:=r0;exact dict a ws e1 ha (bS pr)
  ·cases hn;obtain⟨a,e1,fa,ws,ha,pr⟩:=r0;exact dict a ws e1 ha (bS pr)
  ·cases hn;obtain⟨a,e1,fa,ws,ha,pr⟩:=r0;exact Ar a ws e1 ha (bS pr)
  ·cases hn;obtain⟨a,e1,fa,ws,ha,pr⟩:=r0;exact Ar a ws e1 ha (bS pr)
  ·cases hn;obtain⟨a,e1,ha⟩:=r0;exact list a _ e1 (.inl ha.sq) (by simp)
  ·cases hn
 ·cases hg'⟩
end
def oH (o:MO) (k d:D):Option MO:=match o with
 | .dct kvs=>(keyOf k).bind fun kk=>if kvs.length < 100000 then some (.dct (putD kvs kk d)) else none
 | .wg kvs=>(BU k).bind fun kk=>if kvs.length < 10000000 then some (.wg (putD kvs kk d)) else none
 | .lst ds=>match k with
  | .int i=>(yO ds.length i).map fun j=>.lst (ds.set j d)
  | _=>none
 | .gap es=>match k with
  | .int i=>(yO es.length i).map fun j=>.gap (es.set j (.inl d))
  | _=>none
 | _=>none
theorem uR {α β:Type}{P:α->β->Prop}{x:α}{y:β}(h:P x y):∀{l:List α}{r:List β}(_:Paired P l r) (j:Nat),Paired P (l.set j x) (r.set j y)
 | _,_,.nil,_=>.nil
 | _,_,.cons p ps,0=>.cons h ps
 | _,_,.cons p ps,j+1=>.cons p (uR h ps j)
def BY (i:Nat) (gk gv:GD):GS:=fun S=>(gv S).bind fun p=>match p.2[i]? with
 | some (some _)=>(gk p.2).bind fun r=>(uJ r.2 i fun o=>(oH o r.1 p.1).map fun o'=>(.bN,o')).map fun z=>.nx z.2
 | _=>none
theorem bh.set {F:Hp}{v:V}{d:D}(r:Rep F v d):∀{vs:List V}{ds:List D}(j:Nat),bh F vs ds->bh F (vs.set j v) (ds.set j d)
 | _,_,_,.nil=>.nil
 | _,_,0,.cons _ rs=>.cons r rs
 | _,_,j+1,.cons q rs=>.cons q (bh.set r j rs)
section
variable {X:Cx}{a b c e value k:Expr}{pos p px pos':Pos}{x y:Str}{g gk gv:GD}
def uS (hu:X.A.units+20 < cLine) (hk:JD X k gk) (hval:JD X value gv) (hN:X.N[i]? =some x:=by rfl) (hv:wm X.env.scope x:=by first | exact Or.inl rfl | exact Or.inr (Or.inl rfl) | exact Or.inr (Or.inr rfl))
  (hd:BBT x:=by decide) (hcd:BBU x:=by decide)
  (hs:swapsWith value (some (.Subscript (.Name x px) k pos')) pos.line X.env=pure false:=by rfl)
  (hs1:swapsWithSole [.Subscript (.Name x px) k pos'] value pos.line X.env=pure false:=by rfl) (hs2:swappedStores [.Subscript (.Name x px) k pos'] value X.env=pure none:=by rfl)
  (Nu:(assignEach [.Subscript (.Name x px) k pos'] X.env).map (·.2)=[assign (.Subscript (.Name x px) k pos') X.env]:=by rfl)
  (Vi:∀v,assign (.Subscript (.Name x px) k pos') X.env v=(do
   let ov <-holding [v] (eval (.Name x px) X.env)
   let iv <-holding [v,ov] (eval k X.env)
   standAt pos'
   holding [v,ov,iv] (setItem ov iv v)
   release [v,ov,iv] []):=by intro _;rfl):
  JS X (.Assign [.Subscript (.Name x px) k pos'] value pos) (BY i gk gv):=⟨fun B=>PS.orelse fun D σ H hh=>by
 obtain⟨S,F,o,R,hg,q⟩:=hh;obtain⟨⟨d,S1⟩,h1,hg⟩:=ah hg;dsimp only at hg;split at hg
 ·rename_i u0 BV;obtain⟨⟨kd,S2⟩,h2,hg⟩:=ah hg;obtain⟨⟨nd,S3⟩,h3,hg⟩:=az hg;subst hg;obtain⟨u,u',mo,mo',hS,DT,hio,hf,E3,rfl⟩:=j6 h3;obtain⟨Xw,hw,hf2⟩:=az hf;cases hf2;have hv0:∀F1 H1,Rel X.K B S1 σ F1 H1->∃v,σ[i]? =some (some v):=fun F1 H1 R1=>let⟨v,k1,_⟩:=R1.rep i u0 BV;⟨v,k1⟩
  cases mo with
  | dct kvs=>
   obtain⟨kk,e1,hw⟩:=ah hw;obtain⟨hl,rfl⟩:=bw hw;refine⟨_,CN hu (dF hN hv hd hcd) (hk.h B) (hval.h B) hs,S,F,d,S1,R,h1,fun v F1 H1 R1 st1 r1=>?_⟩;obtain⟨v0,hv0⟩:=hv0 F1 H1 R1;refine⟨v0,hv0,S1,F1,kd,S2,R1,h2,fun y F2 H2 R2 st2 r2=>?_⟩;obtain⟨v',k1,k2⟩:=R2.rep i u hS;rw[hv0] at k1;cases k1;obtain⟨a,o2,rfl,fa,eo,k3⟩:=k2.cg DT;rw[hio] at eo;cases eo;obtain⟨ws,ha,pr⟩:=k3;refine⟨a,_,rfl,Aa.ky ha (nB r2 e1) (by rw[bS pr];exact X0 hl (by decide)),?_⟩;obtain⟨R3,st3⟩:=R2.write (ho:=.dK (putK ws kk v)) hS E3 hv0 ⟨_,aX,uP pr (r1.le st2.ext.le)⟩;exact q σ F2 _ R3 fun b o z=>st2.ext.le b o (st1.ext.le b o z)
  | ins C kvs=>cases hw
  | lat _ _=>cases hw
  | E1 _ _=>cases hw
  | E2 _ _=>cases hw
  | wg kvs=>
   obtain⟨kk,e1,hw⟩:=ah hw;obtain⟨hl,rfl⟩:=bw hw;refine⟨_,CN hu (dF hN hv hd hcd) (hk.h B) (hval.h B) hs,S,F,d,S1,R,h1,fun v F1 H1 R1 st1 r1=>?_⟩;obtain⟨v0,hv0⟩:=hv0 F1 H1 R1;refine⟨v0,hv0,S1,F1,kd,S2,R1,h2,fun y F2 H2 R2 st2 r2=>?_⟩;obtain⟨v',k1,k2⟩:=R2.rep i u hS;rw[hv0] at k1;cases k1;obtain⟨a,o2,rfl,fa,eo,k3⟩:=k2.cg DT;rw[hio] at eo;cases eo;obtain⟨ws,ha,pr⟩:=k3;obtain⟨b',rfl,hb'⟩:=pZ R2.sub r2 e1;refine⟨a,_,rfl,Aa.t ha hb' (by rw[bS pr];exact X0 hl (by decide)),?_⟩;obtain⟨R3,st3⟩:=R2.write (ho:=.dT (putK ws kk v)) hS E3 hv0 ⟨_,aX,uP pr (r1.le st2.ext.le)⟩;exact q σ F2 _ R3 fun b o z=>st2.ext.le b o (st1.ext.le b o z)
  | lst ds=>
   unfold oH at hw;dsimp only at hw;split at hw
   ·rename_i ii;obtain⟨j,e1,rfl⟩:=az hw;refine⟨_,Fl (hval.h B) (Fj (dF hN hv hd hcd) (hk.h B) set_list Vi) hs1 hs2 Nu,S,F,d,S1,R,h1,fun v F1 H1 R1 st1 r1=>?_⟩;obtain⟨v0,hv0⟩:=hv0 F1 H1 R1;refine⟨v0,hv0,S1,F1,_,S2,R1,h2,fun y F2 H2 R2 st2 r2=>?_⟩;obtain⟨v',k1,k2⟩:=R2.rep i u hS;rw[hv0] at k1;cases k1;obtain⟨a,o2,rfl,fa,eo,k3⟩:=k2.cg DT;rw[hio] at eo;cases eo;obtain⟨vs,ha,rs⟩:=k3;rw[fZ r2];refine⟨a,vs,_,j,rfl,rfl,ha,by rw[rs.length];exact e1,?_⟩;obtain⟨R3,st3⟩:=R2.write (ho:=.lst (vs.set j v)) hS E3 hv0 ⟨_,aX,rs.set (r1.le st2.ext.le) j⟩;exact q σ F2 _ R3 fun b o z=>st2.ext.le b o (st1.ext.le b o z)
   ·cases hw
  | gap ds=>
   unfold oH at hw;dsimp only at hw;split at hw
   ·rename_i ii;obtain⟨j,e1,rfl⟩:=az hw;refine⟨_,Fl (hval.h B) (Fj (dF hN hv hd hcd) (hk.h B) set_list Vi) hs1 hs2 Nu,S,F,d,S1,R,h1,fun v F1 H1 R1 st1 r1=>?_⟩;obtain⟨v0,hv0⟩:=hv0 F1 H1 R1;refine⟨v0,hv0,S1,F1,_,S2,R1,h2,fun y F2 H2 R2 st2 r2=>?_⟩;obtain⟨v',k1,k2⟩:=R2.rep i u hS;rw[hv0] at k1;cases k1;obtain⟨a,o2,rfl,fa,eo,k3⟩:=k2.cg DT;rw[hio] at eo;cases eo;obtain⟨vs,ha,rs⟩:=k3;rw[fZ r2];refine⟨a,vs,_,j,rfl,rfl,ha,by rw[bS rs];exact e1,?_⟩;obtain⟨R3,st3⟩:=R2.write (ho:=.lst (vs.set j v)) hS E3 hv0 ⟨_,aX,uR (show BL _ v (.inl d) from r1.le st2.ext.le) rs j⟩;exact q σ F2 _ R3 fun b o z=>st2.ext.le b o (st1.ext.le b o z)
   ·cases hw
 ·cases hg⟩
def Rel.SO {F:Hp}{a:Addr}{o':HO}(R:Rel K B S σ F H) (hn:¬cg S σ a) (hf:F a=none) (hB:B.H a=none) (hh:H a=some o) (hz:∀ob u,o≠.iw ob u):Rel K B S σ F (upd H a o'):=by
 have Nr:∀b ob w,H b=some (.iw ob w)->upd H a o' b=some (.iw ob w):=fun b ob w z=>by
  rw[aW (fun e=>by rw[e,hh] at z;cases z;exact hz _ _ rfl)];exact z
 refine⟨fun b u z=>?_,R.len,fun j w z=>?_,R.BN,R.own,R.bor,R.par,⟨R.ext.le,fun b u z n=>?_,R.ext.iQ,fun b u z=>?_,fun b ob w z=>Nr b ob w (R.ext.iw b ob w z)⟩⟩
 ·have hb:b≠a:=fun e=>by rw[e,hf] at z;cases z
  rw[aW hb];exact R.sub b u z
 ·obtain⟨v,h1,h2⟩:=R.rep j w z;refine⟨v,h1,h2.le (fun _ _ z=>z) Nr fun c hm hc=>?_⟩;have hca:c≠a:=fun e=>hn ⟨j,w,z,hm,by rw[h1,hc,e]⟩;obtain⟨c',_,e,f,_⟩:=h2.cg hm;rw[hc] at e;cases e;exact⟨fun o z=>by rw[aW hca];exact z,f⟩
 ·rw[aW (fun e=>by rw[e,hB] at z;cases z)];exact R.ext.keep b u z n
 ·by_cases hb:b=a
  ·exact⟨o',by rw[hb,aX]⟩
  ·rw[aW hb];exact R.ext.there b u z
noncomputable def kN:List (Str×GD)->SS->Option (List (Key×D)×SS)
 | [],S=>some ([],S)
 | (z,g) :: r,S=>(g S).bind fun p=>(kN r p.2).map fun q=>((.inr z,p.1) :: q.1,q.2)
def cz (kvs more:List (Key×D)):List (Key×D):=more.foldl (fun acc kv=>putD acc kv.1 kv.2) kvs
theorem oJ {F:Hp}:∀{more:List (Key×V)}{K1:List (Key×D)}{ws:List (Key×V)}{kvs:List (Key×D)},Paired (ez F) more K1->Paired (ez F) ws kvs->Paired (ez F) (iS ws more) (cz kvs K1)
 | _,_,_,_,.nil,h=>h
 | _,_,ws,kvs,@Paired.cons _ _ _ p q _ _ r rs,h=>by
  have e:=uP (k:=q.1) h r.2;show Paired (ez F) (iS (putK ws p.1 p.2) _) (cz (putD kvs q.1 q.2) _);rw[r.1];exact oJ rs e
def nW (wL:List (Str×GD)):GE:=fun S=>(kN wL S).map fun p=>(.m (.dct (cz [] p.1)),p.2)
structure Qs (X:Cx) (pos:Pos) (keys:List (BBL)) (values:BBC) (wL:List (Str×GD)):Prop where
 h:∀B,OB X pos keys values (wL.map fun p=>(tC (.str p.1),tD X.K B p.2))
def p5:Qs X pos [] [] []:=⟨fun B=>Iw⟩
def cj {j:Nat}{pk:Pos}{v:Expr}{ks:List (BBL)}{vs:BBC}(hv:JD X v g) (hr:Qs X pos ks vs wL):Qs X pos (some (.Constant (.str z) j pk) :: ks) (v :: vs) ((z,g) :: wL):=⟨fun B=>FD Fg (hv.h B) (hr.h B)⟩
theorem As {B:Base}{σ:St}:∀{wL:List (Str×GD)}{S0 S:SS}{F0 H0 F H:Hp}{kvs:List (Key×D)}{S':SS}{Q:List (V×V)->Hp->Prop},Rel X.K B S σ F H->Step S0 S σ F0 H0 F H->kN wL S=some (kvs,S')->
  (∀(ws:List (Key×V)) (F' H':Hp),Rel X.K B S' σ F' H'->Step S0 S' σ F0 H0 F' H'->Paired (ez F') ws kvs->Q (ws.map fun kv=>(kV kv.1,kv.2)) H')->uD (wL.map fun p=>(tC (.str p.1),tD X.K B p.2)) σ H Q
 | [],S0,S,F0,H0,F,H,kvs,S',Q,R,st,h,q=>by cases h;exact q [] F H R st .nil
 | (z,g) :: r,S0,S,F0,H0,F,H,kvs,S',Q,R,st,h,q=>by
  obtain⟨⟨d,S1⟩,h1,h⟩:=ah h;obtain⟨⟨Wy,S2⟩,h2,h⟩:=az h;cases h;show tC (.str z) σ H fun x H1=>tD X.K B g σ H1 fun y H2=>uD _ σ H2 fun ps H3=>Q ((x,y) :: ps) H3;refine⟨S,F,d,S1,R,h1,fun v F1 H1 R1 st1 r1=>?_⟩;refine As (S0:=S1) (F0:=F1) (H0:=H1) R1 (Step.refl ..) h2 fun ws F2 H2 R2 st2 pr=>?_;exact q ((.inr z,v) :: ws) F2 H2 R2 ((st.trans st1).trans st2) (.cons ⟨rfl,r1.le st2.ext.le⟩ pr)
def p6 {keys:List (BBL)}{values:BBC}(h:Qs X pos keys values wL) (hall:keys.all (·.isSome)=true:=by rfl) (hl:keys.length=values.length:=by rfl) (h0:keys≠[]:=by decide) (RN:keys.length<=15:=by decide) (hk:wL.length<=15:=by decide):
  JE X (.Dict keys values pos) (nW wL):=⟨fun B=>(Iz (h.h B) hall hl h0 RN).imp fun σ H Q hh=>by
 obtain⟨S,F,u,S',R,hg,q⟩:=hh;obtain⟨⟨kvs,S1⟩,h1,hg⟩:=az hg;cases hg;intro p hp;have n:=gO.obj (F:=F) hp (.dK []);have hn:¬cg S σ p:=fun m=>by obtain⟨o,ho⟩:=R.has m;rw[hp] at ho;cases ho
 refine As (S0:=S) (F0:=F) (H0:=upd H p (.dK [])) (R.new n (R.sub.same n.same)) (Step.refl ..) h1 fun ws F1 H1 R1 st1 pr=>?_;have hp1:H1 p=some (.dK []):=st1.ext.keep p _ aX hn;have hf1:F1 p=none:=st1.ext.iQ p _ aX hn (R.sub.fresh hp);have hn1:¬cg S1 σ p:=fun m=>hn (st1.mu p m);have hB:B.H p=none:=none_of R.ext.there hp;have len:ws.length<=15:=by
  rw[bS pr];have:∀{wL:List (Str×GD)}{S:SS}{kvs:List (Key×D)}{S':SS},kN wL S=some (kvs,S')->kvs.length=wL.length:=fun {wL}=>by
   induction wL with
   | nil=>intro S kvs S' h;cases h;rfl
   | cons p r ih=>
    intro S kvs S' h;obtain⟨⟨d,T1⟩,k1,h⟩:=ah (show(p.2 S).bind _=_ from h);obtain⟨⟨Wz,T2⟩,k2,h⟩:=az h;cases h;show Wz.length+1=r.length+1;rw[ih k2]
  rw[this h1];exact hk
 refine⟨hp1,ws,rfl,len,?_⟩;have R2:=R1.SO (o':=.dK (iS [] ws)) hn1 hf1 hB hp1 (fun _ _ z=>by cases z);refine q (.ref p) F1 _ R2 ⟨⟨st1.ext.le,fun b o z m=>?_,fun b o z m f=>?_,fun b o z=>?_,fun b ob w z=>?_⟩,st1.mu,st1.slots⟩ ⟨p,rfl,hp,hf1,⟨_,aX,oJ pr .nil⟩,hn1,hB⟩
 ·have hb:b≠p:=bz z hp;rw[aW hb];exact st1.ext.keep b o (by rw[aW hb];exact z) m
 ·have hb:b≠p:=bz z hp;exact st1.ext.iQ b o (by rw[aW hb];exact z) m f
 ·have hb:b≠p:=bz z hp;rw[aW hb];exact st1.ext.there b o (by rw[aW hb];exact z)
 ·have hb:b≠p:=bz z hp;rw[aW hb];exact st1.ext.iw b ob w (by rw[aW hb];exact z)⟩
end
noncomputable def kh (g:Option GD) (S:SS):Option (BBM×SS):=match g with
 | none=>some (none,S)
 | some g=>(g S).bind fun p=>match p.1 with
  | .int i=>some (some i,p.2)
  | _=>none
inductive WA (K:AAA) (B:Base) (g:Option GD) (σ:St) (H:Hp) (Q:BBM->Hp->Prop):Prop
 | mk (S:SS) (F:Hp) (o:BBM) (S':SS) (R:Rel K B S σ F H) (hg:kh g S=some (o,S')) (q:∀F' H',Rel K B S' σ F' H'->Step S S' σ F H F' H'->Q o H')
structure JO (X:Cx) (e:BBL) (g:Option GD):Prop where
 h:∀B,PO X e (WA X.K B g)
def PO.imp {e:BBL}{t t':TO}(h:PO X e t) (k:∀σ H Q,t' σ H Q->t σ H Q):PO X e t':=fun pins s σ H Q I q=>h pins s σ H Q I (k σ H Q q)
def C2 :JO X none none:=⟨fun B=>IC.imp fun σ H Q ⟨S,F,o,S',R,h,q⟩=>by cases h;exact q F H R (Step.refl ..)⟩
def C3 {e:Expr}(h:JD X e g):JO X (some e) (some g):=⟨fun B=>(ID (h.h B)).imp fun σ H Q hh=>by
 obtain⟨S,F,o,S',R,h,q⟩:=hh;obtain⟨⟨d,S1⟩,h1,h⟩:=ah (show(g S).bind _=_ from h);cases d <;> try (cases h)
 exact⟨S,F,_,_,R,h1,fun v F1 H1 R1 st1 r1=>⟨_,fZ r1,q F1 H1 R1 st1⟩⟩⟩
def Jh (d:D) (lo hi:BBM):Option U:=match d with
 | .tup ds=>some (.t (.tup (cutD ds lo hi)))
 | .lst ds=>some (.m (.lst (cutD ds lo hi)))
 | .str z=>if z.length<=100000 then some (.t (.str (Txt.slice z lo hi))) else none
 | _=>none
def bh.cut {F:Hp}(rs:bh F vs ds) (lo hi:BBM):bh F (wB vs lo hi) (cutD ds lo hi):=by
 unfold wB cutD;rw[rs.length];exact(rs.drop _).take _
def SQ:V->BBM->BBM->Hp->VK->Prop:=fun x lo hi H Q=>∃F d u,Sub F H/\Rep F x d/\Jh d lo hi=some u/\∀v F' H',gO F H F' H'->Sub F' H'->Ai H F' H' v u->Q v H'
def SR :OE X SQ:=by
 intro pins s σ H x v vl vu lo hi sl Q I rx hs pl pu ⟨F,d,u,sb,r,hf,q⟩;cases d with
 | tup ds=>
  cases hf;have r0:=r;obtain⟨a,xs,rfl,fa,ha,rs⟩:=sb.nR r;have hl:=rs.length;by_cases hw:HT.eu xs.length 0 lo=0/\HT.eu xs.length xs.length hi=xs.length
  ·cases rx;obtain⟨its,rv,ht,hz⟩:=I.tuple (.inl ha);have hlen:its.toArray.size=xs.length:=by rw[XR];exact rv.length.symm
   refine⟨"tuple",_,Yx.lookup,ht.typeIs,?_⟩;refine HT.DP ht hs pl pu (by rw[hlen];exact hw) ⟨.ref a,H,I,rfl,q _ F H (gO.refl ..) sb ?_⟩;have e:cutD ds lo hi=ds:=by
    unfold cutD;rw[<-hl,hw.1,hw.2,List.drop_zero,Nat.sub_zero,aae (by rw[hl];exact XW _)]
   show Rep F _ (.tup (cutD ds lo hi));rw[e];exact r0
  ·exact LS pins s σ H (.ref a) v vl vu lo hi sl Q I rx hs pl pu ⟨a,xs,rfl,.inl ha,hw,fun p hp=>q _ _ _ (gO.root sb hp _) (sb.BO hp) (.tup aX ((rs.cut lo hi).le (jH (sb.fresh hp))))⟩
 | lst ds=>
  cases hf;obtain⟨a,xs,rfl,fa,ha,rs⟩:=sb.jy r;exact CU pins s σ H (.ref a) v vl vu lo hi sl Q I rx hs pl pu ⟨a,xs,rfl,.inl ha,fun p hp=>q _ F _ (gO.obj hp _) (sb.same (gO.obj (F:=F) hp _).same) ⟨p,rfl,hp,sb.fresh hp,_,aX,rs.cut lo hi⟩⟩
 | str z=>
  obtain⟨hl,rfl⟩:=bw hf;cases r;exact L3 pins s σ H _ v vl vu lo hi sl Q I rx hs pl pu ⟨z,rfl,iy hl,fun _=>q _ F H (gO.refl ..) sb (.str _)⟩
 | bN=>cases hf
 | bl b=>cases hf
 | int b=>cases hf
def Qt (g:GD) (lo hi:Option GD):GE:=fun S=>(g S).bind fun p=>(kh lo p.2).bind fun l=>(kh hi l.2).bind fun h=>(Jh p.1 l.1 h.1).map fun u=>(u,h.2)
section
variable {X:Cx}{a b c e:Expr}{lo hi:BBL}{pos p p2 px:Pos}{x y:Str}{g ga:GD}{gA:GA}{gl gh:Option GD}
def Gv (he:JD X e g) (hl:JO X lo gl) (hh:JO X hi gh):JE X (.Subscript e (.Slice lo hi none p2) pos) (Qt g gl gh):=⟨fun B=>(Ac SR (he.h B) (hl.h B) (hh.h B)).imp fun σ H Q hh=>by
 obtain⟨S,F,u,S',R,hg,q⟩:=hh;obtain⟨⟨d,S1⟩,h1,hg⟩:=ah hg;obtain⟨⟨l,S2⟩,h2,hg⟩:=ah hg;obtain⟨⟨h,S3⟩,h3,hg⟩:=ah hg;obtain⟨u',h4,hg⟩:=az hg;cases hg;exact⟨S,F,d,S1,R,h1,fun v F1 H1 R1 st1 r1=>⟨S1,F1,l,S2,R1,h2,fun F2 H2 R2 st2=>⟨S2,F2,h,_,R2,h3,fun F3 H3 R3 st3=>⟨F3,d,_,R3.sub,r1.le (fun b o z=>st3.ext.le b o (st2.ext.le b o z)),h4,fun v F4 H4 n s4 r4=>q v F4 H4 (R3.new n s4) (((st1.trans st2).trans st3).trans n.step) (r4.F9 R3 ((st1.trans st2).trans st3))⟩⟩⟩⟩⟩
noncomputable def uT (ns:BBD) (lo hi:BBM):BBD:=(ns.drop (HT.eu ns.length 0 lo)).take (HT.eu ns.length ns.length hi - HT.eu ns.length 0 lo)
def DY (i:Nat) (lo hi:Option GD):GE:=fun S=>match S[i]? with
 | some (some (.s ns))=>(kh lo S).bind fun l=>(kh hi l.2).map fun h=>(.m (.lst ((uT ns l.1 h.1).map D.int)),h.2)
 | _=>none
theorem xO {F:Hp}:∀ns:BBD,bh F (ns.map V.int) (ns.map D.int)
 | []=>.nil
 | n :: ns=>.cons (.int n) (xO ns)
def DZ (ns:BBD) (lo hi:BBM):wB (ns.map V.int) lo hi=(uT ns lo hi).map V.int:=by
 unfold wB uT;rw[X3,List.map_take,List.map_drop]
def D0 (hl:JO X lo gl) (hh:JO X hi gh) (hN:X.N[i]? =some x:=by rfl) (hv:wm X.env.scope x:=by first | exact Or.inl rfl | exact Or.inr (Or.inl rfl) | exact Or.inr (Or.inr rfl))
  (hd:BBT x:=by decide) (hcd:BBU x:=by decide):JE X (.Subscript (.Name x px) (.Slice lo hi none p2) pos) (DY i gl gh):=⟨fun B=>(Ac CU (dF hN hv hd hcd) (hl.h B) (hh.h B)).imp fun σ H Q hh=>by
 obtain⟨S,F,u,S',R,hg,q⟩:=hh;unfold DY at hg;split at hg
 ·rename_i ns hS;obtain⟨⟨l,S1⟩,h1,hg⟩:=ah hg;obtain⟨⟨h,S2⟩,h2,hg⟩:=az hg;cases hg;obtain⟨v0,hv0,a,rfl,sc⟩:=R.rep i _ hS;refine⟨_,hv0,S,F,l,S1,R,h1,fun F1 H1 R1 st1=>⟨S1,F1,h,_,R1,h2,fun F2 H2 R2 st2=>?_⟩⟩;have WB:=(sc.le st1.ext.iw).le st2.ext.iw;refine⟨a,_,rfl,WB.sq,fun p hp=>?_⟩;rw[DZ];have n:=gO.obj (F:=F2) hp (.lst ((uT ns l h).map V.int));have st:=st1.trans st2;exact q _ F2 _ (R2.new n (R2.sub.same n.same)) (st.trans n.step) (Ai.F9 (u:=.m (.lst ((uT ns l h).map D.int))) R2 st ⟨p,rfl,hp,R2.sub.fresh hp,_,aX,xO _⟩)
 ·cases hg⟩
def Gw (d:D):Prop:=(toPy d).showable=true/\(toPy d).depth<=20/\(toPy d).shown.length<=sizeLine
noncomputable instance (d:D):Decidable (Gw d):=by unfold Gw;infer_instance
def xP:List D->Option U
 | [d]=>if Gw d then some (.t (.str (toPy d).shown)) else none
 | _=>none
mutual
theorem Rep.qR {pins:AAD}{σ:St}{F H:Hp}{s:Shared}(I:Inv X pins σ H s) (sb:Sub F H):∀{v:V}{d:D}{u:Value},Rep F v d->RelV v u->∃as,Reads s.heap u (toPy d) as
 | _,_,_,.bN,r=>by cases r;exact⟨[],.none⟩
 | _,_,_,.bl b,r=>by cases r;exact⟨[],.bool b⟩
 | _,_,_,.int i,r=>by obtain⟨t,rfl⟩:=r;exact⟨[],.int i t⟩
 | _,_,_,.str z,r=>by obtain⟨t,rfl⟩:=r;exact⟨[],.str z t⟩
 | _,_,_,.tup e rs,r=>by
  cases r;obtain⟨its,rv,p⟩:=sb.isTup I e;obtain⟨as,h⟩:=bh.qR I sb rs rv;obtain⟨o,ho,hc,n,hd⟩:=p;exact⟨as,.tuple ho hc hd (by simpa using h)⟩
 | _,_,_,.lst e rs,r=>by
  cases r;obtain⟨its,rv,p⟩:=sb.cQ I e;obtain⟨as,h⟩:=bh.qR I sb rs rv;obtain⟨o,ho,hc,n,hd⟩:=p;exact⟨_ :: as,.list ho hc hd (by simpa using h)⟩
theorem bh.qR {pins:AAD}{σ:St}{F H:Hp}{s:Shared}(I:Inv X pins σ H s) (sb:Sub F H):∀{vs:List V}{ds:List D}{us:AAI},bh F vs ds->Vals vs us->∃as,ReadsAll s.heap us (fC ds) as
 | _,_,_,.nil,r=>by cases r;exact⟨[],.nil⟩
 | _,_,_,.cons q qs,r=>by
  cases r with
  | cons r rs=>
   obtain⟨as,h⟩:=Rep.qR I sb q r;obtain⟨bs,k⟩:=bh.qR I sb qs rs;exact⟨as++bs,.cons h k⟩
end
def uU (hg:X.A.guards=some []) (hu:X.A.units+64 < cLine):jX X (.builtin "repr") (rP xP):=by
 intro pins s σ H xs us Q I r ⟨F,ds,w,sb,rs,hw,q⟩;obtain⟨x,d,rfl,rfl,r1⟩:=C1 (P:=fun _=>True) rs hw rfl (fun d _ _=>rfl);obtain⟨hok,rfl⟩:=bw (show(if Gw d then some (U.t (.str (toPy d).shown)) else none)=some w from hw);have fin:=q (.str (toPy d).shown) F H (gO.refl ..) sb (.str _);obtain⟨u,rfl,ru⟩:=vals1 r;obtain⟨h1,h2,h3⟩:=hok;have seq:∀a,x= .ref a->wpAny (model X.prog X.w) X.A (call (.builtin "repr") [u]) (EP X pins σ Q) X.xe s:=fun a e1=>by
  subst e1;cases ru;obtain⟨as,hr⟩:=Rep.qR I sb r1 (u:=.ref a) rfl;exact repr_of_reads' hr h1 (fun z=>by rw[sJ] at z;cases z) hg (by lia) (fun _ _ e=>e) (fun h' u tk hk=>⟨.str _,H,I.kept (t':=tk) hk,⟨u,rfl⟩,fin⟩) h3
 cases r1 with
 | bN=>cases ru;exact PySem.P.repr_of_none ⟨.str _,H,I.tok _,⟨_,rfl⟩,fin⟩
 | bl b=>cases ru;exact PySem.P.repr_of_bool ⟨.str _,H,I.tok _,⟨_,rfl⟩,fin⟩
 | int i=>obtain⟨t,rfl⟩:=ru;exact PySem.P.repr_of_int (by simpa[toPy,PyData.showable] using h1) ⟨.str _,H,I.tok _,⟨_,rfl⟩,fin⟩
 | str z=>obtain⟨t,rfl⟩:=ru;exact PySem.P.repr_of_str ⟨.str _,H,I.tok _,⟨_,rfl⟩,fin⟩ h3
 | tup e rs=>exact seq _ rfl
 | lst e rs=>exact seq _ rfl
def Ji {t:Tok}(hg:Gl X x) (hm:X.mg x=some (.str z t)) (hd:BBT x:=by decide):JD X (.Name x pos) (eC (.str z)):=DQ rfl (pK (v:=.str z) hg hm ⟨t,rfl⟩ hd)
def nD {i:Int}{t:Tok}(hg:Gl X x) (hm:X.mg x=some (.int i t)) (hd:BBT x:=by decide):JD X (.Name x pos) (eC (.int i)):=DQ rfl (pK (v:=.int i) hg hm ⟨t,rfl⟩ hd)
end
def Gx {x y:Str}{c:Addr}(clos:closureFor scope X.env=pure [(y,c)]) (iU:∀z∈scope.names,z.2≠.cell) (kind:scope.kind= .function) (names:∀z∈scope.names,z.2= .local->scope.names.lookup z.1=some .local)
  (loc:scope.names.lookup x=some .local) (hc:X.env.cells.lookup y=some c) (only:∀z∈scope.names,z.2= .free->z.1=y) (ne:x≠y) (hN:X.N[i]? =some y) (vis:X.env.scope.names.lookup y=some .cell) (rel:(relabel scope X.env).names.lookup y=some .cell):
  fY X x [y] [i] scope [(y,c)]:=by
 have look:∀n c',([(y,c)]:List (Str×Addr)).lookup n=some c'->n=y/\c'=c:=fun n c' h=>by
  rw[aa1] at h;cases e:n == y with
  | true=>rw[e] at h;cases h;exact⟨eq_of_beq e,rfl⟩
  | false=>rw[e] at h;cases h
 have self:([(y,c)]:List (Str×Addr)).lookup y=some c:=by rw[aa1,aa2]
 refine⟨clos,iU,kind,names,loc,fun n c' h=>?_,fun n h=>?_,?_,rfl,fun j n h=>?_,fun n h=>?_⟩
 ·obtain⟨rfl,rfl⟩:=look n c' h;exact hc
 ·have key:n=y:=by
   have go:∀k,(k=NameKind.cell\/k=NameKind.free)->(relabel scope X.env).names.lookup n=some k->n=y:=fun k hk e=>by
    have m:=YB e;unfold relabel at m;obtain⟨⟨n',k'⟩,hm,q⟩:=YZ.mp m;by_cases hf:k'= .free
    ·have h0:n'=y:=only _ hm hf;have e1:n'=n:=by
      have h1:=congrArg Prod.fst q;dsimp only at h1;split at h1 <;> exact h1
     exact e1.symm.trans h0
    ·have z:(k' == NameKind.free)=false:=by simpa using hf
     simp only[z,aaD] at q;have q2:k'=k:=by
      have:=congrArg Prod.snd q
      simpa using this
     rcases hk with rfl | rfl
     ·exact absurd q2 (iU _ hm)
     ·exact absurd q2 hf
   rcases h with h | h
   ·exact go _ (.inl rfl) h
   ·exact go _ (.inr rfl) h
  subst key;exact⟨c,self⟩
 ·simp[ne]
 ·cases j with
  | zero=>cases h;exact⟨i,rfl,hN,.inr (.inl vis)⟩
  | succ j=>simp at h
 ·have e:n=y:=by simpa using h
  subst e;exact⟨.inl rel,⟨c,self⟩,by rw[vis];decide⟩
section
variable {X:Cx}{a b e:Expr}{pos p:Pos}{x y:Str}{f:FM}{fa:Addr}{fd:FuncData}{ps:BBB}{k:Nat}
def Gy (F:jx X.prog X.w X.K X.mg X.base xD k fa fd ps (spT X.K 0 f)) (hr:fU k X.A) (hg:Gl X x) (hm:X.mg x=some (.ref fa)) (hk:PySem.W.keepIn X.K (.ref fa)=true) (hb:Binds X.K fd ps [])
  (hdb:BBT x:=by decide):JE X (.Call (.Name x p) [] [] pos) (aT f bx):=⟨fun B=>(Fy F hr hg hm hk hb .nil FQ hdb).imp fun σ H Q hh=>by
 obtain⟨S,F0,u,S',R,hg,q⟩:=hh;obtain⟨⟨us,S1⟩,h1,hg⟩:=ah hg;cases h1;have hg:=(j4 hg).2;obtain⟨ws,h2,hg⟩:=ah hg;cases h2;obtain⟨⟨r,outs⟩,h3,hg⟩:=ah hg;obtain⟨S2,h4,hg⟩:=az hg;cases hg;have SV:Step S S σ F0 H F0 H:=Step.refl ..;refine⟨rfl,F0,[],r,outs,R.sub,.nil,ZZ,h3,fun v F2 H2 po rn=>?_⟩;obtain⟨R2,st2,mu⟩:=kK (vs:=[]) (us:=[]) (ws:=[]) R SV .nil rfl h4 ZZ po;refine q v F2 H2 R2 st2 ?_;cases r with
 | t d=>exact rn
 | b o=>cases rn
 | v i=>cases rn
 | s i=>cases rn
 | f i=>cases rn
 | x cx kx=>cases rn
 | m o=>
  obtain⟨a,e,h0,f,h⟩:=rn;refine⟨a,e,h0,f,h,fun m=>?_,none_of R.ext.there h0⟩;obtain⟨o',ho⟩:=R.has (mu a m);rw[h0] at ho;cases ho⟩
def xQ (a:List D) (o:MO) (h:cQ o=false):hAppend a o=none:=by
 cases o with
 | lst ds=>cases h
 | dct k=>unfold hAppend;split <;> first | rfl | (rename_i e;cases e)
 | wg k=>unfold hAppend;split <;> first | rfl | (rename_i e;cases e)
 | ins C k=>unfold hAppend;split <;> first | rfl | (rename_i e;cases e)
 | gap _=>unfold hAppend;split <;> first | rfl | (rename_i e;cases e)
 | lat _ _=>unfold hAppend;split <;> first | rfl | (rename_i e;cases e)
 | E1 _ _=>unfold hAppend;split <;> first | rfl | (rename_i e;cases e)
 | E2 _ _=>unfold hAppend;split <;> first | rfl | (rename_i e;cases e)
def Mg (a:List D) (o:MO) (h:cQ o=false):tU a o=none:=by
 cases o with
 | lst ds=>cases h
 | dct k=>unfold tU;split <;> first | rfl | (rename_i e;cases e)
 | wg k=>unfold tU;split <;> first | rfl | (rename_i e;cases e)
 | ins C k=>unfold tU;split <;> first | rfl | (rename_i e;cases e)
 | gap _=>unfold tU;split <;> first | rfl | (rename_i e;cases e)
 | lat _ _=>unfold tU;split <;> first | rfl | (rename_i e;cases e)
 | E1 _ _=>unfold tU;split <;> first | rfl | (rename_i e;cases e)
 | E2 _ _=>unfold tU;split <;> first | rfl | (rename_i e;cases e)
noncomputable def WC:List D->Option U
 | [.bl a,.bl b]=>some (.t (.bl (a == b)))
 | _=>none
noncomputable def C4:List D->Option U
 | [.bl a,.bl b]=>some (.t (.bl (a != b)))
 | _=>none
def D3:yU X (compareOp .IsNot) C4:=by
 intro pins s σ H x y v u Q I rx ry ⟨F,ds,w,sb,rs,hw,q⟩;obtain⟨d,e,rfl,r1,r2⟩:=sL rs;cases d <;> cases e <;> try (cases hw;done)
 cases hw;rw[jI r1] at rx;rw[jI r2] at ry;cases rx;cases ry;exact isnot_bool ⟨.bl _,H,I,rfl,q _ F H (gO.refl ..) sb (.bl _)⟩
end
noncomputable def p7:List D->Option (BBD)
 | []=>some []
 | .int b :: ds=>(p7 ds).map fun bs=>b :: bs
 | _=>none
theorem uV {F:Hp}:∀{vs:List V}{ds:List D}{bs:BBD},bh F vs ds->p7 ds=some bs->vs=bs.map V.int
 | _,_,_,.nil,h=>by cases h;rfl
 | _,_,_,@bh.cons _ v d vs ds r rs,h=>by
  cases d <;> try (cases h;done)
  obtain⟨bs,h1,h2⟩:=az (show(p7 ds).map _=_ from h);subst h2;rw[fZ r,uV rs h1];rfl
section

noncomputable def dN (led:Bool):Obj:={cls:=.type "set",dict:=none,data:=.set #[] 0 (.fresh 0 0 led)}
end
noncomputable def p9:List D->Option (BBB)
 | []=>some []
 | .str b :: ds=>(p9 ds).map fun bs=>b :: bs
 | _=>none
theorem uW {F:Hp}:∀{vs:List V}{ds:List D}{bs:BBB},bh F vs ds->p9 ds=some bs->vs=bs.map V.str
 | _,_,_,.nil,h=>by cases h;rfl
 | _,_,_,@bh.cons _ v d vs ds r rs,h=>by
  cases d <;> try (cases h;done)
  obtain⟨bs,h1,h2⟩:=az (show(p9 ds).map _=_ from h);subst h2;cases r;rw[uW rs h1];rfl
noncomputable def look:U->Option D
 | .t d=>some d
 | .m (.lst ds)=>some (.lst ds)
 | .b (.lst ds)=>some (.lst ds)
 | _=>none
def Au {F:Hp}{v:V}{e:D}(h:nQ e=true) (r:Rep F v e):Rep F' v e:=by
 cases r with
 | bN=>exact .bN
 | bl b=>exact .bl b
 | int b=>exact .int b
 | str b=>exact .str b
 | tup _ _=>cases h
 | lst _ _=>cases h
section
variable (S:SS)(i:Nat)(g:GD)
@[simp] theorem O6 (d:D):look (.t d)=some d:=rfl
@[simp] theorem O7 (ds:List D):look (.m (.lst ds))=some (.lst ds):=rfl
@[simp] theorem O8 (ds:List D):look (.b (.lst ds))=some (.lst ds):=rfl
end
section
variable {X:Cx}{a b c e:Expr}{es:BBC}{p:Pos}{x:Str}
noncomputable def SW:List D->Option U
 | [.lst ds,.int k]=>if 0<=k/\k.toNat<=100000/\ds.length * k.toNat<=100000 then some (.m (.lst (List.replicate k.toNat ds).flatten)) else none
 | _=>none
def Av:V->List V->Hp->VK->Prop:=fun x vs H Q=>∃l b xs zs,x= .ref l/\vs=[.ref b]/\H l=some (.lst xs)/\Rd H b (.lst zs)/\xs.length+zs.length<=sizeLine/\Q .bN (upd H l (.lst (xs++zs)))
def oK:Nl X "list.extend" Av:=by
 intro pins s σ H x vs v us Q I rx rv h;obtain⟨l,b,xs,zs,rfl,rfl,hH,hB,hz,q⟩:=h;cases rx;obtain⟨u,rfl,ru⟩:=rv.one;cases ru;obtain⟨z,its,n,r,hl,e⟩:=I.Ae hH;obtain⟨z2,its2,n2,r2,hl2,e2⟩:=hB.Ae I;have hsz:its.toArray.size+its2.toArray.size<=sizeLine:=by rw[XR,XR];lia
 have Gz:¬(!its.toArray.isEmpty && Builtin.List.listTooLong (its.toArray.size+its2.toArray.size))=true:=by
  rw[FO hsz,aaE];exact aaL
 refine call_meets F.slot_list_extend ⟨_,e,rfl⟩ F.entry_list_extend (F.args_list_extend_2 _ _)
  (AutoSeq1.list_extend_list_list_0 l its.toArray n b its2.toArray n2 Gz (by rw[XR];lia) (by lia)) ⟨e,e2,?_⟩
 refine⟨.bN,_,I.IF (its':=its++its2) hH e (by simp) (r.append r2) ?_,rfl,q⟩;rw[X4];lia
noncomputable def dG:List D->MO->Option (D×MO)
 | [.lst es],.lst ds=>if ds.length+es.length<=100000 then some (.bN,.lst (ds++es)) else none
 | _,_=>none
def qT:Mc Av dG:=by
 intro F H a vs xs ds args res o' sb hH fa rs rx hw Q q;unfold dG at hw;split at hw
 ·rename_i es ds' e2;cases e2;obtain⟨hl,hw⟩:=bw hw;cases hw;cases rx with
  | cons r rr=>
   cases rr;obtain⟨b,zs,rfl,fb,hb,IX⟩:=sb.jy r;exact⟨a,b,vs,zs,rfl,rfl,hH,hb,by rw[rs.length,IX.length];exact X7 hl (by decide),q .bN _ .bN ⟨_,aX,rs.append IX⟩⟩
 ·cases hw
def qU (a:List D) (o:MO) (h:cQ o=false):dG a o=none:=by
 cases o with
 | lst ds=>cases h
 | dct k=>unfold dG;split <;> first | rfl | (rename_i e;cases e)
 | wg k=>unfold dG;split <;> first | rfl | (rename_i e;cases e)
 | ins C k=>unfold dG;split <;> first | rfl | (rename_i e;cases e)
 | gap _=>unfold dG;split <;> first | rfl | (rename_i e;cases e)
 | lat _ _=>unfold dG;split <;> first | rfl | (rename_i e;cases e)
 | E1 _ _=>unfold dG;split <;> first | rfl | (rename_i e;cases e)
 | E2 _ _=>unfold dG;split <;> first | rfl | (rename_i e;cases e)
def BZ (clos:closureFor scope X.env=pure cl) (iU:∀z∈scope.names,z.2≠.cell) (kind:scope.kind= .function) (names:∀z∈scope.names,z.2= .local->scope.names.lookup z.1=some .local)
  (loc:scope.names.lookup x=some .local) (hc:cl.map (fun p=>X.env.cells.lookup p.1)=cl.map (fun p=>some p.2)) (only:∀z∈scope.names,z.2= .free->z.1∈cH) (hcl:cl.map (·.1)=cH.reverse\/cl.map (·.1)=cH) (nd:(x :: cH).Nodup)
  (slot:cap.map (fun i=>X.N[i]?)=cH.map some) (vis:cH.map (fun n=>X.env.scope.names.lookup n)=cH.map fun _=>some .cell) (rel:cH.map (fun n=>(relabel scope X.env).names.lookup n)=cH.map fun _=>some .cell):
  fY X x cH cap scope cl:=by
 have all:∀{α β:Type}{f g:α->β}{l:List α},l.map f=l.map g->∀a∈l,f a=g a:=fun {α β f g l} h=>by
  induction l with
  | nil=>intro a m;cases m
  | cons b r ih=>
   intro a m;rw[Yd,Yd] at h;injection h with h1 h2
   rcases XT.mp m with z | z
   ·rw[z];exact h1
   ·exact ih h2 a z
 have O9:∀n,n∈cH->∃c,cl.lookup n=some c:=fun n hn=>lookup_some (hcl.elim (fun z=>by rw[z];exact List.mem_reverse.mpr hn) fun z=>by rw[z];exact hn);have len:cap.length=cH.length:=by have:=congrArg List.length slot;simpa using this
 refine⟨clos,iU,kind,names,loc,fun n c h=>all hc (n,c) (YB h),fun n h=>?_,nd,len,fun j n h=>?_,fun n h=>⟨.inl (all rel n h),O9 n h,by rw[all vis n h];decide⟩⟩
 ·refine O9 n ?_;have go:∀k,(k=NameKind.cell\/k=NameKind.free)->(relabel scope X.env).names.lookup n=some k->n∈cH:=fun k hk e=>by
   have m:=YB e;unfold relabel at m;obtain⟨⟨n',k'⟩,hm,q⟩:=YZ.mp m;by_cases hf:k'= .free
   ·have h0:n'∈cH:=only _ hm hf;have e1:n'=n:=by
     have h1:=congrArg Prod.fst q;dsimp only at h1;split at h1 <;> exact h1
    rw[<-e1];exact h0
   ·have z:(k' == NameKind.free)=false:=by simpa using hf
    simp only[z,aaD] at q;have q2:k'=k:=by
     have:=congrArg Prod.snd q
     simpa using this
    rcases hk with rfl | rfl
    ·exact absurd q2 (iU _ hm)
    ·exact absurd q2 hf
  rcases h with h | h
  ·exact go _ (.inl rfl) h
  ·exact go _ (.inr rfl) h
 ·have e:=congrArg (fun l=>l[j]?) slot;simp only[Yl,h,Option.map_some] at e;cases q:cap[j]? with
  | none=>rw[q] at e;cases e
  | some i=>
   rw[q] at e;exact⟨i,rfl,Ym e,.inr (.inl (all vis n (Yn h)))⟩
end
open AutoSeq1 (wpAny_loadPart')
def Jj (k:Bool) (h:Heap) (a:Addr) (its:AAH):Prop:=match k with
 | true=>h.IsList a its
 | false=>h.IsTuple a its
def Qu (k:Bool) (h:Heap) (it a:Addr) (i:Nat):Prop:=match k with
 | true=>h.IsListIter it a i
 | false=>h.IsTupleIter it a i
noncomputable def WD:Bool->String
 | true=>"list_iterator"
 | false=>"tuple_iterator"
def SX (k:Bool) (a:Addr):Obj:={cls:=.type (WD k),data:=.fields #[.ref a,.int 0 0]}
def Jj.at {h h':Heap}(x:Jj k h a its) (g:∀o,h.get? a=some o->h'.get? a=some o):Jj k h' a its:=by
 cases k <;> exact let⟨o,ho,r⟩:=x;⟨o,g o ho,r⟩
def Qu.new (k:Bool) (h:Heap) (a:Addr):Qu k (h.push (SX k a)) h.objs.size a 0:=by
 cases k <;> exact⟨_,X6 _ rfl,rfl,rfl⟩
section
variable {prog:Program}{w:World}{A:Around}{E:AAB}{s:Shared}
def Pa (h:Jj k s.heap a its) (q:Q (.ref s.heap.objs.size) {s with heap:=s.heap.push (SX k a)}):wpAny (model prog w) A (pyIter (.ref a)) Q E s:=by
 cases k with
 | true=>exact aaR h q
 | false=>exact wpAny_pyIter_tuple h q
end
abbrev TupAt (h:Heap) (T:Addr) (vals:AAH):Prop:=h.get? T=some {cls:=.type "tuple",data:=.seq vals}
def Jk {F:Hp}{d:D}(R:Rel K B S σ F H) (h:S[i]? =some (some u)) (hl:look u=some d):∃v F1,σ[i]? =some (some v)/\Sub F1 H/\Rep F1 v d/\∀b o,F b=some o->F1 b=some o:=by
 obtain⟨v,hv,r⟩:=R.rep i u h;unfold look at hl;split at hl
 ·cases hl;exact⟨v,F,hv,R.sub,r,fun _ _ z=>z⟩
 ·cases hl;obtain⟨a,rfl,fa,vs,ha,rs⟩:=r;exact⟨_,upd F a (.lst vs),hv,R.sub.iw ha,.lst (.inl aX) (rs.le (jH fa)),jH fa⟩
 ·cases hl;obtain⟨a,rfl,fa,vs,ha,rs⟩:=r;exact⟨_,upd F a (.lst vs),hv,R.sub.iw ha,.lst (.inl aX) (rs.le (jH fa)),jH fa⟩
 ·cases hl
def nX (f:List D->Option U) (i:Nat) (g:GD):GD:=fun S=>match S[i]? with
 | some (some _)=>(g S).bind fun p=>match p.2[i]? with
  | some (some u)=>(look u).bind fun d=>match f [d,p.1] with
   | some (.t e)=>if nQ e=true then some (e,p.2) else none
   | _=>none
  | _=>none
 | _=>none
section
variable {X:Cx}{b:Expr}{x y:Str}{px pos:Pos}{f:List D->Option U}{gb:GD}
def GC {Q:VK}(h:tD X.K B (nX f i gb) σ H Q):LB (fun x y H Q=>rP f [x,y] H Q) (Ih i) (tD X.K B gb) σ H Q:=by
 obtain⟨S,F,d,S',R,hg,q⟩:=h;unfold nX at hg;split at hg
 ·rename_i u0 BV;obtain⟨⟨d1,S1⟩,h1,hg⟩:=ah hg;dsimp only at hg;split at hg
  ·rename_i u hS;obtain⟨dx,h2,hg⟩:=ah hg;split at hg
   ·rename_i e' he';obtain⟨hfl,hg⟩:=bw hg;cases hg;obtain⟨v0,hv0,_⟩:=R.rep i u0 BV;refine⟨v0,hv0,S,F,d1,_,R,h1,fun v F1 H1 R1 st1 r1=>?_⟩;obtain⟨v1,F2,k1,k2,k3,k4⟩:=Jk R1 hS h2;rw[hv0] at k1;cases k1;refine⟨F2,[dx,d1],_,k2,.cons k3 (.cons (r1.le k4) .nil),he',fun v' F' H' n s' r'=>?_⟩;have n':gO F1 H1 F1 H':=⟨fun _ _ z=>z,n.same,fun _ _ _ z=>z⟩
    exact q v' F1 H' (R1.new n' (R1.sub.same n.same)) (st1.trans n'.step) (Au hfl r')
   ·cases hg
  ·cases hg
 ·cases hg
def Jl (ho:yU X (compareOp op) f) (hb:JD X b gb) (hN:X.N[i]? =some x:=by rfl) (hv:wm X.env.scope x:=by first | exact Or.inl rfl | exact Or.inr (Or.inl rfl) | exact Or.inr (Or.inr rfl)) (hd:BBT x:=by decide) (hcd:BBU x:=by decide)
  (hm:behindInMarks op b=false:=by first | exact Bu _ | rfl):JT X (.Compare (.Name x px) [op] [b] pos) (qB (nX f i gb)):=⟨fun B=>(CG ho (dF hN hv hd hcd) (hb.h B) hm).imp fun σ H Q ⟨S,F,k,S',R,hg,q⟩=>GC ⟨S,F,.bl k,S',R,kH hg,fun v F' H' R' st r=>⟨k,jI r,q F' H' R' st⟩⟩⟩
end
noncomputable def gB (kvs:AAG) (z:Str):BBM:=(kvs.find? fun p=>decide (p.1=z)).map (·.2)
def Mh:BBM->BBP->Prop
 | some i,u=>∃t,u=some (.int i t)
 | none,u=>u=none
def KTab (P:Program) (w:World) (K:AAA) (a:Addr) (kvs:AAG):Prop:=
 (a == sysModules)=false/\∃o es ep,K.lookup a=some o/\o.ExactDict/\o.data= .dict es ep/\KeysOf (cB P w) es/\∀z,Mh (gB kvs z) (findBy (cB P w).is es (.inr z))
def yZ (w:World):List (Str×Int)->List DictEntry->Prop
 | [],[]=>True
 | (z,i) :: r,e :: es=>(e.hash=hashStr w z/\(∃t,e.key= .str z t)/\∃t,e.val= .int i t)/\yZ w r es
 | _,_=>False
theorem xR {P:Program}{w:World}:∀{kvs:AAG}{es:List DictEntry},yZ w kvs es->∀e∈es,∃k,(cB P w).is k e.key=true/\e.hash=(cB P w).hash k
 | [],[],_,e,he=>by cases he
 | (z,i) :: r,e :: es,h,e',he=>by
  obtain⟨⟨h1,⟨t,h2⟩,_⟩,h3⟩:=h;rcases XT.mp he with rfl | q
  ·exact⟨.inr z,by rw[h2];exact lW P w z t,h1⟩
  ·exact xR h3 e' q
 | [],_ :: _,h,_,_=>h.elim
 | _ :: _,[],h,_,_=>h.elim
theorem xS {P:Program}{w:World}(z:Str):∀{kvs:AAG}{es:List DictEntry},yZ w kvs es->Mh (gB kvs z) ((es.find? fun e=>(cB P w).is (.inr z) e.key).map (·.val))
 | [],[],_=>rfl
 | (y,i) :: r,e :: es,h=>by
  obtain⟨⟨h1,⟨t,h2⟩,u,h4⟩,h3⟩:=h;have k:(cB P w).is (.inr z) e.key=decide ((.inr z:Key)= .inr y):=KeyKind.is_eq_decide (knd:=cB P w) (k:=.inr y) (by rw[h2];exact lW P w y t) (.inr z);unfold gB;by_cases q:y=z
  ·subst q;rw[List.find?_cons_of_pos (by simp),List.find?_cons_of_pos (by rw[k];simp)];exact⟨u,by rw[Option.map_some,h4]⟩
  ·rw[List.find?_cons_of_neg (by simpa using q),List.find?_cons_of_neg (by rw[k];simp only[YK,aaP];exact fun e=>q e.symm)];exact xS z h3
 | [],_ :: _,h=>h.elim
 | _ :: _,[],h=>h.elim
def C5 {P:Program}{kvs:AAG}{es:List DictEntry}{ep:Nat}(h:K.lookup a=some ⟨.type "dict",none,.dict es.toArray ep,#[]⟩) (hs:(a == sysModules)=false) (he:yZ w kvs es):KTab P w K a kvs:=by
 refine⟨hs,_,es.toArray,ep,h,⟨rfl,rfl,rfl⟩,rfl,fun e q=>xR he e (by simpa using q),fun z=>?_⟩;have:=xS (P:=P) z he;unfold findBy;rw[List.find?_toArray];exact this
section
variable {X:Cx}{pins:AAD}{σ:St}{H:Hp}{s:Shared}{a:Addr}{kvs:AAG}
def KTab.map (I:Inv X pins σ H s) (h:KTab X.prog X.w X.K a kvs):∃f:Key->BBP,s.heap.MapOf (cB X.prog X.w) a f/\∀z,Mh (gB kvs z) (f (.inr z)):=by
 obtain⟨_,o,es,ep,h1,h2,h3,h4,h5⟩:=h;exact⟨_,⟨o,es,ep,I.Bp a o h1,h2,h3,h4,fun _=>rfl⟩,h5⟩
end
def Mi (kvs:AAG) (g:GD):GD:=fun S=>(g S).bind fun p=>match p.1 with
 | .str z=>(gB kvs z).map fun i=>(.int i,p.2)
 | _=>none
def za (kvs:AAG) (g gd:GD):GD:=fun S=>(g S).bind fun p=>(gd p.2).bind fun q=>match p.1,q.1 with
 | .str z,.int j=>some (.int ((gB kvs z).getD j),q.2)
 | _,_=>none
section
variable {X:Cx}{e f:Expr}{x:Str}{px pos apos cpos:Pos}{ty tx:TE}{g gd:GD}{a:Addr}{kvs:AAG}
def Mj (hg:Gl X x) (hm:X.mg x=some (.ref a)) (hk:KTab X.prog X.w X.K a kvs) (he:PE X e ty) (hs:Iu e) (hd:BBT x):
  PE X (.Subscript (.Name x px) e pos) (fun σ H Q=>ty σ H fun y H1=>∃z i,y= .str z/\gB kvs z=some i/\Q (.int i) H1):=by
 intro pins s σ H Q I h;refine CL aaU.lookup hs (dw (pK (v:=.ref a) hg hm rfl hd pins s σ H (fun v H1=>v= .ref a/\H1=H) I ⟨rfl,rfl⟩) fun u s1 hh=>?_);obtain⟨x',H1,I1,rx,ex,eH⟩:=hh;subst ex eH;obtain rfl:u=Value.ref a:=rx;refine dw (he pins s1 σ _ _ I1 h) fun iv s2 hh=>?_;obtain⟨y,H2,I2,ry,z,i,ey,el,q⟩:=hh;subst ey;obtain⟨fm,m1,m2⟩:=hk.map I2;have r:=m2 z;rw[el] at r;obtain⟨t,r⟩:=r;exact⟨m1.typeIs,wpAny_getItem_of (k:=.inr z) (CI (k:=.inr z) ry) m1 r ⟨.int i,H2,I2.tok _,⟨t,rfl⟩,q⟩⟩
def D4 (hg:Gl X x) (hm:X.mg x=some (.ref a)) (hk:KTab X.prog X.w X.K a kvs) (he:PE X e ty) (hf:PE X f tx) (m:M2 X (.Name x px) "get" apos e f cpos) (hd:BBT x):
  PE X (.Call (.Attribute (.Name x px) "get" apos) [e,f] [] cpos) (fun σ H Q=>ty σ H fun y H1=>tx σ H1 fun y2 H2=>∃z j,y= .str z/\y2= .int j/\Q (.int ((gB kvs z).getD j)) H2):=by
 intro pins s σ H Q I h;refine aaS m.base m.few m.line Z4 Zh PySem.F.type_dict_get (dw (pK (v:=.ref a) hg hm rfl hd pins s σ H (fun v H1=>v= .ref a/\H1=H) I ⟨rfl,rfl⟩) fun u s1 hh=>?_);obtain⟨x',H1,I1,rx,ex,eH⟩:=hh;subst ex eH;obtain rfl:u=Value.ref a:=rx;obtain⟨fm,m1,m2⟩:=hk.map I1;refine⟨m1.typeIs,fun b hb=>?_,?_⟩
 ·cases hb;obtain⟨ob,_,_,h1,h2,_⟩:=m1;exact⟨ob,h1,h2.2.1⟩
 rw[m.trees];refine Zd rfl (ZJ (YW (dw (he pins s1 σ _ _ I1 h) fun iv s2 ⟨y,H2,I2,ry,q2⟩=>
  YW (dw (hf pins s2 σ H2 _ I2 q2) fun fv s3 ⟨y2,H3,I3,SN,z,j,ey,WE,q3⟩=>ZE ?_))))
 subst ey WE;obtain⟨Vj,k1,k2⟩:=hk.map I3;refine aaq Zh k1.typeIs aac (Z3 _ _ _) (meets_dict_get_default (k:=.inr z) (cB X.prog X.w) a (CI (k:=.inr z) ry) hk.1 fv) ⟨Vj,k1,.int ((gB kvs z).getD j),H3,I3.tok _,?_,q3⟩;have r:=k2 z;cases el:gB kvs z with
 | none=>rw[el] at r;rw[show Vj (.inr z)=none from r];exact SN
 | some i=>rw[el] at r;obtain⟨t,r⟩:=r;rw[r];exact⟨t,rfl⟩
def Mk (hg:Gl X x) (hm:X.mg x=some (.ref a)) (hk:KTab X.prog X.w X.K a kvs) (he:JD X e g) (hs:Iu e:=by intro _ _;rfl) (hd:BBT x:=by decide):JD X (.Subscript (.Name x px) e pos) (Mi kvs g):=
 ⟨fun B=>(Mj hg hm hk (he.h B) hs hd).imp fun σ H Q hh=>by
  obtain⟨S,F,d,S',R,hg',q⟩:=hh;obtain⟨⟨d1,S1⟩,h1,hg'⟩:=ah hg';cases d1 <;> try (cases hg')
  rename_i z;obtain⟨i,h2,hg'⟩:=az hg';cases hg';exact⟨S,F,.str z,_,R,h1,fun v F1 H1 R1 st1 r1=>by cases r1;exact⟨z,i,rfl,h2,q (.int i) F1 H1 R1 st1 (.int i)⟩⟩⟩
def D5 (hg:Gl X x) (hm:X.mg x=some (.ref a)) (hk:KTab X.prog X.w X.K a kvs) (he:JD X e g) (hf:JD X f gd) (hb:attributeBase (.Name x px) "get" X.env (eval (.Name x px) X.env)=eval (.Name x px) X.env:=by rfl)
  (hfew:((backTo cpos (starEach [e,f] X.env)).all (fun x=>!x.1) && (backToKw cpos (keywordEach [] X.env)).all (fun x=>x.1.isSome) && decide (([e,f]:BBC).length+([]:BBI).length+(if([]:BBI).isEmpty then 0 else 1) < 30))=true:=by rfl)
  (hline:(apos.endLine == cpos.line)=true:=by rfl) (htr:backTo cpos (starEach [e,f] X.env)=[(false,eval e X.env),(false,eval f X.env)]:=by rfl) (hd:BBT x:=by decide):
  JD X (.Call (.Attribute (.Name x px) "get" apos) [e,f] [] cpos) (za kvs g gd):=
 ⟨fun B=>(D4 hg hm hk (he.h B) (hf.h B) ⟨hb,hfew,hline,htr⟩ hd).imp fun σ H Q hh=>by
  obtain⟨S,F,d,S',R,hg',q⟩:=hh;obtain⟨⟨d1,S1⟩,h1,hg'⟩:=ah hg';obtain⟨⟨d2,S2⟩,h2,Nt⟩:=ah hg';clear hg';cases d1 <;> try (cases Nt)
  rename_i z;cases d2 <;> try (cases Nt)
  rename_i j;exact⟨S,F,.str z,_,R,h1,fun v F1 H1 R1 st1 r1=>by cases r1;exact⟨_,F1,.int j,_,R1,h2,fun v2 F2 H2 R2 st2 r2=>by cases r2;exact⟨z,j,rfl,rfl,q (.int _) F2 H2 R2 (st1.trans st2) (.int _)⟩⟩⟩⟩
end
def B0 (K:AAA) (a:Addr) (zs:BBB):Prop:=∃(o:Obj) (its:AAI) (n:Nat),K.lookup a=some o/\o.cls= .type "tuple"/\o.data= .seq its.toArray n/\its.length<=1000/\Vals (zs.map V.str) its
def B3:BBB->BBG->Prop
 | [],[]=>True
 | z :: r,v :: vs=>(∃t,v= .str z t)/\B3 r vs
 | _,_=>False
theorem xT:∀{zs:BBB}{vs:AAI},B3 zs vs->Vals (zs.map V.str) vs
 | [],[],_=>.nil
 | z :: r,v :: vs,h=>.cons h.1 (xT h.2)
 | [],_ :: _,h=>h.elim
 | _ :: _,[],h=>h.elim
def C6 {zs:BBB}{its:AAI}{od:BBN}{sl:Array (BBP)}(h:K.lookup a=some ⟨.type "tuple",od,.seq its.toArray n,sl⟩) (hl:its.length<=1000) (hs:B3 zs its):B0 K a zs:=
 ⟨_,its,n,h,rfl,rfl,hl,xT hs⟩
theorem xU {F:Hp}:∀zs:BBB,bh F (zs.map V.str) (zs.map D.str)
 | []=>.nil
 | z :: zs=>.cons (.str z) (xU zs)
theorem gf:∀zs:BBB,bF (zs.map D.str)=0
 | []=>rfl
 | z :: zs=>by show max (bX (.str z)) (bF (zs.map D.str))=0;rw[gf zs];rfl
def wM (n:Bool) (zs:BBB) (g:GD):GD:=fun S=>(g S).map fun p=>(.bl (n != inD p.1 (zs.map D.str)),p.2)
section
variable {X:Cx}{e:Expr}{x:Str}{px pos:Pos}{g:GD}{a:Addr}{zs:BBB}
def Ml (I:Inv X pins σ H s) (hk:B0 X.K a zs) (hu:X.A.units+64 < cLine){F:Hp}{d:D}{v:V}{u:Value}(sb:Sub F H) (r:Rep F v d) (rv:RelV v u):∃its:BBG,IsTup s.heap a its.toArray/\(∀y∈its,SeqAt.EqAt X.A.in1 s y u (wK F d y))/\its.any (wK F d)=inD d (zs.map D.str):=by
 obtain⟨o,its,n,h1,h2,h3,h4,h5⟩:=hk;obtain⟨k1,k2⟩:=kg I sb (A:=X.A.in1) r rv (xU zs) h5 (by rw[gf];show X.A.units+1+0 < cLine;lia);exact⟨its,⟨o,I.Bp a o h1,h2,n,h3⟩,k1,k2⟩
def GF (hu:X.A.units+64 < cLine) (hg:Gl X x) (hm:X.mg x=some (.ref a)) (hk:B0 X.K a zs)(he:PE X e (tD X.K B g)) (hd:BBT x):
  PC X .In e (.Name x px) (tD X.K B (wM false zs g)):=by
 intro pins s σ H Q I h;obtain⟨S,F,d,S',R,hg',q⟩:=h;obtain⟨⟨d1,S1⟩,h1,hg'⟩:=az hg';cases hg';refine dw (he pins s σ H (fun y H1=>∃F',Sub F' H1/\Rep F' y d1/\Q (.bl (false != inD d1 (zs.map D.str))) H1) I ⟨S,F,d1,_,R,h1,fun v F1 H1 R1 st1 r1=>⟨F1,R1.sub,r1,q (.bl _) F1 H1 R1 st1 (.bl _)⟩⟩) fun iv s1 hh=>?_;obtain⟨y,H1,I1,ry,F',sb,r',q'⟩:=hh;refine dw (pK (v:=.ref a) hg hm rfl hd pins s1 σ H1 (fun v H2=>v= .ref a/\H2=H1) I1 ⟨rfl,rfl⟩) fun u s2 hh=>?_;obtain⟨x',H2,I2,rx,ex,eH⟩:=hh;subst ex eH;obtain rfl:u=Value.ref a:=rx;obtain⟨its,p,k1,k2⟩:=Ml I2 hk hu sb r' ry;refine SeqAt.in_tupleAt (wK F' d1) p (fun y hy=>k1 y (by simpa using hy)) ⟨.bl _,_,I2,rfl,?_⟩;rw[show its.toArray.any (wK F' d1)=its.any (wK F' d1) by simp,k2]
 simpa using q'
def Mm (hu:X.A.units+64 < cLine) (hg:Gl X x) (hm:X.mg x=some (.ref a)) (hk:B0 X.K a zs) (he:JD X e g) (hd:BBT x:=by decide) (hi:behindInMarks .In (.Name x px)=false:=by with_unfolding_all rfl):JD X (.Compare e [.In] [.Name x px] pos) (wM false zs g):=
 ⟨fun B=>Ln (GF hu hg hm hk (he.h B) hd) hi⟩
def Pb {Q:Bool->Hp->Prop}(h:tQ X.K B (qB g) σ H Q):tB (tD X.K B g) σ H Q:=by
 obtain⟨S,F,kk,S',R,hg',q⟩:=h;exact⟨S,F,.bl kk,S',R,kH hg',fun v F' H' R' st r=>⟨kk,jI r,q F' H' R' st⟩⟩
def zb (hu:X.A.units+64 < cLine) (hg:Gl X x) (hm:X.mg x=some (.ref a)) (hk:B0 X.K a zs) (he:JD X e g) (hd:BBT x:=by decide) (hi:behindInMarks .In (.Name x px)=false:=by with_unfolding_all rfl):JT X (.Compare e [.In] [.Name x px] pos) (qB (wM false zs g)):=
 ⟨fun B=>(Lo (GF hu hg hm hk (he.h B) hd) hi).imp fun σ H Q h=>Pb h⟩
end
def GG:U->D->Option (Option D)
 | .m (.dct kvs),k=>(keyOf k).map (bY kvs)
 | .b (.dct kvs),k=>(keyOf k).map (bY kvs)
 | .m (.wg kvs),k=>(BU k).map (bY kvs)
 | .b (.wg kvs),k=>(BU k).map (bY kvs)
 | _,_=>none
noncomputable def uX:U->Bool
 | .m (.dct _)=>true
 | .b (.dct _)=>true
 | .m (.wg _)=>true
 | .b (.wg _)=>true
 | _=>false
def C7 (i:Nat) (gk gd:GD):GD:=fun S=>match S[i]? with
 | some (some u)=>if uX u then(gk S).bind fun p=>(gd p.2).bind fun q=>match q.2[i]? with
  | some (some u2)=>(GG u2 p.1).map fun o=>(o.getD q.1,q.2)
  | _=>none
  else none
 | _=>none
def Pc (F:Hp):Option V->Option D->Prop
 | some v,some d=>Rep F v d
 | none,none=>True
 | _,_=>False
def qb  [DecidableEq κ] {F:Hp}{ws:List (κ×V)}{kvs:List (κ×D)}(pr:Paired (ez F) ws kvs) (k:κ):Pc F (oB ws k) (bY kvs k):=by
 cases e:bY kvs k with
 | none=>rw[xN pr e];exact True.intro
 | some d=>obtain⟨v,h,r⟩:=nC pr e;rw[h];exact r
def Jm {F:Hp}{v w:V}{d:D}{h:Option D}(sb:Sub F H) (r:wF K F H v u) (rk:Rep F w d) (e:GG u d=some h):∃a o,v= .ref a/\nK H a w o/\Pc F o h:=by
 unfold GG at e;split at e
 ·obtain⟨kk,e1,rfl⟩:=az e;obtain⟨a,rfl,fa,ws,ha,pr⟩:=r;exact⟨a,_,rfl,nK.ky ha (nB rk e1),qb pr kk⟩
 ·obtain⟨kk,e1,rfl⟩:=az e;obtain⟨a,rfl,fa,ws,ha,pr⟩:=r;exact⟨a,_,rfl,nK.ky ha (nB rk e1),qb pr kk⟩
 ·obtain⟨kk,e1,rfl⟩:=az e;obtain⟨a,rfl,fa,ws,ha,pr⟩:=r;obtain⟨b,rfl,hb⟩:=pZ sb rk e1;exact⟨a,_,rfl,nK.t ha hb,qb pr kk⟩
 ·obtain⟨kk,e1,rfl⟩:=az e;obtain⟨a,rfl,fa,ws,ha,pr⟩:=r;obtain⟨b,rfl,hb⟩:=pZ sb rk e1;exact⟨a,_,rfl,nK.t ha hb,qb pr kk⟩
 ·cases e
def Aw {F:Hp}{v:V}(r:wF K F H v u) (h:uX u=true):∃a,v= .ref a/\Qn H a:=by
 unfold uX at h;split at h
 ·obtain⟨a,rfl,fa,ws,ha,pr⟩:=r;exact⟨a,rfl,.inl ⟨ws,.inl ha⟩⟩
 ·obtain⟨a,rfl,fa,ws,ha,pr⟩:=r;exact⟨a,rfl,.inl ⟨ws,.inl ha⟩⟩
 ·obtain⟨a,rfl,fa,ws,ha,pr⟩:=r;exact⟨a,rfl,.inr ⟨ws,.inl ha⟩⟩
 ·obtain⟨a,rfl,fa,ws,ha,pr⟩:=r;exact⟨a,rfl,.inr ⟨ws,.inl ha⟩⟩
 ·cases h
section
variable {X:Cx}{e f:Expr}{x:Str}{px apos cpos:Pos}{gk gd:GD}{ge:GE}
def Jo (hu:X.A.units+20 < cLine) (he:JD X e gk) (hf:JD X f gd) (hN:X.N[i]? =some x:=by rfl) (hv:wm X.env.scope x:=by first | exact Or.inl rfl | exact Or.inr (Or.inl rfl) | exact Or.inr (Or.inr rfl))
    (hb:attributeBase (.Name x px) "get" X.env (eval (.Name x px) X.env)=eval (.Name x px) X.env:=by rfl)
    (hfew:((backTo cpos (starEach [e,f] X.env)).all (fun x=>!x.1) && (backToKw cpos (keywordEach [] X.env)).all (fun x=>x.1.isSome) && decide (([e,f]:BBC).length+([]:BBI).length+(if([]:BBI).isEmpty then 0 else 1) < 30))=true:=by rfl)
    (hline:(apos.endLine == cpos.line)=true:=by rfl) (htr:backTo cpos (starEach [e,f] X.env)=[(false,eval e X.env),(false,eval f X.env)]:=by rfl) (hd:BBT x:=by decide) (hcd:BBU x:=by decide):
    JD X (.Call (.Attribute (.Name x px) "get" apos) [e,f] [] cpos) (C7 i gk gd):=
  ⟨fun B => (FF hu (dF hN hv hd hcd) (he.h B) (hf.h B) ⟨hb, hfew, hline, htr⟩).imp fun σ H Q hh => by
    obtain⟨S,F,d,S',R,hg,q⟩:=hh;unfold C7 at hg;split at hg
    . rename_i u hS
      split at hg
      . rename_i hD
        obtain⟨⟨d1,S1⟩,h1,hg⟩:=ah hg;obtain⟨⟨d2,S2⟩,h2,hg⟩:=ah hg;dsimp only at hg;split at hg
        . rename_i u2 Mn
          obtain⟨o,h3,hg⟩:=az hg;cases hg;obtain⟨v0,hv0,r0⟩:=R.rep i u hS;obtain⟨a,rfl,ha⟩:=Aw r0 hD;refine⟨.ref a,hv0,a,rfl,ha,S,F,d1,S1,R,h1,fun v1 F1 H1 R1 st1 r1=>⟨S1,F1,d2,_,R1,h2,fun v2 F2 H2 R2 st2 r2=>?_⟩⟩;obtain⟨v3,Pd,r3⟩:=R2.rep i u2 Mn;rw[hv0] at Pd;cases Pd;obtain⟨a',ov,e1,g1,rl⟩:=Jm R2.sub r3 (r1.le st2.ext.le) h3;cases e1;refine⟨ov,g1,q _ F2 H2 R2 (st1.trans st2) ?_⟩;cases o with
          | none=>cases ov with
            | none=>exact r2
            | some _=>exact(show False from rl).elim
          | some d=>cases ov with
            | none=>exact(show False from rl).elim
            | some v=>exact rl
        . cases hg
      . cases hg
    . cases hg⟩
def Pe (td te:TE):TE:=fun σ H Q=>td σ H fun x H1=>∃a,x= .ref a/\Qn H1 a/\te σ H1 fun y H2=>∃p kvs more,y= .ref p/\H2 a=some (.dK kvs)/\H2 p=some (.dK more)/\a≠p/\kvs.length+more.length<=sizeLine/\Q .bN (upd H2 a (.dK (iS kvs more)))
def Jp {o:Expr}{td te:TE}(ho:PE X o td) (he:PE X e te) (m:M1 X o "update" apos e cpos):PE X (.Call (.Attribute o "update" apos) [e] [] cpos) (Pe td te):=by
 intro pins s σ H Q I h;refine aaS m.base m.few m.line Z4 aa4 PySem.F.type_dict_update (dw (ho pins s σ H _ I h) fun u s1 hh=>?_);obtain⟨x,H1,I1,rx,a,ex,d,q1⟩:=hh;subst ex;obtain rfl:u=Value.ref a:=rx;obtain⟨t1,t2,_⟩:=FE I1 d;refine⟨t1,t2,?_⟩;rw[m.trees];refine Zd rfl (ZJ (YW (dw (he pins s1 σ H1 _ I1 q1) fun iv s2 ⟨y,H2,I2,ry,p,kvs,more,ey,ha,hp,ne,hl,q2⟩=>ZE ?_)));subst ey;obtain rfl:iv=Value.ref p:=ry;obtain⟨z1,d1,vs1,r1,Vk⟩:=CJ I2.hok ha;obtain⟨z2,d2,vs2,r2,dd2⟩:=CJ I2.hok hp;refine aaq aa4 Vk.typeIs PySem.F.entry_dict_update (PySem.F.args_dict_update_2 _ _) (meets_dict_update (cB X.prog X.w) a p ne d2) ⟨vs1,vs2,Vk,dd2,(by rw[<-r1.length,<-r2.length];exact hl),fun h' HW _ hs=>⟨.bN,_,?_,rfl,q2⟩⟩;have hz:(iS kvs more).length<=sizeLine:=X7 (jG more kvs) hl;have hee:∃q,h'.get? a=some q:=let⟨q,_,_,hq,_⟩:=HW;⟨q,hq⟩
 exact uf I2 (by rw[ha];exact True.intro) hs hee (Bx hz d1 (r2.merge r1) HW)
def Ax (i:Nat) (ge:GE):GD:=fun S=>match S[i]? with
 | some (some u)=>if uX u then(ge S).bind fun p=>match p.1 with
  | .m (.dct more)=>uJ p.2 i fun o=>match o with
   | .dct kvs=>if kvs.length+more.length<=100000 then some (.bN,.dct (cz kvs more)) else none
   | _=>none
  | _=>none
  else none
 | _=>none
def C8 (he:JE X e ge) (hN:X.N[i]? =some x:=by rfl) (hv:wm X.env.scope x:=by first | exact Or.inl rfl | exact Or.inr (Or.inl rfl) | exact Or.inr (Or.inr rfl))
    (hb:attributeBase (.Name x px) "update" X.env (eval (.Name x px) X.env)=eval (.Name x px) X.env:=by rfl)
    (hfew:((backTo cpos (starEach [e] X.env)).all (fun x=>!x.1) && (backToKw cpos (keywordEach [] X.env)).all (fun x=>x.1.isSome) && decide (([e]:BBC).length+([]:BBI).length+(if([]:BBI).isEmpty then 0 else 1) < 30))=true:=by rfl)
    (hline:(apos.endLine == cpos.line)=true:=by rfl) (htr:backTo cpos (starEach [e] X.env)=[(false,eval e X.env)]:=by rfl) (hd:BBT x:=by decide) (hcd:BBU x:=by decide):
    JD X (.Call (.Attribute (.Name x px) "update" apos) [e] [] cpos) (Ax i ge):=
  ⟨fun B => (Jp (dF hN hv hd hcd) (he.h B) ⟨hb, hfew, hline, htr⟩).imp fun σ H Q hh => by
    obtain⟨S,F,d,S',R,hg,q⟩:=hh;unfold Ax at hg;split at hg
    . rename_i u hS
      split at hg
      . rename_i hD
        obtain⟨⟨u1,S1⟩,h1,hg⟩:=ah hg;dsimp only at hg;split at hg
        . rename_i more
          obtain⟨u2,u',o,o',Mn,DT,hio,hf,E3,rfl⟩:=j6 hg;split at hf
          . rename_i kvs
            obtain⟨hl,hf⟩:=j4 hf;cases hf;obtain⟨v0,hv0,r0⟩:=R.rep i u hS;obtain⟨a,rfl,ha⟩:=Aw r0 hD;refine⟨.ref a,hv0,a,rfl,ha,S,F,_,S1,R,h1,fun v1 F1 H1 R1 st1 r1=>?_⟩;obtain⟨p,rfl,hp0,fp,⟨E4,hp,Vl⟩,hn,hB⟩:=r1;obtain⟨v3,Pd,r3⟩:=R1.rep i u2 Mn;rw[hv0] at Pd;cases Pd;have mA:cg S1 σ a:=⟨i,u2,Mn,DT,hv0⟩
            have ne:a≠p:=fun z=>hn (z▸mA);obtain⟨b,o2,e1,fa,e2,k⟩:=r3.cg DT;cases e1;rw[hio] at e2;cases e2;obtain⟨GH,ha1,Vm⟩:=k;refine⟨p,GH,E4,rfl,ha1,hp,ne,?_,?_⟩
            . rw[bS Vm,bS Vl,aaF];lia
            . obtain⟨R2,st2⟩:=R1.write (ho:=.dK (iS GH E4)) Mn E3 hv0 ⟨_,aX,oJ Vl Vm⟩
              exact q .bN F1 _ R2 (st1.trans st2) .bN
          . cases hf
        . cases hg
      . cases hg
    . cases hg⟩
end
end L2
end
section
namespace HT
open PySem PySem.Spec PyProof.Rows
end HT
namespace L2
open PySem PySem.Spec PyProof.Rows
noncomputable def oM:BBD->Int
 | []=>0
 | [a]=>a
 | a :: b :: r=>max a (oM (b :: r))
theorem Jq:∀{ns:BBD}{M:Int},M∈ns->(∀a∈ns,a<=M)->oM ns=M
 | [],_,h,_=>by cases h
 | [a],M,h,_=>by rw[XU.mp h];rfl
 | a :: b :: r,M,h,k=>by
  have hb:∀x∈b :: r,x<=oM (b :: r):=by
   have:∀(l:BBD),∀x∈l,x<=oM l:=by
    intro l
    induction l with
    | nil=>intro x hx;cases hx
    | cons a l ih=>
     intro x hx;cases l with
     | nil=>rw[XU.mp hx];exact Int.le_refl _
     | cons b r=>
      show x<=max a (oM (b :: r));rcases XT.mp hx with rfl | q
      ·lia
      ·have:=ih x q;lia
   exact this _
  have hm:∀(l:BBD),l≠[]->oM l∈l:=by
   intro l
   induction l with
   | nil=>intro z;exact absurd rfl z
   | cons a l ih=>
    intro _;cases l with
    | nil=>exact XU.mpr rfl
    | cons b r=>
     have:=ih (by simp);show max a (oM (b :: r))∈_;by_cases c:a<=oM (b :: r)
     ·rw[Int.max_eq_right c];exact Yc _ this
     ·rw[Int.max_eq_left (by lia)];exact Yp
  have h1:=hm (a :: b :: r) (by simp);have h2:=k _ h1;show max a (oM (b :: r))=M;have h3:max a (oM (b :: r))<=M:=h2;rcases XT.mp h with rfl | q
  ·lia
  ·have:=hb M q;lia
end L2
namespace HT
open PySem PySem.Spec PyProof.Rows
end HT
namespace L2
open PySem PySem.Spec PyProof.Rows
end L2
end
section
namespace L2
open PySem PySem.Spec PyProof.Rows PySem.Calls
def cI:Slot "set_iterator" "__next__" "set_iterator.__next__":=
 .of (owner:="set_iterator") (n:="__next__") (by rw[typeLookup_type,builtinLookup_eq_fast];kernel_rfl) (by decide +kernel) (by decide +kernel) (by decide +kernel)
  (by first | exact .inl (by decide +kernel) | exact .inr (by decide +kernel)) (by rw[Z0];kernel_rfl)
def ki:entryFor table "set_iterator.__next__" =some Builtin.«set_iterator.__next__»:=entryFor_of_tree (by kernel_rfl)
def zc:entryFor table "set.__iter__" =some Builtin.«frozenset.__iter__»:=entryFor_alias (id':="frozenset.__iter__") (by kernel_rfl) rfl (by decide +kernel) (by kernel_rfl)
def sU:Manifest.owners.lookup (String.ofList ['r','o','t','a','r','e','t','i','_','t','e','s'].reverse)=some Manifest.sig_set_iterator:=by kernel_rfl
def lP (a:Value):argsOk "set_iterator.__next__" ⟨[a],[]⟩:=by
 unfold argsOk;rw[signature?_of (id:="set_iterator.__next__") (n:=['_','_','t','x','e','n','_','_']) (o:=['r','o','t','a','r','e','t','i','_','t','e','s']) (by kernel_rfl) sU];kernel_rfl
section
variable {a:Addr}
def lQ:Slot "set_iterator" "__iter__" "set_iterator.__iter__":=
 .of (owner:="set_iterator") (n:="__iter__") (by rw[typeLookup_type,builtinLookup_eq_fast];kernel_rfl) (by decide +kernel) (by decide +kernel) (by decide +kernel)
  (by first | exact .inl (by decide +kernel) | exact .inr (by decide +kernel)) (by rw[Z0];kernel_rfl)
def qV:entryFor table "set_iterator.__iter__" =some Builtin.«dict_keyiterator.__iter__»:=entryFor_alias (id':="dict_keyiterator.__iter__") (by kernel_rfl) rfl (by decide +kernel) (by kernel_rfl)
def tV (a:Value):argsOk "set_iterator.__iter__" ⟨[a],[]⟩:=by
 unfold argsOk;rw[signature?_of (id:="set_iterator.__iter__") (n:=['_','_','r','e','t','i','_','_']) (o:=['r','o','t','a','r','e','t','i','_','t','e','s']) (by kernel_rfl) sU];kernel_rfl
end
end L2
end
section
namespace L2
open PySem PySem.Spec PyProof.Rows
end L2
end
section
namespace L2
open PySem PySem.Spec PyProof.Rows PySem.Calls
end L2
end
section
namespace L2
open PySem PySem.Spec PyProof.Rows
end L2
end
section
namespace L2
open PySem PySem.Spec PyProof.Rows PySem.Calls
end L2
end
section
namespace L2
open PySem PySem.Spec PyProof.Rows
variable {xs:Array Nat}{j:Nat}{es:Array (Int×Value)}
abbrev GN:=Addr->SS->List (List D)->Option (SS×List (List D))
def i7 (xs:Array Nat):Prop:=xs.toList.Pairwise (· < ·)
def uo (h:i7 xs){i:Nat}(hij:i < j) (hj:j < xs.size):xs.getD i 0 < xs.getD j 0:=by
 have:=(List.pairwise_iff_getElem.mp h) i j (by simpa using aap hij hj) (by simpa using hj) hij;rw[Array.getElem_toList,Array.getElem_toList] at this;rw[YG,YG,Yq hj,Yq (aap hij hj)];exact this
def Bl (xs:Array Nat) (j p:Nat):Prop:=p<=xs.size/\(∀i,i < p->xs.getD i 0 < j)/\∀i,p<=i->i < xs.size->j<=xs.getD i 0
theorem uY (xs:Array Nat) (j:Nat) (h:i7 xs):∀(fuel lo hi:Nat),hi - lo<=fuel->lo<=hi->hi<=xs.size->(∀i,i < lo->xs.getD i 0 < j)->(∀i,hi<=i->i < xs.size->j<=xs.getD i 0)->Bl xs j (SetTable.below.go xs j fuel lo hi)
 | 0,lo,hi,hf,hl,hs,a,b=>by
  have:lo=hi:=by lia
  subst this;exact⟨hs,a,b⟩
 | fuel+1,lo,hi,hf,hl,hs,a,b=>by
  have eg:SetTable.below.go xs j (fuel+1) lo hi=if lo < hi then(if xs.getD ((lo+hi) / 2) j < j then SetTable.below.go xs j fuel ((lo+hi) / 2+1) hi else SetTable.below.go xs j fuel lo ((lo+hi) / 2)) else lo:=rfl
  rw[eg];by_cases c:lo < hi
  ·rw[if_pos c];have hm:(lo+hi) / 2 < hi:=by lia
   have hm2:lo<=(lo+hi) / 2:=by lia
   have e:xs.getD ((lo+hi) / 2) j=xs.getD ((lo+hi) / 2) 0:=by
    rw[YG,YG,Yq (by lia)];rfl
   rw[e];by_cases d:xs.getD ((lo+hi) / 2) 0 < j
   ·rw[if_pos d];refine uY xs j h fuel _ hi (by lia) (by lia) hs (fun i hi'=>?_) b;by_cases q:i=(lo+hi) / 2
    ·rw[q];exact d
    ·have:=uo h (i:=i) (j:=(lo+hi) / 2) (by lia) (by lia);lia
   ·rw[if_neg d];refine uY xs j h fuel lo _ (by lia) (by lia) (by lia) a (fun i hi' hs'=>?_);by_cases q:i=(lo+hi) / 2
    ·rw[q];lia
    ·have:=uo h (i:=(lo+hi) / 2) (j:=i) (by lia) hs';lia
  ·rw[if_neg c];have:lo=hi:=by lia
   subst this;exact⟨hs,a,b⟩
def uZ (h:i7 xs) (j:Nat):Bl xs j (SetTable.below xs j):=
 uY xs j h xs.size 0 xs.size (by lia) (by lia) (XW _) (fun i h=>by lia) (fun i h1 h2=>by lia)
def getD_list (xs:Array Nat) (i:Nat):xs.getD i 0=xs.toList.getD i 0:=by
 rw[YG,Yv,YE]
def Ay (h:i7 xs)(hn:xs[SetTable.below xs j]?≠some j):i7 (SetTable.insertAt xs (SetTable.below xs j) j):=by
 obtain⟨p1,p2,p3⟩:=uZ h j;generalize SetTable.below xs j=p at *;have e:(SetTable.insertAt xs p j).toList=xs.toList.take p++j :: xs.toList.drop p:=by
  unfold SetTable.insertAt;simp[aae]
 unfold i7;rw[e,List.pairwise_append];have ht:∀a∈xs.toList.take p,a < j:=fun a ha=>by
  obtain⟨i,hi⟩:=List.getElem?_of_mem ha;have hl:=(XY.mp hi).1;rw[Zs] at hl;rw[aaY (by lia)] at hi;have:=p2 i (by lia);rw[getD_list,Yv,hi] at this;exact this
 have hd:∀a∈xs.toList.drop p,j < a:=fun a ha=>by
  obtain⟨i,hi⟩:=List.getElem?_of_mem ha;rw[List.getElem?_drop] at hi;have hl:p+i < xs.size:=by simpa using(XY.mp hi).1
  have ge:=p3 (p+i) (by lia) hl;rw[getD_list,Yv,hi] at ge;have ge:j<=a:=ge;have ne:a≠j:=fun q=>by
   subst q;by_cases z:i=0
   ·subst z;rw[aa3,YE] at hi;exact hn hi
   ·have:=uo h (i:=p) (j:=p+i) (by lia) hl;rw[getD_list,getD_list,Yv,Yv,hi] at this;have q:=p3 p (XW _) (by lia);rw[getD_list,Yv] at q;simp only[aa0] at this;lia
  lia
 refine⟨h.sublist (List.take_sublist _ _),aaN.mpr ⟨hd,h.sublist (List.drop_sublist _ _)⟩,fun a ha b hb=>?_⟩;rcases XT.mp hb with rfl | hb
 ·exact ht a ha
 ·exact aap (ht a ha) (hd b hb)
def B4 (n:Nat):i7 (Array.range n):=by
 unfold i7;rw[Array.toList_range];exact List.pairwise_lt_range
def Jr {t:SetTable}(h:∀i,t.slot j≠.live i):t.place[SetTable.below t.place j]?≠some j:=fun e=>by
 refine h (SetTable.below t.place j) ?_;unfold SetTable.slot;simp only[e,aa2,if_true]
theorem u5 (t:SetTable) (hashAt:Nat->Int) (hh:Int):∀(fuel:Nat) (p:SetTable.Probe) (j:Nat) (dm:Option Nat),(∀d,p.dummy=some d->t.slot d= .dummy)->SetTable.probe.go t hashAt hh fuel p=some (.empty j dm)->t.slot j= .empty/\∀d,dm=some d->t.slot d= .dummy
 | 0,p,j,dm,hp,e=>by cases e
 | fuel+1,p,j,dm,hp,e=>by
  unfold SetTable.probe.go at e;cases q:t.slot p.j with
  | empty=>
   rw[q] at e;injection e with e
   injection e with e1 e2
   subst e1 e2;exact⟨q,hp⟩
  | dummy=>
   rw[q] at e;refine u5 t hashAt hh fuel _ j dm (fun d hd=>?_) e;have:(t.advance {p with dummy:=some p.j}).dummy=some p.j:=by
    unfold SetTable.advance;split
    ·rfl
    ·rfl
   rw[this] at hd;cases hd;exact q
  | live i=>
   rw[q] at e;dsimp only at e;split at e
   ·cases e
   ·refine u5 t hashAt hh fuel _ j dm (fun d hd=>hp d ?_) e;have:(t.advance p).dummy=p.dummy:=by
     unfold SetTable.advance;split
     ·rfl
     ·rfl
    rw[<-this];exact hd
def Js {t:SetTable}{hh:Int}{b:Bool}(e:t.freeSlot hh=some (j,b)):t.place[SetTable.below t.place j]?≠some j:=by
 unfold SetTable.freeSlot at e;split at e
 ·rename_i j' dm q;obtain⟨s1,s2⟩:=u5 t _ hh _ _ j' dm (fun d hd=>by cases hd) q;injection e with e
  injection e with e1 e2
  subst e1;refine Jr fun i=>?_;cases dm with
  | none=>rw[show(Option.getD none j':Nat)=j' from rfl,s1];intro z;cases z
  | some d=>rw[show(Option.getD (some d) j':Nat)=d from rfl,s2 d rfl];intro z;cases z
 ·cases e
def kO (t:SetTable) (n:Nat):i7 (t.standIn n).place:=B4 n
def Jt {t:SetTable}{n:Nat}(h:i7 t.place):i7 (t.orStandIn n).place:=by
 unfold SetTable.orStandIn;split
 ·exact h
 ·exact kO t n
def Mp {t:SetTable}{n:Nat}:(t.orStandIn n).led=t.led:=by
 unfold SetTable.orStandIn;split <;> rfl
def GJ {t:SetTable}{hh:Int}{x:Value}(h:i7 t.place):i7 (layNew t es hh x).2.1.place/\(layNew t es hh x).2.1.led=t.led:=by
 unfold layNew;split
 ·rename_i j b e;refine⟨Jt ?_,Mp⟩;exact Ay h (Js e)
 ·exact⟨kO _ _,rfl⟩
def D6 {mask finger moves:Nat}{led plain:Bool}{hs:Array Int}{t':SetTable}{o:Array Nat}(e:SetTable.laid mask finger moves led plain hs=some (t',o)):i7 t'.place/\t'.led=led:=by
 unfold SetTable.laid at e;obtain⟨owner,_,e⟩:=ah e;injection e with e
 injection e with e1 e2
 subst e1;refine⟨?_,rfl⟩;unfold i7;show List.Pairwise _ (List.map _ (List.filterMap _ (List.range (mask+1))));rw[List.pairwise_map,List.pairwise_filterMap];refine List.pairwise_lt_range.imp fun {a b} hab c hc d hd=>?_;obtain⟨q1,_,rfl⟩:=az hc;obtain⟨q2,_,rfl⟩:=az hd;exact hab
def B5 {t:SetTable}{wanted:Nat}:i7 (relayAll t es wanted).2.1.place/\(relayAll t es wanted).2.1.led=t.led:=by
 unfold relayAll;split
 ·rename_i t' o e;dsimp only;split
  ·exact D6 e
  ·exact⟨kO _ _,rfl⟩
 ·exact⟨kO _ _,rfl⟩
def B6 (h:i7 xs){i:Nat}(hi:i < xs.size):SetTable.below xs (xs.getD i 0+1)=i+1:=by
 obtain⟨p1,p2,p3⟩:=uZ h (xs.getD i 0+1);generalize SetTable.below xs (xs.getD i 0+1)=p at *;have a:¬p<=i:=fun q=>by
  have:=p3 i q hi;lia
 have b:¬i+1 < p:=fun q=>by
  have:=p2 (i+1) q;have:=uo h (i:=i) (j:=i+1) (by lia) (by lia);lia
 lia
def Az (h:i7 xs):SetTable.below xs 0=0:=by
 obtain⟨p1,p2,p3⟩:=uZ h 0;generalize SetTable.below xs 0=p at *;apply YA;intro q;have:=p2 0 (by lia);lia
noncomputable def pI (w:World):Bool:=w.params.followText "set-order"
section
variable {prog:Program}{w:World}{A:Around}{E:AAB}{s:Shared}
def GK (a:Value){Q₁:AAB}(h:Q₁ (.ref s.heap.objs.size) {s with heap:=s.heap.push (dN (!pI w))}):
  codeAny (model prog w) A (.call (.builtin "set.__new__") ⟨[.type "set",a],[]⟩) (wants Q₁ E) s:=by
 refine codeAny_of_tree ?_;show wpAny _ A.in1 (do checkBuiltinCall "set.__new__" ⟨[.type "set",a],[]⟩;again (.builtin "set.__new__" ⟨[.type "set",a],[]⟩)) _ _ s;refine XQ (wpAny_of_eq (F.newCall_set_1 a) (wpAny_pure ⟨Y8 F.plain_set_new _,YV F.entry_set_new ?_⟩));rw[YH F.plain_set_new _];unfold Builtin.«set.__new__» Builtin.Frozenset.newClass
 have hsub:=sub_set_self;obtain⟨hp,g,d,tk,os⟩:=s;dsimp only
 wp_walk
 refine ZL (wpAny_pure ?_);dsimp only;simp only[newObj];refine XQ (wpAny_alloc (wpAny_pure ?_));exact wpAny_pure h
def AA:isSubtype (.type "tuple") (.type "set")=pure false:=by rw[Z0];kernel_rfl
def AB:isSubtype (.type "tuple") (.type "frozenset")=pure false:=by rw[Z0];kernel_rfl
noncomputable def Pf:Bool->String
 | true=>"list"
 | false=>"tuple"
def Jj.seq {k:Bool}{h:Heap}{a:Addr}{its:AAH}(x:Jj k h a its):∃o,h.get? a=some o/\o.cls= .type (Pf k)/\∃n,o.data= .seq its n:=by cases k <;> exact x
def Mq {k:Bool}(hh:A.handled=none) (I l:Addr) (hne:l≠I) (its:AAH):Walks prog w A I [I,l] [I] its.size (fun i v=>its[i]? =some v) (fun i h=>Qu k h I l i/\Jj k h l its):=by
 cases k
 ·exact Walks.tuple hh I l hne its
 ·exact Walks.list hh I l hne its
end
end L2
end
section
namespace L2
open PySem PySem.Spec PyProof.Rows PySem.Calls
variable {i n slot:Nat}{f0:Value}{Q:BBP->Shared->Prop}{pl:BBJ}
noncomputable def slotAt (place:Array Nat) (i:Nat):Nat:=if i=0 then 0 else place.getD (i - 1) 0+1
def B7 {place:Array Nat}(h:i7 place)(hi:i<=place.size):SetTable.below place (slotAt place i)=i:=by
 unfold slotAt;split
 ·rename_i e;subst e;exact Az h
 ·rename_i e;rw[B6 h (by lia)];lia
def C9 {α:Type}{l:List α}(h:i < l.length):(l[i] :: l.eraseIdx i).Perm l:=by
 rw[List.eraseIdx_eq_take_drop_succ];have e:l=l.take i++l[i] :: l.drop (i+1):=by rw[List.getElem_cons_drop,List.take_append_drop]
 conv=>rhs;rw[e]
 exact List.perm_middle.symm
theorem Dc {α:Type}(f:Nat->Nat):∀(fuel k:Nat) (left:List α) (out:Array α),left.length=fuel->(pickOrder.go f fuel k left out).toList.Perm (out.toList++left)
 | 0,k,left,out,h=>by
  have:left=[]:=aa6.mp h;subst this;show out.toList.Perm (out.toList++[]);rw[Yt]
 | fuel+1,k,left,out,h=>by
  have hl:f k % left.length < left.length:=Nat.mod_lt _ (by lia);show(match left[f k % left.length]? with | some x=>pickOrder.go f fuel (k+1) (left.eraseIdx (f k % left.length)) (out.push x) | none=>out).toList.Perm _;rw[Yh hl];refine(Dc f fuel (k+1) _ _ (by rw[aaQ hl];lia)).trans ?_;rw[Array.toList_push,Zn];refine List.Perm.append (Z1 _) ?_;show(left[f k % left.length] :: left.eraseIdx (f k % left.length)).Perm left;exact C9 hl
def D7 {α:Type}(f:Nat->Nat) (xs:Array α):(pickOrder f xs).toList.Perm xs.toList:=by
 have:=Dc f xs.size 0 xs.toList #[] (by simp);rw[show(#[]:Array α).toList++xs.toList=xs.toList from rfl] at this;exact this
def GL (h:Heap) (a:Addr) (es:Array (Int×Value)) (ep:Nat) (t:SetTable):Prop:=∃o,h.get? a=some o/\o.ExactSet/\o.data= .set es ep t
def Nv (h:Heap) (I a:Addr) (f0:Value) (i n ep:Nat):Prop:=h.get? I=some {cls:=.type "set_iterator",dict:=none,data:=.fields #[f0,.int i 0,.ref a,.int n 0,.int ep 0],slots:=#[]}
def qW (w:World) (a:Addr) (es:Array (Int×Value)) (ep:Nat):List (Int×Value):=if pI w then(pickOrder (w.params.setOrder a ep) es).toList else es.toList
def xV (w:World) (a:Addr) (es:Array (Int×Value)) (ep:Nat):(qW w a es ep).Perm es.toList:=by
 unfold qW;split
 ·exact D7 _ _
 ·exact Z1 _
section
variable {prog:Program}{w:World}{A:Around}{E:AAB}{s:Shared}{a I:Addr}{es:Array (Int×Value)}{ep:Nat}{t:SetTable}
def Nv.typeIs (h:Nv s.heap I a f0 i n ep):s.TypeIs (.ref I) "set_iterator":=⟨_,h,rfl⟩
def Nx (w:World) (t:SetTable) (i:Nat):Option (Value×Nat)->Option (Int×Value)->Prop
 | some (x,j),some e=>x=e.2/\(pI w=true\/j=slotAt t.place (i+1))
 | none,none=>True
 | _,_=>False
theorem Mr (hb:pI w=true):∀z:Option (Int×Value),Nx w t i (z.map fun e=>(e.2,slot)) z
 | none=>trivial
 | some _=>⟨rfl,.inl hb⟩
def GO {Q:Option (Value×Nat)->Shared->Prop}(hS:GL s.heap a es ep t) (hf:t.fits es.size=true) (hr:i7 t.place) (D8:t.led=!pI w) (hpl:pI w=true\/(!t.plain && decide (es.size > 1))=false) (hi:i<=es.size) (hsl:pI w=true\/slot=slotAt t.place i)
  (q:∀r,Nx w t i r ((qW w a es ep)[i]?)->Q r s):wpAny (model prog w) A (setNext a slot i ep) Q E s:=by
 obtain⟨o,ho,hex,hd⟩:=hS;have hps:t.place.size=es.size:=by
  unfold SetTable.fits at hf;rw[Yo] at hf
  simpa using hf.1
 unfold setNext;refine XQ (ZF ho hd hf ?_);unfold setsByText;refine XQ (XQ (ZL (wpAny_pure ?_)));refine Yz (fun hb=>?_) fun hb=>?_
 ·have hb':pI w=true:=hb;refine Yz (fun h=>absurd h (by simp)) fun _=>?_;refine XQ ?_;unfold setWalk;refine XQ (ZF ho hd hf ?_);unfold setsByText;refine XQ (XQ (ZL (wpAny_pure ?_)));refine Yz (fun _=>?_) fun h=>absurd hb h;refine XQ (ZL (wpAny_pure ?_));refine wpAny_pure (q _ ?_);unfold qW;rw[if_pos hb',YE];exact Mr hb' _
 ·have hb':pI w=false:=by
   cases e:pI w with
   | false=>rfl
   | true=>exact absurd e hb
  refine Yz (fun h=>?_) fun _=>?_
  ·rcases hpl with z | z
   ·rw[hb'] at z;cases z
   ·exact absurd (show(!t.plain && decide (es.size > 1))=true from h) (by rw[z];decide)
  refine XQ ?_;refine YC (Q:=fun _ s'=>s'=s) (E:=fun _ _=>False) ?_ (fun _ s' e=>?_) fun _ _ h=>h.elim
  ·show wpAny _ _ (if(!t.led && !es.isEmpty)=true then _ else _) _ _ _;refine Yz (fun h=>?_) fun _=>wpAny_pure rfl;rw[D8,hb'] at h;simp at h
  ·subst e;have es1:slot=slotAt t.place i:=by
    rcases hsl with z | z
    ·rw[hb'] at z;cases z
    ·exact z
   have bl:SetTable.below t.place slot=i:=by rw[es1];exact B7 hr (by lia)
   refine wpAny_pure (q _ ?_);rw[bl];unfold qW;rw[hb',if_neg (by decide),YE];by_cases c:i < es.size
   ·rw[Yq c,Yq (by lia:i < t.place.size)];refine⟨rfl,.inr ?_⟩;unfold slotAt;rw[if_neg (by lia),Nat.add_sub_cancel,YG,Yq (by lia:i < t.place.size)];rfl
   ·rw[Array.getElem?_eq_none (by lia)];trivial
def SY (w:World) (a I:Addr) (es:Array (Int×Value)) (ep:Nat) (t:SetTable) (i:Nat) (h:Heap):Prop:=∃slot:Nat,Nv h I a (.int slot 0) i es.size ep/\GL h a es ep t/\(pI w=true\/slot=slotAt t.place i)
def K2 (hh:A.handled=none) (WI:Nv s.heap I a f0 i n ep) (hQ:∀h',Heap.ExtBut I s.heap h'->Q none {s with heap:=h'}):
  wpAny (model prog w) A.in1 (do
     setField (Value.ref I,([]:AAI)).fst 2 Value.none
     let e <-newExc (Value.type "StopIteration") []
     (raiseNew e:Sem Fin)) (fun fin s'=>∃v,fin=Fin.done (Flow.ret v)/\wpAny (model prog w) A (pure (some v)) Q E s') (fun e s'=>wpAny (model prog w) A (do
         let b <-isInstance e (Value.type "StopIteration")
         if b=true then pure none else throw e) Q E s') s:=by
 refine XQ (wpAny_setField WI rfl (by simp) ?_);refine XQ ?_;simp only[newExc,newTuple];refine XQ (Yw ?_ (by size_fits));refine XQ (m:=firstArgMember _ _) (wpAny_of_eq (a:=Value.none) (by first | rfl | (simp only[firstArgMember];rfl)) ?_);refine Yw ?_ (by size_fits);simp only[raiseNew];refine XQ (wpAny_handled ?_);rw[show A.in1.handled=none from hh];refine XQ (wpAny_pure (wpAny_throw ?_));refine XQ (aaX (T:="StopIteration") (b:=true) ⟨_,X6 _ rfl,rfl⟩ isSubtype_stop ?_);exact wpAny_pure (hQ _ (((aaB ..).extBut.push _).push _))
def K3 (hh:A.handled=none) (st:SY w a I es ep t i s.heap) (haI:a≠I) (hf:t.fits es.size=true) (hr:i7 t.place) (D8:t.led=!pI w) (hpl:pI w=true\/(!t.plain && decide (es.size > 1))=false) (hi:i<=es.size)
  (q1:∀e h',(qW w a es ep)[i]? =some e->SY w a I es ep t (i+1) h'->Heap.SameBut I s.heap h'->Q (some e.2) {s with heap:=h'})
  (q2:∀h',(qW w a es ep)[i]? =none->Heap.ExtBut I s.heap h'->Q none {s with heap:=h'}):wpAny (model prog w) A (pyNext (.ref I)) Q E s:=by
 obtain⟨slot,hit,hS,hsl⟩:=st;obtain⟨o,ho,hex,hd⟩:=id hS;unfold pyNext;refine XQ (wpAny_attempt (Y9 (name:=Str.ofString "__next__") hit.typeIs cI
  (Zb cI hit.typeIs ki ?_ (lP _))))
 unfold Builtin.«set_iterator.__next__»
 refine XQ (wpAny_pure ?_);refine XQ (wpAny_fieldsOf hit rfl ?_);refine XQ (aaC ho hd hf ?_);refine Yz (fun h=>absurd h (by simp)) fun _=>?_;show wpAny _ _ (setNext a slot i ep >>= _) _ _ _;refine XQ (GO hS hf hr D8 hpl hi hsl fun r hr=>?_);cases r with
 | none=>
  refine K2 hh hit fun h' he=>q2 h' ?_ he;cases e:(qW w a es ep)[i]? with
  | none=>rfl
  | some e'=>rw[e] at hr;exact hr.elim
 | some p=>
  obtain⟨x,j⟩:=p;cases e:(qW w a es ep)[i]? with
  | none=>rw[e] at hr;exact hr.elim
  | some e'=>
   rw[e] at hr;obtain⟨rfl,hj⟩:=hr;refine XQ (ZT hit (by simp) fun h1 z1 e1=>?_);refine XQ (ZT z1 (by simp) fun h2 z2 e2=>?_);have e1:Heap.SameBut I s.heap h1:=e1;have e2:Heap.SameBut I h1 h2:=e2;refine wpAny_pure ⟨_,rfl,wpAny_pure ?_⟩;refine q1 e' h2 e ⟨j,z2,⟨o,(e2.2 a haI).trans ((e1.2 a haI).trans ho),hex,hd⟩,hj⟩ (e1.trans e2)
end
section
variable {prog:Program}{w:World}{A:Around}{E:AAB}{s:Shared}{a I T:Addr}{es:Array (Int×Value)}{ep:Nat}{t:SetTable}
def zd {src:Source}{Q:Nat->Shared->Prop}(hn:n≠0) (h:∀i d',i < n->Q i {s with drawn:=d'}):wpAny (model prog w) A (choose src n) Q E s:=fun Γ p hΓ=>by
 show Sem.wp _ _ (Sem.choose src n Sem.pure) _ _ _ _;rw[Sem.wp_choose];exact⟨hn,wpAny_pure (h _ _ (Nat.mod_lt _ (Nat.pos_of_ne_zero hn))) Γ p hΓ⟩
theorem u6 {α:Type}:∀(n:Nat) (xs:List α) (s:Shared) (Q:List α->Shared->Prop),xs.length=n->(∀out d',out.Perm xs->Q out {s with drawn:=d'})->wpAny (model prog w) A (drawOrder n xs) Q E s
 | 0,xs,s,Q,hl,h=>by
  have:xs=[]:=aa6.mp hl;subst this;unfold drawOrder;exact wpAny_pure (h [] s.drawn (Z1 _))
 | n+1,[],s,Q,hl,h=>by cases hl
 | n+1,x :: xs,s,Q,hl,h=>by
  unfold drawOrder;refine XQ (zd (by simp) fun i d' hi=>?_);rw[Yh hi];refine XQ (u6 n ((x :: xs).eraseIdx i) {s with drawn:=d'} _ (by rw[aaQ hi];lia) fun out d2 hp=>?_);exact wpAny_pure (h _ d2 ((List.Perm.cons _ hp).trans (C9 hi)))
noncomputable def jz (pl:BBJ):Array Value:=(pl.map fun(i:Nat)=>rawInt i).toArray
def S7 (a I T:Addr) (es:Array (Int×Value)) (ep:Nat) (t:SetTable) (pl:BBJ) (i:Nat) (h:Heap):Prop:=Nv h I a (.ref T) i es.size ep/\TupAt h T (jz pl)/\GL h a es ep t
noncomputable def u9 (es:Array (Int×Value)) (pl:BBJ):List (Int×Value):=pl.filterMap fun i=>es[i]?
theorem vc {es:Array (Int×Value)}:∀{pl:BBJ},(∀p∈pl,p < es.size)->∀i:Nat,(u9 es pl)[i]? =(pl[i]?).bind fun(p:Nat)=>es[p]?
 | [],_,i=>by kernel_rfl
 | p :: pl,h,i=>by
  have hp:=h p Yp;have e:u9 es (p :: pl)=es[p] :: u9 es pl:=by
   show List.filterMap _ (p :: pl)=_;rw[ZM,Yq hp];rfl
  rw[e];cases i with
  | zero=>simp[hp]
  | succ i=>simpa using vc (es:=es) (pl:=pl) (fun q hq=>h q (Yc _ hq)) i
def D9 (h:pl.Perm (List.range es.size)):(u9 es pl).Perm es.toList:=by
 have e:u9 es (List.range es.size)=es.toList:=by
  apply List.ext_getElem?
  intro k;rw[vc (fun p hp=>ZX.mp hp) k];by_cases c:k < es.size
  ·rw[List.getElem?_range c,YE];rfl
  ·rw[YO (by rw[aaa];lia),YO (by simpa using c)];rfl
 rw[<-e];exact h.filterMap _
def K4 (hh:A.handled=none) (st:S7 a I T es ep t pl i s.heap) (haI:a≠I) (hTI:T≠I) (hf:t.fits es.size=true) (hp:pl.Perm (List.range es.size))
  (q1:∀e h',(u9 es pl)[i]? =some e->S7 a I T es ep t pl (i+1) h'->Heap.SameBut I s.heap h'->Q (some e.2) {s with heap:=h'})
  (q2:∀h',(u9 es pl)[i]? =none->Heap.ExtBut I s.heap h'->Q none {s with heap:=h'}):wpAny (model prog w) A (pyNext (.ref I)) Q E s:=by
 obtain⟨hit,hT,hS⟩:=st;obtain⟨o,ho,hex,hd⟩:=id hS;have lt:∀p∈pl,p < es.size:=fun p h=>ZX.mp (hp.mem_iff.mp h);have og:=vc lt i;unfold pyNext;refine XQ (wpAny_attempt (Y9 (name:=Str.ofString "__next__") hit.typeIs cI
  (Zb cI hit.typeIs ki ?_ (lP _))))
 unfold Builtin.«set_iterator.__next__»
 refine XQ (wpAny_pure ?_);refine XQ (wpAny_fieldsOf hit rfl ?_);refine XQ (aaC ho hd hf ?_);refine Yz (fun h=>absurd h (by simp)) fun _=>?_;refine XQ (ZW hT rfl ?_);have pg:(jz pl)[i]? =(pl[i]?).map fun(p:Nat)=>rawInt p:=by
  unfold jz;rw[List.getElem?_toArray,Yl]
 show wpAny _ _ (match(jz pl)[i]? with
  | some (.int place _)=>_
  | some _=>_
  | none=>_) _ _ _
 rw[pg];cases hpi:pl[i]? with
 | none=>
  rw[hpi] at og;refine XQ (ZT hit (by simp) fun h1 z1 e1=>?_);have e1:Heap.SameBut I s.heap h1:=e1;exact K2 (f0:=rawInt 0) (i:=i) (n:=es.size) hh z1 fun h' he=>q2 h' og fun b o hb e=>he b o hb (e1.extBut b o hb e)
 | some p=>
  rw[hpi] at og;have hlt:=lt p (Yn hpi);have og:(u9 es pl)[i]? =some es[p]:=by rw[og];exact Yq hlt
  show wpAny _ _ (setNextDrawn a p ep >>= _) _ _ _;refine XQ ?_;unfold setNextDrawn;refine XQ (ZF ho hd hf ?_);refine Yz (fun h=>absurd h (by simp)) fun _=>?_;rw[Yq hlt];refine wpAny_pure ?_;refine XQ (ZT hit (by simp) fun h1 z1 e1=>?_);have e1:Heap.SameBut I s.heap h1:=e1;refine wpAny_pure ⟨_,rfl,wpAny_pure ?_⟩;exact q1 es[p] h1 og ⟨z1,(e1.2 T hTI).trans hT,⟨o,(e1.2 a haI).trans ho,hex,hd⟩⟩ e1
def vd {Q:AAB}(st:Nv s.heap I a f0 i n ep) (hQ:Q (.ref I) s):wpAny (model prog w) A (pyIter (.ref I)) Q E s:=by
 refine wpAny_pyIter_slot st.typeIs lQ (Zb lQ st.typeIs qV ?_ (tV _));show wpAny _ _ (ret (.ref _)) _ _ s;exact wpAny_pure ⟨_,rfl,"set_iterator",_,st.typeIs,cI.lookup,hQ⟩
def Pg (hh:A.handled=none) (haI:a≠I) (hf:t.fits es.size=true) (hr:i7 t.place) (D8:t.led=!pI w) (hpl:pI w=true\/(!t.plain && decide (es.size > 1))=false):
  Walks prog w A I [I,a] [I] (qW w a es ep).length (fun i v=>∃e,(qW w a es ep)[i]? =some e/\v=e.2) (fun i h=>SY w a I es ep t i h/\i<=es.size) where
 sub:=fun b hb=>by simp at hb;simp[hb]
 frame:=fun i h h' st k=>by
  obtain⟨⟨slot,h1,⟨o,h2,h3⟩,h4⟩,hi⟩:=st;exact⟨⟨slot,k I (by simp) _ h1,⟨o,k a (by simp) _ h2,h3⟩,h4⟩,hi⟩
 item:=fun i s Q E hi st hQ=>by
  have hl:(qW w a es ep).length=es.size:=by rw[(xV w a es ep).length_eq,Yr]
  refine K3 hh st.1 haI hf hr D8 hpl st.2 (fun e h' he st' sb=>?_) (fun h' he _=>?_)
  ·exact hQ e.2 h' s.toks ⟨e,he,rfl⟩ ⟨st',by lia⟩ fun b o hb q=>(sb.2 b (by simpa using hb)).trans q
  ·rw[Yh hi] at he;cases he
 done:=fun s Q E st hQ=>by
  refine K3 hh st.1 haI hf hr D8 hpl st.2 (fun e h' he st' sb=>?_) (fun h' he xb=>?_)
  ·have:=(XY.mp he).1;lia
  ·exact hQ h' s.toks fun b o hb q=>xb b o (by simpa using hb) q
 self:=fun i s Q E st hQ=>by
  obtain⟨⟨slot,h1,_⟩,_⟩:=st;exact vd h1 hQ
def Ph (hh:A.handled=none) (haI:a≠I) (hTI:T≠I) (hf:t.fits es.size=true) (hp:pl.Perm (List.range es.size)):
  Walks prog w A I [I,a,T] [I] (u9 es pl).length (fun i v=>∃e,(u9 es pl)[i]? =some e/\v=e.2) (fun i h=>S7 a I T es ep t pl i h) where
 sub:=fun b hb=>by simp at hb;simp[hb]
 frame:=fun i h h' st k=>by
  obtain⟨h1,h2,o,h3,h4⟩:=st;exact⟨k I (by simp) _ h1,k T (by simp) _ h2,o,k a (by simp) _ h3,h4⟩
 item:=fun i s Q E hi st hQ=>by
  refine K4 hh st haI hTI hf hp (fun e h' he st' sb=>?_) (fun h' he _=>?_)
  ·exact hQ e.2 h' s.toks ⟨e,he,rfl⟩ st' fun b o hb q=>(sb.2 b (by simpa using hb)).trans q
  ·rw[Yh hi] at he;cases he
 done:=fun s Q E st hQ=>by
  refine K4 hh st haI hTI hf hp (fun e h' he st' sb=>?_) (fun h' he xb=>?_)
  ·have:=(XY.mp he).1;lia
  ·exact hQ h' s.toks fun b o hb q=>xb b o (by simpa using hb) q
 self:=fun i s Q E st hQ=>vd st.1 hQ
end
end L2
end
section
namespace L2
open PySem PySem.Spec PyProof.Rows PySem.Calls PyProof.V
section
variable {prog:Program}{w:World}{A:Around}{E:AAB}{s:Shared}{a:Addr}
def Pj {Q:Bool->Shared->Prop}(hT:s.TypeIs (.ref a) "set") (h:Q false s):wpAny (model prog w) A (Builtin.List.listLengthHint (.ref a)) Q E s:=by
 unfold Builtin.List.listLengthHint;refine XQ (wpAny_specialOf hT PySem.F.slot_set_len.lookup ?_);generalize hid:("set.__len__":String)=WJ
 wp_delta
 rw[show splitId WJ=some ("set","__len__") from by subst hid;decide +kernel];subst hid;refine XQ (aaX (T:="set") (b:=true) hT (by rw[Z0];kernel_rfl) ?_);refine Yz (fun hab=>absurd hab (by decide)) (fun _=>?_);refine Yz (fun _=>?_) (fun hab=>absurd (by decide +kernel) hab);refine XQ (aar hT ?_);exact wpAny_pure h
def Ea {ord:List (Int×Value)}{acc:AAH}(h:ItemsOf (fun i v=>∃e,ord[i]? =some e/\v=e.2) acc ord.length):acc.toList=ord.map (·.2):=by
 obtain⟨h1,h2⟩:=h;apply List.ext_getElem?
 intro i;rw[Yl];by_cases c:i < ord.length
 ·have hv:acc[i]? =some acc[i]:=Yq (by lia);obtain⟨e,e1,e2⟩:=h2 i _ hv;rw[YE,hv,e1,e2];rfl
 ·rw[YO (by rw[Yr];lia),YO (by lia)];rfl
end
end L2
end
section
namespace L2
open PySem PySem.Spec PyProof.Rows
section
variable (S:SS)(d e:D)(o:MO)(i j:Nat)(g ga gb gc:GD)(ge:GE)(q q1 q2:GT)(gA:GA)(gu:GU)(a b:GS)(f f':List D->Option U)(fm:FM)(bd:GB)(gi:GI)
@[simp] theorem S8:aE i S=match S[i]? with | some (some (.t d))=>some (.t d,S) | some (some (.s d))=>some (.s d,S) | some (some (.f d))=>some (.f d,S) | some (some (.x C k))=>some (.x C k,S) | some (some _)=>some (.v i,S) | _=>none:=rfl
@[simp] theorem WK:eC d S=some (d,S):=rfl
@[simp] theorem S9:aA S=some ([],S):=rfl
@[simp] theorem Qv:aa g gA S=(g S).bind fun p=>(gA p.2).map fun q=>(p.1 :: q.1,q.2):=rfl
@[simp] theorem WL:eP f gA S=(gA S).bind fun p=>(f p.1).map fun u=>(u,p.2):=rfl
@[simp] theorem WM:eF ge S=(ge S).bind fun p=>fz p.1 p.2:=rfl
@[simp] theorem WN:eT g S=(g S).map fun p=>(.t p.1,p.2):=rfl
@[simp] theorem Tc:fz (.t d) S=some (d,S):=rfl
@[simp] theorem Td (ds:List D):fz (.m (.lst ds)) S=some (.lst ds,S):=rfl
@[simp] theorem Te:fz (.v i) S=match S[i]? with | some (some (.t d))=>some (d,S) | some (some (.m (.lst ds)))=>some (.lst ds,S.set i (some (.t (.lst ds)))) | _=>none:=rfl
@[simp] theorem WO:qB g S=(g S).bind fun p=>match p.1 with | .bl k=>some (k,p.2) | _=>none:=rfl
@[simp] theorem Tf:wG q S=(q S).map fun p=>(!p.1,p.2):=rfl
@[simp] theorem Tg:ia q1 q2 S=(q1 S).bind fun p=>if p.1 then q2 p.2 else some (false,p.2):=rfl
@[simp] theorem Vn:Ga q1 q2 S=(q1 S).bind fun p=>if p.1 then some (true,p.2) else q2 p.2:=rfl
@[simp] theorem WQ:eQ q S=(q S).map fun p=>(.bl p.1,p.2):=rfl
@[simp] theorem Qw:iu S=some (true,S):=rfl
@[simp] theorem Vo:Wj f f' ga gb gc S=(ga S).bind fun p=>(gb p.2).bind fun q=>match f [p.1,q.1] with
 | some (.t (.bl k))=>if k then(gc q.2).bind fun r=>match f' [q.1,r.1] with
   | some (.t (.bl k'))=>some (.bl k',r.2)
   | _=>none
  else some (.bl false,q.2)
 | _=>none:=rfl
@[simp] theorem Th:eG S=some (.nx S):=rfl
@[simp] theorem Ti:bf a b S=(a S).bind fun o=>match o with | .nx S1=>b S1 | o=>some o:=rfl
@[simp] theorem Tj:cP i ge S=(ge S).bind fun p=>match p.1 with | .m o=>(mh i (.m o) p.2).map .nx | u=>(fz u p.2).bind fun q=>(mh i (.t q.1) q.2).map .nx:=rfl
@[simp] theorem gG (u:U):mh i u S=match S[i]? with | some (some (.b _))=>none | some _=>some (S.set i (some u)) | none=>none:=rfl
@[simp] theorem Qx:gQ ge S=(ge S).map fun p=>.nx p.2:=rfl
@[simp] theorem Tn:cy ge S=(ge S).bind fun p=>match p.1 with
 | .v i=>match p.2[i]? with
  | some (some (.t d))=>some (.rt (.t d) p.2)
  | some (some (.m o))=>some (.rt (.m o) (p.2.set i none))
  | _=>none
 | .s _=>none
 | .f _=>none
 | .x _ _=>none
 | u=>some (.rt u p.2):=rfl
@[simp] theorem Vp:mj q a b S=(q S).bind fun p=>if p.1 then a p.2 else b p.2:=rfl
@[simp] theorem Qy:bName i d S=mh i (.t d) S:=rfl
@[simp] theorem GP:tT bd gi a S=(gi S).bind fun p=>loop bd a p.1 p.2:=rfl
@[simp] theorem Qz:nT gA S=(gA S).bind fun p=>match p.1 with | [.int j]=>if j < 1000000/\-1000000 < j then some (Bo 0 j.toNat,p.2) else none | _=>none:=rfl
@[simp] theorem Ms:loop bd a [] S=some (.nx S):=rfl
@[simp] theorem To:bx S=some ([],S):=rfl
@[simp] theorem Tp:aU g gu S=(g S).bind fun p=>(gu p.2).map fun q=>(.t p.1 :: q.1,q.2):=rfl
@[simp] theorem Tq:dB ge gu S=(ge S).bind fun p=>(gu p.2).map fun q=>(p.1 :: q.1,q.2):=rfl
@[simp] theorem QA:aT fm gu S=(gu S).bind fun p=>if(slotsOf p.1).Nodup/\cN p.1<=1 then(bW p.2 p.1).bind fun us=>(fm us).bind fun r=>(wb p.1 r.2 p.2).map fun S2=>(r.1,S2) else none:=rfl
@[simp] theorem Ny:bW S []=some []:=rfl
@[simp] theorem Mt (u:U) (us:List U):bW S (u :: us)=(resolve S u).bind fun w=>(bW S us).map fun ws=>w :: ws:=rfl
@[simp] theorem QB:resolve S (.t d)=XM d:=rfl
@[simp] theorem QC:resolve S (.m o)=some (.b o):=rfl
@[simp] theorem QD (ns:BBD):resolve S (.s ns)=some (.s ns):=rfl
@[simp] theorem QE:resolve S (.v i)=match S[i]? with | some (some (.m o))=>some (.b o) | some (some (.b o))=>some (.b o) | _=>none:=rfl
@[simp] theorem Pk:slotsOf []=[]:=rfl
@[simp] theorem Tr (us:List U):slotsOf (.t d :: us)=slotsOf us:=rfl
@[simp] theorem Tt (us:List U):slotsOf (.m o :: us)=slotsOf us:=rfl
@[simp] theorem Tu (ns:BBD) (us:List U):slotsOf (.s ns :: us)=slotsOf us:=rfl
@[simp] theorem Tv (us:List U):slotsOf (.v i :: us)=i :: slotsOf us:=rfl
@[simp] theorem Pn:cN []=0:=rfl
@[simp] theorem Tw (us:List U):cN (.t d :: us)=cN us:=rfl
@[simp] theorem Tz (us:List U):cN (.m o :: us)=cN us+1:=rfl
@[simp] theorem TF (ns:BBD) (us:List U):cN (.s ns :: us)=cN us:=rfl
@[simp] theorem TH (us:List U):cN (.v i :: us)=cN us:=rfl
@[simp] theorem Po:wb [] [] S=some S:=rfl
@[simp] theorem TJ (us:List U) (os:List MO):wb (.t d :: us) os S=wb us os S:=by cases os <;> rfl
@[simp] theorem TL (ns:BBD) (us:List U) (os:List MO):wb (.s ns :: us) os S=wb us os S:=by cases os <;> rfl
@[simp] theorem TM (us:List U) (os:List MO):wb (.m o :: us) (o' :: os) S=wb us os S:=rfl
@[simp] theorem TN (us:List U) (os:List MO):wb (.v i :: us) (o :: os) S=match S[i]? with | some (some (.m _))=>wb us os (S.set i (some (.m o))) | some (some (.b _))=>wb us os (S.set i (some (.b o))) | _=>none:=rfl
@[simp] theorem TQ:bJ i gb S=match S[i]? with | some (some _)=>(gb S).bind fun p=>(match p.2[i]? with | some (some u)=>(mD u p.1).map fun d=>(d,p.2) | _=>none) | _=>none:=rfl
@[simp] theorem TR:nN i S=match S[i]? with | some (some u)=>(yY u).map fun n=>(.int (n:Nat),S) | _=>none:=rfl
@[simp] theorem WR (h:List D->MO->Option (D×MO)):eM i h gA S=if OX S i then(gA S).bind fun p=>uJ p.2 i (h p.1) else none:=rfl
@[simp] theorem TU (gk gv:GD):BY i gk gv S=(gv S).bind fun p=>match p.2[i]? with | some (some _)=>(gk p.2).bind fun r=>(uJ r.2 i fun o=>(oH o r.1 p.1).map fun o'=>(.bN,o')).map fun z=>.nx z.2 | _=>none:=rfl
@[simp] theorem Vq (Ts:List String):Gu Ts g S=(g S).bind fun p=>(d9 Ts p.1).map fun b=>(.bl b,p.2):=rfl
@[simp] theorem Mu (ds:List D) (k:Int):mD (.t (.tup ds)) (.int k)=dj ds k:=rfl
@[simp] theorem Mv (ds:List D) (k:Int):mD (.t (.lst ds)) (.int k)=dj ds k:=rfl
@[simp] theorem Mw (ds:List D) (k:Int):mD (.m (.lst ds)) (.int k)=dj ds k:=rfl
@[simp] theorem Mx (ds:List D) (k:Int):mD (.b (.lst ds)) (.int k)=dj ds k:=rfl
@[simp] theorem My (kvs:List (Key×D)) (k:D):mD (.b (.dct kvs)) k=(keyOf k).bind (bY kvs):=by cases k <;> rfl
@[simp] theorem Nz (ns:BBD) (k:Int):mD (.s ns) (.int k)=(dj ns k).map D.int:=rfl
@[simp] theorem QF (k:Int):keyOf (.int k)=some (.inl k):=rfl
@[simp] theorem QG (k:Str):keyOf (.str k)=some (.inr k):=rfl
@[simp] theorem NB (ds:List D):yY (.t (.tup ds))=some ds.length:=rfl
@[simp] theorem NC (ds:List D):yY (.t (.lst ds))=some ds.length:=rfl
@[simp] theorem ND (ds:List D):yY (.m (.lst ds))=some ds.length:=rfl
@[simp] theorem NF (ds:List D):yY (.b (.lst ds))=some ds.length:=rfl
@[simp] theorem Pp (ns:BBD):yY (.s ns)=some ns.length:=rfl
@[simp] theorem Vr (C:Int->Int->Bool) (h:Int->Int->D) (x y:Int):Gb C h [.int x,.int y]=if C x y then XM (h x y) else none:=rfl
@[simp] theorem Pq (x y:Int):gD [.int x,.int y]=XO (x+y):=rfl
@[simp] theorem Pr (x y:Str):gD [.str x,.str y]=if x.length+y.length<=100000 then XM (.str (x++y)) else none:=rfl
@[simp] theorem Pu (x y:List D):gD [.tup x,.tup y]=if x.length+y.length<=100000 then XM (.tup (x++y)) else none:=rfl
@[simp] theorem Pw (x y:List D):gD [.lst x,.lst y]=if x.length+y.length<=100000 then XN (x++y) else none:=rfl
@[simp] theorem TV (x y:Int):BP [.int x,.int y]=if((decide (-(2 ^ 64) < x) && decide (x < 2 ^ 64)) || (decide (-(2 ^ 64) < y) && decide (y < 2 ^ 64))) then XO (x * y) else none:=rfl
@[simp] theorem TX (ds:List D):cF ds=if ds.length<=100000 then XM (.tup ds) else none:=rfl
@[simp] theorem TY (ds:List D):cG ds=if ds.length<=100000 then XN ds else none:=rfl
@[simp] theorem QH (ds:List D) (k:Int):ug [.tup ds,.int k]=(dj ds k).map .t:=rfl
@[simp] theorem QI (ds:List D) (k:Int):ug [.lst ds,.int k]=(dj ds k).map .t:=rfl
@[simp] theorem GQ:sQ [d,e]=if bX d<=40 then XM (.bl (kD d e)) else none:=rfl
@[simp] theorem Vs:Gp [d,e]=if bX d<=40 then XM (.bl (!kD d e)) else none:=rfl
@[simp] theorem QJ (x y z:Int):O4 [.int x,.int y,.int z]=XO (if y < x then(if z < y then z else y) else if z < x then z else x):=rfl
@[simp] theorem QK (x y:Int):An [.int x,.int y]=XO (if y > x then y else x):=rfl
@[simp] theorem Px (ds:List D):wI [.tup ds]=XO ds.length:=rfl
@[simp] theorem Py (ds:List D):wI [.lst ds]=XO ds.length:=rfl
@[simp] theorem TZ (ds:List D):Jf [.lst ds]=(kM ds).map fun bs=>.t (.bl (bs.all id)):=rfl
@[simp] theorem Ju:xP [d]=if Gw d then XM (.str (toPy d).shown) else none:=rfl
@[simp] theorem ze (x y:Str):kD (.str x) (.str y)=(x == y):=by kernel_rfl
@[simp] theorem QL (x y:Int):kD (.int x) (.int y)=(x == y):=by kernel_rfl
@[simp] theorem QM (x y:Bool):kD (.bl x) (.bl y)=(x == y):=by kernel_rfl
@[simp] theorem QN (x:Str):bX (.str x)=0:=by kernel_rfl
@[simp] theorem QO (x:Int):bX (.int x)=0:=by kernel_rfl
@[simp] theorem QS (x:Bool):bX (.bl x)=0:=by kernel_rfl
@[simp] theorem T5 (h:MO->Option (D×MO)):uJ S i h=match S[i]? with | some (some (.m o))=>(h o).map fun r=>(r.1,S.set i (some (.m r.2))) | some (some (.b o))=>(h o).map fun r=>(r.1,S.set i (some (.b r.2))) | _=>none:=rfl
@[simp] theorem Vt:OX S i=match S[i]? with | some (some (.m (.lst _)))=>true | some (some (.b (.lst _)))=>true | _=>false:=rfl
@[simp] theorem NG (kvs:List (Key×D)) (k:D):oH (.dct kvs) k d=(keyOf k).bind fun kk=>if kvs.length < 100000 then some (.dct (putD kvs kk d)) else none:=rfl
@[simp] theorem NH (ds:List D) (k:Int):oH (.lst ds) (.int k) d=(yO ds.length k).map fun j=>.lst (ds.set j d):=rfl
@[simp] theorem Pz (ds:List D):hAppend [d] (.lst ds)=if ds.length < 100000 then some (.bN,.lst (ds++[d])) else none:=rfl
@[simp] theorem NI:aB [] S=some []:=by cases S <;> rfl
@[simp] theorem QT (us:List U) (o2:MO):aB (.b o2 :: us) (some (.b o) :: S)=(aB us S).map fun os=>o :: os:=rfl
@[simp] theorem Dd (us:List U) (x:Option U):aB (.t d :: us) (x :: S)=aB us S:=by cases x <;> rfl
@[simp] theorem QU (ns:BBD) (us:List U) (x:Option U):aB (.s ns :: us) (x :: S)=aB us S:=by cases x <;> rfl
end
structure iC where
 c:Int
 l:Int
 n:Int
noncomputable def cY (t:iC):List (Key×D):=[(.inr "cell",.int t.c),(.inr "left",.int t.l),(.inr "turn",.int t.n)]
noncomputable def zf:List (Key×D)->Option iC
 | [(k1,.int c),(k2,.int l),(k3,.int n)]=>if k1= .inr "cell"/\k2= .inr "left"/\k3= .inr "turn" then some ⟨c,l,n⟩ else none
 | _=>none
@[simp] theorem Mz (t:iC):zf (cY t)=some t:=by kernel_rfl
def AD {kvs:List (Key×D)}{t:iC}(h:zf kvs=some t):kvs=cY t:=by
 unfold zf at h;split at h
 ·obtain⟨⟨rfl,rfl,rfl⟩,rfl⟩:=bw h;rfl
 ·cases h
@[simp] theorem T6 (t:iC):bY (cY t) (.inr "cell")=some (.int t.c):=by rfl
@[simp] theorem T7 (t:iC):bY (cY t) (.inr "left")=some (.int t.l):=by rfl
@[simp] theorem T8 (t:iC):bY (cY t) (.inr "turn")=some (.int t.n):=by rfl
@[simp] theorem QV (t:iC) (x:Int):putD (cY t) (.inr "turn") (.int x)=cY {t with n:=x}:=by rfl
@[simp] theorem QW (t:iC) (x:Int):putD (cY t) (.inr "left") (.int x)=cY {t with l:=x}:=by rfl
@[simp] theorem PB (t:iC):(cY t).length=3:=rfl
noncomputable def mixed (c n:Int):Int:=(((c % 2147483647+31 * (n+1) * (n+1)+1) * 48271) % 2147483629+7 * (n+1)) * 69621 % 2147483587 / 7
def eL (t:iC) (m:Int):Int:=if 0 < t.l then t.l % m else mixed t.c t.n % m
noncomputable def cu (t:iC) (m:Int):iC:=if 0 < t.l then⟨t.c,t.l / m,t.n+1⟩ else⟨t.c,t.l,t.n+1⟩
def gg:FM
 | [.b (.dct kvs),.t (.int m)]=>(zf kvs).bind fun t=>if 0 < m/\m < 1000000/\0<=t.n/\t.n < 1000000 then some (.t (.int (eL t m)),[.dct (cY (cu t m))]) else none
 | _=>none
def mF:GS:=
 (bf (cP 2 (eP gD (aa (bJ 0 (eC (.str "turn"))) (aa (eC (.int 1)) aA))))
 (bf (BY 0 (eC (.str "turn")) (eF (aE 2)))
 (bf (mj (qB (eF (eP Nm (aa (bJ 0 (eC (.str "left"))) (aa (eC (.int 0)) aA))))) (bf (cP 3 (eP wH (aa (bJ 0 (eC (.str "left"))) (aa (eF (aE 1)) aA))))
 (bf (BY 0 (eC (.str "left")) (eF (eP IV (aa (bJ 0 (eC (.str "left"))) (aa (eF (aE 1)) aA)))))
 (cy (aE 3)))) eG)
 (bf (cP 4 (eP BP (aa (eF (eP gD (aa (eF (eP gD (aa (eF (eP wH (aa (bJ 0 (eC (.str "cell"))) (aa (eC (.int 2147483647)) aA)))) (aa (eF (eP BP (aa (eF (eP BP (aa (eC (.int 31)) (aa (eF (aE 2)) aA)))) (aa (eF (aE 2)) aA)))) aA)))) (aa (eC (.int 1)) aA)))) (aa (eC (.int 48271)) aA))))
 (bf (cP 4 (eP BP (aa (eF (eP gD (aa (eF (eP wH (aa (eF (aE 4)) (aa (eC (.int 2147483629)) aA)))) (aa (eF (eP BP (aa (eC (.int 7)) (aa (eF (aE 2)) aA)))) aA)))) (aa (eC (.int 69621)) aA))))
 (cy (eP wH (aa (eF (eP IV (aa (eF (eP wH (aa (eF (aE 4)) (aa (eC (.int 2147483587)) aA)))) (aa (eC (.int 7)) aA)))) (aa (eF (aE 1)) aA)))))))))
def pick_run:∀us r,gg us=some r->aJ 5 mF us=some r:=by
 intro us r h;unfold gg at h;split at h
 ·rename_i kvs m;obtain⟨t,h1,h⟩:=ah h;obtain⟨⟨h2,h3,h4,h5⟩,rfl⟩:=bw h;obtain rfl:=AD h1;have e1:-18446744073709551616 < t.n+1:=by lia
  have e2:t.n+1 < 18446744073709551616:=by lia
  have e3:m < 1073741824:=by lia
  by_cases hl:0 < t.l
  ·simp[aJ,mF,eL,cu,hl,h2,e3]
  ·simp[aJ,mF,eL,cu,hl,h2,e3,mixed,e1,e2]
 ·cases h
noncomputable def ie:Option U->Bool
 | some (.b _)=>true
 | _=>false
@[simp] theorem Vu:ie none=false:=rfl
@[simp] theorem Vv (d:D):ie (XM d)=false:=rfl
@[simp] theorem Vw (o:MO):ie (some (.m o))=false:=rfl
def fj (i:Nat) (u:U) (S:SS):mh i u S=(S[i]?).bind fun x=>if ie x then none else some (S.set i (some u)):=by
 unfold mh;cases S[i]? with
 | none=>rfl
 | some x=>cases x with
  | none=>rfl
  | some u=>cases u <;> rfl
def ve:GS:=
 (bf (mj (Ga (wG (qB (Gu ["int"] (eF (aE 0))))) (qB (Gu ["bool"] (eF (aE 0))))) (cy (eT (eC (.bl false)))) eG)
 (cy (eT (eQ (ia (qB (eF (eP L8 (aa (eF (aE 1)) (aa (eF (aE 0)) aA))))) (qB (eF (eP L8 (aa (eF (aE 0)) (aa (eF (aE 2)) aA))))))))))
def mG:FM
 | [.t d,.t (.int l),.t (.int m)]=>some (.t (.bl (fu d l m)),[])
 | _=>none
def whole_run:∀us r,mG us=some r->aJ 3 ve us=some r:=by
 intro us r h;unfold mG at h;split at h
 ·rename_i d l m;cases h;cases d <;> simp[aJ,ve,fu,d9,iB,BJ,F7]
  rename_i x;by_cases h1:l<=x <;> simp[h1]
 ·cases h
def vf:GS:=
 (cy (eT (eQ (ia (qB (Gu ["tuple"] (eF (aE 0)))) (ia (qB (eF (eP L8 (aa (eF (aE 1)) (aa (nN 0) aA))))) (qB (eF (eP L8 (aa (nN 0) (aa (eF (aE 2)) aA))))))))))
def mH:FM
 | [.t d,.t (.int l),.t (.int m)]=>some (.t (.bl (fK d l m)),[])
 | _=>none
def Eb:∀us r,mH us=some r->aJ 3 vf us=some r:=by
 intro us r h;unfold mH at h;split at h
 ·rename_i d l m;cases h;cases d <;> simp[aJ,vf,fK,d9,iB,BI]
  rename_i x;by_cases h1:l<=(x.length:Int) <;> simp[h1]
 ·cases h
def zh:GS:=
 (cy (eP cG (aa (eC (.str "a")) (aa (eC (.str "ab")) (aa (eC (.str "abc")) (aa (eC (.str "b")) (aa (eC (.str "any")) (aa (eC (.str "name")) (aa (eC (.str "x")) (aa (eC (.str "zzzzzzzz")) aA))))))))))
noncomputable def vg:BBB:=["a","ab","abc","b","any","name","x","zzzzzzzz"]
noncomputable def mJ:FM
 | []=>some (.m (.lst (vg.map D.str)),[])
 | _=>none
def Ec:∀us r,mJ us=some r->aJ 0 zh us=some r:=by
 intro us r h;unfold mJ at h;split at h
 ·cases h
  kernel_rfl
 ·cases h
def mK:GS:=
 (bf (cP 2 (aE 1))
 (bf (mj (qB (eF (eP Nm (aa (nN 0) (aa (eC (.int 0)) aA))))) (cP 2 (eP gD (aa (bJ 0 (eF (eP wH (aa (eF (aE 1)) (aa (nN 0) aA))))) (aa (eF (eP IV (aa (eF (aE 1)) (aa (nN 0) aA)))) aA)))) eG)
 (cy (nW [("cell",(eF (aE 2))),("left",(eF (eP An (aa (eC (.int 0)) (aa (eF (eP nL (aa (eF (aE 2)) (aa (eF (eP OS (aa (eC (.int 10)) (aa (eC (.int 18)) aA)))) aA)))) aA))))),("turn",(eC (.int 0)))]))))
def AE (ns:BBD) (k:Int):Int:=if 0 < ns.length then(dj ns (k % ns.length)).getD 0+k / ns.length else k
def xW (ns:BBD) (k:Int):iC:=⟨AE ns k,if AE ns k - 10 ^ 18 > 0 then AE ns k - 10 ^ 18 else 0,0⟩
def qc:FM
 | [.s ns,.t (.int k)]=>if 0<=k/\k < 1000000/\ns.length < 1000000 then some (.m (.dct (cY (xW ns k))),[]) else none
 | _=>none
def GR {α:Type}{l:List α}{i:Int}(h0:0<=i) (h1:i < l.length):∃x,dj l i=some x:=by
 unfold dj yO;rw[if_pos h0,if_pos h1];have:i.toNat < l.length:=by lia
 exact⟨l[i.toNat],Yh this⟩
@[simp] theorem PD (k1 k2 k3:Str) (g1 g2 g3:GD) (S:SS):nW [(k1,g1),(k2,g2),(k3,g3)] S=(g1 S).bind fun a=>(g2 a.2).bind fun b=>(g3 b.2).map fun c=>(.m (.dct (cz [] [(.inr k1,a.1),(.inr k2,b.1),(.inr k3,c.1)])),c.2):=by
 simp only[nW,kN];cases g1 S with
 | none=>rfl
 | some a=>
  simp only[XX];cases g2 a.2 with
  | none=>rfl
  | some b=>
   simp only[XX];cases g3 b.2 with
   | none=>rfl
   | some c=>rfl
def vh (c l n:Int):cz [] [(.inr "cell",.int c),(.inr "left",.int l),(.inr "turn",.int n)]=cY ⟨c,l,n⟩:=rfl
def GV:∀us r,qc us=some r->aJ 3 mK us=some r:=by
 intro us r h;unfold qc at h;split at h
 ·rename_i ns k;obtain⟨⟨h1,h2,h3⟩,rfl⟩:=bw h;by_cases hl:0 < ns.length
  ·have e0:(0:Int) < ns.length:=by lia
   obtain⟨x,hx⟩:=GR (l:=ns) (i:=k % ns.length) (ZP _ (by lia)) (ZC _ e0);have e1:(ns.length:Int) < 1073741824:=by lia
   simp[aJ,mK,e0,e1,hx,vh,xW,AE,hl]
  ·have e0:¬(0:Int) < ns.length:=by lia
   simp[aJ,mK,e0,vh,xW,AE,hl]
 ·cases h
end L2
end
section
namespace Sw
open PySem PySem.Spec PyProof.Rows L2
variable {n:Nat}{K:AAA}
def bQ {t:iC}{m:Int}(h:0 < m):0<=eL t m/\eL t m < m:=by
 unfold eL;split
 ·exact⟨ZP _ (by lia),ZC _ h⟩
 ·exact⟨ZP _ (by lia),ZC _ h⟩
@[simp] theorem dH (t:iC) (m:Int):(cu t m).n=t.n+1:=by unfold cu;split <;> rfl
def GW {t:iC}{m:Int}(h1:0 < m) (h2:m < 1000000) (h3:0<=t.n) (h4:t.n < 1000000):gg [.b (.dct (cY t)),.t (.int m)]=some (.t (.int (eL t m)),[.dct (cY (cu t m))]):=by
 simp[gg,h1,h2,h3,h4]
@[simp] theorem PF (g:GD) (lo hi:Option GD) (S:SS):Qt g lo hi S=(g S).bind fun p=>(kh lo p.2).bind fun l=>(kh hi l.2).bind fun h=>(Jh p.1 l.1 h.1).map fun u=>(u,h.2):=rfl
@[simp] theorem T9 (S:SS):kh none S=some (none,S):=rfl
@[simp] theorem Ua (g:GD) (S:SS):kh (some g) S=(g S).bind fun p=>match p.1 with | .int i=>some (some i,p.2) | _=>none:=rfl
@[simp] theorem Jv (ds:List D) (lo hi:BBM):Jh (.tup ds) lo hi=XM (.tup (cutD ds lo hi)):=rfl
@[simp] theorem Jw (ds:List D) (lo hi:BBM):Jh (.lst ds) lo hi=XN (cutD ds lo hi):=rfl
@[simp] theorem QX (z:Str) (lo hi:BBM):Jh (.str z) lo hi=if z.length<=100000 then XM (.str (Txt.slice z lo hi)) else none:=rfl
theorem GX:∀(ts:List D) (S:SS),S.length=ts.length->aB (ts.map U.t) S=some []
 | [],S,_=>by cases S <;> rfl
 | d :: ts,[],h=>by cases h
 | d :: ts,x :: S,h=>by
  show aB (U.t d :: ts.map U.t) (x :: S)=_;rw[Dd];exact GX ts S (by simpa using h)
theorem K5 (S:SS):∀ts:List D,bW S (ts.map U.t)=some (ts.map U.t)
 | []=>rfl
 | d :: ts=>by
  show(some (U.t d)).bind _=_;rw[K5 S ts];rfl
theorem PJ:∀ts:List D,slotsOf (ts.map U.t)=[]
 | []=>rfl
 | d :: ts=>PJ ts
theorem PK:∀ts:List D,cN (ts.map U.t)=0
 | []=>rfl
 | d :: ts=>PK ts
theorem MA (S:SS):∀ts:List D,wb (ts.map U.t) [] S=some S
 | []=>rfl
 | d :: ts=>MA S ts
theorem uq {cap:BBJ}{q:GT}{g:GD}{S:SS}{ts:List D}(hc:iA S cap=some (ts.map U.t)) (p:D->Bool) (f:D->D):∀(ds acc:List D),
  (∀d∈ds,q (XM d :: ts.map fun x=>XM x)=some (p d,XM d :: ts.map fun x=>XM x))->(∀d∈ds,p d=true->g (XM d :: ts.map fun x=>XM x)=some (f d,XM d :: ts.map fun x=>XM x))->
  d8 cap q g ds S acc=some (acc++(ds.filter p).map f,S)
 | [],acc,_,_=>by simp[d8]
 | d :: ds,acc,hq,hg=>by
  have em:(ts.map U.t).map some=ts.map fun x=>some (U.t x):=by simp
  have eo:aB (.t d :: ts.map U.t) (XM d :: ts.map fun x=>XM x)=some []:=by rw[Dd];exact GX ts _ (by simp)
  have q0:=hq d (Yp);unfold d8;rw[hc];simp only[XX];rw[if_pos ⟨by rw[PJ];exact ZZ,by rw[PK];exact YY _⟩,K5];simp only[XX];rw[em,q0];simp only[XX];by_cases hp:p d=true
  ·rw[if_pos hp,hg d Yp hp];simp only[XX];rw[eo];simp only[XX];rw[MA];simp only[XX];rw[uq hc p f ds (acc++[f d]) (fun e he=>hq e (Yc _ he)) (fun e he=>hg e (Yc _ he)),Z7 hp];simp
  ·rw[if_neg hp,eo];simp only[XX];rw[MA];simp only[XX];rw[uq hc p f ds acc (fun e he=>hq e (Yc _ he)) (fun e he=>hg e (Yc _ he)),Za hp]
def xX {cap:BBJ}{g:GD}{S:SS}{ts:List D}(hc:iA S cap=some (ts.map U.t)) (f:D->D) (ds acc:List D) (hg:∀d∈ds,g (XM d :: ts.map fun x=>XM x)=some (f d,XM d :: ts.map fun x=>XM x)):
  d8 cap iu g ds S acc=some (acc++ds.map f,S):=by
 rw[uq hc (fun _=>true) f ds acc (fun _ _=>rfl) (fun d hd _=>hg d hd),List.filter_eq_self.mpr (fun _ _=>rfl)]
@[simp] theorem QY (cap:BBJ) (gi:GI) (q:GT) (g:GD) (S:SS):sO cap gi q g S=(gi S).bind fun p=>if p.1.length<=100000 then(d8 cap q g p.1 p.2 []).map fun r=>(.m (.lst r.1),r.2) else none:=rfl
def cJ (g:GD) (S:SS):pS g S=(g S).bind fun p=>match p.1 with | .tup ds=>some (ds,p.2) | .lst ds=>some (ds,p.2) | .str z=>some (z.cps.toList.map fun c=>.str ⟨#[c]⟩,p.2) | _=>none:=rfl
theorem qX {α:Type}(f:α->Bool):∀ds:List α,kM (ds.map fun d=>.bl (f d))=some (ds.map f)
 | []=>rfl
 | d :: ds=>by simp[kM,qX f ds]
def qY {x:D}{z:Str}(h:kD (.str z) x=true):x= .str z:=by
 cases x <;> simp[kD] at h
 rw[h]
mutual
def Sane:D->Prop
 | .int i=>i.natAbs < 10 ^ 30
 | .str z=>∀c∈z.cps.toList,c < 16 ^ 8
 | .tup ds=>xY ds
 | .lst ds=>xY ds
 | .bN=>True
 | .bl _=>True
def xY:List D->Prop
 | []=>True
 | d :: ds=>Sane d/\xY ds
end
mutual
noncomputable def wD:D->Nat
 | .bN=>6
 | .bl _=>6
 | .int _=>40
 | .str z=>10 * z.length+2
 | .tup ds=>GY ds+4
 | .lst ds=>GY ds+4
noncomputable def GY:List D->Nat
 | []=>0
 | d :: ds=>wD d+2+GY ds
end
def Ed (s:String):(Str.ofString s).length=s.length:=PySem.ofString_length s
theorem De:∀(ts:BBB) (k:Nat) (acc:Str),(textFrom k acc ts).length<=acc.length+piled ts
 | [],k,acc=>XW _
 | t :: ts,k,acc=>by
  have ih:=De ts (k+1) (acc++(if k > 0 then ", " else "":String)++t);have e:(acc++(if k > 0 then ", " else "":String)++t).length<=acc.length+2+t.length:=by
   rw[aah,aah];split
   ·show acc.length+2+t.length<=_;lia
   ·show acc.length+0+t.length<=_;lia
  rw[piled_cons];show(textFrom (k+1) _ ts).length<=_;lia
mutual
theorem shown_le:∀d:D,Sane d->(toPy d).shown.length<=wD d
 | .bN,_=>by show(Str.ofString "None").length<=6;decide
 | .bl b,_=>by cases b <;> (show(Str.ofString _).length<=6;decide)
 | .int i,h=>by
  show(Str.ofString (toString i)).length<=40;rw[Ed];exact X7 (int_text_length_le10 (k:=30) (by decide) h) (by decide)
 | .str z,h=>PySem.StrLaws.reprText_len z h
 | .tup ds,h=>by
  have k:=qZ ds h;show(tupleText (PyData.shownAll (fC ds))).length<=GY ds+4;unfold tupleText;rw[aah,aah];have e1:("(":Str).length=1:=rfl;have e2:((if(PyData.shownAll (fC ds)).length == 1 then ",)" else ")":String):Str).length<=2:=by split <;> decide
  by_cases hn:PyData.shownAll (fC ds)=[]
  ·rw[hn] at e2 ⊢;have e3:(Str.join ", " []).length=0:=rfl;lia
  ·have:=join_length_add _ hn;lia
 | .lst ds,h=>by
  have k:=qZ ds h;show(listText (PyData.shownAll (fC ds))).length<=GY ds+4;unfold listText;rw[aah];have e1:=De (PyData.shownAll (fC ds)) 0 "[";have e2:("[":Str).length=1:=rfl;have e3:("]":Str).length=1:=rfl;lia
theorem qZ:∀ds:List D,xY ds->piled (PyData.shownAll (fC ds))<=GY ds
 | [],_=>XW _
 | d :: ds,h=>by
  show piled ((toPy d).shown :: PyData.shownAll (fC ds))<=wD d+2+GY ds;rw[piled_cons];have:=shown_le d h.1;have:=qZ ds h.2;lia
end
mutual
theorem sV:∀d:D,Sane d->(toPy d).showable=true
 | .bN,_=>rfl
 | .bl b,_=>rfl
 | .int i,h=>by
  show decide (i.natAbs.log2 < 1920)=true;rw[YK];by_cases hz:i.natAbs=0
  ·rw[hz];decide
  ·exact(Nat.log2_lt hz).mpr (aap h (X0 (show(10:Nat) ^ 30 < 2 ^ 100 by decide) (aau (by decide) (by decide))))
 | .str z,_=>rfl
 | .tup ds,h=>by show PyData.showableAll (fC ds)=true;exact kP ds h
 | .lst ds,h=>by show PyData.showableAll (fC ds)=true;exact kP ds h
theorem kP:∀ds:List D,xY ds->PyData.showableAll (fC ds)=true
 | [],_=>rfl
 | d :: ds,h=>by
  show((toPy d).showable && PyData.showableAll (fC ds))=true;rw[sV d h.1,kP ds h.2];rfl
end
mutual
theorem depth_eq:∀d:D,(toPy d).depth=bX d
 | .bN=>rfl
 | .bl _=>rfl
 | .int _=>rfl
 | .str _=>rfl
 | .tup ds=>by show PyData.depthAll (fC ds)+1=bF ds+1;rw[rq ds]
 | .lst ds=>by show PyData.depthAll (fC ds)+1=bF ds+1;rw[rq ds]
theorem rq:∀ds:List D,PyData.depthAll (fC ds)=bF ds
 | []=>rfl
 | d :: ds=>by show max (toPy d).depth (PyData.depthAll (fC ds))=max (bX d) (bF ds);rw[depth_eq d,rq ds]
end
def MB {d:D}(h:Sane d) (hw:wD d<=1000000) (hd:bX d<=20):Gw d:=
 ⟨sV d h,by rw[depth_eq];exact hd,X7 (shown_le d h) (X7 hw (by decide))⟩
structure Good (n k:Nat) (d:D):Prop where
 vm:Sane d
 w:wD d<=n
 dep:bX d<=k
def Good.mono {k n' k':Nat}{d:D}(h:Good n k d) (a:n<=n') (b:k<=k'):Good n' k' d:=⟨h.vm,X7 h.w a,X7 h.dep b⟩
def getD_mem {α:Type}{l:List α}{i:Nat}{x:α}(h:i < l.length):l.getD i x∈l:=by simp[List.getD,h]
noncomputable def zm (n:Nat):FM
 | [.s ns]=>if ns.length<=n then some (.t (.bl true),[]) else none
 | _=>none
def MC {P:Program}{w:World}{mg:AAC}{base:Heap}{f:Addr}{fd:FuncData}{k:Nat}{ps:BBB}{fm:FM}(h:∀us,fm us=none):jx P w K mg base xD n f fd ps (spT K k fm):=by
 have no:∀vs H Q E,¬spT K k fm vs H Q E:=fun vs H Q E ⟨_,F,us,r,outs,_,_,_,e,_⟩=>by rw[h us] at e;cases e
 exact⟨fun vs H Q E h=>absurd h (no vs H Q E),fun A outer s H args us vs Q E _ _ _ _ h=>absurd h (no vs H Q E)⟩
def MD {H:Hp}{a:Addr}{ns:BBD}{E:XK}(hl:ns.length<=n) (hO:IG H) (hS:oz K H a (ns.map V.int)):spT K 1 (zm n) [.ref a] H (fun v _=>v= .bl true) E:=by
 have sc:IU K H a ns:=by
  rcases hS with(h | h) | h
  ·rcases hO a with z | ⟨o,xs,z⟩
   ·rw[h] at z;cases z
   ·rw[h] at z;cases z
  ·exact .inl h
  ·exact .inr h
 exact⟨rfl,fun _=>none,[.s ns],.t (.bl true),[],(fun b o z=>by cases z),.cons ⟨a,rfl,sc⟩ .nil,ZZ,by simp[zm,hl],fun v F' H' _ r=>jI r⟩
end Sw
end
section
namespace L2
open PySem PySem.Spec PyProof.Rows
variable {c:Addr}{x:Str}{st:Stmt}{N ps:BBB}{k ng:Nat}{fm:FM}{g:GS}{σ:St}{H:Hp}{K:AAA}
section
variable {X:Cx}{e:Expr}{b:Expr}{g:GE}{gb:GD}{x y:Str}{p pos pos' px:Pos}{k:Nat}{scope:Scope}{cl:List (Str×Addr)}{cH:BBB}{cap:BBJ}
def zs (hN:X.N.Nodup) (i:Nat) (he:JE X e g) (hi:X.N[i]? =some x:=by rfl) (hx:Loc X.env.scope x:=by first | exact Or.inl rfl | exact Or.inr rfl) (hs:swapsWith e (some (.Name x pos')) pos.line X.env=pure false:=by rfl)
  (hf:X.fn x=true\/X.env.scope.names.lookup x=some .local:=by first | exact .inl rfl | exact .inr rfl):JS X (.Assign [.Name x pos'] e pos) (cP i g):=Ma hN hi hx he hs hf
def zg (hN:X.N.Nodup) (i:Nat) (hi:X.N[i]? =some x:=by rfl) (hx:Loc X.env.scope x:=by first | exact Or.inl rfl | exact Or.inr rfl) (hf:X.fn x=true\/X.env.scope.names.lookup x=some .local:=by first | exact .inl rfl | exact .inr rfl):JG X (.Name x pos) (bName i):=IZ hN hi hx hf
def ys (hr:fU k X.A) (i:Nat) (hb:JD X b gb) (hs:pO b:=by first | (intro _ _;rfl)) (hN:X.N[i]? =some x:=by rfl) (hv:wm X.env.scope x:=by first | exact Or.inl rfl | exact Or.inr (Or.inl rfl) | exact Or.inr (Or.inr rfl))
  (hd:BBT x:=by decide) (hcd:BBU x:=by decide):JD X (.Subscript (.Name x px) b pos) (bJ i gb):=Mf (uG hr) hb hs hN hv hd hcd
def jv (i:Nat) (hN:X.N[i]? =some x:=by rfl) (hv:wm X.env.scope x:=by first | exact Or.inl rfl | exact Or.inr (Or.inl rfl) | exact Or.inr (Or.inr rfl)) (hd:BBT x:=by decide)
  (hcd:BBU x:=by decide):JD X (.Name x pos) (eF (aE i)):=(bC i hN hv hd hcd).d
def cp (h1:∀y∈scope.names,y.2≠.free:=by decide) (h2:∀y∈scope.names,y.2≠.cell:=by decide) (h3:scope.kind= .function:=by rfl) (h4:∀y∈scope.names,y.2= .local->scope.names.lookup y.1=some .local:=by decide) (h5:scope.names.lookup x=some .local:=by rfl):
  fY X x [] [] scope []:=BK h1 h2 h3 h4 h5
def cc (i:Nat) (clos:closureFor scope X.env=pure [(y,c)]:=by rfl) (iU:∀z∈scope.names,z.2≠.cell:=by decide) (kind:scope.kind= .function:=by rfl) (names:∀z∈scope.names,z.2= .local->scope.names.lookup z.1=some .local:=by decide)
  (loc:scope.names.lookup x=some .local:=by rfl) (hc:X.env.cells.lookup y=some c:=by rfl) (only:∀z∈scope.names,z.2= .free->z.1=y:=by decide) (ne:x≠y:=by decide) (hN:X.N[i]? =some y:=by rfl) (vis:X.env.scope.names.lookup y=some .cell:=by rfl) (rel:(relabel scope X.env).names.lookup y=some .cell:=by rfl):
  fY X x [y] [i] scope [(y,c)]:=Gx clos iU kind names loc hc only ne hN vis rel
def cs (cH:BBB) (cap:BBJ) (clos:closureFor scope X.env=pure cl:=by rfl) (iU:∀z∈scope.names,z.2≠.cell:=by decide) (kind:scope.kind= .function:=by rfl) (names:∀z∈scope.names,z.2= .local->scope.names.lookup z.1=some .local:=by decide)
  (loc:scope.names.lookup x=some .local:=by rfl) (hc:cl.map (fun p=>X.env.cells.lookup p.1)=cl.map (fun p=>some p.2):=by rfl) (only:∀z∈scope.names,z.2= .free->z.1∈cH:=by decide) (hcl:cl.map (·.1)=cH.reverse\/cl.map (·.1)=cH:=by first | exact Or.inl rfl | exact Or.inr rfl) (nd:(x :: cH).Nodup:=by decide)
  (slot:cap.map (fun i=>X.N[i]?)=cH.map some:=by rfl) (vis:cH.map (fun n=>X.env.scope.names.lookup n)=cH.map fun _=>some .cell:=by rfl) (rel:cH.map (fun n=>(relabel scope X.env).names.lookup n)=cH.map fun _=>some .cell:=by rfl):
  fY X x cH cap scope cl:=BZ clos iU kind names loc hc only hcl nd slot vis rel
end
section
variable {P:Program}{w:World}{K:AAA}{mg:AAC}{base:Heap}{h:Heap}
structure Df (K:AAA) (mg:AAC) (x:Str) (st:Stmt):Prop where
 ex:∃f fd,IJ K x x st f fd/\mg x=some (.ref f)
def PL {f:Addr}{oc:Value}{od an:BBN}{osl:Array (BBP)}{kV doc pm cdv ct:Value}(X:K.In h) (G:h.Ns mainGlobals mg) (a:PySem.W.nsIn K mainGlobals x=some (some (.ref f)))
  (l:K.lookup f=some ⟨oc,od,.func (PySem.W.fnOf x x (nA st) (fX st) (aL st) .none kV doc pm an cdv ct),osl⟩) (c:PySem.W.codeIn K cdv x=true) (k:PySem.W.keepIn K (.ref f)=true):Df K mg x st:=
 ⟨_,_,LX l c k,YI X G a⟩
structure nO (P:Program) (w:World) (K:AAA) (mg:AAC) (base:Heap) (n:Nat) (x:Str) (ps:BBB) (fm:FM):Prop where
 ex:∃a d,jx P w K mg base xD n a d ps (spT K ps.length fm)/\Binds K d ps []/\PySem.W.keepIn K (.ref a)=true/\mg x=some (.ref a)
def nO.mono {j k:Nat}{x:Str}{ps:BBB}{fm:FM}(c:nO P w K mg base j x ps fm) (h:j<=k):nO P w K mg base k x ps fm:=
 let⟨a,d,G,r⟩:=c.ex;⟨a,d,G.mono h,r⟩
def Bd (x:Str) (st:Stmt) (ps:BBB):Prop:=∀(kV doc pm:Value) (an:BBN) (cdv ct:Value) (us:AAI),us.length=ps.length->bindArgs (PySem.W.fnOf x x (nA st) (fX st) (aL st) .none kV doc pm an cdv ct) ⟨us,[]⟩=pure (ps.zip us)
def sI {sc:Scope}(a:sc.kind= .function:=by rfl) (b:sc.isCoroutine=false:=by rfl) (c:sc.isGenerator=false:=by rfl) (d:N.Nodup:=by decide +kernel) (e:N.take ps.length=ps:=by rfl)
  (f:∀x∈ps,sc.names.lookup x=some .local\/sc.names.lookup x=some .cell:=by decide +kernel) (g:∀y∈sc.names,y.2≠.free:=by decide +kernel):bg N ps sc:=⟨a,b,c,d,e,f,g⟩
def sW (D:Df K mg x st) (Sc:bg N ps (aL st))
  (hf:∀us r,fm us=some r->aJ N.length g us=some r)
  (hb:∀(f:Addr) (cdv:Value) (A:Around) (outer:BBF) (s:Shared) (H:Hp) (E:XK),fU k (A.deeper (envOfC x (aL st) s.heap.objs.size f cdv))->JB (wA xD P w K mg base N x (aL st) f cdv A outer s H E).KN (fX st) g)
  (bd:Bd x st ps:=by intro _ _ _ _ _ _ us hl;rcases us with _ | ⟨_,_ | ⟨_,_ | ⟨_,_ | ⟨_,_ | ⟨_,_ | ⟨_,_ | ⟨_,_⟩⟩⟩⟩⟩⟩⟩ <;> first | rfl | cases hl):nO P w K mg base (k+1) x ps fm:=by
 obtain⟨f,fd,F,m⟩:=D.ex;exact⟨f,fd,Vg F Sc (hb f) hf,F.binds bd,F.kp,m⟩
end
section
variable {X:Cx}{e:Expr}{es:BBC}{gu:GU}{x:Str}{p pos:Pos}{k j:Nat}{ps:BBB}{fm:FM}
def jc (c:nO X.prog X.w X.K X.mg X.base j x ps fm) (hr:fU k X.A) (ha:JU X (e :: es) gu) (hj:j<=k:=by lia) (hg:Gl X x:=by rfl) (hn:(e :: es).length=ps.length:=by rfl)
  (hdb:BBT x:=by decide) (he:starEach (e :: es) X.env=(false,eval e X.env) :: starEach es X.env:=by rfl) (hpl:(backTo pos (starEach es X.env)).any (·.1)=false:=by rfl):
  JE X (.Call (.Name x p) (e :: es) [] pos) (aT fm gu):=by
 obtain⟨a,d,G,b,kp,m⟩:=c.ex;exact I0 (G.mono hj) hr hg m kp b ha hn hdb he hpl
def WS (c:nO X.prog X.w X.K X.mg X.base j x [] fm) (hr:fU k X.A) (hj:j<=k:=by lia) (hg:Gl X x:=by rfl) (hdb:BBT x:=by decide):JE X (.Call (.Name x p) [] [] pos) (aT fm bx):=by
 obtain⟨a,d,G,b,kp,m⟩:=c.ex;exact Gy (G.mono hj) hr hg m kp b hdb
end
section
variable {P:Program}{w:World}{K:AAA}{mg:AAC}{base:Heap}{m x:Str}{st:Stmt}{ps:BBB}{fm:FM}
def nF {n:Nat}(D:Df K mg x st) (z:∀us,fm us=none) (bd:Bd x st ps:=by intro _ _ _ _ _ _ us hl;rcases us with _ | ⟨_,_ | ⟨_,_ | ⟨_,_ | ⟨_,_ | ⟨_,_ | ⟨_,_ | ⟨_,_⟩⟩⟩⟩⟩⟩⟩ <;> first | rfl | cases hl):nO P w K mg base n x ps fm:=by
 obtain⟨f,fd,F,m⟩:=D.ex;exact⟨f,fd,Sw.MC z,F.binds bd,F.kp,m⟩
end
def Inv.gh {X:Cx}{pins:AAD}{σ':St}{s:Shared}(I:Inv X pins σ H s) (hl:σ'.length=σ.length) (h:∀(i:Nat) x,X.N[i]? =some x->wm X.env.scope x->σ'[i]? =σ[i]?):Inv X pins σ' H s:=
 ⟨I.ok,I.os,I.bare,I.base,let⟨m,a,b⟩:=I.loc;⟨m,a,fun i x v h1 h2 h3=>b i x v h1 (by rw[<-h i x h1 h3];exact h2) h3⟩,I.cell,I.free,I.lY,I.pin,I.hok,by rw[hl];exact I.len⟩
inductive Ub (X:Cx) (t:TS) (D:Ends) (σ:St) (H:Hp):Prop
 | mk (σ':St) (hl:σ'.length=σ.length) (he:∀(i:Nat) x,X.N[i]? =some x->wm X.env.scope x->σ'[i]? =σ[i]?) (q:t D σ' H)
def xq.gh {X:Cx}{st:BBH}{t:TS}(h:xq X st t):xq X st (Ub X t):=fun pins s σ H D I q=>by
 obtain⟨σ',hl,he,q⟩:=q;exact h pins s σ' H D (I.gh hl he) q
def PM (K:AAA) (n ng:Nat) (f:FM):Sp:=fun vs H Q _=>vs.length=n/\∃gv F us r outs,gv.length=ng/\Sub F H/\Paired (DU K F H) (vs++gv) us/\(addrs (vs++gv) us).Nodup/\f us=some (r,outs)/\∀v F' H',Post F H F' H' (addrs (vs++gv) us) outs->Ai H F' H' v r->Q v H'
def GZ {sc:Scope}{vs gv:List V}(hl:vs.length=ps.length) (hn:ps.length+gv.length<=N.length) (hg:∀x∈(N.drop ps.length).take gv.length,sc.names.lookup x=none):(start N (vs++gv)).length=(start N vs).length/\∀(i:Nat) x,N[i]? =some x->wm sc x->(start N (vs++gv))[i]? =(start N vs)[i]?:=by
 refine⟨by simp only[start,X4,X3,List.length_replicate];lia,fun i x hN hv=>?_⟩;have hi:=(XY.mp hN).1;unfold start;by_cases h1:i < vs.length
 ·rw[YL (by simp;lia),YL (by simpa using h1),Yl,Yl,YL h1]
 ·by_cases h2:i < vs.length+gv.length
  ·have:x∈(N.drop ps.length).take gv.length:=by
    refine Yn (i:=i - ps.length) ?_;rw[List.getElem?_take,if_pos (by lia),List.getElem?_drop,<-hl,Nat.add_sub_cancel' (by lia)];exact hN
   have:=hg x this;rcases hv with z | z | z <;> (rw[this] at z;cases z)
  ·rw[Zm (by simp;lia),Zm (by simp;lia),Zw,Zw,if_pos (by simp;lia),if_pos (by simp;lia)]
section
variable {P:Program}{w:World}{K:AAA}{mg:AAC}{base:Heap}
def Uc {qual:Str}{f:Addr}{fd:FuncData}(F:IJ K x qual st f fd) (Sc:bg N ps (aL st)) (hn:ps.length+ng<=N.length) (hgs:∀x∈(N.drop ps.length).take ng,(aL st).names.lookup x=none)
  (hb:∀(cdv:Value) (A:Around) (outer:BBF) (s:Shared) (H:Hp) (E:XK),fU k (A.deeper (envOfC qual (aL st) s.heap.objs.size f cdv))->JB (wA xD P w K mg base N qual (aL st) f cdv A outer s H E).KN (fX st) g)
  (hf:∀us r,fm us=some r->aJ N.length g us=some r):jx P w K mg base xD (k+1) f fd ps (PM K ps.length ng fm):=by
 refine F.ok Sc (fun vs H Q E h=>h.1) fun cdv A outer s H vs Q E hr h=>?_;obtain⟨hlen,gv,F0,us,r,outs,gl,sb,ar,nd,hfm,q⟩:=h;have hrun:=hf us (r,outs) hfm;have J:=hb cdv A outer s H E hr;subst gl;obtain⟨s1,s2⟩:=GZ (sc:=aL st) hlen hn hgs;refine⟨_,(J.h ⟨lent (vs++gv) us,F0,H⟩).gh,start N (vs++gv),s1,s2,?_⟩;have R0:=qP sb ar nd N rfl;obtain⟨o,ho,hrun⟩:=ah hrun;refine⟨_,F0,o,R0,ho,?_⟩;have post:=post_of ar;cases o with
 | bk S'=>cases hrun
 | ct S'=>cases hrun
 | nx S'=>
  obtain⟨os,h1,h2⟩:=az (show(aB us S').map _=some (r,outs) from hrun);cases h2;exact fun σ' F' H' R' le=>q .bN F' H' (post S' σ' F' H' outs R' h1) .bN
 | rt u S'=>
  cases u with
  | b o=>cases hrun
  | v i=>cases hrun
  | s i=>cases hrun
  | f i=>cases hrun
  | x cx kx=>cases hrun
  | t d=>
   obtain⟨os,h1,h2⟩:=az (show(aB us S').map _=some (r,outs) from hrun);cases h2;exact fun v σ' F' H' R' le rr=>q v F' H' (post S' σ' F' H' outs R' h1) rr
  | m o=>
   obtain⟨os,h1,h2⟩:=az (show(aB us S').map _=some (r,outs) from hrun);cases h2;exact fun v σ' F' H' R' le rr=>q v F' H' (post S' σ' F' H' outs R' h1) (by obtain⟨a,e,h0,f,h,n,hB⟩:=rr;exact⟨a,e,hB,f,h⟩)
structure B8 (P:Program) (w:World) (K:AAA) (mg:AAC) (base:Heap) (n:Nat) (x:Str) (ps:BBB) (ng:Nat) (fm:FM):Prop where
 ex:∃a d,jx P w K mg base xD n a d ps (PM K ps.length ng fm)/\Binds K d ps []/\PySem.W.keepIn K (.ref a)=true/\mg x=some (.ref a)
def B8.mono {j k ng:Nat}{x:Str}{ps:BBB}{fm:FM}(c:B8 P w K mg base j x ps ng fm) (h:j<=k):B8 P w K mg base k x ps ng fm:=
 let⟨a,d,G,r⟩:=c.ex;⟨a,d,G.mono h,r⟩
def Ud (D:Df K mg x st) (Sc:bg N ps (aL st))
  (hf:∀us r,fm us=some r->aJ N.length g us=some r)
  (hb:∀(f:Addr) (cdv:Value) (A:Around) (outer:BBF) (s:Shared) (H:Hp) (E:XK),fU k (A.deeper (envOfC x (aL st) s.heap.objs.size f cdv))->JB (wA xD P w K mg base N x (aL st) f cdv A outer s H E).KN (fX st) g) (hn:ps.length+ng<=N.length:=by decide) (hgs:∀x∈(N.drop ps.length).take ng,(aL st).names.lookup x=none:=by decide +kernel)
  (bd:Bd x st ps:=by intro _ _ _ _ _ _ us hl;rcases us with _ | ⟨_,_ | ⟨_,_ | ⟨_,_ | ⟨_,_ | ⟨_,_ | ⟨_,_ | ⟨_,_⟩⟩⟩⟩⟩⟩⟩ <;> first | rfl | cases hl):B8 P w K mg base (k+1) x ps ng fm:=by
 obtain⟨f,fd,F,m⟩:=D.ex;exact⟨f,fd,Uc F Sc hn hgs (hb f) hf,F.binds bd,F.kp,m⟩
def G0 {n:Nat}(D:Df K mg x st) (z:∀us,fm us=none) (bd:Bd x st ps:=by intro _ _ _ _ _ _ us hl;rcases us with _ | ⟨_,_ | ⟨_,_ | ⟨_,_ | ⟨_,_ | ⟨_,_ | ⟨_,_ | ⟨_,_⟩⟩⟩⟩⟩⟩⟩ <;> first | rfl | cases hl):B8 P w K mg base n x ps ng fm:=by
 obtain⟨f,fd,F,m⟩:=D.ex;have no:∀vs H Q E,¬PM K ps.length ng fm vs H Q E:=fun vs H Q E ⟨_,gv,F,us,r,outs,_,_,_,_,e,_⟩=>by rw[z us] at e;cases e
 exact⟨f,fd,⟨fun vs H Q E h=>absurd h (no vs H Q E),fun A outer s H args us vs Q E _ _ _ _ h=>absurd h (no vs H Q E)⟩,F.binds bd,F.kp,m⟩
end
noncomputable def NJ (gu:GU) (gh:BBJ):GU:=fun S=>(gu S).map fun p=>(p.1++gh.map U.v,p.2)
theorem qd {S:SS}:∀{a b ws:List U},bW S (a++b)=some ws->∃w2,bW S b=some w2
 | [],_,ws,h=>⟨ws,h⟩
 | u :: a,b,ws,h=>by
  obtain⟨w,h1,h⟩:=ah h;obtain⟨ws',h2,h⟩:=az h;exact qd (a:=a) h2
theorem Dg {K:AAA}{B:Base}{S:SS}{σ:St}{H0 F H:Hp}(R:Rel K B S σ F H):∀(gh:BBJ){ws:List U},bW S (gh.map U.v)=some ws->∃gv,gv.length=gh.length/\Paired (fun v u=>iV K B S σ H0 F H v u) gv (gh.map U.v)
 | [],_,_=>⟨[],rfl,.nil⟩
 | i :: gh,ws,h=>by
  obtain⟨w,h1,h⟩:=ah h;obtain⟨ws',h2,h⟩:=az h;obtain⟨gv,l,p⟩:=Dg R gh h2;obtain⟨u,o,hS,_⟩:=j7 h1;obtain⟨v,k1,_⟩:=R.rep i u hS;exact⟨v :: gv,congrArg Nat.succ l,.cons ⟨k1,u,hS⟩ p⟩
theorem vn {α β:Type}{P:α->β->Prop}:∀{a c:List α}{b d:List β},Paired P a b->Paired P c d->Paired P (a++c) (b++d)
 | _,_,_,_,.nil,q=>q
 | _,_,_,_,.cons p ps,q=>.cons p (vn ps q)
section
variable {X:Cx}{e:Expr}{es:BBC}{gu:GU}{x:Str}{p pos:Pos}{f:FM}{fa:Addr}{fd:FuncData}{ps:BBB}{k n j:Nat}{gh:BBJ}
def G1 (F:jx X.prog X.w X.K X.mg X.base xD k fa fd ps (PM X.K n gh.length f)) (hr:fU k X.A) (hg:Gl X x) (hm:X.mg x=some (.ref fa)) (hk:PySem.W.keepIn X.K (.ref fa)=true) (hb:Binds X.K fd ps []) (ha:JU X (e :: es) gu) (hn:(e :: es).length=n:=by rfl)
  (hdb:BBT x:=by decide) (he:starEach (e :: es) X.env=(false,eval e X.env) :: starEach es X.env:=by rfl) (hpl:(backTo pos (starEach es X.env)).any (·.1)=false:=by rfl):
  JE X (.Call (.Name x p) (e :: es) [] pos) (aT f (NJ gu gh)):=⟨fun B=>(CH F hr hg hm hk hb .nil FQ (ha.h B) hdb he hpl).imp fun σ H Q hh=>by
 obtain⟨S,F0,u,S',R,hg,q⟩:=hh;obtain⟨⟨us',S1⟩,h1,hg⟩:=ah hg;obtain⟨⟨us,Xy⟩,zP,hq⟩:=az h1;cases hq;dsimp only at hg;split at hg
 ·rename_i hc;obtain⟨ws,h2,hg⟩:=ah hg;obtain⟨⟨r,outs⟩,h3,hg⟩:=ah hg;obtain⟨S2,h4,hg⟩:=az hg;cases hg;refine⟨S,F0,us,_,R,zP,fun vs F1 H1 R1 st1 Vx=>?_⟩;show PM X.K n gh.length f (vs++[]) H1 Q E0;rw[Yt];have hlen:vs.length=n:=by rw[Vx.length,ha.len _ _ _ zP];exact hn
  obtain⟨w2,WT⟩:=qd h2;obtain⟨gv,gl,gp⟩:=Dg (H0:=H) R1 gh WT;have rr:=vn Vx gp;refine⟨hlen,gv,F1,ws,r,outs,gl,R1.sub,uh R1 rr h2,cV R1 rr h2 hc.1 hc.2,h3,fun v F2 H2 po rn=>?_⟩;obtain⟨R2,st2,mu⟩:=kK R1 st1 rr h2 h4 hc.1 po;refine q v F2 H2 R2 st2 ?_;cases r with
  | t d=>exact rn
  | b o=>cases rn
  | v i=>cases rn
  | s i=>cases rn
  | f i=>cases rn
  | x cx kx=>cases rn
  | m o=>
   obtain⟨a,e,h0,f,h⟩:=rn;refine⟨a,e,none_of st1.ext.there h0,f,h,fun m=>?_,none_of R1.ext.there h0⟩;obtain⟨o',ho⟩:=R1.has (mu a m);rw[h0] at ho;cases ho
 ·cases hg⟩
def Vy (gh:BBJ) (c:B8 X.prog X.w X.K X.mg X.base j x ps gh.length fm) (hr:fU k X.A) (ha:JU X (e :: es) gu) (hj:j<=k:=by lia) (hg:Gl X x:=by rfl) (hn:(e :: es).length=ps.length:=by rfl)
  (hdb:BBT x:=by decide) (he:starEach (e :: es) X.env=(false,eval e X.env) :: starEach es X.env:=by rfl) (hpl:(backTo pos (starEach es X.env)).any (·.1)=false:=by rfl):
  JE X (.Call (.Name x p) (e :: es) [] pos) (aT fm (NJ gu gh)):=by
 obtain⟨a,d,G,b,kp,m⟩:=c.ex;exact G1 (G.mono hj) hr hg m kp b ha hn hdb he hpl
end
def AF (S:SS) (i:Nat) (k:Int):BBN:=match S[i]? with
 | some (some (.m (.gap es)))=>(dj es k).bind Sum.getRight?
 | some (some (.b (.gap es)))=>(dj es k).bind Sum.getRight?
 | _=>none
noncomputable def Ef (c:Addr) (h:List D->MO->Option (D×MO)) (args:List D):MO->Option (D×MO)
 | .lat c' ds=>if c'=c then match h args (.lst ds) with
  | some (d,.lst ds')=>some (d,.lat c ds')
  | _=>none else none
 | _=>none
noncomputable def sX (S:SS) (j:Nat) (c:Addr):Bool:=match S[j]? with
 | some (some (.m (.lat c' _)))=>c' == c
 | some (some (.b (.lat c' _)))=>c' == c
 | _=>false
def vo (i:Nat) (k:Int) (j:Nat) (h:List D->MO->Option (D×MO)) (gA:GA):GD:=fun S=>(AF S i k).bind fun c=>if sX S j c then(gA S).bind fun p=>uJ p.2 j (Ef c h p.1) else none
def Jx {B:Base}{S:SS}{F:Hp}{i:Nat}{k:Int}(R:Rel K B S σ F H) (h:AF S i k=some c):∃a vs,σ[i]? =some (some (.ref a))/\H a=some (.lst vs)/\dj vs k=some (.ref c):=by
 have go:∀es a,(dj es k).bind Sum.getRight? =some c->At F H a (.gap es)->∃vs,H a=some (.lst vs)/\dj vs k=some (.ref c):=fun es a h1 h2=>by
  obtain⟨vs,e1,e2⟩:=h2;obtain⟨y,y1,y2⟩:=ah h1;obtain⟨v,z1,z2⟩:=uQ e2 y1;cases y with
  | inl d=>cases y2
  | inr c'=>cases y2;exact⟨vs,e1,by rw[z1];exact congrArg some z2⟩
 unfold AF at h;split at h
 ·rename_i es e;obtain⟨v,k1,a,rfl,f,k2⟩:=R.rep i _ e;obtain⟨vs,z⟩:=go es a h k2;exact⟨a,vs,k1,z⟩
 ·rename_i es e;obtain⟨v,k1,a,rfl,f,k2⟩:=R.rep i _ e;obtain⟨vs,z⟩:=go es a h k2;exact⟨a,vs,k1,z⟩
 ·cases h
def G2 {B:Base}{S:SS}{F:Hp}{j:Nat}(R:Rel K B S σ F H) (h:sX S j c=true):σ[j]? =some (some (.ref c))/\∃vs,H c=some (.lst vs):=by
 unfold sX at h;split at h
 ·rename_i c' ds e;obtain⟨v,k1,a,rfl,f,vs,⟨rfl,k2⟩,k3⟩:=R.rep j _ e;cases eq_of_beq h;exact⟨k1,vs,k2⟩
 ·rename_i c' ds e;obtain⟨v,k1,a,rfl,f,vs,⟨rfl,k2⟩,k3⟩:=R.rep j _ e;cases eq_of_beq h;exact⟨k1,vs,k2⟩
 ·cases h
section
variable {X:Cx}{e b:Expr}{es:BBC}{gA:GA}{x:Str}{name:Str}{id:String}{px spos apos cpos:Pos}
def qg {i:Nat}{k:Int}(j:Nat){r:V->List V->Hp->VK->Prop}{h:List D->MO->Option (D×MO)}(slot:Slot "list" name id) (hty:typeOf (.builtin id)=pure (.type "method_descriptor")) (hm:Nl X id r) (hh:Mc r h) (ha:JA X (e :: es) gA)
  (hb:PE X b fun σ H Q=>Q (.int k) H) (hpx:pO b:=by first | (intro _ _;rfl))
  (hN:X.N[i]? =some x:=by rfl) (hv:wm X.env.scope x:=by first | exact Or.inl rfl | exact Or.inr (Or.inl rfl) | exact Or.inr (Or.inr rfl))
  (hbase:attributeBase (.Subscript (.Name x px) b spos) name X.env (eval (.Subscript (.Name x px) b spos) X.env)=eval (.Subscript (.Name x px) b spos) X.env:=by rfl)
  (hfew:((backTo cpos (starEach (e :: es) X.env)).all (fun x=>!x.1) && (backToKw cpos (keywordEach [] X.env)).all (fun x=>x.1.isSome)
   && decide ((e :: es).length+([]:BBI).length+(if([]:BBI).isEmpty then 0 else 1) < 30))=true:=by rfl)
  (hline:(apos.endLine == cpos.line)=true:=by rfl) (hs:starEach (e :: es) X.env=(false,eval e X.env) :: starEach es X.env:=by rfl) (hplain:(backTo cpos (starEach es X.env)).any (·.1)=false:=by rfl)
  (hd:BBT x:=by decide) (hcd:BBU x:=by decide):
  JD X (.Call (.Attribute (.Subscript (.Name x px) b spos) name apos) (e :: es) [] cpos) (vo i k j h gA):=
 ⟨fun B=>(KS Z6 slot hty hm (Ad yQ (dF hN hv hd hcd) hb hpx) (ha.h B) hbase hfew hline hs hplain).imp fun σ H Q hq=>by
 obtain⟨S,F,d,S',R,hg,q⟩:=hq;obtain⟨c,h0,hg⟩:=ah hg;split at hg
 ·rename_i hL;obtain⟨⟨args,S1⟩,h1,hg⟩:=ah hg;obtain⟨u,u',o,o',hS,DT,hio,hf,E3,rfl⟩:=j6 hg;obtain⟨a,Nk,g1,g2,g3⟩:=Jx R h0;obtain⟨l1,vs1,l2⟩:=G2 R hL;refine⟨.ref a,g1,.inl ⟨a,Nk,k,.ref c,rfl,rfl,oz.of g2,g3,.inl ⟨rfl,vs1,oz.of l2⟩,S,F,args,S1,R,h1,fun xs F1 H1 R1 st1 r1=>?_⟩⟩;cases o with
  | lat c' ds=>
   obtain⟨rfl,hf⟩:=j4 hf;cases hx:h args (.lst ds) with
   | none=>rw[hx] at hf;cases hf
   | some p=>
    rw[hx] at hf;obtain⟨d',o2⟩:=p;cases o2 with
    | lst ds'=>
     cases hf;obtain⟨v,k1,k2⟩:=R1.rep j u hS;rw[l1] at k1;cases k1;obtain⟨b',o2,e1,f,e2,k3⟩:=k2.cg DT;cases e1;rw[hio] at e2;cases e2;obtain⟨vs,⟨_,OY⟩,rs⟩:=k3;refine hh F1 H1 _ vs xs ds args _ _ R1.sub OY f rs r1 hx Q fun rv ho rr ha=>?_;obtain⟨ws,z1,z2⟩:=ha;obtain⟨R2,st2⟩:=R1.write (ho:=ho) (o:=.lat _ ds') hS E3 l1 ⟨ws,⟨rfl,z1⟩,z2⟩;exact q rv F1 _ R2 (st1.trans st2) rr
    | _=>cases hf
  | _=>cases hf
 ·cases hg⟩
end
end L2
end
section
namespace L2
open PySem PySem.Spec PyProof.Rows PySem.Calls PyProof.V
variable {prog:Program}{k:Str}{es:Array (Int×Value)}{ns ns':BBB}{a:Addr}{Q:AAB}
structure K6 (prog:Program) (w:World) (es:Array (Int×Value)) (t:SetTable) (ns:BBB):Prop where
 el:ElemsOf (PySem.strKind prog w) es.toList
 perm:(es.toList.map fun e=>strOf e.2).Perm ns
 few:es.size < scanBound
 fits:t.fits es.size=true
 rise:i7 t.place
 led:t.led=!pI w
def kQ (prog:Program) (w:World) (h:Heap) (a:Addr) (ns:BBB):Prop:=∃o es ep t,h.get? a=some o/\o.ExactSet/\o.data= .set es ep t/\K6 prog w es t ns
def strKind_is {w:World}{v:Value}(h:(PySem.strKind prog w).is k v=true):strOf v=k:=by
 obtain⟨t,rfl⟩:=aaA h;rfl
def K6.mem {w:World}{t:SetTable}(h:K6 prog w es t ns) (k:Str):k∈ns↔∃e∈es.toList,(PySem.strKind prog w).is k e.2=true:=by
 rw[<-h.perm.mem_iff,YZ];constructor
 ·rintro⟨e,he,rfl⟩;obtain⟨⟨k,hk,_⟩,_⟩:=h.el e he;rw[strKind_is hk];exact⟨e,he,hk⟩
 ·rintro⟨e,he,hk⟩;exact⟨e,he,strKind_is hk⟩
section
variable {prog:Program}{w:World}{A:Around}{E:AAB}{s:Shared}
def vp {h:Heap}{o:Obj}{ep:Nat}{t:SetTable}(ho:h.get? a=some o) (hex:o.ExactSet) (hd:o.data= .set es ep t)
  {es':Array (Int×Value)}{t':SetTable}(I:K6 prog w es' t' ns'):
  (h.update a (Obj.putSet es' t')).get? a=some {o with data:=.set es' (ep+1) t'}/\kQ prog w (h.update a (Obj.putSet es' t')) a ns':=by
 have hg:(h.update a (Obj.putSet es' t')).get? a=some {o with data:=.set es' (ep+1) t'}:=by
  have:=YX (Obj.putSet es' t') ho (by rw[putSet_of es' t' hd];rfl);rw[putSet_of es' t' hd] at this;exact this
 exact⟨hg,_,es',ep+1,t',hg,hex,rfl,I⟩
def AG {g:Bool->Sem Unit}(hg:∀(b:Bool) (s₁:Shared) (Q':Unit->Shared->Prop),Q' () s₁->wpAny (model prog w) A (g b) Q' E s₁)
  {o:Obj}{ep:Nat}{t:SetTable}(ho:s.heap.get? a=some o) (hex:o.ExactSet) (hd:o.data= .set es ep t)
  {es1:Array (Int×Value)}{t2:SetTable}(I:K6 prog w es1 t2 ns'){wasDummy:Bool}{R:Option Bool->Shared->Prop}
  (h:∀h',Heap.SameBut a s.heap h'->kQ prog w h' a ns'->R (some true) {s with heap:=h'}):
  wpAny (model prog w) A (do
    storeSet a es1 t2
    if(!wasDummy && t2.tooFull)=true then do
      g (relayAll t2 es1 (SetTable.grown es1.size)).2.2
      storeSet a (relayAll t2 es1 (SetTable.grown es1.size)).1 (relayAll t2 es1 (SetTable.grown es1.size)).2.1
      pure (some true)
     else pure (some true)) R E s:=by
 have hb1:=I.few;refine XQ (wpAny_storeSet_of ho hd ?_ (aaT hb1));obtain⟨PN,WU⟩:=vp ho hex hd I;have PR:=aaB s.heap a (Obj.putSet es1 t2);split
 ·have hp:=relayAll_perm t2 es1 (SetTable.grown es1.size);have hfr:=relayAll_fits t2 es1 (SetTable.grown es1.size);obtain⟨ME,MF⟩:=B5 (t:=t2) (es:=es1) (wanted:=SetTable.grown es1.size);generalize Xz:relayAll t2 es1 (SetTable.grown es1.size)=Rl at hp hfr ME MF ⊢;obtain⟨Vz,t3,VA⟩:=Rl;dsimp only at hp hfr ME MF ⊢;have hsz:Vz.size=es1.size:=by rw[<-Yr,hp.length_eq,Yr]
  have I2:K6 prog w Vz t3 ns':=⟨I.el.perm hp,(hp.map _).trans I.perm,by rw[hsz];exact hb1,hfr,ME,by rw[MF];exact I.led⟩
  refine XQ (hg _ _ _ ?_);refine XQ (wpAny_storeSet_of PN rfl ?_ (aaT I2.few));obtain⟨_,Mn⟩:=vp PN hex rfl I2;exact wpAny_pure (h _ (PR.trans (aaB _ a _)) Mn)
 ·exact wpAny_pure (h _ PR WU)
def Jy {x:Value}{Q:Bool->Shared->Prop}(hkey:(PySem.strKind prog w).is k x=true) (hsc:x.scannable=true) (hS:kQ prog w s.heap a ns) (hroom:ns.length+1 < scanBound)
  (h:∀h',Heap.SameBut a s.heap h'->kQ prog w h' a (if k∈ns then ns else ns++[k])->Q (!decide (k∈ns)) {s with heap:=h'}):
  wpAny (model prog w) A (setAddHashed a x ((PySem.strKind prog w).hash k)) Q E s:=by
 obtain⟨o,es,ep,t,ho,hex,hd,I⟩:=hS;have hn:es.size=ns.length:=by rw[<-Yr,<-I.perm.length_eq,X3]
 have hb1:es.size+1 < scanBound:=by rw[hn];exact hroom
 unfold setAddHashed setAddHashedIn;refine YD (XQ (ZF ho hd I.fits ?_));dsimp only;rw[byScan_of hsc I.few I.el];simp only[↓reduceIte];unfold setAddByScan;refine XQ ?_;refine XQ (ZK ?_);refine XQ (wpAny_setScan_of hkey ho hd I.fits I.el ?_);cases hr:List.findIdx? (fun e=>(PySem.strKind prog w).is k e.2) es.toList with
 | some j=>
  dsimp only;obtain⟨hj,WV,_⟩:=List.findIdx?_eq_some_iff_getElem.mp hr;have PU:k∈ns:=(I.mem k).mpr ⟨es.toList[j],aaj hj,WV⟩;refine wpAny_pure (wpAny_pure ?_);have e:s={s with heap:=s.heap}:=by cases s;rfl
  have:=h s.heap (Heap.SameBut.refl a s.heap) (by rw[if_pos PU];exact⟨o,es,ep,t,ho,hex,hd,I⟩);rw[Zp PU] at this;rw[e];exact this
 | none=>
  dsimp only;have PU:k∉ns:=fun hk=>by
   obtain⟨e,he,hp⟩:=(I.mem k).mp hk;have:=List.findIdx?_eq_none_iff.mp hr e he;rw[hp] at this;exact Bool.noConfusion this
  have WW:∀(b:Bool){s₁:Shared}{Q':Unit->Shared->Prop},Q' () s₁->wpAny (model prog w) A (match b with | true=>rule "set.scan.the-table-gave-way" | false=>pure ()) Q' E s₁:=
   fun b s₁ Q' hq=>by cases b <;> first | exact wpAny_pure hq | exact ZK hq
  have xZ:=layNew_perm t es ((PySem.strKind prog w).hash k) x;have G3:=layNew_fits t es ((PySem.strKind prog w).hash k) x;obtain⟨ME,MF⟩:=GJ (es:=es) (hh:=(PySem.strKind prog w).hash k) (x:=x) I.rise;generalize hL:layNew t es ((PySem.strKind prog w).hash k) x=L at xZ G3 ME MF ⊢;obtain⟨es1,t1,wasDummy,gave⟩:=L;dsimp only at xZ G3 ME MF ⊢;rw[Array.toList_push] at xZ;have I1:K6 prog w es1 t1 (ns++[k]):=by
   refine⟨(I.el.push hkey hsc).perm xZ,?_,?_,G3,ME,by rw[MF];exact I.led⟩
   ·refine(xZ.map _).trans ?_;rw[YN,List.map_singleton,strKind_is hkey];exact I.perm.append (Z1 _)
   ·rw[<-Yr,xZ.length_eq,X4,Yr];simpa using hb1
  refine XQ (WW _ ?_);have hend:∀h',Heap.SameBut a s.heap h'->kQ prog w h' a (ns++[k])->Q true {s with heap:=h'}:=by
   intro h' hsb hS';have:=h h' hsb (by rw[if_neg PU];exact hS');rw[Yy PU] at this;exact this
  have off:K6 prog w es1 {t1 with plain:=false} (ns++[k]):=⟨I1.el,I1.perm,I1.few,SetTable.fits_plain_off I1.fits,I1.rise,I1.led⟩
  split
  ·refine XQ ?_;rw[hashByValue_scannable 8 hsc];refine wpAny_pure ?_;refine AG (ns':=ns++[k]) ?_ ho hex hd ?_ ?_
   ·intro b s₁ Q' hq;cases b <;> first | exact wpAny_pure hq | exact ZK hq
   ·split
    ·exact I1
    ·exact off
   ·intro h' hsb hS';dsimp only;exact wpAny_pure (hend h' hsb hS')
  ·refine XQ (wpAny_pure ?_);simp only[↓reduceIte];refine AG (ns':=ns++[k]) ?_ ho hex hd I1 ?_
   ·intro b s₁ Q' hq;cases b <;> first | exact wpAny_pure hq | exact ZK hq
   ·intro h' hsb hS';dsimp only;exact wpAny_pure (hend h' hsb hS')
end
noncomputable def tW (val:Nat->Str):Nat->BBB
 | 0=>[]
 | i+1=>if val i∈tW val i then tW val i else tW val i++[val i]
theorem zo (val:Nat->Str):∀i,(tW val i).length<=i
 | 0=>XW _
 | i+1=>by
  have:=zo val i;show(if val i∈tW val i then tW val i else tW val i++[val i]).length<=i+1;split
  ·lia
  ·rw[X4,Zi];lia
theorem Dh (val:Nat->Str) (k:Str):∀i,k∈tW val i↔∃j,j < i/\val j=k
 | 0=>by simp[tW]
 | i+1=>by
  have ih:=Dh val k i;show k∈(if val i∈tW val i then tW val i else tW val i++[val i])↔_;by_cases m:val i∈tW val i
  ·rw[if_pos m,ih];constructor
   ·rintro⟨j,h,e⟩;exact⟨j,by lia,e⟩
   ·rintro⟨j,h,e⟩;by_cases q:j=i
    ·subst q;rw[e] at m;exact ih.mp m
    ·exact⟨j,by lia,e⟩
  ·rw[if_neg m,Yb,ih,XU];constructor
   ·rintro(⟨j,h,e⟩ | e)
    ·exact⟨j,by lia,e⟩
    ·exact⟨i,by lia,e.symm⟩
   ·rintro⟨j,h,e⟩;by_cases q:j=i
    ·subst q;exact .inr e.symm
    ·exact .inl ⟨j,by lia,e⟩
section
variable {prog:Program}{w:World}{A:Around}{R:Result->Shared->Prop}{I:Addr}{fp wr:BBE}{G:Array GenState->Array GenState->Prop}{n:Nat}{P:Nat->Value->Prop}{St:Nat->Shared->Prop}
def Eg (W:WalksS prog w A.in1 I fp wr G n P St) (S:Addr) (hSf:S∉fp) (val:Nat->Str) (hval:∀i v,P i v->∃t,v= .str (val i) t) (hb:n+1 < scanBound):
  ∀(k i:Nat) (s:Shared),n - i=k->i<=n->St i s->kQ prog w s.heap S (tW val i)->
   (∀s',Moved (S :: wr) G s s'->kQ prog w s'.heap S (tW val n)->R (.ok (.ret .none)) s')->
   codeAny (model prog w) A (.builtin "set.update.loop" ⟨[.ref S,.ref I],[]⟩) R s:=by
 have NK:S∉wr:=fun h=>hSf (W.sub _ h);have hsub:∀b∈wr,b∈S :: wr:=fun b hb=>Yc _ hb;have keep:∀{i:Nat}{s s':Shared},Moved wr G s s'->kQ prog w s.heap S (tW val i)->kQ prog w s'.heap S (tW val i):=
  fun hm ⟨o,es,ep,t,ho,rest⟩=>⟨o,es,ep,t,hm.heap S _ NK ho,rest⟩
 intro k
 induction k with
 | zero=>
  intro i s hk hi hst hS hR;obtain rfl:i=n:=by lia
  refine YV F.entry_set_update_loop ?_;rw[YH Z8 _];show wpAny _ A.in1 (pyNext (.ref I) >>= _) _ _ s;refine XQ (W.done s _ _ hst fun s' hm=>?_);show wpAny _ A.in1 (ret Value.none) _ _ s';exact wpAny_pure (hR s' (hm.mono hsub) (keep hm hS))
 | succ k ih=>
  intro i s hk hi hst hS hR;have hlt:i < n:=by lia
  refine YV F.entry_set_update_loop ?_;rw[YH Z8 _];show wpAny _ A.in1 (pyNext (.ref I) >>= _) _ _ s;refine XQ (W.item i s _ _ hlt hst fun v s' hP Eh hm=>?_);obtain⟨t,rfl⟩:=hval i v hP;have hS':=keep hm hS;show wpAny _ A.in1 (holding [Value.str (val i) t] (setAdd S (.str (val i) t)) >>= _) _ _ s';refine XQ (YD ?_);unfold setAdd;refine YD ?_;have his:(PySem.strKind prog w).is (val i) (.str (val i) t)=true:=by show Value.isStrOf (val i) (.str (val i) t)=true;simp[Value.isStrOf]
  refine XQ ((PySem.strKind prog w).pyHash (k:=val i) his ?_);have hroom:(tW val i).length+1 < scanBound:=by have:=zo val i;lia
  refine Jy his rfl hS' hroom fun h' hsb Ue=>?_;have Ue:kQ prog w h' S (tW val (i+1)):=Ue;refine wpAny_pure ⟨Y8 Z8 _,ih (i+1) _ (by lia) hlt (W.frame _ s' _ _ Eh (aaG _) fun b hb o e=>?_) Ue fun s'' Ug Uh=>?_⟩
  ·rw[hsb.2 b (fun h:b=S=>hSf (by rw[<-h];exact hb))];exact e
  ·refine hR s'' (Moved.trans W.gtrans ((hm.mono hsub).then_heap (aaG _) fun b o hb e=>?_) Ug) Uh;rw[hsb.2 b (fun h:b=S=>hb (by rw[h];exact Yp))];exact e
end
section
variable {prog:Program}{w:World}{A:Around}{E:AAB}{s:Shared}
set_option maxHeartbeats 3200000 in
def Ei {k:Bool}{l:Addr}{its:AAI}(hh:A.handled=none) (hl:Jj k s.heap l its.toArray) (hi:∀(i:Nat) (v:Value),its[i]? =some v->∃t,v=Value.str (ns.getD i "") t) (hb:its.length+1 < scanBound)
  (h:∀(h':Heap) (tk:Nat),kQ prog w h' s.heap.objs.size (tW (fun i=>ns.getD i "") its.length)->
   (∀b o,b < s.heap.objs.size->s.heap.get? b=some o->h'.get? b=some o)->Q (.ref s.heap.objs.size) {s with heap:=h',toks:=tk}):
  wpAny (model prog w) A (call (.type "set") [.ref l]) Q E s:=by
 obtain⟨c,tl,WX⟩:=Zv.mro;have hmade:=Zv.made;have hsub:=Zv.sub;refine wpAny_call (codeAny_of_tree ?_);show wpAny _ _ (callAny (.type "set") _) _ _ _;refine wpAny_pure ⟨Code.quiet_builtin _ (by decide +kernel),YV F.entry_type_call ?_⟩;rw[Around.under_plain (weight_type_call_type "set" [.ref l] []) rfl];have h1:=Zv.notType;have h2:=Zv.canCreate;have hct:=F.typeCall_set_1 (.ref l)
 repeat (any_goals (first | assumption | wp_step))
 refine ZR (GK (.ref l) (E:=E) (Q₁:=fun obj s₁=>obj= .ref s.heap.objs.size/\s₁={s with heap:=s.heap.push (dN (!pI w))}) ⟨rfl,rfl⟩) fun r s₁ hr=>?_;cases r with
 | error e=>exact hr
 | ok fl=>
  cases fl with
  | ret obj=>
   obtain⟨rfl,rfl⟩:=hr;have hS:(s.heap.push (dN (!pI w))).get? s.heap.objs.size=some (dN (!pI w)):=X6 _ rfl;have hT:Shared.TypeIs {s with heap:=s.heap.push (dN (!pI w))} (.ref s.heap.objs.size) "set":=⟨_,hS,rfl⟩
   have hli:=Zv.init.lookup;have hbi:=Zv.init.bind (.ref s.heap.objs.size)
   repeat (any_goals (first | assumption | wp_step))
   refine ZR (codeAny_call_builtin (R:=wants (fun r s₂=>r= .none/\∃h' tk,s₂={s with heap:=h',toks:=tk}/\
     kQ prog w h' s.heap.objs.size (tW (fun i=>ns.getD i "") its.length)/\
     (∀b o,b < s.heap.objs.size->s.heap.get? b=some o->h'.get? b=some o)) E) Zv.init.plain F.entry_set_init (check_set_init_1 hT ?_)) fun r₂ s₂ G4=>?_
   ·obtain⟨ol,QZ,hcl,nl,hdl⟩:=hl.seq;obtain⟨WY,PV,VB,MG⟩:=ol;simp only at hcl hdl;subst hcl;subst hdl;have WZ:(s.heap.push (dN (!pI w))).get? l=some {cls:=.type (Pf k),dict:=PV,data:=.seq its.toArray nl,slots:=MG}:=XS _ QZ;have W2:isSubtype (.type (Pf k)) (.type "set")=pure false:=by cases k;exact AA;exact F.sub_list_set
    have W3:isSubtype (.type (Pf k)) (.type "frozenset")=pure false:=by cases k;exact AB;exact F.sub_list_frozenset
    have hne:(Value.type (Pf k) == Value.type "dict")=false:=by cases k <;> decide
    have hl1:Jj k (s.heap.push (dN (!pI w))) l its.toArray:=hl.at fun o e=>XS _ e;unfold Builtin.«set.__init__» noKeywords Builtin.Frozenset.updateFrom
    generalize W4:pyIter=PI
    wp_walk
    subst W4;refine Pa hl1 ?_;refine XQ (wpAny_runValue ?_);have hlS:l < s.heap.objs.size:=XZ QZ;have Q0:A.in1.in1.in1.handled=none:=by simp[hh]
    have Ui:l≠(s.heap.push (dN (!pI w))).objs.size:=by
     rw[ZY];exact Yj (aab hlS)
    have hSf:s.heap.objs.size∉[(s.heap.push (dN (!pI w))).objs.size,l]:=by
     rw[ZY];simp only[XT,XU,Yi,YF,not_or];exact⟨Yj (aai _),Nat.ne_of_gt hlS⟩
    have hb':its.toArray.size+1 < scanBound:=by rw[XR];exact hb
    have hval:∀(i:Nat) (v:Value),its.toArray[i]? =some v->∃t,v= .str ((fun i=>ns.getD i "") i) t:=fun i v hv=>hi i v (by simpa using hv);refine Eg ((Mq Q0 _ l Ui its.toArray).toS) s.heap.objs.size
     hSf (fun i=>ns.getD i "") hval hb' (its.toArray.size - 0) 0 _ (by lia) (YY _)
     ⟨Qu.new k _ l,hl1.at fun o e=>XS _ e⟩ ?BV ?hR
    case BV=>
     have hget:((s.heap.push (dN (!pI w))).push (SX k l)).get? s.heap.objs.size=some (dN (!pI w)):=XS _ hS;exact⟨_,_,_,_,hget,⟨rfl,rfl,rfl⟩,rfl,⟨fun e he=>by simp at he,Z1 _,by show 0 < scanBound;unfold scanBound;decide,rfl,List.Pairwise.nil,rfl⟩⟩
    case hR=>
     intro s' hm hS';rw[XR] at hS';obtain⟨h',g',d',tk',os'⟩:=s';have eg:g'=s.gens:=hm.gens;have ed:d'=s.drawn:=hm.drawn;have eo:os'=s.os:=hm.os;subst eg;subst ed;subst eo;show wpAny _ _ _ _ _ _;refine wpAny_pure ?_;show wpAny _ _ (ret Value.none) _ _ _;refine wpAny_pure ⟨rfl,h',tk',rfl,hS',fun b o hb e=>?_⟩;have hb1:b≠s.heap.objs.size:=Yj hb;have hb2:b≠(s.heap.push (dN (!pI w))).objs.size:=by
      rw[ZY];exact Yj (aab hb)
     exact hm.heap b o (by simp only[XT,XU,Yi,YF,not_or];exact⟨hb1,hb2⟩) (XS _ (XS _ e))
   ·cases r₂ with
    | error e=>exact G4
    | ok PX=>
     cases PX with
     | ret r=>
      obtain⟨rfl,h',tk,rfl,hS',hk'⟩:=G4
      repeat (any_goals (first | assumption | wp_step))
      exact h _ _ hS' hk'
     | _=>exact G4.elim
  | _=>exact hr.elim
end
section
variable {prog:Program}{w:World}{A:Around}{E:AAB}{s:Shared}{a I:Addr}{es:Array (Int×Value)}{ep:Nat}{t:SetTable}
def PY (hh:A.handled=none) (hS:kQ prog w s.heap a ns)
  (h:∀(I:Addr) (h':Heap) (d':Drawn) (ord:List (Int×Value)) (fp:BBE) (St:Nat->Heap->Prop),(ord.map fun e=>strOf e.2).Perm ns->(∀e∈ord,∃tk,e.2= .str (strOf e.2) tk)->s.heap.objs.size<=I->(∀b∈fp,b=a\/s.heap.objs.size<=b)->
   Walks prog w A I fp [I] ord.length (fun i v=>∃e,ord[i]? =some e/\v=e.2) St->St 0 h'->(∀b o,s.heap.get? b=some o->h'.get? b=some o)->Q (.ref I) {s with heap:=h',drawn:=d'}):
  wpAny (model prog w) A (pyIter (.ref a)) Q E s:=by
 obtain⟨o,es,ep,t,ho,hex,hd,X⟩:=hS;have hT:s.TypeIs (.ref a) "set":=⟨o,ho,hex.1⟩
 have alt:a < s.heap.objs.size:=XZ ho;have vals:∀ord:List (Int×Value),ord.Perm es.toList->(ord.map fun e=>strOf e.2).Perm ns/\∀e∈ord,∃tk,e.2= .str (strOf e.2) tk:=fun ord hp=>⟨(hp.map _).trans X.perm,fun e he=>by
  obtain⟨⟨k,hk,_⟩,_⟩:=X.el e (hp.mem_iff.mp he);obtain⟨tk,e'⟩:=aaA hk;exact⟨tk,by rw[e'];rfl⟩⟩
 refine wpAny_pyIter_slot hT PySem.F.slot_set_iter (Zb PySem.F.slot_set_iter hT zc ?_ (PySem.F.args_set_iter_1 _));unfold Builtin.«frozenset.__iter__»
 refine XQ (wpAny_pure ?_);refine XQ ?_;unfold Builtin.Frozenset.sizeOf;refine XQ (aaC ho hd X.fits (wpAny_pure ?_));refine XQ ?_;unfold setDrawn;refine XQ (ZF ho hd X.fits ?_);unfold setsByText;refine XQ (XQ (ZL (wpAny_pure (wpAny_pure ?_))));refine Yz (fun hc=>?_) fun hc=>?_
 ·refine XQ (u6 es.size (List.range es.size) s _ (by rw[aaa]) fun pl d' hp=>?_);refine XQ (wpAny_newTuple ?_ (hsz:=by rw[X3,hp.length_eq,aaa];exact aaT X.few));have PN:(s.heap.push {cls:=.type "tuple",data:=.seq (jz pl)}).get? a=some o:=XS _ ho;refine XQ (wpAny_setEpoch_of (s:={s with heap:=s.heap.push {cls:=.type "tuple",data:=.seq (jz pl)},drawn:=d'}) PN hd X.fits ?_);have hz:(s.heap.push {cls:=.type "tuple",data:=.seq (jz pl)}).objs.size=s.heap.objs.size+1:=ZY ..;refine XQ (Yw (wpAny_pure ⟨_,rfl,"set_iterator",_,⟨_,X6 _ rfl,rfl⟩,cI.lookup,?_⟩));obtain⟨v1,v2⟩:=vals _ (D9 hp);refine h _ _ d' (u9 es pl) [(s.heap.push {cls:=.type "tuple",data:=.seq (jz pl)}).objs.size,a,s.heap.objs.size] _ v1 v2 (by rw[hz];exact aaG _) (fun b hb=>?_) (Ph (ep:=ep) (t:=t) hh (by rw[hz];exact Yj (aab alt)) (by rw[hz];exact Yj (aai _)) X.fits hp) ⟨X6 _ rfl,XS _ (X6 _ rfl),o,XS _ PN,hex,hd⟩ fun b o e=>XS _ (XS _ e);simp only[XT,Yi,YF] at hb;rcases hb with rfl | rfl | rfl
  ·exact .inr (by rw[hz];exact aaG _)
  ·exact .inl rfl
  ·exact .inr (XW _)
 ·have hpl:pI w=true\/(!t.plain && decide (es.size > 1))=false:=by
   cases e:pI w with
   | true=>exact .inl rfl
   | false=>
    refine .inr ?_;cases q:(!t.plain && decide (es.size > 1)) with
    | false=>rfl
    | true=>
     refine absurd ?_ hc;show(!pI w && (!t.plain && decide (es.size > 1)))=true;rw[e,q];rfl
  refine XQ (wpAny_pure ?_);refine XQ (wpAny_setEpoch_of ho hd X.fits ?_);refine XQ (Yw (wpAny_pure ⟨_,rfl,"set_iterator",_,⟨_,X6 _ rfl,rfl⟩,cI.lookup,?_⟩));obtain⟨v1,v2⟩:=vals _ (xV w a es ep);refine h _ _ s.drawn (qW w a es ep) [s.heap.objs.size,a] _ v1 v2 (XW _) (fun b hb=>?_) (Pg (ep:=ep) hh (Yj alt) X.fits X.rise X.led hpl) ⟨⟨0,X6 _ rfl,⟨o,XS _ ho,hex,hd⟩,.inr rfl⟩,YY _⟩ fun b o e=>XS _ e;simp only[XT,Yi,YF] at hb;rcases hb with rfl | rfl
  ·exact .inr (XW _)
  ·exact .inl rfl
end
section
variable {prog:Program}{w:World}{A:Around}{E:AAB}{s:Shared}{a:Addr}
theorem AH:∀{ord:List (Int×Value)},(∀e∈ord,∃tk,e.2= .str (strOf e.2) tk)->StrsAre (ord.map (·.2)) (ord.map fun e=>strOf e.2)
 | [],_=>.nil
 | e :: ord,h=>by
  obtain⟨tk,q⟩:=h e Yp;have ih:=AH fun x hx=>h x (Yc _ hx);show StrsAre (e.2 :: ord.map (·.2)) (strOf e.2 :: ord.map fun e=>strOf e.2);generalize strOf e.2=k at *;rw[q];exact .cons k tk ih
def kQ.keep {h h':Heap}(x:kQ prog w h a ns) (k:∀o,h.get? a=some o->h'.get? a=some o):kQ prog w h' a ns:=by
 obtain⟨o,es,ep,t,h1,r⟩:=x;exact⟨o,es,ep,t,k o h1,r⟩
def Jz {R:Result->Shared->Prop}(hh:A.handled=none) (BV:kQ prog w s.heap a ns) (S:Addr) (VC:S≠a) (res:Value) (c₀:Nat) (hS:s.heap.get? S=some {cls:=.type "list",data:=.seq #[] c₀})
  (hR:∀h' d' tk acc' c',(∀b o,b≠S->s.heap.get? b=some o->h'.get? b=some o)->h'.get? S=some {cls:=.type "list",dict:=none,data:=.seq acc' c',slots:=#[]}->(∃ms,StrsAre acc'.toList ms/\ms.Perm ns)->R (.ok (.ret res)) {s with heap:=h',toks:=tk,drawn:=d'}) (hn:ns.length<=sizeLine):
  wpAny (model prog w) A.in1 (Builtin.List.listExtendWith (.ref S) (.ref a) res)
   (fun fin s'=>match fin with | .done f=>R (.ok f) s' | .again c'=>c'.quiet=true/\codeAny (model prog w) A c' R s') (fun e s'=>R (.error e) s') s:=by
 have VD:S < s.heap.objs.size:=XZ hS;have hT:s.TypeIs (.ref a) "set":=by
  obtain⟨o,es,ep,t,h1,hex,_⟩:=BV;exact⟨o,h1,hex.1⟩
 unfold Builtin.List.listExtendWith;refine XQ (aar (T:="set") hT ?_);have h1:Builtin.List.listSameRef (.ref S) (.ref a)=false:=by simp[Builtin.List.listSameRef,VC]
 have n1:(Value.type "set" == Value.type "list")=false:=by decide
 have n2:(Value.type "set" == Value.type "tuple")=false:=by decide
 simp only[h1,n1,n2,aag,Zy,Zl];refine XQ (PY (A:=A.in1) hh BV fun I h1 d' ord fp St p1 p2 hI hfp W st hk=>?_);have hSf:S∉fp:=fun m=>by
  rcases hfp S m with z | z
  ·exact VC z
  ·exact absurd VD (Nat.not_lt.mpr z)
 have SI:S≠I:=Yj (X0 VD hI);have QZ:ord.length<=sizeLine:=by have:=p1.length_eq;rw[X3] at this;lia
 have key:∀(h:Heap) (c₁ tk:Nat),St 0 h->(∀b o,b≠S->s.heap.get? b=some o->h.get? b=some o)->
   h.get? S=some {cls:=.type "list",data:=.seq #[] c₁}->codeAny (model prog w) A (.builtin "list.extend.loop" ⟨[.ref S,.ref I,res],[]⟩) R {s with heap:=h,toks:=tk,drawn:=d'}:=by
  intro h c₁ tk hst hk vq;refine codeAny_extend_loopS W.toS QZ S hSf res ord.length 0 _ #[] c₁ rfl (YY _) hst vq (ItemsOf.nil _) fun s' acc' c' hm hS' hacc=>?_;rw[Moved.eq_with hm];refine hR s'.heap d' s'.toks acc' c' (fun b o hb e=>hm.heap b o (fun hmem=>?_) (hk b o hb e)) hS' ⟨_,by rw[Ea hacc];exact AH p2,p1⟩;rcases XT.mp hmem with e' | hmem
  ·exact hb e'
  ·have bl:=XZ e;rw[XU.mp hmem] at bl;exact absurd bl (Nat.not_lt.mpr hI)
 have vq:=hk S _ hS;have hT1:Shared.TypeIs {s with heap:=h1,drawn:=d'} (.ref a) "set":=by
  obtain⟨o,q1,q2⟩:=hT;exact⟨o,hk a o q1,q2⟩
 refine XQ (YD (Pj hT1 ?_));refine Yz (fun _=>?_) (fun _=>wpAny_pure ⟨Y8 aaV _,key _ c₀ _ st (fun b o _ e=>hk b o e) vq⟩);refine XQ (ZK ?_);refine XQ ?_;show wpAny _ _ (updateSeq S (·.push .none) >>= fun _=>updateSeq S (·.pop)) _ _ _;refine XQ (ZQ vq rfl ?_);have K7:=YX (Obj.mapSeq (·.push Value.none)) vq rfl;refine ZQ (hz:=by seq_fits) K7 rfl ?_;have PZ:=YX (Obj.mapSeq (·.pop)) K7 rfl;refine wpAny_pure ⟨Y8 aaV _,key _ _ _ ?_ (fun b o hb e=>?_) PZ⟩
 ·refine W.frame 0 _ _ st fun b hb o e=>?_;have E5:b≠S:=fun h=>hSf (h▸hb);exact(Ys _ _ (Y4 E5)).trans ((Ys _ _ (Y4 E5)).trans e)
 ·exact(Ys _ _ (Y4 hb)).trans ((Ys _ _ (Y4 hb)).trans (hk b o e))
def G5 {R:BBG->Shared->Prop}(hh:A.handled=none) (BV:kQ prog w s.heap a ns) (hn:ns.length<=sizeLine)
  (h:∀(h':Heap) (d':Drawn) (tk:Nat) (acc:AAH),(∀b o,s.heap.get? b=some o->h'.get? b=some o)->(∃ms,StrsAre acc.toList ms/\ms.Perm ns)->R acc.toList {s with heap:=h',toks:=tk,drawn:=d'}):
  wpAny (model prog w) A (collect (.ref a)) R E s:=by
 have alt:a < s.heap.objs.size:=by obtain⟨o,es,ep,t,h1,_⟩:=BV;exact XZ h1
 unfold collect;refine XQ (wpAny_runValue (YV entry_proto_collect' ?_));rw[YH PySem.F.plain_proto_collect _];show wpAny _ A.in1 (newList [] >>= fun l=>again (.builtin "list.__iadd__" ⟨[l,.ref a],[]⟩)) _ _ s;refine XQ (Yw ?_);refine wpAny_pure ⟨Y8 aa7 _,YV entry_list_iadd' ?_⟩;rw[YH aa7 _];have vq:(s.heap.push {cls:=.type "list",data:=.seq ([]:AAI).toArray}).get? s.heap.objs.size=some {cls:=.type "list",data:=.seq #[]}:=X6 _ rfl;show wpAny _ A.in1 (Builtin.List.listExtendWith (.ref s.heap.objs.size) (.ref a) (.ref s.heap.objs.size)) _ _ _;have key:=Jz (A:=A) (s:={s with heap:=s.heap.push {cls:=.type "list",data:=.seq ([]:AAI).toArray}})
  (R:=fun(q:Result) (s':Shared)=>∃(h':Heap) (d':Drawn) (tk:Nat) (acc':AAH) (c':Nat),q= .ok (.ret (.ref s.heap.objs.size))/\s'={s with heap:=h',toks:=tk,drawn:=d'}/\
   (∀b o,s.heap.get? b=some o->h'.get? b=some o)/\h'.get? s.heap.objs.size=some {cls:=.type "list",dict:=none,data:=.seq acc' c',slots:=#[]}/\∃ms,StrsAre acc'.toList ms/\ms.Perm ns)
  hh (BV.keep fun o e=>XS _ e) s.heap.objs.size (Nat.ne_of_gt alt) (.ref s.heap.objs.size) 0 vq
  (fun h' d' tk acc' c' hk hS' hacc=>⟨h',d',tk,acc',c',rfl,rfl,fun b o e=>hk b o (Yj (XZ e)) (XS _ e),hS',hacc⟩) hn
 refine YC key (fun fin s' x=>?_) fun e s' x=>?_
 ·cases fin with
  | done f=>
   obtain⟨h',d',tk,acc',c',e,rfl,hk,hS',hacc⟩:=x;cases e;show wpAny _ A (load s.heap.objs.size >>= _) _ _ _;refine XQ (wpAny_load hS' ?_);exact wpAny_pure (h h' d' tk acc' hk hacc)
  | again c₁=>
   refine⟨x.1,ZR x.2 fun q s₂ y=>?_⟩;obtain⟨h',d',tk,acc',c',rfl,rfl,hk,hS',hacc⟩:=y;show wpAny _ A (load s.heap.objs.size >>= _) _ _ _;refine XQ (wpAny_load hS' ?_);exact wpAny_pure (h h' d' tk acc' hk hacc)
 ·obtain⟨_,_,_,_,_,e',_⟩:=x;cases e'
def JC (hh:A.handled=none) (BV:kQ prog w s.heap a ns) (hn:ns.length < 64)
  (h:∀(h1 h':Heap) (d':Drawn) (tk n:Nat) (out:AAH) (ns':BBB),(∀b o,s.heap.get? b=some o->h1.get? b=some o)->(∀b o,h1.get? b=some o->h'.get? b=some o)->StrsAre out.toList ns'->ns'.Perm ns->sortedS ns'=true->
   h'.get? h1.objs.size=some (seqObj "list" out n)->Q (.ref h1.objs.size) {s with heap:=h',toks:=tk,drawn:=d'}):
  wpAny (model prog w) A (call (.builtin "sorted") [.ref a]) Q E s:=by
 refine call_function_entry kind_sorted plain_sorted entry_sorted (args_sorted1 _) ?_;unfold Builtin.«sorted»
 refine XQ (m:=checkCount "sorted" 1 1 _) (wpAny_pure ?_);refine XQ (G5 (A:=A.in1) hh BV (X7 (Zr hn) (by decide)) fun h' d' tk acc hk hh=>?_);obtain⟨ms,hm,hp⟩:=hh;have hl:acc.toList.length < 64:=by rw[hm.length,hp.length_eq];exact hn
 refine XQ (wpAny_newList ?_ (X7 (Zr hl) (by decide)));have N5:(h'.push (seqObj "list" acc.toList.toArray 0)).get? h'.objs.size=some (seqObj "list" acc.toList.toArray 0):=X6 _ rfl;show wpAny _ _ _ _ _ {s with heap:=h'.push (seqObj "list" acc.toList.toArray 0),toks:=tk,drawn:=d'};refine XQ (YD (Zb slot_list_sort ⟨_,N5,rfl⟩ entry_list_sort (list_sort_treeK strKind_oneLt N5 hm.keysOf (fun v₁ v₂ rest e=>keyKind_strs (by rw[<-e];exact hm)) hl fun st' b1 b2=>⟨_,rfl,?_⟩) (args_list_sort _)));obtain⟨ns',a1,a2,a3⟩:=sorted_out_str hm b1 b2;refine wpAny_pure ⟨_,rfl,?_⟩;obtain⟨e,he⟩:=sortedHeap_at (out:=(arrOf st').map (·.2)) N5;exact h _ _ d' tk e _ ns' hk (fun b o hb=>by
  have:=XZ hb;rw[sortedHeap_old (Yj this) (by rw[size_push'];exact aab this)];exact XS _ hb) a1 (a2.trans hp) a3 he
end
section
variable {prog:Program}{w:World}{A:Around}{R:Result->Shared->Prop}{I S:Addr}{fp wr:BBE}{n:Nat}{P:Nat->Value->Prop}{St:Nat->Heap->Prop}{kw:List (Str×Value)}
def kR:(toString "max" ++toString ".loop":String)="max.loop":=by decide
def Ej (W:Walks prog w A.in1 I fp wr n P St) (bt:Nat->Nat->Bool) (hcmp:CmpOf prog w A.in1 .Gt P bt) (hSf:S∉fp):∀(k j:Nat) (s:Shared) (vb:Value) (c:Nat),n - (j+1)=k->j+1<=n->St (j+1) s.heap->P (argBest bt j) vb->
  s.heap.get? S=some {cls:=.type "list",dict:=none,data:=.seq #[vb,vb] c,slots:=#[]}->
  (∀v h' tk,P (argBest bt (n - 1)) v->(∀b o,b∉wr->b≠S->s.heap.get? b=some o->h'.get? b=some o)->R (.ok (.ret v)) {s with heap:=h',toks:=tk})->
  codeAny (model prog w) A (.builtin "max.loop" ⟨[.ref I,.none,.ref S],kw⟩) R s:=by
 have NK:S∉wr:=fun h=>hSf (W.sub _ h);intro k
 induction k with
 | zero=>
  intro j s vb c hk hj hst hPb hS hR;obtain rfl:n=j+1:=by lia
  refine YV aaf ?_;rw[YH YJ _];show wpAny _ A.in1 (seqItems? (.ref S) >>= _) _ _ s;refine XQ (ZW hS rfl ?_);show wpAny _ A.in1 (tryCatch (pyNext (.ref I)) _ >>= _) _ _ s;refine XQ (Z2 (W.done s _ _ hst fun h' tk hk'=>?_));show wpAny _ A.in1 (updateSeq S (fun _=>#[]) >>= _) _ _ _;refine XQ (ZQ (hk' S _ NK hS) rfl (XQ (aaH (wpAny_pure ?_))));exact hR vb _ tk hPb fun b o E6 E5 e=>(Ys _ _ (Y4 E5)).trans (hk' b o E6 e)
 | succ k ih=>
  intro j s vb c hk hj hst hPb hS hR;have hlt:j+1 < n:=by lia
  refine YV aaf ?_;rw[YH YJ _];show wpAny _ A.in1 (seqItems? (.ref S) >>= _) _ _ s;refine XQ (ZW hS rfl ?_);show wpAny _ A.in1 (tryCatch (pyNext (.ref I)) _ >>= _) _ _ s;refine XQ (Z2 (W.item (j+1) s _ _ hlt hst fun v h' tk hP Eh hk'=>?_));have hS':=hk' S _ NK hS;show wpAny _ A.in1 (tryCatch (holding [v,v] (richCompare .Gt v vb >>= _)) _ >>= _) _ _ _;refine XQ (Z2 (YD (XQ (hcmp (j+1) (argBest bt j) v vb _ _ _ hP hPb ?_))));refine XQ (YD (Y5 ?_));refine XQ (aaH (wpAny_pure ?_));cases hb:bt (j+1) (argBest bt j) with
  | true=>
   simp only[if_true];refine XQ (ZQ hS' rfl (XQ (aaH ?_)));rw[kR];refine wpAny_pure ⟨Y8 YJ _,ih (j+1) _ v _ (by lia) hlt (W.frame _ _ _ Eh fun b Uj o e=>(Ys _ _ (fun h:S=b=>hSf (by rw[h];exact Uj))).trans e) (by simp only[argBest,hb,if_true];exact hP) (YX _ hS' rfl) fun v' h'' G6 hP' G7=>?_⟩;exact hR v' h'' G6 hP' fun b o E6 E5 e=>G7 b o E6 E5 ((Ys _ _ (Y4 E5)).trans (hk' b o E6 e))
  | false=>
   simp only[Zy,Zl];refine XQ (aaH ?_);rw[kR];exact wpAny_pure ⟨Y8 YJ _,ih (j+1) _ vb c (by lia) hlt Eh (by simp only[argBest,hb,Zy,Zl];exact hPb) hS' fun v' h'' G6 hP' G7=>hR v' h'' G6 hP' fun b o E6 E5 e=>G7 b o E6 E5 (hk' b o E6 e)⟩
def B9 {s:Shared}{c:Nat}{d:Value}{x:Str}(W:Walks prog w A.in1 I fp wr n P St) (bt:Nat->Nat->Bool) (hcmp:CmpOf prog w A.in1 .Gt P bt) (hSf:S∉fp) (hst:St 0 s.heap)
  (hS:s.heap.get? S=some {cls:=.type "list",dict:=none,data:=.seq #[] c,slots:=#[]})
  (hR:∀v h' tk,(n=0/\v=d\/0 < n/\P (argBest bt (n - 1)) v)->(∀b o,b∉wr->b≠S->s.heap.get? b=some o->h'.get? b=some o)->R (.ok (.ret v)) {s with heap:=h',toks:=tk}):
  codeAny (model prog w) A (.builtin "max.loop" ⟨[.ref I,.none,.ref S],[(x,d)]⟩) R s:=by
 have NK:S∉wr:=fun h=>hSf (W.sub _ h);refine YV aaf ?_;rw[YH YJ _];show wpAny _ A.in1 (seqItems? (.ref S) >>= _) _ _ s;refine XQ (ZW hS rfl ?_);show wpAny _ A.in1 (tryCatch (pyNext (.ref I)) _ >>= _) _ _ s;by_cases h0:n=0
 ·subst h0;refine XQ (Z2 (W.done s _ _ hst fun h' tk hk'=>?_));refine XQ (ZK (wpAny_pure ?_));exact hR d h' tk (.inl ⟨rfl,rfl⟩) fun b o E6 _ e=>hk' b o E6 e
 ·have hn:0 < n:=Nat.pos_of_ne_zero h0;refine XQ (Z2 (W.item 0 s _ _ hn hst fun v h' tk hP Eh hk'=>?_));have hS':=hk' S _ NK hS;show wpAny _ A.in1 (updateSeq S (fun _=>#[v,v]) >>= _) _ _ _;refine XQ (ZQ hS' rfl ?_);rw[kR];refine wpAny_pure ⟨Y8 YJ _,Ej W bt hcmp hSf _ 0 _ v _ rfl hn (W.frame _ _ _ Eh fun b Uj o e=>(Ys _ _ (fun h:S=b=>hSf (by rw[h];exact Uj))).trans e) hP (YX _ hS' rfl) fun v' h'' G6 hP' G7=>?_⟩;exact hR v' h'' G6 (.inr ⟨hn,hP'⟩) fun b o E6 E5 e=>G7 b o E6 E5 ((Ys _ _ (Y4 E5)).trans (hk' b o E6 e))
end
def Ek (a v:Value):argsOk "max" ⟨[a],[(Str.ofString "default",v)]⟩:=by unfold argsOk;kernel_rfl
def El (v:Value):Builtin.Builtins.bindParams "max" ["key","default"] 0 ⟨[],[(Str.ofString "default",v)]⟩=pure [none,some v]:=rfl
section
variable {prog:Program}{w:World}{A:Around}{E:AAB}{s:Shared}{l:Addr}{xs:Array (Int×Tok)}
def Em {d:Value}(hh:A.handled=none) (hl:s.heap.IsList l (intItems xs))
  (h:∀v h' tk,(xs.size=0/\v=d\/0 < xs.size/\(intItems xs)[argBest (fun i j=>decide (numAt xs i > numAt xs j)) (xs.size - 1)]? =some v)->(∀b o,s.heap.get? b=some o->h'.get? b=some o)->Q v {s with heap:=h',toks:=tk}):
  wpAny (model prog w) A (call (.builtin "max") [.ref l] [(Str.ofString "default",d)]) Q E s:=by
 refine wpAny_call (codeAny_call_builtin PySem.F.plain_max PySem.F.entry_max ?_);have go:wpAny (model prog w) A.in1 (Builtin.«max» ⟨[.ref l],[(Str.ofString "default",d)]⟩) (fun fin s'=>match fin with
   | .done f=>(match(Except.ok f:Result) with | .ok (.ret v)=>Q v s' | .ok _=>False | .error e=>E e s')
   | .again c'=>c'.quiet=true/\codeAny (model prog w) A c' (fun r s'=>match r with | .ok (.ret v)=>Q v s' | .ok _=>False | .error e=>E e s') s') E s:=by
  show wpAny _ A.in1 (Builtin.Builtins.bindParams "max" ["key","default"] 0 ⟨[],[(Str.ofString "default",d)]⟩ >>= _) _ _ s;refine XQ (wpAny_of_eq (El d) ?_);refine XQ (wpAny_pure ?_);refine XQ (iter_intList hl fun s₂ e st hfp hlI=>?_);subst e;refine XQ (Yw ?_);have W:=Walks.list (prog:=prog) (w:=w) (A:=A.in1) hh s.heap.objs.size l hlI (intItems xs);have hz:(intItems xs).size=xs.size:=by simp[intItems]
  rw[kR];refine wpAny_pure ⟨Y8 YJ _,B9 W _ (CmpOf.ints_gt (numAt xs) (fun _ _=>intItems_at)) (fun hm=>YS _ (hfp _ hm)) (W.frame _ _ _ st fun b _ o e=>XS _ e) (X6 _ rfl) fun v h' tk hP hk=>?_⟩;rw[hz] at hP;exact h v h' tk hP (old_kept fun b o hb e=>hk b o hb (Yj (XZ e)) (XS _ e))
 simp only[checkBuiltinCall,PySem.F.kind_max];cases Uk:Manifest.signature? "max" with
 | none=>exact wpAny_pure go
 | some sig=>
  have ha:=Ek (.ref l) d;simp only[argsOk,Uk] at ha;have h2:Bind.checkArgs "max" sig ⟨[.ref l],[(Str.ofString "default",d)]⟩=pure ():=ha;show wpAny _ A.in1 (Bind.checkArgs "max" sig ⟨[.ref l],[(Str.ofString "default",d)]⟩) _ _ s;rw[h2];exact wpAny_pure go
end
def ya (k:Int):List D->Option U
 | [.lst ds]=>(p7 ds).map fun bs=>.t (.int (if bs=[] then k else oM bs))
 | _=>none
def En {k:Int}{d:D}{u:U}(h:ya k [d]=some u):∃ds bs,d= .lst ds/\p7 ds=some bs/\u= .t (.int (if bs=[] then k else oM bs)):=by
 cases d with
 | lst ds=>obtain⟨bs,h1,h2⟩:=az (show(p7 ds).map _=some u from h);exact⟨ds,bs,rfl,h1,h2.symm⟩
 | _=>cases h
section
variable {X:Cx}{a:Expr}{pos p kp cp:Pos}{kk:Nat}{ga:GD}{k:Int}
def JF (hc:X.calm=true) (Ul:Gl X "max") (hm1:X.mg "max" =none) (ha:JD X a ga) (hs2:starEach [a] X.env=(false,eval a X.env) :: starEach [] X.env:=by rfl):
  JE X (.Call (.Name "max" p) [a] [⟨some (Str.ofString "default"),.Constant (.int k) kk cp,kp⟩] pos) (eP (ya k) (aa ga aA)):=⟨fun B=>by
 rintro pins s σ H Q I ⟨S,F,u,S',R,hg,q⟩;obtain⟨⟨dl,S1⟩,h1,hg⟩:=ah hg;obtain⟨w',h2,hg⟩:=az hg;cases hg;obtain⟨⟨d,S2⟩,h3,h1⟩:=ah h1;obtain⟨⟨dr,S3⟩,h4,h1⟩:=az h1;cases h4;cases h1;obtain⟨ds,bs,rfl,hb,rfl⟩:=En h2;refine Ze (qH I Ul hm1 aak ?_ (by decide) (by decide));refine callWith_kw (dw (cU (ha.h B) kE hs2 pos pins s σ H (fun vs H1=>∃v F1,vs=[v]/\Rel X.K B S2 σ F1 H1/\Step S S2 σ F H F1 H1/\Rep F1 v (.lst ds)) I ⟨S,F,_,S2,R,h3,fun v F1 H1 R1 st1 r1=>⟨v,F1,rfl,R1,st1,r1⟩⟩) ?_) (by rw[hs2];rfl) (by rw[hs2];rfl);rintro us s1 ⟨vs,H1,I1,r1,v,F1,rfl,R1,st1,rd⟩;obtain⟨u',rfl,ru⟩:=vals1 r1;refine kws_cons (dw (ow (i:=k) (j:=kk) (pos:=cp) pins s1 σ H1 (fun v H2=>v= .int k/\H2=H1) I1 ⟨rfl,rfl⟩) ?_);rintro dv s2 ⟨v2,H2,I2,W5,rfl,rfl⟩;obtain⟨t2,rfl⟩:=W5;refine kws_nil ?_;obtain⟨a',vs',rfl,fa,hla,xG⟩:=R1.sub.jy rd;obtain rfl:=uV xG hb;cases ru;obtain⟨its,rv,pl,hz⟩:=I2.list (.inl hla);have hi:IntsAre its.toArray.toList bs:=intsAre_of rv;obtain⟨ys,e⟩:=hi.allInts.items;have hns:bs=ys.toList.map (·.1):=by rw[<-hi.numsOf,<-nums_intItems,<-e]
 have hl:=pl.isList;have e':its.toArray=intItems ys:=by rw[<-e]
 rw[e'] at hl;have hlen:bs.length=ys.size:=by rw[hns,X3,Yr]
 refine Em (I2.ok.hd hc) hl fun v h' tk hv hk=>?_;have fin:∀m t,(if bs=[] then k else oM bs)=m->v= .int m t->EP X pins σ Q v {s2 with heap:=h',toks:=tk}:=fun m t e1 e2=>by
  subst e2;refine⟨.int m,_,I2.kept (t':=tk) hk,⟨t,rfl⟩,?_⟩;rw[<-e1];exact q _ F1 _ R1 st1 (.int _)
 rcases hv with⟨h0,rfl⟩ | ⟨h0,hv⟩
 ·have:bs=[]:=aav (hlen.trans h0);exact fin k _ (by rw[if_pos this]) rfl
 ·obtain⟨t,rfl⟩:=intItems_at hv;obtain⟨k1,k2⟩:=argBest_gt (numAt ys) (ys.size - 1);refine fin _ t ?_ rfl;rw[if_neg (fun z=>by rw[z] at hlen;simp at hlen;lia)];refine Jq ?_ fun a ha=>?_
  ·rw[hns,numAt_eq];exact getD_mem (by rw[X3,Yr];lia)
  ·rw[hns] at ha;obtain⟨j,hj,rfl⟩:=mem_getD ha;rw[X3,Yr] at hj;rw[<-numAt_eq];exact k2 j (by lia)⟩
end
def Ca (a b:Str):Prop:=¬b.cps.toList < a.cps.toList
noncomputable instance Q2 (a b:Str):Decidable (Ca a b):=inferInstanceAs (Decidable (¬b.cps.toList < a.cps.toList))
def yc {a b c:Str}(h1:Ca a b) (h2:Ca b c):Ca a c:=fun h=>h1 (List.lt_of_le_of_lt (List.not_lt.mp h2) h)
def G8 {a b:Str}(h1:Ca a b) (h2:Ca b a):a=b:=by
 have:=List.le_antisymm (List.not_lt.mp h1) (List.not_lt.mp h2);obtain⟨⟨x⟩⟩:=a;obtain⟨⟨y⟩⟩:=b;have:x=y:=this;rw[this]
theorem yf:∀(p:Str) (l:BBB),risingS p l=true->(p :: l).Pairwise Ca
 | p,[],_=>List.pairwise_singleton ..
 | p,x :: r,h=>by
  have h':(!ltCps x.cps.toList p.cps.toList && risingS x r)=true:=h;obtain⟨h1,h2⟩:=Y0.mp h';have ih:=yf x r h2;have px:Ca p x:=by
   rw[ltCps_eq] at h1;unfold Ca
   simpa using h1
  refine aaN.mpr ⟨fun y hy=>?_,ih⟩;rcases XT.mp hy with rfl | hy
  ·exact px
  ·exact yc px ((aaN.mp ih).1 y hy)
theorem Eo:∀{l:BBB},sortedS l=true->l.Pairwise Ca
 | [],_=>.nil
 | x :: r,h=>yf x r h
def AI {a b:BBB}(hp:a.Perm b) (ha:a.Pairwise Ca) (hb:b.Pairwise Ca):a=b:=hp.eq_of_pairwise (fun x y _ _ h1 h2=>G8 h1 h2) ha hb
def bU (ns:BBB):BBB:=(tW (fun i=>ns.getD i "") ns.length).mergeSort (fun a b=>decide (Ca a b))
def kT (ns:BBB):(bU ns).Perm (tW (fun i=>ns.getD i "") ns.length):=List.mergeSort_perm _ _
def Ep (ns:BBB):(bU ns).Pairwise Ca:=by
 have:=List.pairwise_mergeSort (le:=fun a b:Str=>decide (Ca a b)) (fun a b c h1 h2=>by simp only[YK] at *;exact yc h1 h2) (fun a b=>by
  simp only[ZN,YK];by_cases h:b.cps.toList < a.cps.toList
  ·exact .inr fun q=>List.lt_irrefl _ (List.lt_trans h q)
  ·exact .inl h) (tW (fun i=>ns.getD i "") ns.length)
 exact this.imp fun h=>by simpa using h
def yg :k∈bU ns↔k∈ns:=by
 rw[(kT ns).mem_iff,Dh];constructor
 ·rintro⟨j,hj,rfl⟩;rw[Yv,Yh hj];exact aaj hj
 ·intro h;obtain⟨j,hj,e⟩:=List.getElem_of_mem h;exact⟨j,hj,by rw[Yv,Yh hj];exact e⟩
def oN:List D->Option U
 | [.lst ds]=>(p9 ds).bind fun ns=>if ns.length < 64 then some (.m (.lst ((bU ns).map D.str))) else none
 | _=>none
def Cb {d:D}{u:U}(h:oN [d]=some u):∃ds ns,d= .lst ds/\p9 ds=some ns/\ns.length < 64/\u= .m (.lst ((bU ns).map D.str)):=by
 cases d with
 | lst ds=>
  obtain⟨ns,h1,h2⟩:=ah (show(p9 ds).bind _=some u from h);obtain⟨h3,h4⟩:=bw h2;exact⟨ds,ns,rfl,h1,h3,h4.symm⟩
 | _=>cases h
theorem yh:∀{ns:BBB}{its:AAI},Vals (ns.map V.str) its->∀(i:Nat) (v:Value),its[i]? =some v->∃t,v=Value.str (ns.getD i "") t
 | [],_,r,i,v,h=>by cases r;cases h
 | n :: ns,_,r,i,v,h=>by
  cases r with
  | cons q t=>
   obtain⟨t',rfl⟩:=q;cases i with
   | zero=>cases h;exact⟨t',rfl⟩
   | succ i=>exact yh t i v h
def Cc {l:AAI}(h:StrsAre l ns):Vals (ns.map V.str) l:=by
 induction h with
 | nil=>exact .nil
 | cons k tk _ ih=>exact .cons ⟨_,rfl⟩ ih
def MH {X:Cx}{pins:AAD}{σ:St}{H:Hp}{s:Shared}{h':Heap}{t':Nat}{d':Drawn}(I:Inv X pins σ H s) (k:∀b o,s.heap.get? b=some o->h'.get? b=some o):Inv X pins σ H {s with heap:=h',toks:=t',drawn:=d'}:=
 I.call (g':=s.gens) (ch:=[]) (Un.kept k) (I.hok.kept k) I.bare (fun _ z=>nomatch z)
section
variable {X:Cx}{a:Expr}{pos p p1 p2:Pos}{ga:GD}
def jA (hc:X.calm=true) (Ul:Gl X "sorted") (hm1:X.mg "sorted" =none) (Nt:Gl X "set") (hm2:X.mg "set" =none) (ha:JD X a ga)
  (hs1:starEach [.Call (.Name "set" p1) [a] [] p2] X.env=(false,eval (.Call (.Name "set" p1) [a] [] p2) X.env) :: starEach [] X.env:=by rfl)
  (hs2:starEach [a] X.env=(false,eval a X.env) :: starEach [] X.env:=by rfl):
  JE X (.Call (.Name "sorted" p) [.Call (.Name "set" p1) [a] [] p2] [] pos) (eP oN (aa ga aA)):=⟨fun B=>by
 rintro pins s σ H Q I ⟨S,F,u,S',R,hg,q⟩;obtain⟨⟨dl,S1⟩,h1,hg⟩:=ah hg;obtain⟨w',h2,hg⟩:=az hg;cases hg;obtain⟨⟨d,S2⟩,h3,h1⟩:=ah h1;obtain⟨⟨dr,S3⟩,h4,h1⟩:=az h1;cases h4;cases h1;obtain⟨ds,ns,rfl,h5,hl,rfl⟩:=Cb h2;refine Ze (qH I Ul hm1 PyProof.Rows.Boot.sorted ?_ (by decide) (by decide));refine aao ?_ hs1 rfl;rw[hs1];show wpAny _ _ (spliced ((false,eval (.Call (.Name "set" p1) [a] [] p2) X.env) :: backTo pos (starEach [] X.env))) _ _ s;refine YW ?_;refine Ze (qH I Nt hm2 PyProof.Rows.Boot.set ?_ (by decide) (by decide));refine aaM (dw (cU (ha.h B) kE hs2 p2 pins s σ H (fun vs H1=>∃v F1,vs=[v]/\Rel X.K B S2 σ F1 H1/\Step S S2 σ F H F1 H1/\Rep F1 v (.lst ds)) I ⟨S,F,_,S2,R,h3,fun v F1 H1 R1 st1 r1=>⟨v,F1,rfl,R1,st1,r1⟩⟩) ?_) hs2 rfl;rintro us s1 ⟨vs,H1,I1,r1,v,F1,rfl,R1,st1,rd⟩;obtain⟨u',rfl,ru⟩:=vals1 r1;obtain⟨a',vs',rfl,fa,hla,xG⟩:=R1.sub.jy rd;obtain rfl:=uW xG h5;cases ru;obtain⟨its,rv,pl,hz⟩:=I1.list (.inl hla);have hil:its.length=ns.length:=by have:=rv.length;simpa using this.symm
 refine Ei (k:=true) (ns:=ns) (I1.ok.hd hc) pl.isList (yh rv) (by rw[hil];unfold scanBound;lia) fun h' tk hS hk=>?_;rw[hil] at hS;refine ZE ?_;have hlen:(tW (fun i=>ns.getD i "") ns.length).length < 64:=Zf (zo _ _) hl;refine JC (I1.ok.hd hc) hS hlen fun g1 g2 d' VE n out ns' k1 k2 hi hp ho k3=>?_;have he:ns'=bU ns:=AI (hp.trans (kT ns).symm) (Eo ho) (Ep ns);subst he;have J:=MH (h':=g1) (t':=VE) (d':=d') I1 fun b o e=>k1 b o (hk b o (XZ e) e);have hp:=J.hok.fresh (XW _);have hv:Vals ((bU ns).map V.str) out.toList:=Cc hi;have n1:=gO.obj (F:=F1) hp (.lst ((bU ns).map V.str));have s4:=R1.sub.same n1.same;have hr:∀l:BBB,bh F1 (l.map V.str) (l.map D.str):=fun l=>by
  induction l with
  | nil=>exact .nil
  | cons x l ih=>exact .cons (.str x) ih
 have W6:((bU ns).map V.str).length<=sizeLine:=by
  rw[X3,(kT ns).length_eq];exact X7 (Zr hlen) (by decide)
 exact⟨.ref g1.objs.size,_,J.laid (a:=g1.objs.size) (o:=.lst ((bU ns).map V.str)) (h':=g2) (t':=VE) k2 (XW _) ⟨W6,out.toList,n,hv,by simpa using k3⟩,rfl,
  q _ F1 _ (R1.new n1 s4) (st1.trans n1.step) (Ai.F9 (u:=.m (.lst ((bU ns).map D.str))) R1 st1 ⟨_,rfl,hp,R1.sub.fresh hp,(bU ns).map V.str,aX,hr _⟩)⟩⟩
end
end L2
end
section
namespace L2
open PySem PySem.Spec PyProof.Rows
variable {j:Nat}{zj zk:Str}
section
variable {X:Cx}
def K8:V->List V->Hp->VK->Prop:=fun x vs H Q=>∃l xs y,x= .ref l/\vs=[.int 0,y]/\H l=some (.lst xs)/\xs.length < sizeLine/\Q .bN (upd H l (.lst (y :: xs)))
def JH:RW X "list.insert" K8:=by
 intro pins s σ H x vs v us Q I rx rv h;obtain⟨l,xs,y,rfl,rfl,hH,hz,q⟩:=h;cases rx;obtain⟨u0,u,rfl,r0,ru⟩:=vals2 rv;obtain⟨t,rfl⟩:=r0;obtain⟨z,its,n,r,hl,e⟩:=I.Ae hH;refine call_meets F.slot_list_insert ⟨_,e,rfl⟩ F.entry_list_insert (F.args_list_insert_3 _ _ _) (AutoSeq1.list_insert_list_int_val_1 l its.toArray n 0 t u (by decide) (by rw[XR];lia)) ⟨e,?_⟩;refine⟨.bN,_,I.IF (its':=u :: its) hH e ?_ (.cons ru r) ?_,rfl,q⟩
 ·simp
 ·rw[X8];lia
noncomputable def AJ:List D->MO->Option (D×MO)
 | [.int i,d],.lst ds=>if i=0/\ds.length < 100000 then some (.bN,.lst (d :: ds)) else none
 | _,_=>none
def JJ:Mc K8 AJ:=by
 intro F H a vs xs ds args res o' sb hH fa rs rx hw Q q;unfold AJ at hw;split at hw
 ·rename_i i d ds' e2;cases e2;split at hw
  ·rename_i hl;obtain⟨rfl,hl⟩:=hl;cases hw;cases rx with
   | cons r rr=>
    cases rr with
    | cons r2 rr=>
     cases rr;exact⟨a,vs,_,rfl,by rw[fZ r],hH,by rw[rs.length];exact X0 hl (by decide),q .bN _ .bN ⟨_,aX,.cons r2 rs⟩⟩
  ·cases hw
 ·cases hw
end
section
variable {K:AAA}{B:Base}{S S':SS}{σ:St}{F H:Hp}
def rA {u:U}{c a:Addr}(h:cg (S.set j (some u)) (σ.set j (some (.ref c))) a):a=c\/cg S σ a:=by
 obtain⟨i,w,h1,hm,h2⟩:=h;rcases get_set h1 with⟨rfl,_,_⟩ | ⟨ne,q⟩
 ·rcases get_set h2 with⟨_,z,_⟩ | ⟨ne,_⟩
  ·cases z;exact .inl rfl
  ·exact absurd rfl ne
 ·rw[X5 ne] at h2;exact .inr ⟨i,w,q,hm,h2⟩
def Rel.told {o o':MO}(R:Rel K B S σ F H) (h:S[j]? =some (some (.m o))) (k:∀a,σ[j]? =some (some (.ref a))->At F H a o->At F H a o'):Rel K B (S.set j (some (.m o'))) σ F H:=by
 have back:∀{i:Nat}{w:U},(S.set j (some (.m o')))[i]? =some (some w)->(j=i/\w= .m o')\/(j≠i/\S[i]? =some (some w)):=fun {i w} z=>by
  rcases get_set z with⟨e,q,_⟩ | q
  ·cases q;exact .inl ⟨e,rfl⟩
  ·exact .inr q
 have bk:∀{i:Nat}{w:U},(S.set j (some (.m o')))[i]? =some (some w)->∃w',S[i]? =some (some w')/\(dM w=true->dM w'=true)/\(∀o,w= .m o->∃o,w'= .m o)/\∀o,w= .b o->w'= .b o:=fun {i w} z=>by
  rcases back z with⟨rfl,rfl⟩ | ⟨_,q⟩
  ·exact⟨_,h,fun _=>rfl,fun _ _=>⟨_,rfl⟩,fun _ e=>by cases e⟩
  ·exact⟨w,q,fun z=>z,fun o e=>⟨o,e⟩,fun _ e=>e⟩
 refine⟨R.sub,by rw[YU];exact R.len,fun i w z=>?_,fun a b w1 w2 c h1 m1 h2 m2=>?_,fun i o2 a z=>?_,fun i o2 a z=>?_,fun i a z=>?_,R.ext⟩
 ·rcases back z with⟨rfl,rfl⟩ | ⟨_,q⟩
  ·obtain⟨v,g1,a,rfl,f,g2⟩:=R.rep j _ h;exact⟨_,g1,a,rfl,f,k a g1 g2⟩
  ·exact R.rep i w q
 ·obtain⟨OV,p1,q1,_⟩:=bk h1;obtain⟨OW,p2,q2,_⟩:=bk h2;exact R.BN a b OV OW c p1 (q1 m1) p2 (q2 m2)
 ·obtain⟨w',p1,_,p2,_⟩:=bk z;obtain⟨o3,rfl⟩:=p2 _ rfl;exact R.own i o3 a p1
 ·obtain⟨w',p1,_,_,p2⟩:=bk z;cases p2 _ rfl;exact R.bor i o2 a p1
 ·obtain⟨g1,o2,g2⟩:=R.par i a z;have ne:j≠i:=fun e=>by subst e;rw[h] at g2;cases g2
  exact⟨g1,o2,by rw[X5 ne];exact g2⟩
def Rel.toTree {ds:List D}(R:Rel K B S σ F H) (h:S[j]? =some (XN ds)):∃F' v,Rel K B (S.set j (XM (.lst ds))) σ F' H/\(∀b o,F b=some o->F' b=some o)/\σ[j]? =some (some v)/\Rep F' v (.lst ds):=by
 obtain⟨v,g1,_⟩:=R.rep j _ h;obtain⟨F',R',st,r⟩:=CY (v:=v) (u:=.v j) (d:=.lst ds) (S':=S.set j (XM (.lst ds))) R (Step.refl S σ F H) ⟨g1,_,h⟩ (by unfold fz;simp only[h]);exact⟨F',v,R',st.ext.le,g1,r⟩
end
def qh (i j k:Nat) (d0 d1:D) (c2 c3:Addr) (x y:List D) (S:SS):Option SS:=
 (mh j (.m (.lat c2 x)) S).bind fun S1=>(mh k (.m (.lat c3 y)) S1).bind fun S2=>mh i (.m (.gap [.inl d0,.inl d1,.inr c2,.inr c3])) S2
noncomputable def K9 (i j k:Nat) (S:SS):Option (D×SS):=match S[i]?,S[j]?,S[k]? with
 | some (some (.m (.gap [.inl d0,.inl d1,.inr c2,.inr c3]))),some (some (.m (.lat c x))),some (some (.m (.lat c' y)))=>
  if c=c2/\c'=c3/\i≠j/\i≠k/\j≠k then some (.lst [d0,d1,.lst x,.lst y],((S.set j (XM (.lst x))).set k (XM (.lst y))).set i (XM (.lst [d0,d1,.lst x,.lst y]))) else none
 | _,_,_=>none
section
variable {K:AAA}{B:Base}{S S':SS}{σ:St}{F H:Hp}{i j k:Nat}{d:D}
def Cd (R:Rel K B S σ F H) (h:K9 i j k S=some (d,S')):∃F' v,Rel K B S' σ F' H/\(∀b o,F b=some o->F' b=some o)/\σ[i]? =some (some v)/\Rep F' v d:=by
 unfold K9 at h;split at h
 ·rename_i d0 d1 c2 c3 c x c' y hi hj hk;obtain⟨⟨ec,W7,ij,ik,jk⟩,h2⟩:=j4 h;cases h2;subst ec;subst W7;obtain⟨vj,j1,aj,rfl,_,_,⟨rfl,_⟩,_⟩:=R.rep j _ hj;obtain⟨vk,k1,ak,rfl,_,_,⟨rfl,_⟩,_⟩:=R.rep k _ hk;have Ra:=R.told (o':=.lst x) hj fun a _ ⟨vs,⟨_,e⟩,r⟩=>⟨vs,e,r⟩
  have lj:=(XY.mp hj).1;obtain⟨F1,v1,R1,Nn,e1,r1⟩:=Ra.toTree (j:=j) (ds:=x) (Yk lj);rw[List.set_set] at R1;rw[j1] at e1;cases e1;have hk1:(S.set j (XM (.lst x)))[k]? =some (some (.m (.lat ak y))):=by rw[X5 jk];exact hk
  have Rb:=R1.told (o':=.lst y) hk1 fun a _ ⟨vs,⟨_,e⟩,r⟩=>⟨vs,e,r⟩
  have lk:=(XY.mp hk1).1;obtain⟨F2,v2,R2,JK,e2,r2⟩:=Rb.toTree (j:=k) (ds:=y) (Yk lk);rw[List.set_set] at R2;rw[k1] at e2;cases e2;have hi1:((S.set j (XM (.lst x))).set k (XM (.lst y)))[i]? =some (some (.m (.gap [.inl d0,.inl d1,.inr aj,.inr ak]))):=by rw[X5 (Y4 ik),X5 (Y4 ij)];exact hi
  have Rc:=R2.told (o':=.lst [d0,d1,.lst x,.lst y]) hi1 fun a _ ⟨vs,e,r⟩=>by
   cases r with
   | cons q0 r=>cases r with
    | cons q1 r=>cases r with
     | cons q2 r=>cases r with
      | cons q3 r=>
       cases r;cases q2;cases q3;exact⟨_,e,.cons q0 (.cons q1 (.cons (r1.le JK) (.cons r2 .nil)))⟩
  have li:=(XY.mp hi1).1;obtain⟨F3,v3,R3,W8,e3,r3⟩:=Rc.toTree (j:=i) (Yk li);rw[List.set_set] at R3;exact⟨F3,v3,R3,fun b o z=>W8 b o (JK b o (Nn b o z)),e3,r3⟩
 ·cases h
end
open Classical in
noncomputable def vt (f:Addr->Addr->Option Out):Option Out:=if h:∃r,∀c d,f c d=some r then some (Classical.choose h) else none
def AK {f:Addr->Addr->Option Out}{r:Out}(h:vt f=some r) (c d:Addr):f c d=some r:=by
 unfold vt at h;split at h
 ·rename_i hx;cases h;exact Zj hx c d
 ·cases h
def Er {f:Addr->Addr->Option Out}{r:Out}(h:∀c d,f c d=some r):vt f=some r:=by
 unfold vt;rw[dif_pos ⟨r,h⟩];have:=Zj (⟨r,h⟩:∃r,∀c d,f c d=some r) 0 0;rw[h 0 0] at this;exact congrArg some (Ym this).symm
def AL (i j k:Nat):Out->Option Out
 | .nx S=>(K9 i j k S).map fun p=>.nx p.2
 | .rt (.t d) S=>(K9 i j k S).map fun p=>.rt (.t d) p.2
 | _=>none
def AM (i j k:Nat) (g0 g1:GD) (g2 g3:GE) (gb:GS):GS:=fun S=>
 (g0 S).bind fun p0=>(g1 p0.2).bind fun p1=>(g2 p1.2).bind fun p2=>(g3 p2.2).bind fun p3=>match p2.1,p3.1 with
 | .m (.lst x),.m (.lst y)=>vt fun c d=>(qh i j k p0.1 p1.1 c d x y p3.2).bind fun S1=>(gb S1).bind (AL i j k)
 | _,_=>none
section
variable {K:AAA}{B:Base}{S S3:SS}{σ:St}{F H:Hp}{i j k:Nat}{g0 g1:GD}{g2 g3:GE}{d0 d1:D}{S0 S1 S2:SS}{x y:List D}{Nx:St->Hp->Prop}
def AN (R:Rel K B S σ F H) (e0:g0 S=some (d0,S0)) (e1:g1 S0=some (d1,S1)) (e2:g2 S1=some (.m (.lst x),S2)) (e3:g3 S2=some (.m (.lst y),S3)) (hex:∀c d,∃S4,qh i j k d0 d1 c d x y S3=some S4)
  (q:∀c d p F' H' S4,qh i j k d0 d1 c d x y S3=some S4->Rel K B S4 (((σ.set j (some (.ref c))).set k (some (.ref d))).set i (some (.ref p))) F' H'->(∀b o,F b=some o->F' b=some o)->Nx (σ.set i (some (.ref p))) H'):
  Ou (xu (tD K B g0) (xu (tD K B g1) (xu (tE K B g2) (xu (tE K B g3) Iq)))) σ H (fun v H1=>Nx (σ.set i (some v)) H1):=by
 refine⟨S,F,d0,S0,R,e0,fun v0 F0 H0 R0 SV r0=>⟨S0,F0,d1,S1,R0,e1,fun v1 F1 H1 R1 st1 r1=>⟨S1,F1,_,S2,R1,e2,fun v2 F2 H2 R2 st2 r2=>⟨S2,F2,_,S3,R2,e3,fun v3 F3 H3 R3 st3 r3=>?_⟩⟩⟩⟩;have w2:=r2.step st3;obtain⟨c2,rfl,_,f2,Q3,_,_⟩:=r2;obtain⟨ho2,hc2⟩:=Q3.has;obtain⟨Um,z,_,f2,Q3,n2,b2⟩:=w2;cases z;obtain⟨c3,rfl,o3,f3,Q0,n3,b3⟩:=r3;have ne:c3≠c2:=fun e=>by rw[e,hc2] at o3;cases o3
 show [v0,v1,V.ref c2,V.ref c3].length<=sizeLine/\∀p,H3 p=none->_;refine⟨by show 4<=_;decide,fun p hp=>?_⟩;obtain⟨S4,h4⟩:=hex c2 c3;have nw:gO F3 H3 F3 (upd H3 p (.lst [v0,v1,V.ref c2,V.ref c3])):=gO.obj hp _;have R4:=R3.new nw (R3.sub.same nw.same);have keep:∀o c,H3 c=some o->upd H3 p (.lst [v0,v1,V.ref c2,V.ref c3]) c=some o:=fun o c z=>nw.same c o z;have W9:¬cg S3 σ p:=fun m=>by obtain⟨o,ho⟩:=R3.has m;rw[hp] at ho;cases ho
 obtain⟨Xa,Uo⟩:=Q3.has;obtain⟨Xb,Up⟩:=Q0.has;have Xc:p≠c2:=fun e=>by rw[e,Uo] at hp;cases hp
 have Xd:p≠c3:=fun e=>by rw[e,Up] at hp;cases hp
 unfold qh at h4;have Xe:=h4;obtain⟨Sa,ha,h4⟩:=ah h4;obtain⟨Sb,hb,h4⟩:=ah h4;have at2:At F3 (upd H3 p (.lst [v0,v1,V.ref c2,V.ref c3])) c2 (.lat c2 x):=by obtain⟨vs,e,r⟩:=Q3;exact⟨vs,⟨rfl,keep _ _ e⟩,r⟩
 have Uq:At F3 (upd H3 p (.lst [v0,v1,V.ref c2,V.ref c3])) c3 (.lat c3 y):=by obtain⟨vs,e,r⟩:=Q0;exact⟨vs,⟨rfl,keep _ _ e⟩,r⟩
 have Ra:=R4.put ha (v:=.ref c2) ⟨c2,rfl,f2,at2,n2,b2⟩;have ea:=(qO ha).1;subst ea;have Rb:=Ra.put hb (v:=.ref c3) ⟨c3,rfl,f3,Uq,fun m=>(rA m).elim ne n3,b3⟩;have eb:=(qO hb).1;subst eb;have Rc:=Rb.put h4 (v:=.ref p) ⟨p,rfl,R3.sub.fresh hp,⟨_,aX,.cons ((r0.le st1.ext.le).le fun b o z=>st3.ext.le b o (st2.ext.le b o z)) (.cons (r1.le fun b o z=>st3.ext.le b o (st2.ext.le b o z)) (.cons rfl (.cons rfl .nil)))⟩,fun m=>(rA m).elim Xd fun m=>(rA m).elim Xc W9,none_of R3.ext.there hp⟩;exact q c2 c3 p F3 _ S4 Xe Rc fun b o z=>st3.ext.le b o (st2.ext.le b o (st1.ext.le b o (SV.ext.le b o z)))
def AO {N:BBB}{sc:Scope}{c d p:Addr}(hj:N[j]? =some zj) (hk:N[k]? =some zk) (lj:sc.names.lookup zj=none) (lk:sc.names.lookup zk=none):
  (((σ.set j (some (.ref c))).set k (some (.ref d))).set i (some (.ref p))).length=(σ.set i (some (V.ref p))).length/\∀(m:Nat) x,N[m]? =some x->wm sc x->(((σ.set j (some (.ref c))).set k (some (.ref d))).set i (some (.ref p)))[m]? =(σ.set i (some (V.ref p)))[m]?:=by
 refine⟨by simp only[YU],fun m x hm hv=>?_⟩;have nj:j≠m:=fun e=>by
  subst e;rw[hj] at hm;cases hm;rcases hv with z | z | z <;> (rw[lj] at z;cases z)
 have nk:k≠m:=fun e=>by
  subst e;rw[hk] at hm;cases hm;rcases hv with z | z | z <;> (rw[lk] at z;cases z)
 by_cases e:i=m
 ·subst e;by_cases hl:i < σ.length
  ·rw[Yk (by simpa using hl),Yk hl]
  ·rw[YO (by simpa using hl),YO (by simpa using hl)]
 ·rw[X5 e,X5 e,X5 nk,X5 nj]
end
section
variable {X:Cx}{e0 e1 e2 e3:Expr}{st2:Stmt}{body rest:BBH}{g0 g1:GD}{g2 g3:GE}{gb gr:GS}{i:Nat}{y:Str}{py lp spos:Pos}
def yi {k:Nat}{S:SS}{o:Out}(h:AM i j k g0 g1 g2 g3 gb S=some o):∃d0 S0 d1 S1 x S2 y S3,g0 S=some (d0,S0)/\g1 S0=some (d1,S1)/\g2 S1=some (.m (.lst x),S2)/\g3 S2=some (.m (.lst y),S3)/\∀c d,(qh i j k d0 d1 c d x y S3).bind (fun S1=>(gb S1).bind (AL i j k))=some o:=by
 obtain⟨⟨d0,S0⟩,h0,h⟩:=ah h;obtain⟨⟨d1,S1⟩,h1,h⟩:=ah h;obtain⟨⟨u2,S2⟩,h2,h⟩:=ah h;obtain⟨⟨u3,S3⟩,h3,h⟩:=ah h;cases u2 with
 | m o2=>cases o2 with
  | lst x=>cases u3 with
   | m o3=>cases o3 with
    | lst y=>exact⟨d0,S0,d1,S1,x,S2,y,S3,h0,h1,h2,h3,AK h⟩
    | _=>cases h
   | _=>cases h
  | _=>cases h
 | _=>cases h
def Di {B:Base}{k:Nat}{S:SS}{F:Hp}{D:Ends}{o o1:Out}(h:AL i j k o1=some o) (q:xF X.K B F D o):xF X.K B F D o1:=by
 cases o1 with
 | nx S1=>
  obtain⟨⟨d,S2⟩,h1,h⟩:=az h;subst h;intro σ' F' H' R le;obtain⟨F2,v,R2,JK,_⟩:=Cd R h1;exact q σ' F2 H' R2 fun b o z=>JK b o (le b o z)
 | rt u S1=>
  cases u with
  | t dd=>
   obtain⟨⟨d,S2⟩,h1,h⟩:=az (show(K9 i j k S1).map (fun p=>Out.rt (.t dd) p.2)=some o from h);subst h;intro v σ' F' H' R le r;obtain⟨F2,v2,R2,JK,_⟩:=Cd R h1;exact q v σ' F2 H' R2 (fun b o z=>JK b o (le b o z)) (Rep.le JK r)
  | _=>cases h
 | bk S1=>cases h
 | ct S1=>cases h
def MI (j k:Nat)(hN:X.N.Nodup) (hy:X.N[i]? =some y) (hx:Loc X.env.scope y) (h0:JD X e0 g0) (h1:JD X e1 g1) (h2:JE X e2 g2) (h3:JE X e3 g3) (hb:JB X body gb)
  (hj:X.N[j]? =some zj:=by rfl) (hk:X.N[k]? =some zk:=by rfl) (lj:X.env.scope.names.lookup zj=none:=by rfl) (lk:X.env.scope.names.lookup zk=none:=by rfl)
  (hs0:starEach [e0,e1,e2,e3] X.env=(false,eval e0 X.env) :: starEach [e1,e2,e3] X.env:=by rfl) (hs1:starEach [e1,e2,e3] X.env=(false,eval e1 X.env) :: starEach [e2,e3] X.env:=by rfl) (hs2:starEach [e2,e3] X.env=(false,eval e2 X.env) :: starEach [e3] X.env:=by rfl) (Nu:starEach [e3] X.env=(false,eval e3 X.env) :: starEach [] X.env:=by rfl)
  (hs:swapsWith (.List [e0,e1,e2,e3] lp) (some (.Name y py)) spos.line X.env=pure false:=by rfl) (hf:X.fn y=true\/X.env.scope.names.lookup y=some .local:=by first | exact .inl rfl | exact .inr rfl | assumption):
  JB X (.Assign [.Name y py] (.List [e0,e1,e2,e3] lp) spos :: body) (AM i j k g0 g1 g2 g3 gb):=⟨fun B=>by
 refine(pL (Br hN hy hx (Bw (cU (h0.h B) (cU (h1.h B) (cU (h2.h B) (cU (h3.h B) kE Nu) hs2) hs1) hs0)) hs hf) (hb.h B).gh).imp fun D σ H hh=>?_;obtain⟨S,F,o,R,h,q⟩:=hh;obtain⟨d0,S0,d1,S1,x,S2,y,S3,a0,a1,a2,a3,hall⟩:=yi h;refine AN (i:=i) (j:=j) (k:=k) (Nx:=Ub X (tO X.K B gb) D) R a0 a1 a2 a3 (fun c d=>(ah (hall c d)).imp fun S4 z=>z.1) fun c d p F' H' S4 h4 R4 le=>?_;have hc:=hall c d;rw[h4] at hc;obtain⟨o1,b1,b2⟩:=ah (show(gb S4).bind (AL i j k)=some o from hc);obtain⟨l,e⟩:=AO (σ:=σ) (i:=i) (c:=c) (d:=d) (p:=p) hj hk lj lk;exact⟨_,l,e,S4,F',o1,R4,b1,Di (S:=S4) b2 (q.mono le)⟩⟩
def JL (j k:Nat)(hN:X.N.Nodup) (hy:X.N[i]? =some y) (hx:Loc X.env.scope y) (h0:JD X e0 g0) (h1:JD X e1 g1) (h2:JE X e2 g2) (h3:JE X e3 g3) (hb:JS X st2 gb) (hr:JB X rest gr)
  (hj:X.N[j]? =some zj:=by rfl) (hk:X.N[k]? =some zk:=by rfl) (lj:X.env.scope.names.lookup zj=none:=by rfl) (lk:X.env.scope.names.lookup zk=none:=by rfl)
  (hs0:starEach [e0,e1,e2,e3] X.env=(false,eval e0 X.env) :: starEach [e1,e2,e3] X.env:=by rfl) (hs1:starEach [e1,e2,e3] X.env=(false,eval e1 X.env) :: starEach [e2,e3] X.env:=by rfl) (hs2:starEach [e2,e3] X.env=(false,eval e2 X.env) :: starEach [e3] X.env:=by rfl) (Nu:starEach [e3] X.env=(false,eval e3 X.env) :: starEach [] X.env:=by rfl)
  (hs:swapsWith (.List [e0,e1,e2,e3] lp) (some (.Name y py)) spos.line X.env=pure false:=by rfl) (hf:X.fn y=true\/X.env.scope.names.lookup y=some .local:=by first | exact .inl rfl | exact .inr rfl | assumption):
  JB X (.Assign [.Name y py] (.List [e0,e1,e2,e3] lp) spos :: st2 :: rest) (bf (AM i j k g0 g1 g2 g3 gb) gr):=⟨fun B=>by
 refine(pL (Br hN hy hx (Bw (cU (h0.h B) (cU (h1.h B) (cU (h2.h B) (cU (h3.h B) kE Nu) hs2) hs1) hs0)) hs hf) (pL (hb.h B) (hr.h B)).gh).imp fun D σ H hh=>?_;obtain⟨S,F,o,R,h,q⟩:=hh;obtain⟨o2,hg,h⟩:=ah h;obtain⟨d0,S0,d1,S1,x,S2,y,S3,a0,a1,a2,a3,hall⟩:=yi hg;refine AN (i:=i) (j:=j) (k:=k) (Nx:=Ub X (Ob (tO X.K B gb) (tO X.K B gr)) D) R a0 a1 a2 a3 (fun c d=>(ah (hall c d)).imp fun S4 z=>z.1) fun c d p F' H' S4 h4 R4 le=>?_;have hc:=hall c d;rw[h4] at hc;obtain⟨o1,b1,b2⟩:=ah (show(gb S4).bind (AL i j k)=some o2 from hc);obtain⟨l,e⟩:=AO (σ:=σ) (i:=i) (c:=c) (d:=d) (p:=p) hj hk lj lk;refine⟨_,l,e,S4,F',o1,R4,b1,Di (S:=S4) b2 ?_⟩;cases o2 with
 | nx S5=>exact fun σ' F2 H2 R' JK=>⟨S5,F2,o,R',h,q.mono fun b o z=>JK b o (le b o z)⟩
 | rt u S5=>cases h;exact q.mono le
 | bk S5=>cases h;exact q.mono le
 | ct S5=>cases h;exact q.mono le⟩
end
def zp (f:List D->Option U) (i j k:Nat):GD:=fun S=>(K9 i j k S).bind fun p=>match f [p.1] with
 | some (.t e)=>if nQ e=true then some (e,S) else none
 | _=>none
section
variable {X:Cx}{x y:Str}{p px pos:Pos}{f:List D->Option U}
def G9 {id:String}{i:Nat}(j k:Nat) (hc:jX X (.builtin id) (rP f)) (hg:Gl X y) (hm:X.mg y=none) (hb:bootBuiltins y=some (.builtin id)) (hn:y≠"__name__":=by decide) (hdb:BBT y:=by decide)
  (hN:X.N[i]? =some x:=by rfl) (hv:wm X.env.scope x:=by first | exact Or.inl rfl | exact Or.inr (Or.inl rfl) | exact Or.inr (Or.inr rfl))
  (hd:BBT x:=by decide) (hcd:BBU x:=by decide) (he:starEach [.Name x px] X.env=(false,eval (.Name x px) X.env) :: starEach [] X.env:=by rfl) (hpl:(backTo pos (starEach [] X.env)).any (·.1)=false:=by rfl):
  JD X (.Call (.Name y p) [.Name x px] [] pos) (zp f i j k):=⟨fun B=>(iR hc hg hm hb (cU (dF hN hv hd hcd) kE he) hn hdb he hpl).imp fun σ H Q hh=>by
 obtain⟨S,F,e,S',R,hg',q⟩:=hh;unfold zp at hg';obtain⟨⟨d,S1⟩,h1,hg'⟩:=ah hg';dsimp only at hg';split at hg'
 ·rename_i e' he';obtain⟨hfl,hg'⟩:=bw hg';cases hg';obtain⟨F1,v,R1,_,k1,k3⟩:=Cd R h1;refine⟨v,k1,F1,[d],_,R1.sub,.cons k3 .nil,he',fun v' F' H' n s' r'=>?_⟩;have n':gO F H F H':=⟨fun _ _ z=>z,n.same,fun _ _ _ z=>z⟩
  exact q v' F H' (R.new n' (R.sub.same n.same)) n'.step (Au hfl r')
 ·cases hg'⟩
end
end L2
end
section
namespace Sw
open PySem PySem.Spec PyProof.Rows L2
noncomputable def P0:Str:="abcdefghijklmnopqrstuvwxyz"
def Ce (y:Str):Bool:=!(Builtin.Str.occurrences P0 y 0 P0.length 1).isEmpty
noncomputable def signs (z:Str):BBB:=z.cps.toList.map fun c=>(⟨#[c]⟩:Str)
def Es (z:Str):(signs z).length=z.length:=by unfold signs;rw[X3];rfl
def Hf (z:Str):pS (eF (aE 0)) [XM (.str z)]=some ((signs z).map D.str,[XM (.str z)]):=by unfold signs;rw[List.map_map];rfl
def nameB:D->Bool
 | .str z=>decide (1<=z.length) && decide (z.length<=8) && (signs z).all Ce
 | _=>false
def mL {z:Str}(h:z.length<=20000):yY (.t (.str z))=some z.length:=by show(if z.length<=100000 then some z.length else none)=_;rw[if_pos (by lia)]
def nG:GS:=
 (bf (mj (Ga (wG (qB (Gu ["str"] (eF (aE 0))))) (Ga (qB (eF (eP L7 (aa (nN 0) (aa (eC (.int 1)) aA))))) (qB (eF (eP Nm (aa (nN 0) (aa (eC (.int 8)) aA))))))) (cy (eT (eC (.bl false)))) eG)
 (cy (eP Jf (aa (eF (sO [] (pS (eF (aE 0))) iu (eF (eP Gq (aa (eF (aE 0)) (aa (eC (.str "abcdefghijklmnopqrstuvwxyz")) aA)))))) aA))))
noncomputable def Hg:D->Nat
 | .str z=>z.length
 | _=>0
def sY:FM
 | [.t d]=>if Hg d<=20000 then some (.t (.bl (nameB d)),[]) else none
 | _=>none
def Hh:∀us r,sY us=some r->aJ 1 nG us=some r:=by
 intro us r h;unfold sY at h;split at h
 ·rename_i d;obtain⟨hb,rfl⟩:=bw h;cases d with
  | str z=>
   have hb:z.length<=20000:=hb;have mL:=mL hb;by_cases h1:(z.length:Int) < 1
   ·have h2:¬1<=z.length:=by lia
    simp[aJ,nG,nameB,d9,iB,gZ,mL,h1,h2]
   ·by_cases h3:(8:Int) < z.length
    ·have h2:¬z.length<=8:=by lia
     simp[aJ,nG,nameB,d9,iB,gZ,mL,h1,h2,h3]
    ·have h4:1<=z.length:=by lia
     have h5:z.length<=8:=by lia
     have h6:((signs z).map D.str).length<=100000:=by rw[X3,Es];lia
     have ei:=Hf z;generalize hx:signs z=xs at h6 ei;have e:=xX (cap:=[]) (g:=eF (eP Gq (aa (eF (aE 0)) (aa (eC (.str "abcdefghijklmnopqrstuvwxyz")) aA)))) (S:=[XM (.str z)]) (ts:=[]) rfl (fun d=>match d with | .str y=>.bl (Ce y) | _=>.bN) (xs.map D.str) [] (fun d hd=>by
      obtain⟨c,_,rfl⟩:=YZ.mp hd
      kernel_rfl)
     have e2:([]:List D)++((xs.map D.str).map fun d=>match d with | .str y=>D.bl (Ce y) | _=>.bN)=xs.map fun y=>D.bl (Ce y):=by rw[List.map_map];rfl
     have e3:=qX Ce xs;rw[e2] at e;generalize xs.map D.str=L at e ei h6;generalize (xs.map fun y=>D.bl (Ce y))=M at e e3;simp[aJ,nG,nameB,d9,iB,gZ,mL,h1,h3,h4,h5,ei,h6,e,e3,hx]
  | _=>kernel_rfl
 ·cases h
end Sw
end
section
namespace L2
open PySem PySem.Spec PyProof.Rows
section
variable (S:SS)(d:D)(i:Nat)(g ga gb gc:GD)(gA:GA)
@[simp] theorem Ur (ds:List D) (k:Int):SW [.lst ds,.int k]=if 0<=k/\k.toNat<=100000/\ds.length * k.toNat<=100000 then some (.m (.lst (List.replicate k.toNat ds).flatten)) else none:=rfl
@[simp] theorem NL (es ds:List D):dG [.lst es] (.lst ds)=if ds.length+es.length<=100000 then some (.bN,.lst (ds++es)) else none:=rfl
@[simp] theorem Q4 (x y:Int):O5 [.int x,.int y]=XO (if y < x then y else x):=rfl
end
end L2
namespace Sq
open PySem PySem.Spec PyProof.Rows L2 Sw
theorem Dj {bd:GB}{body:GS}:∀(ds:List D) (I:List D->SS->Prop) (S:SS),I ds S->(∀d r S,I (d :: r) S->∃S1 S2,bd d S=some S1/\body S1=some (.nx S2)/\I r S2)->∃S',loop bd body ds S=some (.nx S')/\I [] S'
 | [],I,S,h,_=>⟨S,rfl,h⟩
 | d :: ds,I,S,h,k=>by
  obtain⟨S1,S2,e1,e2,h2⟩:=k d ds S h;obtain⟨S',e,h'⟩:=Dj ds I S2 h2 k;refine⟨S',?_,h'⟩;show((bd d S).bind fun S1=>(body S1).bind _)=_;rw[e1,XX,e2,XX];exact e
def Cf (cap:BBJ) (q:GT) (g:GD) (d:D) (ds:List D) (S:SS) (acc:List D):d8 cap q g (d :: ds) S acc=(d8 cap q g [d] S acc).bind fun r=>d8 cap q g ds r.2 r.1:=by
 simp only[d8];cases iA S cap with
 | none=>rfl
 | some us=>
  simp only[XX];split
  ·cases bW S us with
   | none=>rfl
   | some ws=>
    simp only[XX];cases q (XM d :: ws.map some) with
    | none=>rfl
    | some p=>
     simp only[XX];split
     ·cases g p.2 with
      | none=>rfl
      | some r=>
       simp only[XX];cases aB (.t d :: ws) r.2 with
       | none=>rfl
       | some outs=>
        simp only[XX];cases wb us outs S with
        | none=>rfl
        | some S'=>rfl
     ·cases aB (.t d :: ws) p.2 with
      | none=>rfl
      | some outs=>
       simp only[XX];cases wb us outs S with
       | none=>rfl
       | some S'=>rfl
  ·rfl
def Hi {α:Type}{l:List α}{i:Int}{x:α}(h0:0<=i) (h:l[i.toNat]? =some x):dj l i=some x:=by
 have hl:=(XY.mp h).1;unfold dj yO;rw[if_pos h0,if_pos (by lia)];exact h
def MJ {α:Type}{l:List α}{i:Int}(h0:0<=i) (h1:i < l.length):∃x,dj l i=some x/\l[i.toNat]? =some x:=by
 have h:i.toNat < l.length:=by lia
 exact⟨l[i.toNat],Hi h0 (Yh h),Yh h⟩
def yj {gA:GA}{S S':SS}{j:Int}(h:gA S=some ([.int j],S')) (h1:j < 1000000) (h2:-1000000 < j):nT gA S=some (Bo 0 j.toNat,S'):=by
 unfold nT;rw[h];simp only[XX];rw[if_pos ⟨h1,h2⟩]
noncomputable abbrev fd (c i l:Int):MO:=.lst [.int c,.int i,.int l]
end Sq
end
section
namespace L2
open PySem PySem.Spec PyProof.Rows
@[simp] theorem Us (S:SS):Sx [] S=some S:=rfl
@[simp] theorem P1 (z:Str):nQ (.str z)=true:=rfl
@[simp] theorem P4 (b:Bool):nQ (.bl b)=true:=rfl
@[simp] theorem P5 (b:Int):nQ (.int b)=true:=rfl
@[simp] theorem PF (g:GD) (lo hi:Option GD) (S:SS):Qt g lo hi S=(g S).bind fun p=>(kh lo p.2).bind fun l=>(kh hi l.2).bind fun h=>(Jh p.1 l.1 h.1).map fun u=>(u,h.2):=rfl
@[simp] theorem NN (S:SS):kh none S=some (none,S):=rfl
@[simp] theorem NO (g:GD) (S:SS):kh (some g) S=(g S).bind fun p=>match p.1 with | .int i=>some (some i,p.2) | _=>none:=rfl
@[simp] theorem Jv (ds:List D) (lo hi:BBM):Jh (.tup ds) lo hi=XM (.tup (cutD ds lo hi)):=rfl
@[simp] theorem Jw (ds:List D) (lo hi:BBM):Jh (.lst ds) lo hi=XN (cutD ds lo hi):=rfl
def qi {bd:GB}{body:GS}(ds:List D) (I:Nat->SS->Prop) (S:SS) (h0:I 0 S) (hs:∀j d S,ds[j]? =some d->I j S->∃S1 S2,bd d S=some S1/\body S1=some (.nx S2)/\I (j+1) S2):∃S',loop bd body ds S=some (.nx S')/\I ds.length S':=by
 obtain⟨S',e,j,hr,hj,hI⟩:=Sq.Dj (bd:=bd) (body:=body) ds (fun r S=>∃j,ds.drop j=r/\j<=ds.length/\I j S) S ⟨0,rfl,YY _,h0⟩ (by
  rintro d r S ⟨j,hr,hj,hI⟩;have hlt:j < ds.length:=by
   have:=congrArg List.length hr;rw[Zt,X8] at this;lia
  rw[ZO hlt] at hr;injection hr with h1 h2
  obtain⟨S1,S2,e1,e2,h3⟩:=hs j d S (by rw[Yh hlt,h1]) hI;exact⟨S1,S2,e1,e2,j+1,h2,hlt,h3⟩)
 have:j=ds.length:=by
  have:=congrArg List.length hr;rw[Zt,Zz] at this;lia
 subst this;exact⟨S',e,hI⟩
def JM {n j:Nat}{d:D}(h:(Bo 0 n)[j]? =some d):j < n/\d= .int j:=by
 unfold Bo at h;rw[Yl] at h;cases e:(List.range n)[j]? with
 | none=>rw[e] at h;cases h
 | some k=>
  rw[e] at h;obtain⟨h1,h2⟩:=XY.mp e;rw[List.getElem_range] at h2;rw[aaa] at h1;subst h2;refine⟨h1,?_⟩;have:=Ym h;rw[<-this];show D.int (0+(j:Int))=_;rw[Int.zero_add]
theorem rB (bd:GB) (body:GS) (d:D) (ds:List D) (S:SS):loop bd body (d :: ds) S=(bd d S).bind fun S1=>(body S1).bind fun o=>match o with
  | .nx S2=>loop bd body ds S2
  | .ct S2=>loop bd body ds S2
  | .bk S2=>some (.nx S2)
  | .rt u S2=>some (.rt u S2):=rfl
end L2
end
section
namespace Ss
open PySem PySem.Spec PyProof.Rows L2 Sw
variable {x bd:D}{z:Str}{r:List D}{bs:BBB}{n room:Nat}{kvs:List (Key×D)}
@[simp] theorem Ut (kvs:AAG) (g:GD) (S:SS):Mi kvs g S=(g S).bind fun p=>match p.1 with | .str z=>(gB kvs z).map fun i=>(.int i,p.2) | _=>none:=rfl
@[simp] theorem NP (kvs:AAG) (g gd:GD) (S:SS):za kvs g gd S=(g S).bind fun p=>(gd p.2).bind fun q=>match p.1,q.1 with | .str z,.int j=>some (.int ((gB kvs z).getD j),q.2) | _,_=>none:=rfl
@[simp] theorem Uu (n:Bool) (zs:BBB) (g:GD) (S:SS):wM n zs g S=(g S).map fun p=>(.bl (n != inD p.1 (zs.map D.str)),p.2):=rfl
def Sm (d:D):Prop:=xE 20000 d/\bX d<=38
theorem AQ {n:Nat}:∀{ds:List D}{x:D},Fits n ds->x∈ds->xE n x
 | d :: ds,x,h,hx=>by
  rcases XT.mp hx with rfl | q
  ·exact h.1
  ·exact AQ h.2 q
def Sm.mem {ds:List D}(h:Sm (.tup ds))(hx:x∈ds):Sm x:=⟨AQ h.1.2 hx,by have:bF ds+1<=38:=h.2;have:=xK hx;lia⟩
def Sm.Hg {d:D}(h:Sm d):Hg d<=20000:=by
 cases d with
 | str z=>exact h.1
 | _=>exact YY _
def bq (a:D) (r:List D):dj (a :: r) 0=some a:=by
 unfold dj yO;rw[if_pos (by decide),if_pos (by simp only[X8];lia)];rfl
def bG (a b:D) (r:List D):dj (a :: b :: r) 1=some b:=by
 unfold dj yO;rw[if_pos (by decide),if_pos (by simp only[X8];lia)];rfl
def nH (a b c:D) (r:List D):dj (a :: b :: c :: r) 2=some c:=by
 unfold dj yO;rw[if_pos (by decide),if_pos (by simp only[X8];lia)];rfl
def rC (d:D) (l m:Int):mH [.t d,.t (.int l),.t (.int m)]=some (.t (.bl (fK d l m)),[]):=rfl
def ym (d:D) (l m:Int):mG [.t d,.t (.int l),.t (.int m)]=some (.t (.bl (fu d l m)),[]):=rfl
def vA {d:D}(h:Sm d):sY [.t d]=some (.t (.bl (nameB d)),[]):=by
 show(if Hg d<=20000 then _ else _)=_;rw[if_pos h.Hg]
def ur (x:D) (zs:BBB):Gq [x,.tup (zs.map D.str)]=XM (.bl (inD x (zs.map D.str))):=by
 have:bF (zs.map D.str)<=40:=by rw[L2.gf];decide
 cases x <;> simp[Gq,this]
noncomputable def jL:BBB:=["less","same","more"]
noncomputable def Hj:BBB:=["each","one"]
def gR (bs:BBB):D->Bool
 | .tup [a]=>kD a (.str "any")
 | .tup [a,b]=>if kD a (.str "name") then nameB b else inD a (jL.map D.str) && (fu b 0 9 || inD b (bs.map D.str))
 | _=>false
def bZ (rD:FM) (qj:FM) (rE:FM):GS:=
 (bf (mj (wG (qB (eF (aT rD (aU (eF (aE 0)) (aU (eC (.int 1)) (aU (eC (.int 2)) bx))))))) (cy (eT (eC (.bl false)))) eG)
 (bf (mj (qB (eF (eP sQ (aa (nN 0) (aa (eC (.int 1)) aA))))) (cy (eP sQ (aa (bJ 0 (eC (.int 0))) (aa (eC (.str "any")) aA)))) eG)
 (bf (mj (qB (eF (eP sQ (aa (bJ 0 (eC (.int 0))) (aa (eC (.str "name")) aA))))) (cy (aT qj (aU (bJ 0 (eC (.int 1))) bx))) eG)
 (cy (eT (eQ (ia (qB (eF (eP Gq (aa (bJ 0 (eC (.int 0))) (aa (eF (eP cF (aa (eC (.str "less")) (aa (eC (.str "same")) (aa (eC (.str "more")) aA))))) aA))))) (qB (eQ (Ga (qB (eF (aT rE (aU (bJ 0 (eC (.int 1))) (aU (eC (.int 0)) (aU (eC (.int 9)) bx)))))) (qB (eF (eP Gq (aa (bJ 0 (eC (.int 1))) (aa (eF (aE 1)) aA)))))))))))))))
def mO:FM:=aJ 2 (bZ mH sY mG)
def Hl:∀us r,mO us=some r->aJ 2 (bZ mH sY mG) us=some r:=fun _ _ h=>h
def JN {d:D}(h:Sm d) (bs:BBB):mO [.t d,.t (.tup (bs.map D.str))]=some (.t (.bl (gR bs d)),[]):=by
 have e1:=rC d 1 2;cases d with
 | tup ds=>
  match ds,h,e1 with
  | [],h,e1=>kernel_rfl
  | [a],h,e1=>
   have ha:=(h.mem (x:=a) (by simp)).2;have hd:bX a<=40:=by lia
   simp[mO,aJ,bZ,e1,fK,gR,aB,bq,hd]
  | [a,b],h,e1=>
   have ha:=(h.mem (x:=a) (by simp)).2;have hd:bX a<=40:=by lia
   have hb:=vA (h.mem (x:=b) (by simp));have w:=ym b 0 9;have i1:=ur a jL;have i2:=ur b bs;have tl:jL.map D.str=[.str "less",.str "same",.str "more"]:=rfl;rw[tl] at i1;cases q:kD a (.str "name") with
   | true=>simp[mO,aJ,bZ,e1,fK,gR,aB,bq,bG,hd,hb,q]
   | false=>
    cases q2:inD a [.str "less",.str "same",.str "more"] with
    | true=>
     rw[q2] at i1;cases q3:fu b 0 9 with
     | true=>simp[mO,aJ,bZ,e1,fK,gR,aB,bq,bG,hd,q,tl,i1,q2,w,q3]
     | false=>simp[mO,aJ,bZ,e1,fK,gR,aB,bq,bG,hd,q,tl,i1,q2,w,q3,i2]
    | false=>
     rw[q2] at i1;simp[mO,aJ,bZ,e1,fK,gR,aB,bq,bG,hd,q,tl,i1,q2]
  | a :: b :: c :: r,h,e1=>
   have:¬((r.length:Int)+1+1+1<=2):=by lia
   have e2:fK (.tup (a :: b :: c :: r)) 1 2=false:=by simp[fK,this]
   rw[e2] at e1;simp[mO,aJ,bZ,e1,gR,aB]
 | _=>kernel_rfl
noncomputable def Q5:List (Str×Int):=[("yes",1),("no",1),("now",2),("not",2),("both",3),("either",3),("next",2),("till",3),("within",3),("always",2),("some",2),("each",4),("one",4)]
noncomputable def Uv:List (Str×Int):=[("yes",1),("no",1),("now",2),("not",1),("both",1),("either",1),("next",1),("till",1),("within",2),("always",1),("some",1),("each",3),("one",3)]
def c8 (z:Str):Int:=(gB Q5 z).getD 0
def cK (z:Str):Nat:=((gB Uv z).getD 0).toNat
def bB (z:Str):Bool:=inD (.str z) (Hj.map D.str)
noncomputable def gT:BBB:=["yes","no","now","not","both","either","next","till","within","always","some","each","one"]
def zq {kvs:AAG}(h:z∉kvs.map (·.1)):gB kvs z=none:=by
 unfold gB;have:kvs.find? (fun p=>decide (p.1=z))=none:=List.find?_eq_none.mpr fun p hp q=>h (by rw[<-Z9 q];exact List.mem_map_of_mem hp);rw[this];rfl
def yp (h:z∉gT):c8 z=0:=by unfold c8;rw[zq (show z∉Q5.map (·.1) from h)];rfl
def sZ (h:c8 z≠0):z∈gT:=YA fun q=>h (yp q)
structure vB (z:Str):Prop where
 KZ:gB Uv z=some ((cK z:Nat):Int)
 s1:1<=cK z
 s4:(cK z:Int)<=c8 z
 l4:c8 z<=4
 few:c8 z - cK z<=2
def zu:∀z∈gT,vB z:=by
 intro z hz;simp only[gT,XT,Yi,YF] at hz;rcases hz with rfl | rfl | rfl | rfl | rfl | rfl | rfl | rfl | rfl | rfl | rfl | rfl | rfl <;> exact⟨by decide,by decide,by decide,by decide,by decide⟩
def oO:GS:=
 (cy (Qt (eF (aE 0)) (some (Mi [("yes",1),("no",1),("now",2),("not",1),("both",1),("either",1),("next",1),("till",1),("within",2),("always",1),("some",1),("each",3),("one",3)] (bJ 0 (eC (.int 0))))) none))
def gj:GS:=
 (bf (mj (qB (wM false ["each","one"] (bJ 0 (eC (.int 0))))) (cy (eP gD (aa (eF (aE 1)) (aa (eF (eP cF (aa (bJ 0 (eC (.int 2))) aA))) aA)))) eG)
 (cy (aE 1)))
def b8 (rD:FM) (vC:FM) (rE:FM) (qj:FM):GS:=
 (bf (mj (Ga (wG (qB (eF (aT rD (aU (eF (aE 0)) (aU (eC (.int 1)) (aU (eC (.int 4)) bx))))))) (wG (qB (Gu ["str"] (bJ 0 (eC (.int 0))))))) (cy (eT (eC (.bl false)))) eG)
 (bf (cP 2 (eT (bJ 0 (eC (.int 0)))))
 (bf (mj (qB (eF (eP Gp (aa (za [("yes",1),("no",1),("now",2),("not",2),("both",3),("either",3),("next",2),("till",3),("within",3),("always",2),("some",2),("each",4),("one",4)] (eF (aE 2)) (eC (.int 0))) (aa (nN 0) aA))))) (cy (eT (eC (.bl false)))) eG)
 (bf (mj (qB (eF (eP sQ (aa (eF (aE 2)) (aa (eC (.str "now")) aA))))) (cy (aT vC (aU (bJ 0 (eC (.int 1))) (aU (eF (aE 1)) bx)))) eG)
 (bf (mj (qB (eF (eP sQ (aa (eF (aE 2)) (aa (eC (.str "within")) aA))))) (cy (aT rE (aU (bJ 0 (eC (.int 1))) (aU (eC (.int 0)) (aU (eC (.int 5)) bx))))) eG)
 (bf (mj (qB (wM false ["each","one"] (eF (aE 2)))) (cy (eT (eQ (ia (qB (eF (aT qj (aU (bJ 0 (eC (.int 1))) bx)))) (qB (eF (aT qj (aU (bJ 0 (eC (.int 2))) bx)))))))) eG)
 (cy (eT (eC (.bl true))))))))))
def fM:FM:=aJ 1 oO
def Et:∀us r,fM us=some r->aJ 1 oO us=some r:=fun _ _ h=>h
def Ho (ds:List D) (k:Nat):L2.cutD ds (some (k:Int)) none=ds.drop k:=by
 unfold L2.cutD;rw[HT.FG,HT.CO];by_cases h:k<=ds.length
 ·rw[Nat.min_eq_left h,aae (by rw[Zt];lia)]
 ·rw[Nat.min_eq_right (by lia),List.drop_of_length_le (XW _),List.drop_of_length_le (by lia),List.take_nil]
def vD (h:vB z):fM [.t (.tup (.str z :: r))]=some (.t (.tup ((.str z :: r).drop (cK z))),[]):=by
 have e:=h.KZ;unfold Uv at e;have c:=Ho (.str z :: r) (cK z);simp[fM,aJ,oO,bq,e,c,aB]
def i8:FM:=aJ 2 gj
def Eu:∀us r,i8 us=some r->aJ 2 gj us=some r:=fun _ _ h=>h
def gU (h:bB z=false):i8 [.t (.tup (.str z :: r)),.t bd]=some (.t bd,[]):=by
 unfold bB Hj at h;simp only[Yd,Ye] at h;simp[i8,aJ,gj,bq,h,aB]
def rF {a b:D}{bs:List D}(h:bB z=true) (hl:bs.length<=1000):i8 [.t (.tup (.str z :: a :: b :: r)),.t (.tup bs)]=some (.t (.tup (bs++[b])),[]):=by
 unfold bB Hj at h;simp only[Yd,Ye] at h;have e:bs.length+1<=100000:=by lia
 simp[i8,aJ,gj,bq,nH,h,aB,e]
def b9 (bs:BBB) (z:Str) (r:List D):Bool:=
 if c8 z=(r.length:Int)+1 then
  (match r with
  | []=>true
  | a :: r2=>if z="now" then gR bs a else if z="within" then fu a 0 5 else if bB z then(match r2 with | b :: _=>nameB a && nameB b | []=>false) else true)
 else false
def kU (bs:BBB):D->Bool
 | .tup (.str z :: r)=>b9 bs z r
 | _=>false
def cZ:FM:=aJ 3 (b8 mH mO mG sY)
def Cg:∀us r,cZ us=some r->aJ 3 (b8 mH mO mG sY) us=some r:=fun _ _ h=>h
def JP (z:Str):c8 z<=4:=by
 by_cases h:c8 z=0
 ·lia
 ·exact(zu z (sZ h)).l4
def Ew {d:D}(h:∀z r,d≠.tup (.str z :: r)):cZ [.t d,.t bd]=some (.t (.bl false),[]):=by
 have e1:=rC d 1 4;cases d with
 | tup ds=>
  cases ds with
  | nil=>kernel_rfl
  | cons a r=>
   have e2:gZ a=false:=by
    cases a with
    | str z=>exact absurd rfl (h z r)
    | _=>rfl
   cases q:fK (.tup (a :: r)) 1 4 with
   | false=>rw[q] at e1;simp[cZ,aJ,b8,e1,aB]
   | true=>rw[q] at e1;simp[cZ,aJ,b8,e1,aB,bq,d9,iB,e2]
 | _=>kernel_rfl
def gH (z:Str):gZ (.str z)=true:=rfl
def Ex {d:D}(h:Sm d) (bs:BBB):cZ [.t d,.t (.tup (bs.map D.str))]=some (.t (.bl (kU bs d)),[]):=by
 by_cases hz:∃z r,d= .tup (.str z :: r)
 ·obtain⟨z,r,rfl⟩:=hz;have e1:=rC (.tup (.str z :: r)) 1 4;have hl:c8 z=(gB Q5 z).getD 0:=rfl;unfold Q5 at hl;have dz:bX (.str z)=0:=rfl;have es:kU bs (.tup (.str z :: r))=b9 bs z r:=rfl;rw[es];by_cases q:(r.length:Int)+1<=4
  ·have e2:fK (.tup (.str z :: r)) 1 4=true:=by
    have:(1:Int)<=(r.length:Int)+1:=by lia
    simp[fK,q,this]
   rw[e2] at e1;unfold b9;by_cases c:c8 z=(r.length:Int)+1
   ·rw[if_pos c];rw[hl] at c;cases r with
    | nil=>
     by_cases n1:z="now"
     ·subst n1;exact absurd c (by decide)
     ·by_cases n2:z="within"
      ·subst n2;exact absurd c (by decide)
      ·cases n3:bB z with
       | true=>
        exfalso;simp only[bB,Hj,inD,Yd,Ye,Y7,List.any_nil,aag,ze,ZN,beq_iff_eq] at n3;rcases n3 with rfl | rfl <;> exact absurd c (by decide)
       | false=>
        unfold bB Hj at n3;simp only[Yd,Ye] at n3;simp at c;simp[cZ,aJ,b8,e1,aB,bq,d9,iB,gH,c,n1,n2,n3]
    | cons a r2=>
     have ha:=h.mem (x:=a) (by simp);by_cases n1:z="now"
     ·have t:=JN ha bs;simp at c;simp[cZ,aJ,b8,e1,aB,bq,bG,d9,iB,gH,c,eq_true n1,t]
     ·by_cases n2:z="within"
      ·have w:=ym a 0 5;simp at c;simp[cZ,aJ,b8,e1,aB,bq,bG,d9,iB,gH,c,n1,eq_true n2,w]
      ·cases n3:bB z with
       | true=>
        have n4:=n3;unfold bB Hj at n4;simp only[Yd,Ye] at n4;have na:=vA ha;cases r2 with
        | nil=>
         exfalso;simp only[Zi] at c;simp only[bB,Hj,inD,Yd,Ye,Y7,List.any_nil,aag,ze,ZN,beq_iff_eq] at n3;rcases n3 with rfl | rfl <;> exact absurd c (by decide)
        | cons b r3=>
         have nb:=vA (h.mem (x:=b) (by simp));simp at c;cases qa:nameB a with
         | true=>rw[qa] at na;simp[cZ,aJ,b8,e1,aB,bq,bG,nH,d9,iB,gH,c,n1,n2,n4,na,nb,qa]
         | false=>rw[qa] at na;simp[cZ,aJ,b8,e1,aB,bq,bG,nH,d9,iB,gH,c,n1,n2,n4,na,nb,qa]
       | false=>
        have n4:=n3;unfold bB Hj at n4;simp only[Yd,Ye] at n4;simp at c;simp[cZ,aJ,b8,e1,aB,bq,bG,d9,iB,gH,c,n1,n2,n4]
   ·rw[if_neg c];rw[hl] at c;simp[cZ,aJ,b8,e1,aB,bq,d9,iB,gH,c]
  ·have e2:fK (.tup (.str z :: r)) 1 4=false:=by simp[fK,q]
   rw[e2] at e1;have c:¬c8 z=(r.length:Int)+1:=by have:=JP z;lia
   unfold b9;rw[if_neg c];simp[cZ,aJ,b8,e1,aB]
 ·have:kU bs d=false:=by
   unfold kU;split
   ·rename_i z r;exact absurd ⟨z,r,rfl⟩ hz
   ·rfl
  rw[this];exact Ew fun z r e=>hz ⟨z,r,e⟩
noncomputable def strOf:D->Str
 | .str z=>z
 | _=>""
def cA (bs:BBB) (z:Str) (r:List D):BBB:=if bB z=true then bs++[strOf (r.getD 1 .bN)] else bs
def aV (z:Str) (r:List D):List D:=(.str z :: r).drop (cK z)
def bL:Nat->BBB->D->Bool
 | 0,_,_=>false
 | n+1,bs,.tup (.str z :: r)=>b9 bs z r && (aV z r).all (bL n (cA bs z r))
 | _+1,_,_=>false
def fQ (Ci:FM) (fE:FM) (c9:FM) (oR:FM):GS:=
 (bf (mj (Ga (qB (eF (eP sQ (aa (eF (aE 2)) (aa (eC (.int 0)) aA))))) (wG (qB (eF (aT Ci (aU (eF (aE 0)) (aU (eF (aE 1)) bx))))))) (cy (eT (eC (.bl false)))) eG)
 (bf (cP 3 (aT fE (aU (eF (aE 0)) (aU (eF (aE 1)) bx))))
 (cy (eP Jf (aa (eF (sO [3,2] (pS (eF (aT c9 (aU (eF (aE 0)) bx)))) iu (eF (aT oR (aU (eF (aE 0)) (aU (eF (aE 1)) (aU (eF (eP nL (aa (eF (aE 2)) (aa (eC (.int 1)) aA)))) bx))))))) aA)))))
def nY:Nat->FM
 | 0=>fun _=>none
 | j+1=>aJ 4 (fQ cZ i8 fM (nY j))
def Hq (j:Nat):∀us r,nY (j+1) us=some r->aJ 4 (fQ cZ i8 fM (nY j)) us=some r:=fun _ _ h=>h
def i9 (h:b9 bs z r=true):c8 z=(r.length:Int)+1/\vB z/\z∈gT:=by
 unfold b9 at h;split at h
 ·rename_i c;have:=sZ (z:=z) (by lia);exact⟨c,zu z this,this⟩
 ·cases h
def kj {d:D}(h:nameB d=true):∃y,d= .str y:=by
 cases d with
 | str z=>exact⟨z,rfl⟩
 | _=>cases h
def rG (h:bB z=true):z="each"\/z="one":=by
 simp only[bB,Hj,inD,Yd,Ye,Y7,List.any_nil,aag,ze,ZN,beq_iff_eq] at h;rcases h with h | h
 ·exact .inl h.symm
 ·exact .inr h.symm
def Ey (h:b9 bs z r=true) (hb:bB z=true):∃a y p,r=[a,.str y,p]/\nameB a=true/\nameB (.str y)=true:=by
 obtain⟨c,_,_⟩:=i9 h;have hl:c8 z=4:=by rcases rG hb with rfl | rfl <;> decide
 have n1:¬z="now":=by rcases rG hb with rfl | rfl <;> decide
 have n2:¬z="within":=by rcases rG hb with rfl | rfl <;> decide
 unfold b9 at h;rw[if_pos c] at h
 match r,c,h with
 | [],c,h=>simp at c;lia
 | [a],c,h=>simp at c;lia
 | [a,b],c,h=>simp at c;lia
 | [a,b,p],c,h=>
  simp only[n1,n2,Zl,hb,if_true,Yo] at h;obtain⟨y,rfl⟩:=kj h.2;exact⟨a,y,p,rfl,h.1,h.2⟩
 | a :: b :: p :: q :: t,c,h=>simp only[X8] at c;lia
def Hr (h:b9 bs z r=true) (hl:bs.length<=1000):i8 [.t (.tup (.str z :: r)),.t (.tup (bs.map D.str))]=some (.t (.tup ((cA bs z r).map D.str)),[]):=by
 cases hb:bB z with
 | false=>
  rw[gU hb];unfold cA;rw[hb];rfl
 | true=>
  obtain⟨a,y,p,rfl,_,_⟩:=Ey h hb;rw[rF hb (by rw[X3];exact hl)];unfold cA;rw[if_pos hb,YN];rfl
def Ez (bs:BBB) (z:Str) (r:List D):(cA bs z r).length<=bs.length+1:=by
 unfold cA;split
 ·rw[X4];exact XW _
 ·lia
def EA (h:vB z) (hx:x∈aV z r):x∈r:=by
 unfold aV at hx;obtain⟨k,hk⟩:∃k,cK z=k+1:=⟨cK z - 1,by have:=h.s1;lia⟩
 rw[hk,List.drop_succ_cons] at hx;exact List.mem_of_mem_drop hx
def rH (h:vB z) (c:c8 z=(r.length:Int)+1):(aV z r).length<=2:=by
 unfold aV;rw[Zt,X8];have:=h.few;lia
def Cj {f1 f2 f3 f4:FM}{d:D}{m:Int}(m0:m≠0) (e1:f1 [.t d,.t bd]=some (.t (.bl false),[])):aJ 4 (fQ f1 f2 f3 f4) [.t d,.t bd,.t (.int m)]=some (.t (.bl false),[]):=by
 simp[aJ,fQ,aB,m0,e1]
def EB {f1 f2 f3 f4:FM}{d ib:D}{m:Int}{pl ql:List D}{qs:List Bool}{b:Bool}(m0:m≠0) (e1:f1 [.t d,.t bd]=some (.t (.bl true),[])) (e2:f2 [.t d,.t bd]=some (.t ib,[])) (e3:f3 [.t d]=some (.t (.tup pl),[]))
  (e4:d8 [3,2] iu (eF (aT f4 (aU (eF (aE 0)) (aU (eF (aE 1)) (aU (eF (eP nL (aa (eF (aE 2)) (aa (eC (.int 1)) aA)))) bx))))) pl [XM d,XM bd,XO m,XM ib] []=some (ql,[XM d,XM bd,XO m,XM ib])) (e5:pl.length<=100000) (e6:kM ql=some qs) (e7:qs.all id=b):aJ 4 (fQ f1 f2 f3 f4) [.t d,.t bd,.t (.int m)]=some (.t (.bl b),[]):=by
 simp[aJ,fQ,aB,m0,e1,e2,cJ,e3,e4,e5,e6,<-e7]
theorem Dk:∀(n j:Nat),n<=j->∀(d:D) (bs:BBB),Sm d->bs.length+n<=100->nY (j+1) [.t d,.t (.tup (bs.map D.str)),.t (.int (n:Int))]=some (.t (.bl (bL n bs d)),[])
 | 0,j,_,d,bs,_,_=>by kernel_rfl
 | n+1,0,h,_,_,_,_=>by lia
 | n+1,j+1,hj,d,bs,hd,hb=>by
  have e1:=Ex hd bs;have n0:¬((n:Int)+1=0):=by lia
  have ef:bL (n+1) bs d=(kU bs d && (match d with | .tup (.str z :: r)=>(aV z r).all (bL n (cA bs z r)) | _=>false)):=by
   cases d with
   | tup ds=>
    cases ds with
    | nil=>rfl
    | cons a r=>cases a <;> rfl
   | _=>rfl
  rw[ef];cases q:kU bs d with
  | false=>
   rw[q] at e1;exact Cj (by lia) e1
  | true=>
   rw[q] at e1;obtain⟨z,r,rfl⟩:∃z r,d= .tup (.str z :: r):=by
    unfold kU at q;split at q
    ·exact⟨_,_,rfl⟩
    ·cases q
   have hs:b9 bs z r=true:=q;obtain⟨c,hh,_⟩:=i9 hs;have e2:=Hr hs (by lia);have e3:=vD (r:=r) hh;have il:=Ez bs z r;have e4:=xX (cap:=[3,2]) (g:=eF (aT (nY (j+1)) (aU (eF (aE 0)) (aU (eF (aE 1)) (aU (eF (eP nL (aa (eF (aE 2)) (aa (eC (.int 1)) aA)))) bx))))) (S:=[XM (.tup (.str z :: r)),XM (.tup (bs.map D.str)),XO ((n+1:Nat):Int),XM (.tup ((cA bs z r).map D.str))])
    (ts:=[.tup ((cA bs z r).map D.str),.int ((n+1:Nat):Int)]) rfl (fun p=>.bl (bL n (cA bs z r) p)) (aV z r) [] (by
     intro p hp;have ih:=Dk n j (by lia) p (cA bs z r) (hd.mem (Yc _ (EA hh hp))) (by lia);have en:((n+1:Nat):Int) - 1=(n:Int):=by lia
     simp[-Int.natCast_add,en,ih])
   have e5:(aV z r).length<=100000:=by have:=rH hh c;lia
   have e6:=qX (bL n (cA bs z r)) (aV z r);rw[ZD] at e4;have e7:((aV z r).map (bL n (cA bs z r))).all id=(aV z r).all (bL n (cA bs z r)):=by rw[List.all_map];rfl
   exact EB (by lia) e1 e2 e3 e4 e5 e6 (by rw[e7,Bool.true_and])
def dO:Nat->D->List D
 | 0,_=>[]
 | n+1,.tup (.str z :: r)=>.tup (.str z :: r) :: (aV z r).flatMap (dO n)
 | _+1,d=>[d]
def rJ (c9:FM) (gm:FM):GS:=
 (gQ (eT (eM 1 dG (aa (eF (aT gm (aU (eF (aE 2)) bx))) aA))))
def vE (c9:FM) (gm:FM):GS:=
 (bf (cP 1 (eP cG (aa (eF (aE 0)) aA)))
 (bf (tT (bName 2) (pS (eF (aT c9 (aU (eF (aE 0)) bx)))) (rJ c9 gm))
 (cy (aE 1))))
def qk:Nat->FM
 | 0=>fun _=>none
 | j+1=>aJ 3 (vE fM (qk j))
def JQ (j:Nat):∀us r,qk (j+1) us=some r->aJ 3 (vE fM (qk j)) us=some r:=fun _ _ h=>h
theorem vF {f:D->List D}{k:Nat}:∀{ps:List D},(∀p∈ps,(f p).length<=k)->(ps.flatMap f).length<=k * ps.length
 | [],_=>YY _
 | p :: ps,h=>by
  have ih:=vF (f:=f) (k:=k) (ps:=ps) fun q hq=>h q (Yc _ hq);have h1:=h p Yp;rw[List.flatMap_cons,X4,X8,Nat.mul_succ];lia
def kW {d:D}(h:bL (n+1) bs d=true):∃z r,d= .tup (.str z :: r)/\b9 bs z r=true/\∀p∈aV z r,bL n (cA bs z r) p=true:=by
 cases d with
 | tup ds=>
  cases ds with
  | nil=>cases h
  | cons a r=>
   cases a with
   | str z=>
    obtain⟨h1,h2⟩:=Y0.mp (show(b9 bs z r && (aV z r).all (bL n (cA bs z r)))=true from h);exact⟨z,r,rfl,h1,fun p hp=>Zu.mp h2 p hp⟩
   | _=>cases h
 | _=>cases h
theorem uu:∀{n:Nat}{bs:BBB}{d:D},bL n bs d=true->(dO n d).length<=3 ^ n
 | 0,_,_,h=>by cases h
 | n+1,bs,d,h=>by
  obtain⟨z,r,rfl,h1,h2⟩:=kW h;obtain⟨c,hh,_⟩:=i9 h1;have:=vF (f:=dO n) (k:=3 ^ n) (ps:=aV z r) fun p hp=>uu (h2 p hp);have h3:=Nat.mul_le_mul_left (3 ^ n) (rH hh c);have h4:1<=3 ^ n:=Nat.one_le_pow _ _ (by decide);show((aV z r).flatMap (dO n)).length+1<=3 ^ (n+1);rw[ZG];lia
theorem zw:∀(n j:Nat),n<=j->n<=8->∀(d:D) (bs:BBB),bL n bs d=true->qk j [.t d]=some (.m (.lst (dO n d)),[])
 | 0,_,_,_,_,_,h=>by cases h
 | n+1,0,h,_,_,_,_=>by lia
 | n+1,j+1,hj,h8,d,bs,h=>by
  obtain⟨z,r,rfl,h1,h2⟩:=kW h;obtain⟨c,hh,_⟩:=i9 h1;have e3:fM [.t (.tup (.str z :: r))]=some (.t (.tup (aV z r)),[]):=vD (r:=r) hh;have pl:=rH hh c;have pw:3 ^ n<=3 ^ 7:=aau (by decide) (by lia);obtain⟨S',e,x2,q2,hs⟩:=qi (bd:=bName 2) (body:=rJ fM (qk j)) (aV z r)
   (fun k S=>∃x2,ie x2=false/\S=[XM (.tup (.str z :: r)),XN (.tup (.str z :: r) :: ((aV z r).take k).flatMap (dO n)),x2])
   [XM (.tup (.str z :: r)),XN [.tup (.str z :: r)],none] ⟨none,rfl,rfl⟩ (by
    rintro k p S hp ⟨x2,q2,rfl⟩;have hm:=Yn hp;have ih:=zw n j (by lia) (by lia) p _ (h2 p hm);have il:=uu (h2 p hm);have fl:=vF (f:=dO n) (k:=3 ^ n) (ps:=(aV z r).take k) fun p hp=>uu (h2 p (List.mem_of_mem_take hp));have tl:((aV z r).take k).length<=2:=by rw[Zs];lia
    have XA:=Nat.mul_le_mul_left (3 ^ n) tl;have XC:(3:Nat) ^ 7=2187:=by decide
    have b1:(((aV z r).take k).flatMap (dO n)).length+1+(dO n p).length<=100000:=by lia
    refine⟨[XM (.tup (.str z :: r)),XN (.tup (.str z :: r) :: ((aV z r).take k).flatMap (dO n)),XM p],_,by simp[-gG,fj,q2],?_,XM p,rfl,rfl⟩;rw[List.take_succ,hp];simp only[Option.toList_some];rw[List.flatMap_append];generalize ((aV z r).take k).flatMap (dO n)=A at *;simp[rJ,ih,b1])
  rw[List.take_length] at hs;subst hs;show aJ 3 _ _=some (.m (.lst (.tup (.str z :: r) :: (aV z r).flatMap (dO n))),[]);simp[aJ,vE,aB,cJ,e3,e]
def fG (n:Nat) (d:D):Nat:=(dO n d).length
def AR:D->Bool
 | .tup (.str z :: _)=>bB z
 | _=>false
def jM (n:Nat) (d:D):Nat:=((dO n d).filter AR).length
theorem AS:∀{n:Nat}{bs:BBB}{d:D},bL n bs d=true->∀x∈dO n d,∃z r,x= .tup (.str z :: r)
 | 0,_,_,h=>by cases h
 | n+1,bs,d,h=>by
  obtain⟨z,r,rfl,h1,h2⟩:=kW h;intro x hx;rcases XT.mp (show x∈.tup (.str z :: r) :: (aV z r).flatMap (dO n) from hx) with q | q
  ·exact⟨z,r,q⟩
  ·obtain⟨p,hp,hx⟩:=List.mem_flatMap.mp q;exact AS (h2 p hp) x hx
def Ck (gm:FM):GS:=
 (cy (eP wI (aa (eF (aT gm (aU (eF (aE 0)) bx))) aA)))
def nZ:FM:=aJ 1 (Ck (qk 9))
def Hs:∀us r,nZ us=some r->aJ 1 (Ck (qk 9)) us=some r:=fun _ _ h=>h
def Dl {d:D}(hn:n<=8) (h:bL n bs d=true):nZ [.t d]=some (.t (.int (fG n d:Nat)),[]):=by
 have e:=zw n 9 (by lia) hn d bs h;unfold fG;simp[nZ,aJ,Ck,e,aB]
def kX (gm:FM):GS:=
 (cy (eP wI (aa (eF (sO [] (pS (eF (aT gm (aU (eF (aE 0)) bx)))) (qB (wM false ["each","one"] (bJ 0 (eC (.int 0))))) (eF (aE 0)))) aA)))
def yq:FM:=aJ 1 (kX (qk 9))
def Ht:∀us r,yq us=some r->aJ 1 (kX (qk 9)) us=some r:=fun _ _ h=>h
def JR {d:D}(hn:n<=8) (h:bL n bs d=true):yq [.t d]=some (.t (.int (jM n d:Nat)),[]):=by
 have e:=zw n 9 (by lia) hn d bs h;have pw:3 ^ n<=3 ^ 8:=aau (by decide) (by lia);have al:=uu h;have e2:=uq (cap:=[]) (q:=qB (wM false ["each","one"] (bJ 0 (eC (.int 0))))) (g:=eF (aE 0)) (S:=[XM d]) (ts:=[]) rfl AR (fun d=>d) (dO n d) [] (by
  intro x hx;obtain⟨z,r,rfl⟩:=AS h x hx;have:AR (.tup (.str z :: r))=bB z:=rfl;rw[this];unfold bB Hj;simp[bq]) (by intro x hx _;simp)
 rw[ZD,List.map_id'] at e2;have XD:(3:Nat) ^ 8=6561:=by decide
 have e3:(dO n d).length<=100000:=by lia
 unfold jM;simp[yq,aJ,kX,e,cJ,e2,e3,aB]
def fR (oR:FM) (AU:FM) (AV:FM):GS:=
 (bf (mj (wG (qB (eF (aT oR (aU (eF (aE 0)) (aU (eF (eP cF aA)) (aU (eC (.int 8)) bx))))))) (cy (eT (eC (.bl false)))) eG)
 (cy (eT (eQ (ia (qB (eF (eP L8 (aa (eF (aT AU (aU (eF (aE 0)) bx))) (aa (eC (.int 16)) aA))))) (qB (eF (eP L8 (aa (eF (aT AV (aU (eF (aE 0)) bx))) (aa (eC (.int 3)) aA))))))))))
def EC (d:D):Bool:=bL 8 [] d && (decide (fG 8 d<=16) && decide (jM 8 d<=3))
def kY:FM:=aJ 1 (fR (nY 9) nZ yq)
def ED:∀us r,kY us=some r->aJ 1 (fR (nY 9) nZ yq) us=some r:=fun _ _ h=>h
def AW {d:D}(h:Sm d):kY [.t d]=some (.t (.bl (EC d)),[]):=by
 have e1:=Dk 8 8 (XW _) d [] h (by decide);simp only[Ye] at e1;unfold EC;have e1:nY 9 [.t d,.t (.tup []),.t (.int 8)]=some (.t (.bl (bL 8 [] d)),[]):=e1;cases q:bL 8 [] d with
 | false=>rw[q] at e1;simp[kY,aJ,fR,e1,aB]
 | true=>
  rw[q] at e1;have e2:=Dl (by decide) q;have e3:=JR (by decide) q;by_cases c1:fG 8 d<=16
  ·have c2:(fG 8 d:Int)<=16:=by lia
   by_cases c3:jM 8 d<=3
   ·have c4:(jM 8 d:Int)<=3:=by lia
    simp[kY,aJ,fR,e1,e2,e3,aB,c1,c2,c3,c4]
   ·have c4:¬(jM 8 d:Int)<=3:=by lia
    simp[kY,aJ,fR,e1,e2,e3,aB,c1,c2,c3,c4]
  ·have c2:¬(fG 8 d:Int)<=16:=by lia
   simp[kY,aJ,fR,e1,e2,aB,c1,c2]
@[simp] theorem Q6 (wL:List (Str×GD)) (S:SS):nW wL S=(kN wL S).map fun p=>(.m (.dct (cz [] p.1)),p.2):=rfl
@[simp] theorem JV (S:SS):kN [] S=some ([],S):=rfl
@[simp] theorem HX (z:Str) (g:GD) (r:List (Str×GD)) (S:SS):kN ((z,g) :: r) S=(g S).bind fun p=>(kN r p.2).map fun q=>((.inr z,p.1) :: q.1,q.2):=rfl
@[simp] theorem Q7 (i:Nat) (ge:GE) (S:SS):Ax i ge S=match S[i]? with
 | some (some u)=>if uX u then(ge S).bind fun p=>match p.1 with
  | .m (.dct more)=>uJ p.2 i fun o=>match o with
   | .dct kvs=>if kvs.length+more.length<=100000 then some (.bN,.dct (cz kvs more)) else none
   | _=>none
  | _=>none
  else none
 | _=>none:=rfl
@[simp] theorem Q8 (i:Nat) (gk gd:GD) (S:SS):C7 i gk gd S=match S[i]? with
 | some (some u)=>if uX u then(gk S).bind fun p=>(gd p.2).bind fun q=>match q.2[i]? with
  | some (some u2)=>(GG u2 p.1).map fun o=>(o.getD q.1,q.2)
  | _=>none
  else none
 | _=>none:=rfl
@[simp] theorem Q9 (kvs:List (Key×D)):uX (.m (.dct kvs))=true:=rfl
@[simp] theorem Uw (kvs:List (Key×D)) (k:D):GG (.m (.dct kvs)) k=(keyOf k).map (bY kvs):=rfl
noncomputable def Cm (n:Int) (ps:BBD):D:=.tup [.int n,.lst (ps.map D.int)]
def JX:List (Key×D):=[(.inr "yes",Cm 1 []),(.inr "no",Cm 1 []),(.inr "now",Cm 2 []),(.inr "not",Cm 2 [1]),(.inr "next",Cm 2 [1]),(.inr "always",Cm 2 [1])]
def JY:List (Key×D):=[(.inr "some",Cm 2 [1]),(.inr "both",Cm 3 [1,2]),(.inr "either",Cm 3 [1,2]),(.inr "till",Cm 3 [1,2])]
def MK:List (Key×D):=[(.inr "within",Cm 3 [2]),(.inr "each",Cm 4 [3]),(.inr "one",Cm 4 [3])]
def Rf:List (Key×D):=cz (cz (cz [] JX) (cz [] JY)) (cz [] MK)
def JZ (kvs:List (Key×D)) (k:Key) (d:D):(putD kvs k d).length<=kvs.length+1:=by
 unfold putD;split
 ·rw[X3];lia
 ·rw[X4];exact XW _
theorem kq:∀(more kvs:List (Key×D)),(cz kvs more).length<=kvs.length+more.length
 | [],kvs=>XW _
 | p :: r,kvs=>by
  have h1:=kq r (putD kvs p.1 p.2);have h2:=JZ kvs p.1 p.2;show(cz (putD kvs p.1 p.2) r).length<=_;rw[X8];lia
def qm:GS:=
 (bf (cP 1 (nW [("yes",(eF (eP cF (aa (eC (.int 1)) (aa (eF (eP cG aA)) aA))))),("no",(eF (eP cF (aa (eC (.int 1)) (aa (eF (eP cG aA)) aA))))),("now",(eF (eP cF (aa (eC (.int 2)) (aa (eF (eP cG aA)) aA))))),("not",(eF (eP cF (aa (eC (.int 2)) (aa (eF (eP cG (aa (eC (.int 1)) aA))) aA))))),("next",(eF (eP cF (aa (eC (.int 2)) (aa (eF (eP cG (aa (eC (.int 1)) aA))) aA))))),("always",(eF (eP cF (aa (eC (.int 2)) (aa (eF (eP cG (aa (eC (.int 1)) aA))) aA)))))]))
 (bf (gQ (eT (Ax 1 (nW [("some",(eF (eP cF (aa (eC (.int 2)) (aa (eF (eP cG (aa (eC (.int 1)) aA))) aA))))),("both",(eF (eP cF (aa (eC (.int 3)) (aa (eF (eP cG (aa (eC (.int 1)) (aa (eC (.int 2)) aA)))) aA))))),("either",(eF (eP cF (aa (eC (.int 3)) (aa (eF (eP cG (aa (eC (.int 1)) (aa (eC (.int 2)) aA)))) aA))))),("till",(eF (eP cF (aa (eC (.int 3)) (aa (eF (eP cG (aa (eC (.int 1)) (aa (eC (.int 2)) aA)))) aA)))))]))))
 (bf (gQ (eT (Ax 1 (nW [("within",(eF (eP cF (aa (eC (.int 3)) (aa (eF (eP cG (aa (eC (.int 2)) aA))) aA))))),("each",(eF (eP cF (aa (eC (.int 4)) (aa (eF (eP cG (aa (eC (.int 3)) aA))) aA))))),("one",(eF (eP cF (aa (eC (.int 4)) (aa (eF (eP cG (aa (eC (.int 3)) aA))) aA)))))]))))
 (cy (eT (C7 1 (eF (aE 0)) (eF (eP cF (aa (eC (.int 0)) (aa (eF (eP cG aA)) aA))))))))))
def eO:FM:=aJ 2 qm
def EE:∀us r,eO us=some r->aJ 2 qm us=some r:=fun _ _ h=>h
def EF (z:Str):eO [.t (.str z)]=some (.t ((bY Rf (.inr z)).getD (Cm 0 [])),[]):=by
 have l1:=kq JX [];have l2:=kq JY [];have l3:=kq MK [];have l4:=kq (cz [] JY) (cz [] JX);have k1:JX.length=6:=rfl;have k2:JY.length=4:=rfl;have k3:MK.length=3:=rfl;rw[Zz] at l1 l2 l3;have b1:(cz [] JX).length+(cz [] JY).length<=100000:=by decide
 have b2:(cz (cz [] JX) (cz [] JY)).length+(cz [] MK).length<=100000:=by decide
 clear l1 l2 l3 l4 k1 k2 k3;unfold Rf;unfold JX JY MK at *;simp only[Cm,Ye,Yd] at *
 kernel_rfl
def Ux (z:Str):BBD:=(List.range (c8 z - cK z).toNat).map fun(k:Nat)=>(cK z:Int)+k
def Hu {k:Key}{d:D}{x:Key}(h:x∈(putD kvs k d).map (·.1)):x∈kvs.map (·.1)\/x=k:=by
 unfold putD at h;split at h
 ·rw[List.map_map] at h;obtain⟨kv,h1,h2⟩:=YZ.mp h;simp only[Function.comp] at h2;split at h2
  ·exact .inl (YZ.mpr ⟨kv,h1,h2⟩)
  ·exact .inl (YZ.mpr ⟨kv,h1,h2⟩)
 ·rw[YN] at h;rcases Yb.mp h with q | q
  ·exact .inl q
  ·exact .inr (by simpa using q)
theorem kZ:∀{more kvs:List (Key×D)}{x:Key},x∈(cz kvs more).map (·.1)->x∈kvs.map (·.1)\/x∈more.map (·.1)
 | [],kvs,x,h=>.inl h
 | p :: r,kvs,x,h=>by
  rcases kZ (more:=r) (kvs:=putD kvs p.1 p.2) h with q | q
  ·rcases Hu q with y | y
   ·exact .inl y
   ·exact .inr (by rw[y];exact Yp)
  ·exact .inr (Yc _ q)
def Cn {k:Key}(h:k∉kvs.map (·.1)):bY kvs k=none:=by
 unfold bY;have:kvs.find? (fun kv=>decide (kv.1=k))=none:=List.find?_eq_none.mpr fun p hp q=>h (by rw[<-Z9 q];exact List.mem_map_of_mem hp);rw[this];rfl
def iL (z:Str):eO [.t (.str z)]=some (.t (.tup [.int (c8 z),.lst ((Ux z).map D.int)]),[]):=by
 rw[EF];by_cases h:z∈gT
 ·simp only[gT,XT,Yi,YF] at h;rcases h with rfl | rfl | rfl | rfl | rfl | rfl | rfl | rfl | rfl | rfl | rfl | rfl | rfl <;> rfl
 ·have e1:bY Rf (.inr z)=none:=Cn fun q=>by
   unfold Rf at q;have k1:(.inr z:Key)∈JX.map (·.1)->False:=fun q=>by
    apply h;simp only[JX,Yd,Ye,XT,Yi,YF,aaP] at q;rcases q with rfl | rfl | rfl | rfl | rfl | rfl <;> decide
   have k2:(.inr z:Key)∈JY.map (·.1)->False:=fun q=>by
    apply h;simp only[JY,Yd,Ye,XT,Yi,YF,aaP] at q;rcases q with rfl | rfl | rfl | rfl <;> decide
   have k3:(.inr z:Key)∈MK.map (·.1)->False:=fun q=>by
    apply h;simp only[MK,Yd,Ye,XT,Yi,YF,aaP] at q;rcases q with rfl | rfl | rfl <;> decide
   have one:∀L:List (Key×D),((.inr z:Key)∈L.map (·.1)->False)->(.inr z:Key)∈(cz [] L).map (·.1)->False:=fun L k q=>by
    rcases kZ q with q | q
    ·cases q
    ·exact k q
   rcases kZ q with q | q
   ·rcases kZ q with q | q
    ·exact one _ k1 q
    ·exact one _ k2 q
   ·exact one _ k3 q
  rw[e1];have e2:c8 z=0:=yp h;have e3:Ux z=[]:=by unfold Ux;rw[e2];rw[show((0:Int) - cK z).toNat=0 by lia];rfl
  rw[e2,e3];rfl
def k6 (x:D) (zs:BBB):f9 [x,.tup (zs.map D.str)]=XM (.bl (!inD x (zs.map D.str))):=by
 have:bF (zs.map D.str)<=40:=by rw[L2.gf];decide
 cases x <;> simp[f9,this]
def Dm:c8 "now" =2/\c8 "within" =3:=by decide
def vG (n:Nat) (z:Str) (r:List D):(fG (n+1) (.tup (.str z :: r)):Int)=1+(((aV z r).flatMap (dO n)).length:Int):=by
 unfold fG;show(((.tup (.str z :: r):D) :: (aV z r).flatMap (dO n)).length:Int)=_;rw[X8];push_cast;lia
def zx (n:Nat) (z:Str) (r:List D):(jM (n+1) (.tup (.str z :: r)):Int)=(if bB z=true then 1 else 0)+((((aV z r).flatMap (dO n)).filter AR).length:Int):=by
 unfold jM;show((((.tup (.str z :: r):D) :: (aV z r).flatMap (dO n)).filter AR).length:Int)=_;by_cases h:bB z=true
 ·rw[Z7 (by exact h),if_pos h,X8];push_cast;lia
 ·rw[Za (by exact h),if_neg h];lia
def eU (n:Nat) (bs:BBB) (z:Str) (r:List D):bL (n+1) bs (.tup (.str z :: r))=true↔b9 bs z r=true/\∀p∈aV z r,bL n (cA bs z r) p=true:=by
 show(b9 bs z r && (aV z r).all (bL n (cA bs z r)))=true↔_;rw[Y0,Zu]
def AX (c:c8 z=(r.length:Int)+1) (n1:¬z="now") (n2:¬(z="within"/\fu (r.getD 0 .bN) 0 5=false)) (hb:bB z=false):b9 bs z r=true:=by
 unfold b9;rw[if_pos c];cases r with
 | nil=>rfl
 | cons a q=>
  simp only[n1,Zl,hb];by_cases k:z="within"
  ·rw[if_pos k];cases w:fu a 0 5 with
   | true=>rfl
   | false=>exact absurd ⟨k,w⟩ n2
  ·rw[if_neg k];rfl
structure Dr (deep:Nat) (bs:BBB) (room:Nat) (bin:Nat) (d:D):Prop where
 fm:bL deep bs d=true
 sz:fG deep d<=room
 bn:jM deep d=bin
 fit:xE 8 d
 dep:bX d<=deep+1
noncomputable def Bm:List D:=vg.map D.str
def P6:∀z∈vg,nameB (.str z)=true/\z.length<=8:=by decide +kernel
def Dn (b:Int):List (Key×D):=[(.inr "names",.lst Bm),(.inr "binders",.int b)]
def La (b:Int):bY (Dn b) (.inr "names")=some (.lst Bm):=rfl
def Lb (b:Int):bY (Dn b) (.inr "binders")=some (.int b):=rfl
def P7 (b x:Int):putD (Dn b) (.inr "binders") (.int x)=Dn x:=rfl
def uv:Bm.length=8:=rfl
def Lc {i:Int}(h0:0<=i) (h1:i < 8):∃z,dj Bm i=some (.str z)/\nameB (.str z)=true/\z.length<=8:=by
 have h:i.toNat < vg.length:=by show _ < 8;lia
 refine⟨vg[i.toNat],Sq.Hi h0 (by unfold Bm;rw[Yl,Yh h];rfl),?_⟩;exact P6 _ (aaj h)
abbrev tp (t:iC):MO:=.dct (cY t)
def dI {t:iC}{m:Int}(h1:0 < m) (h2:m < 1000) (h3:0<=t.n) (h4:t.n < 900000):gg [.b (tp t),.t (.int m)]=some (.t (.int (eL t m)),[tp (cu t m)]):=GW h1 (by lia) h3 (by lia)
def eV (aC:FM):GS:=
 (bf (cP 3 (aT aC (dB (aE 0) (aU (eC (.int 5)) bx))))
 (bf (mj (qB (eF (eP sQ (aa (eF (aE 3)) (aa (eC (.int 0)) aA))))) (cy (eP cF (aa (eC (.str "any")) aA))) eG)
 (bf (mj (qB (eF (eP sQ (aa (eF (aE 3)) (aa (eC (.int 1)) aA))))) (cy (eP cF (aa (eC (.str "name")) (aa (bJ 1 (eF (aT aC (dB (aE 0) (aU (nN 1) bx))))) aA)))) eG)
 (bf (cP 4 (eP ug (aa (eF (eP cG (aa (eC (.int 0)) (aa (eC (.int 1)) (aa (eC (.int 2)) (aa (eC (.int 3)) (aa (eC (.int 5)) (aa (eC (.int 9)) aA)))))))) (aa (eF (aT aC (dB (aE 0) (aU (eC (.int 6)) bx)))) aA))))
 (bf (mj (ia (qB (eF (eP Gp (aa (eF (aE 2)) (aa (eF (eP cF aA)) aA))))) (qB (eF (eP Nm (aa (eF (aT aC (dB (aE 0) (aU (eC (.int 3)) bx)))) (aa (eC (.int 0)) aA)))))) (cP 4 (eT (bJ 2 (eF (aT aC (dB (aE 0) (aU (nN 2) bx))))))) eG)
 (cy (eP cF (aa (eF (eP ug (aa (eF (eP cG (aa (eC (.str "less")) (aa (eC (.str "same")) (aa (eC (.str "more")) aA))))) (aa (eF (eP nL (aa (eF (aE 3)) (aa (eC (.int 2)) aA)))) aA)))) (aa (eF (aE 4)) aA)))))))))
def jd:FM:=aJ 5 (eV gg)
def EG:∀us r,jd us=some r->aJ 5 (eV gg) us=some r:=fun _ _ h=>h
def s8 {x:D}{l:List D}{i:Int}(h0:0<=i) (h1:i < l.length):∃y,dj l i=some y/\y∈l:=by
 obtain⟨y,a,b⟩:=Sq.MJ (l:=l) h0 h1;exact⟨y,a,Yn b⟩
def AY (bs:BBB) (a b:D):gR bs (.tup [a,b])=if kD a (.str "name")=true then nameB b else inD a (jL.map D.str) && (fu b 0 9 || inD b (bs.map D.str)):=rfl
def Hv {t:iC}(h0:0<=t.n) (h1:t.n < 800000) (hb:bs.length < 900) (hs:∀z∈bs,z.length<=8):
  ∃d t',jd [.b (tp t),.t (.lst Bm),.t (.tup (bs.map D.str))]=some (.t d,[tp t'])/\gR bs d=true/\xE 8 d/\bX d<=1/\t.n<=t'.n/\t'.n<=t.n+4:=by
 have p1:=dI (t:=t) (m:=5) (by lia) (by lia) h0 (by lia);obtain⟨w0,w1⟩:=bQ (t:=t) (m:=5) (by lia);generalize hw:eL t 5=w at *;have Uy:(cu t 5).n=t.n+1:=dH t 5;generalize cu t 5=t1 at *;by_cases c0:w=0
 ·subst c0;exact⟨.tup [.str "any"],t1,by simp[jd,aJ,eV,p1,aB],rfl,⟨(by show 1<=8;lia),(by show 3<=8;lia),True.intro⟩,by decide,by lia,by lia⟩
 ·by_cases c1:w=1
  ·subst c1;have p2:=dI (t:=t1) (m:=8) (by lia) (by lia) (by lia) (by lia);obtain⟨v0,v1⟩:=bQ (t:=t1) (m:=8) (by lia);generalize eL t1 8=v at *;have NQ:(cu t1 8).n=t1.n+1:=dH t1 8;generalize cu t1 8=t2 at *;obtain⟨z,a1,a2,a3⟩:=Lc v0 v1;have nl:(Bm.length:Int)=8:=rfl;refine⟨.tup [.str "name",.str z],t2,by simp[jd,aJ,eV,p1,aB,nl,p2,a1],?_,⟨(by show 2<=8;lia),(by show 4<=8;lia),a3,True.intro⟩,by show max 0 (max 0 0)+1<=1;lia,by lia,by lia⟩;rw[AY,if_pos (pX _)];exact a2
  ·have p2:=dI (t:=t1) (m:=6) (by lia) (by lia) (by lia) (by lia);obtain⟨v0,v1⟩:=bQ (t:=t1) (m:=6) (by lia);generalize eL t1 6=v at *;have NQ:(cu t1 6).n=t1.n+1:=dH t1 6;generalize cu t1 6=t2 at *;obtain⟨nb,b1,b2⟩:=s8 (x:=.bN) (l:=[.int 0,.int 1,.int 2,.int 3,.int 5,.int 9]) v0 v1;have hnb:fu nb 0 9=true/\xE 8 nb/\bX nb=0:=by
    simp only[XT,Yi,YF] at b2;rcases b2 with rfl | rfl | rfl | rfl | rfl | rfl <;> exact⟨by decide,True.intro,rfl⟩
   obtain⟨hd,d1,d2⟩:=s8 (x:=.bN) (l:=[.str "less",.str "same",.str "more"]) (i:=w - 2) (by lia) (by simp only[X8,Zz];lia);have Rg:inD hd (jL.map D.str)=true/\kD hd (.str "name")=false/\xE 8 hd/\bX hd=0:=by
    simp only[XT,Yi,YF] at d2;rcases d2 with rfl | rfl | rfl <;> exact⟨by decide,by decide,(by show _<=8;decide),rfl⟩
   have fin:∀x:D,(fu x 0 9=true\/inD x (bs.map D.str)=true)->xE 8 x->bX x=0->gR bs (.tup [hd,x])=true/\xE 8 (.tup [hd,x])/\bX (.tup [hd,x])<=1:=fun x h1 h2 h3=>by
    refine⟨?_,⟨(by show 2<=8;lia),Rg.2.2.1,h2,True.intro⟩,by show max (bX hd) (max (bX x) 0)+1<=1;rw[Rg.2.2.2,h3];decide⟩;rw[AY,Rg.2.1,Rg.1];rcases h1 with q | q
    ·rw[q];rfl
    ·rw[q];simp
   have dv:bX (.tup (bs.map D.str))<=40:=by show bF (bs.map D.str)+1<=40;rw[L2.gf];lia
   cases bs with
   | nil=>
    obtain⟨f1,f2,f3⟩:=fin nb (.inl hnb.1) hnb.2.1 hnb.2.2;refine⟨.tup [hd,nb],t2,?_,f1,f2,f3,by lia,by lia⟩;have q:kD (.tup []) (.tup [])=true:=rfl;simp only[Ye] at dv ⊢;simp[jd,aJ,eV,p1,aB,c0,c1,p2,b1,dv,q,d1]
   | cons y ys=>
    have q:kD (.tup ((y :: ys).map D.str)) (.tup [])=false:=rfl;have p3:=dI (t:=t2) (m:=3) (by lia) (by lia) (by lia) (by lia);have VF:(cu t2 3).n=t2.n+1:=dH t2 3;generalize eL t2 3=u at *;generalize cu t2 3=t3 at *;by_cases c3:0 < u
    ·have p4:=dI (t:=t3) (m:=((y :: ys).map D.str).length) (by rw[X3];simp only[X8];lia) (by rw[X3];lia) (by lia) (by lia);have XE:(cu t3 ((y :: ys).map D.str).length).n=t3.n+1:=dH t3 _;obtain⟨x0,x1⟩:=bQ (t:=t3) (m:=((y :: ys).map D.str).length) (by rw[X3];simp only[X8];lia);obtain⟨vv,g1,g2⟩:=s8 (x:=.bN) (l:=(y :: ys).map D.str) x0 x1;generalize cu t3 ((y :: ys).map D.str).length=t4 at *;generalize eL t3 ((y :: ys).map D.str).length=x at *;obtain⟨vs,m1,rfl⟩:=YZ.mp g2;have iv:inD (.str vs) ((y :: ys).map D.str)=true:=by
      unfold inD;exact aa5.mpr ⟨.str vs,g2,pX _⟩
     obtain⟨f1,f2,f3⟩:=fin (.str vs) (.inr iv) (hs vs m1) rfl;refine⟨.tup [hd,.str vs],t4,?_,f1,f2,f3,by lia,by lia⟩;generalize (y :: ys).map D.str=L at *;simp[jd,aJ,eV,p1,aB,c0,c1,p2,b1,dv,q,p3,c3,p4,g1,d1]
    ·obtain⟨f1,f2,f3⟩:=fin nb (.inl hnb.1) hnb.2.1 hnb.2.2;refine⟨.tup [hd,nb],t3,?_,f1,f2,f3,by lia,by lia⟩;generalize (y :: ys).map D.str=L at *;simp[jd,aJ,eV,p1,aB,c0,c1,p2,b1,dv,q,p3,c3,d1]
def VG (sh:b9 bs z r=true) (pl:aV z r=[]) (nb:bB z=false) (hr:1<=room) (fit:xE 8 (.tup (.str z :: r))) (dep:bX (.tup (.str z :: r))<=n+2):Dr (n+1) bs room 0 (.tup (.str z :: r)):=by
 have es:=vG n z r;have eb:=zx n z r;rw[pl] at es eb;rw[nb] at eb;simp at es eb;exact⟨(eU n bs z r).mpr ⟨sh,by rw[pl];simp⟩,by lia,by lia,fit,dep⟩
def Uz {b:Nat}{p:D}(sh:b9 bs z r=true) (pl:aV z r=[p]) (h:Dr n (cA bs z r) room b p) (fit:xE 8 (.tup (.str z :: r))) (dep:bX (.tup (.str z :: r))<=n+2):Dr (n+1) bs (room+1) ((if bB z=true then 1 else 0)+b) (.tup (.str z :: r)):=by
 have es:=vG n z r;have eb:=zx n z r;rw[pl] at es eb;have e1:([p].flatMap (dO n)).length=fG n p:=by simp[fG]
 have e2:(([p].flatMap (dO n)).filter AR).length=jM n p:=by simp[jM]
 rw[e1] at es;rw[e2] at eb;have:=h.sz;have:=h.bn;refine⟨(eU n bs z r).mpr ⟨sh,by rw[pl];intro q hq;rw[show q=p by simpa using hq];exact h.fm⟩,by lia,?_,fit,dep⟩;by_cases hb:bB z=true
 ·rw[if_pos hb] at eb ⊢;lia
 ·rw[if_neg hb] at eb ⊢;lia
def Xf {r1 r2 b1 b2:Nat}{p q:D}(sh:b9 bs z r=true) (pl:aV z r=[p,q]) (nb:bB z=false) (h1:Dr n bs r1 b1 p) (h2:Dr n bs r2 b2 q) (fit:xE 8 (.tup (.str z :: r))) (dep:bX (.tup (.str z :: r))<=n+2):Dr (n+1) bs (r1+r2+1) (b1+b2) (.tup (.str z :: r)):=by
 have es:=vG n z r;have eb:=zx n z r;rw[pl] at es eb;have e1:([p,q].flatMap (dO n)).length=fG n p+fG n q:=by simp[fG]
 have e2:(([p,q].flatMap (dO n)).filter AR).length=jM n p+jM n q:=by simp[jM]
 rw[e1] at es;rw[e2,nb] at eb;simp at eb;have:=h1.sz;have:=h1.bn;have:=h2.sz;have:=h2.bn;have ib:cA bs z r=bs:=by unfold cA;rw[if_neg (by rw[nb];simp)]
 refine⟨(eU n bs z r).mpr ⟨sh,by rw[pl,ib];intro x hx;simp at hx;rcases hx with rfl | rfl;exact h1.fm;exact h2.fm⟩,by lia,by lia,fit,dep⟩
def Dr.more {Ld b:Nat}{d:D}(h:Dr n bs room b d) (hr:room<=Ld):Dr n bs Ld b d:=⟨h.fm,X7 h.sz hr,h.bn,h.fit,h.dep⟩
def br (aC:FM) (Co:FM) (aD:FM) (AZ:FM):GS:=
 (bf (cP 5 (aT aC (dB (aE 0) (aU (eC (.int 9)) bx))))
 (bf (mj (Ga (qB (eF (eP L7 (aa (eF (aE 3)) (aa (eC (.int 2)) aA))))) (Ga (qB (eF (eP L7 (aa (eF (aE 4)) (aa (eC (.int 2)) aA))))) (qB (eF (eP sQ (aa (eF (aE 5)) (aa (eC (.int 0)) aA))))))) (bf (mj (qB (eF (eP sQ (aa (eF (eP wH (aa (eF (aE 5)) (aa (eC (.int 5)) aA)))) (aa (eC (.int 4)) aA))))) (cy (eP cF (aa (eF (eP ug (aa (eF (eP cG (aa (eC (.str "yes")) (aa (eC (.str "no")) aA)))) (aa (eF (aT aC (dB (aE 0) (aU (eC (.int 2)) bx)))) aA)))) aA))) eG)
 (cy (eP cF (aa (eC (.str "now")) (aa (eF (aT Co (dB (aE 0) (aU (bJ 1 (eC (.str "names"))) (aU (eF (aE 2)) bx))))) aA))))) eG)
 (bf (mj (ia (qB (eF (eP L7 (aa (eF (aE 5)) (aa (eC (.int 5)) aA))))) (qB (eF (eP Nm (aa (eF (aE 3)) (aa (eC (.int 2)) aA)))))) (bf (cP 6 (eP gD (aa (eC (.int 1)) (aa (eF (aT aC (dB (aE 0) (aU (eF (eP nL (aa (eF (aE 3)) (aa (eC (.int 2)) aA)))) bx)))) aA))))
 (bf (cP 7 (aT aD (dB (aE 0) (dB (aE 1) (aU (eF (aE 2)) (aU (eF (aE 6)) (aU (eF (eP nL (aa (eF (aE 4)) (aa (eC (.int 1)) aA)))) bx)))))))
 (bf (cP 8 (aT aD (dB (aE 0) (dB (aE 1) (aU (eF (aE 2)) (aU (eF (eP nL (aa (eF (eP nL (aa (eF (aE 3)) (aa (eC (.int 1)) aA)))) (aa (eF (aE 6)) aA)))) (aU (eF (eP nL (aa (eF (aE 4)) (aa (eC (.int 1)) aA)))) bx)))))))
 (cy (eP cF (aa (eF (eP ug (aa (eF (eP cG (aa (eC (.str "both")) (aa (eC (.str "either")) (aa (eC (.str "till")) (aa (eC (.str "till")) aA)))))) (aa (eF (eP nL (aa (eF (aE 5)) (aa (eC (.int 1)) aA)))) aA)))) (aa (eF (aE 7)) (aa (eF (aE 8)) aA)))))))) eG)
 (cy (aT AZ (dB (aE 0) (dB (aE 1) (aU (eF (aE 2)) (aU (eF (aE 3)) (aU (eF (aE 4)) bx))))))))))
def cC (aC:FM) (aD:FM):GS:=
 (bf (cP 5 (aT aC (dB (aE 0) (aU (eC (.int 8)) bx))))
 (bf (mj (ia (qB (eF (eP L7 (aa (eF (aE 5)) (aa (eC (.int 3)) aA))))) (qB (eF (eP L7 (aa (bJ 1 (eC (.str "binders"))) (aa (eC (.int 3)) aA)))))) (bf (BY 1 (eC (.str "binders")) (eF (eP gD (aa (bJ 1 (eC (.str "binders"))) (aa (eC (.int 1)) aA)))))
 (bf (cP 6 (eT (bJ 1 (eC (.str "names")))))
 (bf (cP 7 (eP ug (aa (eF (eP cG (aa (eC (.str "x")) (aa (eC (.str "k")) (aa (eC (.str "a")) (aa (eC (.str "ab")) aA)))))) (aa (eF (aT aC (dB (aE 0) (aU (eC (.int 4)) bx)))) aA))))
 (bf (cP 8 (eP cF (aa (eF (eP ug (aa (eF (eP cG (aa (eC (.str "each")) (aa (eC (.str "one")) aA)))) (aa (eF (eP wH (aa (eF (aE 5)) (aa (eC (.int 2)) aA)))) aA)))) (aa (bJ 6 (eF (aT aC (dB (aE 0) (aU (nN 6) bx))))) (aa (eF (aE 7)) aA)))))
 (cy (eP gD (aa (eF (aE 8)) (aa (eF (eP cF (aa (eF (aT aD (dB (aE 0) (dB (aE 1) (aU (eF (eP gD (aa (eF (aE 2)) (aa (eF (eP cF (aa (eF (aE 7)) aA))) aA)))) (aU (eF (eP nL (aa (eF (aE 3)) (aa (eC (.int 1)) aA)))) (aU (eF (eP nL (aa (eF (aE 4)) (aa (eC (.int 1)) aA)))) bx))))))) aA))) aA)))))))) eG)
 (bf (cP 8 (eP cF (aa (eF (eP ug (aa (eF (eP cG (aa (eC (.str "not")) (aa (eC (.str "next")) (aa (eC (.str "always")) (aa (eC (.str "some")) aA)))))) (aa (eF (eP wH (aa (eF (aE 5)) (aa (eC (.int 4)) aA)))) aA)))) aA)))
 (bf (mj (qB (eF (eP sQ (aa (eF (aE 5)) (aa (eC (.int 3)) aA))))) (cP 8 (eP cF (aa (eC (.str "within")) (aa (eF (aT aC (dB (aE 0) (aU (eC (.int 6)) bx)))) aA)))) eG)
 (cy (eP gD (aa (eF (aE 8)) (aa (eF (eP cF (aa (eF (aT aD (dB (aE 0) (dB (aE 1) (aU (eF (aE 2)) (aU (eF (eP nL (aa (eF (aE 3)) (aa (eC (.int 1)) aA)))) (aU (eF (eP nL (aa (eF (aE 4)) (aa (eC (.int 1)) aA)))) bx))))))) aA))) aA))))))))
section
variable {f1 f2 f3 f4:FM}{T0 T1 T2 T3 T4:MO}{ws GH E4:List (Key×D)}{vs nd d1 d2:D}{room deep w:Int}
def ML {v:Int}{y:D}(p1:f1 [.b T0,.t (.int 9)]=some (.t (.int w),[T1])) (h:room < 2\/deep < 2\/w=0) (h5:w % 5=4) (p2:f1 [.b T1,.t (.int 2)]=some (.t (.int v),[T2])) (hy:dj [.str "yes",.str "no"] v=some y):
  aJ 9 (br f1 f2 f3 f4) [.b T0,.b (.dct ws),.t vs,.t (.int room),.t (.int deep)]=some (.t (.tup [y]),[T2,.dct ws]):=by
 by_cases a:room < 2
 ·simp[aJ,br,p1,a,h5,p2,hy,aB]
 ·by_cases b:deep < 2
  ·simp[aJ,br,p1,a,b,h5,p2,hy,aB]
  ·have c:w=0:=by rcases h with h | h | h;exact absurd h a;exact absurd h b;exact h
   subst c;exact absurd h5 (by decide)
def MM {d:D}(p1:f1 [.b T0,.t (.int 9)]=some (.t (.int w),[T1])) (h:room < 2\/deep < 2\/w=0) (h5:¬w % 5=4) (hn:bY ws (.inr "names")=some nd) (p2:f2 [.b T1,.t nd,.t vs]=some (.t d,[T2])):
  aJ 9 (br f1 f2 f3 f4) [.b T0,.b (.dct ws),.t vs,.t (.int room),.t (.int deep)]=some (.t (.tup [.str "now",d]),[T2,.dct ws]):=by
 by_cases a:room < 2
 ·simp[aJ,br,p1,a,h5,hn,p2,aB]
 ·by_cases b:deep < 2
  ·simp[aJ,br,p1,a,b,h5,hn,p2,aB]
  ·have c:w=0:=by rcases h with h | h | h;exact absurd h a;exact absurd h b;exact h
   subst c;simp[aJ,br,p1,a,b,hn,p2,aB]
def MN {fi:Int}{y:D}(p1:f1 [.b T0,.t (.int 9)]=some (.t (.int w),[T1])) (ha:¬room < 2) (hb:¬deep < 2) (hc:¬w=0) (h5:w < 5) (h2:2 < room) (p2:f1 [.b T1,.t (.int (room - 2))]=some (.t (.int fi),[T2]))
  (p3:f3 [.b T2,.b (.dct ws),.t vs,.t (.int (1+fi)),.t (.int (deep - 1))]=some (.t d1,[T3,.dct GH])) (p4:f3 [.b T3,.b (.dct GH),.t vs,.t (.int (room - 1 - (1+fi))),.t (.int (deep - 1))]=some (.t d2,[T4,.dct E4])) (hy:dj [.str "both",.str "either",.str "till",.str "till"] (w - 1)=some y):
  aJ 9 (br f1 f2 f3 f4) [.b T0,.b (.dct ws),.t vs,.t (.int room),.t (.int deep)]=some (.t (.tup [y,d1,d2]),[T4,.dct E4]):=by
 simp[aJ,br,p1,ha,hb,hc,h5,h2,p2,p3,p4,hy,aB]
def P8 (p1:f1 [.b T0,.t (.int 9)]=some (.t (.int w),[T1])) (ha:¬room < 2) (hb:¬deep < 2) (hc:¬w=0) (h:¬(w < 5/\2 < room)) (p2:f4 [.b T1,.b (.dct ws),.t vs,.t (.int room),.t (.int deep)]=some (.t d1,[T2,.dct GH])):
  aJ 9 (br f1 f2 f3 f4) [.b T0,.b (.dct ws),.t vs,.t (.int room),.t (.int deep)]=some (.t d1,[T2,.dct GH]):=by
 by_cases a:w < 5
 ·have b:¬2 < room:=fun q=>h ⟨a,q⟩;simp[aJ,br,p1,ha,hb,hc,a,b,p2,aB]
 ·simp[aJ,br,p1,ha,hb,hc,a,p2,aB]
def MP {b x n:Int}{bl nl:List D}{xd hd nm:D}(p1:f1 [.b T0,.t (.int 8)]=some (.t (.int w),[T1])) (h3:w < 3) (hb:bY ws (.inr "binders")=some (.int b)) (b3:b < 3) (hl:ws.length < 100000) (hp:putD ws (.inr "binders") (.int (b+1))=GH) (hn:bY GH (.inr "names")=some (.lst nl))
  (p2:f1 [.b T1,.t (.int 4)]=some (.t (.int x),[T2])) (hx:dj [.str "x",.str "k",.str "a",.str "ab"] x=some xd) (hh:dj [.str "each",.str "one"] (w % 2)=some hd) (p3:f1 [.b T2,.t (.int (nl.length:Nat))]=some (.t (.int n),[T3])) (hm:dj nl n=some nm) (hv:bl.length+1<=100000)
  (p4:f2 [.b T3,.b (.dct GH),.t (.tup (bl++[xd])),.t (.int (room - 1)),.t (.int (deep - 1))]=some (.t d1,[T4,.dct E4])):
  aJ 9 (cC f1 f2) [.b T0,.b (.dct ws),.t (.tup bl),.t (.int room),.t (.int deep)]=some (.t (.tup [hd,nm,xd,d1]),[T4,.dct E4]):=by
 simp[aJ,cC,p1,h3,hb,b3,hl,hp,hn,p2,hx,hh,p3,hm,hv,p4,aB]
def MQ {b:Int}{hd:D}(p1:f1 [.b T0,.t (.int 8)]=some (.t (.int w),[T1])) (hb:bY ws (.inr "binders")=some (.int b)) (h3:¬(w < 3/\b < 3)) (hw:¬w=3) (hh:dj [.str "not",.str "next",.str "always",.str "some"] (w % 4)=some hd)
  (p4:f2 [.b T1,.b (.dct ws),.t vs,.t (.int (room - 1)),.t (.int (deep - 1))]=some (.t d1,[T4,.dct E4])):
  aJ 9 (cC f1 f2) [.b T0,.b (.dct ws),.t vs,.t (.int room),.t (.int deep)]=some (.t (.tup [hd,d1]),[T4,.dct E4]):=by
 by_cases a:w < 3
 ·have b:¬b < 3:=fun q=>h3 ⟨a,q⟩;simp[aJ,cC,p1,a,hb,b,hw,hh,p4,aB]
 ·simp[aJ,cC,p1,a,hw,hh,p4,aB]
def EH {k:Int}(p1:f1 [.b T0,.t (.int 8)]=some (.t (.int 3),[T1])) (p2:f1 [.b T1,.t (.int 6)]=some (.t (.int k),[T2]))
  (p4:f2 [.b T2,.b (.dct ws),.t vs,.t (.int (room - 1)),.t (.int (deep - 1))]=some (.t d1,[T4,.dct E4])):
  aJ 9 (cC f1 f2) [.b T0,.b (.dct ws),.t vs,.t (.int room),.t (.int deep)]=some (.t (.tup [.str "within",.int k,d1]),[T4,.dct E4]):=by
 have hh:dj [D.str "not",.str "next",.str "always",.str "some"] 3=some (.str "some"):=rfl;simp[aJ,cC,p1,p2,hh,p4,aB]
end
def P9:Nat->FM×FM
 | 0=>(fun _=>none,fun _=>none)
 | j+1=>(aJ 9 (br gg jd (P9 j).1 (P9 j).2),aJ 9 (cC gg (P9 j).1))
def tX (j:Nat):FM:=(P9 j).1
def Hw (j:Nat):FM:=(P9 j).2
def J0 (j:Nat):∀us r,tX (j+1) us=some r->aJ 9 (br gg jd (tX j) (Hw j)) us=some r:=fun _ _ h=>h
def J1 (j:Nat):∀us r,Hw (j+1) us=some r->aJ 9 (cC gg (tX j)) us=some r:=fun _ _ h=>h
def EI (us:List U):tX 0 us=none:=rfl
def EJ (us:List U):Hw 0 us=none:=rfl
def Hx (f:FM) (deep room:Nat):Prop:=∀(t:iC) (bs:BBB) (b:Nat),0<=t.n->t.n+8 * room < 700000->bs.length+deep < 800->(∀z∈bs,z.length<=8)->b<=3->
 ∃(d:D) (t':iC) (bin:Nat),f [.b (tp t),.b (.dct (Dn b)),.t (.tup (bs.map D.str)),.t (.int room),.t (.int deep)]=some (.t d,[tp t',.dct (Dn ((b+bin:Nat):Int))])/\Dr deep bs room bin d/\b+bin<=3/\t.n<=t'.n/\t'.n<=t.n+8 * room
def EK (h:z.length<=8):xE 8 (.str z):=h
def vH (c:c8 z=(r.length:Int)+1) (n1:z≠"now") (n2:z≠"within") (hb:bB z=false):b9 bs z r=true:=AX c n1 (fun q=>n2 q.1) hb
def Hy {f:FM}{deep:Nat}(hr:2<=room) (hd:2<=deep) (ih:Hx f (deep - 1) (room - 1)):
  ∀(t:iC) (bs:BBB) (b:Nat),0<=t.n->t.n+8 * room < 700002->bs.length+deep < 800->(∀z∈bs,z.length<=8)->b<=3->
  ∃(d:D) (t':iC) (bin:Nat),aJ 9 (cC gg f) [.b (tp t),.b (.dct (Dn b)),.t (.tup (bs.map D.str)),.t (.int room),.t (.int deep)]=some (.t d,[tp t',.dct (Dn ((b+bin:Nat):Int))])/\Dr deep bs room bin d/\b+bin<=3/\t.n<=t'.n/\t'.n+1<=t.n+8 * room:=by
 intro t bs b t0 t1 hl hs hb;obtain⟨n,rfl⟩:∃n,deep=n+1:=⟨deep - 1,by lia⟩
 obtain⟨rm,rfl⟩:∃m,room=m+1:=⟨room - 1,by lia⟩
 have ih:Hx f n rm:=ih;have er:(((rm+1:Nat):Int) - 1)=(rm:Int):=by lia
 have ed:(((n+1:Nat):Int) - 1)=(n:Int):=by lia
 have p1:=dI (t:=t) (m:=8) (by lia) (by lia) t0 (by lia);obtain⟨w0,w1⟩:=bQ (t:=t) (m:=8) (by lia);have Uy:(cu t 8).n=t.n+1:=dH t 8;generalize eL t 8=w at *;generalize cu t 8=ta at *;by_cases c:w < 3/\(b:Int) < 3
 ·have p2:=dI (t:=ta) (m:=4) (by lia) (by lia) (by lia) (by lia);obtain⟨x0,x1⟩:=bQ (t:=ta) (m:=4) (by lia);have NQ:(cu ta 4).n=ta.n+1:=dH ta 4;generalize eL ta 4=x at *;generalize cu ta 4=tb at *;have p3:=dI (t:=tb) (m:=(Bm.length:Nat)) (by rw[uv];lia) (by rw[uv];lia) (by lia) (by lia);obtain⟨m0,m1⟩:=bQ (t:=tb) (m:=(Bm.length:Nat)) (by rw[uv];lia);have VF:(cu tb (Bm.length:Nat)).n=tb.n+1:=dH tb _;generalize eL tb (Bm.length:Nat)=m at *;generalize cu tb (Bm.length:Nat)=tc at *;obtain⟨nm,a1,a2,a3⟩:=Lc m0 (by rw[uv] at m1;exact m1);obtain⟨xd,b1,b2⟩:=s8 (x:=.bN) (l:=[.str "x",.str "k",.str "a",.str "ab"]) x0 x1;obtain⟨hd,d1,d2⟩:=s8 (x:=.bN) (l:=[.str "each",.str "one"]) (i:=w % 2) (ZP _ (by decide)) (ZC _ (by decide));obtain⟨xs,rfl,xn,xl⟩:∃xs,xd= .str xs/\nameB (.str xs)=true/\xs.length<=8:=by
   simp only[XT,Yi,YF] at b2;rcases b2 with rfl | rfl | rfl | rfl <;> exact⟨_,rfl,by decide +kernel,by decide⟩
  obtain⟨hs2,rfl,hbn,Xg,Gz⟩:∃z,hd= .str z/\bB z=true/\z.length<=8/\c8 z=4/\cK z=3/\z≠"now"/\z≠"within":=by
   simp only[XT,Yi,YF] at d2;rcases d2 with rfl | rfl <;> exact⟨_,rfl,by decide,by decide,by decide,by decide,by decide,by decide⟩
  obtain⟨l4,s3,n1,n2⟩:=Gz;obtain⟨d,t',bin,g1,g2,g3,g4,g5⟩:=ih tc (bs++[xs]) (b+1) (by lia) (by lia) (by rw[X4,Zi];lia) (by
   intro z hz;rcases Yb.mp hz with q | q
   ·exact hs z q
   ·rw[show z=xs by simpa using q];exact xl) (by lia)
  have ev:(bs++[xs]).map D.str=bs.map D.str++[.str xs]:=by rw[YN];rfl
  have Xh:((b+1:Nat):Int)=(b:Int)+1:=by lia
  rw[ev,Xh] at g1;have sh:b9 bs hs2 [.str nm,.str xs,d]=true:=by
   unfold b9;rw[if_pos (by rw[l4];rfl)];simp only[n1,n2,Zl,hbn,if_true,a2,xn];rfl
  have pl:aV hs2 [.str nm,.str xs,d]=[d]:=by unfold aV;rw[s3];rfl
  have ib:cA bs hs2 [.str nm,.str xs,d]=bs++[xs]:=by unfold cA;rw[if_pos hbn];rfl
  have dr:=Uz (n:=n) (room:=rm) (b:=bin) (bs:=bs) (z:=hs2) (r:=[.str nm,.str xs,d]) sh pl (by rw[ib];exact g2) ⟨(by show 4<=8;lia),EK Xg,EK a3,EK xl,g2.fit,True.intro⟩ (by
   have:=g2.dep;show max 0 (max 0 (max 0 (max (bX d) 0)))+1<=n+2;lia)
  rw[if_pos hbn] at dr;refine⟨_,t',1+bin,?_,dr,by lia,by lia,by lia⟩;have UA:((b+(1+bin):Nat):Int)=((b+1+bin:Nat):Int):=by lia
  rw[UA];exact MP (f1:=gg) (f2:=f) (ws:=Dn b) (GH:=Dn ((b:Int)+1)) (E4:=Dn ((b+1+bin:Nat):Int)) p1 c.1 (Lb b) c.2 (by show 2 < 100000;lia) (P7 b _) (La _) p2 b1 d1 p3 a1 (by rw[X3];lia) (by rw[er,ed];exact g1)
 ·by_cases cw:w=3
  ·subst cw;have p2:=dI (t:=ta) (m:=6) (by lia) (by lia) (by lia) (by lia);obtain⟨x0,x1⟩:=bQ (t:=ta) (m:=6) (by lia);have NQ:(cu ta 6).n=ta.n+1:=dH ta 6;generalize eL ta 6=x at *;generalize cu ta 6=tb at *;obtain⟨d,t',bin,g1,g2,g3,g4,g5⟩:=ih tb bs b (by lia) (by lia) (by lia) hs hb;have sh:b9 bs "within" [.int x,d]=true:=by
    unfold b9;rw[if_pos (by rw[Dm.2];rfl)];simp only[show ¬(("within":Str)="now") by decide,Zl,if_true];show(decide (0<=x) && decide (x<=5))=true;simp only[Yo,YK];lia
   have pl:aV "within" [.int x,d]=[d]:=by unfold aV;rw[show cK "within" =2 by decide];rfl
   have nb:bB "within" =false:=by decide
   have ib:cA bs "within" [.int x,d]=bs:=by unfold cA;rw[if_neg (by rw[nb];simp)]
   have dr:=Uz (n:=n) (room:=rm) (b:=bin) (bs:=bs) (z:="within") (r:=[.int x,d]) sh pl (by rw[ib];exact g2) ⟨(by show 3<=8;lia),(by show 6<=8;lia),True.intro,g2.fit,True.intro⟩ (by
    have:=g2.dep;show max 0 (max 0 (max (bX d) 0))+1<=n+2;lia)
   rw[if_neg (by rw[nb];simp),Nat.zero_add] at dr;exact⟨_,t',bin,EH p1 p2 (by rw[er,ed];exact g1),dr,g3,by lia,by lia⟩
  ·obtain⟨d,t',bin,g1,g2,g3,g4,g5⟩:=ih ta bs b (by lia) (by lia) (by lia) hs hb;obtain⟨hd,d1,d2⟩:=s8 (x:=.bN) (l:=[.str "not",.str "next",.str "always",.str "some"]) (i:=w % 4) (ZP _ (by decide)) (ZC _ (by decide));obtain⟨z,rfl,nb,zl,l2,s1,n1,n2⟩:∃z,hd= .str z/\bB z=false/\z.length<=8/\c8 z=2/\cK z=1/\z≠"now"/\z≠"within":=by
    simp only[XT,Yi,YF] at d2;rcases d2 with rfl | rfl | rfl | rfl <;> exact⟨_,rfl,by decide,by decide,by decide,by decide,by decide,by decide⟩
   have sh:b9 bs z [d]=true:=vH (by rw[l2];rfl) n1 n2 nb;have pl:aV z [d]=[d]:=by unfold aV;rw[s1];rfl
   have ib:cA bs z [d]=bs:=by unfold cA;rw[if_neg (by rw[nb];simp)]
   have dr:=Uz (n:=n) (room:=rm) (b:=bin) (bs:=bs) (z:=z) (r:=[d]) sh pl (by rw[ib];exact g2) ⟨(by show 2<=8;lia),EK zl,g2.fit,True.intro⟩ (by
    have:=g2.dep;show max 0 (max (bX d) 0)+1<=n+2;lia)
   rw[if_neg (by rw[nb];simp),Nat.zero_add] at dr;exact⟨_,t',bin,MQ p1 (Lb b) c cw d1 (by rw[er,ed];exact g1),dr,g3,by lia,by lia⟩
def MR:∀(deep:Nat),1<=deep->∀(j room:Nat),2 * deep<=j->1<=room->room<=100->Hx (tX j) deep room:=by
 intro deep
 induction deep with
 | zero=>intro h;lia
 | succ n ih=>
  intro _ j room hj hr XF t bs b t0 t1 hl hs hb;obtain⟨i,rfl⟩:∃i,j=i+2:=⟨j - 2,by lia⟩
  have p1:=dI (t:=t) (m:=9) (by lia) (by lia) t0 (by lia);obtain⟨w0,w1⟩:=bQ (t:=t) (m:=9) (by lia);have Uy:(cu t 9).n=t.n+1:=dH t 9;generalize eL t 9=w at *;generalize cu t 9=ta at *;show ∃d t' bin,aJ 9 (br gg jd (tX (i+1)) (Hw (i+1))) _=_/\_;by_cases c:(room:Int) < 2\/((n+1:Nat):Int) < 2\/w=0
  ·by_cases c5:w % 5=4
   ·have p2:=dI (t:=ta) (m:=2) (by lia) (by lia) (by lia) (by lia);obtain⟨v0,v1⟩:=bQ (t:=ta) (m:=2) (by lia);have NQ:(cu ta 2).n=ta.n+1:=dH ta 2;generalize eL ta 2=v at *;generalize cu ta 2=tb at *;obtain⟨y,y1,y2⟩:=s8 (x:=.bN) (l:=[.str "yes",.str "no"]) v0 v1;obtain⟨z,rfl,nb,zl,l2,s1,n1,n2⟩:∃z,y= .str z/\bB z=false/\z.length<=8/\c8 z=1/\cK z=1/\z≠"now"/\z≠"within":=by
     simp only[XT,Yi,YF] at y2;rcases y2 with rfl | rfl <;> exact⟨_,rfl,by decide,by decide,by decide,by decide,by decide,by decide⟩
    refine⟨_,tb,0,ML p1 c c5 p2 y1,VG (vH (by rw[l2];rfl) n1 n2 nb) (by unfold aV;rw[s1];rfl) nb hr ⟨(by show 1<=8;lia),EK zl,True.intro⟩ (by show max 0 0+1<=n+2;lia),hb,by lia,by lia⟩
   ·obtain⟨d,t',g1,g2,g3,g4,g5,g6⟩:=Hv (t:=ta) (bs:=bs) (by lia) (by lia) (by lia) hs;refine⟨_,t',0,MM p1 c c5 (La b) g1,VG (z:="now") (r:=[d]) ?_ (by unfold aV;rw[show cK "now" =2 by decide];rfl) (by decide) hr ⟨(by show 2<=8;lia),(by show 3<=8;lia),g3,True.intro⟩ (by show max 0 (max (bX d) 0)+1<=n+2;lia),hb,by lia,by lia⟩;unfold b9;rw[if_pos (by rw[Dm.1];rfl)];simp only[if_true];exact g2
  ·have c1:¬(room:Int) < 2:=fun q=>c (.inl q);have c2:¬((n+1:Nat):Int) < 2:=fun q=>c (.inr (.inl q));have c3:¬w=0:=fun q=>c (.inr (.inr q));have ed:(((n+1:Nat):Int) - 1)=(n:Int):=by lia
   by_cases c4:w < 5/\2 < (room:Int)
   ·have p2:=dI (t:=ta) (m:=(room:Int) - 2) (by lia) (by lia) (by lia) (by lia);obtain⟨v0,v1⟩:=bQ (t:=ta) (m:=(room:Int) - 2) (by lia);have NQ:(cu ta ((room:Int) - 2)).n=ta.n+1:=dH ta _;generalize eL ta ((room:Int) - 2)=v at *;generalize cu ta ((room:Int) - 2)=tb at *;obtain⟨r1,hr1⟩:∃r1:Nat,(r1:Int)=1+v:=⟨(1+v).toNat,by lia⟩
    obtain⟨r2,hr2⟩:∃r2:Nat,(r2:Int)=(room:Int) - 1 - (1+v):=⟨((room:Int) - 1 - (1+v)).toNat,by lia⟩
    obtain⟨d1,Xi,b1,g1,g2,g3,g4,g5⟩:=ih (by lia) (i+1) r1 (by lia) (by lia) (by lia) tb bs b (by lia) (by lia) (by lia) hs hb;obtain⟨d2,Xj,b2,k1,k2,k3,k4,k5⟩:=ih (by lia) (i+1) r2 (by lia) (by lia) (by lia) Xi bs (b+b1) (by lia) (by lia) (by lia) hs g3;obtain⟨y,y1,y2⟩:=s8 (x:=.bN) (l:=[.str "both",.str "either",.str "till",.str "till"]) (i:=w - 1) (by lia) (by simp only[X8,Zz];lia);obtain⟨z,rfl,nb,zl,l2,s1,n1,n2⟩:∃z,y= .str z/\bB z=false/\z.length<=8/\c8 z=3/\cK z=1/\z≠"now"/\z≠"within":=by
     simp only[XT,Yi,YF] at y2;rcases y2 with rfl | rfl | rfl | rfl <;> exact⟨_,rfl,by decide,by decide,by decide,by decide,by decide,by decide⟩
    have dr:=Xf (n:=n) (bs:=bs) (z:=z) (r:=[d1,d2]) (vH (by rw[l2];rfl) n1 n2 nb) (by unfold aV;rw[s1];rfl) nb g2 k2 ⟨(by show 3<=8;lia),EK zl,g2.fit,k2.fit,True.intro⟩ (by
     have:=g2.dep;have:=k2.dep;show max 0 (max (bX d1) (max (bX d2) 0))+1<=n+2;lia)
    have UA:((b+(b1+b2):Nat):Int)=((b+b1+b2:Nat):Int):=by lia
    refine⟨_,Xj,b1+b2,?_,dr.more (by lia),by lia,by lia,by lia⟩;rw[UA];rw[hr1] at g1;rw[hr2] at k1;exact MN p1 c1 c2 c3 c4.1 c4.2 p2 (by rw[ed];exact g1) (by rw[ed];exact k1) y1
   ·obtain⟨d,t',bin,g1,g2,g3,g4,g5⟩:=Hy (f:=tX i) (deep:=n+1) (room:=room) (by lia) (by lia) (ih (by lia) i (room - 1) (by lia) (by lia) (by lia)) ta bs b (by lia) (by lia) hl hs hb;exact⟨d,t',bin,P8 p1 c1 c2 c3 c4 g1,g2,g3,by lia,by lia⟩
end Ss
end
section
namespace Sp
open PySem PySem.Spec PyProof.Rows L2 Sw Ss
variable {zs bs:BBB}{z:Str}{a:D}{n k n2 k2:Nat}
noncomputable def MS:BBB:=["not","next","always","some"]
noncomputable def MT:BBB:=["both","either","till"]
inductive Ts (bs:BBB):D->Prop where
 | any:Ts bs (.tup [.str "any"])
 | name {a:Str}:nameB (.str a)=true->Ts bs (.tup [.str "name",.str a])
 | num {o:Str}{k:Int}:o∈jL->0<=k->k<=9->Ts bs (.tup [.str o,.int k])
 | var {o y:Str}:o∈jL->y∈bs->Ts bs (.tup [.str o,.str y])
inductive Sy:Nat->BBB->D->Prop where
 | leaf {n:Nat}{bs:BBB}{z:Str}:z="yes"\/z="no"->Sy (n+1) bs (.tup [.str z])
 | now {n:Nat}{bs:BBB}{t:D}:Ts bs t->Sy (n+1) bs (.tup [.str "now",t])
 | one {n:Nat}{bs:BBB}{z:Str}{p:D}:z∈MS->Sy n bs p->Sy (n+1) bs (.tup [.str z,p])
 | two {n:Nat}{bs:BBB}{z:Str}{p q:D}:z∈MT->Sy n bs p->Sy n bs q->Sy (n+1) bs (.tup [.str z,p,q])
 | yr {n:Nat}{bs:BBB}{k:Int}{p:D}:0<=k->k<=5->Sy n bs p->Sy (n+1) bs (.tup [.str "within",.int k,p])
 | bnd {n:Nat}{bs:BBB}{z a y:Str}{p:D}:z="each"\/z="one"->nameB (.str a)=true->nameB (.str y)=true->Sy n (bs++[y]) p->Sy (n+1) bs (.tup [.str z,.str a,.str y,p])
def zy {x:D}(h:inD x (zs.map D.str)=true):∃z∈zs,x= .str z:=by
 unfold inD at h;rw[List.any_map,aa5] at h;obtain⟨z,hz,e⟩:=h;exact⟨z,hz,qY (show kD (.str z) x=true from e)⟩
def iD (h:z∈zs):inD (.str z) (zs.map D.str)=true:=by
 unfold inD;rw[List.any_map,aa5];exact⟨z,h,pX _⟩
def yt {b:D}{m:Int}(h:fu b 0 m=true):∃k,b= .int k/\0<=k/\k<=m:=by
 cases b with
 | int k=>simp only[fu,Yo,YK] at h;exact⟨k,rfl,h.1,h.2⟩
 | _=>cases h
def Ts.of {t:D}(h:gR bs t=true):Ts bs t:=by
 unfold gR at h;split at h
 ·rename_i a;have:kD (.str "any") a=true:=by cases a <;> simp[kD] at h ⊢;exact h.symm
  rw[qY this];exact .any
 ·rename_i a b;split at h
  ·rename_i c;have:kD (.str "name") a=true:=by cases a <;> simp[kD] at c ⊢;exact c.symm
   rw[qY this];obtain⟨y,rfl⟩:=kj h;exact .name h
  ·obtain⟨h1,h2⟩:=Y0.mp h;obtain⟨o,ho,rfl⟩:=zy h1;rcases Bool.or_eq_true_iff.mp h2 with q | q
   ·obtain⟨k,rfl,k0,k1⟩:=yt q;exact .num ho k0 k1
   ·obtain⟨y,hy,rfl⟩:=zy q;exact .var ho hy
 ·cases h
def je {o:Str}(h:o∈jL):o≠"name"/\o≠"any":=by
 simp only[jL,XT,Yi,YF] at h;rcases h with rfl | rfl | rfl <;> decide
def Ts.test {t:D}(h:Ts bs t):gR bs t=true:=by
 cases h with
 | any=>rfl
 | name h=>simp[gR,h]
 | num ho k0 k1=>
  have:=iD ho;have n:=(je ho).1;simp[gR,this,n,fu,k0,k1]
 | var ho hy=>
  have h1:=iD ho;have h2:=iD hy;have n:=(je ho).1;simp[gR,h1,h2,n]
theorem Sy.of:∀{n:Nat}{bs:BBB}{d:D},bL n bs d=true->Sy n bs d
 | 0,_,_,h=>by cases h
 | n+1,bs,d,h=>by
  obtain⟨z,r,rfl,hs,hp⟩:=kW h;obtain⟨c,hh,hz⟩:=i9 hs;unfold b9 at hs;rw[if_pos c] at hs;simp only[gT,XT,Yi,YF] at hz;have two:∀{k:Nat},c8 z=(k:Int)+1->r.length=k:=fun e=>by lia
  have l0:r.length=0->r=[]:=aav;have l1:r.length=1->∃a,r=[a]:=fun e=>by match r,e with | [a],_=>exact⟨a,rfl⟩
  have l2:r.length=2->∃a b,r=[a,b]:=fun e=>by match r,e with | [a,b],_=>exact⟨a,b,rfl⟩
  have l3:r.length=3->∃a b p,r=[a,b,p]:=fun e=>by match r,e with | [a,b,p],_=>exact⟨a,b,p,rfl⟩
  rcases hz with rfl | rfl | rfl | rfl | rfl | rfl | rfl | rfl | rfl | rfl | rfl | rfl | rfl
  ·rw[l0 (two (k:=0) (by decide))];exact .leaf (.inl rfl)
  ·rw[l0 (two (k:=0) (by decide))];exact .leaf (.inr rfl)
  ·obtain⟨a,rfl⟩:=l1 (two (k:=1) (by decide));exact .now (.of hs)
  ·obtain⟨a,rfl⟩:=l1 (two (k:=1) (by decide));exact .one (by decide) (Sy.of (hp a (by show a∈[a];simp)))
  ·obtain⟨a,b,rfl⟩:=l2 (two (k:=2) (by decide));exact .two (by decide) (Sy.of (hp a (by show a∈[a,b];simp))) (Sy.of (hp b (by show b∈[a,b];simp)))
  ·obtain⟨a,b,rfl⟩:=l2 (two (k:=2) (by decide));exact .two (by decide) (Sy.of (hp a (by show a∈[a,b];simp))) (Sy.of (hp b (by show b∈[a,b];simp)))
  ·obtain⟨a,rfl⟩:=l1 (two (k:=1) (by decide));exact .one (by decide) (Sy.of (hp a (by show a∈[a];simp)))
  ·obtain⟨a,b,rfl⟩:=l2 (two (k:=2) (by decide));exact .two (by decide) (Sy.of (hp a (by show a∈[a,b];simp))) (Sy.of (hp b (by show b∈[a,b];simp)))
  ·obtain⟨a,b,rfl⟩:=l2 (two (k:=2) (by decide));obtain⟨k,rfl,k0,k1⟩:=yt (m:=5) hs;exact .yr k0 k1 (Sy.of (hp b (by show b∈[b];simp)))
  ·obtain⟨a,rfl⟩:=l1 (two (k:=1) (by decide));exact .one (by decide) (Sy.of (hp a (by show a∈[a];simp)))
  ·obtain⟨a,rfl⟩:=l1 (two (k:=1) (by decide));exact .one (by decide) (Sy.of (hp a (by show a∈[a];simp)))
  ·obtain⟨a,b,p,rfl⟩:=l3 (two (k:=3) (by decide));obtain⟨h1,h2⟩:=Y0.mp (show(nameB a && nameB b)=true from hs);obtain⟨x,rfl⟩:=kj h1;obtain⟨y,rfl⟩:=kj h2;exact .bnd (.inl rfl) h1 h2 (Sy.of (hp p (by show p∈[p];simp)))
  ·obtain⟨a,b,p,rfl⟩:=l3 (two (k:=3) (by decide));obtain⟨h1,h2⟩:=Y0.mp (show(nameB a && nameB b)=true from hs);obtain⟨x,rfl⟩:=kj h1;obtain⟨y,rfl⟩:=kj h2;exact .bnd (.inr rfl) h1 h2 (Sy.of (hp p (by show p∈[p];simp)))
def kr (h:z∈MS):z="not"\/z="next"\/z="always"\/z="some":=by simpa[MS] using h
def ku (h:z∈MT):z="both"\/z="either"\/z="till":=by simpa[MT] using h
def Sy.bL {n:Nat}{bs:BBB}{d:D}(h:Sy n bs d):bL n bs d=true:=by
 induction h with
 | leaf h=>rcases h with rfl | rfl <;> rfl
 | @now n bs t h=>have e:=h.test;rw[eU];exact⟨e,fun p hp=>by cases hp⟩
 | one hz _ ih=>rcases kr hz with rfl | rfl | rfl | rfl <;> (rw[eU];exact⟨rfl,fun p hp=>by rw[XU.mp (show p∈[_] from hp)];exact ih⟩)
 | two hz _ _ i1 i2=>
  have two:∀{p q x:D}{f:D->Prop},f p->f q->x∈[p,q]->f x:=fun h1 h2 hx=>by
   rcases XT.mp hx with e | e
   ·rw[e];exact h1
   ·rw[XU.mp e];exact h2
  rcases ku hz with rfl | rfl | rfl <;> (rw[eU];exact⟨rfl,fun p hp=>two (f:=fun x=>Ss.bL _ _ x=true) i1 i2 hp⟩)
 | @yr n bs k p k0 k1 _ ih=>rw[eU];exact⟨by show fu (.int k) 0 5=true;simp[fu,k0,k1],fun p hp=>by rw[XU.mp (show p∈[_] from hp)];exact ih⟩
 | @bnd n bs z a y p hz h1 h2 _ ih=>
  rcases hz with rfl | rfl <;> (rw[eU];exact⟨by show(nameB (.str a) && nameB (.str y))=true;rw[h1,h2];rfl,fun p hp=>by rw[XU.mp (show p∈[_] from hp)];exact ih⟩)
def EL {c:Nat}(h:Ce ⟨#[c]⟩=true):c < 16 ^ 8:=by
 obtain⟨i,hi⟩:=(PySem.StrLaws.found_iff Sw.P0 ⟨#[c]⟩).mp h;have:=(PySem.StrLaws.subAt_one Sw.P0 c i).mp hi;have k:∀c∈Sw.P0.cps.toList,c < 16 ^ 8:=by decide +kernel
 exact k c (Yn this)
def dc (h:nameB (.str z)=true):Sane (.str z)/\z.length<=8:=by
 unfold nameB at h;simp only[Yo,YK,Zu] at h;exact⟨fun c hc=>EL (h.2 _ (YZ.mpr ⟨c,hc,rfl⟩)),h.1.2⟩
def Wd (z:Str):Prop:=Sane (.str z)/\z.length<=8
def jf (z:Str) (h:(z.cps.toList.all fun c=>decide (c < 16 ^ 8))=true) (h8:z.length<=8):Wd z:=⟨fun c hc=>Z9 (Zu.mp h c hc),h8⟩
def good_str (h:Wd z):Good 82 0 (.str z):=⟨h.1,by show 10 * z.length+2<=82;have:=h.2;lia,XW _⟩
def good_int {k:Int}(h0:0<=k) (h9:k<=9):Good 40 0 (.int k):=by
 refine⟨?_,XW _,XW _⟩;show k.natAbs < 10 ^ 30;have:k.natAbs<=9:=by lia
 exact Zf this (by decide)
def yu (h:Good n k a):Good (n+6) (k+1) (.tup [a]):=⟨⟨h.vm,True.intro⟩,by show wD a+2+0+4<=_;have:=h.w;lia,by show max (bX a) 0+1<=_;have:=h.dep;lia⟩
def kB {b:D}(h:Good n k a) (g:Good n2 k2 b):Good (n+n2+8) (max k k2+1) (.tup [a,b]):=⟨⟨h.vm,g.vm,True.intro⟩,by show wD a+2+(wD b+2+0)+4<=_;have:=h.w;have:=g.w;lia,by show max (bX a) (max (bX b) 0)+1<=_;have:=h.dep;have:=g.dep;lia⟩
def yw {b c:D}{n3 k3:Nat}(h:Good n k a) (g:Good n2 k2 b) (j:Good n3 k3 c):Good (n+n2+n3+10) (max k (max k2 k3)+1) (.tup [a,b,c]):=
 ⟨⟨h.vm,g.vm,j.vm,True.intro⟩,by show wD a+2+(wD b+2+(wD c+2+0))+4<=_;have:=h.w;have:=g.w;have:=j.w;lia,by show max (bX a) (max (bX b) (max (bX c) 0))+1<=_;have:=h.dep;have:=g.dep;have:=j.dep;lia⟩
def EM {b c d:D}{n3 k3 n4 k4:Nat}(h:Good n k a) (g:Good n2 k2 b) (j:Good n3 k3 c) (l:Good n4 k4 d):Good (n+n2+n3+n4+12) (max k (max k2 (max k3 k4))+1) (.tup [a,b,c,d]):=
 ⟨⟨h.vm,g.vm,j.vm,l.vm,True.intro⟩,by show wD a+2+(wD b+2+(wD c+2+(wD d+2+0)))+4<=_;have:=h.w;have:=g.w;have:=j.w;have:=l.w;lia,by show max (bX a) (max (bX b) (max (bX c) (max (bX d) 0)))+1<=_;have:=h.dep;have:=g.dep;have:=j.dep;have:=l.dep;lia⟩
def zz {o:Str}(h:o∈jL):Wd o:=by
 simp only[jL,XT,Yi,YF] at h;rcases h with rfl | rfl | rfl <;> exact jf _ (by decide +kernel) (by decide)
def Ts.good {t:D}(h:Ts bs t) (hw:∀y∈bs,Wd y):Good 172 1 t:=by
 cases h with
 | any=>exact(yu (good_str (jf "any" (by decide +kernel) (by decide)))).mono (by decide) (by decide)
 | name h=>exact(kB (good_str (jf "name" (by decide +kernel) (by decide))) (good_str (dc h))).mono (by decide) (by decide)
 | num a b c=>exact(kB (good_str (zz a)) (good_int b c)).mono (by decide) (by decide)
 | var a b=>exact(kB (good_str (zz a)) (good_str (hw _ b))).mono (by decide) (by decide)
def Sy.good {n:Nat}{bs:BBB}{d:D}(h:Sy n bs d) (hw:∀y∈bs,Wd y):Good (400 * 2 ^ n - 300) (n+1) d:=by
 have pw:∀n:Nat,1<=2 ^ n:=fun n=>Nat.one_le_two_pow
 induction h with
 | @leaf n bs z h=>have:=pw n;exact(yu (good_str (by rcases h with rfl | rfl <;> exact jf _ (by decide +kernel) (by decide)))).mono (by rw[ZG];lia) (by lia)
 | @now n bs t h=>have:=pw n;exact(kB (good_str (jf "now" (by decide +kernel) (by decide))) (h.good hw)).mono (by rw[ZG];lia) (by lia)
 | @one n bs z p hz _ ih=>have:=pw n;exact(kB (good_str (by rcases kr hz with rfl | rfl | rfl | rfl <;> exact jf _ (by decide +kernel) (by decide))) (ih hw)).mono (by rw[ZG];lia) (by lia)
 | @two n bs z p q hz _ _ i1 i2=>have:=pw n;exact(yw (good_str (by rcases ku hz with rfl | rfl | rfl <;> exact jf _ (by decide +kernel) (by decide))) (i1 hw) (i2 hw)).mono (by rw[ZG];lia) (by lia)
 | @yr n bs k p a b _ ih=>have:=pw n;exact(yw (good_str (jf "within" (by decide +kernel) (by decide))) (good_int a (by lia)) (ih hw)).mono (by rw[ZG];lia) (by lia)
 | @bnd n bs z a y p hz ha hb _ ih=>
  have:=pw n;exact(EM (good_str (by rcases hz with rfl | rfl <;> exact jf _ (by decide +kernel) (by decide))) (good_str (dc ha)) (good_str (dc hb)) (ih fun w UB=>by
   rcases Yb.mp UB with q | q
   ·exact hw w q
   ·rw[XU.mp q];exact dc hb)).mono (by rw[ZG];lia) (by lia)
def dg:GS:=
 (cy (eT (eQ (ia (qB (eF (eP sQ (aa (nN 0) (aa (eC (.int 2)) aA))))) (ia (qB (eF (eP Gp (aa (bJ 0 (eC (.int 0))) (aa (eC (.str "name")) aA))))) (qB (Gu ["str"] (bJ 0 (eC (.int 1))))))))))
def dW (jN:FM) (c9:FM) (gW:FM) (fE:FM):GS:=
 (gQ (eT (eM 2 dG (aa (eF (aT gW (aU (eF (aE 3)) (aU (eF (aT fE (aU (eF (aE 0)) (aU (eF (aE 1)) bx)))) bx)))) aA))))
def bA (jN:FM) (c9:FM) (gW:FM) (fE:FM):GS:=
 (bf (mj (ia (qB (eF (eP sQ (aa (bJ 0 (eC (.int 0))) (aa (eC (.str "now")) aA))))) (ia (qB (eF (aT jN (aU (bJ 0 (eC (.int 1))) bx)))) (qB (eF (eP f9 (aa (eF (eP ug (aa (bJ 0 (eC (.int 1))) (aa (eC (.int 1)) aA)))) (aa (eF (aE 1)) aA))))))) (cy (eP cG (aa (eF (eP ug (aa (bJ 0 (eC (.int 1))) (aa (eC (.int 1)) aA)))) aA))) eG)
 (bf (cP 2 (eP cG aA))
 (bf (tT (bName 3) (pS (eF (aT c9 (aU (eF (aE 0)) bx)))) (dW jN c9 gW fE))
 (cy (aE 2)))))
def J2:FM:=aJ 1 dg
def MU:∀us r,J2 us=some r->aJ 1 dg us=some r:=fun _ _ h=>h
noncomputable def J3:D->Bool
 | .tup [.str o,.str _]=>decide (o≠"name")
 | _=>false
def yx {t:D}(h:Ts bs t):J2 [.t t]=some (.t (.bl (J3 t)),[]):=by
 cases h with
 | any=>simp[J2,aJ,dg,aB,J3]
 | @name a h=>simp[J2,aJ,dg,aB,J3,bq]
 | @num o k a b c=>have n:=(je a).1;simp[J2,aJ,dg,aB,J3,bq,bG,n,d9,iB,gZ]
 | @var o y a b=>have n:=(je a).1;simp[J2,aJ,dg,aB,J3,bq,bG,n,d9,iB,gZ]
section
variable {f1 f2 f3 f4:FM}{d bd ib t:D}{z:Str}{r:List D}{pl:List D}
def Hz:∀(pl:List D) (x3:Option U),ie x3=false->(∀p∈pl,f3 [.t p,.t ib]=some (.m (.lst []),[]))->f4 [.t d,.t bd]=some (.t ib,[])->
  ∃y3,loop (bName 3) (dW f1 f2 f3 f4) pl [XM d,XM bd,XN [],x3]=some (.nx [XM d,XM bd,XN [],y3]):=by
 intro pl x3 h3 hp hb;obtain⟨S',e,y,hy,rfl⟩:=qi (bd:=bName 3) (body:=dW f1 f2 f3 f4) pl (fun _ S=>∃y,ie y=false/\S=[XM d,XM bd,XN [],y]) [XM d,XM bd,XN [],x3] ⟨x3,h3,rfl⟩ (by
  rintro k p S hk ⟨y,hy,rfl⟩;have:=hp p (Yn hk);exact⟨[XM d,XM bd,XN [],XM p],_,by simp[-gG,fj,hy],by simp[dW,hb,this];rfl,_,rfl,rfl⟩)
 exact⟨y,e⟩
def vI (hz:z≠"now") (e2:f2 [.t (.tup (.str z :: r))]=some (.t (.tup pl),[])) (e3:∀p∈pl,f3 [.t p,.t ib]=some (.m (.lst []),[])) (e4:f4 [.t (.tup (.str z :: r)),.t bd]=some (.t ib,[])):
  aJ 4 (bA f1 f2 f3 f4) [.t (.tup (.str z :: r)),.t bd]=some (.m (.lst []),[]):=by
 obtain⟨y,e⟩:=Hz (f1:=f1) (f2:=f2) pl none rfl e3 e4;simp[aJ,bA,aB,bq,hz,cJ,e2,e]
def qo {b:Bool}(e1:f1 [.t t]=some (.t (.bl b),[])) (h:b=true->∃o y:D,t= .tup [o,y]/\f9 [y,bd]=XM (.bl false)) (e2:f2 [.t (.tup [.str "now",t])]=some (.t (.tup []),[])):
  aJ 4 (bA f1 f2 f3 f4) [.t (.tup [.str "now",t]),.t bd]=some (.m (.lst []),[]):=by
 cases b with
 | false=>simp[aJ,bA,aB,bq,bG,e1,cJ,e2]
 | true=>
  obtain⟨o,y,rfl,hn⟩:=h rfl;simp[aJ,bA,aB,bq,bG,e1,cJ,e2,hn]
end
def zA:Nat->FM
 | 0=>fun _=>none
 | j+1=>aJ 4 (bA J2 fM (zA j) i8)
def J4 (j:Nat):∀us r,zA (j+1) us=some r->aJ 4 (bA J2 fM (zA j) i8) us=some r:=fun _ _ h=>h
def EN (us:List U):zA 0 us=none:=rfl
def bT {r:List D}(hz:z∈gT){pl:List D}(h:(.str z :: r).drop (cK z)=pl):fM [.t (.tup (.str z :: r))]=some (.t (.tup pl),[]):=by rw[vD (zu z hz),h]
def dP (h:z∈MS):z∈gT/\cK z=1/\bB z=false/\z≠"now":=by rcases kr h with rfl | rfl | rfl | rfl <;> decide
def dQ (h:z∈MT):z∈gT/\cK z=1/\bB z=false/\z≠"now":=by rcases ku h with rfl | rfl | rfl <;> decide
def dh (h:z="yes"\/z="no"):z∈gT/\cK z=1/\bB z=false/\z≠"now":=by rcases h with rfl | rfl <;> decide
def dR:("within":Str)∈gT/\cK "within" =2/\bB "within" =false/\("within":Str)≠"now":=by decide
def dU (h:z="each"\/z="one"):z∈gT/\cK z=3/\bB z=true/\z≠"now":=by rcases h with rfl | rfl <;> decide
def cM:("now":Str)∈gT/\cK "now" =2:=by decide
def MV {d:D}(h:Sy n bs d):∀{j:Nat},n<=j->bs.length+n<=100->zA j [.t d,.t (.tup (bs.map D.str))]=some (.m (.lst []),[]):=by
 induction h with
 | @leaf n bs z h=>
  intro j hj hb;obtain⟨j,rfl⟩:∃i,j=i+1:=⟨j - 1,by lia⟩
  obtain⟨h1,h2,h3,h4⟩:=dh h;exact vI h4 (bT h1 (by rw[h2] <;> rfl)) (fun p hp=>by cases hp) (gU h3)
 | @now n bs t h=>
  intro j hj hb;obtain⟨j,rfl⟩:∃i,j=i+1:=⟨j - 1,by lia⟩
  refine qo (yx h) (fun hb=>?_) (bT cM.1 rfl);cases h with
  | any=>cases hb
  | name h=>exact absurd hb (by simp[J3])
  | num a b c=>cases hb
  | var a b=>exact⟨_,_,rfl,by rw[k6,iD b];rfl⟩
 | @one n bs z p hz _ ih=>
  intro j hj hb;obtain⟨j,rfl⟩:∃i,j=i+1:=⟨j - 1,by lia⟩
  obtain⟨h1,h2,h3,h4⟩:=dP hz;exact vI h4 (bT h1 (by rw[h2] <;> rfl)) (fun p hp=>by rw[XU.mp hp];exact ih (by lia) (by lia)) (gU h3)
 | @two n bs z p q hz _ _ i1 i2=>
  intro j hj hb;obtain⟨j,rfl⟩:∃i,j=i+1:=⟨j - 1,by lia⟩
  obtain⟨h1,h2,h3,h4⟩:=dQ hz;refine vI (pl:=[p,q]) h4 (bT h1 (by rw[h2] <;> rfl)) (fun x hx=>?_) (gU h3);rcases XT.mp hx with e | e
  ·rw[e];exact i1 (by lia) (by lia)
  ·rw[XU.mp e];exact i2 (by lia) (by lia)
 | @yr n bs k p _ _ _ ih=>
  intro j hj hb;obtain⟨j,rfl⟩:∃i,j=i+1:=⟨j - 1,by lia⟩
  obtain⟨h1,h2,h3,h4⟩:=dR;exact vI h4 (bT h1 rfl) (fun p hp=>by rw[XU.mp hp];exact ih (by lia) (by lia)) (gU h3)
 | @bnd n bs z a y p hz _ _ _ ih=>
  intro j hj hb;obtain⟨j,rfl⟩:∃i,j=i+1:=⟨j - 1,by lia⟩
  obtain⟨h1,h2,h3,h4⟩:=dU hz;have e:=rF (a:=.str a) (b:=.str y) (r:=[p]) (bs:=bs.map D.str) h3 (by rw[X3];lia);have ih':=fun hj hb=>ih (j:=j) hj hb;rw[YN] at ih';exact vI h4 (bT h1 (by rw[h2] <;> rfl)) (fun p hp=>by rw[XU.mp hp];exact ih' (by lia) (by rw[X4];show bs.length+1+n<=100;lia)) e
section
variable {a:Str}
def Uq (a b c d:D):dj [a,b,c,d] 3=some d:=rfl
end
def qp (h:z∈MS):eO [.t (.str z)]=some (.t (.tup [.int 2,.lst [.int 1]]),[]):=by rw[iL];rcases kr h with rfl | rfl | rfl | rfl <;> rfl
def qq (h:z∈MT):eO [.t (.str z)]=some (.t (.tup [.int 3,.lst [.int 1,.int 2]]),[]):=by rw[iL];rcases ku h with rfl | rfl | rfl <;> rfl
def n6 (h:z="yes"\/z="no"):eO [.t (.str z)]=some (.t (.tup [.int 1,.lst []]),[]):=by rw[iL];rcases h with rfl | rfl <;> rfl
def qu:eO [.t (.str "within")]=some (.t (.tup [.int 3,.lst [.int 2]]),[]):=by rw[iL];rfl
def qw (h:z="each"\/z="one"):eO [.t (.str z)]=some (.t (.tup [.int 4,.lst [.int 3]]),[]):=by rw[iL];rcases h with rfl | rfl <;> rfl
def Ts.fit {t:D}(h:Ts bs t) (hw:∀y∈bs,Wd y):xE 8 t:=by
 cases h with
 | any=>exact⟨by decide,by show 3<=8;lia,True.intro⟩
 | name h=>exact⟨by show 2<=8;lia,by show 4<=8;lia,(dc h).2,True.intro⟩
 | num a b c=>exact⟨by show 2<=8;lia,(zz a).2,True.intro,True.intro⟩
 | var a b=>exact⟨by show 2<=8;lia,(zz a).2,(hw _ b).2,True.intro⟩
def Sy.fit {n:Nat}{bs:BBB}{d:D}(h:Sy n bs d) (hw:∀y∈bs,Wd y):xE 8 d:=by
 induction h with
 | leaf h=>exact⟨by show 1<=8;lia,by rcases h with rfl | rfl <;> exact(jf _ (by decide +kernel) (by decide)).2,True.intro⟩
 | now h=>exact⟨by show 2<=8;lia,by show 3<=8;lia,h.fit hw,True.intro⟩
 | one hz _ ih=>exact⟨by show 2<=8;lia,by rcases kr hz with rfl | rfl | rfl | rfl <;> exact(jf _ (by decide +kernel) (by decide)).2,ih hw,True.intro⟩
 | two hz _ _ i1 i2=>exact⟨by show 3<=8;lia,by rcases ku hz with rfl | rfl | rfl <;> exact(jf _ (by decide +kernel) (by decide)).2,i1 hw,i2 hw,True.intro⟩
 | yr a b _ ih=>exact⟨by show 3<=8;lia,by show 6<=8;lia,True.intro,ih hw,True.intro⟩
 | bnd hz ha hb _ ih=>exact⟨by show 4<=8;lia,by rcases hz with rfl | rfl <;> exact(jf _ (by decide +kernel) (by decide)).2,(dc ha).2,(dc hb).2,ih fun w UB=>by
   rcases Yb.mp UB with q | q
   ·exact hw w q
   ·rw[XU.mp q];exact dc hb,True.intro⟩
end Sp
end
section
namespace S6
open PySem PySem.Spec PyProof.Rows L2 Sw Ss Sp
variable {n c:Nat}{vs zs us ns:BBB}{z:Str}{p q:D}{xs r A1 B1:List D}{k1 m1:Int}{x2 x3 x6 x7:Option U}
inductive Wk:Nat->BBB->D->Nat->Nat->Nat->BBB->BBB->Prop
 | leaf {n:Nat}{bs:BBB}{z:Str}:z="yes"\/z="no"->Wk (n+1) bs (.tup [.str z]) 1 1 0 [] []
 | any {n:Nat}{bs:BBB}:Wk (n+1) bs (.tup [.str "now",.tup [.str "any"]]) 1 1 0 [] []
 | name {n:Nat}{bs:BBB}{a:Str}:nameB (.str a)=true->Wk (n+1) bs (.tup [.str "now",.tup [.str "name",.str a]]) 1 1 0 [a] []
 | num {n:Nat}{bs:BBB}{o:Str}{k:Int}:o∈jL->0<=k->k<=9->Wk (n+1) bs (.tup [.str "now",.tup [.str o,.int k]]) 1 1 0 [] []
 | var {n:Nat}{bs:BBB}{o y:Str}:o∈jL->y∈bs->Wk (n+1) bs (.tup [.str "now",.tup [.str o,.str y]]) 1 1 0 [] []
 | free {n:Nat}{bs:BBB}{o y:Str}:o∈jL->y∉bs->Wk (n+1) bs (.tup [.str "now",.tup [.str o,.str y]]) 1 1 0 [] [y]
 | one {n c e b:Nat}{bs ns us:BBB}{z:Str}{p:D}:z∈MS->Wk n bs p c e b ns us->Wk (n+1) bs (.tup [.str z,p]) (c+1) (e+1) b ns us
 | two {n c e b c2 e2 b2:Nat}{bs ns us Le Bj:BBB}{z:Str}{p q:D}:z∈MT->Wk n bs p c e b ns us->Wk n bs q c2 e2 b2 Le Bj->Wk (n+1) bs (.tup [.str z,p,q]) (c+c2+1) (max e e2+1) (b+b2) (ns++Le) (us++Bj)
 | yr {n c e b:Nat}{bs ns us:BBB}{k:Int}{p:D}:0<=k->k<=5->Wk n bs p c e b ns us->Wk (n+1) bs (.tup [.str "within",.int k,p]) (c+1) (e+1) b ns us
 | bnd {n c e b:Nat}{bs ns us:BBB}{z a y:Str}{p:D}:z="each"\/z="one"->nameB (.str a)=true->nameB (.str y)=true->Wk n (bs++[y]) p c e b ns us->Wk (n+1) bs (.tup [.str z,.str a,.str y,p]) (c+1) (e+1) (b+1) (a :: ns) us
def Sy.wk {d:D}(h:Sy n vs d):∀bs:BBB,∃c e b ns us,Wk n bs d c e b ns us/\∀y∈us,y∈vs/\y∉bs:=by
 induction h with
 | leaf h=>exact fun bs=>⟨_,_,_,_,_,.leaf h,by simp⟩
 | now h=>
  intro bs;cases h with
  | any=>exact⟨_,_,_,_,_,.any,by simp⟩
  | name h=>exact⟨_,_,_,_,_,.name h,by simp⟩
  | num a b c=>exact⟨_,_,_,_,_,.num a b c,by simp⟩
  | @var o y a b=>
   by_cases q:y∈bs
   ·exact⟨_,_,_,_,_,.var a q,by simp⟩
   ·exact⟨_,_,_,_,_,.free a q,fun x hx=>by rw[XU.mp hx];exact⟨b,q⟩⟩
 | one hz _ ih=>intro bs;obtain⟨c,e,b,ns,us,w,k⟩:=ih bs;exact⟨_,_,_,_,_,.one hz w,k⟩
 | two hz _ _ i1 i2=>
  intro bs;obtain⟨c,e,b,ns,us,w,k⟩:=i1 bs;obtain⟨c2,e2,b2,Le,Bj,w2,k2⟩:=i2 bs;exact⟨_,_,_,_,_,.two hz w w2,fun y hy=>(Yb.mp hy).elim (k y) (k2 y)⟩
 | yr a b _ ih=>intro bs;obtain⟨c,e,b,ns,us,w,k⟩:=ih bs;exact⟨_,_,_,_,_,.yr a ‹_› w,k⟩
 | @bnd n vs z a y p hz h1 h2 _ ih=>
  intro bs;obtain⟨c,e,b,ns,us,w,k⟩:=ih (bs++[y]);refine⟨_,_,_,_,_,.bnd hz h1 h2 w,fun x hx=>?_⟩;obtain⟨k1,k2⟩:=k x hx;rw[Yb,XU] at k1 k2;exact⟨k1.resolve_right fun q=>k2 (.inr q),fun q=>k2 (.inl q)⟩
section
variable {n c e b:Nat}{bs ns us:BBB}{d:D}
def Wk.sy (h:Wk n bs d c e b ns us):∀vs:BBB,(∀y∈bs,y∈vs)->(∀y∈us,y∈vs)->Sy n vs d:=by
 induction h with
 | leaf h=>exact fun _ _ _=>.leaf h
 | any=>exact fun _ _ _=>.now .any
 | name h=>exact fun _ _ _=>.now (.name h)
 | num a b c=>exact fun _ _ _=>.now (.num a b c)
 | var a b=>exact fun _ k _=>.now (.var a (k _ b))
 | free a b=>exact fun _ _ k=>.now (.var a (k _ (by simp)))
 | one hz _ ih=>exact fun vs a b=>.one hz (ih vs a b)
 | two hz _ _ i1 i2=>exact fun vs a b=>.two hz (i1 vs a fun y hy=>b y (Yb.mpr (.inl hy))) (i2 vs a fun y hy=>b y (Yb.mpr (.inr hy)))
 | yr k0 k1 _ ih=>exact fun vs a b=>.yr k0 k1 (ih vs a b)
 | bnd hz h1 h2 _ ih=>
  refine fun vs a b=>.bnd hz h1 h2 (ih _ (fun y hy=>?_) fun y hy=>Yb.mpr (.inl (b y hy)));rcases Yb.mp hy with q | q
  ·exact Yb.mpr (.inl (a y q))
  ·exact Yb.mpr (.inr q)
def Wk.up (h:Wk n bs d c e b ns us):∀{m:Nat},n<=m->Wk m bs d c e b ns us:=by
 induction h with
 | leaf h=>intro m hm;obtain⟨m,rfl⟩:∃i,m=i+1:=⟨m - 1,by lia⟩;exact .leaf h
 | any=>intro m hm;obtain⟨m,rfl⟩:∃i,m=i+1:=⟨m - 1,by lia⟩;exact .any
 | name h=>intro m hm;obtain⟨m,rfl⟩:∃i,m=i+1:=⟨m - 1,by lia⟩;exact .name h
 | num a b c=>intro m hm;obtain⟨m,rfl⟩:∃i,m=i+1:=⟨m - 1,by lia⟩;exact .num a b c
 | var a b=>intro m hm;obtain⟨m,rfl⟩:∃i,m=i+1:=⟨m - 1,by lia⟩;exact .var a b
 | free a b=>intro m hm;obtain⟨m,rfl⟩:∃i,m=i+1:=⟨m - 1,by lia⟩;exact .free a b
 | one hz _ ih=>intro m hm;obtain⟨m,rfl⟩:∃i,m=i+1:=⟨m - 1,by lia⟩;exact .one hz (ih (by lia))
 | two hz _ _ i1 i2=>intro m hm;obtain⟨m,rfl⟩:∃i,m=i+1:=⟨m - 1,by lia⟩;exact .two hz (i1 (by lia)) (i2 (by lia))
 | yr k0 k1 _ ih=>intro m hm;obtain⟨m,rfl⟩:∃i,m=i+1:=⟨m - 1,by lia⟩;exact .yr k0 k1 (ih (by lia))
 | bnd hz h1 h2 _ ih=>intro m hm;obtain⟨m,rfl⟩:∃i,m=i+1:=⟨m - 1,by lia⟩;exact .bnd hz h1 h2 (ih (by lia))
def Wk.pos (h:Wk n bs d c e b ns us):1<=e/\e<=n/\ns.length<=c/\us.length<=c/\1<=c:=by
 induction h with
 | two _ _ _ i1 i2=>simp only[X4];lia
 | one _ _ ih=>lia
 | yr _ _ _ ih=>lia
 | bnd _ _ _ _ ih=>simp only[X8];lia
 | _=>simp
def k7 (h:z∈MS):aV z [p]=[p]:=by unfold aV;rw[(dP h).2.1];rfl
def k8 (h:z∈MT):aV z [p,q]=[p,q]:=by unfold aV;rw[(dQ h).2.1];rfl
def jO (h:z="yes"\/z="no"):aV z []=[]:=by unfold aV;rw[(dh h).2.1];rfl
def k9 {a:D}:aV "within" [a,p]=[p]:=by unfold aV;rw[dR.2.1];rfl
def lq {a y:D}(h:z="each"\/z="one"):aV z [a,y,p]=[p]:=by unfold aV;rw[(dU h).2.1];rfl
def bH {t:D}:aV "now" [t]=[]:=by unfold aV;rw[cM.2];rfl
def all_eq (z:Str) (r:List D):dO (n+1) (.tup (.str z :: r))= .tup (.str z :: r) :: (aV z r).flatMap (dO n):=rfl
inductive Nd:D->BBB->Prop
 | bnd {z a:Str}{r:List D}:bB z=true->z≠"now"->Nd (.tup (.str z :: .str a :: r)) [a]
 | nm {a:Str}:Nd (.tup [.str "now",.tup [.str "name",.str a]]) [a]
 | nn {o:Str}{r:List D}:o≠"name"->Nd (.tup [.str "now",.tup (.str o :: r)]) []
 | ot {z:Str}{r:List D}:z≠"now"->bB z=false->Nd (.tup (.str z :: r)) []
inductive Dp:List D->BBB->Prop
 | nil:Dp [] []
 | cons {x:D}{xs:List D}{l ls:BBB}:Nd x l->Dp xs ls->Dp (x :: xs) (l++ls)
def Dp.app {ys:List D}{l m:BBB}(h:Dp xs l) (k:Dp ys m):Dp (xs++ys) (l++m):=by
 induction h with
 | nil=>exact k
 | cons a _ ih=>rw[Zn];exact .cons a ih
def Wk.NR (h:Wk n bs d c e b ns us):Dp (dO n d) ns/\fG n d=c/\jM n d=b:=by
 have lf:∀{n:Nat}{z:Str}{r:List D}{l:BBB},aV z r=[]->bB z=false->Nd (.tup (.str z :: r)) l->Dp (dO (n+1) (.tup (.str z :: r))) l/\fG (n+1) (.tup (.str z :: r))=1/\jM (n+1) (.tup (.str z :: r))=0:=fun {n z r l} h1 h2 h3=>by
  have e:dO (n+1) (.tup (.str z :: r))=[.tup (.str z :: r)]:=by rw[all_eq,h1];rfl
  unfold fG jM;rw[e];refine⟨by have:=Dp.cons h3 .nil;rwa [Yt] at this,rfl,?_⟩;show(List.filter AR [.tup (.str z :: r)]).length=0;rw[Za (by show ¬bB z=true;rw[h2];simp)];rfl
 have on:∀{n c b:Nat}{z:Str}{r:List D}{p:D}{l m:BBB},aV z r=[p]->Nd (.tup (.str z :: r)) l->(Dp (dO n p) m/\fG n p=c/\jM n p=b)->Dp (dO (n+1) (.tup (.str z :: r))) (l++m)/\fG (n+1) (.tup (.str z :: r))=c+1/\jM (n+1) (.tup (.str z :: r))=(if bB z=true then b+1 else b):=fun {n c b z r p l m} h1 h3 ⟨k1,k2,k3⟩=>by
  have e:dO (n+1) (.tup (.str z :: r))= .tup (.str z :: r) :: dO n p:=by rw[all_eq,h1];simp
  unfold fG jM at *;rw[e];refine⟨.cons h3 k1,by rw[X8,k2],?_⟩;by_cases q:bB z=true
  ·rw[Z7 (by exact q),if_pos q,X8,k3]
  ·rw[Za (by exact q),if_neg q,k3]
 induction h with
 | leaf h=>exact lf (jO h) (dh h).2.2.1 (.ot (dh h).2.2.2 (dh h).2.2.1)
 | any=>exact lf bH (by decide) (.nn (by decide))
 | name h=>exact lf bH (by decide) .nm
 | num a _ _=>exact lf bH (by decide) (.nn (je a).1)
 | var a _=>exact lf bH (by decide) (.nn (je a).1)
 | free a _=>exact lf bH (by decide) (.nn (je a).1)
 | one hz _ ih=>
  have:=on (k7 hz) (.ot (dP hz).2.2.2 (dP hz).2.2.1) ih;rw[if_neg (by rw[(dP hz).2.2.1];simp)] at this;exact this
 | @yr _ _ _ _ _ _ _ k _ _ _ _ ih=>
  have:=on (k9 (a:=.int k)) (.ot dR.2.2.2 dR.2.2.1) ih;rw[if_neg (by rw[dR.2.2.1];simp)] at this;exact this
 | @bnd _ _ _ _ _ _ _ z a y p hz _ _ _ ih=>
  have:=on (lq (a:=.str a) (y:=.str y) hz) (.bnd (dU hz).2.2.1 (dU hz).2.2.2) ih;rw[if_pos (dU hz).2.2.1] at this;exact this
 | @two n c e b c2 e2 b2 bs ns us Le Bj z p q hz _ _ i1 i2=>
  obtain⟨k1,k2,k3⟩:=i1;obtain⟨j1,j2,j3⟩:=i2;have e:dO (n+1) (.tup [.str z,p,q])= .tup [.str z,p,q] :: (dO n p++dO n q):=by rw[all_eq,k8 hz];simp
  unfold fG jM at *;rw[e];refine⟨Dp.cons (l:=[]) (.ot (dQ hz).2.2.2 (dQ hz).2.2.1) (k1.app j1),by rw[X8,X4,k2,j2],?_⟩;rw[Za (by show ¬bB z=true;rw[(dQ hz).2.2.1];simp),List.filter_append,X4,k3,j3]
end
def jB (c9:FM) (vJ:FM):GS:=
 (cy (eP gD (aa (eC (.int 1)) (aa (eF (eP (ya 0) (aa (eF (sO [] (pS (eF (aT c9 (aU (eF (aE 0)) bx)))) iu (eF (aT vJ (aU (eF (aE 0)) bx))))) aA))) aA))))
def jP:Nat->FM
 | 0=>fun _=>none
 | j+1=>aJ 1 (jB fM (jP j))
def EO (j:Nat):∀us r,jP (j+1) us=some r->aJ 1 (jB fM (jP j)) us=some r:=fun _ _ h=>h
def A0 (us:List U):jP 0 us=none:=rfl
section
variable {f1 f2:FM}{d p q:D}{i j:Int}
def ER (e1:f1 [.t d]=some (.t (.tup []),[])):aJ 1 (jB f1 f2) [.t d]=some (.t (.int 1),[]):=by
 have e3:d8 [] iu (eF (aT f2 (aU (eF (aE 0)) bx))) [] [XM d] []=some ([],[XM d]):=rfl;simp[aJ,jB,e1,cJ,aB,ya,L2.p7,e3]
def MW (e1:f1 [.t d]=some (.t (.tup [p]),[])) (e2:f2 [.t p]=some (.t (.int i),[])):aJ 1 (jB f1 f2) [.t d]=some (.t (.int (i+1)),[]):=by
 have e3:d8 [] iu (eF (aT f2 (aU (eF (aE 0)) bx))) [p] [XM d] []=some ([.int i],[XM d]):=by simp[d8,iA,iu,e2,aB,wb]
 simp[aJ,jB,e1,cJ,aB,ya,L2.p7,e3,oM,Int.add_comm]
def UC (e1:f1 [.t d]=some (.t (.tup [p,q]),[])) (e2:f2 [.t p]=some (.t (.int i),[])) (e4:f2 [.t q]=some (.t (.int j),[])):aJ 1 (jB f1 f2) [.t d]=some (.t (.int (max i j+1)),[]):=by
 have e3:d8 [] iu (eF (aT f2 (aU (eF (aE 0)) bx))) [p,q] [XM d] []=some ([.int i,.int j],[XM d]):=by simp[d8,iA,iu,e2,e4,aB,wb]
 simp[aJ,jB,e1,cJ,aB,ya,L2.p7,e3,oM,Int.add_comm]
end
section
variable {n c e b:Nat}{bs ns us:BBB}{d:D}
def HA (h:Wk n bs d c e b ns us):∀{j:Nat},n<=j->jP j [.t d]=some (.t (.int e),[]):=by
 induction h with
 | leaf h=>intro j hj;obtain⟨j,rfl⟩:∃i,j=i+1:=⟨j - 1,by lia⟩;exact ER (bT (dh h).1 (jO h))
 | any=>intro j hj;obtain⟨j,rfl⟩:∃i,j=i+1:=⟨j - 1,by lia⟩;exact ER (bT cM.1 bH)
 | name h=>intro j hj;obtain⟨j,rfl⟩:∃i,j=i+1:=⟨j - 1,by lia⟩;exact ER (bT cM.1 bH)
 | num a b c=>intro j hj;obtain⟨j,rfl⟩:∃i,j=i+1:=⟨j - 1,by lia⟩;exact ER (bT cM.1 bH)
 | var a b=>intro j hj;obtain⟨j,rfl⟩:∃i,j=i+1:=⟨j - 1,by lia⟩;exact ER (bT cM.1 bH)
 | free a b=>intro j hj;obtain⟨j,rfl⟩:∃i,j=i+1:=⟨j - 1,by lia⟩;exact ER (bT cM.1 bH)
 | one hz _ ih=>intro j hj;obtain⟨j,rfl⟩:∃i,j=i+1:=⟨j - 1,by lia⟩;exact MW (bT (dP hz).1 (k7 hz)) (ih (by lia))
 | @two n c e b c2 e2 b2 bs ns us Le Bj z p q hz _ _ i1 i2=>intro j hj;obtain⟨j,rfl⟩:∃i,j=i+1:=⟨j - 1,by lia⟩;have:=UC (bT (dQ hz).1 (k8 hz)) (i1 (j:=j) (by lia)) (i2 (j:=j) (by lia));rw[show(max (e:Int) e2+1)=((max e e2+1:Nat):Int) by lia] at this;exact this
 | @yr _ _ _ _ _ _ _ k p _ _ _ ih=>intro j hj;obtain⟨j,rfl⟩:∃i,j=i+1:=⟨j - 1,by lia⟩;exact MW (bT dR.1 k9) (ih (by lia))
 | @bnd _ _ _ _ _ _ _ z a y p hz _ _ _ ih=>intro j hj;obtain⟨j,rfl⟩:∃i,j=i+1:=⟨j - 1,by lia⟩;exact MW (bT (dU hz).1 (lq hz)) (ih (by lia))
end
def eY (gm:FM):GS:=
 (bf (mj (qB (wM false ["each","one"] (bJ 2 (eC (.int 0))))) (gQ (eT (eM 1 hAppend (aa (bJ 2 (eC (.int 1))) aA)))) eG)
 (mj (ia (qB (eF (eP sQ (aa (bJ 2 (eC (.int 0))) (aa (eC (.str "now")) aA))))) (qB (eF (eP sQ (aa (eF (eP ug (aa (bJ 2 (eC (.int 1))) (aa (eC (.int 0)) aA)))) (aa (eC (.str "name")) aA)))))) (gQ (eT (eM 1 hAppend (aa (eF (eP ug (aa (bJ 2 (eC (.int 1))) (aa (eC (.int 1)) aA)))) aA)))) eG))
def oU (gm:FM):GS:=
 (bf (cP 1 (eP cG aA))
 (bf (tT (bName 2) (pS (eF (aT gm (aU (eF (aE 0)) bx)))) (eY gm))
 (cy (eP oN (aa (eF (aE 1)) aA)))))
def rK (gW:FM):GS:=
 (cy (eP oN (aa (eF (aT gW (aU (eF (aE 0)) (aU (eF (eP cF aA)) bx)))) aA)))
def lz (Cp:FM):GS:=
 (cy (eT (eQ (ia (qB (eF (aT Cp (aU (eF (aE 0)) bx)))) (qB (wM false ["now","next","till","within","always","some","each","one"] (bJ 0 (eC (.int 0)))))))))
def tu:FM:=aJ 3 (oU (qk 9))
def HB:∀us r,tu us=some r->aJ 3 (oU (qk 9)) us=some r:=fun _ _ h=>h
def J5 {f:FM}{x d:D}{l:BBB}{acc:List D}(h:Nd x l) (ha:acc.length < 1000):eY f [XM d,XN acc,XM x]=some (.nx [XM d,XN (acc++l.map D.str),XM x]):=by
 have hl:acc.length < 100000:=by lia
 cases h with
 | @bnd z a r h1 h2=>
  have zP:inD (.str z) ((["each","one"]:BBB).map D.str)=true:=h1;simp only[Yd,Ye] at zP;simp[eY,bq,bG,zP,h2,hAppend,hl]
 | nm=>
  have zP:inD (.str "now") ((["each","one"]:BBB).map D.str)=false:=by decide
  simp only[Yd,Ye] at zP;simp[eY,bq,bG,zP,hAppend,hl]
 | @nn o r h=>
  have zP:inD (.str "now") ((["each","one"]:BBB).map D.str)=false:=by decide
  simp only[Yd,Ye] at zP;simp[eY,bq,bG,zP,h]
 | @ot z r h1 h2=>
  have zP:inD (.str z) ((["each","one"]:BBB).map D.str)=false:=h2;simp only[Yd,Ye] at zP;simp[eY,bq,bG,zP,h1]
def J6 {f:FM}{d:D}{ls:BBB}(h:Dp xs ls):∀{acc:List D}{x2:Option U},ie x2=false->acc.length+ls.length < 1000->∃y2,loop (bName 2) (eY f) xs [XM d,XN acc,x2]=some (.nx [XM d,XN (acc++ls.map D.str),y2]):=by
 induction h with
 | nil=>intro acc x2 _ _;exact⟨x2,by simp[loop]⟩
 | @cons x xs l ls h _ ih=>
  intro acc x2 h2 hl;rw[X4] at hl;obtain⟨y2,e⟩:=ih (acc:=acc++l.map D.str) (x2:=XM x) rfl (by rw[X4,X3];lia);refine⟨y2,?_⟩;have e1:bName 2 x [XM d,XN acc,x2]=some [XM d,XN acc,XM x]:=by simp[-gG,fj,h2]
  rw[rB,e1];simp only[XX];rw[J5 h (by lia)];simp only[XX];rw[e,YN,Zn]
theorem yy:∀zs:BBB,p9 (zs.map D.str)=some zs
 | []=>rfl
 | z :: zs=>by show(p9 (zs.map D.str)).map _=_;rw[yy zs];rfl
def uw (h:zs.length < 64):oN [.lst (zs.map D.str)]=XN ((bU zs).map D.str):=by
 show(p9 (zs.map D.str)).bind _=_;rw[yy];show(if zs.length < 64 then _ else _)=_;rw[if_pos h]
section
variable {n c e b:Nat}{bs ns us:BBB}{d:D}
def Wk.bL (h:Wk n bs d c e b ns us):Ss.bL n (bs++us) d=true:=(h.sy _ (fun y hy=>Yb.mpr (.inl hy)) fun y hy=>Yb.mpr (.inr hy)).bL
def J7 (h:Wk n bs d c e b ns us) (hn:n<=8) (hc:c<=16):tu [.t d]=some (.m (.lst ((bU ns).map D.str)),[]):=by
 have e1:=zw n 9 (by lia) hn d _ h.bL;obtain⟨k1,k2,k3⟩:=h.NR;have p:=h.pos;obtain⟨y2,e2⟩:=J6 (f:=qk 9) (d:=d) k1 (acc:=[]) (x2:=none) rfl (by show 0+ns.length < 1000;lia);rw[ZD] at e2;have e3:=uw (zs:=ns) (by lia);simp[tu,aJ,oU,e1,cJ,e2,e3,aB]
end
section
variable {f1 f2 f3 f4:FM}{bd ib:D}{z:Str}{r:List D}
def UD (hz:z≠"now") (e2:f2 [.t (.tup (.str z :: r))]=some (.t (.tup []),[])):aJ 4 (bA f1 f2 f3 f4) [.t (.tup (.str z :: r)),.t bd]=some (.m (.lst []),[]):=by
 simp[aJ,bA,aB,bq,hz,cJ,e2,loop]
def MX (hz:z≠"now") (e2:f2 [.t (.tup (.str z :: r))]=some (.t (.tup [p]),[])) (e3:f3 [.t p,.t ib]=some (.m (.lst (us.map D.str)),[])) (e4:f4 [.t (.tup (.str z :: r)),.t bd]=some (.t ib,[])) (hl:us.length<=1000):
  aJ 4 (bA f1 f2 f3 f4) [.t (.tup (.str z :: r)),.t bd]=some (.m (.lst (us.map D.str)),[]):=by
 have hl':us.length<=100000:=by lia
 simp[aJ,bA,aB,bq,hz,cJ,e2,loop,dW,e4,e3,hl']
def UE (hz:z≠"now") (e2:f2 [.t (.tup (.str z :: r))]=some (.t (.tup [p,q]),[])) (e3:f3 [.t p,.t ib]=some (.m (.lst (us.map D.str)),[])) (e5:f3 [.t q,.t ib]=some (.m (.lst (vs.map D.str)),[])) (e4:f4 [.t (.tup (.str z :: r)),.t bd]=some (.t ib,[])) (hl:us.length+vs.length<=1000):
  aJ 4 (bA f1 f2 f3 f4) [.t (.tup (.str z :: r)),.t bd]=some (.m (.lst ((us++vs).map D.str)),[]):=by
 have hl':us.length<=100000:=by lia
 have hl2:us.length+vs.length<=100000:=by lia
 simp[aJ,bA,aB,bq,hz,cJ,e2,loop,dW,e4,e3,e5,hl',hl2]
def J8 {o y:D}(e1:f1 [.t (.tup [o,y])]=some (.t (.bl true),[])) (hn:f9 [y,bd]=XM (.bl true)):aJ 4 (bA f1 f2 f3 f4) [.t (.tup [.str "now",.tup [o,y]]),.t bd]=some (.m (.lst [y]),[]):=by
 simp[aJ,bA,aB,bq,bG,e1,hn]
end
section
variable {n c e b:Nat}{bs ns us:BBB}{d:D}
def Dq {y:Str}(h:y∉zs):inD (.str y) (zs.map D.str)=false:=by
 cases q:inD (.str y) (zs.map D.str) with
 | false=>rfl
 | true=>obtain⟨z,hz,e⟩:=zy q;cases e;exact absurd hz h
def A3 (h:Wk n bs d c e b ns us):∀{j:Nat},n<=j->bs.length+n<=100->c<=900->zA j [.t d,.t (.tup (bs.map D.str))]=some (.m (.lst (us.map D.str)),[]):=by
 induction h with
 | leaf h=>intro j hj _ _;obtain⟨j,rfl⟩:∃i,j=i+1:=⟨j - 1,by lia⟩;exact UD (dh h).2.2.2 (bT (dh h).1 (jO h))
 | @any n bs=>intro j hj _ _;obtain⟨j,rfl⟩:∃i,j=i+1:=⟨j - 1,by lia⟩;exact qo (b:=false) (yx (bs:=bs) .any) (fun z=>by cases z) (bT cM.1 bH)
 | @name n bs a h=>intro j hj _ _;obtain⟨j,rfl⟩:∃i,j=i+1:=⟨j - 1,by lia⟩;exact qo (b:=J3 (.tup [.str "name",.str a])) (yx (bs:=bs) (.name h)) (fun z=>absurd z (by simp[J3])) (bT cM.1 bH)
 | @num n bs o k a b c=>intro j hj _ _;obtain⟨j,rfl⟩:∃i,j=i+1:=⟨j - 1,by lia⟩;exact qo (b:=false) (yx (bs:=bs) (.num a b c)) (fun z=>by cases z) (bT cM.1 bH)
 | @var n bs o y a b=>intro j hj _ _;obtain⟨j,rfl⟩:∃i,j=i+1:=⟨j - 1,by lia⟩;exact qo (yx (bs:=bs) (.var a b)) (fun _=>⟨_,_,rfl,by rw[k6,iD b];rfl⟩) (bT cM.1 bH)
 | @free n bs o y a b=>
  intro j hj _ _;obtain⟨j,rfl⟩:∃i,j=i+1:=⟨j - 1,by lia⟩
  have e1:=yx (bs:=[y]) (t:=.tup [.str o,.str y]) (.var a (by simp));rw[show J3 (.tup [.str o,.str y])=true from Zp (je a).1] at e1;exact J8 e1 (by rw[k6,Dq b];rfl)
 | one hz w ih=>intro j hj hb hc;obtain⟨j,rfl⟩:∃i,j=i+1:=⟨j - 1,by lia⟩;have:=w.pos;exact MX (dP hz).2.2.2 (bT (dP hz).1 (k7 hz)) (ih (by lia) (by lia) (by lia)) (gU (dP hz).2.2.1) (by lia)
 | two hz w w2 i1 i2=>intro j hj hb hc;obtain⟨j,rfl⟩:∃i,j=i+1:=⟨j - 1,by lia⟩;have:=w.pos;have:=w2.pos;exact UE (dQ hz).2.2.2 (bT (dQ hz).1 (k8 hz)) (i1 (by lia) (by lia) (by lia)) (i2 (by lia) (by lia) (by lia)) (gU (dQ hz).2.2.1) (by lia)
 | @yr _ _ _ _ _ _ _ k p _ _ w ih=>intro j hj hb hc;obtain⟨j,rfl⟩:∃i,j=i+1:=⟨j - 1,by lia⟩;have:=w.pos;exact MX dR.2.2.2 (bT dR.1 k9) (ih (by lia) (by lia) (by lia)) (gU dR.2.2.1) (by lia)
 | @bnd n _ _ _ bs _ _ z a y p hz _ _ w ih=>
  intro j hj hb hc;obtain⟨j,rfl⟩:∃i,j=i+1:=⟨j - 1,by lia⟩
  have:=w.pos;have e:=rF (a:=.str a) (b:=.str y) (r:=[p]) (bs:=bs.map D.str) (dU hz).2.2.1 (by rw[X3];lia);have ih':=fun hj hb hc=>ih (j:=j) hj hb hc;rw[YN] at ih';exact MX (dU hz).2.2.2 (bT (dU hz).1 (lq hz)) (ih' (by lia) (by rw[X4];show bs.length+1+n<=100;lia) (by lia)) e (by lia)
def A4:FM:=aJ 1 (rK (zA 9))
def J9:∀us r,A4 us=some r->aJ 1 (rK (zA 9)) us=some r:=fun _ _ h=>h
def MY (h:Wk n [] d c e b ns us) (hn:n<=8) (hc:c<=16):A4 [.t d]=some (.m (.lst ((bU us).map D.str)),[]):=by
 have e1:=A3 h (j:=9) (by lia) (by show 0+n<=100;lia) (by lia);rw[Ye] at e1;have p:=h.pos;have e3:=uw (zs:=us) (by lia);simp[A4,aJ,rK,aB,e1,e3]
noncomputable def UG:BBB:=["now","next","till","within","always","some","each","one"]
def mQ:FM:=aJ 1 (lz kY)
def Ka:∀us r,mQ us=some r->aJ 1 (lz kY) us=some r:=fun _ _ h=>h
def oV (h:Sm d) (hs:EC d=false):mQ [.t d]=some (.t (.bl false),[]):=by
 have e:=AW h;rw[hs] at e;simp[mQ,aJ,lz,e,aB]
def Kc (h:Sm (.tup (.str z :: r))) (hs:EC (.tup (.str z :: r))=true):mQ [.t (.tup (.str z :: r))]=some (.t (.bl (inD (.str z) (UG.map D.str))),[]):=by
 have e:=AW h;rw[hs] at e;simp[mQ,aJ,lz,e,aB,bq,UG]
def Wk.say (h:Wk 8 [] d c e b ns us) (hc:c<=16) (hb:b<=3):EC d=decide (us=[]):=by
 obtain⟨_,k2,k3⟩:=h.NR;unfold EC;rw[k2,k3];by_cases q:us=[]
 ·subst q;have:=(h.sy [] (fun _ z=>z) (fun _ z=>z)).bL;rw[this];simp[hc,hb]
 ·have:Ss.bL 8 [] d=false:=by
   cases f:Ss.bL 8 [] d with
   | false=>rfl
   | true=>
    have e1:=MV (Sy.of f) (j:=9) (by lia) (by decide);have e2:=A3 h (j:=9) (by lia) (by decide) (by lia);rw[e1] at e2;simp at e2;cases us with
    | nil=>exact absurd rfl q
    | cons=>simp at e2
  rw[this,Yy q];rfl
end
noncomputable abbrev gp (k m:Int) (c2 c3:Addr):MO:=.gap [.inl (.int k),.inl (.int m),.inr c2,.inr c3]
@[simp] theorem Rh (es:List (D ⊕ Addr)) (k:Int):mD (.b (.gap es)) (.int k)=(dj es k).bind DW:=rfl
@[simp] theorem Ri (es:List (D ⊕ Addr)) (k:Int):mD (.m (.gap es)) (.int k)=(dj es k).bind DW:=rfl
@[simp] theorem UH (es:List (D ⊕ Addr)) (k:Int) (d:D):oH (.gap es) (.int k) d=(yO es.length k).map fun j=>.gap (es.set j (.inl d)):=rfl
def vK (a b c d:D ⊕ Addr):dj [a,b,c,d] 0=some a/\dj [a,b,c,d] 1=some b/\dj [a,b,c,d] 2=some c/\dj [a,b,c,d] 3=some d:=⟨rfl,rfl,rfl,rfl⟩
def HY:yO 4 0=some 0/\yO 4 1=some 1/\yO 4 2=some 2/\yO 4 3=some 3:=⟨rfl,rfl,rfl,rfl⟩
@[simp] theorem Xk (d:D):DW (.inl d)=some d:=rfl
@[simp] theorem Rj (i:Nat) (k:Int) (j:Nat) (h:List D->MO->Option (D×MO)) (gA:GA) (S:SS):vo i k j h gA S=(AF S i k).bind fun c=>if sX S j c then(gA S).bind fun p=>uJ p.2 j (Ef c h p.1) else none:=rfl
@[simp] theorem UI (c:Addr) (d:D) (ds:List D) (hl:ds.length < 100000):Ef c hAppend [d] (.lat c ds)=some (.bN,.lat c (ds++[d])):=by
 simp[Ef,hAppend,hl]
@[simp] theorem VH (gu:GU) (gh:BBJ) (S:SS):NJ gu gh S=(gu S).map fun p=>(p.1++gh.map U.v,p.2):=rfl
def eZ (aI:FM) (dJ:FM):GS:=
 (gQ (aT dJ (NJ (aU (bJ 0 (eF (aE 6))) (aU (eF (aE 1)) (aU (eF (eP gD (aa (eF (aE 2)) (aa (eC (.int 1)) aA)))) (dB (aE 3) bx)))) [4,5])))
def aQ (aI:FM) (dJ:FM):GS:=
 (bf (BY 3 (eC (.int 0)) (eF (eP gD (aa (bJ 3 (eC (.int 0))) (aa (eC (.int 1)) aA)))))
 (bf (BY 3 (eC (.int 1)) (eF (eP An (aa (bJ 3 (eC (.int 1))) (aa (eF (aE 2)) aA)))))
 (bf (mj (ia (qB (eF (eP sQ (aa (bJ 0 (eC (.int 0))) (aa (eC (.str "now")) aA))))) (qB (eF (eP sQ (aa (eF (eP ug (aa (bJ 0 (eC (.int 1))) (aa (eC (.int 0)) aA)))) (aa (eC (.str "name")) aA)))))) (gQ (eT (vo 3 2 4 hAppend (aa (eF (eP ug (aa (bJ 0 (eC (.int 1))) (aa (eC (.int 1)) aA)))) aA)))) eG)
 (bf (mj (ia (qB (eF (eP sQ (aa (bJ 0 (eC (.int 0))) (aa (eC (.str "now")) aA))))) (qB (eF (eP Gq (aa (eF (eP ug (aa (bJ 0 (eC (.int 1))) (aa (eC (.int 0)) aA)))) (aa (eF (eP cF (aa (eC (.str "less")) (aa (eC (.str "same")) (aa (eC (.str "more")) aA))))) aA)))))) (mj (ia (qB (Gu ["str"] (eF (eP ug (aa (bJ 0 (eC (.int 1))) (aa (eC (.int 1)) aA)))))) (qB (eF (eP f9 (aa (eF (eP ug (aa (bJ 0 (eC (.int 1))) (aa (eC (.int 1)) aA)))) (aa (eF (aE 1)) aA)))))) (gQ (eT (vo 3 3 5 hAppend (aa (eF (eP ug (aa (bJ 0 (eC (.int 1))) (aa (eC (.int 1)) aA)))) aA)))) eG) eG)
 (bf (mj (qB (eF (eP Gq (aa (bJ 0 (eC (.int 0))) (aa (eF (eP cF (aa (eC (.str "each")) (aa (eC (.str "one")) aA)))) aA))))) (bf (gQ (eT (vo 3 2 4 hAppend (aa (bJ 0 (eC (.int 1))) aA))))
 (cP 1 (eP gD (aa (eF (aE 1)) (aa (eF (eP cG (aa (bJ 0 (eC (.int 2))) aA))) aA))))) eG)
 (tT (bName 6) (pS (eF (eP ug (aa (eF (aT aI (aU (bJ 0 (eC (.int 0))) bx))) (aa (eC (.int 1)) aA))))) (eZ aI dJ)))))))
section
variable {f1 f2:FM}{z o y a:Str}{k m dp:Int}{c2 c3:Addr}{A B:List D}{bd lg:D}
def gK (z:Str):Gq [.str z,.tup [.str "each",.str "one"]]=XM (.bl (bB z)):=ur (.str z) Hj
def vL (z:Str):Gq [.str z,.tup [.str "less",.str "same",.str "more"]]=XM (.bl (inD (.str z) (jL.map D.str))):=ur (.str z) jL
def vM (x:D) (zs:BBB):f9 [x,.lst (zs.map D.str)]=XM (.bl (!inD x (zs.map D.str))):=by
 show(if bF (zs.map D.str)<=40 then some (U.t (.bl (!inD x (zs.map D.str)))) else none)=_;rw[if_pos (by rw[L2.gf];lia)]
def HZ (m d:Int):(if m < d then d else m)=max m d:=by split <;> lia
def Ke (hz:z≠"now") (hb:bB z=false) (e1:f1 [.t (.str z)]=some (.t (.tup [lg,.lst []]),[])):
  aJ 7 (aQ f1 f2) [.t (.tup [.str z]),.t bd,.t (.int dp),.b (gp k m c2 c3),.b (.lat c2 A),.b (.lat c3 B)]=some (.t .bN,[gp (k+1) (max m dp) c2 c3,.lat c2 A,.lat c3 B]):=by
 simp[aJ,aQ,aB,bq,bG,vK,HY,hz,hb,gK,e1,cJ,loop,HZ]
def vN:bB "now" =false:=by decide
def MZ (e1:f1 [.t (.str "now")]=some (.t (.tup [lg,.lst []]),[])):
  aJ 7 (aQ f1 f2) [.t (.tup [.str "now",.tup [.str "any"]]),.t bd,.t (.int dp),.b (gp k m c2 c3),.b (.lat c2 A),.b (.lat c3 B)]=some (.t .bN,[gp (k+1) (max m dp) c2 c3,.lat c2 A,.lat c3 B]):=by
 have h:inD (.str "any") (jL.map D.str)=false:=by decide
 have h2:("any":Str)≠"name":=by decide
 simp[h2,aJ,aQ,aB,bq,bG,vK,HY,vN,gK,vL,h,e1,cJ,loop,HZ]
def Kf (e1:f1 [.t (.str "now")]=some (.t (.tup [lg,.lst []]),[])) (hl:A.length < 100000):
  aJ 7 (aQ f1 f2) [.t (.tup [.str "now",.tup [.str "name",.str a]]),.t bd,.t (.int dp),.b (gp k m c2 c3),.b (.lat c2 A),.b (.lat c3 B)]=some (.t .bN,[gp (k+1) (max m dp) c2 c3,.lat c2 (A++[.str a]),.lat c3 B]):=by
 have h:inD (.str "name") (jL.map D.str)=false:=by decide
 simp[aJ,aQ,aB,bq,bG,vK,HY,vN,gK,vL,h,e1,cJ,loop,HZ,AF,sX,hl]
def M0 {i:Int}(ho:o∈jL) (e1:f1 [.t (.str "now")]=some (.t (.tup [lg,.lst []]),[])):
  aJ 7 (aQ f1 f2) [.t (.tup [.str "now",.tup [.str o,.int i]]),.t bd,.t (.int dp),.b (gp k m c2 c3),.b (.lat c2 A),.b (.lat c3 B)]=some (.t .bN,[gp (k+1) (max m dp) c2 c3,.lat c2 A,.lat c3 B]):=by
 have h:=iD ho;have n:=(je ho).1;simp[aJ,aQ,aB,bq,bG,vK,HY,vN,gK,vL,h,n,e1,cJ,loop,HZ,d9,iB,gZ]
def M3 (ho:o∈jL) (hn:f9 [.str y,bd]=XM (.bl false)) (e1:f1 [.t (.str "now")]=some (.t (.tup [lg,.lst []]),[])):
  aJ 7 (aQ f1 f2) [.t (.tup [.str "now",.tup [.str o,.str y]]),.t bd,.t (.int dp),.b (gp k m c2 c3),.b (.lat c2 A),.b (.lat c3 B)]=some (.t .bN,[gp (k+1) (max m dp) c2 c3,.lat c2 A,.lat c3 B]):=by
 have h:=iD ho;have n:=(je ho).1;simp[aJ,aQ,aB,bq,bG,vK,HY,vN,gK,vL,h,n,e1,cJ,loop,HZ,d9,iB,gZ,hn]
def Kg (ho:o∈jL) (hn:f9 [.str y,bd]=XM (.bl true)) (e1:f1 [.t (.str "now")]=some (.t (.tup [lg,.lst []]),[])) (hl:B.length < 100000):
  aJ 7 (aQ f1 f2) [.t (.tup [.str "now",.tup [.str o,.str y]]),.t bd,.t (.int dp),.b (gp k m c2 c3),.b (.lat c2 A),.b (.lat c3 B)]=some (.t .bN,[gp (k+1) (max m dp) c2 c3,.lat c2 A,.lat c3 (B++[.str y])]):=by
 have h:=iD ho;have n:=(je ho).1;simp[aJ,aQ,aB,bq,bG,vK,HY,vN,gK,vL,h,n,e1,cJ,loop,HZ,d9,iB,gZ,hn,AF,sX,hl]
def UJ (hz:z≠"now") (hb:bB z=false) (e1:f1 [.t (.str z)]=some (.t (.tup [lg,.lst [.int 1]]),[]))
  (e2:f2 [.t p,.t bd,.t (.int (dp+1)),.b (gp (k+1) (max m dp) c2 c3),.b (.lat c2 A),.b (.lat c3 B)]=some (.t .bN,[gp k1 m1 c2 c3,.lat c2 A1,.lat c3 B1])):
  aJ 7 (aQ f1 f2) [.t (.tup [.str z,p]),.t bd,.t (.int dp),.b (gp k m c2 c3),.b (.lat c2 A),.b (.lat c3 B)]=some (.t .bN,[gp k1 m1 c2 c3,.lat c2 A1,.lat c3 B1]):=by
 simp[aJ,aQ,aB,bq,bG,vK,HY,hz,hb,gK,e1,cJ,loop,HZ,eZ,e2]
def UK {i:D}(hz:z≠"now") (hb:bB z=false) (e1:f1 [.t (.str z)]=some (.t (.tup [lg,.lst [.int 2]]),[]))
  (e2:f2 [.t p,.t bd,.t (.int (dp+1)),.b (gp (k+1) (max m dp) c2 c3),.b (.lat c2 A),.b (.lat c3 B)]=some (.t .bN,[gp k1 m1 c2 c3,.lat c2 A1,.lat c3 B1])):
  aJ 7 (aQ f1 f2) [.t (.tup [.str z,i,p]),.t bd,.t (.int dp),.b (gp k m c2 c3),.b (.lat c2 A),.b (.lat c3 B)]=some (.t .bN,[gp k1 m1 c2 c3,.lat c2 A1,.lat c3 B1]):=by
 simp[aJ,aQ,aB,bq,bG,nH,vK,HY,hz,hb,gK,e1,cJ,loop,HZ,eZ,e2]
def UL {k2 m2:Int}{A2 B2:List D}(hz:z≠"now") (hb:bB z=false) (e1:f1 [.t (.str z)]=some (.t (.tup [lg,.lst [.int 1,.int 2]]),[]))
  (e2:f2 [.t p,.t bd,.t (.int (dp+1)),.b (gp (k+1) (max m dp) c2 c3),.b (.lat c2 A),.b (.lat c3 B)]=some (.t .bN,[gp k1 m1 c2 c3,.lat c2 A1,.lat c3 B1]))
  (e3:f2 [.t q,.t bd,.t (.int (dp+1)),.b (gp k1 m1 c2 c3),.b (.lat c2 A1),.b (.lat c3 B1)]=some (.t .bN,[gp k2 m2 c2 c3,.lat c2 A2,.lat c3 B2])):
  aJ 7 (aQ f1 f2) [.t (.tup [.str z,p,q]),.t bd,.t (.int dp),.b (gp k m c2 c3),.b (.lat c2 A),.b (.lat c3 B)]=some (.t .bN,[gp k2 m2 c2 c3,.lat c2 A2,.lat c3 B2]):=by
 simp[aJ,aQ,aB,bq,bG,nH,vK,HY,hz,hb,gK,e1,cJ,loop,HZ,eZ,e2,e3]
def UM {bl:List D}(hz:z≠"now") (hb:bB z=true) (hl:A.length < 100000) (hv:bl.length+1<=100000) (e1:f1 [.t (.str z)]=some (.t (.tup [lg,.lst [.int 3]]),[]))
  (e2:f2 [.t p,.t (.lst (bl++[.str y])),.t (.int (dp+1)),.b (gp (k+1) (max m dp) c2 c3),.b (.lat c2 (A++[.str a])),.b (.lat c3 B)]=some (.t .bN,[gp k1 m1 c2 c3,.lat c2 A1,.lat c3 B1])):
  aJ 7 (aQ f1 f2) [.t (.tup [.str z,.str a,.str y,p]),.t (.lst bl),.t (.int dp),.b (gp k m c2 c3),.b (.lat c2 A),.b (.lat c3 B)]=some (.t .bN,[gp k1 m1 c2 c3,.lat c2 A1,.lat c3 B1]):=by
 simp[aJ,aQ,aB,bq,bG,nH,Uq,vK,HY,hz,hb,gK,e1,cJ,loop,HZ,eZ,e2,AF,sX,hl,hv]
end
def lR:Nat->FM
 | 0=>fun _=>none
 | j+1=>aJ 7 (aQ eO (lR j))
def HC (j:Nat):∀us r,lR (j+1) us=some r->aJ 7 (aQ eO (lR j)) us=some r:=fun _ _ h=>h
def Cq (us:List U):lR 0 us=none:=rfl
def cD:eO [.t (.str "now")]=some (.t (.tup [.int 2,.lst []]),[]):=by rw[iL];rfl
section
variable {n c e b:Nat}{bs ns us:BBB}{d:D}{c2 c3:Addr}
def Kh (h:Wk n bs d c e b ns us):∀{j:Nat}{k m dp:Int}{A B:List D},n<=j->bs.length+n<=100->A.length+c < 1000->B.length+c < 1000->
  lR j [.t d,.t (.lst (bs.map D.str)),.t (.int dp),.b (gp k m c2 c3),.b (.lat c2 A),.b (.lat c3 B)]=some (.t .bN,[gp (k+c) (max m (dp+e - 1)) c2 c3,.lat c2 (A++ns.map D.str),.lat c3 (B++us.map D.str)]):=by
 have s1:∀{k m dp:Int},gp (k+((1:Nat):Int)) (max m (dp+((1:Nat):Int) - 1)) c2 c3=gp (k+1) (max m dp) c2 c3:=fun {k m dp}=>by
  have:dp+((1:Nat):Int) - 1=dp:=by lia
  rw[this];rfl
 have s2:∀{k m dp:Int}{c e:Nat},1<=e->gp (k+1+(c:Int)) (max (max m dp) (dp+1+(e:Int) - 1)) c2 c3=gp (k+((c+1:Nat):Int)) (max m (dp+((e+1:Nat):Int) - 1)) c2 c3:=fun {k m dp c e} he=>by
  rw[show k+1+(c:Int)=k+((c+1:Nat):Int) by lia,show max (max m dp) (dp+1+(e:Int) - 1)=max m (dp+((e+1:Nat):Int) - 1) by lia]
 induction h with
 | leaf h=>intro j k m dp A B hj _ _ _;obtain⟨j,rfl⟩:∃i,j=i+1:=⟨j - 1,by lia⟩;rw[s1,Ye,Yt,Yt];exact Ke (dh h).2.2.2 (dh h).2.2.1 (n6 h)
 | any=>intro j k m dp A B hj _ _ _;obtain⟨j,rfl⟩:∃i,j=i+1:=⟨j - 1,by lia⟩;rw[s1,Ye,Yt,Yt];exact MZ cD
 | name h=>intro j k m dp A B hj _ _ _;obtain⟨j,rfl⟩:∃i,j=i+1:=⟨j - 1,by lia⟩;rw[s1,Ye,Yt];exact Kf cD (by lia)
 | num a _ _=>intro j k m dp A B hj _ _ _;obtain⟨j,rfl⟩:∃i,j=i+1:=⟨j - 1,by lia⟩;rw[s1,Ye,Yt,Yt];exact M0 a cD
 | var a b=>intro j k m dp A B hj _ _ _;obtain⟨j,rfl⟩:∃i,j=i+1:=⟨j - 1,by lia⟩;rw[s1,Ye,Yt,Yt];exact M3 a (by rw[vM,iD b];rfl) cD
 | free a b=>intro j k m dp A B hj _ _ _;obtain⟨j,rfl⟩:∃i,j=i+1:=⟨j - 1,by lia⟩;rw[s1,Ye,Yt];exact Kg a (by rw[vM,Dq b];rfl) cD (by lia)
 | one hz w ih=>intro j k m dp A B hj _ _ _;obtain⟨j,rfl⟩:∃i,j=i+1:=⟨j - 1,by lia⟩;rw[<-s2 w.pos.1];exact UJ (dP hz).2.2.2 (dP hz).2.2.1 (qp hz) (ih (by lia) (by lia) (by lia) (by lia))
 | @yr _ _ _ _ _ _ _ k p _ _ w ih=>intro j k m dp A B hj _ _ _;obtain⟨j,rfl⟩:∃i,j=i+1:=⟨j - 1,by lia⟩;rw[<-s2 w.pos.1];exact UK dR.2.2.2 dR.2.2.1 qu (ih (by lia) (by lia) (by lia) (by lia))
 | @bnd n _ _ _ bs _ _ z a y p hz _ _ w ih=>
  intro j k m dp A B hj hb _ _;obtain⟨j,rfl⟩:∃i,j=i+1:=⟨j - 1,by lia⟩
  rw[<-s2 w.pos.1,Yd,List.append_cons];have:=ih (j:=j) (k:=k+1) (m:=max m dp) (dp:=dp+1) (A:=A++[.str a]) (B:=B) (by lia) (by rw[X4];show bs.length+1+n<=100;lia) (by rw[X4];show A.length+1+_ < 1000;lia) (by lia);rw[YN] at this;exact UM (dU hz).2.2.2 (dU hz).2.2.1 (by lia) (by rw[X3];lia) (qw hz) this
 | @two n c e b Um e2 b2 bs ns us Le Bj z p q hz w w2 i1 i2=>
  intro j k m dp A B hj hb _ _;obtain⟨j,rfl⟩:∃i,j=i+1:=⟨j - 1,by lia⟩
  have p1:=w.pos;have p2:=w2.pos;have h1:=i1 (j:=j) (k:=k+1) (m:=max m dp) (dp:=dp+1) (A:=A) (B:=B) (by lia) (by lia) (by lia) (by lia);have h2:=i2 (j:=j) (k:=k+1+c) (m:=max (max m dp) (dp+1+e - 1)) (dp:=dp+1) (A:=A++ns.map D.str) (B:=B++us.map D.str) (by lia) (by lia) (by rw[X4,X3];lia) (by rw[X4,X3];lia);have:=UL (dQ hz).2.2.2 (dQ hz).2.2.1 (qq hz) h1 h2;rw[YN,YN,<-Zn,<-Zn,show k+((c+Um+1:Nat):Int)=k+1+c+Um by lia,show max m (dp+((max e e2+1:Nat):Int) - 1)=max (max (max m dp) (dp+1+e - 1)) (dp+1+e2 - 1) by lia];exact this
end
def dZ (dJ:FM) (AU:FM) (vJ:FM) (rL:FM) (vO:FM) (aP:FM):GS:=
 (AM 3 6 7 (eF (aT AU (aU (eF (aE 0)) bx))) (eF (aT vJ (aU (eF (aE 0)) bx))) (aT rL (aU (eF (aE 0)) bx)) (aT vO (aU (eF (aE 0)) bx)) (bf (mj (qB (eF (eP Gp (aa (zp xP 3 6 7) (aa (eF (eP xP (aa (eF (eP cG (aa (bJ 1 (eC (.int 0))) (aa (bJ 1 (eC (.int 1))) (aa (eF (eP oN (aa (bJ 1 (eC (.int 2))) aA))) (aa (eF (eP oN (aa (bJ 1 (eC (.int 3))) aA))) aA)))))) aA))) aA))))) (cy (eT (eC (.bl false)))) eG)
 (bf (gQ (eT (vo 3 2 6 hAppend (aa (eC (.str "x")) aA))))
 (gQ (eT (vo 3 3 7 AJ (aa (eC (.int 0)) (aa (eC (.str "a")) aA))))))))
def cW (dJ:FM) (AU:FM) (vJ:FM) (rL:FM) (vO:FM) (aP:FM):GS:=
 (bf (AM 1 6 7 (eC (.int 0)) (eC (.int 0)) (eP cG aA) (eP cG aA) (gQ (aT dJ (NJ (aU (eF (aE 0)) (aU (eF (eP cG aA)) (aU (eC (.int 1)) (dB (aE 1) bx)))) [6,7]))))
 (bf (tT (bName 2) (nT (aa (eC (.int 2)) aA)) (dZ dJ AU vJ rL vO aP))
 (bf (cP 4 (eT (eQ (ia (qB (eF (eP sQ (aa (bJ 1 (eC (.int 3))) (aa (eF (eP cG aA)) aA))))) (qB (eF (eP f9 (aa (bJ 0 (eC (.int 0))) (aa (eF (eP cF (aa (eC (.str "yes")) (aa (eC (.str "no")) (aa (eC (.str "not")) (aa (eC (.str "both")) (aa (eC (.str "either")) aA))))))) aA)))))))))
 (bf (cP 5 (aT aP (aU (eF (aE 0)) bx)))
 (cy (eT (eQ (ia (qB (Gu ["bool"] (eF (aE 5)))) (qB (eF (eP sQ (aa (eF (aE 5)) (aa (eF (aE 4)) aA)))))))))))))
def Cr:FM:=aJ 8 (cW (lR 9) nZ (jP 9) tu A4 mQ)
def Kl:∀us r,Cr us=some r->aJ 8 (cW (lR 9) nZ (jP 9) tu A4 mQ) us=some r:=fun _ _ h=>h
def Ds {i j k:Nat}{g0 g1:GD}{g2 g3:GE}{gb:GS}{S S0 S1 S2 S3:SS}{d0 d1:D}{x y:List D}{o:Out}(h0:g0 S=some (d0,S0)) (h1:g1 S0=some (d1,S1)) (h2:g2 S1=some (.m (.lst x),S2)) (h3:g3 S2=some (.m (.lst y),S3))
  (h:∀c d,(qh i j k d0 d1 c d x y S3).bind (fun S1=>(gb S1).bind (AL i j k))=some o):AM i j k g0 g1 g2 g3 gb S=some o:=by
 unfold AM;rw[h0];simp only[XX];rw[h1];simp only[XX];rw[h2];simp only[XX];rw[h3];simp only[XX];exact Er h
def UN (a b c d:D):dj [a,b,c,d] 0=some a/\dj [a,b,c,d] 1=some b/\dj [a,b,c,d] 2=some c/\dj [a,b,c,d] 3=some d:=⟨rfl,rfl,rfl,rfl⟩
def HD {d:D}(h:Gw d):xP [d]=XM (.str (toPy d).shown):=by show(if Gw d then some (U.t (.str (toPy d).shown)) else none)=_;rw[if_pos h]
noncomputable def tr (c e:Nat) (ns us:BBB):D:=.lst [.int c,.int e,.lst (ns.map D.str),.lst (us.map D.str)]
theorem rM:∀zs:BBB,(∀z∈zs,Wd z)->xY (zs.map D.str)/\GY (zs.map D.str)<=84 * zs.length
 | [],_=>⟨True.intro,XW _⟩
 | z :: zs,h=>by
  obtain⟨a,b⟩:=rM zs fun y hy=>h y (Yc _ hy);have w:=h z Yp;refine⟨⟨w.1,a⟩,?_⟩;show 10 * z.length+2+2+GY (zs.map D.str)<=_;have:=w.2;rw[X8];lia
def nI (zs:BBB):(bU zs).length<=zs.length:=by rw[(kT zs).length_eq];exact zo _ _
def Qa {e:Nat}(hc:c<=16) (he:e<=8) (hn:∀z∈ns,Wd z) (hu:∀z∈us,Wd z) (ln:ns.length<=16) (lu:us.length<=16):Gw (tr c e ns us):=by
 obtain⟨a1,a2⟩:=rM ns hn;obtain⟨b1,b2⟩:=rM us hu;refine MB ⟨?_,?_,a1,b1,True.intro⟩ ?_ ?_
 ·show(c:Int).natAbs < 10 ^ 30;rw[Int.natAbs_natCast];exact Zf hc (by decide)
 ·show(e:Int).natAbs < 10 ^ 30;rw[Int.natAbs_natCast];exact Zf he (by decide)
 ·show 40+2+(40+2+((GY (ns.map D.str)+4)+2+((GY (us.map D.str)+4)+2+0)))+4<=1000000;lia
 ·show max 0 (max 0 (max (bF (ns.map D.str)+1) (max (bF (us.map D.str)+1) 0)))+1<=20;rw[L2.gf,L2.gf];decide
section
variable {f1 f2 f3 f4 f5 f6:FM}{d x:D}{c e:Nat}{ns us:BBB}{x3 x6 x7:Option U}
def Km (h3:ie x3=false) (h6:ie x6=false) (h7:ie x7=false) (e2:f2 [.t d]=some (.t (.int c),[])) (e3:f3 [.t d]=some (.t (.int e),[])) (e4:f4 [.t d]=some (.m (.lst ((bU ns).map D.str)),[])) (e5:f5 [.t d]=some (.m (.lst ((bU us).map D.str)),[]))
  (ln:ns.length < 64) (lu:us.length < 64) (ok:Gw (tr c e (bU ns) (bU us))):
  ∃y3 y6 y7,ie y3=false/\ie y6=false/\ie y7=false/\dZ f1 f2 f3 f4 f5 f6 [XM d,XM (tr c e ns us),XM x,x3,none,none,x6,x7]=some (.nx [XM d,XM (tr c e ns us),XM x,y3,none,none,y6,y7]):=by
 have s1:=uw ln;have s2:=uw lu;have l1:(bU ns).length < 100000:=by have:=nI ns;lia
 have l2:(bU us).length < 100000:=by have:=nI us;lia
 have a0:=fun a b c d:D=>UN a b c d;refine⟨XM (.lst [.int c,.int e,.lst ((bU ns).map D.str++[.str "x"]),.lst (.str "a" :: (bU us).map D.str)]),XM (.lst ((bU ns).map D.str++[.str "x"])),XM (.lst (.str "a" :: (bU us).map D.str)),rfl,rfl,rfl,?_⟩;refine Ds (d0:=.int c) (d1:=.int e) (x:=(bU ns).map D.str) (y:=(bU us).map D.str) (S0:=[XM d,XM (tr c e ns us),XM x,x3,none,none,x6,x7]) (S1:=[XM d,XM (tr c e ns us),XM x,x3,none,none,x6,x7]) (S2:=[XM d,XM (tr c e ns us),XM x,x3,none,none,x6,x7]) (S3:=[XM d,XM (tr c e ns us),XM x,x3,none,none,x6,x7]) (by simp[e2]) (by simp[e3]) (by simp[e4]) (by simp[e5]) fun c2 c3=>?_;have g1:qh 3 6 7 (.int c) (.int e) c2 c3 ((bU ns).map D.str) ((bU us).map D.str) [XM d,XM (tr c e ns us),XM x,x3,none,none,x6,x7]=some [XM d,XM (tr c e ns us),XM x,some (.m (gp c e c2 c3)),none,none,some (.m (.lat c2 ((bU ns).map D.str))),some (.m (.lat c3 ((bU us).map D.str)))]:=by
  simp[qh,-gG,fj,h3,h6,h7]
 rw[g1];simp only[XX];have r1:xP [D.lst [.int c,.int e,.lst ((bU ns).map D.str),.lst ((bU us).map D.str)]]=XM (.str (toPy (tr c e (bU ns) (bU us))).shown):=HD ok;generalize hN:(bU ns).map D.str=N at *;generalize hU:(bU us).map D.str=V at *;have lN:N.length < 100000:=by rw[<-hN,X3];exact l1
 have lV:V.length < 100000:=by rw[<-hU,X3];exact l2
 generalize (toPy (tr c e (bU ns) (bU us))).shown=rp at *;have i1:Ef c3 AJ [.int 0,.str "a"] (.lat c3 V)=some (.bN,.lat c3 (.str "a" :: V)):=by simp[Ef,AJ,lV]
 unfold tr;simp[-Ju,zp,K9,r1,nQ,a0,s1,s2,AF,sX,vK,lN,i1,AL]
end
def wN {a b:GS}{S S1:SS}(h:a S=some (.nx S1)):bf a b S=b S1:=by unfold bf;rw[h];rfl
noncomputable def Rk:BBB:=["yes","no","not","both","either"]
def ES:∀z∈gT,inD (.str z) (UG.map D.str)=!inD (.str z) (Rk.map D.str):=by decide +kernel
section
variable {n c e b:Nat}{bs ns us:BBB}{d:D}
def Wk.head (h:Wk n bs d c e b ns us):∃z r,d= .tup (.str z :: r)/\z∈gT:=by
 cases h with
 | leaf h=>exact⟨_,_,rfl,(dh h).1⟩
 | any=>exact⟨_,_,rfl,cM.1⟩
 | name h=>exact⟨_,_,rfl,cM.1⟩
 | num a _ _=>exact⟨_,_,rfl,cM.1⟩
 | var a _=>exact⟨_,_,rfl,cM.1⟩
 | free a _=>exact⟨_,_,rfl,cM.1⟩
 | one hz _=>exact⟨_,_,rfl,(dP hz).1⟩
 | two hz _ _=>exact⟨_,_,rfl,(dQ hz).1⟩
 | yr _ _ _=>exact⟨_,_,rfl,dR.1⟩
 | bnd hz _ _ _=>exact⟨_,_,rfl,(dU hz).1⟩
def Wk.Xl (h:Wk n bs d c e b ns us):∀a∈ns,Wd a:=by
 induction h with
 | name h=>intro a ha;rw[XU.mp ha];exact dc h
 | one _ _ ih=>exact ih
 | two _ _ _ i1 i2=>exact fun a ha=>(Yb.mp ha).elim (i1 a) (i2 a)
 | yr _ _ _ ih=>exact ih
 | bnd _ h _ _ ih=>exact fun x hx=>(XT.mp hx).elim (fun q=>by rw[q];exact dc h) (ih x)
 | _=>intro a ha;cases ha
def Wk.sm (h:Wk n [] d c e b ns us) (hn:n<=8) (hu:∀y∈us,Wd y):Sm d/\bX d<=9:=by
 have s:=h.sy us (fun _ z=>by cases z) fun _ z=>z;have f:=s.fit hu;have g:=(s.good hu).dep;exact⟨⟨f.mono (by lia),by lia⟩,by lia⟩
def strs_nil (us:BBB):kD (.lst (us.map D.str)) (.lst [])=decide (us=[]):=by cases us <;> rfl
def HE (us:BBB):bX (.lst (us.map D.str))<=40:=by show bF _+1<=40;rw[L2.gf];lia
def Qc (b:Bool):d9 ["bool"] (.bl b)=some true:=rfl
def M4 {f6:FM}{a0 a1 a2 u:D}{du nb:Bool}(hu:sQ [u,.lst []]=XM (.bl du)) (n5:f9 [.str z,.tup [.str "yes",.str "no",.str "not",.str "both",.str "either"]]=XM (.bl nb)) (bb:f6 [.t (.tup (.str z :: r))]=some (.t (.bl (du && nb)),[])):
  ∃S',(bf (cP 4 (eT (eQ (ia (qB (eF (eP sQ (aa (bJ 1 (eC (.int 3))) (aa (eF (eP cG aA)) aA))))) (qB (eF (eP f9 (aa (bJ 0 (eC (.int 0))) (aa (eF (eP cF (aa (eC (.str "yes")) (aa (eC (.str "no")) (aa (eC (.str "not")) (aa (eC (.str "both")) (aa (eC (.str "either")) aA))))))) aA)))))))))
 (bf (cP 5 (aT f6 (aU (eF (aE 0)) bx)))
 (cy (eT (eQ (ia (qB (Gu ["bool"] (eF (aE 5)))) (qB (eF (eP sQ (aa (eF (aE 5)) (aa (eF (aE 4)) aA)))))))))))
   [XM (.tup (.str z :: r)),XM (.lst [a0,a1,a2,u]),x2,x3,none,none,x6,x7]=some (.rt (.t (.bl true)) (XM (.tup (.str z :: r)) :: S')):=by
 cases du with
 | false=>exact⟨_,by simp[-GQ,hu,UN,bb];simp[Qc];rfl⟩
 | true=>cases nb <;> exact⟨_,by simp[-GQ,hu,UN,bq,n5,bb];simp[Qc];rfl⟩
def M5 (h:Wk 8 [] d c e b ns us) (hc:c<=16) (hb:b<=3) (hu:∀y∈us,Wd y):Cr [.t d]=some (.t (.bl true),[]):=by
 have p:=h.pos;obtain⟨hs,_⟩:=h.sm (by lia) hu;have h1:AM 1 6 7 (eC (.int 0)) (eC (.int 0)) (eP cG aA) (eP cG aA) (gQ (aT (lR 9) (NJ (aU (eF (aE 0)) (aU (eF (eP cG aA)) (aU (eC (.int 1)) (dB (aE 1) bx)))) [6,7]))) [XM d,none,none,none,none,none,none,none]
   = some (.nx [XM d,XM (tr c e ns us),none,none,none,none,XM (.lst (ns.map D.str)),XM (.lst (us.map D.str))]):=by
  refine Ds (d0:=.int 0) (d1:=.int 0) (x:=[]) (y:=[]) rfl rfl rfl rfl fun c2 c3=>?_;have e1:=Kh (c2:=c2) (c3:=c3) h (j:=9) (k:=0) (m:=0) (dp:=1) (A:=[]) (B:=[]) (by lia) (by decide) (by show 0+c < 1000;lia) (by show 0+c < 1000;lia);rw[show(0:Int)+c=c by lia,show max (0:Int) (1+e - 1)=e by lia,ZD,ZD,Ye] at e1;have e2:qh 1 6 7 (.int 0) (.int 0) c2 c3 [] [] [XM d,none,none,none,none,none,none,none]=some [XM d,some (.m (gp 0 0 c2 c3)),none,none,none,none,some (.m (.lat c2 [])),some (.m (.lat c3 []))]:=rfl;rw[e2];simp only[XX];simp[e1,AL,K9,tr]
 have t1:=J7 h (by lia) hc;have t2:=MY h (by lia) hc;have t3:=HA h (j:=9) (by lia);have t4:=Dl (n:=8) (by lia) h.bL;rw[h.NR.2.1] at t4;have l1:=nI ns;have l2:=nI us;have ok:Gw (tr c e (bU ns) (bU us)):=Qa hc (by lia) (fun z hz=>h.Xl z (yg.mp hz)) (fun z hz=>hu z (yg.mp hz)) (by lia) (by lia);have turn:=fun(x:D){x3 x6 x7:Option U} h3 h6 h7=>Km (f1:=lR 9) (f6:=mQ) (d:=d) (x:=x) (x3:=x3) (x6:=x6) (x7:=x7) h3 h6 h7 t4 t3 t1 t2 (by lia) (by lia) ok;obtain⟨a3,a6,a7,q3,q6,q7,u1⟩:=turn (.int 0) (x3:=none) (x6:=XM (.lst (ns.map D.str))) (x7:=XM (.lst (us.map D.str))) rfl rfl rfl;obtain⟨b3,b6,b7,r3,r6,r7,u2⟩:=turn (.int 1) q3 q6 q7;have h2:tT (bName 2) (nT (aa (eC (.int 2)) aA)) (dZ (lR 9) nZ (jP 9) tu A4 mQ) [XM d,XM (tr c e ns us),none,none,none,none,XM (.lst (ns.map D.str)),XM (.lst (us.map D.str))]
   = some (.nx [XM d,XM (tr c e ns us),XO 1,b3,none,none,b6,b7]):=by
  have g1:nT (aa (eC (.int 2)) aA) [XM d,XM (tr c e ns us),none,none,none,none,XM (.lst (ns.map D.str)),XM (.lst (us.map D.str))]=some (Bo 0 2,[XM d,XM (tr c e ns us),none,none,none,none,XM (.lst (ns.map D.str)),XM (.lst (us.map D.str))]):=Sq.yj (j:=2) rfl (by lia) (by lia);rw[GP,g1,XX];show loop _ _ [.int 0,.int 1] _=_;rw[rB];rw[show bName 2 (.int 0) [XM d,XM (tr c e ns us),none,none,none,none,XM (.lst (ns.map D.str)),XM (.lst (us.map D.str))]=some [XM d,XM (tr c e ns us),XO 0,none,none,none,XM (.lst (ns.map D.str)),XM (.lst (us.map D.str))] from rfl,XX,u1,XX];show loop _ _ [.int 1] _=_;rw[rB];rw[show bName 2 (.int 1) [XM d,XM (tr c e ns us),XO 0,a3,none,none,a6,a7]=some [XM d,XM (tr c e ns us),XO 1,a3,none,none,a6,a7] from rfl,XX,u2,XX];rfl
 obtain⟨z,r,rfl,hz⟩:=h.head;have Kn:=h.say hc hb;have hbz:=ES z hz;have n5:f9 [.str z,.tup [.str "yes",.str "no",.str "not",.str "both",.str "either"]]=XM (.bl (!inD (.str z) (Rk.map D.str))):=k6 (.str z) Rk;have bb:mQ [.t (.tup (.str z :: r))]=some (.t (.bl (decide (us=[]) && !inD (.str z) (Rk.map D.str))),[]):=by
  by_cases q:us=[]
  ·rw[Zp q] at Kn ⊢;rw[Kc hs Kn,hbz];rfl
  ·rw[Yy q] at Kn ⊢;rw[oV hs Kn];rfl
 have sn:=strs_nil us;have sd:=HE us;have he:sQ [.lst (us.map D.str),.lst []]=XM (.bl (decide (us=[]))):=by rw[GQ,if_pos sd,sn]
 obtain⟨S',fin⟩:=M4 (a0:=.int c) (a1:=.int e) (a2:=.lst (ns.map D.str)) (x2:=XO 1) (x3:=b3) (x6:=b6) (x7:=b7) he n5 bb;show((cW (lR 9) nZ (jP 9) tu A4 mQ) [XM (.tup (.str z :: r)),none,none,none,none,none,none,none]).bind _=_;unfold cW;rw[wN h1,wN h2,show tr c e ns us= .lst [.int c,.int e,.lst (ns.map D.str),.lst (us.map D.str)] from rfl,fin];rfl
end
def It (d:D) (c:Nat):Prop:=∃e b ns us,Wk 8 [] d c e b ns us/\c<=16/\b<=3/\∀y∈us,Wd y
inductive we:List D->Nat->Prop
 | nil:we [] 0
 | cons {d:D}{ds:List D}{c n:Nat}:It d c->we ds n->we (d :: ds) (c+n)
def we.app {a b:List D}{m:Nat}(h:we a n) (k:we b m):we (a++b) (n+m):=by
 induction h with
 | nil=>rw[Nat.zero_add];exact k
 | cons x _ ih=>rw[Nat.add_assoc];exact .cons x ih
theorem we.last {d:D}:∀{a:List D}{m:Nat},we (a++[d]) m->∃c n,It d c/\we a n/\m=n+c
 | [],_,h=>by
  cases h with
  | cons x y=>cases y;exact⟨_,0,x,.nil,by lia⟩
 | e :: a,_,h=>by
  cases h with
  | cons x y=>
   obtain⟨c,n,h1,h2,rfl⟩:=we.last y;exact⟨c,_,h1,.cons x h2,by lia⟩
def It.pos {d:D}{c:Nat}(h:It d c):1<=c/\bX d<=9:=by
 obtain⟨e,b,ns,us,w,_,_,hu⟩:=h;exact⟨w.pos.2.2.2.2,(w.sm (by lia) hu).2⟩
def we.dep {a:List D}(h:we a n):bF a<=9/\a.length<=n:=by
 induction h with
 | nil=>exact⟨by show 0<=9;lia,XW _⟩
 | cons x _ ih=>have:=x.pos;exact⟨by show max _ _<=9;lia,by rw[X8];lia⟩
def It.part {e b:Nat}{bs:BBB}(w:Wk n bs p c e b ns us) (hn:n<=8) (hc:c<=16) (hb:b<=3) (hw:∀y∈bs,Wd y) (hu:∀y∈us,Wd y):It p c:=by
 obtain⟨c2,e2,b2,Le,Bj,w2,k⟩:=Sy.wk (w.sy (bs++us) (fun y hy=>Yb.mpr (.inl hy)) fun y hy=>Yb.mpr (.inr hy)) [];have a:=w.NR.2;have a2:=w2.NR.2;have ec:c2=c:=by lia
 have eb:b2=b:=by lia
 subst ec;subst eb;exact⟨e2,b2,Le,Bj,w2.up hn,hc,hb,fun y hy=>(Yb.mp (k y hy).1).elim (hw y) (hu y)⟩
inductive VI:D->Nat->Prop
 | mk {z:Str}{r:List D}{lg:D}{pl:BBD}{ps:List D}{c:Nat}:eO [.t (.str z)]=some (.t (.tup [lg,.lst (pl.map D.int)]),[])->pl.map (dj (.str z :: r))=ps.map some->pl.length<=2->we ps c->VI (.tup (.str z :: r)) (c+1)
def It.kid {d:D}(h:It d c):VI d c:=by
 obtain⟨e,b,ns,us,w,hc,hb,hu⟩:=h;have no:∀y∈([]:BBB),Wd y:=fun y hy=>by cases hy
 have one:∀{p:D}{c:Nat},It p c->we [p] c:=fun h=>by have:=we.cons h .nil;rwa [aa3] at this
 cases w with
 | leaf h=>exact .mk (pl:=[]) (ps:=[]) (c:=0) (n6 h) rfl (by decide) .nil
 | any=>exact .mk (pl:=[]) (ps:=[]) (c:=0) cD rfl (by decide) .nil
 | name h=>exact .mk (pl:=[]) (ps:=[]) (c:=0) cD rfl (by decide) .nil
 | num a _ _=>exact .mk (pl:=[]) (ps:=[]) (c:=0) cD rfl (by decide) .nil
 | var a _=>exact .mk (pl:=[]) (ps:=[]) (c:=0) cD rfl (by decide) .nil
 | free a _=>exact .mk (pl:=[]) (ps:=[]) (c:=0) cD rfl (by decide) .nil
 | @one _ _ _ _ _ _ _ z p hz w=>exact .mk (pl:=[1]) (ps:=[p]) (qp hz) rfl (by decide) (one (It.part w (by lia) (by lia) hb no hu))
 | @yr _ _ _ _ _ _ _ k p _ _ w=>exact .mk (pl:=[2]) (ps:=[p]) qu rfl (by decide) (one (It.part w (by lia) (by lia) hb no hu))
 | @bnd _ _ _ _ _ _ _ z a y p hz _ h2 w=>exact .mk (pl:=[3]) (ps:=[p]) (qw hz) rfl (by decide) (one (It.part w (by lia) (by lia) (by lia) (fun x hx=>by rw[XU.mp hx];exact dc h2) hu))
 | @two _ c1 _ _ c2 _ _ _ _ _ _ _ z p q hz w w2=>exact .mk (pl:=[1,2]) (ps:=[p,q]) (qq hz) rfl (by decide) (.cons (It.part w (by lia) (by lia) (by lia) no fun y hy=>hu y (Yb.mpr (.inl hy))) (one (It.part w2 (by lia) (by lia) (by lia) no fun y hy=>hu y (Yb.mpr (.inr hy)))))
def rN (aN:FM) (aK:FM) (aC:FM) (aD:FM) (au:FM) (aI:FM) (aP:FM):GS:=
 (bf (cP 8 (eT (eM 7 tU aA)))
 (bf (mj (wG (qB (eF (aT au (aU (eF (aE 8)) bx))))) (cy (eT (eC (.bl false)))) eG)
 (gQ (eT (eM 7 dG (aa (eF (sO [8] (pS (eF (eP ug (aa (eF (aT aI (aU (bJ 8 (eC (.int 0))) bx))) (aa (eC (.int 1)) aA))))) iu (bJ 1 (eF (aE 0))))) aA))))))
def rO (aN:FM) (aK:FM) (aC:FM) (aD:FM) (au:FM) (aI:FM) (aP:FM):GS:=
 (mj (qB (eF (eP C4 (aa (eF (aT aP (aU (eF (aE 9)) bx))) (aa (eC (.bl false)) aA))))) (cy (eT (eC (.bl false)))) eG)
def rQ (aN:FM) (aK:FM) (aC:FM) (aD:FM) (au:FM) (aI:FM) (aP:FM):GS:=
 (bf (cP 2 (aT aN (dB (aE 0) (aU (eF (aE 1)) bx))))
 (bf (cP 3 (aT aK bx))
 (bf (cP 4 (eP ug (aa (eF (eP cG (aa (eF (eP cF aA)) (aa (eF (eP cF (aa (eC (.str "x")) aA))) (aa (eF (eP cF (aa (eC (.str "x")) (aa (eC (.str "ab")) aA)))) aA))))) (aa (eF (aT aC (dB (aE 2) (aU (eC (.int 3)) bx)))) aA))))
 (bf (cP 5 (nW [("names",(eF (aE 3))),("binders",(eC (.int 0)))]))
 (bf (cP 6 (aT aD (dB (aE 2) (dB (aE 5) (aU (eF (aE 4)) (aU (eF (eP gD (aa (eC (.int 1)) (aa (eF (aT aC (dB (aE 2) (aU (eC (.int 16)) bx)))) aA)))) (aU (eF (eP gD (aa (eC (.int 1)) (aa (eF (aT aC (dB (aE 2) (aU (eC (.int 8)) bx)))) aA)))) bx)))))))
 (bf (cP 7 (eP cG (aa (eF (aE 6)) aA)))
 (bf (BR 100000 (qB (nX Gp 7 (eF (eP cG aA)))) (rN aN aK aC aD au aI aP))
 (tT (bName 9) (pS (eF (eP cG (aa (eC .bN) (aa (eC (.str "always")) (aa (eF (eP cF (aa (eC (.str "always")) aA))) (aa (eF (eP cG (aa (eC (.str "always")) (aa (eF (aE 6)) aA)))) (aa (eF (eP cF (aa (eC (.str "now")) (aa (eF (eP cF (aa (eC (.str "any")) aA))) (aa (eC (.int 1)) aA))))) (aa (eF (eP cF aA)) aA))))))))) (rO aN aK aC aD au aI aP)))))))))
def Dt (aN:FM) (aK:FM) (aC:FM) (aD:FM) (au:FM) (aI:FM) (aP:FM):GS:=
 (bf (tT (bName 1) (nT (aa (eF (eP gD (aa (eC (.int 1)) (aa (eF (eP wI (aa (eF (DY 0 none (some (eC (.int 14))))) aA))) aA)))) aA)) (rQ aN aK aC aD au aI aP))
 (cy (eT (eC (.bl true)))))
section
variable {f1 f2 f3 f4 f5 f6 f7:FM}{d:D}{L:List D}{s0 s1 s2 s3 s4 s5 s6 x8 x9:Option U}
theorem A5 {z:Str}{r:List D}:∀{pl:BBD}{ps acc:List D},pl.map (dj (.str z :: r))=ps.map some->d8 [8] iu (bJ 1 (eF (aE 0))) (pl.map D.int) [s0,s1,s2,s3,s4,s5,s6,XN L,XM (.tup (.str z :: r)),x9] acc=some (acc++ps,[s0,s1,s2,s3,s4,s5,s6,XN L,XM (.tup (.str z :: r)),x9])
 | [],[],acc,_=>by simp[d8]
 | [],_ :: _,_,h=>by cases h
 | _ :: _,[],_,h=>by cases h
 | k :: pl,p :: ps,acc,h=>by
  have h1:dj (.str z :: r) k=some p:=(List.cons.inj h).1;have ih:=A5 (acc:=acc++[p]) (List.cons.inj h).2;rw[Yd,Sq.Cf];have e:d8 [8] iu (bJ 1 (eF (aE 0))) [.int k] [s0,s1,s2,s3,s4,s5,s6,XN L,XM (.tup (.str z :: r)),x9] acc=some (acc++[p],[s0,s1,s2,s3,s4,s5,s6,XN L,XM (.tup (.str z :: r)),x9]):=by
   simp[d8,iA,BS,iu,h1,aB,wb]
  rw[e];show d8 _ _ _ _ _ _=_;rw[ih,Zn];rfl
def HF {ps:List D}{lg:D}{pl:BBD}(h8:ie x8=false) (e5:f5 [.t (.tup (.str z :: r))]=some (.t (.bl true),[])) (e6:f6 [.t (.str z)]=some (.t (.tup [lg,.lst (pl.map D.int)]),[])) (hp:pl.map (dj (.str z :: r))=ps.map some) (hl:pl.length<=2) (hL:L.length<=1000):
  rN f1 f2 f3 f4 f5 f6 f7 [s0,s1,s2,s3,s4,s5,s6,XN (L++[.tup (.str z :: r)]),x8,x9]=some (.nx [s0,s1,s2,s3,s4,s5,s6,XN (L++ps),XM (.tup (.str z :: r)),x9]):=by
 have k:=A5 (s0:=s0) (s1:=s1) (s2:=s2) (s3:=s3) (s4:=s4) (s5:=s5) (s6:=s6) (x9:=x9) (L:=L) (ps:=ps) (acc:=[]) hp;rw[ZD] at k;have lp:ps.length=pl.length:=by have:=congrArg List.length hp;simpa using this.symm
 have l1:pl.length<=100000:=by lia
 have l2:L.length+ps.length<=100000:=by lia
 have g:(L++[D.tup (.str z :: r)])[L.length]? =some (.tup (.str z :: r)):=by rw[Zm (XW _),Nat.sub_self];rfl
 simp[rN,tU,-gG,fj,h8,e5,bq,bG,e6,cJ,k,dG,l1,l2,g]
def Ko (e5:∀d c,It d c->f5 [.t d]=some (.t (.bl true),[])):∀(m fuel:Nat) (L:List D) (x8:Option U),we L m->m<=16->m < fuel->ie x8=false->
  ∃y8,ie y8=false/\sN (qB (nX Gp 7 (eF (eP cG aA)))) (rN f1 f2 f3 f4 f5 eO f7) fuel [s0,s1,s2,s3,s4,s5,s6,XN L,x8,x9]=some (.nx [s0,s1,s2,s3,s4,s5,s6,XN [],y8,x9]):=by
 intro m
 induction m using Nat.strongRecOn with
 | _ m ih=>
  intro fuel L x8 hL hm hf h8;obtain⟨fuel,rfl⟩:∃i,fuel=i+1:=⟨fuel - 1,by lia⟩
  have dp:=hL.dep;have dl:bX (.lst L)<=40:=by show bF L+1<=40;lia
  rcases List.eq_nil_or_concat L with rfl | ⟨A,d,rfl⟩
  ·refine⟨x8,h8,?_⟩;have q:kD (.lst []) (.lst [])=true:=rfl;unfold L2.sN;simp[dl,q,nX,look]
  ·rw[List.concat_eq_append] at *;obtain⟨c,n,h1,h2,rfl⟩:=hL.last;have hk:=h1.kid;have hp:=h1.pos;have Xm:=e5 d c h1;cases hk with
   | @mk z r lg pl ps c sh hpl hlen its=>
    have XI:=h2.dep;have q:kD (.lst (A++[D.tup (.str z :: r)])) (.lst [])=false:=by cases A <;> rfl
    obtain⟨y8,hy,e⟩:=ih (n+c) (by lia) fuel (A++ps) (XM (.tup (.str z :: r))) (h2.app its) (by lia) (by lia) rfl;refine⟨y8,hy,?_⟩;have t:=HF (f1:=f1) (f2:=f2) (f3:=f3) (f4:=f4) (f7:=f7) (s0:=s0) (s1:=s1) (s2:=s2) (s3:=s3) (s4:=s4) (s5:=s5) (s6:=s6) (x9:=x9) h8 Xm sh hpl hlen (L:=A) (by lia);unfold L2.sN;have c1:qB (nX Gp 7 (eF (eP cG aA))) [s0,s1,s2,s3,s4,s5,s6,XN (A++[D.tup (.str z :: r)]),x8,x9]=some (true,[s0,s1,s2,s3,s4,s5,s6,XN (A++[D.tup (.str z :: r)]),x8,x9]):=by simp[dl,q,nX,look]
    rw[c1];simp only[XX,↓reduceIte];rw[t];simp only[XX];exact e
def Kp (f7:FM) (ds:List D) (h:∀d∈ds,f7 [.t d]=some (.t (.bl false),[])) (h9:ie x9=false):∃y9,ie y9=false/\loop (bName 9) (rO f1 f2 f3 f4 f5 f6 f7) ds [s0,s1,s2,s3,s4,s5,s6,L0,x8,x9]=some (.nx [s0,s1,s2,s3,s4,s5,s6,L0,x8,y9]):=by
 obtain⟨S',e,y,hy,rfl⟩:=qi (bd:=bName 9) (body:=rO f1 f2 f3 f4 f5 f6 f7) ds (fun _ S=>∃y,ie y=false/\S=[s0,s1,s2,s3,s4,s5,s6,L0,x8,y]) [s0,s1,s2,s3,s4,s5,s6,L0,x8,x9] ⟨x9,h9,rfl⟩ (by
  rintro k p S hk ⟨y,hy,rfl⟩;have:=h p (Yn hk);exact⟨[s0,s1,s2,s3,s4,s5,s6,L0,x8,XM p],_,by simp[-gG,fj,hy],by simp[rO,this];rfl,_,rfl,rfl⟩)
 exact⟨y,hy,e⟩
end
noncomputable def HG (d:D):List D:=[.bN,.str "always",.tup [.str "always"],.lst [.str "always",d],.tup [.str "now",.tup [.str "any"],.int 1],.tup []]
def M6 {d:D}(h:Sm d) (hd:bX d<=9):∀x∈HG d,mQ [.t x]=some (.t (.bl false),[]):=by
 intro x hx;simp only[HG,XT,Yi,YF] at hx;have st:∀{z:Str},z.length<=8->xE 20000 (.str z):=fun {z} h=>X7 h (by decide);rcases hx with rfl | rfl | rfl | rfl | rfl | rfl
 ·exact oV ⟨True.intro,by decide⟩ rfl
 ·exact oV ⟨st (by decide),by decide⟩ rfl
 ·exact oV ⟨⟨by decide,st (by decide),True.intro⟩,by decide⟩ (by decide +kernel)
 ·exact oV ⟨⟨by show 2<=20000;decide,st (by decide),h.1,True.intro⟩,by show max 0 (max (bX d) 0)+1<=38;lia⟩ rfl
 ·exact oV ⟨⟨by decide,st (by decide),⟨by decide,st (by decide),True.intro⟩,True.intro,True.intro⟩,by decide⟩ (by decide +kernel)
 ·exact oV ⟨⟨by decide,True.intro⟩,by decide⟩ rfl
def Kq (g:FM->FM->FM->FM->FM->FM->FM->GS):GS:=g qc mJ gg (tX 17) Cr eO mQ
noncomputable def NS:List (BBB):=[[],["x"],["x","ab"]]
def M7 {c:Int}(h0:0<=c) (h1:c < 3):∃vs:BBB,dj [D.tup [],.tup [.str "x"],.tup [.str "x",.str "ab"]] c=some (.tup (vs.map D.str))/\vs∈NS:=by
 have:c=0\/c=1\/c=2:=by lia
 rcases this with rfl | rfl | rfl
 ·exact⟨[],rfl,by simp[NS]⟩
 ·exact⟨["x"],rfl,by simp[NS]⟩
 ·exact⟨["x","ab"],rfl,by simp[NS]⟩
def M8:∀vs∈NS,(∀y∈vs,Wd y)/\vs.length<=3:=by
 intro vs hv;simp only[NS,XT,Yi,YF] at hv;have wx:Wd "x":=jf _ (by decide) (by decide);have wa:Wd "ab":=jf _ (by decide) (by decide);rcases hv with rfl | rfl | rfl
 ·exact⟨fun y hy=>(by cases hy),by decide⟩
 ·exact⟨fun y hy=>(by rw[XU.mp hy];exact wx),by decide⟩
 ·refine⟨fun y hy=>?_,by decide⟩;rcases XT.mp hy with q | q
  ·rw[q];exact wx
  ·rw[XU.mp q];exact wa
def ET {ns:BBD}{k:Int}(h:0<=k) (h1:k < 1000000) (h2:ns.length < 1000000):qc [.s ns,.t (.int k)]=some (.m (tp (xW ns k)),[]):=by simp[qc,h,h1,h2]
def UO (aN:FM) (aK:FM) (aC:FM) (aD:FM) (au:FM) (aI:FM) (aP:FM):GS:=
 (cP 2 (aT aN (dB (aE 0) (aU (eF (aE 1)) bx))))
def UP (aN:FM) (aK:FM) (aC:FM) (aD:FM) (au:FM) (aI:FM) (aP:FM):GS:=
 (cP 3 (aT aK bx))
def UQ (aN:FM) (aK:FM) (aC:FM) (aD:FM) (au:FM) (aI:FM) (aP:FM):GS:=
 (cP 4 (eP ug (aa (eF (eP cG (aa (eF (eP cF aA)) (aa (eF (eP cF (aa (eC (.str "x")) aA))) (aa (eF (eP cF (aa (eC (.str "x")) (aa (eC (.str "ab")) aA)))) aA))))) (aa (eF (aT aC (dB (aE 2) (aU (eC (.int 3)) bx)))) aA))))
def UR (aN:FM) (aK:FM) (aC:FM) (aD:FM) (au:FM) (aI:FM) (aP:FM):GS:=
 (cP 5 (nW [("names",(eF (aE 3))),("binders",(eC (.int 0)))]))
def US (aN:FM) (aK:FM) (aC:FM) (aD:FM) (au:FM) (aI:FM) (aP:FM):GS:=
 (cP 6 (aT aD (dB (aE 2) (dB (aE 5) (aU (eF (aE 4)) (aU (eF (eP gD (aa (eC (.int 1)) (aa (eF (aT aC (dB (aE 2) (aU (eC (.int 16)) bx)))) aA)))) (aU (eF (eP gD (aa (eC (.int 1)) (aa (eF (aT aC (dB (aE 2) (aU (eC (.int 8)) bx)))) aA)))) bx)))))))
def UT (aN:FM) (aK:FM) (aC:FM) (aD:FM) (au:FM) (aI:FM) (aP:FM):GS:=
 (cP 7 (eP cG (aa (eF (aE 6)) aA)))
def VJ (aN:FM) (aK:FM) (aC:FM) (aD:FM) (au:FM) (aI:FM) (aP:FM):GS:=
 (BR 100000 (qB (nX Gp 7 (eF (eP cG aA)))) (rN aN aK aC aD au aI aP))
def UU (aN:FM) (aK:FM) (aC:FM) (aD:FM) (au:FM) (aI:FM) (aP:FM):GS:=
 (tT (bName 9) (pS (eF (eP cG (aa (eC .bN) (aa (eC (.str "always")) (aa (eF (eP cF (aa (eC (.str "always")) aA))) (aa (eF (eP cG (aa (eC (.str "always")) (aa (eF (aE 6)) aA)))) (aa (eF (eP cF (aa (eC (.str "now")) (aa (eF (eP cF (aa (eC (.str "any")) aA))) (aa (eC (.int 1)) aA))))) (aa (eF (eP cF aA)) aA))))))))) (rO aN aK aC aD au aI aP))
def lb_eq (aN:FM) (aK:FM) (aC:FM) (aD:FM) (au:FM) (aI:FM) (aP:FM):rQ aN aK aC aD au aI aP=bf (UO aN aK aC aD au aI aP) (bf (UP aN aK aC aD au aI aP) (bf (UQ aN aK aC aD au aI aP) (bf (UR aN aK aC aD au aI aP) (bf (US aN aK aC aD au aI aP) (bf (UT aN aK aC aD au aI aP) (bf (VJ aN aK aC aD au aI aP) (UU aN aK aC aD au aI aP))))))):=rfl
section
variable {f1 f2 f3 f4 f5 f6 f7:FM}{x2 x3 x4 x5 x6 x7 x8 x9 y8 y9:Option U}{ns:BBD}{k a b c:Int}{T0 T1 T2 T3 T4 W1:MO}{nl vs:List D}{W0:List (Key×D)}{d:D}
def HH (h2:ie x2=false) (h3:ie x3=false) (h4:ie x4=false) (h5:ie x5=false) (h6:ie x6=false) (h7:ie x7=false)
  (e1:f1 [.s ns,.t (.int k)]=some (.m T0,[])) (e2:f2 []=some (.m (.lst nl),[])) (p0:f3 [.b T0,.t (.int 3)]=some (.t (.int c),[T1])) (hv:dj [D.tup [],.tup [.str "x"],.tup [.str "x",.str "ab"]] c=some (.tup vs))
  (w0:cz [] [((.inr "names":Key),D.lst nl),(.inr "binders",.int 0)]=W0) (p1:f3 [.b T1,.t (.int 16)]=some (.t (.int a),[T2])) (p2:f3 [.b T2,.t (.int 8)]=some (.t (.int b),[T3]))
  (e4:f4 [.b T3,.b (.dct W0),.t (.tup vs),.t (.int (1+a)),.t (.int (1+b))]=some (.t d,[T4,W1]))
  (l1:sN (qB (nX Gp 7 (eF (eP cG aA)))) (rN f1 f2 f3 f4 f5 f6 f7) 100000 [some (.s ns),XO k,some (.m T4),XM (.lst nl),XM (.tup vs),some (.m W1),XM d,XN [d],x8,x9]=some (.nx [some (.s ns),XO k,some (.m T4),XM (.lst nl),XM (.tup vs),some (.m W1),XM d,XN [],y8,x9]))
  (l2:loop (bName 9) (rO f1 f2 f3 f4 f5 f6 f7) (HG d) [some (.s ns),XO k,some (.m T4),XM (.lst nl),XM (.tup vs),some (.m W1),XM d,XN [],y8,x9]=some (.nx [some (.s ns),XO k,some (.m T4),XM (.lst nl),XM (.tup vs),some (.m W1),XM d,XN [],y8,y9])):
  rQ f1 f2 f3 f4 f5 f6 f7 [some (.s ns),XO k,x2,x3,x4,x5,x6,x7,x8,x9]=some (.nx [some (.s ns),XO k,some (.m T4),XM (.lst nl),XM (.tup vs),some (.m W1),XM d,XN [],y8,y9]):=by
 rw[lb_eq];have s0:UO f1 f2 f3 f4 f5 f6 f7 [some (.s ns),XO k,x2,x3,x4,x5,x6,x7,x8,x9]=some (.nx [some (.s ns),XO k,some (.m T0),x3,x4,x5,x6,x7,x8,x9]):=by simp[-gG,fj,UO,h2,e1]
 have s1:UP f1 f2 f3 f4 f5 f6 f7 [some (.s ns),XO k,some (.m T0),x3,x4,x5,x6,x7,x8,x9]=some (.nx [some (.s ns),XO k,some (.m T0),XN nl,x4,x5,x6,x7,x8,x9]):=by simp[-gG,fj,UP,h3,e2]
 have s2:UQ f1 f2 f3 f4 f5 f6 f7 [some (.s ns),XO k,some (.m T0),XN nl,x4,x5,x6,x7,x8,x9]=some (.nx [some (.s ns),XO k,some (.m T1),XN nl,XM (.tup vs),x5,x6,x7,x8,x9]):=by simp[-gG,fj,UQ,h4,p0,hv]
 have s3:UR f1 f2 f3 f4 f5 f6 f7 [some (.s ns),XO k,some (.m T1),XN nl,XM (.tup vs),x5,x6,x7,x8,x9]=some (.nx [some (.s ns),XO k,some (.m T1),XM (.lst nl),XM (.tup vs),some (.m (.dct W0)),x6,x7,x8,x9]):=by simp[-gG,fj,UR,h5,w0]
 have s4:US f1 f2 f3 f4 f5 f6 f7 [some (.s ns),XO k,some (.m T1),XM (.lst nl),XM (.tup vs),some (.m (.dct W0)),x6,x7,x8,x9]=some (.nx [some (.s ns),XO k,some (.m T4),XM (.lst nl),XM (.tup vs),some (.m W1),XM d,x7,x8,x9]):=by simp[-gG,fj,US,h6,p1,p2,e4]
 have s5:UT f1 f2 f3 f4 f5 f6 f7 [some (.s ns),XO k,some (.m T4),XM (.lst nl),XM (.tup vs),some (.m W1),XM d,x7,x8,x9]=some (.nx [some (.s ns),XO k,some (.m T4),XM (.lst nl),XM (.tup vs),some (.m W1),XM d,XN [d],x8,x9]):=by simp[-gG,fj,UT,h7]
 have s7:UU f1 f2 f3 f4 f5 f6 f7 [some (.s ns),XO k,some (.m T4),XM (.lst nl),XM (.tup vs),some (.m W1),XM d,XN [],y8,x9]=some (.nx [some (.s ns),XO k,some (.m T4),XM (.lst nl),XM (.tup vs),some (.m W1),XM d,XN [],y8,y9]):=by
  rw[<-l2];simp[UU,cJ,HG]
 have s6:VJ f1 f2 f3 f4 f5 f6 f7 [some (.s ns),XO k,some (.m T4),XM (.lst nl),XM (.tup vs),some (.m W1),XM d,XN [d],x8,x9]=some (.nx [some (.s ns),XO k,some (.m T4),XM (.lst nl),XM (.tup vs),some (.m W1),XM d,XN [],y8,x9]):=l1;rw[wN s0,wN s1,wN s2,wN s3,wN s4,wN s5,wN s6,s7]
end
def M9:cz [] [((.inr "names":Key),D.lst Bm),(.inr "binders",.int 0)]=Dn ((0:Nat):Int):=rfl
def FW {ns:BBD}{k:Int}{x4 x5 x8 x9:Option U}(k0:0<=k) (k1:k < 1000) (hns:ns.length < 1000) (h2:ie x2=false) (h3:ie x3=false) (h4:ie x4=false) (h5:ie x5=false) (h6:ie x6=false) (h7:ie x7=false) (h8:ie x8=false) (h9:ie x9=false):
  ∃y2 y3 y4 y5 y6 y7 y8 y9,ie y2=false/\ie y3=false/\ie y4=false/\ie y5=false/\ie y6=false/\ie y7=false/\ie y8=false/\ie y9=false/\
   Kq rQ [some (.s ns),XO k,x2,x3,x4,x5,x6,x7,x8,x9]=some (.nx [some (.s ns),XO k,y2,y3,y4,y5,y6,y7,y8,y9]):=by
 have e1:=ET (ns:=ns) (k:=k) k0 (by lia) (by lia);have XJ:(xW ns k).n=0:=rfl;generalize xW ns k=t0 at *;have p0:=dI (t:=t0) (m:=3) (by lia) (by lia) (by lia) (by lia);obtain⟨c0,c1⟩:=bQ (t:=t0) (m:=3) (by lia);have Uy:(cu t0 3).n=t0.n+1:=dH t0 3;generalize eL t0 3=c at *;generalize cu t0 3=t1 at *;have p1:=dI (t:=t1) (m:=16) (by lia) (by lia) (by lia) (by lia);obtain⟨a0,a1⟩:=bQ (t:=t1) (m:=16) (by lia);have NQ:(cu t1 16).n=t1.n+1:=dH t1 16;generalize eL t1 16=a at *;generalize cu t1 16=t2 at *;have p2:=dI (t:=t2) (m:=8) (by lia) (by lia) (by lia) (by lia);obtain⟨b0,b1⟩:=bQ (t:=t2) (m:=8) (by lia);have VF:(cu t2 8).n=t2.n+1:=dH t2 8;generalize eL t2 8=b at *;generalize cu t2 8=t3 at *;obtain⟨vs,hv,hm⟩:=M7 c0 c1;obtain⟨hw,hl⟩:=M8 vs hm;obtain⟨ra,Xn⟩:∃r:Nat,(r:Int)=1+a:=⟨(1+a).toNat,by lia⟩
 obtain⟨rb,hrb⟩:∃r:Nat,(r:Int)=1+b:=⟨(1+b).toNat,by lia⟩
 obtain⟨d,t4,bin,e4,dr,bb,g4,g5⟩:=MR rb (by lia) 17 ra (by lia) (by lia) (by lia) t3 vs 0 (by lia) (by lia) (by lia) (fun z hz=>(hw z hz).2) (by lia);rw[Xn,hrb] at e4;have hn:rb<=8:=by lia
 have hd:=Sy.of dr.fm;obtain⟨sc,se,sb,Xo,VL,w,RY⟩:=Sy.wk hd [];obtain⟨_,w2,w3⟩:=w.NR;have sz:=dr.sz;have bn:=dr.bn;have hu:∀y∈VL,Wd y:=fun y hy=>hw y (RY y hy).1;have it:It d sc:=⟨se,sb,Xo,VL,w.up hn,by lia,by lia,hu⟩
 obtain⟨sm,dp⟩:=(w.up hn).sm (by lia) hu;obtain⟨y8,q8,l1⟩:=Ko (f1:=qc) (f2:=mJ) (f3:=gg) (f4:=tX 17) (f5:=Cr) (f7:=mQ) (s0:=some (.s ns)) (s1:=XO k) (s2:=some (.m (tp t4))) (s3:=XM (.lst Bm)) (s4:=XM (.tup (vs.map D.str))) (s5:=some (.m (.dct (Dn ((0+bin:Nat):Int))))) (s6:=XM d) (x9:=x9)
  (fun d c ⟨e,b,ns,us,w,hc,hb,hu⟩=>M5 w hc hb hu) sc 100000 [d] x8 (by have:=we.cons it .nil;rwa [aa3] at this) (by lia) (by lia) h8
 obtain⟨y9,q9,l2⟩:=Kp (f1:=qc) (f2:=mJ) (f3:=gg) (f4:=tX 17) (f5:=Cr) (f6:=eO) (s0:=some (.s ns)) (s1:=XO k) (s2:=some (.m (tp t4))) (s3:=XM (.lst Bm)) (s4:=XM (.tup (vs.map D.str))) (s5:=some (.m (.dct (Dn ((0+bin:Nat):Int))))) (s6:=XM d) (L0:=XN []) (x8:=y8) (x9:=x9) mQ (HG d) (M6 sm dp) h9;exact⟨_,_,_,_,_,_,_,_,rfl,rfl,rfl,rfl,rfl,rfl,q8,q9,HH h2 h3 h4 h5 h6 h7 e1 (show mJ []=some (.m (.lst Bm),[]) from rfl) p0 hv M9 p1 p2 e4 l1 l2⟩
def Lf (ns:BBD):(uT ns none (some 14)).length<=14:=by
 unfold uT;rw[Zs];have:HT.eu ns.length ns.length (some 14)<=14:=by
  have:=HT.CO ns.length ns.length 14;have e:HT.eu ns.length ns.length (some ((14:Nat):Int))=HT.eu ns.length ns.length (some 14):=rfl;rw[<-e,this];exact Nat.min_le_left _ _
 have:HT.eu ns.length 0 none=0:=rfl;lia
def UW (aN:FM) (aK:FM) (aC:FM) (aD:FM) (au:FM) (aI:FM) (aP:FM):GS:=
 (tT (bName 1) (nT (aa (eF (eP gD (aa (eC (.int 1)) (aa (eF (eP wI (aa (eF (DY 0 none (some (eC (.int 14))))) aA))) aA)))) aA)) (rQ aN aK aC aD au aI aP))
def VM (aN:FM) (aK:FM) (aC:FM) (aD:FM) (au:FM) (aI:FM) (aP:FM):GS:=
 (cy (eT (eC (.bl true))))
def lw_eq (aN:FM) (aK:FM) (aC:FM) (aD:FM) (au:FM) (aI:FM) (aP:FM):Dt aN aK aC aD au aI aP=bf (UW aN aK aC aD au aI aP) (VM aN aK aC aD au aI aP):=rfl
def EU:∀us r,zm 63 us=some r->aJ 10 (Kq Dt) us=some r:=by
 intro us r h;unfold zm at h;split at h
 ·rename_i ns;obtain⟨hl,rfl⟩:=bw h;show((Kq Dt) [some (.s ns),none,none,none,none,none,none,none,none,none]).bind _=_;simp only[Kq];rw[lw_eq];obtain⟨S',e3,x1,x2,x3,x4,x5,x6,x7,x8,x9,r1,r2,r3,r4,r5,r6,r7,r8,r9,hS⟩:=qi (bd:=bName 1) (body:=Kq rQ) (Bo 0 (1+(uT ns none (some 14)).length))
   (fun j S=>∃x1 x2 x3 x4 x5 x6 x7 x8 x9:Option U,ie x1=false/\ie x2=false/\ie x3=false/\ie x4=false/\ie x5=false/\ie x6=false/\ie x7=false/\ie x8=false/\ie x9=false/\S=[some (.s ns),x1,x2,x3,x4,x5,x6,x7,x8,x9])
   [some (.s ns),none,none,none,none,none,none,none,none,none] ⟨_,_,_,_,_,_,_,_,_,rfl,rfl,rfl,rfl,rfl,rfl,rfl,rfl,rfl,rfl⟩ (by
    rintro j d S hd ⟨x1,x2,x3,x4,x5,x6,x7,x8,x9,r1,r2,r3,r4,r5,r6,r7,r8,r9,rfl⟩;obtain⟨hj,rfl⟩:=JM hd;have:=Lf ns;obtain⟨z2,z3,z4,z5,z6,z7,z8,z9,g2,g3,g4,g5,g6,g7,g8,g9,e⟩:=FW (ns:=ns) (k:=j) (by lia) (by lia) (by lia) r2 r3 r4 r5 r6 r7 r8 r9;exact⟨_,_,by simp[-gG,fj,r1],e,_,z2,z3,z4,z5,z6,z7,z8,z9,rfl,g2,g3,g4,g5,g6,g7,g8,g9,rfl⟩)
  have s3:Kq UW [some (.s ns),none,none,none,none,none,none,none,none,none]=some (.nx S'):=by
   have c:=Lf ns;have g1:nT (aa (eF (eP gD (aa (eC (.int 1)) (aa (eF (eP wI (aa (eF (DY 0 none (some (eC (.int 14))))) aA))) aA)))) aA) [some (.s ns),none,none,none,none,none,none,none,none,none]=some (Bo 0 (1+(uT ns none (some 14)).length),[some (.s ns),none,none,none,none,none,none,none,none,none]):=by
    have:(1+((uT ns none (some 14)).length:Int)).toNat=1+(uT ns none (some 14)).length:=by lia
    rw[<-this];refine Sq.yj ?_ (by lia) (by lia);simp[DY]
   simp only[Kq,UW];rw[GP,g1,XX];simp only[Kq] at e3;exact e3
  simp only[Kq] at s3;rw[wN s3];subst hS;simp[VM,aB]
 ·cases h
def Cs (us:List U):nY 0 us=none:=rfl
def EV (us:List U):qk 0 us=none:=rfl
end S6
end
namespace K06
open PySem PySem.Spec PyProof.Rows L2 Sw Ss Sp S6
variable {j:Nat}{l:PySem.W.OpenLaw}
def top (i:Nat):Stmt:=PySem.Challenge.pw_surewatch_k06_counted_in_sayings.main.body.getD i (.Pass ⟨0,0,0,0⟩)
structure Zc where
 P:Program
 w:World
 K:PySem.W.Frag
 mg:Str->BBP
structure Nb (P:Program) (w:World) (K:AAA) (mg:AAC):Prop where
 dD:mg "isinstance" =none
 UX:mg "int" =none
 Lg:mg "bool" =none
 Na:mg "tuple" =none
 nP:mg "len" =none
 Kr:mg "str" =none
 Qd:mg "all" =none
 Nc:mg "max" =none
 ux:mg "sorted" =none
 Ks:mg "set" =none
 HJ:mg "range" =none
 Lh:mg "repr" =none
 wO:∃t,mg "LONGEST_NAME" =some (.int 8 t)
 HK:∃t,mg "LETTERS" =some (.str "abcdefghijklmnopqrstuvwxyz" t)
 rR:∃t,mg "GREATEST_NUMBER" =some (.int 9 t)
 Ku:∃a,mg "STARTS" =some (.ref a)/\KTab P w K a [("yes",1),("no",1),("now",2),("not",1),("both",1),("either",1),("next",1),("till",1),("within",2),("always",1),("some",1),("each",3),("one",3)]
 qx:∃a,mg "BINDERS" =some (.ref a)/\B0 K a ["each","one"]
 HL:∃a,mg "LENGTHS" =some (.ref a)/\KTab P w K a [("yes",1),("no",1),("now",2),("not",2),("both",3),("either",3),("next",2),("till",3),("within",3),("always",2),("some",2),("each",4),("one",4)]
 rS:∃t,mg "GREATEST_WITHIN" =some (.int 5 t)
 zB:∃t,mg "MOST_WITHIN" =some (.int 8 t)
 wQ:∃t,mg "MOST_SAYINGS" =some (.int 16 t)
 wR:∃t,mg "MOST_BINDERS" =some (.int 3 t)
 Kv:∃a,mg "BASICS" =some (.ref a)/\B0 K a ["now","next","till","within","always","some","each","one"]
abbrev NZ (z:Zc):Prop:=Nb z.P z.w z.K z.mg
variable {z:Zc}{b:Heap}
abbrev oW:Stmt:=top 3
abbrev vP (z:Zc):Prop:=Df z.K z.mg "is_whole" oW
abbrev lA (z:Zc) (b:Heap):Prop:=nO z.P z.w z.K z.mg b 1 "is_whole" ["thing","least","most"] mG
abbrev oX:Stmt:=top 4
abbrev vQ (z:Zc):Prop:=Df z.K z.mg "is_tuple" oX
abbrev lB (z:Zc) (b:Heap):Prop:=nO z.P z.w z.K z.mg b 1 "is_tuple" ["thing","least","most"] mH
abbrev rT:Stmt:=top 5
abbrev yz (z:Zc):Prop:=Df z.K z.mg "is_name" rT
abbrev nJ (z:Zc) (b:Heap):Prop:=nO z.P z.w z.K z.mg b 1 "is_name" ["thing"] sY
abbrev ig:Stmt:=top 8
abbrev lT (z:Zc):Prop:=Df z.K z.mg "is_test_among" ig
abbrev ir (z:Zc) (b:Heap):Prop:=nO z.P z.w z.K z.mg b 2 "is_test_among" ["thing","bound"] mO
abbrev oY:Stmt:=top 18
abbrev vR (z:Zc):Prop:=Df z.K z.mg "parts_of" oY
abbrev gI (z:Zc) (b:Heap):Prop:=nO z.P z.w z.K z.mg b 1 "parts_of" ["saying"] fM
abbrev jg:Stmt:=top 19
abbrev mR (z:Zc):Prop:=Df z.K z.mg "bound_within" jg
abbrev gn (z:Zc) (b:Heap):Prop:=nO z.P z.w z.K z.mg b 1 "bound_within" ["saying","bound"] i8
abbrev mS:Stmt:=top 20
abbrev tw (z:Zc):Prop:=Df z.K z.mg "is_shaped" mS
abbrev mT (z:Zc) (b:Heap):Prop:=nO z.P z.w z.K z.mg b 3 "is_shaped" ["thing","bound"] cZ
abbrev mU:Stmt:=top 21
abbrev tF (z:Zc):Prop:=Df z.K z.mg "is_formed" mU
abbrev jC (z:Zc) (b:Heap) (j:Nat):Prop:=nO z.P z.w z.K z.mg b (j+3) "is_formed" ["thing","bound","room"] (nY j)
abbrev vU:Stmt:=top 22
abbrev A6 (z:Zc):Prop:=Df z.K z.mg "all_in" vU
abbrev kC (z:Zc) (b:Heap) (j:Nat):Prop:=nO z.P z.w z.K z.mg b (j+1) "all_in" ["saying"] (qk j)
abbrev lC:Stmt:=top 23
abbrev qy (z:Zc):Prop:=Df z.K z.mg "binders_in" lC
abbrev lD (z:Zc) (b:Heap):Prop:=nO z.P z.w z.K z.mg b 11 "binders_in" ["saying"] yq
abbrev mV:Stmt:=top 24
abbrev tG (z:Zc):Prop:=Df z.K z.mg "is_saying" mV
abbrev mW (z:Zc) (b:Heap):Prop:=nO z.P z.w z.K z.mg b 13 "is_saying" ["thing"] kY
abbrev oZ:Stmt:=top 25
abbrev vV (z:Zc):Prop:=Df z.K z.mg "is_basic" oZ
abbrev lE (z:Zc) (b:Heap):Prop:=nO z.P z.w z.K z.mg b 14 "is_basic" ["thing"] mQ
abbrev Ct:Stmt:=top 26
abbrev HM (z:Zc):Prop:=Df z.K z.mg "size" Ct
abbrev zC (z:Zc) (b:Heap):Prop:=nO z.P z.w z.K z.mg b 11 "size" ["saying"] nZ
abbrev zD:Stmt:=top 27
abbrev Du (z:Zc):Prop:=Df z.K z.mg "depth" zD
abbrev uy (z:Zc) (b:Heap) (j:Nat):Prop:=nO z.P z.w z.K z.mg b (j+1) "depth" ["saying"] (jP j)
abbrev o7:Stmt:=top 28
abbrev vW (z:Zc):Prop:=Df z.K z.mg "names_in" o7
abbrev o8 (z:Zc) (b:Heap):Prop:=nO z.P z.w z.K z.mg b 11 "names_in" ["saying"] tu
abbrev jh:Stmt:=top 29
abbrev mX (z:Zc):Prop:=Df z.K z.mg "has_variable" jh
abbrev ji (z:Zc) (b:Heap):Prop:=nO z.P z.w z.K z.mg b 1 "has_variable" ["test"] J2
abbrev lF:Stmt:=top 30
abbrev qz (z:Zc):Prop:=Df z.K z.mg "unbound_in" lF
abbrev iE (z:Zc) (b:Heap) (j:Nat):Prop:=nO z.P z.w z.K z.mg b (j+1) "unbound_in" ["saying","bound"] (zA j)
abbrev rU:Stmt:=top 31
abbrev yC (z:Zc):Prop:=Df z.K z.mg "open_in" rU
abbrev rW (z:Zc) (b:Heap):Prop:=nO z.P z.w z.K z.mg b 11 "open_in" ["saying"] A4
abbrev mY:Stmt:=top 33
abbrev tH (z:Zc):Prop:=Df z.K z.mg "_law_tape" mY
abbrev mZ (z:Zc) (b:Heap):Prop:=nO z.P z.w z.K z.mg b 1 "_law_tape" ["_law_script","_law_at"] qc
abbrev m5:Stmt:=top 34
abbrev tK (z:Zc):Prop:=Df z.K z.mg "_law_pick" m5
abbrev fS (z:Zc) (b:Heap):Prop:=nO z.P z.w z.K z.mg b 1 "_law_pick" ["_law_tape_here","_law_many"] gg
abbrev lG:Stmt:=top 35
abbrev qA (z:Zc):Prop:=Df z.K z.mg "_law_names" lG
abbrev lH (z:Zc) (b:Heap):Prop:=nO z.P z.w z.K z.mg b 1 "_law_names" [] mJ
abbrev m6:Stmt:=top 36
abbrev tL (z:Zc):Prop:=Df z.K z.mg "_law_test" m6
abbrev m8 (z:Zc) (b:Heap):Prop:=nO z.P z.w z.K z.mg b 2 "_law_test" ["_law_tape_here","_law_names_here","_law_variables"] jd
abbrev lI:Stmt:=top 37
abbrev qC (z:Zc):Prop:=Df z.K z.mg "_law_inner" lI
abbrev lJ (z:Zc) (b:Heap) (j:Nat):Prop:=nO z.P z.w z.K z.mg b (j+2) "_law_inner" ["_law_tape_here","_law_world","_law_variables","_law_room","_law_deep"] (Hw j)
abbrev jQ:Stmt:=top 38
abbrev n8 (z:Zc):Prop:=Df z.K z.mg "_law_saying" jQ
abbrev fH (z:Zc) (b:Heap) (j:Nat):Prop:=nO z.P z.w z.K z.mg b (j+2) "_law_saying" ["_law_tape_here","_law_world","_law_variables","_law_room","_law_deep"] (tX j)
abbrev lK:Stmt:=top 39
abbrev qD (z:Zc):Prop:=Df z.K z.mg "_law_shape" lK
abbrev iF (z:Zc) (b:Heap):Prop:=nO z.P z.w z.K z.mg b 1 "_law_shape" ["_law_head"] eO
abbrev jR:Stmt:=top 40
abbrev n9 (z:Zc):Prop:=Df z.K z.mg "_law_walked" jR
abbrev gM (z:Zc) (b:Heap) (j:Nat):Prop:=B8 z.P z.w z.K z.mg b (j+1) "_law_walked" ["_law_saying_here","_law_bound","_law_deep","_law_found"] 2 (lR j)
abbrev e8:Stmt:=top 41
abbrev gX (z:Zc):Prop:=Df z.K z.mg "_law_counted_right" e8
abbrev fc (z:Zc) (b:Heap):Prop:=nO z.P z.w z.K z.mg b 15 "_law_counted_right" ["_law_saying_here"] Cr
abbrev Dv:Stmt:=top 42
abbrev Qe (z:Zc):Prop:=Df z.K z.mg "law" Dv
def A7:bg ["thing","least","most"] ["thing","least","most"] (aL oW):=sI
def A8 (D:vP z) (N:NZ z):lA z b:=
 sW D A7 whole_run fun _ _ _ _ _ _ _ hr=>(aH (cL (JW.t (uH (l9 (iW (fP rfl N.dD rfl N.UX PyProof.Rows.Boot.int (jv 0)))) (j0 (iW (fP rfl N.dD rfl N.Lg PyProof.Rows.Boot.bool (jv 0)))))) (aO (aY (JD.e jZ))) bO)
  (aO (aY (JD.e (iX (JE.d (fL qM (jv 1) (jv 0))) (jJ (JE.d (fL qM (jv 0) (jv 2)))))))))
def A9:bg ["thing","least","most"] ["thing","least","most"] (aL oX):=sI
def Ba (D:vQ z) (N:NZ z):lB z b:=
 sW D A9 Eb fun _ _ _ _ _ _ _ hr=>(aO (aY (JD.e (iX (fP rfl N.dD rfl N.Na PyProof.Rows.Boot.tuple (jv 0)) (iX (JE.d (fL qM (jv 1) (gF (i:=0) rfl N.nP))) (jJ (JE.d (fL qM (gF (i:=0) rfl N.nP) (jv 2)))))))))
def Cu:bg ["thing"] ["thing"] (aL rT):=sI
def Cv (D:yz z) (N:NZ z):nJ z b:=
 by obtain⟨Ia,wU⟩:=N.wO;obtain⟨Qg,HN⟩:=N.HK;exact sW D Cu Hh fun _ _ _ _ _ _ _ hr=>(aH (cL (JW.t (uH (l9 (iW (fP rfl N.dD rfl N.Kr ZI (jv 0)))) (uH (bK qL (gF (i:=0) rfl N.nP) aq) (j0 (bK uI (gF (i:=0) rfl N.nP) (nD rfl wU)))))) (aO (aY (JD.e jZ))) bO)
  (aO (aY (gP (xM rfl) rfl N.Qd PyProof.Rows.Boot.all (ao (JE.d (pW cp rfl (jK (jv 0)) (fun _ _ _ _=>um) (fun _ _ _ _=>(JE.d (fL (uN hr.units) (jv 0) (Ji rfl HN) (by with_unfolding_all rfl)))))) aF)))))
def rX:bg ["thing","bound"] ["thing","bound"] (aL ig):=sI
def rY (D:lT z) (N:NZ z) (iM:lB z b) (jj:nJ z b) (iN:lA z b):ir z b:=
 by obtain⟨EW,rZ⟩:=N.rR;exact sW D rX Hl fun _ _ _ _ _ _ _ hr=>(aH (cL (l9 (iW (JE.d (jc iM hr (aG (jv 0) (aG aq (aG aq aR))))))) (aO (aY (JD.e jZ))) bO)
  (aH (cL (bK (c7 hr.units) (gF (i:=0) rfl N.nP) aq) (aO (aY (fL (c7 hr.units) (ys hr 0 aq) aM))) bO)
  (aH (cL (bK (c7 hr.units) (ys hr 0 aq) aM) (aO (aY (jc jj hr (aG (ys hr 0 aq) aR)))) bO)
  (aO (aY (JD.e (iX (JE.d (fL (uN hr.units) (ys hr 0 aq) (JE.d (bu (ao aM (ao aM (ao aM aF))))) (by with_unfolding_all rfl))) (jJ (OR (JE.d (jc iN hr (aG (ys hr 0 aq) (aG aq (aG (nD rfl rZ) aR))))) (jJ (JE.d (fL (uN hr.units) (ys hr 0 aq) (jv 1) (by with_unfolding_all rfl)))))))))))))
def Bb:bg ["saying"] ["saying"] (aL oY):=sI
def Bc (D:vR z) (N:NZ z):gI z b:=
 by obtain⟨Rm,Kw,Ky⟩:=N.Ku;exact sW D Bb Et fun _ _ _ _ _ _ _ hr=>(aO (aY (Gv (jv 0) (C3 (Mk rfl Kw Ky (ys hr 0 aq))) C2)))
def tY:bg ["saying","bound"] ["saying","bound"] (aL jg):=sI
def tZ (D:mR z) (N:NZ z):gn z b:=
 by obtain⟨vX,jl,jm⟩:=N.qx;exact sW D tY Eu fun _ _ _ _ _ _ _ hr=>(aH (cL (zb hr.units rfl jl jm (ys hr 0 aq)) (aO (aY (bE cR (jv 1) (JE.d (bu (ao (ys hr 0 aq) aF)))))) bO)
  (aO (aY (bC 1))))
def qE:bg ["thing","bound","head"] ["thing","bound"] (aL mS):=sI
def zE (D:tw z) (N:NZ z) (iM:lB z b) (jo:ir z b) (iN:lA z b) (jj:nJ z b):mT z b:=
 by obtain⟨Qh,HP,HQ⟩:=N.HL;obtain⟨EX,sf⟩:=N.rS;obtain⟨vX,jl,jm⟩:=N.qx;exact sW D qE Cg fun _ _ _ _ _ _ _ hr=>(aH (cL (JW.t (uH (l9 (iW (JE.d (jc iM hr (aG (jv 0) (aG aq (aG aq aR))))))) (j0 (l9 (iW (fP rfl N.dD rfl N.Kr ZI (ys hr 0 aq))))))) (aO (aY (JD.e jZ))) bO)
  (aH (zs qE.nd 2 (JD.e (ys hr 0 aq)))
  (aH (cL (bK (uM hr.units) (D5 rfl HP HQ (jv 2) aq) (gF (i:=0) rfl N.nP)) (aO (aY (JD.e jZ))) bO)
  (aH (cL (bK (c7 hr.units) (jv 2) aM) (aO (aY (jc jo hr (aG (ys hr 0 aq) (aG (jv 1) aR))))) bO)
  (aH (cL (bK (c7 hr.units) (jv 2) aM) (aO (aY (jc iN hr (aG (ys hr 0 aq) (aG aq (aG (nD rfl sf) aR)))))) bO)
  (aH (cL (zb hr.units rfl jl jm (jv 2)) (aO (aY (JD.e (iX (JE.d (jc jj hr (aG (ys hr 0 aq) aR))) (jJ (JE.d (jc jj hr (aG (ys hr 0 aq) aR)))))))) bO)
  (aO (aY (JD.e jZ)))))))))
def qF:bg ["thing","bound","room","inner"] ["thing","bound","room"] (aL mU):=sI
def zF (D:tF z) (N:NZ z) (o9:mT z b) (dX:gn z b) (cT:gI z b) (jq:jC z b j):jC z b (j+1):=
 sW D qF (Hq j) fun _ _ _ _ _ _ _ hr=>(aH (cL (JW.t (uH (bK (c7 hr.units) (jv 2) aq) (j0 (l9 (iW (JE.d (jc o9 hr (aG (jv 0) (aG (jv 1) aR))))))))) (aO (aY (JD.e jZ))) bO)
  (aH (zs qF.nd 3 (jc dX hr (aG (jv 0) (aG (jv 1) aR))))
  (aO (aY (gP (xM rfl) rfl N.Qd PyProof.Rows.Boot.all (ao (JE.d (pW (cs ["inner","room"] [3,2]) rfl (jK (JE.d (jc cT hr (aG (jv 0) aR)))) (fun _ _ _ _=>um) (fun _ _ _ _=>(JE.d (jc jq hr (aG (jv 0) (aG (jv 1) (aG (JE.d (bE fh (jv 2) aq)) aR)))))))) aF))))))
def sr:bg ["saying","found","part"] ["saying"] (aL vU):=sI
def EY (D:A6 z) (cT:gI z b) (gq:kC z b j):kC z b (j+1):=
 sW D sr (JQ j) fun _ _ _ _ _ _ _ hr=>(aH (zs sr.nd 1 (bD (ao (jv 0) aF)))
  (aH (oF Y3 rfl (jK (JE.d (jc cT hr (aG (jv 0) aR)))) (zg sr.nd 2) (aO (d7 (JD.e (pT (i:=1) ZU ZV oK qT qU (ao (JE.d (jc gq hr (aG (jv 2) aR))) aF))))))
  (aO (aY (bC 1)))))
def wV:bg ["saying"] ["saying"] (aL lC):=sI
def wW (D:qy z) (N:NZ z) (gq:kC z b 9):lD z b:=
 by obtain⟨vX,jl,jm⟩:=N.qx;exact sW D wV Ht fun _ _ _ _ _ _ _ hr=>(aO (aY (gP qN rfl N.nP Zq (ao (JE.d (pW cp rfl (jK (JE.d (jc gq hr (aG (jv 0) aR)))) (fun _ _ _ _=>(Jb (zb hr.units rfl jl jm (ys hr 0 aq)))) (fun _ _ _ _=>(jv 0)))) aF))))
def zG:bg ["thing"] ["thing"] (aL mV):=sI
def zH (D:tG z) (N:NZ z) (jq:jC z b 9) (yD:zC z b) (m9:lD z b):mW z b:=
 by obtain⟨Kz,zI⟩:=N.zB;obtain⟨Ib,wX⟩:=N.wQ;obtain⟨Ic,wY⟩:=N.wR;exact sW D zG ED fun _ _ _ _ _ _ _ hr=>(aH (cL (l9 (iW (JE.d (jc jq hr (aG (jv 0) (aG (JE.d (bu aF)) (aG (nD rfl zI) aR))))))) (aO (aY (JD.e jZ))) bO)
  (aO (aY (JD.e (iX (JE.d (fL qM (JE.d (jc yD hr (aG (jv 0) aR))) (nD rfl wX))) (jJ (JE.d (fL qM (JE.d (jc m9 hr (aG (jv 0) aR))) (nD rfl wY)))))))))
def Be:bg ["thing"] ["thing"] (aL oZ):=sI
def Bf (D:vV z) (N:NZ z) (pq:mW z b):lE z b:=
 by obtain⟨Rn,KA,KC⟩:=N.Kv;exact sW D Be Ka fun _ _ _ _ _ _ _ hr=>(aO (aY (JD.e (iX (JE.d (jc pq hr (aG (jv 0) aR))) (jJ (Mm hr.units rfl KA KC (ys hr 0 aq)))))))
def KD:bg ["saying"] ["saying"] (aL Ct):=sI
def KG (D:HM z) (N:NZ z) (gq:kC z b 9):zC z b:=
 sW D KD Hs fun _ _ _ _ _ _ _ hr=>(aO (aY (gP qN rfl N.nP Zq (ao (JE.d (jc gq hr (aG (jv 0) aR))) aF))))
def HR:bg ["saying"] ["saying"] (aL zD):=sI
def HS (D:Du z) (N:NZ z) (cT:gI z b) (vY:uy z b j):uy z b (j+1):=
 sW D HR (EO j) fun _ _ _ _ _ _ _ hr=>(aO (aY (bE cR aq (JE.d (JF rfl rfl N.Nc (JE.d (pW cp rfl (jK (JE.d (jc cT hr (aG (jv 0) aR)))) (fun _ _ _ _=>um) (fun _ _ _ _=>(JE.d (jc vY hr (aG (jv 0) aR)))))))))))
def nh:bg ["saying","names","inner"] ["saying"] (aL o7):=sI
def Bg (D:vW z) (N:NZ z) (gq:kC z b 9):o8 z b:=
 by obtain⟨vX,jl,jm⟩:=N.qx;exact sW D nh HB fun _ _ _ _ _ _ _ hr=>(aH (zs nh.nd 1 (bD aF))
  (aH (oF Y3 rfl (jK (JE.d (jc gq hr (aG (jv 0) aR)))) (zg nh.nd 2) (aH (cL (zb hr.units rfl jl jm (ys hr 2 aq)) (aO (d7 (JD.e (pT (i:=1) YQ YR iJ iK xQ (ao (ys hr 2 aq) aF))))) bO)
  (aO (cL (JW.t (kI (bK (c7 hr.units) (ys hr 2 aq) aM) (eB (bK (c7 hr.units) (JE.d (fO j5 (ys hr 2 aq) aq (fun _ _=>rfl))) aM)))) (aO (d7 (JD.e (pT (i:=1) YQ YR iJ iK xQ (ao (JE.d (fO j5 (ys hr 2 aq) aq (fun _ _=>rfl))) aF))))) bO))))
  (aO (aY (jA rfl rfl N.ux rfl N.Ks (jv 1))))))
def uc:bg ["test"] ["test"] (aL jh):=sI
def ud (D:mX z) (N:NZ z):ji z b:=
 sW D uc MU fun _ _ _ _ _ _ _ hr=>(aO (aY (JD.e (iX (JE.d (fL (c7 hr.units) (gF (i:=0) rfl N.nP) aq)) (iX (JE.d (fL (uM hr.units) (ys hr 0 aq) aM)) (jJ (fP rfl N.dD rfl N.Kr ZI (ys hr 0 aq))))))))
def jS:bg ["saying","bound","found","part"] ["saying","bound"] (aL lF):=sI
def wZ (D:qz z) (jT:ji z b) (cT:gI z b) (gY:iE z b j) (dX:gn z b):iE z b (j+1):=
 sW D jS (J4 j) fun _ _ _ _ _ _ _ hr=>(aH (cL (JW.t (kI (bK (c7 hr.units) (ys hr 0 aq) aM) (kI (iW (JE.d (jc jT hr (aG (ys hr 0 aq) aR)))) (eB (bK (qQ hr.units) (JE.d (fO j5 (ys hr 0 aq) aq (fun _ _=>rfl))) (jv 1) (by with_unfolding_all rfl)))))) (aO (aY (bD (ao (JE.d (fO j5 (ys hr 0 aq) aq (fun _ _=>rfl))) aF)))) bO)
  (aH (zs jS.nd 2 (bD aF))
  (aH (oF Y3 rfl (jK (JE.d (jc cT hr (aG (jv 0) aR)))) (zg jS.nd 3) (aO (d7 (JD.e (pT (i:=2) ZU ZV oK qT qU (ao (JE.d (jc gY hr (aG (jv 3) (aG (JE.d (jc dX hr (aG (jv 0) (aG (jv 1) aR)))) aR)))) aF))))))
  (aO (aY (bC 2))))))
def Cw:bg ["saying"] ["saying"] (aL rU):=sI
def Cy (D:yC z) (N:NZ z) (gY:iE z b 9):rW z b:=
 sW D Cw J9 fun _ _ _ _ _ _ _ hr=>(aO (aY (jA rfl rfl N.ux rfl N.Ks (JE.d (jc gY hr (aG (jv 0) (aG (JE.d (bu aF)) aR)))))))
def lM:bg ["_law_script","_law_at","_law_cell"] ["_law_script","_law_at"] (aL mY):=sI
def zJ (D:tH z) (N:NZ z):mZ z b:=
 sW D lM GV fun _ _ _ _ _ _ _ hr=>(aH (zs lM.nd 2 (bC 1))
  (aH (cL (bK uI (gF (i:=0) rfl N.nP) aq) (aO (zs lM.nd 2 (bE cR (ys hr 0 (JE.d (bE iz (jv 1) (gF (i:=0) rfl N.nP)))) (JE.d (bE yV (jv 1) (gF (i:=0) rfl N.nP)))))) bO)
  (aO (aY (p6 (hk:=Zk rfl) (cj (jv 2) (cj (JE.d (gP (uO rfl) rfl N.Nc aak (ao aq (ao (JE.d (bE fh (jv 2) (JE.d (bE IW aq aq)))) aF)))) (cj aq p5))))))))
def gw:bg ["_law_tape_here","_law_many","_law_turn","_law_found","_law_mixed"] ["_law_tape_here","_law_many"] (aL m5):=sI
def zK (D:tK z):fS z b:=
 sW D gw pick_run fun _ _ _ _ _ _ _ hr=>(aH (zs gw.nd 2 (bE cR (ys hr 0 aM) aq))
  (aH (uS (i:=0) (uG hr) aM (jv 2))
  (aH (cL (bK uI (ys hr 0 aM) aq) (aH (zs gw.nd 3 (bE iz (ys hr 0 aM) (jv 1)))
  (aH (uS (i:=0) (uG hr) aM (JE.d (bE yV (ys hr 0 aM) (jv 1))))
  (aO (aY (bC 3))))) bO)
  (aH (zs gw.nd 4 (bE pR (JE.d (bE cR (JE.d (bE cR (JE.d (bE iz (ys hr 0 aM) aq)) (JE.d (bE pR (JE.d (bE pR aq (jv 2))) (jv 2))))) aq)) aq))
  (aH (zs gw.nd 4 (bE pR (JE.d (bE cR (JE.d (bE iz (jv 4) aq)) (JE.d (bE pR aq (jv 2))))) aq))
  (aO (aY (bE iz (JE.d (bE yV (JE.d (bE iz (jv 4) aq)) aq)) (jv 1)))))))))
def w4:bg [] [] (aL lG):=sI
def w5 (D:qA z):lH z b:=
 sW D w4 Ec fun _ _ _ _ _ _ _ hr=>(aO (aY (bD (ao aM (ao aM (ao aM (ao aM (ao aM (ao aM (ao aM (ao aM aF)))))))))))
def iG:bg ["_law_tape_here","_law_names_here","_law_variables","_law_way","_law_number"] ["_law_tape_here","_law_names_here","_law_variables"] (aL m6):=sI
def zL (D:tL z) (N:NZ z) (aZ:fS z b):m8 z b:=
 sW D iG EG fun _ _ _ _ _ _ _ hr=>(aH (zs iG.nd 3 (jc aZ hr (bV (bC 0) (aG aq aR))))
  (aH (cL (bK (c7 hr.units) (jv 3) aq) (aO (aY (bu (ao aM aF)))) bO)
  (aH (cL (bK (c7 hr.units) (jv 3) aq) (aO (aY (bu (ao aM (ao (ys hr 1 (JE.d (jc aZ hr (bV (bC 0) (aG (gF (i:=1) rfl N.nP) aR))))) aF))))) bO)
  (aH (zs iG.nd 4 (fO j5 (JE.d (bD (ao aq (ao aq (ao aq (ao aq (ao aq (ao aq aF)))))))) (JE.d (jc aZ hr (bV (bC 0) (aG aq aR)))) (fun _ _=>rfl)))
  (aH (cL (JW.t (kI (bK (uM hr.units) (jv 2) (JE.d (bu aF))) (eB (bK uI (JE.d (jc aZ hr (bV (bC 0) (aG aq aR)))) aq)))) (aO (zs iG.nd 4 (JD.e (ys hr 2 (JE.d (jc aZ hr (bV (bC 0) (aG (gF (i:=2) rfl N.nP) aR)))))))) bO)
  (aO (aY (bu (ao (JE.d (fO j5 (JE.d (bD (ao aM (ao aM (ao aM aF))))) (JE.d (bE fh (jv 3) aq)) (fun _ _=>rfl))) (ao (jv 4) aF))))))))))
def cX:bg ["_law_tape_here","_law_world","_law_variables","_law_room","_law_deep","_law_way","_law_names_here","_law_x","_law_head"] ["_law_tape_here","_law_world","_law_variables","_law_room","_law_deep"] (aL lI):=sI
def xg (D:qC z) (N:NZ z) (aZ:fS z b) (cO:fH z b j):lJ z b (j+1):=
 sW D cX (J1 j) fun _ _ _ _ _ _ _ hr=>(aH (zs cX.nd 5 (jc aZ hr (bV (bC 0) (aG aq aR))))
  (aH (cL (JW.t (kI (bK qL (jv 5) aq) (eB (bK qL (ys hr 1 aM) aq)))) (aH (uS (i:=1) (uG hr) aM (JE.d (bE cR (ys hr 1 aM) aq)))
  (aH (zs cX.nd 6 (JD.e (ys hr 1 aM)))
  (aH (zs cX.nd 7 (fO j5 (JE.d (bD (ao aM (ao aM (ao aM (ao aM aF)))))) (JE.d (jc aZ hr (bV (bC 0) (aG aq aR)))) (fun _ _=>rfl)))
  (aH (zs cX.nd 8 (bu (ao (JE.d (fO j5 (JE.d (bD (ao aM (ao aM aF)))) (JE.d (bE iz (jv 5) aq)) (fun _ _=>rfl))) (ao (ys hr 6 (JE.d (jc aZ hr (bV (bC 0) (aG (gF (i:=6) rfl N.nP) aR))))) (ao (jv 7) aF)))))
  (aO (aY (bE cR (jv 8) (JE.d (bu (ao (JE.d (jc cO hr (bV (bC 0) (bV (bC 1) (aG (JE.d (bE cR (jv 2) (JE.d (bu (ao (jv 7) aF))))) (aG (JE.d (bE fh (jv 3) aq)) (aG (JE.d (bE fh (jv 4) aq)) aR))))))) aF)))))))))) bO)
  (aH (zs cX.nd 8 (bu (ao (JE.d (fO j5 (JE.d (bD (ao aM (ao aM (ao aM (ao aM aF)))))) (JE.d (bE iz (jv 5) aq)) (fun _ _=>rfl))) aF)))
  (aH (cL (bK (c7 hr.units) (jv 5) aq) (aO (zs cX.nd 8 (bu (ao aM (ao (JE.d (jc aZ hr (bV (bC 0) (aG aq aR)))) aF))))) bO)
  (aO (aY (bE cR (jv 8) (JE.d (bu (ao (JE.d (jc cO hr (bV (bC 0) (bV (bC 1) (aG (jv 2) (aG (JE.d (bE fh (jv 3) aq)) (aG (JE.d (bE fh (jv 4) aq)) aR))))))) aF))))))))))
def ff:bg ["_law_tape_here","_law_world","_law_variables","_law_room","_law_deep","_law_way","_law_first","_law_one","_law_other"] ["_law_tape_here","_law_world","_law_variables","_law_room","_law_deep"] (aL jQ):=sI
def vZ (D:n8 z) (aZ:fS z b) (pA:m8 z b) (cO:fH z b j) (tM:lJ z b j):fH z b (j+1):=
 sW D ff (J0 j) fun _ _ _ _ _ _ _ hr=>(aH (zs ff.nd 5 (jc aZ hr (bV (bC 0) (aG aq aR))))
  (aH (cL (JW.t (uH (bK qL (jv 3) aq) (uH (bK qL (jv 4) aq) (j0 (bK (c7 hr.units) (jv 5) aq))))) (aH (cL (bK (c7 hr.units) (JE.d (bE iz (jv 5) aq)) aq) (aO (aY (bu (ao (JE.d (fO j5 (JE.d (bD (ao aM (ao aM aF)))) (JE.d (jc aZ hr (bV (bC 0) (aG aq aR)))) (fun _ _=>rfl))) aF)))) bO)
  (aO (aY (bu (ao aM (ao (JE.d (jc pA hr (bV (bC 0) (aG (ys hr 1 aM) (aG (jv 2) aR))))) aF)))))) bO)
  (aH (cL (JW.t (kI (bK qL (jv 5) aq) (eB (bK uI (jv 3) aq)))) (aH (zs ff.nd 6 (bE cR aq (JE.d (jc aZ hr (bV (bC 0) (aG (JE.d (bE fh (jv 3) aq)) aR))))))
  (aH (zs ff.nd 7 (jc cO hr (bV (bC 0) (bV (bC 1) (aG (jv 2) (aG (jv 6) (aG (JE.d (bE fh (jv 4) aq)) aR)))))))
  (aH (zs ff.nd 8 (jc cO hr (bV (bC 0) (bV (bC 1) (aG (jv 2) (aG (JE.d (bE fh (JE.d (bE fh (jv 3) aq)) (jv 6))) (aG (JE.d (bE fh (jv 4) aq)) aR)))))))
  (aO (aY (bu (ao (JE.d (fO j5 (JE.d (bD (ao aM (ao aM (ao aM (ao aM aF)))))) (JE.d (bE fh (jv 5) aq)) (fun _ _=>rfl))) (ao (jv 7) (ao (jv 8) aF))))))))) bO)
  (aO (aY (jc tM hr (bV (bC 0) (bV (bC 1) (aG (jv 2) (aG (jv 3) (aG (jv 4) aR)))))))))))
def oh:bg ["_law_head","_law_shapes"] ["_law_head"] (aL lK):=sI
def xh (D:qD z):iF z b:=
 sW D oh EE fun _ _ _ _ _ _ _ hr=>(aH (zs oh.nd 1 (p6 (hk:=Zk rfl) (cj (JE.d (bu (ao aq (ao (JE.d (bD aF)) aF)))) (cj (JE.d (bu (ao aq (ao (JE.d (bD aF)) aF)))) (cj (JE.d (bu (ao aq (ao (JE.d (bD aF)) aF)))) (cj (JE.d (bu (ao aq (ao (JE.d (bD (ao aq aF))) aF)))) (cj (JE.d (bu (ao aq (ao (JE.d (bD (ao aq aF))) aF)))) (cj (JE.d (bu (ao aq (ao (JE.d (bD (ao aq aF))) aF)))) p5))))))))
  (aH (d7 (JD.e (C8 (i:=1) (p6 (hk:=Zk rfl) (cj (JE.d (bu (ao aq (ao (JE.d (bD (ao aq aF))) aF)))) (cj (JE.d (bu (ao aq (ao (JE.d (bD (ao aq (ao aq aF)))) aF)))) (cj (JE.d (bu (ao aq (ao (JE.d (bD (ao aq (ao aq aF)))) aF)))) (cj (JE.d (bu (ao aq (ao (JE.d (bD (ao aq (ao aq aF)))) aF)))) p5))))))))
  (aH (d7 (JD.e (C8 (i:=1) (p6 (hk:=Zk rfl) (cj (JE.d (bu (ao aq (ao (JE.d (bD (ao aq aF))) aF)))) (cj (JE.d (bu (ao aq (ao (JE.d (bD (ao aq aF))) aF)))) (cj (JE.d (bu (ao aq (ao (JE.d (bD (ao aq aF))) aF)))) p5)))))))
  (aO (aY (JD.e (Jo (i:=1) (uG hr) (jv 0) (JE.d (bu (ao aq (ao (JE.d (bD aF)) aF)))))))))))
def jr:bg ["_law_saying_here","_law_bound","_law_deep","_law_found","%2","%3","_law_at"] ["_law_saying_here","_law_bound","_law_deep","_law_found"] (aL jR):=sI
def v5 (D:n9 z) (N:NZ z) (fT:iF z b) (gz:gM z b j):gM z b (j+1):=
 Ud D jr (HC j) fun _ _ _ _ _ _ _ hr=>(aH (uS (i:=3) (uG hr) aq (JE.d (bE cR (ys hr 3 aq) aq)))
  (aH (uS (i:=3) (uG hr) aq (JE.d (gP (uO rfl) rfl N.Nc aak (ao (ys hr 3 aq) (ao (jv 2) aF)))))
  (aH (cL (JW.t (kI (bK (c7 hr.units) (ys hr 0 aq) aM) (eB (bK (c7 hr.units) (JE.d (fO j5 (ys hr 0 aq) aq (fun _ _=>rfl))) aM)))) (aO (d7 (JD.e (qg (i:=3) (k:=2) 4 YQ YR iJ iK (ao (JE.d (fO j5 (ys hr 0 aq) aq (fun _ _=>rfl))) aF) ow)))) bO)
  (aH (cL (JW.t (kI (bK (c7 hr.units) (ys hr 0 aq) aM) (eB (bK (uN hr.units) (JE.d (fO j5 (ys hr 0 aq) aq (fun _ _=>rfl))) (JE.d (bu (ao aM (ao aM (ao aM aF))))) (by with_unfolding_all rfl))))) (aO (cL (JW.t (kI (iW (fP rfl N.dD rfl N.Kr ZI (JE.d (fO j5 (ys hr 0 aq) aq (fun _ _=>rfl))))) (eB (bK (qQ hr.units) (JE.d (fO j5 (ys hr 0 aq) aq (fun _ _=>rfl))) (jv 1) (by with_unfolding_all rfl))))) (aO (d7 (JD.e (qg (i:=3) (k:=3) 5 YQ YR iJ iK (ao (JE.d (fO j5 (ys hr 0 aq) aq (fun _ _=>rfl))) aF) ow)))) bO)) bO)
  (aH (cL (bK (uN hr.units) (ys hr 0 aq) (JE.d (bu (ao aM (ao aM aF)))) (by with_unfolding_all rfl)) (aH (d7 (JD.e (qg (i:=3) (k:=2) 4 YQ YR iJ iK (ao (ys hr 0 aq) aF) ow)))
  (aO (zs jr.nd 1 (bE cR (jv 1) (JE.d (bD (ao (ys hr 0 aq) aF))))))) bO)
  (aO (oF Y3 rfl (jK (JE.d (fO j5 (JE.d (jc fT hr (aG (ys hr 0 aq) aR))) aq (fun _ _=>rfl)))) (zg jr.nd 6) (aO (d7 (Vy [4,5] gz hr (aG (ys hr 0 (jv 6)) (aG (jv 1) (aG (JE.d (bE cR (jv 2) aq)) (bV (bC 3) aR))))))))))))))
def bR:bg ["_law_saying_here","_law_found","_law_again","_law_told","_law_due","_law_basic","%2","%3"] ["_law_saying_here"] (aL e8):=sI
def lU (D:gX z) (N:NZ z) (gz:gM z b 9) (yD:zC z b) (vY:uy z b 9) (su:o8 z b) (v7:rW z b) (iO:lE z b):fc z b:=
 sW D bR Kl fun _ _ _ _ _ _ _ hr=>(JL (i:=1) 6 7 bR.nd rfl (by first | exact Or.inl rfl | exact Or.inr rfl) aq aq (bD aF) (bD aF) (d7 (Vy [6,7] gz hr (aG (jv 0) (aG (JE.d (bD aF)) (aG aq (bV (bC 1) aR)))))) (aH (oF Y3 rfl (xH rfl N.HJ (ao aq aF)) (zg bR.nd 2) (MI (i:=3) 6 7 bR.nd rfl (by first | exact Or.inl rfl | exact Or.inr rfl) (JE.d (jc yD hr (aG (jv 0) aR))) (JE.d (jc vY hr (aG (jv 0) aR))) (jc su hr (aG (jv 0) aR)) (jc v7 hr (aG (jv 0) aR)) (aH (cL (bK (uM hr.units) (G9 (i:=3) 6 7 (uU hr.gd hr.units) rfl N.Lh PyProof.Rows.Boot.repr) (JE.d (gP (uU hr.gd hr.units) rfl N.Lh PyProof.Rows.Boot.repr (ao (JE.d (bD (ao (ys hr 1 aq) (ao (ys hr 1 aq) (ao (JE.d (jA rfl rfl N.ux rfl N.Ks (ys hr 1 aq))) (ao (JE.d (jA rfl rfl N.ux rfl N.Ks (ys hr 1 aq))) aF)))))) aF)))) (aO (aY (JD.e jZ))) bO)
  (aH (d7 (JD.e (qg (i:=3) (k:=2) 6 YQ YR iJ iK (ao aM aF) ow)))
  (aO (d7 (JD.e (qg (i:=3) (k:=3) 7 PySem.F.slot_list_insert PySem.F.type_list_insert JH JJ (ao aq (ao aM aF)) ow))))))))
  (aH (zs bR.nd 4 (JD.e (iX (JE.d (fL (c7 hr.units) (ys hr 1 aq) (JE.d (bD aF)))) (jJ (JE.d (fL (qQ hr.units) (ys hr 0 aq) (JE.d (bu (ao aM (ao aM (ao aM (ao aM (ao aM aF))))))) (by with_unfolding_all rfl)))))))
  (aH (zs bR.nd 5 (jc iO hr (aG (jv 0) aR)))
  (aO (aY (JD.e (iX (fP rfl N.dD rfl N.Lg PyProof.Rows.Boot.bool (jv 5)) (jJ (JE.d (fL (c7 hr.units) (jv 5) (jv 4))))))))))))
def jU:bg ["_law_script","_law_k","_law_tape_here","_law_names_here","_law_variables","_law_world","_law_saying_here","_law_line","_law_one","_law_thing"] ["_law_script"] (aL Dv):=sI
def Nf {f:Addr}{fd:FuncData}(F:IJ z.K "law" "law" Dv f fd) (N:NZ z) (pB:mZ z b) (ni:lH z b) (aZ:fS z b) (cO:fH z b 17) (fy:fc z b) (fT:iF z b) (iO:lE z b):jx z.P z.w z.K z.mg b xD 20 f fd ["_law_script"] (spT z.K 1 (zm 63)):=
 Vg (g:=S6.Dt qc mJ gg (tX 17) Cr eO mQ) F jU (fun _ _ _ _ _ _ hr=>(aH (oF Y3 rfl (xH rfl N.HJ (ao (JE.d (bE cR aq (JE.d (gP qN rfl N.nP Zq (ao (JE.d (D0 (i:=0) C2 (C3 aq))) aF))))) aF)) (zg jU.nd 1) (aH (zs jU.nd 2 (jc pB hr (bV (bC 0) (aG (jv 1) aR))))
  (aH (zs jU.nd 3 (WS ni hr))
  (aH (zs jU.nd 4 (fO j5 (JE.d (bD (ao (JE.d (bu aF)) (ao (JE.d (bu (ao aM aF))) (ao (JE.d (bu (ao aM (ao aM aF)))) aF))))) (JE.d (jc aZ hr (bV (bC 2) (aG aq aR)))) (fun _ _=>rfl)))
  (aH (zs jU.nd 5 (p6 (hk:=Zk rfl) (cj (jv 3) (cj aq p5))))
  (aH (zs jU.nd 6 (jc cO hr (bV (bC 2) (bV (bC 5) (aG (jv 4) (aG (JE.d (bE cR aq (JE.d (jc aZ hr (bV (bC 2) (aG aq aR)))))) (aG (JE.d (bE cR aq (JE.d (jc aZ hr (bV (bC 2) (aG aq aR)))))) aR)))))))
  (aH (zs jU.nd 7 (bD (ao (jv 6) aF)))
  (aH (Gh Y3 (Jl (i:=7) (uM hr.units) (JE.d (bD aF))) (aH (zs jU.nd 8 (JD.e (Gj (i:=7) PySem.F.slot_list_pop PySem.F.type_list_pop LW Me Mg)))
  (aH (cL (l9 (iW (JE.d (jc fy hr (aG (jv 8) aR))))) (aO (aY (JD.e jZ))) bO)
  (aO (d7 (JD.e (pT (i:=7) ZU ZV oK qT qU (ao (JE.d (pW (cc 8) rfl (jK (JE.d (fO j5 (JE.d (jc fT hr (aG (ys hr 8 aq) aR))) aq (fun _ _=>rfl)))) (fun _ _ _ _=>um) (fun _ _ _ _=>(ys hr 1 (jv 0))))) aF))))))))
  (aO (oF Y3 rfl (jK (JE.d (bD (ao L6 (ao aM (ao (JE.d (bu (ao aM aF))) (ao (JE.d (bD (ao aM (ao (jv 6) aF)))) (ao (JE.d (bu (ao aM (ao (JE.d (bu (ao aM aF))) (ao aq aF))))) (ao (JE.d (bu aF)) aF))))))))) (zg jU.nd 9) (aO (cL (bK D3 (JE.d (jc iO hr (aG (jv 9) aR))) jZ) (aO (aY (JD.e jZ))) bO))))))))))))
  (aO (aY (JD.e jZ))))) EU
set_option maxHeartbeats 0 in
def KH {fa:Addr}(sA:vP z) (sC:vQ z) (v8:yz z) (ju:lT z) (sD:vR z) (jV:mR z) (pC:tw z) (lO:tF z) (uz:A6 z) (nq:qy z) (pD:tG z) (sE:vV z) (HU:HM z) (zM:Du z) (sF:vW z) (jW:mX z) (jD:qz z) (v9:yC z) (pF:tH z) (pG:tK z) (nu:qA z) (pH:tL z) (jE:qC z) (iH:n8 z) (nv:qD z) (iI:n9 z) (fB:gX z) (Ng:Qe z) (N:NZ z) (Mb:z.mg "law" =some (.ref fa)):
  ∃fd:FuncData,(∀(s:Shared) (v:Value),BindsTo s fd ⟨[v],[]⟩ [("_law_script",v)])/\∀b:Heap,z.K.In b->b.Ns mainGlobals z.mg->jx z.P z.w z.K z.mg b xD 20 fa fd ["_law_script"] (spT z.K 1 (zm 63)):=by
 obtain⟨f,fd,F,m⟩:=Ng.ex;cases Mb.symm.trans m;refine⟨fd,fun s v=>?_,fun b _ _=>?_⟩
 ·obtain⟨_,_,_,_,_,_,_,_,_,rfl,_,_⟩:=F.ex;exact .of_eq rfl
 ·have iN:lA z b:=A8 sA N;have iM:lB z b:=Ba sC N;have jj:nJ z b:=Cv v8 N;have cT:gI z b:=Bc sD N;have dX:gn z b:=tZ jV N;have jT:ji z b:=ud jW N;have pB:mZ z b:=zJ pF N;have aZ:fS z b:=zK pG;have ni:lH z b:=w5 nu;have fT:iF z b:=xh nv;have jo:ir z b:=rY ju N iM jj iN;have pA:m8 z b:=zL pH N aZ;have o9:mT z b:=zE pC N iM jo iN jj;have KI:∀j:Nat,kC z b j:=by
   intro j
   induction j with
   | zero=>exact nF uz (EV)
   | succ j ih=>exact(EY uz cT ih).mono (by lia)
  have gq:=(KI 9)
  have Nh:∀j:Nat,uy z b j:=by
   intro j
   induction j with
   | zero=>exact nF zM (A0)
   | succ j ih=>exact(HS zM N cT ih).mono (by lia)
  have vY:=(Nh 9)
  have Bh:∀j:Nat,iE z b j:=by
   intro j
   induction j with
   | zero=>exact nF jD (EN)
   | succ j ih=>exact(wZ jD jT cT ih dX).mono (by lia)
  have gY:=(Bh 9)
  have zN:∀j:Nat,gM z b j:=by
   intro j
   induction j with
   | zero=>exact G0 iI (Cq)
   | succ j ih=>exact(v5 iI N fT ih).mono (by lia)
  have gz:=(zN 9)
  have m9:lD z b:=wW nq N gq;have yD:zC z b:=KG HU N gq;have su:o8 z b:=Bg sF N gq;have v7:rW z b:=Cy v9 N gY;have Cz:∀j:Nat,jC z b j:=by
   intro j
   induction j with
   | zero=>exact nF lO (Cs)
   | succ j ih=>exact(zF lO N o9 dX cT ih).mono (by lia)
  have jq:=(Cz 9)
  have pq:mW z b:=zH pD N jq yD m9;have iO:lE z b:=Bf sE N pq;have fy:fc z b:=lU fB N gz yD vY su v7 iO;have tN:∀j:Nat,fH z b j/\lJ z b j:=by
   intro j
   induction j with
   | zero=>exact⟨nF iH (EI),nF jE (EJ)⟩
   | succ j ih=>exact⟨(vZ iH aZ pA ih.1 ih.2).mono (by lia),(xg jE N aZ ih.1).mono (by lia)⟩
  have cO:=(tN 17).1;have tM:=(tN 17).2;exact Nf F N pB ni aZ cO fy fT iO
def all_mk {w:World}{K:AAA}{mg:AAC}{fa:Addr}(sA:Df K mg "is_whole" oW) (sC:Df K mg "is_tuple" oX) (v8:Df K mg "is_name" rT) (ju:Df K mg "is_test_among" ig) (sD:Df K mg "parts_of" oY) (jV:Df K mg "bound_within" jg) (pC:Df K mg "is_shaped" mS) (lO:Df K mg "is_formed" mU) (uz:Df K mg "all_in" vU) (nq:Df K mg "binders_in" lC) (pD:Df K mg "is_saying" mV) (sE:Df K mg "is_basic" oZ) (HU:Df K mg "size" Ct) (zM:Df K mg "depth" zD) (sF:Df K mg "names_in" o7) (jW:Df K mg "has_variable" jh) (jD:Df K mg "unbound_in" lF) (v9:Df K mg "open_in" rU) (pF:Df K mg "_law_tape" mY) (pG:Df K mg "_law_pick" m5) (nu:Df K mg "_law_names" lG) (pH:Df K mg "_law_test" m6) (jE:Df K mg "_law_inner" lI) (iH:Df K mg "_law_saying" jQ) (nv:Df K mg "_law_shape" lK) (iI:Df K mg "_law_walked" jR) (fB:Df K mg "_law_counted_right" e8) (Ng:Df K mg "law" Dv) (N:Nb l.prog w K mg) (Mb:mg "law" =some (.ref fa)):
  ∃fd:FuncData,(∀(s:Shared) (v:Value),BindsTo s fd ⟨[v],[]⟩ [("_law_script",v)])/\∀base:Heap,K.In base->base.Ns mainGlobals mg->jx l.prog w K mg base xD 20 fa fd ["_law_script"] (spT K 1 (zm 63)):=
 KH (z:=⟨l.prog,w,K,mg⟩) sA sC v8 ju sD jV pC lO uz nq pD sE HU zM sF jW jD v9 pF pG nu pH jE iH nv iI fB Ng N Mb
def walk {q:Program}{loose:BBB}{XP:(Str->BBP)->Heap->Prop}{YP:World->Heap->Prop}{d:DefRec}{K:Params->PySem.W.Frag}(hn:l.most=some 63) (hdf:d.params.defaults=[])
  (hY:∀(w:World) (h:Heap),YP w h->(K w.params).In h)
  (F:∀(w:World) (mg:AAC) (fa:Addr) (h:Heap),(K w.params).In h->h.Ns mainGlobals mg->mg d.name=some (.ref fa)->
   ∃fd:FuncData,(∀(s:Shared) (u:Value),BindsTo s fd ⟨[u],[]⟩ [("_law_script",u)])/\∀base:Heap,(K w.params).In base->base.Ns mainGlobals mg->jx l.prog w (K w.params) mg base xD 20 fa fd ["_law_script"] (spT (K w.params) 1 (zm 63))):
  PySem.W.WalkO q loose XP YP l.row.toRowW d [] (fun f vs=>PySem.call f vs):=
 L2.II (n:=63) (k:=20) (x:="_law_script") (CX:=fun _=>xD) (sp:=fun w=>spT (K w.params) 1 (zm 63)) hn (by decide) hdf ⟨rfl,by decide,by decide,rfl⟩ hY F (fun w H a ns hl hO hS=>MD hl hO hS) fun _ _ _ _ _ z=>z
end K06
open PySem PySem.W PyProof.Rows
noncomputable def PySem.W.Fast.tw14380862324228400490:Nat->Stmt:=K06.top
theorem PySem.W.Fast.te14380862324228400490:K06.top=PySem.W.Fast.tw14380862324228400490:=rfl
def K06.sc:Scope:=PySem.Challenge.pw_surewatch_k06_counted_in_sayings.main.scope
noncomputable def PySem.W.Fast.tw9996445446076390366:Scope:=K06.sc
theorem PySem.W.Fast.te9996445446076390366:K06.sc=PySem.W.Fast.tw9996445446076390366:=rfl
def K06.pw:Program:={main:={body:=[K06.top 0,K06.top 1,K06.top 2,K06.top 3,K06.top 4,K06.top 5,K06.top 6,K06.top 7,K06.top 8,K06.top 9,K06.top 10,K06.top 11,K06.top 12,K06.top 13,K06.top 14,K06.top 15,K06.top 16,K06.top 17,K06.top 18,K06.top 19,K06.top 20,K06.top 21,K06.top 22,K06.top 23,K06.top 24,K06.top 25,K06.top 26,K06.top 27,K06.top 28,K06.top 29,K06.top 30,K06.top 31,K06.top 32,K06.top 33,K06.top 34,K06.top 35,K06.top 36,K06.top 37,K06.top 38,K06.top 39,K06.top 40,K06.top 41,K06.top 42],scope:=K06.sc,futureAnnotations:=false,file:="/claim/cut.py",more:=[]},modules:=[],parses:=[],absent:=[],harvested:=[],given:={argv:=[],stdin:=[],environ:=some [([76,67,95,65,76,76],[67,46,85,84,70,45,56])]}}
def K06.rw:OpenLaw:={prog:=K06.pw,name:=(PySem.Str.ofString "law"),about:=[(PySem.Str.ofString "open_in")],foot:=10,most:=some 63,bound:=none,writes:=false}
def PySem.W.Fast.tw13494390243896162738:=0
def PySem.W.Fast.tw10127007512414654458:=0
def PySem.W.Fast.tw7792164667685342386:=0
def PySem.W.Fast.tw16038253682183148448:=0
def PySem.W.Fast.tw3330443012898761766:=0
def PySem.W.Fast.tw6749917918719404297:=0
def PySem.W.Fast.tw2532413267900757098:=0
def PySem.W.Fast.tw11769431541458640675:=0
def PySem.W.Fast.tw13437644971872353245:=0
def PySem.W.Fast.tw6054654622957774143:=0
def PySem.W.Fast.tw13865294357509302368:=0
def PySem.W.Fast.tw18148872184946024761:=0
def PySem.W.Fast.tw15532312975611075938:=0
def PySem.W.Fast.tw14220232317981255106:=0
def PySem.W.Fast.tw1992871587729296485:=0
def PySem.W.Fast.tw546453140033287869:=0
def PySem.W.Fast.tw14128409733519122966:=0
def PySem.W.Fast.tw4830613567209991501:=0
def PySem.W.Fast.tw6004899770600020491:=0
def PySem.W.Fast.tw4995390938690229739:=0
def PySem.W.Fast.tw415159155718259277:=0
def PySem.W.Fast.tw16272346853782477673:=0
def PySem.W.Fast.tw17494195567939419180:=0
def PySem.W.Fast.tw5720056666876332078:=0
def PySem.W.Fast.tw11440225273355948600:=0
def PySem.W.Fast.tw2924228083981297905:=0
def PySem.W.Fast.tw6005347037834762985:=0
def PySem.W.Fast.tw14832274850679505976:=0
def PySem.W.Fast.tw12242539920380346175:=0
def PySem.W.Fast.tw6598239668519410217:=0
def PySem.W.Fast.tw3946274097588777393:=0
def PySem.W.Fast.tw7645188628000875196:=0
def PySem.W.Fast.tw6872279496388429112:=0
def PySem.W.Fast.tw7307507122435802184:=0
def PySem.W.Fast.tw16399015397570796038:=0
def PySem.W.Fast.tw12229170537180691238:=0
def PySem.W.Fast.tw15525283714212655031:=0
def PySem.W.Fast.tw10784882774010799171:=0
def PySem.W.Fast.tw9609494868041988748:=0
def PySem.W.Fast.tw17304588597269179528:=0
def PySem.W.Fast.tw1971773300477274497:=0
def PySem.W.Fast.tw10498228726701392729:=0
def PySem.W.Fast.tw4565182079198356864:=0
def PySem.W.Fast.tw3353958138949038860:=0
def PySem.W.Fast.tw14885413721493664746:=0
def PySem.W.Fast.tw10504737756757146934:=0
def PySem.W.Fast.tw3256758333931715888:=0
def PySem.W.Fast.tw5924454915565538356:=0
set_option maxRecDepth 100000 in
set_option maxHeartbeats 0 in
def K06.holds:K06.rw.Holds:=by
 w_on;o_law;k_head;(case hw=>w_witness2)
 k_fill
 refine K06.walk (l:=K06.rw) rfl rfl (fun w h Y=>PySem.W.kIn_of Y) ?F
 case F=>
  intro w mg fa h KX G hmg;refine' K06.all_mk ?_ ?_ ?_ ?_ ?_ ?_ ?_ ?_ ?_ ?_ ?_ ?_ ?_ ?_ ?_ ?_ ?_ ?_ ?_ ?_ ?_ ?_ ?_ ?_ ?_ ?_ ?_ ?_ ?_ hmg
  iterate 28 (refine' L2.PL KX G ?a ?l ?c ?k;(case a=>k_is);(case l=>k_is);(case c=>k_is);(case k=>k_is))
  refine⟨Yu KX G ?_,Yu KX G ?_,Yu KX G ?_,Yu KX G ?_,Yu KX G ?_,Yu KX G ?_,Yu KX G ?_,Yu KX G ?_,Yu KX G ?_,Yu KX G ?_,Yu KX G ?_,Yu KX G ?_,⟨_,YI KX G (by k_is)⟩,⟨_,YI KX G (by k_is)⟩,⟨_,YI KX G (by k_is)⟩,⟨_,YI KX G (by k_is),L2.C5 (by k_is) (by decide) (by(repeat refine⟨⟨rfl,⟨_,rfl⟩,_,rfl⟩,?_⟩);trivial)⟩,⟨_,YI KX G (by k_is),L2.C6 (by k_is) (by decide) (by(repeat refine⟨⟨_,rfl⟩,?_⟩);trivial)⟩,⟨_,YI KX G (by k_is),L2.C5 (by k_is) (by decide) (by(repeat refine⟨⟨rfl,⟨_,rfl⟩,_,rfl⟩,?_⟩);trivial)⟩,⟨_,YI KX G (by k_is)⟩,⟨_,YI KX G (by k_is)⟩,⟨_,YI KX G (by k_is)⟩,⟨_,YI KX G (by k_is)⟩,⟨_,YI KX G (by k_is),L2.C6 (by k_is) (by decide) (by(repeat refine⟨⟨_,rfl⟩,?_⟩);trivial)⟩⟩ <;> k_is
theorem PySem.Challenge.cw_surewatch_k06_counted_in_sayings_holds : PySem.Challenge.rw_surewatch_k06_counted_in_sayings.Holds :=
 K06.holds
