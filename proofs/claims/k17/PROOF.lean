import PyProof.Rows.All
import Wide.All
import OpenK.AllK
import Wide.FinOn
import PyProof.Rows.SeqMore
import HandS.ForMost
import HandS.Exc
import HandS.TryOnly
import HandS.ExcOwn
import HandS.WordsExc
import HandS.IsInst
import HandS.Wide
import HandS.TupAny
import HandS.Flow
import HandS.FStr
import HandS.NoneIn
import HandS.SortKw
import HandS.Codes
import HandS.Steps
import HandS.DictComp
import HandS.WordsDict
import HandS.More
import HandS.Walk
import HandS.Star
import HandS.Deep
import HandS.Records
import HandS.Rev
import PyProof.CodeObj
import HandS.ExcIs
import HandS.Zip
import HandS.GenList
import HandS.GenCall
import HandS.TryMany
import KE.SortData
import KE.KMinKey
import KE.KeyNested
import HandS.DictTup
import HandS.TupLen
import HandS.Defaults
import HandS.TupSets
import KE.KDictKeyed
import HandS.RaiseMore
import PySem.Challenge.RW_legion_k17_machines_checked
set_option Elab.async false
set_option linter.all false
set_option maxRecDepth 100000
namespace My
open PySem PySem.Spec PyProof.Rows L2
/-! ### lists that are read only, joined -/
def rCatS (K : PySem.W.Frag) : R2 := fun x y H Q => ∃ l b xs zs, x = .ref l ∧ y = .ref b ∧ SqL K H l xs ∧ SqL K H b zs ∧ xs.length + zs.length ≤ sizeLine ∧ ∀ p, H p = none → Q (.ref p) (upd H p (.lst (xs ++ zs)))
theorem op_catS {X : Cx} : OpR X (binaryOp .Add) (rCatS X.K) := by
  intro pins s σ H x y v u Q I rx ry h
  obtain ⟨l, b, xs, zs, rfl, rfl, hH, hB, hz, q⟩ := h
  cases rx
  cases ry
  obtain ⟨its, r, pl, z⟩ := I.list hH
  obtain ⟨its2, r2, pl2, z2⟩ := I.list hB
  have hl := r.length
  have hl2 := r2.length
  obtain ⟨⟨cls, dd, data, sl⟩, ho, hc, n, hd⟩ := pl.isList
  obtain ⟨⟨cls2, dd2, data2, sl2⟩, ho2, hc2, n2, hd2⟩ := pl2.isList
  simp only at hc hd hc2 hd2
  subst hc hd hc2 hd2
  have ea : its.toArray ++ its2.toArray = (its ++ its2).toArray := by simp
  refine concat_meets ⟨_, ho, rfl⟩ ⟨_, ho2, rfl⟩ noFill_list_add seq_list_add PySem.F.slot_list_add PySem.F.entry_list_add (PySem.F.args_list_add_2 _ _) (list_addW l b its.toArray its2.toArray n n2 dd dd2 sl sl2 (by rw [List.size_toArray, List.size_toArray]; omega)) ⟨ho, ho2, ?_⟩
  rw [ea]
  exact ⟨.ref _, _, I.lnew (t' := s.toks) (r.append r2) (by rw [List.length_append]; omega), rfl, q _ I.fresh⟩
/-- is True, is False, of anything -/
def rIsBl : R2 := fun x y H Q => ∃ b, y = .bl b ∧ Q (.bl (decide (x = .bl b))) H
theorem op_isBv {X : Cx} : OpR X (compareOp .Is) rIsBl := by
  intro pins s σ H x y v u Q I rx ry h
  obtain ⟨b, rfl, q⟩ := h
  cases (show u = Value.bool b from ry)
  have go : ∀ v : Value, plainIs v (.bool b) = true → (v == Value.bool b) = decide (x = .bl b) → wpAny (model X.prog X.w) X.A (compareOp .Is v (.bool b)) (EP X pins σ Q) X.xe s := fun v hp e =>
    wpAny_is_plain hp (by rw [e]; exact ⟨.bl _, H, I, rfl, q⟩)
  cases x with
  | bl c =>
    cases (show v = Value.bool c from rx)
    refine go _ rfl ?_
    cases b <;> cases c <;> rfl
  | non => cases (show v = Value.none from rx); exact go _ rfl rfl
  | int i => obtain ⟨t, rfl⟩ := (show ∃ t, v = Value.int i t from rx); exact go _ rfl rfl
  | str i => obtain ⟨t, rfl⟩ := (show ∃ t, v = Value.str i t from rx); exact go _ rfl rfl
  | byt i => obtain ⟨t, rfl⟩ := (show ∃ t, v = Value.bytes i t from rx); exact go _ rfl rfl
  | flt i => obtain ⟨t, rfl⟩ := (show ∃ t, v = Value.float i t from rx); exact go _ rfl rfl
  | ref a => cases (show v = Value.ref a from rx); exact go _ rfl rfl
  | ty a => cases (show v = Value.type a from rx); exact go _ rfl rfl
/-! ### rules with the written part named -/
section
variable {X : Cx} (K : PySem.W.Frag)
theorem ixL (h : X.K = K := by rfl) : IxR X (rIxL K) := h ▸ ix_list
theorem ixT (h : X.K = K := by rfl) : IxR X (rIxT K) := h ▸ ix_tup
theorem ixQ (h : X.K = K := by rfl) : IxR X (rIx K) := h ▸ ix_seq
theorem opIn (h : X.K = K := by rfl) : OpR X (compareOp .In) (rIn K false) := h ▸ op_in_seq
theorem opNotIn (h : X.K = K := by rfl) : OpR X (compareOp .NotIn) (rIn K true) := h ▸ op_notIn_seq
theorem opCat (h : X.K = K := by rfl) : OpR X (binaryOp .Add) (rCatS K) := h ▸ op_catS
theorem opCatT (h : X.K = K := by rfl) : OpR X (binaryOp .Add) (rCatA K) := h ▸ op_catA
theorem opEqD (hu : X.A.units + 64 < cLine) (h : X.K = K := by rfl) : OpR X (compareOp .Eq) (rEqD K) := h ▸ op_eqD hu
theorem opNeD (hu : X.A.units + 64 < cLine) (h : X.K = K := by rfl) : OpR X (compareOp .NotEq) (rNeD K) := h ▸ op_neD hu
theorem slL (h : X.K = K := by rfl) : SlR X (rSlL K) := h ▸ sl_list
theorem slT (h : X.K = K := by rfl) : SlR X (rSlT K) := h ▸ sl_tup
def rLenQ (K : PySem.W.Frag) : List V → Hp → VK → Prop := fun xs H Q => ∃ p ys, xs = [.ref p] ∧ (SqL K H p ys ∨ SqT K H p ys) ∧ Q (.int ys.length) H
theorem cLen (h : X.K = K := by rfl) : CallR X (.builtin "len") (rLenQ K) := h ▸ call_len_seq
def rListQ (K : PySem.W.Frag) : List V → Hp → VK → Prop := fun xs H Q => ∃ p ys, xs = [.ref p] ∧ (SqL K H p ys ∨ SqT K H p ys) ∧ ∀ l, H l = none → Q (.ref l) (upd H l (.lst ys))
theorem cList (h : X.K = K := by rfl) : CallR X (.type "list") (rListQ K) := h ▸ call_list_of
theorem cSum (hc : X.calm = true) (h : X.K = K := by rfl) : CallR X (.builtin "sum") (rSum K) := h ▸ cr_sum hc
theorem cAll (hc : X.calm = true) (h : X.K = K := by rfl) : CallR X (.builtin "all") (rAll K) := h ▸ cr_all hc
theorem cAny (hc : X.calm = true) (h : X.K = K := by rfl) : CallR X (.builtin "any") (rAny K) := h ▸ cr_any hc
theorem cIsi (h : X.K = K := by rfl) : CallR X (.builtin "isinstance") (rIsi K) := h ▸ call_isi
theorem peBm {T name id : String} {r : V → List V → Hp → VK → Prop} {to : TE} {t : TA} {o e : Expr} {es : List Expr} {apos cpos : Pos} (pa : PlainAttrs T) (slot : Slot T name id) (hty : typeOf (.builtin id) = pure (.type "method_descriptor")) (hm : MtR X id r) (ho : PE X o to) (ha : PA X (e :: es) t) (h : X.K = K := by rfl)
    (hbase : attributeBase o name X.env (eval o X.env) = eval o X.env := by rfl)
    (hfew : ((backTo cpos (starEach (e :: es) X.env)).all (fun x => !x.1) && (backToKw cpos (keywordEach [] X.env)).all (fun x => x.1.isSome)
      && decide ((e :: es).length + ([] : List Keyword).length + (if ([] : List Keyword).isEmpty then 0 else 1) < 30)) = true := by rfl)
    (hline : (apos.endLine == cpos.line) = true := by rfl) (hs : starEach (e :: es) X.env = (false, eval e X.env) :: starEach es X.env := by rfl) (hplain : (backTo cpos (starEach es X.env)).any (·.1) = false := by rfl) :
    PE X (.Call (.Attribute o name apos) (e :: es) [] cpos) (tBM K T r to t) := h ▸ pe_bm pa slot hty hm ho ha hbase hfew hline hs hplain
def tTruK (K : PySem.W.Frag) (ta : TE) : TT := fun σ H Q => ta σ H fun x H' => ∃ k, TruV K x H' k ∧ Q k H'
theorem ptTru {a : Expr} {ta : TE} (ha : PE X a ta) (he : ∀ whole, isTrue a X.env whole = (do let v ← whole; standAt a.pos; holding [v] (truthy v))) (h : X.K = K := by rfl) : PT X a (tTruK K ta) := h ▸ pt_truth ha he
theorem piL {tg l : Expr} {tl : TE} (hl : PE X l tl) (h : X.K = K := by rfl) : PI X tg l (iList K tl) := h ▸ pi_list hl
theorem piT {tg l : Expr} {tl : TE} (hl : PE X l tl) (h : X.K = K := by rfl) : PI X tg l (iTup K tl) := h ▸ pi_tup hl
end
/-! ### a def that is known -/
structure Fd (P : Program) (w : World) (K : PySem.W.Frag) (mg : Str → Option Value) (base : Heap) (x : Str) (ps : List Str) (k : Nat) (sp : Sp) : Prop where
  ex : ∃ (f : Addr) (fd : FuncData), FnOk P w K mg base CX0 k f fd ps sp ∧ mg x = some (.ref f) ∧ PySem.W.keepIn K (.ref f) = true ∧ Binds K fd ps []
theorem pe_fn {X : Cx} {x : Str} {ps : List Str} {k : Nat} {sp : Sp} {e : Expr} {es : List Expr} {t : TA} {p pos : Pos} (F : Fd X.prog X.w X.K X.mg X.base x ps k sp) (hr : Room k X.A) (hg : Gl X x) (ha : PA X (e :: es) t)
    (hdb : (x == ("__debug__" : Str)) = false := by decide) (he : starEach (e :: es) X.env = (false, eval e X.env) :: starEach es X.env := by rfl) (hpl : (backTo pos (starEach es X.env)).any (·.1) = false := by rfl) :
    PE X (.Call (.Name x p) (e :: es) [] pos) (tCall sp [] E0 t) := by
  obtain ⟨f, fd, G, m, kp, b⟩ := F.ex
  exact pe_call G hr hg m kp b .nil pass0 ha hdb he hpl
/-- the built-ins stand as they were -/
structure Bt (mg : Str → Option Value) : Prop where
  len : mg "len" = none
  int : mg "int" = none
  abs : mg "abs" = none
  range : mg "range" = none
  min : mg "min" = none
  str : mg "str" = none
  isinstance : mg "isinstance" = none
  bool : mg "bool" = none
  sum : mg "sum" = none
  list : mg "list" = none
  tuple : mg "tuple" = none
  repr : mg "repr" = none
  sorted : mg "sorted" = none
  enumerate : mg "enumerate" = none
  zip : mg "zip" = none
  all : mg "all" = none
  dict : mg "dict" = none
  max : mg "max" = none
  set : mg "set" = none
  ValueError : mg "ValueError" = none
  any : mg "any" = none
  reversed : mg "reversed" = none
/-! ### heaps -/
theorem same_new {H : Hp} {p : Addr} {o : HO} (h : H p = none) : Same H (upd H p o) := fun b x e => by
  rw [upd_ne (ne_of_none e h)]
  exact e
/-- an object that H does not know may change -/
theorem Same.mut {H H' : Hp} {p : Addr} {o : HO} (e : Same H H') (h : H p = none) : Same H (upd H' p o) := fun a u ha => by
  rw [upd_ne (ne_of_none ha h)]
  exact e a u ha
theorem sq {K : PySem.W.Frag} {H : Hp} {a : Addr} {xs : List V} (h : H a = some (.lst xs)) : SqL K H a xs := .inl (.inl h)
theorem st {K : PySem.W.Frag} {H : Hp} {a : Addr} {xs : List V} (h : H a = some (.tup xs)) : SqT K H a xs := .inl (.inl h)
theorem sz {n : Nat} (h : n ≤ 100000) : n ≤ sizeLine := Nat.le_trans h (by decide)
theorem szl {n : Nat} (h : n < 100000) : n < sizeLine := Nat.lt_of_lt_of_le h (by decide)
theorem Same.seqT {K : PySem.W.Frag} {H H' : Hp} {a : Addr} {xs : List V} (e : Same H H') (h : SqT K H a xs) : SqT K H' a xs := by
  rcases h with (h | ⟨o, h⟩) | h
  · exact .inl (.inl (e _ _ h))
  · exact .inl (.inr ⟨o, e _ _ h⟩)
  · exact .inr h
/-! ### numbers drawn below limits -/
def DOk : List Int → List Int → Prop
  | [], [] => True
  | d :: ds, m :: ms => (0 ≤ d ∧ d < m) ∧ DOk ds ms
  | _, _ => False
theorem DOk.snoc : ∀ {ds ms : List Int} {d m : Int}, DOk ds ms → 0 ≤ d → d < m → DOk (ds ++ [d]) (ms ++ [m])
  | [], [], _, _, _, h0, h1 => ⟨⟨h0, h1⟩, trivial⟩
  | [], _ :: _, _, _, h, _, _ => h.elim
  | _ :: _, [], _, _, h, _, _ => h.elim
  | _ :: _, _ :: _, _, _, h, h0, h1 => ⟨h.1, DOk.snoc h.2 h0 h1⟩
theorem DOk.len : ∀ {ds ms : List Int}, DOk ds ms → ds.length = ms.length
  | [], [], _ => rfl
  | [], _ :: _, h => h.elim
  | _ :: _, [], h => h.elim
  | _ :: _, _ :: _, h => by rw [List.length_cons, List.length_cons, DOk.len h.2]
theorem DOk.at : ∀ {ds ms : List Int} {i : Nat} {m : Int}, DOk ds ms → ms[i]? = some m → ∃ d, ds[i]? = some d ∧ 0 ≤ d ∧ d < m
  | [], [], _, _, _, e => by simp at e
  | [], _ :: _, _, _, h, _ => h.elim
  | _ :: _, [], _, _, h, _ => h.elim
  | d :: _, _ :: _, 0, m, h, e => ⟨d, rfl, h.1.1, by have := Option.some.inj e; rw [← this]; exact h.1.2⟩
  | _ :: ds, _ :: ms, i + 1, m, h, e => DOk.at (ds := ds) (ms := ms) (i := i) h.2 e
theorem DOk.cons {ds ms : List Int} {m : Int} (h : DOk ds (m :: ms)) : ∃ d r, ds = d :: r ∧ 0 ≤ d ∧ d < m ∧ DOk r ms := by
  cases ds with
  | nil => exact h.elim
  | cons d r => exact ⟨d, r, rfl, h.1.1, h.1.2, h.2⟩
theorem DOk.nil {ds : List Int} (h : DOk ds []) : ds = [] := by
  cases ds with
  | nil => rfl
  | cons d r => exact h.elim
theorem get_map {α : Type} {f : α → V} {xs : List α} {i : Nat} {x : α} (h : xs[i]? = some x) : (xs.map f)[i]? = some (f x) := by
  rw [List.getElem?_map, h]; rfl
theorem get_map_inv {α : Type} {f : α → V} {xs : List α} {i : Nat} {v : V} (h : (xs.map f)[i]? = some v) : ∃ x, xs[i]? = some x ∧ v = f x := by
  rw [List.getElem?_map] at h
  cases e : xs[i]? with
  | none => rw [e] at h; cases h
  | some x => rw [e] at h; exact ⟨x, rfl, (Option.some.inj h).symm⟩
theorem fmod_pos {a m : Int} (h : 0 < m) : 0 ≤ a.fmod m ∧ a.fmod m < m := ⟨Int.fmod_nonneg_of_pos a h, Int.fmod_lt_of_pos a h⟩
theorem take_snoc {α : Type} {xs : List α} {i : Nat} {x : α} (h : xs[i]? = some x) : xs.take (i + 1) = xs.take i ++ [x] := by
  rw [List.take_add_one, h]; rfl
end My
namespace My
open PySem PySem.Spec PyProof.Rows L2
def topS (i : Nat) : Stmt := PySem.Challenge.pw_legion_k17_machines_checked.main.body.getD i (.Pass ⟨0, 0, 0, 0⟩)
theorem atI_in {α : Type} {xs : List α} {i : Int} (h0 : 0 ≤ i) (h1 : i < xs.length) : ∃ v, atI xs i = some v ∧ v ∈ xs := by
  obtain ⟨n, rfl⟩ := Int.eq_ofNat_of_zero_le h0
  have hn : n < xs.length := by omega
  exact ⟨xs[n], atI_nat (List.getElem?_eq_getElem hn), List.getElem_mem hn⟩
theorem atI_map {α : Type} {f : α → V} {xs : List α} {i : Int} (h0 : 0 ≤ i) (h1 : i < xs.length) : ∃ v, atI (xs.map f) i = some (f v) ∧ v ∈ xs ∧ xs[i.toNat]? = some v := by
  obtain ⟨n, rfl⟩ := Int.eq_ofNat_of_zero_le h0
  have hn : n < xs.length := by omega
  exact ⟨xs[n], atI_nat (get_map (List.getElem?_eq_getElem hn)), List.getElem_mem hn, List.getElem?_eq_getElem hn⟩
theorem len_app (a b : Str) : (a ++ b).length = a.length + b.length := by
  show (a.cps ++ b.cps).size = a.cps.size + b.cps.size
  exact Array.size_append
theorem len_join0 : ∀ (parts : List Str), (∀ p ∈ parts, p.length = 1) → (Txt.join (Str.ofString "") parts).length = parts.length := by
  intro parts h
  have e : ∀ parts : List Str, (∀ p ∈ parts, p.length = 1) → (TL.joinL [] (parts.map TL.tl)).length = parts.length := by
    intro parts
    induction parts with
    | nil => intro _; rfl
    | cons p r ih =>
      intro h
      have hp : (TL.tl p).length = 1 := by
        have := h p List.mem_cons_self
        rw [← this]
        exact Array.length_toList
      have hr := ih fun q hq => h q (List.mem_cons_of_mem _ hq)
      cases r with
      | nil => show (TL.tl p).length = 1; exact hp
      | cons q r =>
        show (TL.tl p ++ ([] ++ TL.joinL [] ((q :: r).map TL.tl))).length = _
        rw [List.length_append, List.nil_append, hr, hp, List.length_cons (a := p)]
        omega
  have e2 := TL.tl_join (Str.ofString "") parts
  rw [← TL.join_eq] at e2
  have e3 : (Txt.join (Str.ofString "") parts).length = (TL.tl (Txt.join (Str.ofString "") parts)).length := Array.length_toList.symm
  rw [e3, e2, show TL.tl (Str.ofString "") = [] by decide +kernel]
  exact e parts h
theorem len_digits : ∀ k : Nat, k < 60 → ((toString (k : Int) : String) |> fun s => (Str.ofString s).length) ≤ 2 := by
  intro k hk
  have : ∀ k : Fin 60, ((toString ((k : Nat) : Int) : String) |> fun s => (Str.ofString s).length) ≤ 2 := by decide +kernel
  exact this ⟨k, hk⟩
/-! ### tests that leave the heap -/
theorem ansOr {t u : TT} {σ : L2.St} {H : Hp} {a b : Bool} (ha : Ans t σ H a) (hb : Ans u σ H b) : Ans (tOr t u) σ H (a || b) := fun Q q => ha _ (by
  cases a with
  | true => exact iteT q
  | false => exact iteF (hb Q q))
theorem ansAnd {t u : TT} {σ : L2.St} {H : Hp} {a b : Bool} (ha : Ans t σ H a) (hb : Ans u σ H b) : Ans (tAnd t u) σ H (a && b) := fun Q q => ha _ (by
  cases a with
  | true => exact iteT (hb Q q)
  | false => exact iteF q)
theorem ifS {c : TT} {t u : TS} {D : Ends} {σ : L2.St} {H : Hp} {b : Bool} (h : Ans c σ H b) (ht : b = true → t D σ H) (hu : b = false → u D σ H) : tIfS c t u D σ H := h _ (by
  cases b with
  | true => exact iteT (ht rfl)
  | false => exact iteF (hu rfl))
theorem sum_ones : ∀ {ss : List Str}, (∀ s ∈ ss, s.length = 1) → (ss.map (·.length)).sum = ss.length
  | [], _ => rfl
  | s :: r, h => by
    rw [List.map_cons, List.sum_cons, sum_ones fun x hx => h x (List.mem_cons_of_mem _ hx), h s List.mem_cons_self, List.length_cons]
    omega
theorem flat_strs (ss : List Str) : (ss.map V.str).all flatV = true := by
  rw [List.all_eq_true]
  intro v hv
  obtain ⟨s, _, rfl⟩ := List.mem_map.mp hv
  rfl
theorem szc (n : Nat) {xs : List V} (h : xs.length = n := by rfl) (hn : n ≤ 100000 := by decide) : xs.length ≤ sizeLine := by rw [h]; exact sz hn
theorem ansIsi {K : PySem.W.Frag} {te : TE} {σ : L2.St} {H : Hp} {x : V} {T T2 : String} {b : Bool} (hx : ∀ Q : VK, Q x H → te σ H Q) (ty : TyX K H x (.type T)) (hb : kitB T T2 = some b) :
    Ans (tB (tCB (rIsi K) (tCons te (tCons (tC (.ty T2)) tNil)))) σ H b := fun Q q => hx _ ⟨x, _, _, _, b, rfl, .ty T2, ty, kit_ty hb, _, rfl, q⟩
theorem ansTo {t : TT} {σ : L2.St} {H : Hp} {b b' : Bool} (h : Ans t σ H b) (e : b = b') : Ans t σ H b' := e ▸ h
/-- lo <= x <= hi over whole numbers -/
theorem ansChain {ta tb tc : TE} {σ : L2.St} {H : Hp} {i j k : Int} (ha : Val ta σ H (.int i)) (hb : Val tb σ H (.int j)) (hc : Val tc σ H (.int k)) :
    Ans (tTest (tChain (rI0 fun i j => .bl (decide (i ≤ j))) (rI0 fun i j => .bl (decide (i ≤ j))) ta tb tc)) σ H (decide (i ≤ j) && decide (j ≤ k)) := fun Q q =>
  ha _ (hb _ ⟨i, j, rfl, rfl, _, rfl, by
    by_cases h : i ≤ j
    · rw [if_pos (decide_eq_true h)]
      refine hc _ ⟨j, k, rfl, rfl, _, rfl, ?_⟩
      rw [decide_eq_true h, Bool.true_and] at q
      exact q
    · rw [if_neg (by rw [decide_eq_false h]; exact Bool.false_ne_true)]
      rw [decide_eq_false h, Bool.false_and] at q
      exact ⟨_, rfl, q⟩⟩)
theorem ifQ {c : TT} {t u r : TS} {D : Ends} {σ : L2.St} {H : Hp} {b : Bool} (h : Ans c σ H b) (ht : b = true → t { D with nx := r D } σ H) (hu : b = false → u { D with nx := r D } σ H) : tSeq (tIfS c t u) r D σ H := ifS (D := { D with nx := r D }) h ht hu
theorem noQ {c : TT} {t r : TS} {D : Ends} {σ : L2.St} {H : Hp} (h : Ans c σ H false) (q : r D σ H) : tSeq (tIfS c t tNext) r D σ H := ifQ h (fun z => nomatch z) fun _ => q
theorem noS {c : TT} {t : TS} {D : Ends} {σ : L2.St} {H : Hp} (h : Ans c σ H false) (q : D.nx σ H) : tIfS c t tNext D σ H := ifS h (fun z => nomatch z) fun _ => q
theorem ifR {c : TT} {t r : TS} {D : Ends} {σ : L2.St} {H : Hp} {b : Bool} (h : Ans c σ H b) (ht : b = true → t { D with nx := r D } σ H) (hu : b = false → r D σ H) : tSeq (tIfS c t tNext) r D σ H := ifQ h ht hu
theorem cutV_map {α : Type} (f : α → V) (xs : List α) (lo hi : Option Int) : ∃ ys : List α, cutV (xs.map f) lo hi = ys.map f ∧ ys.length ≤ xs.length ∧ ∀ y ∈ ys, y ∈ xs := by
  refine ⟨(xs.drop (HT.sIx (xs.map f).length 0 lo)).take (HT.sIx (xs.map f).length (xs.map f).length hi - HT.sIx (xs.map f).length 0 lo), ?_, ?_, ?_⟩
  · unfold cutV
    rw [List.map_take, List.map_drop]
  · rw [List.length_take, List.length_drop]
    omega
  · intro y hy
    exact List.mem_of_mem_drop (List.mem_of_mem_take hy)
theorem iteFx {c : Bool} {A B : Prop} (h : c = false) (q : B) : if c = true then A else B := by
  subst h
  exact iteF q
theorem iteTx {c : Bool} {A B : Prop} (h : c = true) (q : A) : if c = true then A else B := by
  subst h
  exact iteT q
/-! ### names -/
def lets : Str := Str.ofString "abcdefghijklmnopqrstuvwxyz"
def sgns : Str := Str.ofString "abcdefghijklmnopqrstuvwxyz0123456789"
def resv : List Str := ["share", "lock", "bell", "kind", "any", "local", "skip", "set", "acquire", "release", "rest", "wake", "start", "check", "await", "mark", "if", "else", "loop", "choose", "or", "end", "and", "not"].map Str.ofString
structure NmF (s : Str) : Prop where
  l1 : 1 ≤ s.length
  l20 : s.length ≤ 20
  hd : ∃ c r, s.cps.toList = c :: r ∧ c ∈ lets.cps.toList
  al : ∀ c ∈ s.cps.toList, c ∈ sgns.cps.toList
theorem str_len (s : Str) : s.cps.toList.length = s.length := Array.length_toList
theorem str_app (a b : Str) : (a ++ b).cps.toList = a.cps.toList ++ b.cps.toList := by
  show (a.cps ++ b.cps).toList = _
  exact Array.toList_append
theorem let_sgn {c : Nat} (h : c ∈ lets.cps.toList) : c ∈ sgns.cps.toList := by
  have e : sgns = lets ++ Str.ofString "0123456789" := by decide +kernel
  rw [e, str_app]
  exact List.mem_append_left _ h
theorem nmF_cons {s : Str} {c : Nat} {r : List Nat} (e : s.cps.toList = c :: r) (hc : c ∈ lets.cps.toList) (hr : ∀ x ∈ r, x ∈ sgns.cps.toList) (hl : r.length ≤ 19) : NmF s := by
  have := str_len s
  rw [e, List.length_cons] at this
  refine ⟨by omega, by omega, ⟨c, r, e, hc⟩, fun x hx => ?_⟩
  rw [e] at hx
  rcases List.mem_cons.mp hx with h | h
  · rw [h]; exact let_sgn hc
  · exact hr x h
def nmfB (l : List Nat) : Bool := match l with
  | [] => false
  | c :: r => decide (c ∈ lets.cps.toList) && (r.all fun x => decide (x ∈ sgns.cps.toList)) && decide (r.length ≤ 19)
theorem nmF_of {s : Str} (h : nmfB s.cps.toList = true) : NmF s := by
  cases e : s.cps.toList with
  | nil => rw [e] at h; cases h
  | cons c r =>
    rw [e] at h
    simp only [nmfB, Bool.and_eq_true, decide_eq_true_eq, List.all_eq_true] at h
    exact nmF_cons e h.1.1 h.1.2 h.2
def digL (i : Nat) : List Nat := (Str.ofString (toString (i : Int))).cps.toList
theorem dig_ok : ∀ i : Fin 31, (∃ c r, digL i = c :: r ∧ c ∉ lets.cps.toList) ∧ (∀ x ∈ digL i, x ∈ sgns.cps.toList) ∧ (digL i).length ≤ 2 := by
  have h : ∀ i : Fin 31, (match digL i with
    | [] => false
    | c :: _ => !decide (c ∈ lets.cps.toList)) = true ∧ ((digL i).all fun x => decide (x ∈ sgns.cps.toList)) = true ∧ (digL i).length ≤ 2 := by decide +kernel
  intro i
  obtain ⟨h1, h2, h3⟩ := h i
  refine ⟨?_, fun x hx => of_decide_eq_true (List.all_eq_true.mp h2 x hx), h3⟩
  cases e : digL i with
  | nil => rw [e] at h1; cases h1
  | cons c r => rw [e] at h1; exact ⟨c, r, rfl, by simpa using h1⟩
def letAt (j : Nat) : Nat := lets.cps.toList.getD j 0
theorem let_inj : ∀ a b : Fin 26, letAt a = letAt b → a = b := by decide +kernel
theorem let_in : ∀ a : Fin 26, letAt a ∈ lets.cps.toList := by decide +kernel
def candL (i j : Nat) : List Nat := letAt (j % 26) :: (digL i ++ if j < 26 then [] else [120])
theorem cand_f {i j : Nat} (hi : i < 31) (s : Str) (e : s.cps.toList = candL i j) : NmF s := by
  obtain ⟨_, h2, h3⟩ := dig_ok ⟨i, hi⟩
  refine nmF_cons e (let_in ⟨j % 26, by omega⟩) (fun x hx => ?_) ?_
  · rcases List.mem_append.mp hx with h | h
    · exact h2 x h
    · split at h
      · cases h
      · rw [List.mem_singleton.mp h]; decide +kernel
  · rw [List.length_append]
    have : (if j < 26 then [] else [120] : List Nat).length ≤ 1 := by split <;> decide
    have h3' : (digL i).length ≤ 2 := h3
    omega
theorem resv_let : ∀ s ∈ resv, ∀ c ∈ s.cps.toList, c ∈ lets.cps.toList := by decide +kernel
theorem cand_nr {i j : Nat} (hi : i < 31) (s : Str) (e : s.cps.toList = candL i j) : s ∉ resv := fun hm => by
  obtain ⟨⟨c, r, ec, hc⟩, _⟩ := dig_ok ⟨i, hi⟩
  refine hc (resv_let s hm c ?_)
  rw [e]
  have : digL i = c :: r := ec
  unfold candL
  rw [this]
  exact List.mem_cons_of_mem _ (List.mem_append_left _ List.mem_cons_self)
theorem cand_inj {i j k : Nat} (hj : j < 52) (hk : k < 52) (e : candL i j = candL i k) : j = k := by
  have h1 : letAt (j % 26) = letAt (k % 26) := (List.cons.inj e).1
  have h2 := congrArg List.length (List.cons.inj e).2
  have h3 := congrArg Fin.val (let_inj ⟨j % 26, by omega⟩ ⟨k % 26, by omega⟩ h1)
  have h4 : j % 26 = k % 26 := h3
  rw [List.length_append, List.length_append] at h2
  split at h2 <;> split at h2 <;> simp only [List.length_nil, List.length_cons] at h2 <;> omega
theorem pigeon {α : Type} [BEq α] [LawfulBEq α] : ∀ (xs ys : List α), xs.Nodup → (∀ x ∈ xs, x ∈ ys) → xs.length ≤ ys.length
  | [], _, _, _ => Nat.zero_le _
  | x :: r, ys, hn, h => by
    have hx := h x List.mem_cons_self
    obtain ⟨hnx, hnr⟩ := List.nodup_cons.mp hn
    have ih := pigeon r (ys.erase x) hnr fun y hy => (List.mem_erase_of_ne fun (e : y = x) => hnx (e ▸ hy)).mpr (h y (List.mem_cons_of_mem _ hy))
    rw [List.length_erase_of_mem hx] at ih
    have := List.length_pos_of_mem hx
    rw [List.length_cons]
    omega
/-- of 52 names one is free -/
theorem cand_free {i : Nat} (hi : i < 31) {ss : List Str} (hl : ss.length < 52) (h : ∀ j < 52, ∀ s : Str, s.cps.toList = candL i j → s ∈ ss ∨ s ∈ resv) : False := by
  have hs : ∀ j < 52, candL i j ∈ ss.map fun s => s.cps.toList := fun j hj => by
    have e : ((⟨(candL i j).toArray⟩ : Str)).cps.toList = candL i j := rfl
    rcases h j hj _ e with m | m
    · exact List.mem_map.mpr ⟨_, m, e⟩
    · exact absurd m (cand_nr hi _ e)
  have hn : ((List.range 52).map (candL i)).Nodup := by
    refine List.nodup_iff_pairwise_ne.mpr ?_ |> fun z => z
    rw [List.pairwise_map]
    refine List.Pairwise.imp_of_mem (fun {a b} ha hb hab e => ?_) (List.nodup_iff_pairwise_ne.mp List.nodup_range)
    exact hab (cand_inj (List.mem_range.mp ha) (List.mem_range.mp hb) e)
  have := pigeon _ _ hn fun x hx => by
    obtain ⟨j, hj, rfl⟩ := List.mem_map.mp hx
    exact hs j (List.mem_range.mp hj)
  rw [List.length_map, List.length_map, List.length_range] at this
  omega
theorem cut_x : ∀ j : Fin 52, (cutS (Str.ofString "x") none (some (((j : Nat) : Int) / 26))).cps.toList = (if (j : Nat) < 26 then [] else [120]) := by decide +kernel
structure NmsOk (ss : List Str) : Prop where
  f : ∀ s ∈ ss, NmF s
  r : ∀ s ∈ ss, s ∉ resv
  nd : ss.Nodup
theorem NmsOk.snoc {ss : List Str} {s : Str} (h : NmsOk ss) (hf : NmF s) (hr : s ∉ resv) (hs : s ∉ ss) : NmsOk (ss ++ [s]) where
  f := fun x hx => by
    rcases List.mem_append.mp hx with m | m
    · exact h.f x m
    · rw [List.mem_singleton.mp m]; exact hf
  r := fun x hx => by
    rcases List.mem_append.mp hx with m | m
    · exact h.r x m
    · rw [List.mem_singleton.mp m]; exact hr
  nd := by
    refine List.nodup_append.mpr ⟨h.nd, List.nodup_cons.mpr ⟨(fun m => by cases m), List.nodup_nil⟩, fun a ha b hb e => ?_⟩
    rw [List.mem_singleton.mp hb] at e
    exact hs (e ▸ ha)
theorem inV_iff {l : Str} {xs : List Str} : inV (V.str l) (xs.map V.str) = true ↔ l ∈ xs := by
  unfold inV
  rw [List.any_map, List.any_eq_true]
  constructor
  · rintro ⟨x, hx, h⟩
    have : (x == l) = true := h
    rw [← eq_of_beq this]
    exact hx
  · intro h
    exact ⟨l, h, (beq_self_eq_true l : (l == l) = true)⟩
theorem mem_join0 {S : List Nat} : ∀ (parts : List Str), (∀ p ∈ parts, ∀ c ∈ p.cps.toList, c ∈ S) → ∀ c ∈ (Txt.join (Str.ofString "") parts).cps.toList, c ∈ S := by
  intro parts h c hc
  have e2 := TL.tl_join (Str.ofString "") parts
  rw [← TL.join_eq, show TL.tl (Str.ofString "") = [] by decide +kernel] at e2
  have e3 : (Txt.join (Str.ofString "") parts).cps.toList = TL.joinL [] (parts.map TL.tl) := e2
  rw [e3] at hc
  clear e2 e3
  induction parts with
  | nil => cases hc
  | cons p r ih =>
    cases r with
    | nil => exact h p List.mem_cons_self c hc
    | cons q r =>
      have hc2 : c ∈ TL.tl p ++ ([] ++ TL.joinL [] ((q :: r).map TL.tl)) := hc
      rw [List.nil_append] at hc2
      rcases List.mem_append.mp hc2 with m | m
      · exact h p List.mem_cons_self c m
      · exact ih (fun p hp => h p (List.mem_cons_of_mem _ hp)) m
theorem str_ext {a b : Str} (h : a.cps.toList = b.cps.toList) : a = b := by
  cases a; cases b
  have := Array.toList_inj.mp h
  simp only at this
  rw [this]
/-! ### values and conditions as trees -/
theorem Fd.none {P : Program} {w : World} {K : PySem.W.Frag} {mg : Str → Option Value} {base : Heap} {x qual : Str} {st : Stmt} {f : Addr} {fd : FuncData} {ps : List Str} {k : Nat} {sp : Sp} (F : Fun K x qual st f fd) (m : mg x = some (.ref f)) (b : Binds K fd ps [])
    (no : ∀ vs H Q E, ¬ sp vs H Q E) : Fd P w K mg base x ps k sp := ⟨f, fd, ⟨fun vs H Q E h => absurd h (no vs H Q E), fun A outer s H args us vs Q E _ _ _ _ h => absurd h (no vs H Q E)⟩, m, F.kp, b⟩
theorem yesQ {c : TT} {t u r : TS} {D : Ends} {σ : L2.St} {H : Hp} (h : Ans c σ H true) (q : t { D with nx := r D } σ H) : tSeq (tIfS c t u) r D σ H := ifQ h (fun _ => q) fun z => nomatch z
theorem yesS {c : TT} {t u : TS} {D : Ends} {σ : L2.St} {H : Hp} (h : Ans c σ H true) (q : t D σ H) : tIfS c t u D σ H := ifS h (fun _ => q) fun z => nomatch z
/-- what is new in H' over H -/
def Nw (H H' : Hp) : Hp := fun a => match H a with
  | none => H' a
  | some _ => none
theorem nw_at {H H' : Hp} {a : Addr} (h : H a = none) : Nw H H' a = H' a := by
  unfold Nw
  rw [h]
theorem nw_old {H H' : Hp} {a : Addr} {o : HO} (h : H a = some o) : Nw H H' a = none := by
  unfold Nw
  rw [h]
theorem nw_some {H H' : Hp} {a : Addr} {o : HO} (h : Nw H H' a = some o) : H a = none ∧ H' a = some o := by
  cases e : H a with
  | none => rw [nw_at e] at h; exact ⟨rfl, h⟩
  | some x => rw [nw_old e] at h; cases h
theorem nw_same {H H' : Hp} : Same (Nw H H') H' := fun _ _ h => (nw_some h).2
theorem nw_mono {H H1 H2 H3 : Hp} (a : Same H H1) (b : Same H2 H3) : Same (Nw H1 H2) (Nw H H3) := fun x o h => by
  obtain ⟨h1, h2⟩ := nw_some h
  rw [nw_at (a.free h1)]
  exact b x o h2
/-- what is there is there -/
def Dm (H H' : Hp) : Prop := ∀ a, H' a = none → H a = none
theorem Same.dm {H H' : Hp} (s : Same H H') : Dm H H' := fun _ h => s.free h
theorem Dm.trans {H H1 H2 : Hp} (a : Dm H H1) (b : Dm H1 H2) : Dm H H2 := fun x h => a x (b x h)
theorem dm_upd {H H' : Hp} {D : Addr} {o u : HO} (s : Same H H') (h : H' D = some o) : Dm (upd H D u) H' := fun a ha => by
  have hne : a ≠ D := fun e => by rw [e, h] at ha; cases ha
  rw [upd_ne hne]
  exact s.free ha
theorem dm_up {H : Hp} {D : Addr} {u : HO} : Dm H (upd H D u) := fun a ha => by
  by_cases e : a = D
  · rw [e, upd_same] at ha; cases ha
  · rw [upd_ne e] at ha; exact ha
theorem nw_mono2 {H H1 H2 H3 : Hp} (a : Dm H H1) (b : Same H2 H3) : Same (Nw H1 H2) (Nw H H3) := fun x o h => by
  obtain ⟨h1, h2⟩ := nw_some h
  rw [nw_at (a x h1)]
  exact b x o h2
theorem nw_upd {H H' : Hp} {a : Addr} {o u : HO} (h : H a = some o) : Same (Nw H H') (Nw H (upd H' a u)) := fun x y e => by
  obtain ⟨h1, h2⟩ := nw_some e
  rw [nw_at h1, upd_ne (ne_of_none h h1).symm]
  exact h2
inductive Ar where
  | add | sub | mul
def Ar.tx : Ar → Str
  | .add => Str.ofString "+"
  | .sub => Str.ofString "-"
  | .mul => Str.ofString "*"
def Ar.ev : Ar → Int → Int → Int
  | .add, a, b => a + b
  | .sub, a, b => a - b
  | .mul, a, b => a * b
inductive VT where
  | int (i : Int) | nm (s : Str) | op (o : Ar) (a b : VT)
def VT.ht : VT → Nat
  | .op _ a b => max a.ht b.ht + 1
  | _ => 0
def RVal (H : Hp) : VT → V → Prop
  | .int i, v => v = .int i
  | .nm s, v => v = .str s
  | .op o a b, v => ∃ t x y, v = .ref t ∧ H t = some (.tup [.str o.tx, x, y]) ∧ RVal H a x ∧ RVal H b y
theorem RVal.mono {H H' : Hp} (e : Same H H') : ∀ {t : VT} {v : V}, RVal H t v → RVal H' t v
  | .int _, _, h => h
  | .nm _, _, h => h
  | .op _ _ _, _, ⟨t, x, y, e1, e2, ha, hb⟩ => ⟨t, x, y, e1, e _ _ e2, RVal.mono e ha, RVal.mono e hb⟩
def look (kvs : List (Key × V)) (s : Str) : Int := match valV kvs (Sum.inr s) with
  | some (.int i) => i
  | _ => 0
def VT.ev (kvs : List (Key × V)) : VT → Int
  | .int i => i
  | .nm s => look kvs s
  | .op o a b => o.ev (a.ev kvs) (b.ev kvs)
def VT.wt : VT → Nat
  | .op _ a b => a.wt + b.wt
  | _ => 8
def Fine (kvs : List (Key × V)) : VT → Prop
  | .int i => i.natAbs < 256
  | .nm s => ∃ i : Int, valV kvs (Sum.inr s) = some (.int i) ∧ i.natAbs < 256
  | .op _ a b => Fine kvs a ∧ Fine kvs b
theorem VT.wt_pos : ∀ t : VT, 8 ≤ t.wt
  | .int _ => Nat.le_refl 8
  | .nm _ => Nat.le_refl 8
  | .op _ a b => by show 8 ≤ a.wt + b.wt; have := a.wt_pos; omega
theorem pow_add_le {a b x y : Nat} (ha : x < 2 ^ a) (hb : y < 2 ^ b) (h1 : 1 ≤ a) (h2 : 1 ≤ b) : x + y < 2 ^ (a + b) := by
  have ea : 2 ^ (a + b) = 2 ^ a * 2 ^ b := Nat.pow_add 2 a b
  have h3 : 2 ≤ 2 ^ a := by
    have := Nat.pow_le_pow_right (show 0 < 2 by decide) h1
    omega
  have h4 : 2 ≤ 2 ^ b := by
    have := Nat.pow_le_pow_right (show 0 < 2 by decide) h2
    omega
  generalize 2 ^ a = u at *
  generalize 2 ^ b = v at *
  rw [ea]
  have h5 : u + v ≤ u * v := by
    rcases Nat.le_total u v with h | h
    · have := Nat.mul_le_mul_right v h3
      omega
    · have := Nat.mul_le_mul_left u h4
      omega
  omega
theorem ev_lt {kvs : List (Key × V)} : ∀ {t : VT}, Fine kvs t → (t.ev kvs).natAbs < 2 ^ t.wt
  | .int i, h => h
  | .nm s, ⟨i, e, h⟩ => by
    show (look kvs s).natAbs < 2 ^ 8
    unfold look
    rw [e]
    exact h
  | .op o a b, ⟨ha, hb⟩ => by
    have h1 := ev_lt ha
    have h2 := ev_lt hb
    have p1 := a.wt_pos
    have p2 := b.wt_pos
    have h3 := pow_add_le h1 h2 (by omega) (by omega)
    show (o.ev (a.ev kvs) (b.ev kvs)).natAbs < 2 ^ (a.wt + b.wt)
    cases o with
    | add => show (a.ev kvs + b.ev kvs).natAbs < _; omega
    | sub => show (a.ev kvs - b.ev kvs).natAbs < _; omega
    | mul => exact wide_lt h1 h2
inductive Cp where
  | eq | lt | le
def Cp.tx : Cp → Str
  | .eq => Str.ofString "="
  | .lt => Str.ofString "<"
  | .le => Str.ofString "<="
def Cp.ev : Cp → Int → Int → Bool
  | .eq, a, b => decide (V.int a = V.int b)
  | .lt, a, b => decide (a < b)
  | .le, a, b => decide (a ≤ b)
inductive CT where
  | bl (b : Bool) | no (c : CT) | an (a b : CT) | or (a b : CT) | cp (o : Cp) (a b : VT)
def CT.ht : CT → Nat
  | .bl _ => 0
  | .no c => c.ht + 1
  | .an a b => max a.ht b.ht + 1
  | .or a b => max a.ht b.ht + 1
  | .cp _ _ _ => 0
def RCond (H : Hp) : CT → V → Prop
  | .bl b, v => v = .bl b
  | .no c, v => ∃ t x, v = .ref t ∧ H t = some (.tup [.str (Str.ofString "not"), x]) ∧ RCond H c x
  | .an a b, v => ∃ t x y, v = .ref t ∧ H t = some (.tup [.str (Str.ofString "and"), x, y]) ∧ RCond H a x ∧ RCond H b y
  | .or a b, v => ∃ t x y, v = .ref t ∧ H t = some (.tup [.str (Str.ofString "or"), x, y]) ∧ RCond H a x ∧ RCond H b y
  | .cp o a b, v => ∃ t x y, v = .ref t ∧ H t = some (.tup [.str o.tx, x, y]) ∧ RVal H a x ∧ RVal H b y
theorem RCond.mono {H H' : Hp} (e : Same H H') : ∀ {t : CT} {v : V}, RCond H t v → RCond H' t v
  | .bl _, _, h => h
  | .no _, _, ⟨t, x, e1, e2, ha⟩ => ⟨t, x, e1, e _ _ e2, RCond.mono e ha⟩
  | .an _ _, _, ⟨t, x, y, e1, e2, ha, hb⟩ => ⟨t, x, y, e1, e _ _ e2, RCond.mono e ha, RCond.mono e hb⟩
  | .or _ _, _, ⟨t, x, y, e1, e2, ha, hb⟩ => ⟨t, x, y, e1, e _ _ e2, RCond.mono e ha, RCond.mono e hb⟩
  | .cp _ _ _, _, ⟨t, x, y, e1, e2, ha, hb⟩ => ⟨t, x, y, e1, e _ _ e2, RVal.mono e ha, RVal.mono e hb⟩
def CT.ev (kvs : List (Key × V)) : CT → Bool
  | .bl b => b
  | .no c => !c.ev kvs
  | .an a b => a.ev kvs && b.ev kvs
  | .or a b => a.ev kvs || b.ev kvs
  | .cp o a b => o.ev (a.ev kvs) (b.ev kvs)
/-- every value in it is fine, of height below n and of weight at most m -/
def CFine (kvs : List (Key × V)) (n m : Nat) : CT → Prop
  | .bl _ => True
  | .no c => CFine kvs n m c
  | .an a b => CFine kvs n m a ∧ CFine kvs n m b
  | .or a b => CFine kvs n m a ∧ CFine kvs n m b
  | .cp _ a b => (Fine kvs a ∧ a.ht < n ∧ a.wt ≤ m) ∧ Fine kvs b ∧ b.ht < n ∧ b.wt ≤ m
/-! ### data: what stands in the heap, at any depth -/
mutual
theorem dp_mono {K : PySem.W.Frag} {H H' : Hp} (e : Same H H') : ∀ {v : V} {d : PyData}, Dp K H v d → Dp K H' v d
  | _, .none, .non => .non
  | _, .bool _, .bl b => .bl b
  | _, .int _, .int i => .int i
  | _, .str _, .str x => .str x
  | _, .list _, .lst h a => .lst (e.seq h) (dpAll_mono e a)
  | _, .tuple _, .tup h a => .tup (Same.seqT e h) (dpAll_mono e a)
theorem dpAll_mono {K : PySem.W.Frag} {H H' : Hp} (e : Same H H') : ∀ {vs : List V} {ds : List PyData}, DpAll K H vs ds → DpAll K H' vs ds
  | _, [], .nil => .nil
  | _, _ :: _, .cons h t => .cons (dp_mono e h) (dpAll_mono e t)
end
theorem dpa_len {K : PySem.W.Frag} {H : Hp} : ∀ {ds : List PyData} {vs : List V}, DpAll K H vs ds → vs.length = ds.length
  | [], _, .nil => rfl
  | _ :: _, _, .cons _ t => congrArg (· + 1) (dpa_len t)
theorem dpa_at {K : PySem.W.Frag} {H : Hp} : ∀ {ds : List PyData} {vs : List V}, DpAll K H vs ds → ∀ {i : Nat} {v : V}, vs[i]? = some v → ∃ d, ds[i]? = some d ∧ Dp K H v d
  | [], _, .nil, i, v, h => by simp at h
  | _ :: _, _, .cons a t, 0, v, h => by
    have := Option.some.inj h
    subst this
    exact ⟨_, rfl, a⟩
  | _ :: _, _, .cons a t, i + 1, v, h => dpa_at t (i := i) h
theorem dpa_at' {K : PySem.W.Frag} {H : Hp} : ∀ {ds : List PyData} {vs : List V}, DpAll K H vs ds → ∀ {i : Nat} {d : PyData}, ds[i]? = some d → ∃ v, vs[i]? = some v ∧ Dp K H v d
  | [], _, .nil, i, v, h => by simp at h
  | _ :: _, _, .cons a t, 0, v, h => by
    have := Option.some.inj h
    subst this
    exact ⟨_, rfl, a⟩
  | _ :: _, _, .cons a t, i + 1, v, h => dpa_at' t (i := i) h
theorem dpa_app {K : PySem.W.Frag} {H : Hp} : ∀ {ds es : List PyData} {vs us : List V}, DpAll K H vs ds → DpAll K H us es → DpAll K H (vs ++ us) (ds ++ es)
  | [], _, _, _, .nil, b => b
  | _ :: _, _, _, _, .cons a t, b => .cons a (dpa_app t b)
theorem dpa_strs {K : PySem.W.Frag} {H : Hp} : ∀ ss : List Str, DpAll K H (ss.map V.str) (ss.map PyData.str)
  | [] => .nil
  | s :: r => .cons (.str s) (dpa_strs r)
theorem dpa_ints {K : PySem.W.Frag} {H : Hp} : ∀ ss : List Int, DpAll K H (ss.map V.int) (ss.map PyData.int)
  | [] => .nil
  | s :: r => .cons (.int s) (dpa_ints r)
/-- a tuple of data -/
theorem dp_tup {K : PySem.W.Frag} {H : Hp} {v : V} {ds : List PyData} (h : Dp K H v (.tuple ds)) : ∃ a xs, v = .ref a ∧ SqT K H a xs ∧ DpAll K H xs ds := by
  cases h with
  | tup hs ha => exact ⟨_, _, rfl, hs, ha⟩
theorem dp_lst {K : PySem.W.Frag} {H : Hp} {v : V} {ds : List PyData} (h : Dp K H v (.list ds)) : ∃ a xs, v = .ref a ∧ SqL K H a xs ∧ DpAll K H xs ds := by
  cases h with
  | lst hs ha => exact ⟨_, _, rfl, hs, ha⟩
theorem dp_str {K : PySem.W.Frag} {H : Hp} {v : V} {s : Str} (h : Dp K H v (.str s)) : v = .str s := by cases h; rfl
theorem dp_int {K : PySem.W.Frag} {H : Hp} {v : V} {s : Int} (h : Dp K H v (.int s)) : v = .int s := by cases h; rfl
theorem dpa_cons {K : PySem.W.Frag} {H : Hp} {vs : List V} {d : PyData} {ds : List PyData} (h : DpAll K H vs (d :: ds)) : ∃ v r, vs = v :: r ∧ Dp K H v d ∧ DpAll K H r ds := by
  cases h with
  | cons a t => exact ⟨_, _, rfl, a, t⟩
theorem dpa_nil {K : PySem.W.Frag} {H : Hp} {vs : List V} (h : DpAll K H vs []) : vs = [] := by cases h; rfl
theorem dpa_strsE {K : PySem.W.Frag} {H : Hp} : ∀ {ss : List Str} {vs : List V}, DpAll K H vs (ss.map PyData.str) → vs = ss.map V.str
  | [], _, h => dpa_nil h
  | s :: r, _, h => by
    obtain ⟨v, q, rfl, a, t⟩ := dpa_cons h
    rw [dp_str a, dpa_strsE t]
    rfl
/-! ### data that can be shown and compared -/
mutual
def nice : PyData → Bool
  | .none | .bool _ => true
  | .int i => decide (i.natAbs < 10 ^ 7)
  | .str s => (s.cps.toList.all fun c => decide (c < 128)) && decide (s.length ≤ 20)
  | .list xs | .tuple xs => niceAll xs
  | .dict _ => false
def niceAll : List PyData → Bool
  | [] => true
  | x :: xs => nice x && niceAll xs
end
mutual
def cells : PyData → Nat
  | .list xs | .tuple xs => cellsAll xs + 1
  | .none | .bool _ | .int _ | .str _ | .dict _ => 1
def cellsAll : List PyData → Nat
  | [] => 0
  | x :: xs => cells x + cellsAll xs
end
mutual
theorem nice_lay : ∀ d : PyData, nice d = true → d.canLay0 = true
  | .none, _ => rfl
  | .bool _, _ => rfl
  | .int _, _ => rfl
  | .str s, h => by
    simp only [nice, Bool.and_eq_true, List.all_eq_true, decide_eq_true_eq] at h
    show (s.cps.all fun c => decide (c < 0x110000)) = true
    rw [← Array.all_toList, List.all_eq_true]
    intro c hc
    have := h.1 c hc
    exact decide_eq_true (by omega)
  | .list xs, h => by
    show PyData.canLayAll0 xs = true
    exact nice_layAll xs h
  | .tuple xs, h => by
    show PyData.canLayAll0 xs = true
    exact nice_layAll xs h
  | .dict _, h => nomatch h
theorem nice_layAll : ∀ xs : List PyData, niceAll xs = true → PyData.canLayAll0 xs = true
  | [], _ => rfl
  | x :: xs, h => by
    have h' : nice x = true ∧ niceAll xs = true := by simpa only [niceAll, Bool.and_eq_true] using h
    show (x.canLay0 && PyData.canLayAll0 xs) = true
    rw [nice_lay x h'.1, nice_layAll xs h'.2]
    rfl
end
mutual
theorem nice_short : ∀ d : PyData, nice d = true → d.leavesShort 8 = true ∧ d.showable = true
  | .none, _ => ⟨rfl, rfl⟩
  | .bool _, _ => ⟨rfl, rfl⟩
  | .int i, h => by
    have h1 : i.natAbs < 10 ^ 7 := by simpa only [nice, decide_eq_true_eq] using h
    refine ⟨?_, ?_⟩
    · show decide ((Str.ofString (toString i)).length ≤ 8) = true
      have := int_text_length_le10 (a := i) (k := 7) (by decide) h1
      refine decide_eq_true ?_
      rw [PySem.ofString_length]
      exact this
    · show decide (i.natAbs.log2 < 1920) = true
      refine decide_eq_true ?_
      have h2 : i.natAbs.log2 ≤ i.natAbs := Nat.log2_le_self _
      by_cases h0 : i.natAbs = 0
      · rw [h0]; decide
      · rw [Nat.log2_lt h0]
        exact Nat.lt_of_lt_of_le h1 (by decide +kernel)
  | .str s, h => by
    simp only [nice, Bool.and_eq_true, List.all_eq_true, decide_eq_true_eq] at h
    refine ⟨?_, rfl⟩
    show (s.cps.toList.all fun c => decide (c < 16 ^ 8)) = true
    rw [List.all_eq_true]
    intro c hc
    have := h.1 c hc
    exact decide_eq_true (Nat.lt_of_lt_of_le this (by decide))
  | .list xs, h => nice_shortAll xs h
  | .tuple xs, h => nice_shortAll xs h
  | .dict _, h => nomatch h
theorem nice_shortAll : ∀ xs : List PyData, niceAll xs = true → PyData.leavesShortAll 8 xs = true ∧ PyData.showableAll xs = true
  | [], _ => ⟨rfl, rfl⟩
  | x :: xs, h => by
    have h' : nice x = true ∧ niceAll xs = true := by simpa only [niceAll, Bool.and_eq_true] using h
    obtain ⟨a1, a2⟩ := nice_short x h'.1
    obtain ⟨b1, b2⟩ := nice_shortAll xs h'.2
    refine ⟨?_, ?_⟩
    · show (x.leavesShort 8 && PyData.leavesShortAll 8 xs) = true
      rw [a1, b1]; rfl
    · show (x.showable && PyData.showableAll xs) = true
      rw [a2, b2]; rfl
end
mutual
theorem nice_bulk : ∀ d : PyData, nice d = true → d.bulk + 1 ≤ 21 * cells d
  | .none, _ => by decide
  | .bool _, _ => by show 0 + 1 ≤ 21 * 1; decide
  | .int _, _ => by show 0 + 1 ≤ 21 * 1; decide
  | .str s, h => by
    simp only [nice, Bool.and_eq_true, List.all_eq_true, decide_eq_true_eq] at h
    have : s.cps.size ≤ 20 := h.2
    show s.cps.size + 1 ≤ 21 * 1
    omega
  | .list xs, h => by
    have := nice_bulkAll xs h
    show PyData.bulkAll xs + 1 ≤ 21 * (cellsAll xs + 1)
    omega
  | .tuple xs, h => by
    have := nice_bulkAll xs h
    show PyData.bulkAll xs + 1 ≤ 21 * (cellsAll xs + 1)
    omega
  | .dict _, h => nomatch h
theorem nice_bulkAll : ∀ xs : List PyData, niceAll xs = true → PyData.bulkAll xs ≤ 21 * cellsAll xs
  | [], _ => by decide
  | x :: xs, h => by
    have h' : nice x = true ∧ niceAll xs = true := by simpa only [niceAll, Bool.and_eq_true] using h
    have h1 := nice_bulk x h'.1
    have h2 := nice_bulkAll xs h'.2
    show x.bulk + 1 + PyData.bulkAll xs ≤ 21 * (cells x + cellsAll xs)
    omega
end
structure NcD (d : PyData) (c m : Nat) : Prop where
  ni : nice d = true
  ce : cells d ≤ c
  de : d.depth ≤ m
structure NcL (ds : List PyData) (c m : Nat) : Prop where
  ni : niceAll ds = true
  ce : cellsAll ds ≤ c
  de : PyData.depthAll ds ≤ m
theorem NcD.mono {d : PyData} {c m c' m' : Nat} (h : NcD d c m) (h1 : c ≤ c') (h2 : m ≤ m') : NcD d c' m' := ⟨h.ni, Nat.le_trans h.ce h1, Nat.le_trans h.de h2⟩
theorem NcL.mono {d : List PyData} {c m c' m' : Nat} (h : NcL d c m) (h1 : c ≤ c') (h2 : m ≤ m') : NcL d c' m' := ⟨h.ni, Nat.le_trans h.ce h1, Nat.le_trans h.de h2⟩
theorem NcL.nil {c m : Nat} : NcL [] c m := ⟨rfl, Nat.zero_le _, Nat.zero_le _⟩
theorem NcL.cons {d : PyData} {ds : List PyData} {c1 c2 m : Nat} (h : NcD d c1 m) (t : NcL ds c2 m) : NcL (d :: ds) (c1 + c2) m := by
  have h1 := h.ce
  have h2 := t.ce
  have h3 := h.de
  have h4 := t.de
  refine ⟨?_, ?_, ?_⟩
  · show (nice d && niceAll ds) = true
    rw [h.ni, t.ni]; rfl
  · show cells d + cellsAll ds ≤ c1 + c2
    omega
  · show max d.depth (PyData.depthAll ds) ≤ m
    omega
theorem NcL.tup {ds : List PyData} {c m : Nat} (h : NcL ds c m) : NcD (.tuple ds) (c + 1) (m + 1) := ⟨h.ni, Nat.succ_le_succ h.ce, Nat.succ_le_succ h.de⟩
theorem NcL.lst {ds : List PyData} {c m : Nat} (h : NcL ds c m) : NcD (.list ds) (c + 1) (m + 1) := ⟨h.ni, Nat.succ_le_succ h.ce, Nat.succ_le_succ h.de⟩
theorem NcD.str {s : Str} {m : Nat} (h : nice (.str s) = true) : NcD (.str s) 1 m := ⟨h, Nat.le_refl _, Nat.zero_le _⟩
theorem NcD.int {i : Int} {m : Nat} (h : i.natAbs < 10 ^ 7) : NcD (.int i) 1 m := ⟨decide_eq_true h, Nat.le_refl _, Nat.zero_le _⟩
theorem NcD.shaped {d : PyData} {c m : Nat} (h : NcD d c m) (hm : m ≤ 64) : SeqAt.shaped d = true := by
  show (d.canLay0 && decide (d.depth ≤ 64)) = true
  have h1 := h.de
  rw [nice_lay d h.ni, decide_eq_true (by omega)]
  rfl
theorem NcD.eqv {d : PyData} {c m : Nat} (h : NcD d c m) : PyData.eqv d d = true := SeqAt.eqv_refl d (nice_lay d h.ni)
structure Shw (d : PyData) : Prop where
  sh : d.showable = true
  nd : d.hasDict = false
  de : d.depth ≤ 60
  ln : d.shown.length ≤ sizeLine
theorem NcD.shw {d : PyData} {c m : Nat} (h : NcD d c m) (hc : c ≤ 40000) (hm : m ≤ 60) : Shw d := by
  have h1 := nice_short d h.ni
  have h2 := nice_bulk d h.ni
  have h3 := h.de
  have h4 := h.ce
  refine ⟨h1.2, PyData.hasDict_of_canLay d (nice_lay d h.ni), by omega, PyData.shown_fits_bulk (by decide) (by decide) h1.1 ?_⟩
  rw [show (2 : Nat) ^ 20 = 1048576 from rfl]
  omega
/-! ### repr of data, and a law's call from outside all frames (there no guard is up) -/
section
variable {X : Cx}
def rRepr (K : PySem.W.Frag) : List V → Hp → VK → Prop := fun xs H Q => ∃ (a : Addr) (d : PyData), xs = [.ref a] ∧ Dp K H (.ref a) d ∧ d.showable = true ∧ d.hasDict = false ∧ d.depth ≤ 60 ∧ d.shown.length ≤ sizeLine ∧ Q (.str d.shown) H
theorem cRepr (K : PySem.W.Frag) (hg : X.A.guards = some []) (hu : X.A.units + 64 < cLine) (hK : X.K = K := by rfl) : CallR X (.builtin "repr") (rRepr K) := by
  subst hK
  rintro pins s σ H xs us Q I r ⟨a, d, rfl, hd, hs, hn, hp, hz, q⟩
  obtain ⟨u, rfl, ru⟩ := vals1 r
  cases ru
  obtain ⟨as, hr⟩ := Dp.reads I d _ _ hd rfl
  exact PySem.repr_of_reads' hr hs (fun z => by rw [hn] at z; cases z) hg (by omega) (fun _ _ e => e) (fun h' t tk kp => ⟨.str d.shown, H, I.kept kp, ⟨t, rfl⟩, q⟩) hz
end
/-- the law's def keeps sp where it is called with the script, from outside -/
def TopOk (P : Program) (w : World) (K : PySem.W.Frag) (mg : Str → Option Value) (base : Heap) (f : Addr) (sp : Sp) : Prop :=
  ∀ (s : Shared) (H : Hp) (a : Addr) (Q : VK), Env0 P w K mg base callerA [] s H → sp [.ref a] H Q E0 → codeAny (model P w) callerA (.call (.ref f) ⟨[.ref a], []⟩) (CR CX0 [] P w H s Q E0) s
theorem top_ok {P : Program} {w : World} {K : PySem.W.Frag} {mg : Str → Option Value} {base : Heap} {x : Str} {st : Stmt} {f : Addr} {fd : FuncData} {N : List Str} {k : Nat} {sp : Sp} (F : Fun K x x st f fd) (S : FnScope N ["script"] (defScope st)) (hroom : Room (k + 1) callerA)
    (bind : ∀ (s : Shared) (v : Value), BindsTo s fd ⟨[v], []⟩ [("script", v)])
    (body : ∀ (cdv : Value) (s : Shared) (H : Hp) (a : Addr) (Q : VK), Room k (callerA.deeper (envOfC x (defScope st) s.heap.objs.size f cdv)) → sp [.ref a] H Q E0 →
      ∃ t, PSs (cxOf CX0 P w K mg base N x (defScope st) f cdv callerA [] s H E0).nox (defBody st) t ∧ t { nx := fun _ H' => Q .non H', rt := Q } (start N [.ref a]) H) : TopOk P w K mg base f sp := by
  obtain ⟨c1, c2, c3, c4, c5, c6, cd, c8, c9, rfl, look, code⟩ := F.ex
  intro s H a Q env want
  have inS : K.In s.heap := PySem.W.Frag.In.keeps env.mod.kin (fun b o z => (env.bs b o z).1)
  have room := hroom.deeper (envOfC x (defScope st) s.heap.objs.size f cd)
  obtain ⟨t, good, read⟩ := body cd s H a Q room want
  refine codeAny_call_function (by decide) (inS f _ look) rfl S.co S.gen rfl (PySem.W.codeRec_of inS code) (bind s _ _ _ _ _ ?_)
  have names : ∀ y ∈ [(("script" : Str), Value.ref a)], (defScope st).names.lookup y.1 = some .local ∨ ((defScope st).names.lookup y.1 = some .cell ∧ ((cellsFrom (s.heap.objs.size + 1) (defScope st).names []).lookup y.1).isSome = true) := by
    intro y hy
    rw [List.mem_singleton.mp hy]
    exact (S.par "script" List.mem_cons_self).imp id fun z => ⟨z, PySem.W.cellsFrom_some _ _ _ (.inl z)⟩
  refine wpAny_newFunctionEnv_cells S.kind names ?_
  rintro _ rfl s1 made
  have few : s.heap.NoLimit := Heap.NoLimit.keeps env.mod.nolimit (fun b o z => (env.bs b o z).1)
  refine ⟨Heap.NoLimit.keeps few made.toInCall.keep, codeAny_func ?_⟩
  have inv := inv_start (CX := CX0) (vs := [V.ref a]) (us := [Value.ref a]) (E := E0) S hroom.hd env rfl (.cons rfl .nil) made
  refine wpAny_mono (good.nox.run [] s1 _ H _ inv read) ?_ (fun _ _ z => z)
  intro fl s2 out
  cases fl with
  | brk => exact False.elim out.choose_spec.choose_spec.2
  | cont => exact False.elim out.choose_spec.choose_spec.2
  | next =>
    obtain ⟨σ2, H2, inv2, q2⟩ := out
    exact ⟨.non, H2, inv2.os, inv2.bare, inv2.base, inv2.hok, rfl, q2⟩
  | ret u =>
    obtain ⟨v, σ2, H2, inv2, rel, q2⟩ := out
    exact ⟨v, H2, inv2.os, inv2.bare, inv2.base, inv2.hok, rel, q2⟩
/-- what the object of the script is taken for: the locked list, unless it is an object of the module -/
def hpOf (K : PySem.W.Frag) (a : Addr) (o : Obj) (ns : List Int) : Hp := fun b => if b = a ∧ K.lookup a = none then some (.frz o (.lst (ns.map V.int))) else none
theorem hp_none {K : PySem.W.Frag} {a b : Addr} {o : Obj} {ns : List Int} (h : b ≠ a) : hpOf K a o ns b = none := if_neg fun z => h z.1
theorem hp_ne {K : PySem.W.Frag} {a b : Addr} {o : Obj} {ns : List Int} {u : HO} (h : hpOf K a o ns b = some u) : b = a ∧ K.lookup a = none ∧ u = .frz o (.lst (ns.map V.int)) := by
  unfold hpOf at h
  split at h
  · rename_i c
    exact ⟨c.1, c.2, (Option.some.inj h).symm⟩
  · cases h
theorem ints_vals : ∀ {vs : List Value} {ns : List Int}, IntsAre vs ns → Vals (ns.map V.int) vs := fun h => vals_ints h
theorem top_call {P : Program} {w : World} {K : PySem.W.Frag} {mg mb : Str → Option Value} {fa a : Addr} {sp : Sp} {s1 : Shared} {vs : List Value} {ns : List Int} (KX : K.In s1.heap) (hns : s1.heap.Ns mainGlobals mg) (hb : s1.heap.Ns builtinsNs mb) (hbb : ∀ x : Str, x ≠ "__name__" → mb x = bootBuiltins x)
    (hlim : s1.heap.NoLimit) (hg : s1.gens = #[]) (ha : s1.heap.get? a = some { cls := .type "list", data := .seq vs.toArray }) (hi : IntsAre vs ns) (hl : ns.length ≤ sizeLine) (F : ∀ base : Heap, K.In base → base.Ns mainGlobals mg → TopOk P w K mg base fa sp)
    (hsp : ∀ H : Hp, SqL K H a (ns.map V.int) → sp [.ref a] H (fun v _ => v = .bl true) E0) :
    codeAny (model P w) callerA (.call (.ref fa) ⟨[.ref a], []⟩) (fun r s' => r = .ok (.ret (.bool true)) ∧ OldK s1.heap s'.heap ∧ s'.os = s1.os ∧ AllBare s'.gens) s1 := by
  have rel := vals_ints hi
  have size := hi.length
  generalize hob : ({ cls := .type "list", data := .seq vs.toArray } : Obj) = ob at ha
  generalize hH : hpOf K a ob ns = H
  have known : ∀ {b : Addr} {u : HO}, H b = some u → b = a ∧ K.lookup a = none ∧ u = .frz ob (.lst (ns.map V.int)) := fun z => hp_ne (hH ▸ z)
  have free : ∀ {b : Addr}, b ≠ a → H b = none := fun z => hH ▸ hp_none z
  -- what is a dict, or the module's own, is not hidden
  have dictFree : ∀ {b : Addr} {o : Obj} {es : Array DictEntry} {ep : Nat}, s1.heap.get? b = some o → o.data = .dict es ep → H b = none := by
    intro b o es ep e d
    refine free fun z => ?_
    rw [z, ha] at e
    cases e
    rw [← hob] at d
    cases d
  have kFree : ∀ {b : Addr} {o : Obj}, K.lookup b = some o → H b = none := by
    intro b o e
    cases h : H b with
    | none => rfl
    | some u =>
      obtain ⟨z1, z2, _⟩ := known h
      rw [z1, z2] at e
      cases e
  have seen : ∀ {b : Addr} {o : Obj}, s1.heap.get? b = some o → H b = none → (hidT s1.heap H).get? b = some o := fun e n => hidT_get e n
  have kIn : K.In (hidT s1.heap H) := fun b o e => seen (KX b o e) (kFree e)
  have spaces : ∀ {b : Addr} {m : Str → Option Value}, s1.heap.Ns b m → (hidT s1.heap H).Ns b m := by
    rintro b m ⟨o, es, ep, e, d, r⟩
    exact ⟨o, es, ep, seen e (dictFree e d), d, r⟩
  have limit : (hidT s1.heap H).NoLimit := by
    obtain ⟨mc, l1, l2⟩ := hlim
    exact ⟨mc, spaces l1, l2⟩
  have ok : HOk P w H s1.heap := by
    intro b u z
    obtain ⟨rfl, _, rfl⟩ := known z
    subst hob
    exact ⟨ha, by rw [List.length_map]; exact hl, vs, _, rel, ha⟩
  have script : SqL K H a (ns.map V.int) := by
    cases h : K.lookup a with
    | none => exact .inl (.inr ⟨ob, by rw [← hH]; exact if_pos ⟨rfl, h⟩⟩)
    | some o =>
      have e := KX a o h
      rw [ha] at e
      cases e
      subst hob
      exact .inr ⟨_, vs.toArray, _, h, rfl, rfl, rfl, by rw [List.size_toArray, size]; exact hl, by rw [List.toList_toArray]; exact rel⟩
  have env : Env0 P w K mg (hidT s1.heap H) callerA [] s1 H := {
    frames := rfl
    mod := ⟨kIn, spaces hns, ⟨mb, spaces hb, hbb⟩, limit⟩
    bs := fun _ _ z => of_hidT z
    bsz := Nat.le_of_eq (hidT_size _ _)
    funs := trivial
    frf := fun _ z => nomatch z
    hok := ok
    bare := .of_eq hg }
  refine codeAny_mono (F _ kIn (spaces hns) s1 H a _ env (hsp H script)) ?_
  intro r s2 out
  match r, out with
  | .error _, out => exact False.elim out
  | .ok .next, out => exact False.elim out
  | .ok .brk, out => exact False.elim out
  | .ok .cont, out => exact False.elim out
  | .ok (.ret u), ⟨v, H2, os, bare, un, ok2, ru, qv⟩ =>
    have qv' : v = .bl true := qv
    subst qv'
    have ru' : u = Value.bool true := ru
    subst ru'
    refine ⟨rfl, OldK.of_keep ?_, os, bare⟩
    intro b o e
    cases h : H b with
    | none => exact un.keep b o e h (fun z => nomatch z) (fun z => nomatch z)
    | some x =>
      obtain ⟨rfl, _, rfl⟩ := known h
      have later := (ok2 b _ (un.frzs b ob _ h)).1
      rw [ha] at e
      cases e
      exact later
theorem walk_top {l : PySem.W.OpenLaw} {n : Nat} {q : Program} {loose : List Str} {XP : (Str → Option Value) → Heap → Prop} {YP : World → Heap → Prop} {d : DefRec} {K : Params → PySem.W.Frag} {sp : World → Sp} (hn : l.most = some n) (hn2 : n ≤ sizeLine) (hdf : d.params.defaults = [])
    (hY : ∀ (w : World) (h : Heap), YP w h → (K w.params).In h)
    (F : ∀ (w : World) (mg : Str → Option Value) (fa : Addr) (h : Heap), (K w.params).In h → h.Ns mainGlobals mg → mg d.name = some (.ref fa) → ∀ base : Heap, (K w.params).In base → base.Ns mainGlobals mg → TopOk l.prog w (K w.params) mg base fa (sp w))
    (hsp : ∀ (w : World) (H : Hp) (a : Addr) (ns : List Int), ns.length ≤ n → SqL (K w.params) H a (ns.map V.int) → sp w [.ref a] H (fun v _ => v = .bl true) E0) :
    PySem.W.WalkO q loose XP YP l.row.toRowW d [] (fun f vs => PySem.call f vs) := by
  refine Att.attach_call hn hdf ?_
  intro w s0 s1 mg mb fa o pm cd doc a vs ns G Y ho hd hcd hmg hobj hints hlen hg
  exact top_call (hY w _ Y) G.T.g G.T.b G.T.builtins G.T.nolimit hg hobj hints (Nat.le_trans hlen hn2) (F w mg fa _ (hY w _ Y) G.T.g hmg) fun H hS => hsp w H a ns hlen hS
theorem orM {A B : TT} {t u r : TS} {D : Ends} {σ : L2.St} {H : Hp} (h : Ans A σ H false) (hb : tSeq (tIfS B t u) r D σ H) : tSeq (tIfS (tOr A B) t u) r D σ H := h _ (iteF hb)
theorem neM (s : Str) : (!decide (V.str s = V.str s)) = false := by
  rw [decide_eq_true rfl]
  rfl
theorem nbM (b : Bool) : (!decide (V.bl b = V.bl b)) = false := by
  rw [decide_eq_true rfl]
  rfl
theorem nvM {d : PyData} (e : PyData.eqv d d = true) : (!PyData.eqv d d) = false := by
  rw [e]
  rfl
theorem ansF {t : TT} {σ : L2.St} {H : Hp} {Q : Bool → Hp → Prop} (h : Ans t σ H false) (q : Q false H) : t σ H Q := h _ q
theorem orA {A B : TT} {σ : L2.St} {H : Hp} {Q : Bool → Hp → Prop} (h : Ans A σ H false) (q : B σ H Q) : tOr A B σ H Q := h _ (iteF q)
/-! ### situations -/
/-- xs[i] read before it is stored anew -/
def rGetL (K : PySem.W.Frag) : R2 := fun x y H Q => ∃ p xs i v, x = .ref p ∧ y = .int i ∧ 0 ≤ i ∧ SqL K H p xs ∧ atI xs i = some v ∧ Q v H
theorem get_list {X : Cx} : PGet X (rGetL X.K) := by
  intro pins s σ H x y v u Q I rx ry h
  obtain ⟨p, xs, i, z, rfl, rfl, h0, hq, he, q⟩ := h
  cases rx
  obtain ⟨t, rfl⟩ := ry
  obtain ⟨its, r, pl, hz⟩ := I.list hq
  obtain ⟨j, h1, h2, h3, h4, h5⟩ := atI_get he
  obtain ⟨w, ew, rw'⟩ := r.get h2
  have hl := r.length
  have hn := line63
  have hj : i.toNat = j := by
    rw [seqIndex_of h0 h5] at h1
    exact Option.some.inj h1
  exact wpAny_getItem_list pl.isList h0 (by omega) (by rw [hj]; simpa using ew) ⟨z, H, I, rw', q⟩
theorem getL {X : Cx} (K : PySem.W.Frag) (h : X.K = K := by rfl) : PGet X (rGetL K) := h ▸ get_list
/-- a situation: a pair of a number and a list of numbers -/
def Sit (K : PySem.W.Frag) (H : Hp) (v : V) (s : Int) (ns : List Int) : Prop := ∃ a ca, v = .ref a ∧ SqT K H a [.int s, .ref ca] ∧ SqL K H ca (ns.map V.int)
theorem Same.sit {K : PySem.W.Frag} {H H' : Hp} (e : Same H H') {v : V} {s : Int} {ns : List Int} (h : Sit K H v s ns) : Sit K H' v s ns := by
  obtain ⟨a, ca, e1, h1, h2⟩ := h
  exact ⟨a, ca, e1, Same.seqT e h1, e.seq h2⟩
def sitD (s : Int) (ns : List Int) : PyData := .tuple [.int s, .list (ns.map PyData.int)]
theorem sit_dp {K : PySem.W.Frag} {H : Hp} {v : V} {s : Int} {ns : List Int} (h : Sit K H v s ns) : Dp K H v (sitD s ns) := by
  obtain ⟨a, ca, rfl, h1, h2⟩ := h
  exact .tup h1 (.cons (.int _) (.cons (.lst h2 (dpa_ints ns)) .nil))
theorem dpa_intsE {K : PySem.W.Frag} {H : Hp} : ∀ {ns : List Int} {vs : List V}, DpAll K H vs (ns.map PyData.int) → vs = ns.map V.int
  | [], _, h => dpa_nil h
  | n :: ns, vs, h => by
    obtain ⟨v, r, rfl, h1, h2⟩ := dpa_cons h
    rw [dp_int h1, dpa_intsE h2]
    rfl
theorem dp_sit {K : PySem.W.Frag} {H : Hp} {v : V} {s : Int} {ns : List Int} (h : Dp K H v (sitD s ns)) : Sit K H v s ns := by
  obtain ⟨a, xs, rfl, h1, h2⟩ := dp_tup h
  obtain ⟨v1, r1, rfl, d1, h2⟩ := dpa_cons h2
  obtain ⟨v2, r2, rfl, d2, h2⟩ := dpa_cons h2
  obtain rfl := dpa_nil h2
  obtain ⟨ca, cxs, rfl, h3, h4⟩ := dp_lst d2
  rw [dp_int d1] at h1
  rw [dpa_intsE h4] at h3
  exact ⟨a, ca, rfl, h1, h3⟩
/-- at least as many everywhere -/
def geAll : List Int → List Int → Bool
  | m :: ms, n :: ns => decide (n ≤ m) && geAll ms ns
  | _, _ => true
theorem geAll_refl : ∀ ms : List Int, geAll ms ms = true
  | [] => rfl
  | m :: ms => by
    show (decide (m ≤ m) && geAll ms ms) = true
    rw [decide_eq_true (Int.le_refl m), geAll_refl ms]
    rfl
theorem geAll_take {ms ns : List Int} {m n : Int} : ∀ {i : Nat}, ms[i]? = some m → ns[i]? = some n → geAll (ms.take (i + 1)) (ns.take (i + 1)) = (geAll (ms.take i) (ns.take i) && decide (n ≤ m)) := by
  induction ms generalizing ns with
  | nil => intro i h; simp at h
  | cons a ms ih =>
    intro i h1 h2
    cases ns with
    | nil => simp at h2
    | cons b ns =>
      cases i with
      | zero =>
        cases h1
        cases h2
        show (decide (n ≤ m) && geAll (ms.take 0) (ns.take 0)) = (true && _)
        rw [List.take_zero, List.take_zero]
        show (decide (n ≤ m) && true) = _
        rw [Bool.and_true, Bool.true_and]
      | succ i =>
        show (decide (b ≤ a) && geAll (ms.take (i + 1)) (ns.take (i + 1))) = ((decide (b ≤ a) && geAll (ms.take i) (ns.take i)) && decide (n ≤ m))
        rw [ih h1 h2, Bool.and_assoc]
theorem geAll_false {ms ns : List Int} : ∀ {i : Nat}, geAll (ms.take i) (ns.take i) = false → geAll ms ns = false := by
  induction ms generalizing ns with
  | nil => intro i h; rw [List.take_nil] at h; cases h
  | cons a ms ih =>
    intro i h
    cases ns with
    | nil => rw [List.take_nil] at h; cases i <;> cases h
    | cons b ns =>
      cases i with
      | zero => cases h
      | succ i =>
        have h' : (decide (b ≤ a) && geAll (ms.take i) (ns.take i)) = false := h
        show (decide (b ≤ a) && geAll ms ns) = false
        cases hb : decide (b ≤ a) with
        | false => rfl
        | true =>
          rw [hb, Bool.true_and] at h'
          rw [ih h']
          rfl
/-- the first covers the second -/
def covB (s : Int) (ms : List Int) (t : Int) (ns : List Int) : Bool := decide (s = t) && geAll ms ns
theorem covB_refl (s : Int) (ms : List Int) : covB s ms s ms = true := by
  unfold covB
  rw [decide_eq_true (show s = s from rfl), geAll_refl]
  rfl
theorem ixN_nat {n j : Nat} (hj : j < n) : ixN n (j : Int) = some j := by
  unfold ixN
  rw [if_pos (by omega), if_pos (by omega)]
  simp
theorem gd {ds : List Int} {i : Nat} (h : i < ds.length) : ds[i]? = some (ds.getD i 0) := by
  rw [List.getD_eq_getElem?_getD, List.getElem?_eq_getElem h]
  rfl
theorem gd_mem {ds : List Int} {i : Nat} (h : i < ds.length) : ds.getD i 0 ∈ ds := List.mem_of_getElem? (gd h)
theorem at_gd {ds : List Int} {i : Int} {j : Nat} (e : i = (j : Int)) (h : j < ds.length) : atI (ds.map V.int) i = some (.int (ds.getD j 0)) := by
  rw [e]
  exact atI_nat (get_map (gd h))
theorem mod_in (z : Int) {m : Int} (h : 0 < m) : 0 ≤ z % m ∧ z % m < m := ⟨Int.emod_nonneg _ (by omega), Int.emod_lt_of_pos _ h⟩
theorem cut_ints {ds : List Int} {a n : Nat} {i j : Int} (h : a + n ≤ ds.length) (hi : i = (a : Int)) (hj : j = ((a + n : Nat) : Int)) : cutV (ds.map V.int) (some i) (some j) = ((ds.drop a).take n).map V.int := by
  subst hi
  subst hj
  unfold cutV
  rw [HT.sIx_nat, HT.sIx_nat, List.length_map, Nat.min_eq_left (show a ≤ ds.length by omega), Nat.min_eq_left h, List.map_take, List.map_drop, Nat.add_sub_cancel_left]
theorem rep_one (n : Nat) (x : V) : (List.replicate n [x]).flatten = List.replicate n x := by
  induction n with
  | zero => rfl
  | succ n ih =>
    show x :: (List.replicate n [x]).flatten = x :: List.replicate n x
    rw [ih]
theorem rep_map (n : Nat) (x : Int) : List.replicate n (V.int x) = (List.replicate n x).map V.int := by rw [List.map_replicate]
theorem int_eqE (a b : Int) : decide (V.int a = V.int b) = decide (a = b) := by
  by_cases h : a = b
  · rw [decide_eq_true h, h, decide_eq_true rfl]
  · rw [decide_eq_false h, decide_eq_false fun z => h (by cases z; rfl)]
/-- the heap without B -/
def Ho (B : Addr) (H : Hp) : Hp := fun x => if x = B then none else H x
theorem ho_out {B : Addr} {H : Hp} : Same (Ho B H) H := fun b x e => by
  unfold Ho at e
  split at e
  · cases e
  · exact e
theorem ho_same {B : Addr} {H H' : Hp} (s : Same H H') : Same (Ho B H) (Ho B H') := fun b x e => by
  unfold Ho at e ⊢
  split at e
  · cases e
  · rename_i h; rw [if_neg h]; exact s _ _ e
theorem ho_mut {B : Addr} {H : Hp} {u : HO} : Same (Ho B H) (Ho B (upd H B u)) := fun b x e => by
  unfold Ho at e ⊢
  split at e
  · cases e
  · rename_i h; rw [if_neg h, upd_ne h]; exact e
theorem ho_first {B : Addr} {H : Hp} {u : HO} (nB : H B = none) : Same H (Ho B (upd H B u)) := fun b x e => by
  have h : b ≠ B := ne_of_none e nB
  show (if b = B then none else upd H B u b) = _
  rw [if_neg h, upd_ne h]
  exact e
theorem dp_newT {K : PySem.W.Frag} {H : Hp} {p : Addr} {xs : List V} {ds : List PyData} (np : H p = none) (h : DpAll K H xs ds) : Dp K (upd H p (.tup xs)) (.ref p) (.tuple ds) := .tup (st upd_same) (dpAll_mono (same_new np) h)
theorem dp_newL {K : PySem.W.Frag} {H : Hp} {p : Addr} {xs : List V} {ds : List PyData} (np : H p = none) (h : DpAll K H xs ds) : Dp K (upd H p (.lst xs)) (.ref p) (.list ds) := .lst (sq upd_same) (dpAll_mono (same_new np) h)
theorem dpo_newT {K : PySem.W.Frag} {H : Hp} {B p : Addr} {o : HO} {xs : List V} {ds : List PyData} (eB : H B = some o) (np : H p = none) (h : DpAll K (Ho B H) xs ds) : Dp K (Ho B (upd H p (.tup xs))) (.ref p) (.tuple ds) := by
  have hne : p ≠ B := fun e => by rw [e, eB] at np; cases np
  refine .tup (st ?_) (dpAll_mono (ho_same (same_new np)) h)
  show (if p = B then none else upd H p (.tup xs) p) = _
  rw [if_neg hne]
  exact upd_same
theorem dpo_newL {K : PySem.W.Frag} {H : Hp} {B p : Addr} {o : HO} {xs : List V} {ds : List PyData} (eB : H B = some o) (np : H p = none) (h : DpAll K (Ho B H) xs ds) : Dp K (Ho B (upd H p (.lst xs))) (.ref p) (.list ds) := by
  have hne : p ≠ B := fun e => by rw [e, eB] at np; cases np
  refine .lst (sq ?_) (dpAll_mono (ho_same (same_new np)) h)
  show (if p = B then none else upd H p (.lst xs) p) = _
  rw [if_neg hne]
  exact upd_same
section
variable {P : Program} {w : World} {K : PySem.W.Frag} {mg : Str → Option Value} {base : Heap}
abbrev s_law_cell : Stmt := topS 18
theorem sc_law_cell : FnScope ["script", "k"] ["script", "k"] (defScope s_law_cell) := ⟨rfl, rfl, rfl, by decide +kernel, rfl, by decide +kernel, by decide +kernel⟩
-- _law_cell slots: script=0 k=1 globals: len int
def spCellA (K : PySem.W.Frag) : Sp := fun vs H Q _ => ∃ (a : Addr) (ns : List Int) (k : Nat), vs = [.ref a, .int (k : Int)] ∧ SqL K H a (ns.map V.int) ∧ ∀ z : Int, Q (.int z) H
theorem fd_law_cell {f : Addr} {fd : FuncData} (F : Fun K "_law_cell" "_law_cell" s_law_cell f fd) (m : mg "_law_cell" = some (.ref f)) (B : Bt mg) : Fd P w K mg base "_law_cell" ["script", "k"] 1 (spCellA K) := by
  refine ⟨f, fd, F.ok sc_law_cell (fun vs H Q E h => ?_) (fun cdv A outer s H vs Q E hr h => ?_), m, F.kp, F.binds (ps := ["script", "k"]) fun _ _ _ _ _ _ us hl => match us, hl with | [_, _], _ => rfl⟩
  · obtain ⟨a, ns, k, rfl, _⟩ := h
    rfl
  obtain ⟨a, ns, k, rfl, hs, q⟩ := h
  refine ⟨_, (pss_cons (ps_if (pt_cmpR op_lt (pv 1) (pe_callB (cLen K) (by rfl) B.len PySem.boot_len (pa_cons (pv 0) pa_nil)) (nomark _))
 (pss_one (ps_ret (pe_callTy call_int1 (by rfl) B.int (by decide +kernel) (pa_cons (pe_ix (ixQ K) (pv 0) (pv 1) (fun _ _ => rfl)) pa_nil))))
 pss_nil)
 (pss_one (ps_ret pe_int))), ?_⟩
  refine ⟨_, rfl, _, rfl, a, _, rfl, .inl hs, _, _, rfl, rfl, _, rfl, ite2 (fun e => ?_) (fun e => ?_)⟩
  · have e1 := of_decide_eq_true e
    rw [List.length_map] at e1
    have e2 : k < ns.length := by omega
    refine ⟨_, rfl, _, rfl, .inl ⟨a, _, _, _, rfl, rfl, hs, atI_nat (get_map (List.getElem?_eq_getElem e2)), .inl ⟨_, rfl, q _⟩⟩⟩
  · exact q _
end
section
variable {P : Program} {w : World} {K : PySem.W.Frag} {mg : Str → Option Value} {base : Heap}
abbrev s_law_draws : Stmt := topS 19
theorem sc_law_draws : FnScope ["cell", "limits", "found", "rest", "state", "free", "limit"] ["cell", "limits"] (defScope s_law_draws) := ⟨rfl, rfl, rfl, by decide +kernel, rfl, by decide +kernel, by decide +kernel⟩
-- _law_draws slots: cell=0 limits=1 found=2 rest=3 state=4 free=5 limit=6 globals: abs int
def spDraws (K : PySem.W.Frag) : Sp := fun vs H Q _ => ∃ (a : Addr) (c : Int) (ms : List Int), vs = [.int c, .ref a] ∧ SqL K H a (ms.map V.int) ∧ (∀ m ∈ ms, 0 < m ∧ m < 1073741824) ∧ ms.length ≤ 1000 ∧
  ∀ H' p ds, Same H H' → H p = none → H' p = some (.lst (ds.map V.int)) → DOk ds ms → Q (.ref p) H'
/-- the loop's word -/
def DrI (H : Hp) (a o : Addr) (c : Int) (fr : Bool) (ms : List Int) (i : Nat) (σ' : L2.St) (H' : Hp) : Prop := ∃ (r s0 : Int) (y : Option V) (ds : List Int), σ' = [some (.int c), some (.ref a), some (.ref o), some (.int r), some (.int s0), some (.bl fr), y] ∧
    0 ≤ s0 ∧ s0 < 2147483647 ∧ Same H H' ∧ H' o = some (.lst (ds.map V.int)) ∧ DOk ds (ms.take i)
theorem fd_law_draws {f : Addr} {fd : FuncData} (F : Fun K "_law_draws" "_law_draws" s_law_draws f fd) (m : mg "_law_draws" = some (.ref f)) (B : Bt mg) : Fd P w K mg base "_law_draws" ["cell", "limits"] 1 (spDraws K) := by
  refine ⟨f, fd, F.ok sc_law_draws (fun vs H Q E h => ?_) (fun cdv A outer s H vs Q E hr h => ?_), m, F.kp, F.binds (ps := ["cell", "limits"]) fun _ _ _ _ _ _ us hl => match us, hl with | [_, _], _ => rfl⟩
  · obtain ⟨a, c, ms, rfl, _⟩ := h
    rfl
  obtain ⟨a, c, ms, rfl, hs, hm, hl, q⟩ := h
  refine ⟨_, (pss_cons (ps_set (i := 2) sc_law_draws.nd rfl (Or.inl rfl) (pe_lst pa_nil))
 (pss_cons (ps_set (i := 3) sc_law_draws.nd rfl (Or.inl rfl) (pe_callB call_abs (by rfl) B.abs (by decide +kernel) (pa_cons (pe_callTy call_int1 (by rfl) B.int (by decide +kernel) (pa_cons (pv 0) pa_nil)) pa_nil)))
 (pss_cons (ps_set (i := 4) sc_law_draws.nd rfl (Or.inl rfl) (pe_op op_mod (pe_callTy call_int1 (by rfl) B.int (by decide +kernel) (pa_cons (pv 3) pa_nil)) pe_int))
 (C8.pss_cut (ps_set (i := 5) sc_law_draws.nd rfl (Or.inl rfl) (pe_or (pe_cmpR op_lt (pv 0) pe_int (nomark _)) (pe_one (pe_cmpR op_ge (pv 0) (pe_op op_pow pe_int pe_int) (nomark _)))))
 (pss_cons (ps_for PassesOwn.never rfl (piL K (pv 1)) (pg_name (i := 6) sc_law_draws.nd rfl (Or.inl rfl))
 (pss_one (ps_if (PW.pt (pw_and (pt_val (pv 5)) (pw_and1 (pt_cmpR op_gt (pv 3) pe_int (nomark _)))))
 (pss_cons (ps_expr (peBm K PySem.F.plainAttrs_list PySem.F.slot_list_append PySem.F.type_list_append mt_append (pv 2) (pa_cons (pe_op op_mod (pe_callTy call_int1 (by rfl) B.int (by decide +kernel) (pa_cons (pv 3) pa_nil)) (pv 6)) pa_nil)))
 (pss_one (ps_set (i := 3) sc_law_draws.nd rfl (Or.inl rfl) (pe_op op_fdiv (pv 3) (pv 6)))))
 (pss_cons (ps_set (i := 4) sc_law_draws.nd rfl (Or.inl rfl) (pe_op op_mod (pe_callTy call_int1 (by rfl) B.int (by decide +kernel) (pa_cons (pe_op op_add (pe_op op_mul (pv 4) pe_int) pe_int) pa_nil)) pe_int))
 (pss_cons (ps_set (i := 4) sc_law_draws.nd rfl (Or.inl rfl) (pe_op op_mod (pe_callTy call_int1 (by rfl) B.int (by decide +kernel) (pa_cons (pe_op op_add (pe_op op_mul (pv 4) pe_int) pe_int) pa_nil)) pe_int))
 (pss_one (ps_expr (peBm K PySem.F.plainAttrs_list PySem.F.slot_list_append PySem.F.type_list_append mt_append (pv 2) (pa_cons (pe_op op_mod (pe_callTy call_int1 (by rfl) B.int (by decide +kernel) (pa_cons (pe_op op_fdiv (pv 4) pe_int) pa_nil)) (pv 6)) pa_nil)))))))))
 (pss_one (ps_ret (pv 2)))))))), ?_⟩
  refine ⟨sz (by decide), fun o no => ?_⟩
  refine ⟨_, rfl, .inl ⟨_, rfl, _, rfl, ?_⟩⟩
  refine ⟨_, rfl, .inl ⟨_, rfl, _, _, rfl, rfl, (by show (0 : Int) < 2147483647; decide), ?_⟩⟩
  generalize e1 : (if c < 0 then -c else c) = r0
  refine ⟨fun σ' H' => ∃ (fr : Bool), σ' = [some (.int c), some (.ref a), some (.ref o), some (.int r0), some (.int (r0 % 2147483647)), some (.bl fr), none] ∧ H' = upd H o (.lst []), ?_, fun σ' H' => ?_⟩
  · refine ⟨_, rfl, _, _, rfl, rfl, _, rfl, ite2 (fun e => ⟨true, rfl, rfl⟩) (fun e => ?_)⟩
    refine ⟨_, rfl, _, _, rfl, rfl, ⟨by decide, by decide, by decide⟩, _, _, rfl, rfl, ⟨_, rfl, rfl⟩⟩
  rintro ⟨fr, rfl, rfl⟩
  refine ⟨_, rfl, a, rfl, ⟨_, (same_new no).seq hs⟩, for_list (xs := ms.map V.int) (DrI H a o c fr ms) ?_ ?_ ?_ ?_⟩
  · exact ⟨r0, _, none, [], rfl, Int.emod_nonneg _ (by decide), Int.emod_lt_of_pos _ (by decide), same_new no, upd_same, trivial⟩
  · rintro i σ' H' _ ⟨r, s0, y, ds, rfl, _, _, sm, _⟩
    exact sm.seq hs
  · rintro i x σ' H' hx ⟨r, s0, y, ds, rfl, h0, h1, sm, eo, hd⟩
    obtain ⟨lim, hlim, rfl⟩ := get_map_inv hx
    have hb := hm lim (List.mem_of_getElem? hlim)
    have hi2 : i < ms.length := (List.getElem?_eq_some_iff.mp hlim).1
    have hdl := hd.len
    rw [List.length_take] at hdl
    have dl : (ds.map V.int).length < sizeLine := szl (by rw [List.length_map]; omega)
    have fin : ∀ (r1 s1 d : Int), 0 ≤ s1 → s1 < 2147483647 → 0 ≤ d → d < lim → DrI H a o c fr ms (i + 1) [some (V.int c), some (.ref a), some (.ref o), some (.int r1), some (.int s1), some (.bl fr), some (.int lim)] (upd H' o (.lst (ds.map V.int ++ [.int d]))) := fun r1 s1 d a1 a2 a3 a4 =>
      ⟨r1, s1, _, ds ++ [d], rfl, a1, a2, Same.mut sm no, by rw [upd_same, List.map_append]; rfl, by rw [take_snoc hlim]; exact hd.snoc a3 a4⟩
    have no1 : ∀ z : Int, 0 ≤ z % lim ∧ z % lim < lim := fun z => ⟨Int.emod_nonneg _ (by omega), Int.emod_lt_of_pos _ (by omega)⟩
    have els : ∀ (r1 s1 : Int), True := fun _ _ => trivial
    refine ⟨_, rfl, fr, rfl, ?_⟩
    cases fr with
    | true =>
      refine iteT ⟨_, rfl, _, _, rfl, rfl, _, rfl, ite2 (fun e => ?_) (fun e => ?_)⟩
      · refine ⟨_, rfl, .inl ⟨rfl, _, sq eo⟩, _, rfl, .inl ⟨_, rfl, _, rfl, _, _, rfl, rfl, hb.1, o, _, _, rfl, rfl, eo, dl, ?_⟩⟩
        refine ⟨_, rfl, _, rfl, _, _, rfl, rfl, ⟨hb.1, hb.2⟩, ?_⟩
        exact fin _ _ _ h0 h1 (no1 r).1 (no1 r).2
      · refine ⟨_, rfl, _, _, rfl, rfl, .inl ⟨by omega, by omega⟩, _, _, rfl, rfl, .inl ⟨_, rfl, _, _, rfl, rfl, (by show (0 : Int) < 2147483647; decide), ?_⟩⟩
        have b1 := Int.emod_nonneg (s0 * 48271 + 11) (show (2147483647 : Int) ≠ 0 by decide)
        have b2 := Int.emod_lt_of_pos (s0 * 48271 + 11) (show (0 : Int) < 2147483647 by decide)
        refine ⟨_, rfl, _, _, rfl, rfl, .inl ⟨by omega, by omega⟩, _, _, rfl, rfl, .inl ⟨_, rfl, _, _, rfl, rfl, (by show (0 : Int) < 2147483647; decide), ?_⟩⟩
        refine ⟨_, rfl, .inl ⟨rfl, _, sq eo⟩, _, rfl, _, _, rfl, rfl, ⟨by decide, by decide⟩, .inl ⟨_, rfl, _, rfl, _, _, rfl, rfl, hb.1, o, _, _, rfl, rfl, eo, dl, ?_⟩⟩
        exact fin _ _ _ (Int.emod_nonneg _ (by decide)) (Int.emod_lt_of_pos _ (by decide)) (no1 _).1 (no1 _).2
    | false =>
      refine iteF ?_
      refine ⟨_, rfl, _, _, rfl, rfl, .inl ⟨by omega, by omega⟩, _, _, rfl, rfl, .inl ⟨_, rfl, _, _, rfl, rfl, (by show (0 : Int) < 2147483647; decide), ?_⟩⟩
      have b1 := Int.emod_nonneg (s0 * 48271 + 11) (show (2147483647 : Int) ≠ 0 by decide)
      have b2 := Int.emod_lt_of_pos (s0 * 48271 + 11) (show (0 : Int) < 2147483647 by decide)
      refine ⟨_, rfl, _, _, rfl, rfl, .inl ⟨by omega, by omega⟩, _, _, rfl, rfl, .inl ⟨_, rfl, _, _, rfl, rfl, (by show (0 : Int) < 2147483647; decide), ?_⟩⟩
      refine ⟨_, rfl, .inl ⟨rfl, _, sq eo⟩, _, rfl, _, _, rfl, rfl, ⟨by decide, by decide⟩, .inl ⟨_, rfl, _, rfl, _, _, rfl, rfl, hb.1, o, _, _, rfl, rfl, eo, dl, ?_⟩⟩
      exact fin _ _ _ (Int.emod_nonneg _ (by decide)) (Int.emod_lt_of_pos _ (by decide)) (no1 _).1 (no1 _).2
  · rintro σ' H' ⟨r, s0, y, ds, rfl, h0, h1, sm, eo, hd⟩
    rw [List.length_map, List.take_length] at hd
    exact ⟨_, rfl, q H' o ds sm no eo hd⟩
end
/-! ### machines -/
abbrev nV (n : Nat) : V := .int (n : Int)
abbrev nD (n : Nat) : PyData := .int (n : Int)
structure MvT where
  st : Nat
  pl : Nat
  ns : Nat
  np : Nat
  sd : Option Nat
  sh : List (Nat × Nat)
def sdV : Option Nat → V
  | none => .non
  | some d => nV d
def sdD : Option Nat → PyData
  | none => .none
  | some d => nD d
def shD (p : Nat × Nat) : PyData := .tuple [nD p.1, nD p.2]
def MvT.data (m : MvT) : PyData := .tuple [nD m.st, nD m.pl, nD m.ns, nD m.np, sdD m.sd, .list (m.sh.map shD)]
structure MT where
  states : Nat
  places : Nat
  sst : Nat
  cnts : List Int
  crew : Nat
  moves : List MvT
def MT.data (M : MT) : PyData := .tuple [nD M.states, nD M.places, sitD M.sst M.cnts, nD M.crew, .list (M.moves.map MvT.data)]
structure ShOk (sh : List (Nat × Nat)) (P : Nat) : Prop where
  asc : (sh.map (·.1)).Pairwise (· < ·)
  fst : ∀ p ∈ sh, p.1 < P
  snd : ∀ p ∈ sh, p.2 < P
  sep : ∀ p ∈ sh, ∀ q ∈ sh, p.2 ≠ q.1
structure MvT.Fit (m : MvT) (S P : Nat) : Prop where
  st : m.st < S
  pl : m.pl < P
  ns : m.ns < S
  np : m.np < P
  sd : ∀ d, m.sd = some d → d < P
  sh : ShOk m.sh P
structure MT.Ok (M : MT) : Prop where
  s1 : 1 ≤ M.states
  s2 : M.states ≤ 4
  p1 : 1 ≤ M.places
  p2 : M.places ≤ 6
  ss : M.sst < M.states
  cl : M.cnts.length = M.places
  cb : ∀ c ∈ M.cnts, 0 ≤ c ∧ c < 3
  cr : M.crew < M.places
  ml : M.moves.length ≤ 12
  fit : ∀ m ∈ M.moves, m.Fit M.states M.places
  nd : M.moves.Nodup
def shiftAll (sh : List (Nat × Nat)) (cs : List Int) : List Int := sh.foldl (fun cs p => (cs.set p.2 (cs.getD p.2 0 + cs.getD p.1 0)).set p.1 0) cs
def bump (cs : List Int) (k : Nat) (z : Int) : List Int := cs.set k (cs.getD k 0 + z)
def MvT.mid (m : MvT) (cs : List Int) : List Int := shiftAll m.sh (bump cs m.pl (-1))
def MvT.aft (m : MvT) (cs : List Int) : List Int := match m.sd with
  | none => bump (m.mid cs) m.np 1
  | some d => bump (bump (m.mid cs) m.np 1) d 1
def MvT.can (m : MvT) (s : Int) (cs : List Int) : Bool := decide ((m.st : Int) = s) && decide (0 < cs.getD m.pl 0)
def canAt (ms : List MvT) (s : Int) (cs : List Int) (k : Nat) : Bool := match ms[k]? with
  | some m => m.can s cs
  | none => false
def canL (ms : List MvT) (s : Int) (cs : List Int) : List Nat := (List.range ms.length).filter (canAt ms s cs)
theorem shiftAll_len : ∀ (sh : List (Nat × Nat)) (cs : List Int), (shiftAll sh cs).length = cs.length
  | [], _ => rfl
  | p :: r, cs => by
    show (shiftAll r _).length = _
    rw [shiftAll_len r, List.length_set, List.length_set]
theorem bump_len (cs : List Int) (k : Nat) (z : Int) : (bump cs k z).length = cs.length := List.length_set
theorem mid_len (m : MvT) (cs : List Int) : (m.mid cs).length = cs.length := by
  unfold MvT.mid
  rw [shiftAll_len, bump_len]
theorem aft_len (m : MvT) (cs : List Int) : (m.aft cs).length = cs.length := by
  unfold MvT.aft
  split
  · rw [bump_len, mid_len]
  · rw [bump_len, bump_len, mid_len]
theorem shiftAll_snoc (sh : List (Nat × Nat)) (p : Nat × Nat) (cs : List Int) : shiftAll (sh ++ [p]) cs = ((shiftAll sh cs).set p.2 ((shiftAll sh cs).getD p.2 0 + (shiftAll sh cs).getD p.1 0)).set p.1 0 := by
  unfold shiftAll
  rw [List.foldl_append]
  rfl
theorem filt_yes {f : Nat → Bool} {i : Nat} (h : f i = true) : (List.range (i + 1)).filter f = (List.range i).filter f ++ [i] := by
  rw [List.range_succ, List.filter_append, List.filter_cons, if_pos h]
  rfl
theorem filt_no {f : Nat → Bool} {i : Nat} (h : f i = false) : (List.range (i + 1)).filter f = (List.range i).filter f := by
  rw [List.range_succ, List.filter_append, List.filter_cons, if_neg (by rw [h]; decide)]
  show _ ++ [] = _
  rw [List.append_nil]
theorem filt_len (n : Nat) (f : Nat → Bool) : ((List.range n).filter f).length ≤ n := by
  have h := List.length_filter_le f (List.range n)
  rw [List.length_range] at h
  exact h
theorem mem_canL {ms : List MvT} {s : Int} {cs : List Int} {k : Nat} : k ∈ canL ms s cs ↔ ∃ m, ms[k]? = some m ∧ m.can s cs = true := by
  unfold canL
  rw [List.mem_filter, List.mem_range]
  unfold canAt
  constructor
  · rintro ⟨h1, h2⟩
    rw [List.getElem?_eq_getElem h1] at h2
    exact ⟨_, List.getElem?_eq_getElem h1, h2⟩
  · rintro ⟨m, h1, h2⟩
    rw [h1]
    exact ⟨(List.getElem?_eq_some_iff.mp h1).1, h2⟩
section
variable {K : PySem.W.Frag} {H : Hp}
theorem dp_sd {v : V} {o : Option Nat} (h : Dp K H v (sdD o)) : v = sdV o := by
  cases o with
  | none => cases h; rfl
  | some d => exact dp_int h
theorem sd_dp (o : Option Nat) : Dp K H (sdV o) (sdD o) := by
  cases o with
  | none => exact .non
  | some d => exact .int _
theorem dp_sh {v : V} {p : Nat × Nat} (h : Dp K H v (shD p)) : ∃ a, v = .ref a ∧ SqT K H a [nV p.1, nV p.2] := by
  obtain ⟨a, xs, rfl, hs, h⟩ := dp_tup h
  obtain ⟨v1, r1, rfl, d1, h⟩ := dpa_cons h
  obtain ⟨v2, r2, rfl, d2, h⟩ := dpa_cons h
  rw [dp_int d1, dp_int d2, dpa_nil h] at hs
  exact ⟨a, rfl, hs⟩
theorem dp_mv {v : V} {m : MvT} (h : Dp K H v m.data) : ∃ a sa xs, v = .ref a ∧ SqT K H a [nV m.st, nV m.pl, nV m.ns, nV m.np, sdV m.sd, .ref sa] ∧ SqL K H sa xs ∧ DpAll K H xs (m.sh.map shD) := by
  obtain ⟨a, xs, rfl, hs, h⟩ := dp_tup h
  obtain ⟨v1, r1, rfl, d1, h⟩ := dpa_cons h
  obtain ⟨v2, r2, rfl, d2, h⟩ := dpa_cons h
  obtain ⟨v3, r3, rfl, d3, h⟩ := dpa_cons h
  obtain ⟨v4, r4, rfl, d4, h⟩ := dpa_cons h
  obtain ⟨v5, r5, rfl, d5, h⟩ := dpa_cons h
  obtain ⟨v6, r6, rfl, d6, h⟩ := dpa_cons h
  obtain rfl := dpa_nil h
  obtain ⟨sa, ys, rfl, h1, h2⟩ := dp_lst d6
  rw [dp_int d1, dp_int d2, dp_int d3, dp_int d4, dp_sd d5] at hs
  exact ⟨a, sa, ys, rfl, hs, h1, h2⟩
theorem dp_mt {v : V} {M : MT} (h : Dp K H v M.data) : ∃ a sv ma xs, v = .ref a ∧ SqT K H a [nV M.states, nV M.places, sv, nV M.crew, .ref ma] ∧ Sit K H sv M.sst M.cnts ∧ SqL K H ma xs ∧ DpAll K H xs (M.moves.map MvT.data) := by
  obtain ⟨a, xs, rfl, hs, h⟩ := dp_tup h
  obtain ⟨v1, r1, rfl, d1, h⟩ := dpa_cons h
  obtain ⟨v2, r2, rfl, d2, h⟩ := dpa_cons h
  obtain ⟨v3, r3, rfl, d3, h⟩ := dpa_cons h
  obtain ⟨v4, r4, rfl, d4, h⟩ := dpa_cons h
  obtain ⟨v5, r5, rfl, d5, h⟩ := dpa_cons h
  obtain rfl := dpa_nil h
  obtain ⟨ma, ys, rfl, h1, h2⟩ := dp_lst d5
  rw [dp_int d1, dp_int d2, dp_int d4] at hs
  exact ⟨a, v3, ma, ys, rfl, hs, dp_sit d3, h1, h2⟩
theorem dpa_map_at {α : Type} {f : α → PyData} {xs : List V} {as : List α} (h : DpAll K H xs (as.map f)) {i : Nat} {x : V} (hx : xs[i]? = some x) : ∃ a, as[i]? = some a ∧ Dp K H x (f a) := by
  obtain ⟨d, hd, dx⟩ := dpa_at h hx
  obtain ⟨a, ha, rfl⟩ : ∃ a, as[i]? = some a ∧ d = f a := by
    rw [List.getElem?_map] at hd
    cases e : as[i]? with
    | none => rw [e] at hd; cases hd
    | some a => rw [e] at hd; exact ⟨a, rfl, (Option.some.inj hd).symm⟩
  exact ⟨a, ha, dx⟩
theorem dpa_map_at' {α : Type} {f : α → PyData} {xs : List V} {as : List α} (h : DpAll K H xs (as.map f)) {i : Nat} {a : α} (ha : as[i]? = some a) : ∃ x, xs[i]? = some x ∧ Dp K H x (f a) := by
  obtain ⟨v, hv, dv⟩ := dpa_at' h (i := i) (d := f a) (by rw [List.getElem?_map, ha]; rfl)
  exact ⟨v, hv, dv⟩
theorem dpa_map_len {α : Type} {f : α → PyData} {xs : List V} {as : List α} (h : DpAll K H xs (as.map f)) : xs.length = as.length := by
  have := dpa_len h
  rw [List.length_map] at this
  exact this
end
theorem at_n {xs : List V} {i : Int} {j : Nat} {v : V} (e : i = (j : Int)) (h : xs[j]? = some v) : atI xs i = some v := by
  rw [e]
  exact atI_nat h
theorem hu65 {A : Around} {k : Nat} (hr : Room k A) : A.units + 65 < cLine := by
  have := hr.un
  omega
theorem opNotInD {X : Cx} (K : PySem.W.Frag) (hu : X.A.units + 65 < cLine) (h : X.K = K := by rfl) : OpR X (compareOp .NotIn) (rNotInD K) := h ▸ op_notInD hu
theorem opInD {X : Cx} (K : PySem.W.Frag) (hu : X.A.units + 65 < cLine) (h : X.K = K := by rfl) : OpR X (compareOp .In) (rInD K) := h ▸ op_inD hu
section
variable {P : Program} {w : World} {K : PySem.W.Frag} {mg : Str → Option Value} {base : Heap}
theorem nw_ho {o : Addr} {u : HO} {H H' : Hp} (e : H o = some u) : Same (Nw H H') (Ho o H') := fun b x h => by
  obtain ⟨h1, h2⟩ := nw_some h
  have hne : b ≠ o := fun z => by rw [z, e] at h1; cases h1
  unfold Ho
  rw [if_neg hne]
  exact h2
/-! ### such data can be compared and shown -/
theorem nD_nc {n m : Nat} (h : n < 100) : NcD (nD n) 1 m := NcD.int (by omega)
theorem ints_nc {m : Nat} : ∀ {ns : List Int}, (∀ n ∈ ns, n.natAbs < 10 ^ 7) → NcL (ns.map PyData.int) ns.length m
  | [], _ => .nil
  | n :: ns, h => by
    have := NcL.cons (NcD.int (m := m) (h n List.mem_cons_self)) (ints_nc (m := m) fun x hx => h x (List.mem_cons_of_mem _ hx))
    exact this.mono (by rw [List.length_cons]; omega) (Nat.le_refl _)
theorem sit_nc {s : Int} {ns : List Int} (hs : s.natAbs < 10 ^ 7) (h : ∀ n ∈ ns, n.natAbs < 10 ^ 7) : NcD (sitD s ns) (ns.length + 3) 2 :=
  (NcL.tup (m := 1) (.cons (.int hs) (.cons (NcL.lst (ints_nc (m := 0) h)) (.nil (c := 0))))).mono (by omega) (Nat.le_refl _)
theorem shs_nc : ∀ {sh : List (Nat × Nat)}, (∀ p ∈ sh, p.1 < 100 ∧ p.2 < 100) → NcL (sh.map shD) (3 * sh.length) 1
  | [], _ => .nil
  | p :: r, h => by
    obtain ⟨h1, h2⟩ := h p List.mem_cons_self
    have a : NcD (shD p) 3 1 := NcL.tup (m := 0) (.cons (nD_nc h1) (.cons (nD_nc h2) (.nil (c := 0))))
    exact (NcL.cons a (shs_nc fun x hx => h x (List.mem_cons_of_mem _ hx))).mono (by rw [List.length_cons]; omega) (Nat.le_refl _)
theorem mv_nc {m : MvT} {S P : Nat} (h : m.Fit S P) (hS : S ≤ 100) (hP : P ≤ 100) : NcD m.data (3 * m.sh.length + 7) 3 := by
  have a := shs_nc (sh := m.sh) fun p hp => ⟨by have := h.sh.fst p hp; omega, by have := h.sh.snd p hp; omega⟩
  have b : NcD (sdD m.sd) 1 2 := by
    have := h.sd
    cases e : m.sd with
    | none => exact ⟨rfl, Nat.le_refl _, Nat.zero_le _⟩
    | some d => exact nD_nc (by have := this d e; omega)
  have h1 := h.st
  have h2 := h.pl
  have h3 := h.ns
  have h4 := h.np
  exact (NcL.tup (m := 2) (.cons (nD_nc (by omega)) (.cons (nD_nc (by omega)) (.cons (nD_nc (by omega)) (.cons (nD_nc (by omega)) (.cons b (.cons (NcL.lst a) (.nil (c := 0))))))))).mono (by omega) (Nat.le_refl _)
theorem mvs_nc {S P : Nat} (hS : S ≤ 100) (hP : P ≤ 100) : ∀ {ms : List MvT}, (∀ m ∈ ms, m.Fit S P ∧ m.sh.length ≤ 6) → NcL (ms.map MvT.data) (25 * ms.length) 3
  | [], _ => .nil
  | m :: r, h => by
    obtain ⟨h1, h2⟩ := h m List.mem_cons_self
    exact (NcL.cons (mv_nc h1 hS hP) (mvs_nc hS hP fun x hx => h x (List.mem_cons_of_mem _ hx))).mono (by rw [List.length_cons]; omega) (Nat.le_refl _)
theorem mt_nc {M : MT} (h : M.Ok) (h6 : ∀ m ∈ M.moves, m.sh.length ≤ 6) : NcD M.data 330 5 := by
  have a := mvs_nc (S := M.states) (P := M.places) (by have := h.s2; omega) (by have := h.p2; omega) (ms := M.moves) fun m hm => ⟨h.fit m hm, h6 m hm⟩
  have b := sit_nc (s := (M.sst : Int)) (ns := M.cnts) (by have := h.ss; have := h.s2; omega) fun n hn => by have := h.cb n hn; omega
  have h1 := h.ml
  have h2 := h.cl
  have h3 := h.p2
  have h4 := h.s2
  have h5 := h.cr
  exact (NcL.tup (m := 4) (.cons (nD_nc (by omega)) (.cons (nD_nc (by omega)) (.cons (b.mono (Nat.le_refl _) (by decide)) (.cons (nD_nc (by omega)) (.cons (NcL.lst a) (.nil (c := 0)))))))).mono (by omega) (Nat.le_refl _)
theorem eqv_any {ds : List PyData} {d : PyData} (h : (ds.any fun z => PyData.eqv z d) = false) (e : PyData.eqv d d = true) : d ∉ ds := fun hm => by
  have : (ds.any fun z => PyData.eqv z d) = true := List.any_eq_true.mpr ⟨d, hm, e⟩
  rw [this] at h
  cases h
end
section
variable {P : Program} {w : World} {K : PySem.W.Frag} {mg : Str → Option Value} {base : Heap}
abbrev s_law_pairs : Stmt := topS 20
theorem sc_law_pairs : FnScope ["cell", "places", "draws", "first", "second", "place"] ["cell", "places"] (defScope s_law_pairs) := ⟨rfl, rfl, rfl, by decide +kernel, rfl, by decide +kernel, by decide +kernel⟩
-- _law_pairs slots: cell=0 places=1(cell) draws=2(cell) first=3 second=4(cell) place=5(None) globals: _law_draws range len
def pairLims (P : Nat) : List Int := ([3] ++ List.replicate P 2) ++ List.replicate P (P : Int)
def pairFst (ds : List Int) (P : Nat) : List Nat := (List.range P).filter fun j => decide (ds.getD (1 + j) 0 = 1)
def pairSnd (ds : List Int) (P : Nat) : List Nat := (List.range P).filter fun j => decide (ds.getD (1 + j) 0 = 0)
theorem range_asc (P : Nat) (f : Nat → Bool) : ((List.range P).filter f).Pairwise (· < ·) := List.Pairwise.sublist List.filter_sublist List.pairwise_lt_range
def spPairs (K : PySem.W.Frag) : Sp := fun vs H Q _ => ∃ (c : Int) (n : Nat), vs = [.int c, nV n] ∧ 1 ≤ n ∧ n ≤ 6 ∧
  ∀ H' v sh, Same H H' → Dp K (Nw H H') v (.list (sh.map shD)) → ShOk sh n → sh.length ≤ 6 → Q v H'
theorem fd_law_pairs {f : Addr} {fd : FuncData} (F : Fun K "_law_pairs" "_law_pairs" s_law_pairs f fd) (m : mg "_law_pairs" = some (.ref f)) (B : Bt mg) (D_law_draws : Fd P w K mg base "_law_draws" ["cell", "limits"] 1 (spDraws K)) : Fd P w K mg base "_law_pairs" ["cell", "places"] 2 (spPairs K) := by
  refine ⟨f, fd, F.ok sc_law_pairs (fun vs H Q E h => ?_) (fun cdv A outer s H vs Q E hr h => ?_), m, F.kp, F.binds (ps := ["cell", "places"]) fun _ _ _ _ _ _ us hl => match us, hl with | [_, _], _ => rfl⟩
  · obtain ⟨c, n, rfl, _⟩ := h
    rfl
  obtain ⟨c, n, rfl, h1, h6, q⟩ := h
  refine ⟨_, (pss_cons (ps_set (i := 2) sc_law_pairs.nd rfl (Or.inr rfl) (pe_fn D_law_draws (hr.mono (by decide)) rfl (pa_cons (pv 0) (pa_cons (pe_op (opCat K) (pe_op (opCat K) (pe_lst (pa_cons pe_int pa_nil)) (pe_op op_rep (pe_lst (pa_cons pe_int pa_nil)) (pv 1))) (pe_op op_rep (pe_lst (pa_cons (pv 1) pa_nil)) (pv 1))) pa_nil))))
 (pss_cons (ps_setLc (i := 3) (own := [("place", 5)]) (g := gName 5) (by rfl) sc_law_pairs.nd rfl rfl (sw_true rfl rfl rfl (by decide +kernel)) (pi_range1 rfl B.range (pa_cons (pv 1) pa_nil)) (blkOk_by (own := [("place", 5)]) (N := ["cell", "places", "draws", "first", "second", "place"]) (sc := (defScope s_law_pairs)) (by decide +kernel)) (fun _ _ _ _ _ => (pg_name (i := 5) sc_law_pairs.nd rfl (Or.inl rfl))) (fun _ _ _ _ _ => (pts_one (pt_cmpR op_eq (pe_ix (ixL K) (pv 2) (pe_op op_add pe_int (pv 5)) (fun _ _ => rfl)) pe_int (nomark _)))) (fun _ _ _ _ _ => (pv 5)))
 (pss_cons (ps_set (i := 4) sc_law_pairs.nd rfl (Or.inr rfl) (pe_lc (own := [("place", 5)]) (g := gName 5) (by rfl) sc_law_pairs.nd (pi_range1 rfl B.range (pa_cons (pv 1) pa_nil)) (blkOk_by (own := [("place", 5)]) (N := ["cell", "places", "draws", "first", "second", "place"]) (sc := (defScope s_law_pairs)) (by decide +kernel)) (fun _ _ _ _ _ => (pg_name (i := 5) sc_law_pairs.nd rfl (Or.inl rfl))) (fun _ _ _ _ _ => (pts_one (pt_cmpR op_eq (pe_ix (ixL K) (pv 2) (pe_op op_add pe_int (pv 5)) (fun _ _ => rfl)) pe_int (nomark _)))) (fun _ _ _ _ _ => (pv 5))))
 (pss_cons (ps_if (PW.pt (pw_or (pt_cmpR op_gt (pe_ix (ixL K) (pv 2) pe_int (fun _ _ => rfl)) pe_int (nomark _)) (pw_or (pt_cmpR op_eq (pe_callB (cLen K) (by rfl) B.len PySem.boot_len (pa_cons (pv 3) pa_nil)) pe_int (nomark _)) (pw_or1 (pt_cmpR op_eq (pe_callB (cLen K) (by rfl) B.len PySem.boot_len (pa_cons (pv 4) pa_nil)) pe_int (nomark _))))))
 (pss_one (ps_ret (pe_lst pa_nil)))
 pss_nil)
 (pss_one (ps_ret (pe_lc (own := [("place", 5)]) (g := gName 5) (by rfl) sc_law_pairs.nd (piL K (pv 3)) (blkOk_by (own := [("place", 5)]) (N := ["cell", "places", "draws", "first", "second", "place"]) (sc := (defScope s_law_pairs)) (by decide +kernel)) (fun _ _ _ _ _ => (pg_name (i := 5) sc_law_pairs.nd rfl (Or.inl rfl))) (fun _ _ _ _ _ => pts_nil) (fun _ _ _ _ _ => (pe_tup (pa_cons (pv 5) (pa_cons (pe_ix (ixL K) (pv 4) (pe_op op_mod (pe_callTy call_int1 (by rfl) B.int (by decide +kernel) (pa_cons (pe_ix (ixL K) (pv 2) (pe_op op_add (pe_op op_add pe_int (pv 1)) (pv 5)) (fun _ _ => rfl)) pa_nil)) (pe_callB (cLen K) (by rfl) B.len PySem.boot_len (pa_cons (pv 4) pa_nil))) (fun _ _ => rfl)) pa_nil))))))))))), ?_⟩
  -- the limits
  refine ⟨_, rfl, szc 1, fun p1 n1 => ⟨szc 1, fun p2 n2 => ⟨_, rfl, p2, _, _, rfl, rfl, upd_same, by omega, by omega, sz (by show 1 * n ≤ _; omega), fun p3 n3 => ?_⟩⟩⟩
  rw [rep_one, show ((n : Int)).toNat = n from rfl]
  have e1 : (upd (upd (upd H p1 (.lst [.int 3])) p2 (.lst [.int 2])) p3 (.lst (List.replicate n (V.int 2)))) p1 = some (.lst [.int 3]) := (same_new n3) _ _ ((same_new n2) _ _ upd_same)
  have s3 : Same H (upd (upd (upd H p1 (.lst [.int 3])) p2 (.lst [.int 2])) p3 (.lst (List.replicate n (V.int 2)))) := ((same_new n1).trans (same_new n2)).trans (same_new n3)
  refine ⟨_, _, _, _, rfl, rfl, sq e1, sq upd_same, sz (by rw [List.length_replicate]; show 1 + n ≤ _; omega), fun p4 n4 => ?_⟩
  have s4 := s3.trans (same_new (o := HO.lst ([V.int 3] ++ List.replicate n (V.int 2))) n4)
  have e4 : (upd (upd (upd (upd H p1 (.lst [.int 3])) p2 (.lst [.int 2])) p3 (.lst (List.replicate n (V.int 2)))) p4 (.lst ([V.int 3] ++ List.replicate n (V.int 2)))) p4 = _ := upd_same
  generalize upd (upd (upd (upd H p1 (.lst [.int 3])) p2 (.lst [.int 2])) p3 (.lst (List.replicate n (V.int 2)))) p4 (.lst ([V.int 3] ++ List.replicate n (V.int 2))) = H4 at s4 e4 ⊢
  refine ⟨_, rfl, szc 1, fun p5 n5 => ⟨_, rfl, p5, _, _, rfl, rfl, upd_same, by omega, by omega, sz (by show 1 * n ≤ _; omega), fun p6 n6 => ?_⟩⟩
  rw [rep_one, show ((n : Int)).toNat = n from rfl]
  have s6 := (same_new (o := HO.lst [nV n]) n5).trans (same_new (o := HO.lst (List.replicate n (nV n))) n6)
  refine ⟨_, _, _, _, rfl, rfl, sq (s6 _ _ e4), sq upd_same, sz (by rw [List.length_append, List.length_replicate, List.length_replicate]; show 1 + n + n ≤ _; omega), fun p7 n7 => ?_⟩
  have lims : ([V.int 3] ++ List.replicate n (V.int 2)) ++ List.replicate n (nV n) = (pairLims n).map V.int := by
    unfold pairLims
    rw [List.map_append, List.map_append, rep_map, rep_map]
    rfl
  rw [lims]
  have ll : (pairLims n).length = 1 + n + n := by unfold pairLims; rw [List.length_append, List.length_append, List.length_replicate, List.length_replicate]; rfl
  have lm : ∀ x ∈ pairLims n, 0 < x ∧ x < 1073741824 := by
    intro x hx
    unfold pairLims at hx
    rcases List.mem_append.mp hx with hx | hx
    · rcases List.mem_append.mp hx with hx | hx
      · rw [List.mem_singleton.mp hx]; decide
      · rw [List.eq_of_mem_replicate hx]; decide
    · rw [List.eq_of_mem_replicate hx]; omega
  refine ⟨p7, c, pairLims n, rfl, sq upd_same, lm, by omega, fun H1 pd ds s1 npd ed dk => ?_⟩
  have sm : Same H H1 := (s4.trans s6).trans ((same_new n7).trans s1)
  have dl := dk.len
  rw [ll] at dl
  have dlast : ∀ j, j < n → 0 ≤ ds.getD (1 + n + j) 0 := fun j hj => by
    have hj2 : 1 + n + j < (pairLims n).length := by omega
    obtain ⟨d, hd, h0, _⟩ := dk.at (List.getElem?_eq_getElem hj2)
    rw [gd (by omega)] at hd
    cases hd
    exact h0
  clear s6 n7 e4 n6 n5 s4 e1 s3 n4 n3 n2 n1 s1 npd
  -- first
  dsimp only [gName]
  have hz : ∀ j : Nat, (1 : Int) + (0 + (j : Int)) = ((1 + j : Nat) : Int) := fun j => by omega
  refine ⟨_, rfl, _, rfl, by omega, by omega, fun D nD => lc_range (lo := 0) (n := n) (fun i H' => Same H1 H' ∧ H' D = some (.lst (((List.range i).filter fun j => decide (ds.getD (1 + j) 0 = 1)).map nV))) ⟨same_new nD, upd_same⟩ ?_ ?_⟩
  · rintro i H' hi ⟨sx, eD⟩
    refine ⟨rfl, _, rfl, _, rfl, _, _, rfl, rfl, _, _, _, _, rfl, rfl, sx.seq (sq ed), at_gd (hz i) (by omega), rfl, _, rfl, ite2 (fun e => ?_) (fun e => ?_)⟩
    · have e2 : decide (ds.getD (1 + i) 0 = 1) = true := decide_eq_true (V.int.inj (of_decide_eq_true e))
      refine ⟨_, rfl, _, eD, ?_, Same.mut sx nD, ?_⟩
      · rw [List.length_map]
        have := filt_len i fun j => decide (ds.getD (1 + j) 0 = 1)
        exact szl (by omega)
      · rw [upd_same, filt_yes (f := fun j => decide (ds.getD (1 + j) 0 = 1)) e2, List.map_append, Int.zero_add]
        rfl
    · have e2 : decide (ds.getD (1 + i) 0 = 1) = false := decide_eq_false fun z => e (decide_eq_true (by rw [z]))
      refine ⟨sx, ?_⟩
      rw [eD, filt_no (f := fun j => decide (ds.getD (1 + j) 0 = 1)) e2]
  rintro H2 ⟨s2, e2⟩
  change H2 D = some (.lst ((pairFst ds n).map nV)) at e2
  -- second
  dsimp only [gName]
  refine ⟨_, rfl, _, rfl, by omega, by omega, fun D2 nD2 => lc_range (lo := 0) (n := n) (fun i H' => Same H2 H' ∧ H' D2 = some (.lst (((List.range i).filter fun j => decide (ds.getD (1 + j) 0 = 0)).map nV))) ⟨same_new nD2, upd_same⟩ ?_ ?_⟩
  · rintro i H' hi ⟨sx, eD⟩
    refine ⟨rfl, _, rfl, _, rfl, _, _, rfl, rfl, _, _, _, _, rfl, rfl, (s2.trans sx).seq (sq ed), at_gd (hz i) (by omega), rfl, _, rfl, ite2 (fun e => ?_) (fun e => ?_)⟩
    · have e2 : decide (ds.getD (1 + i) 0 = 0) = true := decide_eq_true (V.int.inj (of_decide_eq_true e))
      refine ⟨_, rfl, _, eD, ?_, Same.mut sx nD2, ?_⟩
      · rw [List.length_map]
        have := filt_len i fun j => decide (ds.getD (1 + j) 0 = 0)
        exact szl (by omega)
      · rw [upd_same, filt_yes (f := fun j => decide (ds.getD (1 + j) 0 = 0)) e2, List.map_append, Int.zero_add]
        rfl
    · have e2 : decide (ds.getD (1 + i) 0 = 0) = false := decide_eq_false fun z => e (decide_eq_true (by rw [z]))
      refine ⟨sx, ?_⟩
      rw [eD, filt_no (f := fun j => decide (ds.getD (1 + j) 0 = 0)) e2]
  rintro H3 ⟨s3, e3⟩
  change H3 D2 = some (.lst ((pairSnd ds n).map nV)) at e3
  have e2' := s3 _ _ e2
  have s13 := s2.trans s3
  have smx := sm.trans s13
  have fl : (pairFst ds n).length ≤ n := filt_len _ _
  dsimp only [gName]
  -- the test
  have sed := s13.seq (sq (K := K) ed)
  have t1 : Ans (tTest (tOp (rI0 fun i j => .bl (decide (i > j))) (tOp (rIxL K) (tVar 2) (tC (V.int 0))) (tC (V.int 0)))) [some (.int c), some (nV n), some (.ref pd), some (.ref D), some (.ref D2), none] H3 (decide (ds.getD 0 0 > 0)) := fun Q q => ⟨_, rfl, _, _, _, _, rfl, rfl, sed, at_gd (j := 0) rfl (by omega), _, _, rfl, rfl, _, rfl, q⟩
  have t2 : ∀ (k : Nat) (A : Addr) (xs : List Nat), [some (V.int c), some (nV n), some (.ref pd), some (.ref D), some (.ref D2), none][k]? = some (some (.ref A)) → H3 A = some (.lst (xs.map nV)) → Ans (tTest (tOp rEq (tCB (rLenQ K) (tCons (tVar k) tNil)) (tC (V.int 0)))) [some (.int c), some (nV n), some (.ref pd), some (.ref D), some (.ref D2), none] H3 (decide (xs.length = 0)) := fun k A xs hk hA Q q => by
    refine ⟨_, hk, A, _, rfl, .inl (sq hA), rfl, _, rfl, ?_⟩
    rw [show decide (V.int ((xs.map nV).length : Nat) = V.int 0) = decide (xs.length = 0) from decide_eq_decide.mpr ⟨fun h => by have := V.int.inj h; rw [List.length_map] at this; omega, fun h => by rw [List.length_map, h]; rfl⟩]
    exact q
  refine ifR (ansOr t1 (ansOr (t2 3 D _ rfl e2') (t2 4 D2 _ rfl e3))) (fun hb => ?_) (fun hb => ?_)
  · refine ⟨sz (by decide), fun p np => ?_⟩
    refine q _ _ [] (smx.trans (same_new np)) (.lst (sq ?_) .nil) ⟨.nil, fun p hp => (by cases hp), fun p hp => (by cases hp), fun p hp => (by cases hp)⟩ (by decide)
    rw [nw_at (smx.free np)]
    exact upd_same
  · have sn : (pairSnd ds n).length ≠ 0 := fun h => by rw [h, decide_eq_true rfl, Bool.or_true, Bool.or_true] at hb; cases hb
    have sn1 : (pairSnd ds n).length ≤ n := filt_len _ _
    refine ⟨_, rfl, D, rfl, ⟨_, sq e2'⟩, fun A nA => lc_list (xs := (pairFst ds n).map nV) (fun i H' => Same H3 H' ∧ ∃ zs, H' A = some (.lst zs) ∧ zs.length = i ∧ DpAll K (Ho A H') zs ((((pairFst ds n).take i).map fun j => (j, (pairSnd ds n).getD (ds.getD (1 + n + j) 0 % ((pairSnd ds n).length : Int)).toNat 0)).map shD) ∧ DpAll K (Nw H3 (Ho A H')) zs ((((pairFst ds n).take i).map fun j => (j, (pairSnd ds n).getD (ds.getD (1 + n + j) 0 % ((pairSnd ds n).length : Int)).toNat 0)).map shD)) ⟨same_new nA, [], upd_same, rfl, .nil, .nil⟩ (fun _ H' _ p => p.1.seq (sq e2')) ?_ ?_⟩
    · rintro i x H5 hx ⟨s5, zs, eA, zl, dz, dzn⟩
      obtain ⟨j, hj, rfl⟩ := get_map_inv hx
      have hi : i < (pairFst ds n).length := (List.getElem?_eq_some_iff.mp hj).1
      have hjn : j < n := by
        have := List.mem_of_getElem? hj
        unfold pairFst at this
        exact List.mem_range.mp (List.mem_filter.mp this).1
      have hz2 : (1 : Int) + (n : Int) + (j : Int) = ((1 + n + j : Nat) : Int) := by omega
      have slp : (0 : Int) < ((pairSnd ds n).length : Int) := by omega
      have md := mod_in (ds.getD (1 + n + j) 0) slp
      obtain ⟨k, ek⟩ : ∃ k : Nat, ds.getD (1 + n + j) 0 % ((pairSnd ds n).length : Int) = (k : Int) := ⟨_, (Int.toNat_of_nonneg md.1).symm⟩
      have hk : k < (pairSnd ds n).length := by omega
      have gk : ((pairSnd ds n).map nV)[k]? = some (nV ((pairSnd ds n).getD k 0)) := by
        rw [List.getElem?_map, List.getD_eq_getElem?_getD, List.getElem?_eq_getElem hk]
        rfl
      refine ⟨rfl, _, rfl, _, rfl, _, rfl, _, rfl, _, _, rfl, rfl, _, rfl, _, _, rfl, rfl, _, _, _, _, rfl, rfl, s5.seq sed, at_gd hz2 (by omega), .inl ⟨_, rfl, ?_⟩⟩
      refine ⟨_, rfl, D2, _, rfl, .inl (s5.seq (sq e3)), _, _, rfl, rfl, ?_, _, _, _, _, rfl, rfl, s5.seq (sq e3), at_n (j := k) ?_ gk, szc 2, fun t nt => ?_⟩
      · show (0 : Int) < (((pairSnd ds n).map nV).length : Nat)
        rw [List.length_map]; exact slp
      · show ds.getD (1 + n + j) 0 % (((pairSnd ds n).map nV).length : Nat) = (k : Int)
        rw [List.length_map]; exact ek
      have s6 := same_new (o := HO.tup [nV j, nV ((pairSnd ds n).getD k 0)]) nt
      have tA : t ≠ A := fun e => by rw [e, eA] at nt; cases nt
      have nt3 : H3 t = none := s5.free nt
      have ho2 : ∀ u, Ho A (upd (upd H5 t (.tup [nV j, nV ((pairSnd ds n).getD k 0)])) A u) t = some (.tup [nV j, nV ((pairSnd ds n).getD k 0)]) := fun u => by
        unfold Ho
        rw [if_neg tA, upd_ne tA]
        exact upd_same
      have dn : ∀ u, Dp K (Ho A (upd (upd H5 t (.tup [nV j, nV ((pairSnd ds n).getD k 0)])) A u)) (.ref t) (shD (j, (pairSnd ds n).getD k 0)) := fun u => .tup (st (ho2 u)) (.cons (.int _) (.cons (.int _) .nil))
      have dn2 : ∀ u, Dp K (Nw H3 (Ho A (upd (upd H5 t (.tup [nV j, nV ((pairSnd ds n).getD k 0)])) A u))) (.ref t) (shD (j, (pairSnd ds n).getD k 0)) := fun u => .tup (st (by rw [nw_at nt3]; exact ho2 u)) (.cons (.int _) (.cons (.int _) .nil))
      have es : ((((pairFst ds n).take (i + 1)).map fun j => (j, (pairSnd ds n).getD (ds.getD (1 + n + j) 0 % ((pairSnd ds n).length : Int)).toNat 0)).map shD) = ((((pairFst ds n).take i).map fun j => (j, (pairSnd ds n).getD (ds.getD (1 + n + j) 0 % ((pairSnd ds n).length : Int)).toNat 0)).map shD) ++ [shD (j, (pairSnd ds n).getD k 0)] := by
        rw [take_snoc hj, List.map_append, List.map_append]
        show _ ++ [shD (j, (pairSnd ds n).getD (ds.getD (1 + n + j) 0 % ((pairSnd ds n).length : Int)).toNat 0)] = _
        rw [ek]
        rfl
      refine ⟨zs, s6 _ _ eA, szl (by omega), Same.mut (s5.trans s6) nA, zs ++ [.ref t], upd_same, by rw [List.length_append, zl]; rfl, ?_, ?_⟩
      · rw [es]
        exact dpa_app (dpAll_mono ((ho_same s6).trans ho_mut) dz) (.cons (dn _) .nil)
      · rw [es]
        exact dpa_app (dpAll_mono (nw_mono (Same.refl _) ((ho_same s6).trans ho_mut)) dzn) (.cons (dn2 _) .nil)
    · rintro H5 ⟨s5, zs, eA, zl, dz, dzn⟩
      rw [List.length_map, List.take_length] at dz dzn
      refine q _ _ _ (smx.trans s5) (.lst (sq ?_) (dpAll_mono ?_ dzn)) ?_ ?_
      · rw [nw_at (smx.free nA)]
        exact eA
      · exact (nw_mono smx ho_out)
      · have fs : ((pairFst ds n).map fun j => (j, (pairSnd ds n).getD (ds.getD (1 + n + j) 0 % ((pairSnd ds n).length : Int)).toNat 0)).map (·.1) = pairFst ds n := by
          rw [List.map_map]
          exact List.map_id' _
        have sm : ∀ j, (pairSnd ds n).getD (ds.getD (1 + n + j) 0 % ((pairSnd ds n).length : Int)).toNat 0 ∈ pairSnd ds n := fun j => by
          have md := mod_in (ds.getD (1 + n + j) 0) (show (0 : Int) < ((pairSnd ds n).length : Int) by omega)
          have hk : (ds.getD (1 + n + j) 0 % ((pairSnd ds n).length : Int)).toNat < (pairSnd ds n).length := by omega
          rw [List.getD_eq_getElem?_getD, List.getElem?_eq_getElem hk]
          exact List.getElem_mem hk
        refine ⟨by rw [fs]; exact range_asc n _, fun p hp => ?_, fun p hp => ?_, fun p hp r hr e => ?_⟩
        · obtain ⟨j, hj, rfl⟩ := List.mem_map.mp hp
          exact List.mem_range.mp (List.mem_filter.mp hj).1
        · obtain ⟨j, hj, rfl⟩ := List.mem_map.mp hp
          exact List.mem_range.mp (List.mem_filter.mp (sm j)).1
        · obtain ⟨j, hj, rfl⟩ := List.mem_map.mp hp
          obtain ⟨j2, hj2, rfl⟩ := List.mem_map.mp hr
          have a1 := of_decide_eq_true (List.mem_filter.mp (sm j)).2
          have a2 := of_decide_eq_true (List.mem_filter.mp hj2).2
          have e' : (pairSnd ds n).getD (ds.getD (1 + n + j) 0 % ((pairSnd ds n).length : Int)).toNat 0 = j2 := e
          rw [e'] at a1
          rw [a1] at a2
          exact absurd a2 (by decide)
      · rw [List.length_map]; omega
end
section
variable {P : Program} {w : World} {K : PySem.W.Frag} {mg : Str → Option Value} {base : Heap}
abbrev s_law_machine : Stmt := topS 21
theorem sc_law_machine : FnScope ["cell", "cells", "shifting", "draws", "states", "places", "moves", "k", "part", "started", "shifts", "move"] ["cell", "cells", "shifting"] (defScope s_law_machine) := ⟨rfl, rfl, rfl, by decide +kernel, rfl, by decide +kernel, by decide +kernel⟩
-- _law_machine slots: cell=0 cells=1 shifting=2 draws=3 states=4 places=5 moves=6 k=7 part=8 started=9 shifts=10 move=11 globals: _law_draws range min len int _law_pairs
def spMach (K : PySem.W.Frag) : Sp := fun vs H Q _ => ∃ (c : Int) (a : Addr) (ns : List Int) (b : Bool), vs = [.int c, .ref a, .bl b] ∧ SqL K H a (ns.map V.int) ∧ ns.length ≤ 100 ∧
  ∀ H' v (M : MT), Same H H' → Dp K H' v M.data → M.Ok → (∀ m ∈ M.moves, m.sh.length ≤ 6) → (b = false → ∀ m ∈ M.moves, m.sh = []) → Q v H'
theorem cut_cnts {x0 x1 x2 x3 x4 x5 x6 x7 x8 x9 : V} {P : Nat} (h1 : 1 ≤ P) (h6 : P ≤ 6) : cutV [x0, x1, x2, x3, x4, x5, x6, x7, x8, x9] (some 4) (some (4 + (P : Int))) = [x4, x5, x6, x7, x8, x9].take P := by
  have : P = 1 ∨ P = 2 ∨ P = 3 ∨ P = 4 ∨ P = 5 ∨ P = 6 := by omega
  rcases this with rfl | rfl | rfl | rfl | rfl | rfl <;> rfl
theorem fd_law_machine {f : Addr} {fd : FuncData} (F : Fun K "_law_machine" "_law_machine" s_law_machine f fd) (m : mg "_law_machine" = some (.ref f)) (B : Bt mg) (D_law_draws : Fd P w K mg base "_law_draws" ["cell", "limits"] 1 (spDraws K)) (D_law_pairs : Fd P w K mg base "_law_pairs" ["cell", "places"] 2 (spPairs K)) : Fd P w K mg base "_law_machine" ["cell", "cells", "shifting"] 3 (spMach K) := by
  refine ⟨f, fd, F.ok sc_law_machine (fun vs H Q E h => ?_) (fun cdv A outer s H vs Q E hr h => ?_), m, F.kp, F.binds (ps := ["cell", "cells", "shifting"]) fun _ _ _ _ _ _ us hl => match us, hl with | [_, _, _], _ => rfl⟩
  · obtain ⟨c, a, ns, b, rfl, _⟩ := h
    rfl
  obtain ⟨c, a, ns, b, rfl, hs, hn, q⟩ := h
  refine ⟨_, (pss_cons (ps_set (i := 3) sc_law_machine.nd rfl (Or.inl rfl) (pe_fn D_law_draws (hr.mono (by decide)) rfl (pa_cons (pv 0) (pa_cons (pe_op (opCat K) (pe_lst (pa_cons pe_int (pa_cons pe_int (pa_cons pe_int (pa_cons pe_int pa_nil))))) (pe_op op_rep (pe_lst (pa_cons pe_int pa_nil)) pe_int)) pa_nil))))
 (pss_cons (ps_set (i := 4) sc_law_machine.nd rfl (Or.inl rfl) (pe_op op_add pe_int (pe_ix (ixL K) (pv 3) pe_int (fun _ _ => rfl))))
 (pss_cons (ps_set (i := 5) sc_law_machine.nd rfl (Or.inl rfl) (pe_op op_add pe_int (pe_ix (ixL K) (pv 3) pe_int (fun _ _ => rfl))))
 (pss_cons (ps_set (i := 6) sc_law_machine.nd rfl (Or.inl rfl) (pe_lst pa_nil))
 (pss_cons (ps_for PassesOwn.never rfl (pi_range1 rfl B.range (pa_cons (pe_callB (call_min2 rfl) (by rfl) B.min (by decide +kernel) (pa_cons pe_int (pa_cons (pe_callB (cLen K) (by rfl) B.len PySem.boot_len (pa_cons (pv 1) pa_nil)) pa_nil))) pa_nil)) (pg_name (i := 7) sc_law_machine.nd rfl (Or.inl rfl))
 (pss_cons (ps_set (i := 8) sc_law_machine.nd rfl (Or.inl rfl) (pe_fn D_law_draws (hr.mono (by decide)) rfl (pa_cons (pe_ix (ixL K) (pv 1) (pv 7) (fun _ _ => rfl)) (pa_cons (pe_lst (pa_cons pe_int (pa_cons pe_int (pa_cons pe_int (pa_cons pe_int (pa_cons pe_int (pa_cons (pe_op op_pow pe_int pe_int) pa_nil))))))) pa_nil))))
 (pss_cons (ps_set (i := 9) sc_law_machine.nd rfl (Or.inl rfl) pe_non)
 (C8.pss_cut (ps_if (pt_cmpR op_lt (pe_ix (ixL K) (pv 8) pe_int (fun _ _ => rfl)) pe_int (nomark _))
 (pss_one (ps_set (i := 9) sc_law_machine.nd rfl (Or.inl rfl) (pe_op op_mod (pe_callTy call_int1 (by rfl) B.int (by decide +kernel) (pa_cons (pe_op op_add (pe_ix (ixL K) (pv 8) pe_int (fun _ _ => rfl)) (pe_ix (ixL K) (pv 8) pe_int (fun _ _ => rfl))) pa_nil)) (pv 5))))
 pss_nil)
 (pss_cons (ps_set (i := 10) sc_law_machine.nd rfl (Or.inl rfl) (pe_lst pa_nil))
 (C8.pss_cut (ps_if (pt_val (pv 2))
 (pss_one (ps_set (i := 10) sc_law_machine.nd rfl (Or.inl rfl) (pe_fn D_law_pairs (hr.mono (by decide)) rfl (pa_cons (pe_ix (ixL K) (pv 8) pe_int (fun _ _ => rfl)) (pa_cons (pv 5) pa_nil)))))
 pss_nil)
 (pss_cons (ps_set (i := 11) sc_law_machine.nd rfl (Or.inl rfl) (pe_tup (pa_cons (pe_op op_mod (pe_callTy call_int1 (by rfl) B.int (by decide +kernel) (pa_cons (pe_ix (ixL K) (pv 8) pe_int (fun _ _ => rfl)) pa_nil)) (pv 4)) (pa_cons (pe_op op_mod (pe_callTy call_int1 (by rfl) B.int (by decide +kernel) (pa_cons (pe_ix (ixL K) (pv 8) pe_int (fun _ _ => rfl)) pa_nil)) (pv 5)) (pa_cons (pe_op op_mod (pe_callTy call_int1 (by rfl) B.int (by decide +kernel) (pa_cons (pe_ix (ixL K) (pv 8) pe_int (fun _ _ => rfl)) pa_nil)) (pv 4)) (pa_cons (pe_op op_mod (pe_callTy call_int1 (by rfl) B.int (by decide +kernel) (pa_cons (pe_ix (ixL K) (pv 8) pe_int (fun _ _ => rfl)) pa_nil)) (pv 5)) (pa_cons (pv 9) (pa_cons (pv 10) pa_nil))))))))
 (pss_one (ps_if (pt_cmpR (opNotInD K (hu65 hr)) (pv 11) (pv 6) (by rfl))
 (pss_one (ps_expr (peBm K PySem.F.plainAttrs_list PySem.F.slot_list_append PySem.F.type_list_append mt_append (pv 6) (pa_cons (pv 11) pa_nil))))
 pss_nil)))))))))
 (pss_one (ps_ret (pe_tup (pa_cons (pv 4) (pa_cons (pv 5) (pa_cons (pe_tup (pa_cons (pe_op op_mod (pe_callTy call_int1 (by rfl) B.int (by decide +kernel) (pa_cons (pe_ix (ixL K) (pv 3) pe_int (fun _ _ => rfl)) pa_nil)) (pv 4)) (pa_cons (pe_slice (slL K) (pv 3) (po_some pe_int) (po_some (pe_op op_add pe_int (pv 5)))) pa_nil))) (pa_cons (pe_op op_mod (pe_callTy call_int1 (by rfl) B.int (by decide +kernel) (pa_cons (pe_ix (ixL K) (pv 3) pe_int (fun _ _ => rfl)) pa_nil)) (pv 5)) (pa_cons (pv 6) pa_nil))))))))))))), ?_⟩
  refine ⟨_, rfl, szc 4, fun p1 n1 => ⟨szc 1, fun p2 n2 => ⟨p2, _, _, rfl, rfl, upd_same, by decide, by decide, sz (by decide), fun p3 n3 => ?_⟩⟩⟩
  have e1 : (upd (upd (upd H p1 (.lst [.int 4, .int 6, .int 6, .int 4])) p2 (.lst [.int 3])) p3 (.lst (List.replicate (6 : Int).toNat [V.int 3]).flatten)) p1 = some (.lst [.int 4, .int 6, .int 6, .int 4]) := (same_new n3) _ _ ((same_new n2) _ _ upd_same)
  refine ⟨_, _, _, _, rfl, rfl, sq e1, sq upd_same, sz (by decide), fun p4 n4 => ?_⟩
  refine ⟨p4, c, [4, 6, 6, 4, 3, 3, 3, 3, 3, 3], rfl, sq upd_same, by decide, by decide, fun H1 pd ds s1 npd ed dk => ?_⟩
  have sm : Same H H1 := (((same_new n1).trans (same_new n2)).trans (same_new n3)).trans ((same_new n4).trans s1)
  clear e1 s1 n1 n2 n3 n4 npd
  obtain ⟨x0, r0, rfl, x00, x01, dk⟩ := dk.cons
  obtain ⟨x1, r1, rfl, x10, x11, dk⟩ := dk.cons
  obtain ⟨x2, r2, rfl, x20, x21, dk⟩ := dk.cons
  obtain ⟨x3, r3, rfl, x30, x31, dk⟩ := dk.cons
  obtain ⟨x4, r4, rfl, x40, x41, dk⟩ := dk.cons
  obtain ⟨x5, r5, rfl, x50, x51, dk⟩ := dk.cons
  obtain ⟨x6, r6, rfl, x60, x61, dk⟩ := dk.cons
  obtain ⟨x7, r7, rfl, x70, x71, dk⟩ := dk.cons
  obtain ⟨x8, r8, rfl, x80, x81, dk⟩ := dk.cons
  obtain ⟨x9, r9, rfl, x90, x91, dk⟩ := dk.cons
  obtain rfl := dk.nil
  have sd := sq (K := K) ed
  obtain ⟨S, eS⟩ : ∃ S : Nat, 1 + x0 = (S : Int) := ⟨(1 + x0).toNat, by omega⟩
  obtain ⟨N, eN⟩ : ∃ N : Nat, 1 + x1 = (N : Int) := ⟨(1 + x1).toNat, by omega⟩
  have hS : 1 ≤ S ∧ S ≤ 4 := by omega
  have hN : 1 ≤ N ∧ N ≤ 6 := by omega
  refine ⟨_, rfl, _, _, _, _, rfl, rfl, sd, atI_nat (j := 0) rfl, _, _, rfl, rfl, ?_⟩
  dsimp only [gName]
  rw [eS]
  refine ⟨_, rfl, _, _, _, _, rfl, rfl, sd, atI_nat (j := 1) rfl, _, _, rfl, rfl, ?_⟩
  dsimp only [gName]
  rw [eN]
  refine ⟨sz (by decide), fun o no => ?_⟩
  dsimp only [gName]
  have nl : (ns.map V.int).length = ns.length := List.length_map _
  obtain ⟨n, en, hn⟩ : ∃ n : Nat, (if (((ns.map V.int).length : Nat) : Int) < 12 then (((ns.map V.int).length : Nat) : Int) else 12) = (n : Int) ∧ n ≤ 12 ∧ n ≤ ns.length := by
    rw [nl]
    split
    · exact ⟨ns.length, rfl, by omega, by omega⟩
    · exact ⟨12, rfl, by decide, by omega⟩
  have lims : ∀ x ∈ [4, 6, 4, 6, 9, (10 : Int) ^ (9 : Int).toNat], 0 < x ∧ x < 1073741824 := by decide
  have smo := sm.trans (same_new (o := HO.lst []) no)
  refine ⟨_, rfl, a, _, rfl, .inl (smo.seq hs), _, _, rfl, _, congrArg (fun z => [V.int z]) en, by omega, by omega, for_range (lo := 0) (n := n) (fun i σ' H' => ∃ (y7 y8 y9 y10 y11 : Option V) (ms : List MvT) (xs : List V), σ' = [some (.int c), some (.ref a), some (.bl b), some (.ref pd), some (nV S), some (nV N), some (.ref o), y7, y8, y9, y10, y11] ∧ Same H1 H' ∧ H' o = some (.lst xs) ∧ ms.length ≤ i ∧ DpAll K (Ho o H') xs (ms.map MvT.data) ∧ (∀ m ∈ ms, m.Fit S N ∧ m.sh.length ≤ 6) ∧ ms.Nodup ∧ (b = false → ∀ m ∈ ms, m.sh = [])) ?_ ?_ ?_⟩
  · exact ⟨_, _, _, _, _, [], [], rfl, same_new no, upd_same, Nat.le_refl _, .nil, (fun m hm => by cases hm), .nil, fun _ m hm => by cases hm⟩
  · rintro i σ' H' hi ⟨y7, y8, y9, y10, y11, ms, xs, rfl, s1, eo, ml, dms, fit, nd, nsh⟩
    have hz : (0 : Int) + (i : Int) = (i : Int) := by omega
    have xl := dpa_map_len dms
    refine ⟨_, rfl, _, rfl, _, _, _, _, rfl, rfl, (sm.trans s1).seq hs, at_gd hz (by omega), _, _, rfl, rfl, ⟨by decide, by decide, by decide⟩, szc 6, fun p5 n5 => ⟨p5, _, [4, 6, 4, 6, 9, (10 : Int) ^ (9 : Int).toNat], rfl, sq upd_same, lims, (by show 6 ≤ 1000; decide), fun H2 pp dp s2 np2 ep dkp => ?_⟩⟩
    have s12 := (same_new n5).trans s2
    clear s2 n5 np2
    obtain ⟨y0, r0, rfl, y00, y01, dkp⟩ := dkp.cons
    obtain ⟨y1, r1, rfl, y10', y11', dkp⟩ := dkp.cons
    obtain ⟨y2, r2, rfl, y20, y21, dkp⟩ := dkp.cons
    obtain ⟨y3, r3, rfl, y30, y31, dkp⟩ := dkp.cons
    obtain ⟨y4, r4, rfl, y40, y41, dkp⟩ := dkp.cons
    obtain ⟨y5, r5, rfl, y50, y51, dkp⟩ := dkp.cons
    obtain rfl := dkp.nil
    have sp := sq (K := K) ep
    have eo2 := s12 _ _ eo
    have dms2 := dpAll_mono (ho_same s12) dms
    have s02 := s1.trans s12
    clear dkp dms eo s1 s12
    dsimp only [gName]
    refine ⟨fun σ' H' => ∃ sd : Option Nat, (∀ d, sd = some d → d < N) ∧ σ' = [some (.int c), some (.ref a), some (.bl b), some (.ref pd), some (nV S), some (nV N), some (.ref o), some (.int (0 + (i : Int))), some (.ref pp), some (sdV sd), y10, y11] ∧ H' = H2, ?_, ?_⟩
    · refine ⟨_, rfl, _, _, _, _, rfl, rfl, sp, atI_nat (j := 4) rfl, _, _, rfl, rfl, _, rfl, ite2 (fun e => ?_) (fun e => ?_)⟩
      · have md := mod_in (y4 + y3) (show (0 : Int) < (N : Int) by omega)
        obtain ⟨k, ek⟩ : ∃ k : Nat, (y4 + y3) % (N : Int) = (k : Int) := ⟨_, (Int.toNat_of_nonneg md.1).symm⟩
        refine ⟨_, rfl, _, _, _, _, rfl, rfl, sp, atI_nat (j := 4) rfl, _, rfl, _, _, _, _, rfl, rfl, sp, atI_nat (j := 3) rfl, _, _, rfl, rfl, .inl ⟨_, rfl, _, rfl, _, _, rfl, rfl, (show (0 : Int) < (N : Int) by omega), ?_⟩⟩
        dsimp only [gName]
        rw [ek]
        exact ⟨some k, fun d hd => by cases hd; omega, rfl, rfl⟩
      · exact ⟨none, fun d hd => (by cases hd), rfl, rfl⟩
    rintro σ' H2' ⟨sd', hsd, rfl, rfl⟩
    refine ⟨sz (by decide), fun p6 n6 => ?_⟩
    dsimp only [gName]
    refine ⟨fun σ' H' => ∃ (v : V) (sh : List (Nat × Nat)), σ' = [some (.int c), some (.ref a), some (.bl b), some (.ref pd), some (nV S), some (nV N), some (.ref o), some (.int (0 + (i : Int))), some (.ref pp), some (sdV sd'), some v, y11] ∧ Same H2' H' ∧ Dp K (Ho o H') v (.list (sh.map shD)) ∧ ShOk sh N ∧ sh.length ≤ 6 ∧ (b = false → sh = []), ?_, ?_⟩
    · have s6 := same_new (o := HO.lst []) n6
      refine ⟨_, rfl, b, rfl, ?_⟩
      cases b with
      | true =>
        refine iteT ⟨_, rfl, _, _, _, _, rfl, rfl, s6.seq sp, atI_nat (j := 5) rfl, _, rfl, y5, N, rfl, hN.1, hN.2, fun H4 v sh s4 dv ok l6 => ⟨v, sh, rfl, s6.trans s4, dp_mono (nw_ho (s6 _ _ eo2)) dv, ok, l6, fun z => nomatch z⟩⟩
      | false =>
        exact iteF ⟨.ref p6, [], rfl, s6, dpo_newL eo2 n6 .nil, ⟨.nil, fun p hp => (by cases hp), fun p hp => (by cases hp), fun p hp => (by cases hp)⟩, by decide, fun _ => rfl⟩
    rintro σ' H4 ⟨v, sh, rfl, s4, dv, ok, l6, shn⟩
    have m0 := mod_in y0 (show (0 : Int) < (S : Int) by omega)
    have m1 := mod_in y1 (show (0 : Int) < (N : Int) by omega)
    have m2 := mod_in y2 (show (0 : Int) < (S : Int) by omega)
    have m3 := mod_in y3 (show (0 : Int) < (N : Int) by omega)
    obtain ⟨q0, e0⟩ : ∃ k : Nat, y0 % (S : Int) = (k : Int) := ⟨_, (Int.toNat_of_nonneg m0.1).symm⟩
    obtain ⟨q1, e1⟩ : ∃ k : Nat, y1 % (N : Int) = (k : Int) := ⟨_, (Int.toNat_of_nonneg m1.1).symm⟩
    obtain ⟨q2, e2⟩ : ∃ k : Nat, y2 % (S : Int) = (k : Int) := ⟨_, (Int.toNat_of_nonneg m2.1).symm⟩
    obtain ⟨q3, e3⟩ : ∃ k : Nat, y3 % (N : Int) = (k : Int) := ⟨_, (Int.toNat_of_nonneg m3.1).symm⟩
    have sp4 := s4.seq sp
    have ps : (0 : Int) < (S : Int) := by omega
    have pn : (0 : Int) < (N : Int) := by omega
    refine ⟨_, rfl, _, _, _, _, rfl, rfl, sp4, atI_nat (j := 0) rfl, .inl ⟨_, rfl, _, rfl, _, _, rfl, rfl, ps, ?_⟩⟩
    refine ⟨_, rfl, _, _, _, _, rfl, rfl, sp4, atI_nat (j := 1) rfl, .inl ⟨_, rfl, _, rfl, _, _, rfl, rfl, pn, ?_⟩⟩
    refine ⟨_, rfl, _, _, _, _, rfl, rfl, sp4, atI_nat (j := 2) rfl, .inl ⟨_, rfl, _, rfl, _, _, rfl, rfl, ps, ?_⟩⟩
    refine ⟨_, rfl, _, _, _, _, rfl, rfl, sp4, atI_nat (j := 3) rfl, .inl ⟨_, rfl, _, rfl, _, _, rfl, rfl, pn, ?_⟩⟩
    refine ⟨_, rfl, _, rfl, szc 6, fun t nt => ?_⟩
    dsimp only [gName]
    rw [e0, e1, e2, e3]
    have eo4 := s4 _ _ eo2
    have fitm : (MvT.mk q0 q1 q2 q3 sd' sh).Fit S N := ⟨(by show q0 < S; omega), (by show q1 < N; omega), (by show q2 < S; omega), (by show q3 < N; omega), hsd, ok⟩
    have dt : Dp K (Ho o (upd H4 t (.tup [nV q0, nV q1, nV q2, nV q3, sdV sd', v]))) (.ref t) (MvT.mk q0 q1 q2 q3 sd' sh).data := dpo_newT eo4 nt (.cons (.int _) (.cons (.int _) (.cons (.int _) (.cons (.int _) (.cons (sd_dp _) (.cons dv .nil))))))
    have s5 := same_new (o := HO.tup [nV q0, nV q1, nV q2, nV q3, sdV sd', v]) nt
    have eo5 := s5 _ _ eo4
    have dms5 := dpAll_mono ((ho_same s4).trans (ho_same s5)) dms2
    have s05 := s02.trans (s4.trans s5)
    generalize upd H4 t (.tup [nV q0, nV q1, nV q2, nV q3, sdV sd', v]) = H5 at dt eo5 dms5 s05 ⊢
    have nc1 := mv_nc fitm (by omega) (by omega)
    have ncl := NcL.lst (mvs_nc (S := S) (P := N) (by omega) (by omega) (ms := ms) fit)
    refine ⟨_, rfl, _, rfl, _, _, dp_mono ho_out dt, .lst (sq eo5) (dpAll_mono ho_out dms5), nc1.shaped (by decide), ncl.shaped (by decide), _, rfl, ?_⟩
    cases hany : ((ms.map MvT.data).any fun z => PyData.eqv z (MvT.mk q0 q1 q2 q3 sd' sh).data) with
    | true => exact iteF ⟨_, _, _, _, _, ms, xs, rfl, s05, eo5, by omega, dms5, fit, nd, nsh⟩
    | false =>
      refine iteT ⟨_, rfl, .inl ⟨rfl, _, sq eo5⟩, _, rfl, o, _, _, rfl, rfl, eo5, szl (by omega), ?_⟩
      have hni : MvT.mk q0 q1 q2 q3 sd' sh ∉ ms := fun hm => eqv_any hany nc1.eqv (List.mem_map_of_mem hm)
      refine ⟨_, _, _, _, _, ms ++ [MvT.mk q0 q1 q2 q3 sd' sh], xs ++ [.ref t], rfl, Same.mut s05 no, upd_same, by rw [List.length_append, List.length_singleton]; omega, ?_, ?_, ?_, ?_⟩
      · rw [List.map_append]
        exact dpa_app (dpAll_mono ho_mut dms5) (.cons (dp_mono ho_mut dt) .nil)
      · intro x hx
        rcases List.mem_append.mp hx with hx | hx
        · exact fit x hx
        · rw [List.mem_singleton.mp hx]; exact ⟨fitm, l6⟩
      · refine List.nodup_append.mpr ⟨nd, List.pairwise_singleton _ _, fun x hx y hy e => ?_⟩
        rw [List.mem_singleton.mp hy] at e
        rw [e] at hx
        exact hni hx
      · intro hb x hx
        rcases List.mem_append.mp hx with hx | hx
        · exact nsh hb x hx
        · rw [List.mem_singleton.mp hx]; exact shn hb
  · rintro σ' H' ⟨y7, y8, y9, y10, y11, ms, xs, rfl, s1, eo, ml, dms, fit, nd, nsh⟩
    have m3 := mod_in x3 (show (0 : Int) < (S : Int) by omega)
    have m2 := mod_in x2 (show (0 : Int) < (N : Int) by omega)
    obtain ⟨q3, e3⟩ : ∃ k : Nat, x3 % (S : Int) = (k : Int) := ⟨_, (Int.toNat_of_nonneg m3.1).symm⟩
    obtain ⟨q2, e2⟩ : ∃ k : Nat, x2 % (N : Int) = (k : Int) := ⟨_, (Int.toNat_of_nonneg m2.1).symm⟩
    have ps : (0 : Int) < (S : Int) := by omega
    have pn : (0 : Int) < (N : Int) := by omega
    have sd1 := s1.seq sd
    refine ⟨_, rfl, _, rfl, ?_⟩
    refine ⟨_, rfl, _, _, _, _, rfl, rfl, sd1, atI_nat (j := 3) rfl, .inl ⟨_, rfl, _, rfl, _, _, rfl, rfl, ps, ?_⟩⟩
    refine ⟨_, rfl, _, rfl, _, rfl, _, _, rfl, rfl, _, rfl, pd, _, rfl, sd1, fun p np => ⟨szc 2, fun t nt => ?_⟩⟩
    refine ⟨_, rfl, _, _, _, _, rfl, rfl, ((same_new np).trans (same_new nt)).seq sd1, atI_nat (j := 2) rfl, .inl ⟨_, rfl, _, rfl, _, _, rfl, rfl, pn, ?_⟩⟩
    refine ⟨_, rfl, szc 5, fun r nr => ?_⟩
    have cN : cutV ([x0, x1, x2, x3, x4, x5, x6, x7, x8, x9].map V.int) (some 4) (some (4 + (N : Int))) = ([x4, x5, x6, x7, x8, x9].take N).map V.int := by
      rw [List.map_take]
      exact cut_cnts hN.1 hN.2
    have g : ∀ (cl : List V), cl = ([x4, x5, x6, x7, x8, x9].take N).map V.int → ∀ (a b : Int), a = (q3 : Int) → b = (q2 : Int) → (upd H' p (.lst cl)) t = none → (upd (upd H' p (.lst cl)) t (.tup [.int a, .ref p])) r = none → Q (.ref r) (upd (upd (upd H' p (.lst cl)) t (.tup [.int a, .ref p])) r (.tup [nV S, nV N, .ref t, .int b, .ref o])) := by
      rintro cl rfl a b rfl rfl nt nr
      have s2 := same_new (o := HO.lst (([x4, x5, x6, x7, x8, x9].take N).map V.int)) np
      have s3 := same_new (o := HO.tup [.int (q3 : Int), .ref p]) nt
      have s4 := same_new (o := HO.tup [nV S, nV N, .ref t, .int (q2 : Int), .ref o]) nr
      have s24 := (s2.trans s3).trans s4
      have sit : Sit K _ (.ref t) (q3 : Int) ([x4, x5, x6, x7, x8, x9].take N) := ⟨t, p, rfl, st (s4 _ _ upd_same), (s3.trans s4).seq (sq upd_same)⟩
      have cl : ([x4, x5, x6, x7, x8, x9].take N).length = N := by rw [List.length_take]; show min N 6 = N; omega
      refine q _ _ ⟨S, N, q3, [x4, x5, x6, x7, x8, x9].take N, q2, ms⟩ ((sm.trans s1).trans s24) ?_ ⟨hS.1, hS.2, hN.1, hN.2, (by show q3 < S; omega), cl, ?_, (by show q2 < N; omega), (by show ms.length ≤ 12; omega), fun m hm => (fit m hm).1, nd⟩ (fun m hm => (fit m hm).2) nsh
      · exact .tup (st upd_same) (.cons (.int _) (.cons (.int _) (.cons (sit_dp sit) (.cons (.int _) (.cons (.lst (s24.seq (sq eo)) (dpAll_mono (ho_out.trans s24) dms)) .nil)))))
      · intro x hx
        have hx := List.mem_of_mem_take hx
        simp only [List.mem_cons, List.not_mem_nil, or_false] at hx
        rcases hx with rfl | rfl | rfl | rfl | rfl | rfl <;> omega
    exact g _ cN _ _ e3 e2 nt nr
end
/-! ### exceptions of the program's own -/
/-- what the written part says of an exception's class -/
structure ExcX (K : PySem.W.Frag) (mg : Str → Option Value) (x : Str) (C : Addr) : Prop where
  gC : mg x = some (.ref C)
  exc : PySem.W.excIn K C [.type "ValueError", .type "Exception", .type "BaseException", .type "object"] "ValueError.__new__" = true
  kC : PySem.W.keepIn K (.ref C) = true
  ty : PySem.W.typeIn K (.ref C) = some (.type "type")
  ic : PySem.W.isClsIn K C = true
  self : PySem.W.subIn K (.ref C) (.ref C) = some true
  val : PySem.W.subIn K (.ref C) (.type "ValueError") = some true
  is : ExcC K C
theorem ExcX.sub {K : PySem.W.Frag} {mg : Str → Option Value} {x : Str} {C : Addr} (h : ExcX K mg x C) : PySem.W.subIn K (.ref C) (.type "BaseException") = some true := h.is.hs
theorem kit_ref {K : PySem.W.Frag} {C D : Addr} {b : Bool} (hi : PySem.W.isClsIn K D = true) (ht : PySem.W.typeIn K (.ref D) = some (.type "type")) (hne : C ≠ D) (hs : PySem.W.subIn K (.ref C) (.ref D) = some b) : PySem.W.kitOne K (.ref C) (.ref D) = some b := by
  have e0 : ¬ ((Value.ref C == Value.ref D) = true) := fun z => hne (by cases (beq_iff_eq.mp z); rfl)
  have e2 : ((PySem.W.clsIn K D).isSome && PySem.W.typeIn K (.ref D) == some (.type "type")) = true := by
    have h2' : (PySem.W.clsIn K D).isSome = true := hi
    rw [h2', ht] <;> rfl
  show (if (Value.ref C == Value.ref D) = true then some true else if ((PySem.W.clsIn K D).isSome && PySem.W.typeIn K (.ref D) == some (.type "type")) = true then PySem.W.subIn K (.ref C) (.ref D) else none) = some b
  rw [if_neg e0, if_pos e2]
  exact hs
theorem kit_val {K : PySem.W.Frag} {C : Addr} (hs : PySem.W.subIn K (.ref C) (.type "ValueError") = some true) : PySem.W.kitOne K (.ref C) (.type "ValueError") = some true := by
  show (if (Value.ref C == Value.type "ValueError") = true then some true else if PySem.W.kitMeta "ValueError" = true then PySem.W.subIn K (.ref C) (.type "ValueError") else none) = some true
  rw [if_neg (by intro z; cases (beq_iff_eq.mp z)), if_pos (by decide +kernel)]
  exact hs
theorem exm_own {K : PySem.W.Frag} {mg : Str → Option Value} {x : Str} {C D : Addr} {b : Bool} (hD : ExcX K mg x D) (hs : PySem.W.subIn K (.ref C) (.ref D) = some b) : PySem.W.exmOne K (.ref C) (.ref D) = some b := PySem.W.exm_ref hD.sub hD.is.hd hD.ty hs
/-- isinstance(e, c) and isinstance(e, (c1, c2, ..)), e the exception that the suite holds -/
def rIsEx (K : PySem.W.Frag) (a : Addr) (cls : Value) (d : Option Addr) : List V → Hp → VK → Prop := fun xs H Q => ∃ (D : Addr) (b : Bool), cls = .ref D ∧ d = none ∧ ExcC K D ∧ Q (.bl b) H ∧
  ((∃ (c : V) (cv : Value), xs = [.ref a, c] ∧ ClsV c cv ∧ PySem.W.kitOne K (.ref D) cv = some b) ∨ ∃ (tp : Addr) (cs : List V) (us : List Value), xs = [.ref a, .ref tp] ∧ H tp = some (.tup cs) ∧ Paired ClsV cs us ∧ PySem.W.kitAny K (.ref D) us = some b)
theorem call_isEx {X : Cx} {a : Addr} {cls : Value} {d : Option Addr} {oe : Obj} {pn : List (Addr × Obj)} (hz : Zc cls d oe) (hf : ∃ vs, oe.data = .fields vs) : CallR (X.suite a ((a, oe) :: pn)) (.builtin "isinstance") (rIsEx X.K a cls d) := by
  intro pins s σ H xs us Q I r h
  obtain ⟨D, b, rfl, rfl, C, q, h⟩ := h
  rcases h with ⟨c, cv, rfl, hcv, e⟩ | ⟨tp, cs, ws, rfl, hT, k, e⟩
  · exact call_isE C hz hf pins s σ H _ us Q I r ⟨c, cv, b, rfl, fun u hu => hcv.eq hu, e, q⟩
  · obtain ⟨u1, u2, rfl, r1, r2⟩ := vals2 r
    cases (show u2 = Value.ref tp from r2)
    cases (show u1 = Value.ref a from r1)
    obtain ⟨hget, _⟩ := I.pin (a, oe) (List.mem_append.mpr (.inl List.mem_cons_self))
    obtain ⟨vs, hv⟩ := hf
    have J : PySem.W.InstAt s.heap a oe D none := by
      obtain ⟨oc, od, oda, osl⟩ := oe
      obtain ⟨h1, h2⟩ := hz
      dsimp only at h1 h2 hv
      subst h1 h2 hv
      exact ⟨hget, rfl, rfl, trivial⟩
    obtain ⟨_, its, rv, o, h1, h2, n, h3⟩ := (show ObjOk X.prog X.w H s.heap tp (.tup cs) from I.hok tp _ hT)
    have e3 := ClsV.all k rv
    subst e3
    obtain ⟨oc, od, dt, sl⟩ := o
    simp only at h2 h3
    subst h2 h3
    exact PySem.W.kia_tup (PySem.W.handS_kitx_exc C.hg C.hk C.hs C.hd C.ha C.hn C.ht C.hm) I.kIn J h1 e (fun z => nomatch z) fun tk => ⟨.bl b, H, I.kept (t' := tk) fun _ _ z => z, rfl, q⟩
/-- a def that may raise -/
structure FdX (P : Program) (w : World) (K : PySem.W.Frag) (mg : Str → Option Value) (base : Heap) (x : Str) (ps : List Str) (k : Nat) (sp : Sp) : Prop where
  ex : ∃ (f : Addr) (fd : FuncData), FnOk P w K mg base (L2.CX P w) k f fd ps sp ∧ mg x = some (.ref f) ∧ PySem.W.keepIn K (.ref f) = true ∧ Binds K fd ps []
theorem pe_fnX {X : Cx} {x : Str} {ps : List Str} {k : Nat} {sp : Sp} {e : Expr} {es : List Expr} {t : TA} {p pos : Pos} {W : WX} (F : FdX X.prog X.w X.K X.mg X.base x ps k sp) (hr : Room k X.A) (hg : Gl X x) (tk : Takes X W) (ha : PA X (e :: es) t)
    (hdb : (x == ("__debug__" : Str)) = false := by decide) (he : starEach (e :: es) X.env = (false, eval e X.env) :: starEach es X.env := by rfl) (hpl : (backTo pos (starEach es X.env)).any (·.1) = false := by rfl) :
    PE X (.Call (.Name x p) (e :: es) [] pos) (tCallS sp (WE W) t) := by
  obtain ⟨f, fd, G, m, kp, b⟩ := F.ex
  exact pe_callS G hr hg m kp b (fun σ => passAt tk σ) ha hdb he hpl
theorem kit_sub {K : PySem.W.Frag} {mg : Str → Option Value} {x y : Str} {C D : Addr} {b : Bool} (hC : ExcX K mg x C) (hD : ExcX K mg y D) (hs : PySem.W.subIn K (.ref C) (.ref D) = some b) : PySem.W.kitOne K (.ref C) (.ref D) = some b := by
  by_cases e : C = D
  · subst e
    rw [hC.self] at hs
    cases hs
    show (if (Value.ref C == Value.ref C) = true then some true else _) = some true
    rw [if_pos (beq_self_eq_true _)]
  · exact kit_ref hD.ic hD.ty e hs
theorem kit_two {K : PySem.W.Frag} {t c1 c2 : Value} (h1 : PySem.W.kitOne K t c1 = some false) (h2 : PySem.W.kitOne K t c2 = some false) : PySem.W.kitAny K t [c1, c2] = some false := by
  unfold PySem.W.kitAny
  rw [h1]
  show PySem.W.kitAny K t [c2] = some false
  unfold PySem.W.kitAny
  rw [h2]
  rfl
def isTE (K : PySem.W.Frag) (a : Addr) (cls : Value) (d : Option Addr) (i : Nat) (te : TE) : TE := tCB (rIsEx K a cls d) (tCons (tVar i) (tCons te tNil))
/-- isinstance(e, A) and isinstance(e, ValueError) and not isinstance(e, (B, C)) -/
def isAll (K : PySem.W.Frag) (i : Nat) (A : V) (B : TE) (a : Addr) (cls : Value) (d : Option Addr) : TE := tAndV (isTE K a cls d i (tC A)) (tAndV (isTE K a cls d i (tC (.ty "ValueError"))) (tNotV (isTE K a cls d i B)))
theorem isAll_yes {K : PySem.W.Frag} {mg : Str → Option Value} {nC nL n1 n2 : Str} {i : Nat} {a C L D1 D2 : Addr} {σ : L2.St} {H : Hp} {Q : VK} (XC : ExcX K mg nC C) (XL : ExcX K mg nL L) (X1 : ExcX K mg n1 D1) (X2 : ExcX K mg n2 D2)
    (hL : PySem.W.subIn K (.ref C) (.ref L) = some true) (h1 : PySem.W.subIn K (.ref C) (.ref D1) = some false) (h2 : PySem.W.subIn K (.ref C) (.ref D2) = some false) (hi : σ[i]? = some (some (.ref a)))
    (q : ∀ H', Same H H' → Q (.bl true) H') : isAll K i (.ref L) (tTup (tCons (tC (.ref D1)) (tCons (tC (.ref D2)) tNil))) a (.ref C) none σ H Q :=
  ⟨_, hi, C, true, rfl, rfl, XC.is, ⟨_, rfl, iteT ⟨_, hi, C, true, rfl, rfl, XC.is, ⟨_, rfl, iteT ⟨_, hi, szc 2, fun tp np => ⟨C, false, rfl, rfl, XC.is, ⟨_, rfl, q _ (same_new np)⟩, .inr ⟨tp, _, _, rfl, upd_same, .cons (.own _) (.cons (.own _) .nil), kit_two (kit_sub XC X1 h1) (kit_sub XC X2 h2)⟩⟩⟩⟩, .inl ⟨_, _, rfl, .ty _, kit_val XC.val⟩⟩⟩, .inl ⟨_, _, rfl, .own _, kit_sub XC XL hL⟩⟩
/-- isinstance(e, A) and isinstance(e, ValueError) and not isinstance(e, B) -/
theorem isAll_yes1 {K : PySem.W.Frag} {mg : Str → Option Value} {nC nL n1 : Str} {i : Nat} {a C L D1 : Addr} {σ : L2.St} {H : Hp} {Q : VK} (XC : ExcX K mg nC C) (XL : ExcX K mg nL L) (X1 : ExcX K mg n1 D1)
    (hL : PySem.W.subIn K (.ref C) (.ref L) = some true) (h1 : PySem.W.subIn K (.ref C) (.ref D1) = some false) (hi : σ[i]? = some (some (.ref a)))
    (q : Q (.bl true) H) : isAll K i (.ref L) (tC (.ref D1)) a (.ref C) none σ H Q :=
  ⟨_, hi, C, true, rfl, rfl, XC.is, ⟨_, rfl, iteT ⟨_, hi, C, true, rfl, rfl, XC.is, ⟨_, rfl, iteT ⟨_, hi, C, false, rfl, rfl, XC.is, ⟨_, rfl, q⟩, .inl ⟨_, _, rfl, .own _, kit_sub XC X1 h1⟩⟩⟩, .inl ⟨_, _, rfl, .ty _, kit_val XC.val⟩⟩⟩, .inl ⟨_, _, rfl, .own _, kit_sub XC XL hL⟩⟩
/-- isinstance(e, A) and not isinstance(e, B) -/
def isTwo (K : PySem.W.Frag) (i : Nat) (A B : V) (a : Addr) (cls : Value) (d : Option Addr) : TE := tAndV (isTE K a cls d i (tC A)) (tNotV (isTE K a cls d i (tC B)))
theorem isTwo_yes {K : PySem.W.Frag} {mg : Str → Option Value} {nC nL n1 : Str} {i : Nat} {a C L D1 : Addr} {σ : L2.St} {H : Hp} {Q : VK} (XC : ExcX K mg nC C) (XL : ExcX K mg nL L) (X1 : ExcX K mg n1 D1)
    (hL : PySem.W.subIn K (.ref C) (.ref L) = some true) (h1 : PySem.W.subIn K (.ref C) (.ref D1) = some false) (hi : σ[i]? = some (some (.ref a)))
    (q : Q (.bl true) H) : isTwo K i (.ref L) (.ref D1) a (.ref C) none σ H Q :=
  ⟨_, hi, C, true, rfl, rfl, XC.is, ⟨_, rfl, iteT ⟨_, hi, C, false, rfl, rfl, XC.is, ⟨_, rfl, q⟩, .inl ⟨_, _, rfl, .own _, kit_sub XC X1 h1⟩⟩⟩, .inl ⟨_, _, rfl, .own _, kit_sub XC XL hL⟩⟩
structure Exs (K : PySem.W.Frag) (mg : Str → Option Value) (CL CO CN CB : Addr) : Prop where
  L : ExcX K mg "LegionError" CL
  O : ExcX K mg "OutOfRange" CO
  N : ExcX K mg "NotPossible" CN
  B : ExcX K mg "BadMachine" CB
  oL : PySem.W.subIn K (.ref CO) (.ref CL) = some true
  oN : PySem.W.subIn K (.ref CO) (.ref CN) = some false
  oB : PySem.W.subIn K (.ref CO) (.ref CB) = some false
  nL : PySem.W.subIn K (.ref CN) (.ref CL) = some true
  nO : PySem.W.subIn K (.ref CN) (.ref CO) = some false
  nB : PySem.W.subIn K (.ref CN) (.ref CB) = some false
/-! ### defs that are called while no guard is up -/
structure FnG (P : Program) (w : World) (K : PySem.W.Frag) (mg : Str → Option Value) (base : Heap) (k : Nat) (f : Addr) (fd : FuncData) (ps : List Str) (sp : Sp) : Prop where
  many : ∀ vs H Q, sp vs H Q E0 → vs.length = ps.length
  goes : ∀ (A : Around) (outer : List Env) (s : Shared) (H : Hp) (us : List Value) (vs : List V) (Q : VK), Room k A → A.guards = some [] → Env0 P w K mg base A outer s H → BindsTo s fd ⟨us, []⟩ (ps.zip us) → Vals vs us → sp vs H Q E0 →
    codeAny (model P w) A (.call (.ref f) ⟨us, []⟩) (CR CX0 outer P w H s Q E0) s
theorem fng_of {P : Program} {w : World} {K : PySem.W.Frag} {mg : Str → Option Value} {base : Heap} {x qual : Str} {st : Stmt} {f : Addr} {fd : FuncData} {N ps : List Str} {k : Nat} {sp : Sp} (F : Fun K x qual st f fd) (S : FnScope N ps (defScope st)) (many : ∀ vs H Q, sp vs H Q E0 → vs.length = ps.length)
    (body : ∀ (cdv : Value) (A : Around) (outer : List Env) (s : Shared) (H : Hp) (vs : List V) (Q : VK), Room k (A.deeper (envOfC qual (defScope st) s.heap.objs.size f cdv)) → A.guards = some [] → sp vs H Q E0 →
      ∃ t, PSs (cxOf CX0 P w K mg base N qual (defScope st) f cdv A outer s H E0).nox (defBody st) t ∧ t { nx := fun _ H' => Q .non H', rt := Q } (start N vs) H) : FnG P w K mg base (k + 1) f fd ps sp := by
  obtain ⟨c1, c2, c3, c4, c5, c6, cd, c8, c9, rfl, look, code⟩ := F.ex
  refine ⟨many, fun A outer s H us vs Q hroom free env bind vals want => ?_⟩
  have size := many _ _ _ want
  have inS : K.In s.heap := PySem.W.Frag.In.keeps env.mod.kin (fun b o z => (env.bs b o z).1)
  have room := hroom.deeper (envOfC qual (defScope st) s.heap.objs.size f cd)
  obtain ⟨t, good, read⟩ := body cd A outer s H vs Q room free want
  refine codeAny_call_function hroom.depth (inS f _ look) rfl S.co S.gen rfl (PySem.W.codeRec_of inS code) (bind _ _ _ _ ?_)
  have names : ∀ y ∈ ps.zip us, (defScope st).names.lookup y.1 = some .local ∨ ((defScope st).names.lookup y.1 = some .cell ∧ ((cellsFrom (s.heap.objs.size + 1) (defScope st).names []).lookup y.1).isSome = true) := by
    rintro ⟨nm, val⟩ hy
    exact (S.par nm (List.of_mem_zip hy).1).imp id fun z => ⟨z, PySem.W.cellsFrom_some _ _ _ (.inl z)⟩
  refine wpAny_newFunctionEnv_cells S.kind names ?_
  rintro _ rfl s1 made
  have few : s.heap.NoLimit := Heap.NoLimit.keeps env.mod.nolimit (fun b o z => (env.bs b o z).1)
  refine ⟨Heap.NoLimit.keeps few made.toInCall.keep, codeAny_func ?_⟩
  have inv := inv_start (CX := CX0) (E := E0) S hroom.hd env size vals made
  refine wpAny_mono (good.nox.run [] s1 _ H _ inv read) ?_ (fun _ _ z => z)
  intro fl s2 out
  cases fl with
  | brk => exact False.elim out.choose_spec.choose_spec.2
  | cont => exact False.elim out.choose_spec.choose_spec.2
  | next =>
    obtain ⟨σ2, H2, inv2, q2⟩ := out
    exact ⟨.non, H2, inv2.os, inv2.bare, inv2.base, inv2.hok, rfl, q2⟩
  | ret u =>
    obtain ⟨v, σ2, H2, inv2, rel, q2⟩ := out
    exact ⟨v, H2, inv2.os, inv2.bare, inv2.base, inv2.hok, rel, q2⟩
structure FdR (P : Program) (w : World) (K : PySem.W.Frag) (mg : Str → Option Value) (base : Heap) (x : Str) (ps : List Str) (k : Nat) (sp : Sp) : Prop where
  ex : ∃ (f : Addr) (fd : FuncData), FnG P w K mg base k f fd ps sp ∧ mg x = some (.ref f) ∧ PySem.W.keepIn K (.ref f) = true ∧ Binds K fd ps []
theorem pe_fnG {X : Cx} {x : Str} {ps : List Str} {k : Nat} {sp : Sp} {e : Expr} {es : List Expr} {t : TA} {p pos : Pos} (F : FdR X.prog X.w X.K X.mg X.base x ps k sp) (hr : Room k X.A) (free : X.A.guards = some []) (hg : Gl X x) (ha : PA X (e :: es) t)
    (hdb : (x == ("__debug__" : Str)) = false := by decide) (he : starEach (e :: es) X.env = (false, eval e X.env) :: starEach es X.env := by rfl) (hpl : (backTo pos (starEach es X.env)).any (·.1) = false := by rfl) :
    PE X (.Call (.Name x p) (e :: es) [] pos) (tCall sp [] E0 t) := by
  obtain ⟨f, fd, G, m, kp, b⟩ := F.ex
  constructor
  intro pins s σ H Q I want
  refine wpAny_Call_Name_kw (ld_glob I hg m ?_ hdb)
  refine PySem.W.callWith_K (h₀ := X.base) I.ok.mod.kin kp (thn (ha.run pos pins s σ H _ I want) ?_) he hpl
  rintro us s1 ⟨vs, H1, I1, vals, q⟩
  refine ⟨I1.kIn, ?_⟩
  rw [List.append_nil] at q
  have size : us.length = ps.length := by rw [← vals.length]; exact G.many _ _ _ q
  have bind := b s1 us I1.kIn (by rw [List.append_nil]; exact size)
  rw [List.append_nil] at bind
  refine wpAny_call (codeAny_mono (G.goes X.A X.stack s1 H1 us vs Q hr free I1.env0 bind vals q) ?_)
  intro r s2 out
  cases r with
  | error e => exact False.elim out
  | ok fl =>
    cases fl with
    | ret u => exact I1.after out
    | next => exact False.elim out
    | brk => exact False.elim out
    | cont => exact False.elim out
/-! ### sets of nested tuples of whole numbers and None (fewer than 64) -/
mutual
/-- no text within -/
def nkNum : NestedKey → Bool
  | .none => true
  | .num _ => true
  | .text _ => false
  | .tup ks => nkNums ks
def nkNums : List NestedKey → Bool
  | [] => true
  | k :: ks => nkNum k && nkNums ks
end
/-- a set's member: where its tuple stands, and what it is -/
abbrev NMem := Addr × NestedKey
abbrev nh (w : World) (e : NMem) : Int := NestedKey.hash w e.2
abbrev nrow (w : World) (e : NMem) : Int × Value := (nh w e, Value.ref e.1)
section
variable {P : Program} {w : World} {A : Around} {E : Value → Shared → Prop} {s : Shared}
def NoStmt (P : Program) (w : World) (n : Nat) (s : Shared) (v : Value) : Prop := ∀ (A : Around) (E : Value → Shared → Prop) (Q : Bool → Shared → Prop), Q false s → wpAny (model P w) A (ofAClassStatement n v) Q E s
def ByVal (P : Program) (w : World) (n : Nat) (s : Shared) (v : Value) : Prop := ∀ (A : Around) (E : Value → Shared → Prop) (Q : Bool → Shared → Prop), Q true s → wpAny (model P w) A (hashByValue n v) Q E s
theorem nostmt_tup {n : Nat} {a : Addr} {o : Obj} {us : Array Value} {m : Nat} (e : s.heap.get? a = some o) (c : o.cls = .type "tuple") (d : o.data = .seq us m) (all : ∀ u ∈ us.toList, NoStmt P w n s u) : NoStmt P w (n + 1) s (.ref a) := fun A E Q q => by
  unfold ofAClassStatement
  refine wpAny_bind (wpAny_typeOf (show s.TypeIs (.ref a) "tuple" from ⟨o, e, c⟩) ?_)
  dsimp only
  have tt : (("tuple" : String) == "tuple") = true := by decide
  simp only [tt, Bool.not_true, Bool.false_eq_true, if_true, if_false]
  try refine wpAny_bind (wpAny_pure ?_)
  try simp only [Bool.false_eq_true, Bool.not_true, if_false]
  show wpAny _ _ (seqItems? (.ref a) >>= _) _ _ s
  refine wpAny_bind (wpAny_seqItems e d ?_)
  dsimp only
  refine wpAny_bind ?_
  show wpAny _ _ (forIn us _ _) _ _ s
  rw [← Array.forIn_toList]
  refine wpAny_forIn_list _ (fun more z s1 => s1 = s ∧ z.1 = none ∧ ∀ u ∈ more, NoStmt P w n s u) _ ?_ ?_ _ _ ⟨rfl, rfl, all⟩
  · rintro u more z s1 ⟨rfl, z1, k⟩
    refine wpAny_bind (k u List.mem_cons_self _ _ _ ?_)
    simp only [Bool.false_eq_true, if_false]
    exact wpAny_pure ⟨rfl, rfl, fun y hy => k y (List.mem_cons_of_mem _ hy)⟩
  · rintro ⟨z1, z2⟩ s1 ⟨rfl, hz, _⟩
    cases (show z1 = none from hz)
    exact wpAny_pure q
theorem byval_tup {n : Nat} {a : Addr} {o : Obj} {us : Array Value} {m : Nat} (e : s.heap.get? a = some o) (c : o.cls = .type "tuple") (d : o.data = .seq us m) (all : ∀ u ∈ us.toList, ByVal P w n s u) : ByVal P w (n + 1) s (.ref a) := fun A E Q q => by
  unfold hashByValue
  refine wpAny_bind (wpAny_specialOf (show s.TypeIs (.ref a) "tuple" from ⟨o, e, c⟩) F.slot_tuple_hash.lookup ?_)
  show wpAny _ _ (seqItems? (.ref a) >>= _) _ _ s
  refine wpAny_bind (wpAny_seqItems e d ?_)
  refine wpAny_bind ?_
  show wpAny _ _ (forIn us _ _) _ _ s
  rw [← Array.forIn_toList]
  refine wpAny_forIn_list _ (fun more z s1 => s1 = s ∧ z.1 = none ∧ ∀ u ∈ more, ByVal P w n s u) _ ?_ ?_ _ _ ⟨rfl, rfl, all⟩
  · rintro u more z s1 ⟨rfl, z1, k⟩
    refine wpAny_bind (k u List.mem_cons_self _ _ _ ?_)
    simp only [Bool.false_eq_true, Bool.not_true, if_false]
    exact wpAny_pure ⟨rfl, rfl, fun y hy => k y (List.mem_cons_of_mem _ hy)⟩
  · rintro ⟨z1, z2⟩ s1 ⟨rfl, hz, _⟩
    cases (show z1 = none from hz)
    exact wpAny_pure q
mutual
theorem nostmt_key : ∀ (k : NestedKey) (v : Value) (n : Nat), NestedIs s.heap k v → k.depth ≤ n → NoStmt P w n s v
  | .none, _, n, x, _ => by cases x; cases n <;> exact fun A E Q q => wpAny_pure q
  | .num i, _, n, x, _ => by cases x <;> cases n <;> exact fun A E Q q => wpAny_pure q
  | .text y, _, n, x, _ => by cases x; cases n <;> exact fun A E Q q => wpAny_pure q
  | .tup ks, _, n, x, hn => by
    cases x with
    | tup h1 h2 h3 h4 =>
      simp only [NestedKey.depth] at hn
      cases n with
      | zero => omega
      | succ n => exact nostmt_tup h1 h2 h3 (nostmt_keys ks _ n h4 (by omega))
theorem nostmt_keys : ∀ (ks : List NestedKey) (us : List Value) (n : Nat), NestedAll s.heap ks us → NestedKey.depthAll ks ≤ n → ∀ u ∈ us, NoStmt P w n s u
  | [], _, n, x, _, u, hu => by cases x; cases hu
  | k :: ks, _, n, x, hn, u, hu => by
    cases x with
    | cons x1 x2 =>
      simp only [NestedKey.depthAll] at hn
      rcases List.mem_cons.mp hu with e | hu
      · exact e ▸ nostmt_key k _ n x1 (by omega)
      · exact nostmt_keys ks _ n x2 (by omega) u hu
end
mutual
theorem byval_key : ∀ (k : NestedKey) (v : Value) (n : Nat), NestedIs s.heap k v → nkNum k = true → k.depth ≤ n → ByVal P w n s v
  | .none, _, n, x, _, _ => by cases x; cases n <;> exact fun A E Q q => wpAny_pure q
  | .num i, _, n, x, _, _ => by cases x <;> cases n <;> exact fun A E Q q => wpAny_pure q
  | .text y, _, n, x, z, _ => by cases (show false = true from z)
  | .tup ks, _, n, x, z, hn => by
    cases x with
    | tup h1 h2 h3 h4 =>
      simp only [NestedKey.depth] at hn
      cases n with
      | zero => omega
      | succ n => exact byval_tup h1 h2 h3 (byval_keys ks _ n h4 (by simpa [nkNum] using z) (by omega))
theorem byval_keys : ∀ (ks : List NestedKey) (us : List Value) (n : Nat), NestedAll s.heap ks us → nkNums ks = true → NestedKey.depthAll ks ≤ n → ∀ u ∈ us, ByVal P w n s u
  | [], _, n, x, _, _, u, hu => by cases x; cases hu
  | k :: ks, _, n, x, z, hn, u, hu => by
    cases x with
    | cons x1 x2 =>
      simp only [NestedKey.depthAll] at hn
      simp only [nkNums, Bool.and_eq_true] at z
      rcases List.mem_cons.mp hu with e | hu
      · exact e ▸ byval_key k _ n x1 z.1 (by omega)
      · exact byval_keys ks _ n x2 z.2 (by omega) u hu
end
/-- a key that may stand in such a set -/
structure NKey (h : Heap) (k : NestedKey) (a : Addr) : Prop where
  is : NestedIs h k (.ref a)
  de : k.depth ≤ 8
  nu : nkNum k = true
/-- a search among such keys shows nothing -/
theorem seen_nk {k : NestedKey} {x : Addr} (hx : NKey s.heap k x) {ys : List Value} (hy : ∀ y ∈ ys, ∃ e : NMem, y = Value.ref e.1 ∧ NKey s.heap e.2 e.1) {Q : Bool → Shared → Prop} (q : Q false s) : wpAny (model P w) A (searchCouldBeSeen (.ref x) ys) Q E s := by
  unfold searchCouldBeSeen
  refine wpAny_bind ?_
  refine wpAny_forIn_list _ (fun more z s1 => s1 = s ∧ z.1 = none ∧ ∀ y ∈ more, ∃ e : NMem, y = Value.ref e.1 ∧ NKey s.heap e.2 e.1) _ ?_ ?_ _ _ ⟨rfl, rfl, hy⟩
  · rintro u more z s1 ⟨rfl, z1, all⟩
    obtain ⟨e, rfl, he⟩ := all u List.mem_cons_self
    have all' := fun y hy => all y (List.mem_cons_of_mem _ hy)
    dsimp only
    by_cases hv : (x == e.1 || (carriedByValue (.ref x) && carriedByValue (.ref e.1))) = true
    · exact wp_if_pos hv (wpAny_pure ⟨rfl, rfl, all'⟩)
    · refine wp_if_neg hv (wpAny_bind (quiet_key k _ 8 s1 hx.is hx.de _ _ _ ?_))
      simp only [Bool.false_eq_true, Bool.not_true, if_false]
      refine wpAny_bind (quiet_key e.2 _ 8 s1 he.is he.de _ _ _ ?_)
      simp only [Bool.false_eq_true, Bool.not_true, if_false]
      refine wpAny_bind (nostmt_key k _ 8 hx.is hx.de _ _ _ ?_)
      simp only [Bool.false_eq_true, if_false]
      refine wpAny_bind (nostmt_key e.2 _ 8 he.is he.de _ _ _ ?_)
      simp only [Bool.false_eq_true, if_false]
      exact wpAny_pure ⟨rfl, rfl, all'⟩
  · rintro ⟨z1, z2⟩ s1 ⟨rfl, hz, _⟩
    cases (show z1 = none from hz)
    exact wpAny_pure q
end
section
variable {P : Program} {w : World} {A : Around} {E : Value → Shared → Prop} {s : Shared}
/-- the c-th step of the way of a hash -/
abbrev stp (m : Nat) (h : Int) (c : Nat) : SetTable.Probe := nth m (runAt m (SetTable.bits h % (m + 1)) (SetTable.bits h)) c
theorem stp_add (m : Nat) (h : Int) (c q : Nat) : nth m (stp m h c) q = stp m h (c + q) := (nth_add m c _ q).symm
theorem nth_dum (m : Nat) : ∀ (n : Nat) (p : SetTable.Probe), p.dummy = none → (nth m p n).dummy = none
  | 0, _, h => h
  | n + 1, p, h => nth_dum m n (adv m p) (by unfold adv; split <;> exact h)
/-- what stands at a -/
structure NTab (w : World) (o : Obj) (L : List NMem) (es : Array (Int × Value)) (ep : Nat) (t : SetTable) : Prop where
  ex : o.ExactSet
  dat : o.data = .set es ep t
  row : es.toList = L.map (nrow w)
  tab : TabOk t (L.map (nh w))
  pl : t.plain = true
  ld : w.params.followText "set-order" = true ∨ t.led = true
  rm : L.length * 5 < t.mask * 3
structure NSet (w : World) (h : Heap) (a : Addr) (L : List NMem) : Prop where
  at' : ∃ o es ep t, h.get? a = some o ∧ NTab w o L es ep t
  dif : (L.map Prod.snd).Nodup
  few : L.length < 64
variable {a : Addr} {L : List NMem} {o : Obj} {es : Array (Int × Value)} {ep : Nat} {t : SetTable}
theorem NTab.sz (R : NTab w o L es ep t) : es.size = L.length := by
  have h := congrArg List.length R.row
  simpa using h
theorem NTab.fit (R : NTab w o L es ep t) : t.fits es.size = true := by
  have h1 := R.tab.sz
  have h2 := R.sz
  have h3 := R.rm
  have h4 : t.dummies.size = 0 := by rw [R.tab.dm]; rfl
  rw [List.length_map] at h1
  have h5 : t.fill = t.place.size + t.dummies.size := rfl
  show (t.place.size == es.size && decide (t.fill ≤ t.mask)) = true
  rw [h1, h2, beq_self_eq_true, h5, h4, h1, Bool.true_and]
  exact decide_eq_true (by omega)
theorem NTab.ent (R : NTab w o L es ep t) {i : Nat} {e : NMem} (h : L[i]? = some e) : es[i]? = some (nrow w e) := by
  rw [← Array.getElem?_toList, R.row, List.getElem?_map, h]
  rfl
theorem NTab.odd (R : NTab w o L es ep t) : ¬ t.gaveWay = true := by
  unfold SetTable.gaveWay
  rw [mask_odd R.tab.mok]
  exact by decide
/-- the search, from the c-th step on -/
theorem nsearch_from (ho : s.heap.get? a = some o) (R : NTab w o L es ep t) (hL : ∀ e ∈ L, NKey s.heap e.2 e.1) {x : Addr} {k : NestedKey} (hx : NKey s.heap k x) (hu : A.units + 8 < cLine) (ad : Bool) {J : Nat} (hJ : J < 10 * SetTable.turns t.mask)
    (hout : way t.mask (k.hash w) J ∉ t.place.toList) (hin : ∀ c, c < J → way t.mask (k.hash w) c ∈ t.place.toList) {Q : SetFound → Shared → Prop}
    (q1 : k ∈ L.map Prod.snd → ∀ r : Option Nat, (ad = false → r.isSome = true) → Q (.there r) s) (q2 : k ∉ L.map Prod.snd → Q (.free (way t.mask (k.hash w) J) false) s) :
    ∀ (f c : Nat) (sd : Option SetTable.Probe), sd.getD (t.probeStart (k.hash w)) = stp t.mask (k.hash w) c → c ≤ J → J - c < f →
      (∀ (i : Nat) (e : NMem), L[i]? = some e → e.2 = k → ∃ c', c ≤ c' ∧ c' < J ∧ t.place.toList[i]? = some (way t.mask (k.hash w) c')) →
      wpAny (model P w) A (setSearchFrom a (.ref x) (k.hash w) ad f sd) Q E s
  | 0, _, _, _, _, hf, _ => absurd hf (Nat.not_lt_zero _)
  | f + 1, c, sd, hs, hc, hf, hw => by
    rw [setSearchFrom_succ]
    refine wpAny_bind (wpAny_setState_of ho R.dat R.fit ?_)
    dsimp only
    refine wp_if_neg R.odd ?_
    try refine wpAny_bind (wpAny_pure ?_)
    have ej : ∀ q, (nth t.mask (stp t.mask (k.hash w) c) q).j = way t.mask (k.hash w) (c + q) := fun q => congrArg SetTable.Probe.j (stp_add ..)
    have eJ : c + (J - c) = J := by omega
    have word := go_spec t R.tab.ris R.tab.dm (fun i => (es[i]?.map (·.1)).getD 0) (k.hash w) (10 * SetTable.turns t.mask) (J - c) (stp t.mask (k.hash w) c) (nth_dum _ c _ rfl) (by omega)
      (fun q hq => by rw [ej]; exact hin _ (by omega)) (by rw [ej, eJ]; exact hout)
    have hAt : ∀ (i : Nat) (e : NMem), L[i]? = some e → (fun i => (es[i]?.map (·.1)).getD 0) i = nh w e := fun i e he => by
      show (es[i]?.map (·.1)).getD 0 = _
      rw [R.ent he]
      rfl
    rcases word with ⟨q, i, hq, hi, hh, nob, hp⟩ | ⟨nob, hp⟩
    · have hp' : t.probe (fun i => (es[i]?.map (·.1)).getD 0) (k.hash w) (sd.getD (t.probeStart (k.hash w))) = some (.candidate (way t.mask (k.hash w) (c + q)) i (stp t.mask (k.hash w) (c + (q + 1)))) := by
        rw [hs, ← ej, ← stp_add]
        exact hp
      rw [hp']
      dsimp only
      rw [ej] at hi
      have il : i < L.length := by
        have h1 := (List.getElem?_eq_some_iff.mp hi).1
        have h2 := R.tab.sz
        rw [List.length_map] at h2
        rw [Array.length_toList] at h1
        omega
      obtain ⟨e, he⟩ : ∃ e, L[i]? = some e := ⟨_, List.getElem?_eq_getElem il⟩
      have em : e ∈ L := List.mem_of_getElem? he
      have sl : t.slot (way t.mask (k.hash w) (c + q)) = .live i := slot_live R.tab.ris hi
      have more : wpAny (model P w) A (searchRest a (.ref x) (k.hash w) ad f es t (way t.mask (k.hash w) (c + q)) i (stp t.mask (k.hash w) (c + (q + 1)))) Q E s := by
        unfold searchRest
        rw [R.ent he]
        dsimp only
        refine wpAny_bind (wpAny_holding ((nestedKind P w).eqBool (show A.units + 8 < cLine from hu) ⟨(hL e em).is, (hL e em).de⟩ ⟨hx.is, hx.de⟩ ?_))
        refine wpAny_bind (wpAny_setState_of ho R.dat R.fit ?_)
        dsimp only
        by_cases ek : e.2 = k
        · have mem : k ∈ L.map Prod.snd := List.mem_map.mpr ⟨e, em, ek⟩
          cases ad with
          | true =>
            refine wp_if_pos (by rw [decide_eq_true ek]; rfl) ?_
            exact wpAny_pure (q1 mem none (fun z => nomatch z))
          | false =>
            refine wp_if_neg (by simp) ?_
            try refine wpAny_bind (wpAny_pure ?_)
            rw [sameMem]
            dsimp only
            simp only [if_true, sl, R.ent he]
            refine wpAny_bind (wpAny_isSame_ref_self (wpAny_bind (wpAny_pure ?_)))
            simp only [if_true]
            refine wp_if_pos (by rw [decide_eq_true ek]) ?_
            exact wpAny_pure (q1 mem (some i) (fun _ => rfl))
        · refine wp_if_neg (by rw [decide_eq_false ek, Bool.and_false]; decide) ?_
          try refine wpAny_bind (wpAny_pure ?_)
          rw [sameMem]
          dsimp only
          simp only [if_true, sl, R.ent he]
          refine wpAny_bind (wpAny_isSame_ref_self (wpAny_bind (wpAny_pure ?_)))
          simp only [if_true]
          refine wp_if_neg (by rw [decide_eq_false ek]; decide) ?_
          refine nsearch_from ho R hL hx hu ad hJ hout hin q1 q2 f (c + (q + 1)) _ rfl (by omega) (by omega) fun i0 e0 he0 ek0 => ?_
          obtain ⟨c', b1, b2, b3⟩ := hw i0 e0 he0 ek0
          refine ⟨c', ?_, b2, b3⟩
          have no1 : ¬ c' < c + q := fun z => by
            refine nob (c' - c) i0 (by omega) (by rw [ej, show c + (c' - c) = c' by omega]; exact b3) ((hAt i0 e0 he0).trans ?_)
            show NestedKey.hash w e0.2 = _
            rw [ek0]
          have no2 : c' ≠ c + q := fun z => by
            rw [z] at b3
            have s0 := slot_live R.tab.ris b3
            rw [sl] at s0
            injection s0 with s0
            rw [← s0, he] at he0
            exact ek ((congrArg Prod.snd (Option.some.inj he0)).trans ek0)
          omega
      by_cases hl : t.led = true
      · refine wp_if_neg (by rw [hl]; decide) ?_
        try refine wpAny_bind (wpAny_pure ?_)
        exact more
      · refine wp_if_pos (by cases h : t.led with | true => exact absurd h hl | false => rfl) (wpAny_bind (seen_nk hx (fun y hy => ?_) ?_))
        · obtain ⟨r, hr, rfl⟩ := List.mem_map.mp hy
          have hr2 : r ∈ es.toList := by
            have z : r ∈ es := (Array.mem_filter.mp (Array.mem_toList_iff.mp hr)).1
            exact Array.mem_toList_iff.mpr z
          rw [R.row] at hr2
          obtain ⟨e2, he2, rfl⟩ := List.mem_map.mp hr2
          exact ⟨e2, rfl, hL e2 he2⟩
        · refine wp_if_neg (by decide) ?_
          try refine wpAny_bind (wpAny_pure ?_)
          exact more
    · have hp' : t.probe (fun i => (es[i]?.map (·.1)).getD 0) (k.hash w) (sd.getD (t.probeStart (k.hash w))) = some (.empty (way t.mask (k.hash w) J) none) := by
        have z := ej (J - c)
        rw [eJ] at z
        rw [hs, ← z]
        exact hp
      rw [hp']
      dsimp only
      refine wpAny_pure (q2 fun hm => ?_)
      obtain ⟨e0, he0, ek0⟩ := List.mem_map.mp hm
      obtain ⟨i0, hi0, e1⟩ := List.getElem_of_mem he0
      have he1 : L[i0]? = some e0 := by rw [List.getElem?_eq_getElem hi0, e1]
      obtain ⟨c', b1, b2, b3⟩ := hw i0 e0 he1 ek0
      refine nob (c' - c) i0 (by omega) (by rw [ej, show c + (c' - c) = c' by omega]; exact b3) ((hAt i0 e0 he1).trans ?_)
      show NestedKey.hash w e0.2 = _
      rw [ek0]
theorem nsearch_at (ho : s.heap.get? a = some o) (R : NTab w o L es ep t) (hL : ∀ e ∈ L, NKey s.heap e.2 e.1) {x : Addr} {k : NestedKey} (hx : NKey s.heap k x) (hu : A.units + 8 < cLine) (ad : Bool) {Q : SetFound → Shared → Prop}
    (q1 : k ∈ L.map Prod.snd → ∀ r : Option Nat, (ad = false → r.isSome = true) → Q (.there r) s)
    (q2 : ∀ J, k ∉ L.map Prod.snd → way t.mask (k.hash w) J ∉ t.place.toList → (∀ c, c < J → way t.mask (k.hash w) c ∈ t.place.toList) → Q (.free (way t.mask (k.hash w) J) false) s) :
    wpAny (model P w) A (setSearch a (.ref x) (k.hash w) ad) Q E s := by
  have rm := R.rm
  obtain ⟨J, hJ, hout, hin⟩ := R.tab.first (by rw [List.length_map]; omega) (k.hash w)
  have small : J < 100000 := by
    have : 10 * SetTable.turns t.mask ≤ 1420 := by
      unfold SetTable.turns
      rcases R.tab.mok with e | e | e <;> omega
    omega
  refine nsearch_from ho R hL hx hu ad hJ hout hin q1 (fun hn => q2 J hn hout hin) 100000 0 none rfl (Nat.zero_le _) (by omega) fun i e he ek => ?_
  have hi : (L.map (nh w))[i]? = some (k.hash w) := by
    rw [List.getElem?_map, he, ← ek]
    rfl
  have il : i < t.place.toList.length := by
    have h1 := (List.getElem?_eq_some_iff.mp he).1
    have h2 := R.tab.sz
    rw [List.length_map] at h2
    rw [Array.length_toList]
    omega
  obtain ⟨c, hc, e2⟩ := R.tab.before hout hi (List.getElem?_eq_getElem il)
  exact ⟨c, Nat.zero_le _, hc, (List.getElem?_eq_getElem il).trans (congrArg some e2.symm)⟩
end
section
variable {P : Program} {w : World} {A : Around} {E : Value → Shared → Prop} {s : Shared}
variable {a : Addr} {L : List NMem} {o : Obj} {es : Array (Int × Value)} {ep : Nat} {t : SetTable}
/-- a key is not the set -/
theorem NKey.same {h h' : Heap} {k : NestedKey} {b : Addr} (x : NKey h k b) (ho : h.get? a = some o) (hd : o.data = .set es ep t) (sb : Heap.SameBut a h h') : NKey h' k b :=
  ⟨NestedIs.at (fun c u us n hc hu => (sb.2 c fun z => by
    rw [z, ho] at hc
    cases hc
    rw [hd] at hu
    cases hu).trans hc) k _ x.is, x.de, x.nu⟩
theorem NKey.keep {h h' : Heap} {k : NestedKey} {b : Addr} (x : NKey h k b) (hk : ∀ c u, h.get? c = some u → h'.get? c = some u) : NKey h' k b := ⟨NestedIs.at (fun c u _ _ hc _ => hk c u hc) k _ x.is, x.de, x.nu⟩
theorem NSet.keep {h h' : Heap} (R : NSet w h a L) (hk : ∀ u, h.get? a = some u → h'.get? a = some u) : NSet w h' a L := by
  obtain ⟨⟨o, es, ep, t, ho, r⟩, d, f⟩ := R
  exact ⟨⟨o, es, ep, t, hk o ho, r⟩, d, f⟩
/-- rows in another order -/
theorem rows_order (L : List NMem) (es : Array (Int × Value)) (hr : es.toList = L.map (nrow w)) : ∀ l : List Nat, (∀ i ∈ l, i < L.length) →
    ∃ L2 : List NMem, L2 = l.filterMap (fun i => L[i]?) ∧ l.filterMap (fun i => es[i]?) = L2.map (nrow w) ∧ L2.map (nh w) = l.map fun i => (es.map (·.1)).getD i 0
  | [], _ => ⟨[], rfl, rfl, rfl⟩
  | i :: l, hl => by
    obtain ⟨L2, e1, e2, e3⟩ := rows_order L es hr l fun j hj => hl j (List.mem_cons_of_mem _ hj)
    have hi := hl i List.mem_cons_self
    have g1 : L[i]? = some L[i] := List.getElem?_eq_getElem hi
    have g2 : es[i]? = some (nrow w L[i]) := by
      rw [← Array.getElem?_toList, hr, List.getElem?_map, g1]
      rfl
    refine ⟨L[i] :: L2, ?_, ?_, ?_⟩
    · rw [List.filterMap_cons_some g1, e1]
    · rw [List.filterMap_cons_some g2, e2]
      rfl
    · rw [List.map_cons, List.map_cons, e3]
      have g3 : (es.map (·.1))[i]? = some (nh w L[i]) := by
        rw [Array.getElem?_map, g2]
        rfl
      rw [show (es.map (·.1)).getD i 0 = nh w L[i] by rw [Array.getD_eq_getD_getElem?, g3]; rfl]
theorem filt_all {α : Type} (L : List α) : ∀ n, n ≤ L.length → (List.range n).filterMap (fun i => L[i]?) = L.take n
  | 0, _ => rfl
  | n + 1, hn => by
    have g : L[n]? = some L[n] := List.getElem?_eq_getElem hn
    rw [List.range_succ, List.filterMap_append, filt_all L n (by omega), List.filterMap_cons_some g, List.take_succ, g]
    rfl
/-- the table laid anew -/
theorem nrelay (ho : s.heap.get? a = some o) (hex : o.ExactSet) (hd : o.data = .set es ep t) (hr : es.toList = L.map (nrow w)) (hz : t.place.size = es.size) (hdm : t.dummies = #[]) (hm : es.size ≤ t.mask)
    (pl : t.plain = true) (ld : w.params.followText "set-order" = true ∨ t.led = true) {wanted M : Nat} (hw : SetTable.sizeAbove wanted - 1 = M) (hM : MaskOk M) (hw2 : SetTable.sizeAbove wanted ≤ 128) (hn : L.length * 5 < M * 3)
    {Q : Unit → Shared → Prop} (q : ∀ h' L', Heap.SameBut a s.heap h' → (∃ o es ep t, h'.get? a = some o ∧ NTab w o L' es ep t) → L'.Perm L → Q () { s with heap := h' }) : wpAny (model P w) A (setRelay a wanted) Q E s := by
  have hsl : es.size = L.length := by simpa using congrArg List.length hr
  have fit : t.fits es.size = true := by
    have z1 : t.dummies.size = 0 := by rw [hdm]; rfl
    have z2 : t.fill = t.place.size + t.dummies.size := rfl
    show (t.place.size == es.size && decide (t.fill ≤ t.mask)) = true
    rw [z2, z1, hz, beq_self_eq_true, Bool.true_and]
    exact decide_eq_true hm
  obtain ⟨t', order, e, perm, T, em, el, ep', ed⟩ := relaid_ok t (hs := es.map (·.1)) (wanted := wanted) hw hM (by rw [Array.size_map]; omega)
  rw [Array.size_map, hsl] at perm
  obtain ⟨L2, r1, r2, r3⟩ := rows_order (w := w) L es hr order.toList fun i hi => List.mem_range.mp (perm.mem_iff.mp hi)
  have pm : L2.Perm L := by
    have h1 := perm.filterMap fun i => L[i]?
    rw [filt_all L _ (Nat.le_refl _), List.take_length, ← r1] at h1
    exact h1
  have r4 : (order.filterMap (es[·]?)).toList = L2.map (nrow w) := by
    rw [← r2, Array.toList_filterMap]
  have r5 : (order.filterMap (es[·]?)).size = es.size := by
    have z := congrArg List.length r4
    rw [Array.length_toList, List.length_map, pm.length_eq] at z
    omega
  rw [← r3] at T
  rw [setRelay_eq]
  refine wpAny_bind (wpAny_setState_of ho hd fit ?_)
  dsimp only
  refine wp_if_neg (by rw [sizeLine_eq]; omega) ?_
  try refine wpAny_bind (wpAny_pure ?_)
  rw [e]
  dsimp only
  refine wpAny_bind ?_
  refine wp_if_neg (by rw [r5]; simp) ?_
  try refine wpAny_bind (wpAny_pure ?_)
  refine wpAny_pure ?_
  dsimp only
  refine wpAny_storeSet_of ho hd ?_ (by rw [r5, hsl, sizeLine_eq]; omega)
  have sb : Heap.SameBut a s.heap (s.heap.update a (Obj.putSet (order.filterMap (es[·]?)) t')) := Heap.SameBut.update ..
  exact q _ L2 sb ⟨_, _, ep + 1, t', store_at ho hd, ⟨hex.1, hex.2.1, hex.2.2⟩, rfl, r4, T, ep'.trans pl, ld.elim .inl fun z => .inr (el.trans z), by rw [pm.length_eq, em]; exact hn⟩ pm
/-- adding a key -/
theorem nadd (ho : s.heap.get? a = some o) (R : NTab w o L es ep t) (nd : (L.map Prod.snd).Nodup) (hL : ∀ e ∈ L, NKey s.heap e.2 e.1) {x : Addr} {k : NestedKey} (hx : NKey s.heap k x) (hu : A.units + 8 < cLine) (few : L.length + 1 < 64) {Q : Bool → Shared → Prop}
    (q : ∀ b h' L', Heap.SameBut a s.heap h' → NSet w h' a L' → (k ∈ L.map Prod.snd → L' = L) → (k ∉ L.map Prod.snd → L'.Perm ((x, k) :: L)) → Q b { s with heap := h' }) :
    wpAny (model P w) A (setAddHashed a (.ref x) (k.hash w)) Q E s := by
  have hsl := R.sz
  have rm := R.rm
  unfold setAddHashed
  refine wpAny_holding ?_
  rw [show (100000 : Nat) = 99999 + 1 from rfl, setAddHashedIn_succ]
  refine wpAny_bind (wpAny_setState_of ho R.dat R.fit ?_)
  dsimp only
  refine wp_if_neg (by simp [Value.scannable, byScan]) ?_
  try refine wpAny_bind (wpAny_pure ?_)
  refine wpAny_bind (nsearch_at ho R hL hx hu true (fun hm r _ => ?_) fun J hm hout hin => ?_)
  · dsimp only
    exact wpAny_pure (q false s.heap L (Heap.SameBut.refl a s.heap) ⟨⟨o, es, ep, t, ho, R⟩, nd, by omega⟩ (fun _ => rfl) fun z => absurd hm z)
  dsimp only
  refine wpAny_bind (wpAny_setState_of ho R.dat R.fit ?_)
  dsimp only
  obtain ⟨p1, p2, p3, p4, p5, p6, p7, p8, p9⟩ := R.tab.put hout hin
  have pl1 : (t.put (way t.mask (k.hash w) J)).1.plain = true := p6.trans R.pl
  have ld1 : w.params.followText "set-order" = true ∨ (t.put (way t.mask (k.hash w) J)).1.led = true := R.ld.elim .inl fun z => .inr (p5.trans z)
  have ins : (SetTable.insertAt es (SetTable.below t.place (way t.mask (k.hash w) J)) (k.hash w, Value.ref x)).toList = (L.take (SetTable.below t.place (way t.mask (k.hash w) J)) ++ (x, k) :: L.drop (SetTable.below t.place (way t.mask (k.hash w) J))).map (nrow w) := by
    rw [SetTable.toList_insertAt, R.row, List.map_append, List.map_cons, List.map_take, List.map_drop]
  have hss : (L.take (SetTable.below t.place (way t.mask (k.hash w) J)) ++ (x, k) :: L.drop (SetTable.below t.place (way t.mask (k.hash w) J))).map (nh w) = (L.map (nh w)).take (SetTable.below t.place (way t.mask (k.hash w) J)) ++ k.hash w :: (L.map (nh w)).drop (SetTable.below t.place (way t.mask (k.hash w) J)) := by
    rw [List.map_append, List.map_cons, List.map_take, List.map_drop]
  rw [← hss] at p3
  have pm := put_perm L (SetTable.below t.place (way t.mask (k.hash w) J)) (x, k)
  rw [p1]
  generalize SetTable.below t.place (way t.mask (k.hash w) J) = b at *
  generalize hL1 : L.take b ++ (x, k) :: L.drop b = L1 at *
  generalize hes : SetTable.insertAt es b (k.hash w, Value.ref x) = es1 at *
  generalize (t.put (way t.mask (k.hash w) J)).1 = t1 at *
  have len1 : L1.length = L.length + 1 := pm.length_eq
  have sz1 : es1.size = L.length + 1 := by
    have z := congrArg List.length ins
    rw [Array.length_toList, List.length_map, len1] at z
    exact z
  have nd1 : (L1.map Prod.snd).Nodup := (pm.map Prod.snd).nodup_iff.mpr (List.nodup_cons.mpr ⟨hm, nd⟩)
  first
    | (refine wpAny_bind ?_; refine wp_if_pos pl1 ?_; refine byval_key k _ 8 hx.is hx.nu hx.de _ _ _ ?_)
    | refine wp_if_pos pl1 (wpAny_bind (byval_key k _ 8 hx.is hx.nu hx.de _ _ _ ?_))
  simp only [if_true]
  refine wpAny_bind (wpAny_storeSet_of ho R.dat ?_ (by rw [sz1, sizeLine_eq]; omega))
  have sb : Heap.SameBut a s.heap (s.heap.update a (Obj.putSet es1 t1)) := Heap.SameBut.update ..
  have ho1 := store_at (es' := es1) (t' := t1) ho R.dat
  generalize s.heap.update a (Obj.putSet es1 t1) = h1 at sb ho1 ⊢
  have hex := R.ex
  have fl : t1.fill = L.length + 1 := by rw [p9, List.length_map]
  by_cases hf : t1.tooFull = true
  · first
      | (refine wpAny_bind ?_; refine wp_if_pos (by rw [hf]; rfl) ?_)
      | (refine wp_if_pos (by rw [hf]; rfl) ?_; refine wpAny_bind ?_)
    have full : (L.length + 1) * 5 ≥ t1.mask * 3 := by
      have z := hf
      unfold SetTable.tooFull at z
      rw [fl] at z
      exact of_decide_eq_true z
    rw [hsl]
    have pz : t1.place.size = es1.size := by rw [p3.sz, List.length_map, len1, sz1]
    have two : (t.mask = 7 ∧ L.length = 4) ∨ (t.mask = 31 ∧ L.length = 18) := by
      rw [p4] at full
      rcases R.tab.mok with e | e | e
      · exact .inl ⟨e, by rw [e] at full rm; omega⟩
      · exact .inr ⟨e, by rw [e] at full rm; omega⟩
      · rw [e] at full; omega
    have go : ∀ M, SetTable.sizeAbove (SetTable.grown (L.length + 1)) - 1 = M → MaskOk M → SetTable.sizeAbove (SetTable.grown (L.length + 1)) ≤ 128 → (L.length + 1) * 5 < M * 3 →
        wpAny (model P w) A (setRelay a (SetTable.grown (L.length + 1))) (fun _ s' => wpAny (model P w) A (pure true) Q E s') E { s with heap := h1 } := fun M g1 g2 g3 g4 =>
      nrelay (s := { s with heap := h1 }) ho1 ⟨hex.1, hex.2.1, hex.2.2⟩ rfl ins pz p3.dm (by rcases two with ⟨e1, e2⟩ | ⟨e1, e2⟩ <;> omega) pl1 ld1 g1 g2 g3 (by rw [len1]; exact g4)
        fun h2 L2 sb2 R2 pm2 => wpAny_pure (q true h2 L2 (sb.trans sb2) ⟨R2, (pm2.map Prod.snd).nodup_iff.mpr nd1, by rw [pm2.length_eq, len1]; exact few⟩ (fun z => absurd z hm) fun _ => pm2.trans pm)
    rcases two with ⟨_, e2⟩ | ⟨_, e2⟩
    · exact go 31 (by rw [e2, size_20]) (.inr (.inl rfl)) (by rw [e2, size_20]; decide) (by omega)
    · exact go 127 (by rw [e2, size_76]) (.inr (.inr rfl)) (by rw [e2, size_76]; decide) (by omega)
  · first
      | refine wp_if_neg (by rw [Bool.not_eq_true] at hf; rw [hf]; simp) ?_
      | (refine wpAny_bind ?_; refine wp_if_neg (by rw [Bool.not_eq_true] at hf; rw [hf]; simp) ?_; refine wpAny_pure ?_)
    refine wpAny_pure (q true h1 L1 sb ⟨⟨_, es1, ep + 1, t1, ho1, ⟨hex.1, hex.2.1, hex.2.2⟩, rfl, ins, p3, pl1, ld1, ?_⟩, nd1, by rw [len1]; exact few⟩ (fun z => absurd z hm) fun _ => pm)
    have z := hf
    unfold SetTable.tooFull at z
    rw [fl, decide_eq_true_eq] at z
    rw [len1]
    omega
end
/-- the set at a, as an object of the view -/
def NSO (w : World) (a : Addr) (L : List NMem) : HO := .ext fun h => NSet w h a L
/-- its members stand -/
def NMs (K : PySem.W.Frag) (H : Hp) (L : List NMem) : Prop := ∀ e ∈ L, Dp K H (.ref e.1) e.2.data ∧ e.2.depth ≤ 8 ∧ nkNum e.2 = true
theorem nset_ok {P : Program} {w : World} {H : Hp} {h : Heap} {a : Addr} {L : List NMem} (R : NSet w h a L) : ObjOk P w H h a (NSO w a L) := by
  refine ⟨R, ?_, fun h1 h2 x k => NSet.keep x k⟩
  obtain ⟨⟨o, es, ep, t, ho, _⟩, _⟩ := R
  exact ⟨o, ho⟩
section
variable {w : World} {X : Cx} {pins : List (Addr × Obj)} {σ : L2.St} {H : Hp} {s : Shared}
mutual
theorem dp_nki (I : Inv X pins σ H s) : ∀ (k : NestedKey) (v : V) (u : Value), Dp X.K H v k.data → RelV v u → NestedIs s.heap k u
  | .none, v, u, h, r => by
    have z : Dp X.K H v PyData.none := h
    cases z
    cases (show u = Value.none from r)
    exact .none
  | .num i, v, u, h, r => by
    rw [dp_int (show Dp X.K H v (.int i) from h)] at r
    obtain ⟨t, rfl⟩ := (show ∃ t, u = Value.int i t from r)
    exact .int i t
  | .text x, v, u, h, r => by
    have z : Dp X.K H v (PyData.str x) := h
    cases z
    obtain ⟨t, rfl⟩ := (show ∃ t, u = Value.str x t from r)
    exact .text x t
  | .tup ks, v, u, h, r => by
    obtain ⟨a, xs, rfl, h1, h2⟩ := dp_tup (show Dp X.K H v (.tuple (NestedKey.datas ks)) from h)
    cases (show u = Value.ref a from r)
    obtain ⟨its, rv, ⟨o, h3, h4, n, h5⟩, _⟩ := I.tuple h1
    exact .tup h3 h4 h5 (dp_nkis I ks xs its h2 rv)
theorem dp_nkis (I : Inv X pins σ H s) : ∀ (ks : List NestedKey) (vs : List V) (us : List Value), DpAll X.K H vs (NestedKey.datas ks) → Vals vs us → NestedAll s.heap ks us
  | [], vs, us, h, r => by
    rw [dpa_nil (show DpAll X.K H vs [] from h)] at r
    cases r
    exact .nil
  | k :: ks, vs, us, h, r => by
    obtain ⟨v, t, rfl, h1, h2⟩ := dpa_cons (show DpAll X.K H vs (k.data :: NestedKey.datas ks) from h)
    cases r with
    | cons r1 r2 => exact .cons (dp_nki I k v _ h1 r1) (dp_nkis I ks t _ h2 r2)
end
theorem NMs.raw {L : List NMem} (I : Inv X pins σ H s) (h : NMs X.K H L) : ∀ e ∈ L, NKey s.heap e.2 e.1 := fun e he => ⟨dp_nki I e.2 _ _ (h e he).1 rfl, (h e he).2.1, (h e he).2.2⟩
theorem nso_get {a : Addr} {L : List NMem} (I : Inv X pins σ H s) (e : H a = some (NSO w a L)) : NSet w s.heap a L := (I.hok a _ e).1
/-- set() -/
def rSetN0 (w : World) : List V → Hp → VK → Prop := fun xs H Q => xs = [] ∧ ∀ p, H p = none → Q (.ref p) (upd H p (NSO w p []))
theorem cr_setN0 : CallR X (.type "set") (rSetN0 X.w) := by
  rintro pins s σ H xs us Q I r ⟨rfl, q⟩
  cases r
  refine setR_new fun _ => ?_
  have no : H s.heap.objs.size = none := I.hok.fresh (Nat.le_refl _)
  have new : NSet X.w (s.heap.push { cls := .type "set", dict := none, data := .set #[] 0 (.fresh 0 0 (!X.w.params.followText "set-order")) }) s.heap.objs.size [] :=
    ⟨⟨_, #[], 0, _, Heap.get?_push_size _ rfl, ⟨rfl, rfl, rfl⟩, rfl, rfl, ⟨List.Pairwise.nil, rfl, rfl, .inl rfl, (fun x hx => nomatch hx), fun i h j hi => nomatch hi⟩, rfl, (by
      show _ ∨ (!X.w.params.followText "set-order") = true
      cases X.w.params.followText "set-order" with
      | true => exact .inl rfl
      | false => exact .inr rfl), (by show 0 * 5 < 7 * 3; decide)⟩, List.nodup_nil, (by show 0 < 64; decide)⟩
  exact ⟨.ref s.heap.objs.size, upd H s.heap.objs.size (NSO X.w s.heap.objs.size []), I.laid (t' := s.toks) (fun b u e => Heap.get?_push_of_some _ e) (Nat.le_refl _) (nset_ok new), rfl, q _ no⟩
/-- k not in seen -/
def rNotInS (w : World) (K : PySem.W.Frag) : R2 := fun x y H Q => ∃ (b a : Addr) (k : NestedKey) (L : List NMem), x = .ref b ∧ y = .ref a ∧ H a = some (NSO w a L) ∧ NMs K H L ∧ Dp K H (.ref b) k.data ∧ k.depth ≤ 8 ∧ nkNum k = true ∧ Q (.bl (!(L.map Prod.snd).any fun z => decide (z = k))) H
theorem op_notInS (K : PySem.W.Frag) (hu : X.A.units + 65 < cLine) (h : X.K = K := by rfl) : OpR X (compareOp .NotIn) (rNotInS X.w K) := by
  subst h
  rintro pins s σ H x y v u Q I rx ry ⟨b, a, k, L, rfl, rfl, ea, hL, hk, hd, hn, q⟩
  cases rx
  cases ry
  have key : NKey s.heap k b := ⟨dp_nki I k _ _ hk rfl, hd, hn⟩
  have ms := hL.raw I
  obtain ⟨⟨o, es, ep, t, ho, R⟩, nd, few⟩ := nso_get I ea
  have ty : s.TypeIs (.ref a) "set" := ⟨o, ho, R.ex.1⟩
  show wpAny _ _ (do return Value.bool (!(← contains (.ref a) (.ref b)))) _ _ s
  refine wpAny_bind ?_
  unfold contains
  try with_reducible refine wpAny_holding ?_
  refine wpAny_bind (wpAny_specialOf ty F.slot_set_contains.lookup ?_)
  show wpAny _ _ (if (some (Value.builtin "set.__contains__") == some Value.none) = true then _ else _) _ _ s
  rw [if_neg (by rw [beq_builtin_none]; exact fun z => nomatch z)]
  refine wpAny_bind (wpAny_callSpecialUnlessNone?_slot (name := Str.ofString "__contains__") ty F.slot_set_contains
    (wpAny_call_entry F.slot_set_contains ty entry_set_contains ?_ (F.args_set_contains_2 _ _)))
  unfold Builtin.«frozenset.__contains__» Builtin.Frozenset.oneOther
  simp only [bind_assoc, List.isEmpty_nil]
  unfold Builtin.Frozenset.addrOf Builtin.Frozenset.withSetAsKey setContains
  refine wpAny_bind (wpAny_pure ?_)
  try dsimp only
  refine wpAny_bind (wpAny_pure ?_)
  try dsimp only
  refine wpAny_bind (wpAny_tryCatch (wpAny_holding (wpAny_bind (pyHash_key k _ _ s _ key.is (by simp only [Around.in1_units]; omega) ?_))))
  have ans : ∀ r : Option Nat, (r.isSome = (L.map Prod.snd).any fun z => decide (z = k)) → EP X pins σ Q (Value.bool !r.isSome) { s with toks := s.toks + k.draws } := fun r e => by
    rw [e]
    exact ⟨.bl _, H, I.tok _, rfl, q⟩
  have yes : k ∈ L.map Prod.snd → ((L.map Prod.snd).any fun z => decide (z = k)) = true := fun z => List.any_eq_true.mpr ⟨k, z, decide_eq_true rfl⟩
  have no : k ∉ L.map Prod.snd → ((L.map Prod.snd).any fun z => decide (z = k)) = false := fun z => by
    refine Bool.eq_false_iff.mpr fun y => ?_
    obtain ⟨k', m, e⟩ := List.any_eq_true.mp y
    rw [of_decide_eq_true e] at m
    exact z m
  unfold setFind
  rw [show (100000 : Nat) = 99999 + 1 from rfl]
  unfold setFindIn
  refine wpAny_bind (wpAny_bind (wpAny_setState_of (s := { s with toks := s.toks + k.draws }) ho R.dat R.fit ?_))
  dsimp only
  refine wp_if_neg (by simp [Value.scannable, byScan]) ?_
  try refine wpAny_bind (wpAny_pure ?_)
  refine wpAny_bind (nsearch_at (s := { s with toks := s.toks + k.draws }) ho R ms key (by simp only [Around.in1_units]; omega) false (fun hm r hr => ?_) fun J hm _ _ => ?_)
  · dsimp only
    refine wpAny_pure (wpAny_pure ?_)
    show wpAny _ _ (ret (Value.bool r.isSome)) _ _ _
    exact wpAny_pure ⟨_, rfl, wpAny_truthy_bool (wpAny_pure (ans r (by rw [hr rfl, yes hm])))⟩
  · dsimp only
    refine wpAny_pure (wpAny_pure ?_)
    show wpAny _ _ (ret (Value.bool (none : Option Nat).isSome)) _ _ _
    exact wpAny_pure ⟨_, rfl, wpAny_truthy_bool (wpAny_pure (ans none (by rw [no hm]; rfl)))⟩
/-- seen.add(k) -/
def rAddS (w : World) (K : PySem.W.Frag) : V → List V → Hp → VK → Prop := fun x xs H Q => ∃ (a b : Addr) (k : NestedKey) (L : List NMem), x = .ref a ∧ xs = [.ref b] ∧ H a = some (NSO w a L) ∧ NMs K H L ∧ Dp K H (.ref b) k.data ∧ k.depth ≤ 8 ∧ nkNum k = true ∧ L.length + 1 < 64 ∧
  ∀ L' : List NMem, (k ∈ L.map Prod.snd → L' = L) → (k ∉ L.map Prod.snd → L'.Perm ((b, k) :: L)) → Q .non (upd H a (NSO w a L'))
theorem mt_addS (hu : X.A.units + 65 < cLine) : MtR X "set.add" (rAddS X.w X.K) := by
  rintro pins s σ H x xs v us Q I rx rxs ⟨a, b, k, L, rfl, rfl, ea, hL, hk, hd, hn, few, q⟩
  cases rx
  cases rxs with
  | cons ry rt =>
    cases rt
    cases ry
    have key : NKey s.heap k b := ⟨dp_nki I k _ _ hk rfl, hd, hn⟩
    have ms := hL.raw I
    obtain ⟨⟨o, es, ep, t, ho, R⟩, nd, _⟩ := nso_get I ea
    refine wpAny_call_entry F.slot_set_add (show s.TypeIs (.ref a) "set" from ⟨o, ho, R.ex.1⟩) F.entry_set_add ?_ (F.args_set_add_2 _ _)
    unfold Builtin.«set.add» Builtin.Frozenset.oneOther
    simp only [bind_assoc, List.isEmpty_nil]
    unfold Builtin.Frozenset.addrOf setAdd
    refine wpAny_bind (wpAny_pure ?_)
    try dsimp only
    refine wpAny_bind (wpAny_pure ?_)
    try dsimp only
    refine wpAny_bind (wpAny_holding (wpAny_bind (pyHash_key k _ _ s _ key.is (by simp only [Around.in1_units]; omega) ?_)))
    refine nadd (s := { s with toks := s.toks + k.draws }) ho R nd ms key (by simp only [Around.in1_units]; omega) few fun z h' L' sb R' y1 y2 => ?_
    show wpAny _ _ (ret Value.none) _ _ _
    have ex' : ∃ u, h'.get? a = some u := by
      obtain ⟨⟨o', _, _, _, ho', _⟩, _⟩ := R'
      exact ⟨o', ho'⟩
    exact wpAny_pure ⟨_, rfl, .non, _, I.write (t' := s.toks + k.draws) (by rw [ea]; trivial) (.inl rfl) (fun c u hc e => (sb.2 c hc).trans e) ex' (nset_ok R'), rfl, q L' y1 y2⟩
def tAddS (w : World) (K : PySem.W.Frag) (to : TE) (t : TA) : TE := fun σ H Q => to σ H fun x H1 => (∃ a L, x = V.ref a ∧ H1 a = some (NSO w a L)) ∧ t σ H1 fun xs H2 => rAddS w K x xs H2 Q
theorem pe_addS {to : TE} {t : TA} {o e : Expr} {es : List Expr} {apos cpos : Pos} (hu : X.A.units + 65 < cLine) (ho : PE X o to) (ha : PA X (e :: es) t)
    (b0 : attributeBase o "add" X.env (eval o X.env) = eval o X.env := by rfl)
    (b1 : ((backTo cpos (starEach (e :: es) X.env)).all (fun x => !x.1) && (backToKw cpos (keywordEach [] X.env)).all (fun x => x.1.isSome) && decide ((e :: es).length + ([] : List Keyword).length + (if ([] : List Keyword).isEmpty then 0 else 1) < 30)) = true := by rfl)
    (b2 : (apos.endLine == cpos.line) = true := by rfl) (b3 : starEach (e :: es) X.env = (false, eval e X.env) :: starEach es X.env := by rfl) (b4 : (backTo cpos (starEach es X.env)).any (·.1) = false := by rfl) :
    PE X (.Call (.Attribute o "add" apos) (e :: es) [] cpos) (tAddS X.w X.K to t) :=
  ⟨fun pins s σ H Q I h => wpAny_Call_method_late b0 b1 b2 rfl (thn (ho.run pins s σ H _ I h) fun v s1 q => by
    obtain ⟨x, H1, I1, r1, ⟨a, L, rfl, ea⟩, q1⟩ := q
    obtain ⟨⟨o1, _, _, _, ho1, R⟩, _⟩ := nso_get I1 ea
    cases r1
    have args := ha.run cpos pins s1 σ H1 _ I1 q1
    rw [b3] at args
    refine ⟨"set", "set.add", F.plainAttrs_set, F.slot_set_add, F.type_set_add, ⟨o1, ho1, R.ex.1⟩, fun c ec => by cases ec; exact ⟨o1, ho1, R.ex.2.1⟩, ?_⟩
    rw [b3]
    refine Calls.callWith_builtin (by show (false || (backTo cpos (starEach es X.env)).any (·.1)) = false; rw [b4]; rfl) (Calls.evalArgs_plain (thn args fun us s2 z => ?_))
    obtain ⟨vs, H2, I2, r2, q2⟩ := z
    exact mt_addS hu pins s2 σ H2 (.ref a) vs _ us Q I2 rfl r2 q2)⟩
end
section
variable {X : Cx}
/-- name = {k: v for ..} on one line, the keys numbers or texts, the name a local -/
theorem ps_setDcK {i : Nat} {y : Str} {py spos : Pos} {kx vx tg iter : Expr} {ifs : List Expr} {scope : Scope} {own : List (Str × Nat)} {pos : Pos} {wi : TI} {g : TG} {tt : TT} {tk tv : TE} (hc : X.calm = true) (hN : X.N.Nodup) (hy : X.N[i]? = some y) (hyl : X.env.scope.names.lookup y = some .local) (sw : swapsWith (.DictComp kx vx [⟨tg, iter, ifs, 0⟩] scope pos) (some (.Name y py)) spos.line X.env = pure true) (hi : PI X tg iter wi) (ok : BlkOk X.N X.env.scope scope own)
    (hg : ∀ (s : Shared) (H : Hp) (C : Addr) (cl : List (Str × Addr)) (fp : List Addr), PG (X.blk s H scope (compEnvC scope cl C X.env) fp) tg g)
    (ht : ∀ (s : Shared) (H : Hp) (C : Addr) (cl : List (Str × Addr)) (fp : List Addr), PTs (X.blk s H scope (compEnvC scope cl C X.env) fp) ifs tt)
    (hk : ∀ (s : Shared) (H : Hp) (C : Addr) (cl : List (Str × Addr)) (fp : List Addr), PE (X.blk s H scope (compEnvC scope cl C X.env) fp) kx tk)
    (hv : ∀ (s : Shared) (H : Hp) (C : Addr) (cl : List (Str × Addr)) (fp : List Addr), PE (X.blk s H scope (compEnvC scope cl C X.env) fp) vx tv) (hs : ∀ x, foldedSetIterable iter X.env x = pure x := by intro _; rfl) :
    PS X (.Assign [.Name y py] (.DictComp kx vx [⟨tg, iter, ifs, 0⟩] scope pos) spos) (tAsg (tDc wi g tt tk tv (own.map (·.2))) (gName i)) := by
  constructor
  intro pins s0 σ H D I0 h
  rw [exec_Assign_Name_used _ _ _ _ sw]
  refine wpAny_bind (wpAny_standAt (wpAny_bind ?_))
  have h1 : tDc wi g tt tk tv (own.map (·.2)) σ H (fun x H1 => gName i x σ H1 D.nx) := h
  show wpAny _ X.A (do let _ ← comprehension (.DictComp kx vx [⟨tg, iter, ifs, 0⟩] scope pos) scope X.env (firstIterPos [⟨tg, iter, ifs, 0⟩] pos) newDict false (eval iter X.env) (some (assign (.Name y py) X.env))) _ _ s0
  refine wpAny_bind (thn (dc_core (Qf := fun _ s' => SP X pins D .next s') hc hN I0 hi ok hg ht hk hv hs h1 ?_) fun _ s' z => wpAny_pure (wpAny_pure z))
  intro L C s' m H' I' q ns fo
  show wpAny _ _ (assign (.Name y py) X.env (.ref L)) _ _ _
  refine wpAny_assign_Name (store_ok2 (v := V.ref L) I' hN hy (.inl hyl) rfl ?_ (.inr hyl))
  rintro s2 I2 ⟨a, sb, ha⟩
  obtain ⟨f0, f1, f2, f3, f4, f5⟩ := fo
  have ne : C ≠ a := by
    rcases ha with z | z
    · rw [z]
      exact f1
    · exact (f4 y a z).symm
  exact ⟨m, ns.sameBut sb ne, fun h3 sb3 => ⟨_, H', I2.turned (t' := s2.toks) (fun b o hb z => (sb3.2 b hb).trans z) f0 f1 f3 f4 f5, q⟩⟩
theorem sw_dck {kx vx : Expr} {gs : List Comprehension} {scope : Scope} {pos py : Pos} {y : Str} {l : Nat} {env : Env} (hk : env.scope.kind = .function) (hy : env.scope.names.lookup y = some .local) (hl : (py.line == pos.line) = true)
    (no : (scope.names.any fun (n, k) => n == y && (k == .local || k == .cell)) = false) : swapsWith (.DictComp kx vx gs scope pos) (some (.Name y py)) l env = pure true := by
  have k1 : env.blockKind = .function := by unfold Env.blockKind; rw [hk]; rfl
  have k2 : env.kindOf y = some .local := hy
  unfold swapsWith
  simp only [k1, k2, no, Expr.pos, hl]
  rfl
end
/-- over a list that stays -/
theorem dck_list {K : PySem.W.Frag} {a : Addr} {xs : List V} {g : TG} {tt : TT} {tk tv : TE} {vs : List Nat} {σ : L2.St} {H1 : Hp} {D : Addr} {Qd : Hp → Prop} (Pv : Nat → Hp → Prop) (h0 : Pv 0 (upd H1 D (.dK []))) (hl : ∀ i H, i ≤ xs.length → Pv i H → SqL K H a xs)
    (hs : ∀ i x H, xs[i]? = some x → Pv i H → (g x (wipe σ vs) H fun σ2 H2 => wipe σ2 vs = wipe σ vs ∧ tt σ2 H2 fun b H3 => if b = true then tk σ2 H3 fun y H4 => tv σ2 H4 fun z H5 => ∃ kvs k, y = kV k ∧ H5 D = some (.dK kvs) ∧ kvs.length < sizeLine ∧ Pv (i + 1) (upd H5 D (.dK (putK kvs k z))) else Pv (i + 1) H3)) (hd : ∀ H, Pv xs.length H → Qd H) :
    ∃ W : Nat → Nat → Hp → Prop, (∃ m, W 0 m (upd H1 D (.dK []))) ∧ ∀ i m H, W i m H →
      ((Itl K a).stop i H ∧ Qd H) ∨ ((Itl K a).go i H ∧ ∃ Nx : Hp → Prop, (∀ H', Nx H' → ∃ m', m' < m ∧ W (i + 1) m' H') ∧ ∀ x H', (Itl K a).yld i H x H' → (g x (wipe σ vs) H' fun σ2 H2 => wipe σ2 vs = wipe σ vs ∧ tt σ2 H2 fun b H3 => if b = true then tk σ2 H3 fun y H4 => tv σ2 H4 fun z H5 => ∃ kvs k, y = kV k ∧ H5 D = some (.dK kvs) ∧ kvs.length < sizeLine ∧ Nx (upd H5 D (.dK (putK kvs k z))) else Nx H3)) := by
  refine ⟨fun i m H => i + m = xs.length ∧ Pv i H, ⟨xs.length, Nat.zero_add _, h0⟩, ?_⟩
  rintro i m H ⟨im, p⟩
  have l := hl i H (by omega) p
  cases m with
  | zero =>
    obtain rfl : i = xs.length := im
    exact .inl ⟨⟨xs, l, Nat.le_refl _⟩, hd H p⟩
  | succ m =>
    have il : i < xs.length := by omega
    refine .inr ⟨⟨xs, xs[i], l, List.getElem?_eq_getElem il⟩, Pv (i + 1), fun H' p' => ⟨m, Nat.lt_succ_self m, by omega, p'⟩, ?_⟩
    rintro x H' ⟨rfl, y⟩
    exact hs i x _ (y xs l) p
section
variable {K : PySem.W.Frag}
theorem tyx_lstQ {H : Hp} {a : Addr} {xs : List V} (h : SqL K H a xs) : TyX K H (.ref a) (.type "list") := by
  rcases h with (h | ⟨o, h⟩) | ⟨o, its, n, hl, hc, _⟩
  · exact .base (.lst h)
  · exact .base (.frz h)
  · exact .kList hl hc
theorem tyx_tupQ {H : Hp} {a : Addr} {xs : List V} (h : SqT K H a xs) : TyX K H (.ref a) (.type "tuple") := by
  rcases h with (h | ⟨o, h⟩) | ⟨o, its, n, hl, hc, _⟩
  · exact .base (.tup h)
  · exact .fTuple h
  · exact .kTuple hl hc
end
/-! ### machines as data, valid or not -/
structure MvI where
  st : Int
  pl : Int
  ns : Int
  np : Int
  sd : Option Int
  sh : List (Int × Int)
  deriving DecidableEq
def oIV : Option Int → V
  | none => .non
  | some d => .int d
def oID : Option Int → PyData
  | none => .none
  | some d => .int d
def prD (p : Int × Int) : PyData := .tuple [.int p.1, .int p.2]
def MvI.data (m : MvI) : PyData := .tuple [.int m.st, .int m.pl, .int m.ns, .int m.np, oID m.sd, .list (m.sh.map prD)]
structure MI where
  states : Int
  places : Int
  sst : Int
  cnts : List Int
  crew : Int
  moves : List MvI
def MI.data (M : MI) : PyData := .tuple [.int M.states, .int M.places, sitD M.sst M.cnts, .int M.crew, .list (M.moves.map MvI.data)]
structure GSh (sh : List (Int × Int)) (P : Int) : Prop where
  rg : ∀ p ∈ sh, (0 ≤ p.1 ∧ p.1 ≤ P - 1) ∧ (0 ≤ p.2 ∧ p.2 ≤ P - 1)
  asc : (sh.map (·.1)).Pairwise (· < ·)
  sep : ∀ p ∈ sh, p.2 ∉ sh.map (·.1)
structure GMv (m : MvI) (S P : Int) : Prop where
  st : 0 ≤ m.st ∧ m.st ≤ S - 1
  ns : 0 ≤ m.ns ∧ m.ns ≤ S - 1
  pl : 0 ≤ m.pl ∧ m.pl ≤ P - 1
  np : 0 ≤ m.np ∧ m.np ≤ P - 1
  sd : ∀ d, m.sd = some d → 0 ≤ d ∧ d ≤ P - 1
  sh : GSh m.sh P
structure GSt (s : Int) (cs : List Int) (S P : Int) : Prop where
  st : 0 ≤ s ∧ s ≤ S - 1
  ln : (cs.length : Int) = P
  nn : ∀ c ∈ cs, 0 ≤ c
structure GM (M : MI) : Prop where
  s : 1 ≤ M.states ∧ M.states ≤ 64
  p : 1 ≤ M.places ∧ M.places ≤ 96
  st : GSt M.sst M.cnts M.states M.places
  cr : 0 ≤ M.crew ∧ M.crew ≤ M.places - 1
  mv : ∀ m ∈ M.moves, GMv m M.states M.places
  nd : M.moves.Nodup
theorem valIsi {K : PySem.W.Frag} {te : TE} {σ : L2.St} {H : Hp} {x : V} {T T2 : String} {b : Bool} {Q : VK} (hx : ∀ Q : VK, Q x H → te σ H Q) (ty : TyX K H x (.type T)) (hb : kitB T T2 = some b) (q : Q (.bl b) H) :
    tCB (rIsi K) (tCons te (tCons (tC (.ty T2)) tNil)) σ H Q := hx _ ⟨x, _, _, _, b, rfl, .ty T2, ty, kit_ty hb, q⟩
theorem dp_pr {K : PySem.W.Frag} {H : Hp} {v : V} {p : Int × Int} (h : Dp K H v (prD p)) : ∃ a, v = .ref a ∧ SqT K H a [.int p.1, .int p.2] := by
  obtain ⟨a, xs, rfl, hs, h⟩ := dp_tup h
  obtain ⟨v1, r1, rfl, d1, h⟩ := dpa_cons h
  obtain ⟨v2, r2, rfl, d2, h⟩ := dpa_cons h
  rw [dp_int d1, dp_int d2, dpa_nil h] at hs
  exact ⟨a, rfl, hs⟩
theorem dp_oi {K : PySem.W.Frag} {H : Hp} {v : V} {o : Option Int} (h : Dp K H v (oID o)) : v = oIV o := by
  cases o with
  | none => cases h; rfl
  | some d => exact dp_int h
theorem oi_dp {K : PySem.W.Frag} {H : Hp} (o : Option Int) : Dp K H (oIV o) (oID o) := by
  cases o with
  | none => exact .non
  | some d => exact .int _
theorem decide_vint {i j : Int} : decide (V.int i = V.int j) = decide (i = j) := decide_eq_decide.mpr ⟨fun z => by injection z, fun z => z ▸ rfl⟩
theorem orF17 {A B : TT} {t u r : TS} {D : Ends} {σ : L2.St} {H : Hp} (ha : Ans A σ H false) (hb : Ans B σ H false) (h : tSeq u r D σ H) : tSeq (tIfS (tOr A B) t u) r D σ H := ansOr ha hb _ (iteF h)
/-- both of two bounds -/
def rng (i lo hi : Int) : Bool := decide (lo ≤ i) && decide (i ≤ hi)
theorem rng_t {i lo hi : Int} (h : rng i lo hi = true) : lo ≤ i ∧ i ≤ hi := by
  unfold rng at h
  rw [Bool.and_eq_true] at h
  exact ⟨of_decide_eq_true h.1, of_decide_eq_true h.2⟩
theorem rng_f {i lo hi : Int} (h : rng i lo hi = false) : ¬ (lo ≤ i ∧ i ≤ hi) := fun ⟨a, b⟩ => by
  unfold rng at h
  rw [decide_eq_true a, decide_eq_true b] at h
  cases h
section
variable {P : Program} {w : World} {K : PySem.W.Frag} {mg : Str → Option Value} {base : Heap} {CB : Addr}
abbrev s_is_number : Stmt := topS 7
theorem sc_is_number : FnScope ["thing", "least", "greatest"] ["thing", "least", "greatest"] (defScope s_is_number) := ⟨rfl, rfl, rfl, by decide +kernel, rfl, by decide +kernel, by decide +kernel⟩
-- is_number slots: thing=0 least=1 greatest=2 globals: isinstance bool int
def spIsNum (K : PySem.W.Frag) : Sp := fun vs H Q _ => ∃ (i lo hi : Int), vs = [.int i, .int lo, .int hi] ∧ Q (.bl (rng i lo hi)) H
theorem fd_is_number {f : Addr} {fd : FuncData} (F : Fun K "is_number" "is_number" s_is_number f fd) (m : mg "is_number" = some (.ref f)) (B : Bt mg) : Fd P w K mg base "is_number" ["thing", "least", "greatest"] 1 (spIsNum K) := by
  refine ⟨f, fd, F.ok sc_is_number (fun vs H Q E h => ?_) (fun cdv A outer s H vs Q E hr h => ?_), m, F.kp, F.binds (ps := ["thing", "least", "greatest"]) fun _ _ _ _ _ _ us hl => match us, hl with | [_, _, _], _ => rfl⟩
  · obtain ⟨i, lo, hi, rfl, _⟩ := h
    rfl
  obtain ⟨i, lo, hi, rfl, q⟩ := h
  refine ⟨_, (pss_cons (ps_if (PW.pt (pw_or (pt_val (pe_callB (cIsi K) (by rfl) B.isinstance (by decide +kernel) (pa_cons (pv 0) (pa_cons (pe_bltn (v := .ty "bool") (by rfl) B.bool (by decide +kernel) rfl) pa_nil)))) (pw_or1 (pt_not (pt_val (pe_callB (cIsi K) (by rfl) B.isinstance (by decide +kernel) (pa_cons (pv 0) (pa_cons (pe_bltn (v := .ty "int") (by rfl) B.int (by decide +kernel) rfl) pa_nil))))))))
 (pss_one (ps_ret pe_bl))
 pss_nil)
 (pss_one (ps_ret (pe_chain op_le op_le (pv 1) (pv 0) (pv 2))))), ?_⟩
  refine orF17 (ansIsi (T := "int") (b := false) (fun Q q => ⟨_, rfl, q⟩) (.base (.int _)) (by decide +kernel)) (ans_not (ansIsi (T := "int") (b := true) (fun Q q => ⟨_, rfl, q⟩) (.base (.int _)) (by decide +kernel))) ?_
  refine ⟨_, rfl, _, rfl, _, _, rfl, rfl, _, rfl, ?_⟩
  unfold rng at q
  by_cases h1 : lo ≤ i
  · rw [decide_eq_true h1] at q ⊢
    exact iteT ⟨_, rfl, _, _, rfl, rfl, q⟩
  · rw [decide_eq_false h1] at q ⊢
    exact iteF q
abbrev s_is_index : Stmt := topS 16
theorem sc_is_index : FnScope ["thing", "size"] ["thing", "size"] (defScope s_is_index) := ⟨rfl, rfl, rfl, by decide +kernel, rfl, by decide +kernel, by decide +kernel⟩
-- is_index slots: thing=0 size=1 globals: is_number
def spIsIdx (K : PySem.W.Frag) : Sp := fun vs H Q _ => ∃ (i n : Int), vs = [.int i, .int n] ∧ Q (.bl (rng i 0 (n - 1))) H
theorem fd_is_index {f : Addr} {fd : FuncData} (F : Fun K "is_index" "is_index" s_is_index f fd) (m : mg "is_index" = some (.ref f)) (D_is_number : Fd P w K mg base "is_number" ["thing", "least", "greatest"] 1 (spIsNum K)) : Fd P w K mg base "is_index" ["thing", "size"] 2 (spIsIdx K) := by
  refine ⟨f, fd, F.ok sc_is_index (fun vs H Q E h => ?_) (fun cdv A outer s H vs Q E hr h => ?_), m, F.kp, F.binds (ps := ["thing", "size"]) fun _ _ _ _ _ _ us hl => match us, hl with | [_, _], _ => rfl⟩
  · obtain ⟨i, n, rfl, _⟩ := h
    rfl
  obtain ⟨i, n, rfl, q⟩ := h
  exact ⟨_, (pss_one (ps_ret (pe_fn D_is_number (hr.mono (by decide)) rfl (pa_cons (pv 0) (pa_cons pe_int (pa_cons (pe_op op_sub (pv 1) pe_int) pa_nil)))))), ⟨_, rfl, _, rfl, _, _, rfl, rfl, _, _, _, rfl, q⟩⟩
abbrev s_is_tuple : Stmt := topS 14
theorem sc_is_tuple : FnScope ["thing", "size"] ["thing", "size"] (defScope s_is_tuple) := ⟨rfl, rfl, rfl, by decide +kernel, rfl, by decide +kernel, by decide +kernel⟩
-- is_tuple slots: thing=0 size=1 globals: isinstance tuple len
def spIsTup (K : PySem.W.Frag) : Sp := fun vs H Q _ => ∃ (a : Addr) (xs : List V) (n : Int), vs = [.ref a, .int n] ∧ SqT K H a xs ∧ Q (.bl (decide ((xs.length : Int) = n))) H
theorem fd_is_tuple {f : Addr} {fd : FuncData} (F : Fun K "is_tuple" "is_tuple" s_is_tuple f fd) (m : mg "is_tuple" = some (.ref f)) (B : Bt mg) : Fd P w K mg base "is_tuple" ["thing", "size"] 1 (spIsTup K) := by
  refine ⟨f, fd, F.ok sc_is_tuple (fun vs H Q E h => ?_) (fun cdv A outer s H vs Q E hr h => ?_), m, F.kp, F.binds (ps := ["thing", "size"]) fun _ _ _ _ _ _ us hl => match us, hl with | [_, _], _ => rfl⟩
  · obtain ⟨a, xs, n, rfl, _⟩ := h
    rfl
  obtain ⟨a, xs, n, rfl, hs, q⟩ := h
  refine ⟨_, (pss_one (ps_ret (pe_and (pe_callB (cIsi K) (by rfl) B.isinstance (by decide +kernel) (pa_cons (pv 0) (pa_cons (pe_bltn (v := .ty "tuple") (by rfl) B.tuple (by decide +kernel) rfl) pa_nil))) (pe_one (pe_cmpR op_eq (pe_callB (cLen K) (by rfl) B.len PySem.boot_len (pa_cons (pv 0) pa_nil)) (pv 1) (nomark _)))))), ?_⟩
  refine valIsi (T := "tuple") (b := true) (fun Q q => ⟨_, rfl, q⟩) (tyx_tupQ hs) (by decide +kernel) ⟨_, rfl, iteT ⟨_, rfl, a, _, rfl, .inr hs, _, rfl, rfl, ?_⟩⟩
  rw [decide_vint]
  exact q
abbrev s_is_count : Stmt := topS 15
theorem sc_is_count : FnScope ["thing"] ["thing"] (defScope s_is_count) := ⟨rfl, rfl, rfl, by decide +kernel, rfl, by decide +kernel, by decide +kernel⟩
-- is_count slots: thing=0 globals: isinstance int bool
def spIsCnt (K : PySem.W.Frag) : Sp := fun vs H Q _ => ∃ (i : Int), vs = [.int i] ∧ Q (.bl (decide (0 ≤ i))) H
theorem fd_is_count {f : Addr} {fd : FuncData} (F : Fun K "is_count" "is_count" s_is_count f fd) (m : mg "is_count" = some (.ref f)) (B : Bt mg) : Fd P w K mg base "is_count" ["thing"] 1 (spIsCnt K) := by
  refine ⟨f, fd, F.ok sc_is_count (fun vs H Q E h => ?_) (fun cdv A outer s H vs Q E hr h => ?_), m, F.kp, F.binds (ps := ["thing"]) fun _ _ _ _ _ _ us hl => match us, hl with | [_], _ => rfl⟩
  · obtain ⟨i, rfl, _⟩ := h
    rfl
  obtain ⟨i, rfl, q⟩ := h
  refine ⟨_, (pss_one (ps_ret (pe_and (pe_callB (cIsi K) (by rfl) B.isinstance (by decide +kernel) (pa_cons (pv 0) (pa_cons (pe_bltn (v := .ty "int") (by rfl) B.int (by decide +kernel) rfl) pa_nil))) (pe_and (pe_not (pe_callB (cIsi K) (by rfl) B.isinstance (by decide +kernel) (pa_cons (pv 0) (pa_cons (pe_bltn (v := .ty "bool") (by rfl) B.bool (by decide +kernel) rfl) pa_nil)))) (pe_one (pe_cmpR op_ge (pv 0) pe_int (nomark _))))))), ?_⟩
  refine valIsi (T := "int") (b := true) (fun Q q => ⟨_, rfl, q⟩) (.base (.int _)) (by decide +kernel) ⟨_, rfl, iteT ?_⟩
  refine valIsi (T := "int") (b := false) (fun Q q => ⟨_, rfl, q⟩) (.base (.int _)) (by decide +kernel) ⟨_, rfl, _, rfl, iteT ⟨_, rfl, _, _, rfl, rfl, ?_⟩⟩
  exact q
abbrev s_demand : Stmt := topS 13
theorem sc_demand : FnScope ["wanted", "text"] ["wanted", "text"] (defScope s_demand) := ⟨rfl, rfl, rfl, by decide +kernel, rfl, by decide +kernel, by decide +kernel⟩
-- demand slots: wanted=0 text=1 globals: BadMachine
def spDem (CB : Addr) : Sp := fun vs H Q E => ∃ (b : Bool) (t : Str), vs = [.bl b, .str t] ∧ (b = true → Q .non H) ∧ (b = false → E (.ref CB) none H)
theorem fdX_demand {f : Addr} {fd : FuncData} (F : Fun K "demand" "demand" s_demand f fd) (m : mg "demand" = some (.ref f)) (XB : ExcX K mg "BadMachine" CB) : FdX P w K mg base "demand" ["wanted", "text"] 1 (spDem CB) := by
  refine ⟨f, fd, F.okX sc_demand (fun vs H Q E h => ?_) (fun cdv A outer s H vs Q E hr h => ?_), m, F.kp, F.binds (ps := ["wanted", "text"]) fun _ _ _ _ _ _ us hl => match us, hl with | [_, _], _ => rfl⟩
  · obtain ⟨b, t, rfl, _⟩ := h
    rfl
  obtain ⟨b, t, rfl, q1, q2⟩ := h
  refine ⟨_, (pss_one (ps_if (pt_not (ptTru K (pv 0) (by intro _; rfl)))
   (pss_one (ps_raise (W := fun cls d _ H => E cls d H) rfl (takes_of rfl rfl rfl rfl) (SkE.pmk_own1 PySem.F.excBase_ValueError XB.exc XB.gC XB.kC (raises_own XB.sub XB.ty) rfl (pv 1)))) pss_nil)), ?_⟩
  cases b with
  | true => exact ⟨_, rfl, true, rfl, iteF (q1 rfl)⟩
  | false => exact ⟨_, rfl, false, rfl, iteT ⟨_, rfl, q2 rfl⟩⟩
end
section
variable {P : Program} {w : World} {K : PySem.W.Frag} {mg : Str → Option Value} {base : Heap} {CB : Addr}
abbrev s_check_shifts : Stmt := topS 12
theorem sc_check_shifts : FnScope ["shifts", "places", "last", "pair", "first", "second", "fits", "firsts"] ["shifts", "places"] (defScope s_check_shifts) := ⟨rfl, rfl, rfl, by decide +kernel, rfl, by decide +kernel, by decide +kernel⟩
-- check_shifts slots: shifts=0 places=1 last=2 pair=3 first=4 second=5 fits=6 firsts=7 globals: demand is_tuple is_index
def spShf (K : PySem.W.Frag) (CB : Addr) : Sp := fun vs H Q E => ∃ (a : Addr) (xs : List V) (sh : List (Int × Int)) (Pl : Int), vs = [.ref a, .int Pl] ∧ SqL K H a xs ∧ DpAll K H xs (sh.map prD) ∧ sh.length ≤ 1000 ∧
  (GSh sh Pl → ∀ H', Same H H' → Q .non H') ∧ (¬ GSh sh Pl → ∀ H', Same H H' → E (.ref CB) none H')
theorem fdX_check_shifts {f : Addr} {fd : FuncData} (F : Fun K "check_shifts" "check_shifts" s_check_shifts f fd) (m : mg "check_shifts" = some (.ref f)) (B : Bt mg) (DX_demand : FdX P w K mg base "demand" ["wanted", "text"] 1 (spDem CB)) (D_is_tuple : Fd P w K mg base "is_tuple" ["thing", "size"] 1 (spIsTup K)) (D_is_index : Fd P w K mg base "is_index" ["thing", "size"] 2 (spIsIdx K)) : FdX P w K mg base "check_shifts" ["shifts", "places"] 3 (spShf K CB) := by
  refine ⟨f, fd, F.okX sc_check_shifts (fun vs H Q E h => ?_) (fun cdv A outer s H vs Q E hr h => ?_), m, F.kp, F.binds (ps := ["shifts", "places"]) fun _ _ _ _ _ _ us hl => match us, hl with | [_, _], _ => rfl⟩
  · obtain ⟨a, xs, sh, Pl, rfl, _⟩ := h
    rfl
  obtain ⟨a, xs, sh, Pl, rfl, hs, hd, hl, q1, q2⟩ := h
  have xl := dpa_map_len hd
  refine ⟨_, (pss_cons (ps_set (i := 2) sc_check_shifts.nd rfl (Or.inl rfl) (pe_un un_neg pe_int))
 (pss_cons (ps_for (passes_of rfl) rfl (piL K (pv 0)) (pg_name (i := 3) sc_check_shifts.nd rfl (Or.inl rfl))
 (pss_cons (ps_expr (pe_fnX (W := fun cls d _ H => E cls d H) DX_demand (hr.mono (by decide)) rfl (takes_of rfl rfl rfl rfl) (pa_cons (pe_fn D_is_tuple (hr.mono (by decide)) rfl (pa_cons (pv 3) (pa_cons pe_int pa_nil))) (pa_cons pe_str pa_nil))))
 (pss_cons (ps_asg (pv 3) (pg_tup rfl (pgs_cons (pg_name (i := 4) sc_check_shifts.nd rfl (Or.inl rfl)) (pgs_cons (pg_name (i := 5) sc_check_shifts.nd rfl (Or.inl rfl)) pgs_nil))))
 (pss_cons (ps_set (i := 6) sc_check_shifts.nd rfl (Or.inl rfl) (pe_and (pe_fn D_is_index (hr.mono (by decide)) rfl (pa_cons (pv 4) (pa_cons (pv 1) pa_nil))) (pe_one (pe_fn D_is_index (hr.mono (by decide)) rfl (pa_cons (pv 5) (pa_cons (pv 1) pa_nil))))))
 (pss_cons (ps_expr (pe_fnX (W := fun cls d _ H => E cls d H) DX_demand (hr.mono (by decide)) rfl (takes_of rfl rfl rfl rfl) (pa_cons (pv 6) (pa_cons pe_str pa_nil))))
 (pss_cons (ps_expr (pe_fnX (W := fun cls d _ H => E cls d H) DX_demand (hr.mono (by decide)) rfl (takes_of rfl rfl rfl rfl) (pa_cons (pe_cmpR op_gt (pv 4) (pv 2) (nomark _)) (pa_cons pe_str pa_nil))))
 (pss_one (ps_set (i := 2) sc_check_shifts.nd rfl (Or.inl rfl) (pv 4)))))))))
 (pss_cons (ps_setDcK (i := 7) (own := [("pair", 3)]) (g := gName 3) (by rfl) sc_check_shifts.nd rfl rfl (sw_dck rfl rfl rfl (by decide +kernel)) (piL K (pv 0)) (blkOk_by (own := [("pair", 3)]) (N := ["shifts", "places", "last", "pair", "first", "second", "fits", "firsts"]) (sc := (defScope s_check_shifts)) (by decide +kernel)) (fun _ _ _ _ _ => (pg_name (i := 3) sc_check_shifts.nd rfl (Or.inl rfl))) (fun _ _ _ _ _ => pts_nil) (fun _ _ _ _ _ => (pe_ix (ixT K) (pv 3) pe_int (fun _ _ => rfl))) (fun _ _ _ _ _ => pe_bl))
 (pss_one (ps_for (passes_of rfl) rfl (piL K (pv 0)) (pg_name (i := 3) sc_check_shifts.nd rfl (Or.inl rfl))
 (pss_one (ps_expr (pe_fnX (W := fun cls d _ H => E cls d H) DX_demand (hr.mono (by decide)) rfl (takes_of rfl rfl rfl rfl) (pa_cons (pe_cmp (pc_dnotin (hu_of hr) (pe_ix (ixT K) (pv 3) pe_int (fun _ _ => rfl)) (pv 7))) (pa_cons pe_str pa_nil)))))))))), ?_⟩
  refine ⟨_, rfl, ?_⟩
  refine ⟨_, rfl, a, rfl, ⟨_, hs⟩, for_list (xs := xs) (fun i σ' H' => H' = H ∧ ∃ (y3 y4 y5 y6 : Option V) (l : Int), σ' = [some (.ref a), some (.int Pl), some (.int l), y3, y4, y5, y6, none] ∧ (l = -1 ∨ l ∈ (sh.take i).map (·.1)) ∧ (∀ p ∈ sh.take i, p.1 ≤ l) ∧
    (∀ p ∈ sh.take i, (0 ≤ p.1 ∧ p.1 ≤ Pl - 1) ∧ (0 ≤ p.2 ∧ p.2 ≤ Pl - 1)) ∧ ((sh.take i).map (·.1)).Pairwise (· < ·)) ?_ ?_ ?_ ?_⟩
  · exact ⟨rfl, _, _, _, _, -1, rfl, .inl rfl, (fun p hp => nomatch hp), (fun p hp => nomatch hp), .nil⟩
  · rintro i σ' H' _ ⟨rfl, _⟩
    exact hs
  · rintro i x σ' H' hx ⟨rfl, y3, y4, y5, y6, l, rfl, hl1, hl2, hr1, hpw⟩
    obtain ⟨p, hp, dx⟩ := dpa_map_at hd hx
    have pm := List.mem_of_getElem? hp
    obtain ⟨b, rfl, hb⟩ := dp_pr dx
    have tk := take_snoc hp
    dsimp only [gName]
    refine ⟨_, rfl, b, _, 2, rfl, hb, _, _, rfl, fun _ => ?_, fun z => nomatch (show true = false from z)⟩
    refine ⟨_, rfl, b, _, rfl, hb, rfl, _, _, rfl, _, _, rfl, rfl, ?_⟩
    dsimp only [gName]
    refine ⟨_, rfl, _, rfl, _, _, rfl, _, rfl, ?_⟩
    have bad : ¬ ((0 ≤ p.1 ∧ p.1 ≤ Pl - 1) ∧ (0 ≤ p.2 ∧ p.2 ≤ Pl - 1)) → E (.ref CB) none H' := fun z => q2 (fun g => z (g.rg p pm)) _ (Same.refl _)
    by_cases c1 : rng p.1 0 (Pl - 1) = true
    · rw [if_pos c1]
      have r1 := rng_t c1
      refine ⟨_, rfl, _, rfl, _, _, rfl, ?_⟩
      dsimp only [gName]
      refine ⟨_, rfl, _, _, rfl, fun c2 => ?_, fun c2 => bad fun g => rng_f c2 g.2⟩
      have r2 := rng_t c2
      refine ⟨_, rfl, _, rfl, _, _, rfl, rfl, _, _, rfl, fun c3 => ?_, fun c3 => ?_⟩
      · have g := of_decide_eq_true c3
        refine ⟨_, rfl, rfl, _, _, _, _, p.1, rfl, .inr ?_, fun q hq => ?_, fun q hq => ?_, ?_⟩
        · rw [tk, List.map_append]
          exact List.mem_append.mpr (.inr List.mem_cons_self)
        · rw [tk] at hq
          rcases List.mem_append.mp hq with hq | hq
          · have := hl2 q hq
            omega
          · rw [List.mem_singleton.mp hq]
            omega
        · rw [tk] at hq
          rcases List.mem_append.mp hq with hq | hq
          · exact hr1 q hq
          · rw [List.mem_singleton.mp hq]
            exact ⟨r1, r2⟩
        · rw [tk, List.map_append]
          refine List.pairwise_append.mpr ⟨hpw, List.pairwise_singleton _ _, fun u hu v hv => ?_⟩
          obtain ⟨q, hq, rfl⟩ := List.mem_map.mp hu
          rw [List.mem_singleton.mp hv]
          have := hl2 q hq
          show q.1 < p.1
          omega
      · refine q2 (fun g => ?_) _ (Same.refl _)
        have ng := of_decide_eq_false c3
        rcases hl1 with e | e
        · omega
        · have asc := g.asc
          have e2 : sh.map (·.1) = (sh.take (i + 1)).map (·.1) ++ (sh.drop (i + 1)).map (·.1) := by rw [← List.map_append, List.take_append_drop]
          rw [e2, tk, List.map_append] at asc
          have z := (List.pairwise_append.mp (List.pairwise_append.mp asc).1).2.2 l e p.1 List.mem_cons_self
          exact ng z
    · have c1' := Bool.eq_false_iff.mpr c1
      rw [if_neg c1]
      dsimp only [gName]
      exact ⟨_, rfl, _, _, rfl, (fun z => nomatch z), fun _ => bad fun g => rng_f c1' g.1⟩
  · rintro σ' H' ⟨rfl, y3, y4, y5, y6, l, rfl, _, _, hr1, hpw⟩
    rw [xl, List.take_length] at hr1 hpw
    refine ⟨_, rfl, a, rfl, ⟨_, hs⟩, fun D nD => dck_list (xs := xs) (fun i H2 => Same H' H2 ∧ ∃ kvs, H2 D = some (.dK kvs) ∧ kvs.length ≤ i ∧ ∀ j : Int, (valV kvs (.inl j)).isSome = true ↔ j ∈ (sh.take i).map (·.1)) ?_ ?_ ?_ ?_⟩
    · exact ⟨same_new nD, [], upd_same, Nat.le_refl _, fun j => ⟨(fun z => nomatch z), fun z => nomatch z⟩⟩
    · rintro i H2 _ ⟨sm, _⟩
      exact sm.seq hs
    · rintro i x H2 hx ⟨sm, kvs, eD, kl, kin⟩
      obtain ⟨p, hp, dx⟩ := dpa_map_at hd hx
      obtain ⟨b, rfl, hb⟩ := dp_pr dx
      have il := (List.getElem?_eq_some_iff.mp hp).1
      refine ⟨rfl, _, rfl, _, _, _, _, rfl, rfl, Same.seqT sm hb, atI_nat (j := 0) rfl, kvs, .inl p.1, rfl, eD, sz (by omega), Same.mut sm nD, _, upd_same, ?_, fun j => ?_⟩
      · have := length_putK kvs (.inl p.1) (.bl true)
        omega
      · rw [valV_put, take_snoc hp, List.map_append]
        by_cases e : j = p.1
        · subst e
          rw [if_pos rfl]
          exact ⟨fun _ => List.mem_append.mpr (.inr List.mem_cons_self), fun _ => rfl⟩
        · rw [if_neg (fun z => e (by injection z)), kin j]
          refine ⟨fun z => List.mem_append.mpr (.inl z), fun z => ?_⟩
          rcases List.mem_append.mp z with z | z
          · exact z
          · exact absurd (List.mem_singleton.mp z) e
    · rintro H2 ⟨sm, kvs, eD, kl, kin⟩
      rw [xl, List.take_length] at kin
      dsimp only [gName]
      refine ⟨_, rfl, a, rfl, ⟨_, sm.seq hs⟩, for_list (xs := xs) (fun i σ' H3 => H3 = H2 ∧ ∃ (y3 : Option V), σ' = [some (.ref a), some (.int Pl), some (.int l), y3, y4, y5, y6, some (.ref D)] ∧ ∀ p ∈ sh.take i, p.2 ∉ sh.map (·.1)) ?_ ?_ ?_ ?_⟩
      · exact ⟨rfl, _, rfl, fun p hp => nomatch hp⟩
      · rintro i σ' H3 _ ⟨rfl, _⟩
        exact sm.seq hs
      · rintro i x σ' H3 hx ⟨rfl, y3', rfl, hsep⟩
        obtain ⟨p, hp, dx⟩ := dpa_map_at hd hx
        obtain ⟨b, rfl, hb⟩ := dp_pr dx
        dsimp only [gName]
        refine ⟨_, rfl, _, _, _, _, rfl, rfl, Same.seqT sm hb, atI_nat (j := 1) rfl, _, rfl, D, valV kvs (.inl p.2), rfl, DGet.k (k := .inl p.2) eD, _, _, rfl, fun c => ?_, fun c => ?_⟩
        · refine ⟨rfl, _, rfl, fun q hq => ?_⟩
          rw [take_snoc hp] at hq
          rcases List.mem_append.mp hq with hq | hq
          · exact hsep q hq
          · rw [List.mem_singleton.mp hq]
            intro z
            rw [(kin p.2).mpr z] at c
            cases c
        · refine q2 (fun g => g.sep p (List.mem_of_getElem? hp) ((kin p.2).mp ?_)) _ sm
          cases h : (valV kvs (.inl p.2)).isSome with
          | true => rfl
          | false =>
            rw [h] at c
            cases c
      · rintro σ' H3 ⟨rfl, y3', rfl, hsep⟩
        rw [xl, List.take_length] at hsep
        exact q1 ⟨hr1, hpw, hsep⟩ _ sm
end
section
variable {P : Program} {w : World} {K : PySem.W.Frag} {mg : Str → Option Value} {base : Heap} {CB : Addr}
abbrev s_check_start : Stmt := topS 10
theorem sc_check_start : FnScope ["start", "states", "places", "state", "counts", "fits", "count"] ["start", "states", "places"] (defScope s_check_start) := ⟨rfl, rfl, rfl, by decide +kernel, rfl, by decide +kernel, by decide +kernel⟩
-- check_start slots: start=0 states=1 places=2 state=3 counts=4 fits=5 count=6 globals: demand is_tuple is_index isinstance list len is_count
def spStrt (K : PySem.W.Frag) (CB : Addr) : Sp := fun vs H Q E => ∃ (v : V) (s : Int) (cs : List Int) (S Pl : Int), vs = [v, .int S, .int Pl] ∧ Sit K H v s cs ∧ (GSt s cs S Pl → Q .non H) ∧ (¬ GSt s cs S Pl → E (.ref CB) none H)
theorem fdX_check_start {f : Addr} {fd : FuncData} (F : Fun K "check_start" "check_start" s_check_start f fd) (m : mg "check_start" = some (.ref f)) (B : Bt mg) (DX_demand : FdX P w K mg base "demand" ["wanted", "text"] 1 (spDem CB)) (D_is_tuple : Fd P w K mg base "is_tuple" ["thing", "size"] 1 (spIsTup K)) (D_is_index : Fd P w K mg base "is_index" ["thing", "size"] 2 (spIsIdx K)) (D_is_count : Fd P w K mg base "is_count" ["thing"] 1 (spIsCnt K)) : FdX P w K mg base "check_start" ["start", "states", "places"] 3 (spStrt K CB) := by
  refine ⟨f, fd, F.okX sc_check_start (fun vs H Q E h => ?_) (fun cdv A outer s H vs Q E hr h => ?_), m, F.kp, F.binds (ps := ["start", "states", "places"]) fun _ _ _ _ _ _ us hl => match us, hl with | [_, _, _], _ => rfl⟩
  · obtain ⟨v, s, cs, S, Pl, rfl, _⟩ := h
    rfl
  obtain ⟨v, st, cs, S, Pl, rfl, hd, q1, q2⟩ := h
  obtain ⟨a, ca, rfl, h1, h2⟩ := hd
  refine ⟨_, (pss_cons (ps_expr (pe_fnX (W := fun cls d _ H => E cls d H) DX_demand (hr.mono (by decide)) rfl (takes_of rfl rfl rfl rfl) (pa_cons (pe_fn D_is_tuple (hr.mono (by decide)) rfl (pa_cons (pv 0) (pa_cons pe_int pa_nil))) (pa_cons pe_str pa_nil))))
 (pss_cons (ps_asg (pv 0) (pg_tup rfl (pgs_cons (pg_name (i := 3) sc_check_start.nd rfl (Or.inl rfl)) (pgs_cons (pg_name (i := 4) sc_check_start.nd rfl (Or.inl rfl)) pgs_nil))))
 (pss_cons (ps_expr (pe_fnX (W := fun cls d _ H => E cls d H) DX_demand (hr.mono (by decide)) rfl (takes_of rfl rfl rfl rfl) (pa_cons (pe_fn D_is_index (hr.mono (by decide)) rfl (pa_cons (pv 3) (pa_cons (pv 1) pa_nil))) (pa_cons pe_str pa_nil))))
 (pss_cons (ps_set (i := 5) sc_check_start.nd rfl (Or.inl rfl) (pe_and (pe_callB (cIsi K) (by rfl) B.isinstance (by decide +kernel) (pa_cons (pv 4) (pa_cons (pe_bltn (v := .ty "list") (by rfl) B.list (by decide +kernel) rfl) pa_nil))) (pe_one (pe_cmpR op_eq (pe_callB (cLen K) (by rfl) B.len PySem.boot_len (pa_cons (pv 4) pa_nil)) (pv 2) (nomark _)))))
 (pss_cons (ps_expr (pe_fnX (W := fun cls d _ H => E cls d H) DX_demand (hr.mono (by decide)) rfl (takes_of rfl rfl rfl rfl) (pa_cons (pv 5) (pa_cons pe_str pa_nil))))
 (pss_one (ps_for (passes_of rfl) rfl (piL K (pv 4)) (pg_name (i := 6) sc_check_start.nd rfl (Or.inl rfl))
 (pss_one (ps_expr (pe_fnX (W := fun cls d _ H => E cls d H) DX_demand (hr.mono (by decide)) rfl (takes_of rfl rfl rfl rfl) (pa_cons (pe_fn D_is_count (hr.mono (by decide)) rfl (pa_cons (pv 6) pa_nil)) (pa_cons pe_str pa_nil)))))))))))), ?_⟩
  refine ⟨_, rfl, a, _, 2, rfl, h1, _, _, rfl, fun _ => ?_, fun z => nomatch (show true = false from z)⟩
  refine ⟨_, rfl, a, _, rfl, h1, rfl, _, _, rfl, _, _, rfl, rfl, ?_⟩
  refine ⟨_, rfl, _, rfl, _, _, rfl, _, _, rfl, fun c1 => ?_, fun c1 => q2 fun g => rng_f c1 g.st⟩
  have r1 := rng_t c1
  dsimp only
  refine valIsi (T := "list") (b := true) (fun Q q => ⟨_, rfl, q⟩) (tyx_lstQ h2) (by decide +kernel) ⟨_, rfl, iteT ⟨_, rfl, ca, _, rfl, .inl h2, _, rfl, rfl, ?_⟩⟩
  rw [decide_vint, List.length_map]
  dsimp only [gName]
  refine ⟨_, rfl, _, _, rfl, fun c2 => ?_, fun c2 => q2 fun g => of_decide_eq_false c2 g.ln⟩
  have r2 := of_decide_eq_true c2
  refine ⟨_, rfl, ca, rfl, ⟨_, h2⟩, for_list (xs := cs.map V.int) (fun i σ' H' => H' = H ∧ ∃ (y5 y6 : Option V), σ' = [some (.ref a), some (.int S), some (.int Pl), some (.int st), some (.ref ca), y5, y6] ∧ ∀ c ∈ cs.take i, 0 ≤ c) ?_ ?_ ?_ ?_⟩
  · exact ⟨rfl, _, _, rfl, fun p hp => nomatch hp⟩
  · rintro i σ' H' _ ⟨rfl, _⟩
    exact h2
  · rintro i x σ' H' hx ⟨rfl, y5, y6, rfl, nn⟩
    obtain ⟨c, hc, rfl⟩ := get_map_inv hx
    dsimp only [gName]
    refine ⟨_, rfl, _, rfl, _, _, rfl, fun c3 => ⟨rfl, _, _, rfl, fun q hq => ?_⟩, fun c3 => q2 fun g => of_decide_eq_false c3 (g.nn c (List.mem_of_getElem? hc))⟩
    rw [take_snoc hc] at hq
    rcases List.mem_append.mp hq with hq | hq
    · exact nn q hq
    · rw [List.mem_singleton.mp hq]
      exact of_decide_eq_true c3
  · rintro σ' H' ⟨rfl, y5, y6, rfl, nn⟩
    rw [List.length_map, List.take_length] at nn
    exact q1 ⟨r1, r2, nn⟩
theorem dp_mi {K : PySem.W.Frag} {H : Hp} {v : V} {m : MvI} (h : Dp K H v m.data) : ∃ a sa xs, v = .ref a ∧ SqT K H a [.int m.st, .int m.pl, .int m.ns, .int m.np, oIV m.sd, .ref sa] ∧ SqL K H sa xs ∧ DpAll K H xs (m.sh.map prD) := by
  obtain ⟨a, xs, rfl, hs, h⟩ := dp_tup h
  obtain ⟨v1, r1, rfl, d1, h⟩ := dpa_cons h
  obtain ⟨v2, r2, rfl, d2, h⟩ := dpa_cons h
  obtain ⟨v3, r3, rfl, d3, h⟩ := dpa_cons h
  obtain ⟨v4, r4, rfl, d4, h⟩ := dpa_cons h
  obtain ⟨v5, r5, rfl, d5, h⟩ := dpa_cons h
  obtain ⟨v6, r6, rfl, d6, h⟩ := dpa_cons h
  obtain rfl := dpa_nil h
  obtain ⟨sa, ys, rfl, h1, h2⟩ := dp_lst d6
  rw [dp_int d1, dp_int d2, dp_int d3, dp_int d4, dp_oi d5] at hs
  exact ⟨a, sa, ys, rfl, hs, h1, h2⟩
abbrev s_check_move : Stmt := topS 11
theorem sc_check_move : FnScope ["move", "states", "places", "state", "place", "next_state", "next_place", "started", "shifts", "number"] ["move", "states", "places"] (defScope s_check_move) := ⟨rfl, rfl, rfl, by decide +kernel, rfl, by decide +kernel, by decide +kernel⟩
-- check_move slots: move=0 states=1 places=2 state=3 place=4 next_state=5 next_place=6 started=7 shifts=8 number=9 globals: demand is_tuple is_index isinstance list check_shifts
def spCkMv (K : PySem.W.Frag) (CB : Addr) : Sp := fun vs H Q E => ∃ (v : V) (m : MvI) (S Pl : Int), vs = [v, .int S, .int Pl] ∧ Dp K H v m.data ∧ m.sh.length ≤ 1000 ∧ (GMv m S Pl → ∀ H', Same H H' → Q .non H') ∧ (¬ GMv m S Pl → ∀ H', Same H H' → E (.ref CB) none H')
theorem fdX_check_move {f : Addr} {fd : FuncData} (F : Fun K "check_move" "check_move" s_check_move f fd) (m : mg "check_move" = some (.ref f)) (B : Bt mg) (DX_demand : FdX P w K mg base "demand" ["wanted", "text"] 1 (spDem CB)) (D_is_tuple : Fd P w K mg base "is_tuple" ["thing", "size"] 1 (spIsTup K)) (D_is_index : Fd P w K mg base "is_index" ["thing", "size"] 2 (spIsIdx K)) (DX_check_shifts : FdX P w K mg base "check_shifts" ["shifts", "places"] 3 (spShf K CB)) : FdX P w K mg base "check_move" ["move", "states", "places"] 4 (spCkMv K CB) := by
  refine ⟨f, fd, F.okX sc_check_move (fun vs H Q E h => ?_) (fun cdv A outer s H vs Q E hr h => ?_), m, F.kp, F.binds (ps := ["move", "states", "places"]) fun _ _ _ _ _ _ us hl => match us, hl with | [_, _, _], _ => rfl⟩
  · obtain ⟨v, m, S, Pl, rfl, _⟩ := h
    rfl
  obtain ⟨v, mv, S, Pl, rfl, hd, hl, q1, q2⟩ := h
  obtain ⟨a, sa, xs, rfl, h1, h2, h3⟩ := dp_mi hd
  refine ⟨_, (pss_cons (ps_expr (pe_fnX (W := fun cls d _ H => E cls d H) DX_demand (hr.mono (by decide)) rfl (takes_of rfl rfl rfl rfl) (pa_cons (pe_fn D_is_tuple (hr.mono (by decide)) rfl (pa_cons (pv 0) (pa_cons pe_int pa_nil))) (pa_cons pe_str pa_nil))))
 (pss_cons (ps_asg (pv 0) (pg_tup rfl (pgs_cons (pg_name (i := 3) sc_check_move.nd rfl (Or.inl rfl)) (pgs_cons (pg_name (i := 4) sc_check_move.nd rfl (Or.inl rfl)) (pgs_cons (pg_name (i := 5) sc_check_move.nd rfl (Or.inl rfl)) (pgs_cons (pg_name (i := 6) sc_check_move.nd rfl (Or.inl rfl)) (pgs_cons (pg_name (i := 7) sc_check_move.nd rfl (Or.inl rfl)) (pgs_cons (pg_name (i := 8) sc_check_move.nd rfl (Or.inl rfl)) pgs_nil))))))))
 (pss_cons (ps_for (passes_of rfl) rfl (piT K (pe_tup (pa_cons (pv 3) (pa_cons (pv 5) pa_nil)))) (pg_name (i := 9) sc_check_move.nd rfl (Or.inl rfl))
 (pss_one (ps_expr (pe_fnX (W := fun cls d _ H => E cls d H) DX_demand (hr.mono (by decide)) rfl (takes_of rfl rfl rfl rfl) (pa_cons (pe_fn D_is_index (hr.mono (by decide)) rfl (pa_cons (pv 9) (pa_cons (pv 1) pa_nil))) (pa_cons pe_str pa_nil))))))
 (pss_cons (ps_for (passes_of rfl) rfl (piT K (pe_tup (pa_cons (pv 4) (pa_cons (pv 6) pa_nil)))) (pg_name (i := 9) sc_check_move.nd rfl (Or.inl rfl))
 (pss_one (ps_expr (pe_fnX (W := fun cls d _ H => E cls d H) DX_demand (hr.mono (by decide)) rfl (takes_of rfl rfl rfl rfl) (pa_cons (pe_fn D_is_index (hr.mono (by decide)) rfl (pa_cons (pv 9) (pa_cons (pv 2) pa_nil))) (pa_cons pe_str pa_nil))))))
 (pss_cons (ps_expr (pe_fnX (W := fun cls d _ H => E cls d H) DX_demand (hr.mono (by decide)) rfl (takes_of rfl rfl rfl rfl) (pa_cons (pe_or (pe_cmpR op_isN (pv 7) pe_non (nomark _)) (pe_one (pe_fn D_is_index (hr.mono (by decide)) rfl (pa_cons (pv 7) (pa_cons (pv 2) pa_nil))))) (pa_cons pe_str pa_nil))))
 (pss_cons (ps_expr (pe_fnX (W := fun cls d _ H => E cls d H) DX_demand (hr.mono (by decide)) rfl (takes_of rfl rfl rfl rfl) (pa_cons (pe_callB (cIsi K) (by rfl) B.isinstance (by decide +kernel) (pa_cons (pv 8) (pa_cons (pe_bltn (v := .ty "list") (by rfl) B.list (by decide +kernel) rfl) pa_nil))) (pa_cons pe_str pa_nil))))
 (pss_one (ps_expr (pe_fnX (W := fun cls d _ H => E cls d H) DX_check_shifts (hr.mono (by decide)) rfl (takes_of rfl rfl rfl rfl) (pa_cons (pv 8) (pa_cons (pv 2) pa_nil))))))))))), ?_⟩
  refine ⟨_, rfl, a, _, 6, rfl, h1, _, _, rfl, fun _ => ?_, fun z => nomatch (show true = false from z)⟩
  refine ⟨_, rfl, a, _, rfl, h1, rfl, _, _, rfl, _, _, rfl, _, _, rfl, _, _, rfl, _, _, rfl, _, _, rfl, rfl, ?_⟩
  dsimp only [gName]
  refine ⟨_, rfl, _, rfl, szc 2, fun p np => ?_⟩
  have s1 := same_new (o := HO.tup [V.int mv.st, V.int mv.ns]) np
  refine ⟨p, rfl, ⟨_, .inl (.inl upd_same)⟩, for_tup (xs := [V.int mv.st, V.int mv.ns]) (fun i σ' H' => H' = upd H p (.tup [V.int mv.st, V.int mv.ns]) ∧ (∃ y9 : Option V, σ' = [some (.ref a), some (.int S), some (.int Pl), some (.int mv.st), some (.int mv.pl), some (.int mv.ns), some (.int mv.np), some (oIV mv.sd), some (.ref sa), y9]) ∧ ∀ z ∈ [mv.st, mv.ns].take i, 0 ≤ z ∧ z ≤ S - 1) ?_ ?_ ?_ ?_⟩
  · exact ⟨rfl, ⟨_, rfl⟩, fun p hp => nomatch hp⟩
  · rintro i σ' H' _ ⟨rfl, _⟩
    exact .inl (.inl upd_same)
  · rintro i x σ' H' hx ⟨rfl, ⟨y9, rfl⟩, al⟩
    obtain ⟨z, hz, rfl⟩ := get_map_inv (f := V.int) (xs := [mv.st, mv.ns]) hx
    dsimp only [gName]
    refine ⟨_, rfl, _, rfl, _, _, rfl, _, _, rfl, fun c3 => ⟨rfl, ⟨_, rfl⟩, fun q hq => ?_⟩, fun c3 => q2 (fun g => rng_f c3 ?_) _ s1⟩
    · rw [take_snoc hz] at hq
      rcases List.mem_append.mp hq with hq | hq
      · exact al q hq
      · rw [List.mem_singleton.mp hq]
        exact rng_t c3
    · have zm := List.mem_of_getElem? hz
      rcases List.mem_cons.mp zm with e | zm
      · exact e ▸ g.st
      · exact (List.mem_singleton.mp zm) ▸ g.ns
  rintro σ' H' ⟨rfl, ⟨y9, rfl⟩, al⟩
  have gst := al mv.st List.mem_cons_self
  have gns := al mv.ns (List.mem_cons_of_mem _ List.mem_cons_self)
  clear al
  generalize upd H p (HO.tup [V.int mv.st, V.int mv.ns]) = H1 at s1 ⊢
  refine ⟨_, rfl, _, rfl, szc 2, fun p2 np2 => ?_⟩
  have s2 := s1.trans (same_new (o := HO.tup [V.int mv.pl, V.int mv.np]) np2)
  refine ⟨p2, rfl, ⟨_, .inl (.inl upd_same)⟩, for_tup (xs := [V.int mv.pl, V.int mv.np]) (fun i σ' H' => H' = upd H1 p2 (.tup [V.int mv.pl, V.int mv.np]) ∧ (∃ y9 : Option V, σ' = [some (.ref a), some (.int S), some (.int Pl), some (.int mv.st), some (.int mv.pl), some (.int mv.ns), some (.int mv.np), some (oIV mv.sd), some (.ref sa), y9]) ∧ ∀ z ∈ [mv.pl, mv.np].take i, 0 ≤ z ∧ z ≤ Pl - 1) ?_ ?_ ?_ ?_⟩
  · exact ⟨rfl, ⟨_, rfl⟩, fun p hp => nomatch hp⟩
  · rintro i σ' H' _ ⟨rfl, _⟩
    exact .inl (.inl upd_same)
  · rintro i x σ' H' hx ⟨rfl, ⟨y9, rfl⟩, al⟩
    obtain ⟨z, hz, rfl⟩ := get_map_inv (f := V.int) (xs := [mv.pl, mv.np]) hx
    dsimp only [gName]
    refine ⟨_, rfl, _, rfl, _, _, rfl, _, _, rfl, fun c3 => ⟨rfl, ⟨_, rfl⟩, fun q hq => ?_⟩, fun c3 => q2 (fun g => rng_f c3 ?_) _ s2⟩
    · rw [take_snoc hz] at hq
      rcases List.mem_append.mp hq with hq | hq
      · exact al q hq
      · rw [List.mem_singleton.mp hq]
        exact rng_t c3
    · have zm := List.mem_of_getElem? hz
      rcases List.mem_cons.mp zm with e | zm
      · exact e ▸ g.pl
      · exact (List.mem_singleton.mp zm) ▸ g.np
  rintro σ' H' ⟨rfl, ⟨y9', rfl⟩, al⟩
  have gpl := al mv.pl List.mem_cons_self
  have gnp := al mv.np (List.mem_cons_of_mem _ List.mem_cons_self)
  clear al
  generalize upd H1 p2 (HO.tup [V.int mv.pl, V.int mv.np]) = H2 at s2 ⊢
  clear s1
  rcases hsd : mv.sd with _ | d
  · refine ⟨_, rfl, rfl, _, rfl, iteT ⟨_, _, rfl, fun _ => ?_, fun z => nomatch z⟩⟩
    dsimp only
    refine valIsi (T := "list") (b := true) (fun Q q => ⟨_, rfl, q⟩) (tyx_lstQ (s2.seq h2)) (by decide +kernel) ⟨_, _, rfl, fun _ => ?_, fun z => nomatch z⟩
    refine ⟨_, rfl, _, rfl, sa, xs, mv.sh, Pl, rfl, s2.seq h2, dpAll_mono s2 h3, hl, fun g H' s' => q1 ⟨gst, gns, gpl, gnp, ?_, g⟩ _ (s2.trans s'), fun g H' s' => q2 (fun g' => g g'.sh) _ (s2.trans s')⟩
    intro d e
    rw [hsd] at e
    cases e
  · refine ⟨_, rfl, rfl, _, rfl, iteF ⟨_, rfl, _, rfl, _, _, rfl, _, _, rfl, fun c => ?_, fun c => q2 (fun g => rng_f c (g.sd d hsd)) _ s2⟩⟩
    dsimp only
    refine valIsi (T := "list") (b := true) (fun Q q => ⟨_, rfl, q⟩) (tyx_lstQ (s2.seq h2)) (by decide +kernel) ⟨_, _, rfl, fun _ => ?_, fun z => nomatch z⟩
    refine ⟨_, rfl, _, rfl, sa, xs, mv.sh, Pl, rfl, s2.seq h2, dpAll_mono s2 h3, hl, fun g H' s' => q1 ⟨gst, gns, gpl, gnp, ?_, g⟩ _ (s2.trans s'), fun g H' s' => q2 (fun g' => g g'.sh) _ (s2.trans s')⟩
    intro d' e
    rw [hsd] at e
    cases e
    exact rng_t c
end
/-- a constant of the module -/
def Cst (mg : Str → Option Value) (x : Str) (v : V) : Prop := ∃ u, mg x = some u ∧ RelV v u
theorem pe_cst {X : Cx} {x : Str} {v : V} {pos : Pos} (h : Cst X.mg x v) (hg : Gl X x := by rfl) (hd : (x == ("__debug__" : Str)) = false := by decide) : PE X (.Name x pos) (tC v) := by
  obtain ⟨u, e, r⟩ := h
  exact pe_glob hg e r hd
def oIK : Option Int → NestedKey
  | none => .none
  | some d => .num d
def prK (p : Int × Int) : NestedKey := .tup [.num p.1, .num p.2]
def mkK (m : MvI) : NestedKey := .tup [.num m.st, .num m.pl, .num m.ns, .num m.np, oIK m.sd, .tup (m.sh.map prK)]
theorem oIK_data (o : Option Int) : (oIK o).data = oID o := by cases o <;> rfl
theorem prK_datas : ∀ l : List (Int × Int), NestedKey.datas (l.map prK) = l.map prD
  | [] => rfl
  | p :: r => by
    show prD p :: NestedKey.datas (r.map prK) = prD p :: r.map prD
    rw [prK_datas r]
theorem mkK_data (m : MvI) : (mkK m).data = .tuple [.int m.st, .int m.pl, .int m.ns, .int m.np, oID m.sd, .tuple (m.sh.map prD)] := by
  show PyData.tuple [.int m.st, .int m.pl, .int m.ns, .int m.np, (oIK m.sd).data, .tuple (NestedKey.datas (m.sh.map prK))] = _
  rw [oIK_data, prK_datas]
theorem prK_inj : ∀ l l' : List (Int × Int), l.map prK = l'.map prK → l = l'
  | [], [], _ => rfl
  | [], _ :: _, h => by simp at h
  | _ :: _, [], h => by simp at h
  | p :: l, q :: l', h => by
    rw [List.map_cons, List.map_cons] at h
    injection h with h1 h2
    unfold prK at h1
    injection h1 with h1
    injection h1 with a h1
    injection h1 with b _
    injection a with a
    injection b with b
    rw [prK_inj l l' h2, Prod.ext a b]
theorem mkK_inj {m m' : MvI} (h : mkK m = mkK m') : m = m' := by
  obtain ⟨a, b, c, d, e, f⟩ := m
  obtain ⟨a', b', c', d', e', f'⟩ := m'
  unfold mkK at h
  injection h with h
  injection h with h1 h
  injection h with h2 h
  injection h with h3 h
  injection h with h4 h
  injection h with h5 h
  injection h with h6 _
  injection h1 with h1
  injection h2 with h2
  injection h3 with h3
  injection h4 with h4
  injection h6 with h6
  have e5 : e = e' := by
    cases e with
    | none => cases e' with
      | none => rfl
      | some x => cases h5
    | some y => cases e' with
      | none => cases h5
      | some x =>
        have z : NestedKey.num y = NestedKey.num x := h5
        injection z with z
        rw [z]
  dsimp only at h1 h2 h3 h4 h6
  rw [h1, h2, h3, h4, e5, prK_inj _ _ h6]
theorem prK_depth : ∀ l : List (Int × Int), NestedKey.depthAll (l.map prK) ≤ 1
  | [] => Nat.zero_le _
  | p :: r => by
    show max 1 (NestedKey.depthAll (r.map prK)) ≤ 1
    have := prK_depth r
    omega
theorem mkK_depth (m : MvI) : (mkK m).depth ≤ 8 := by
  have h := prK_depth m.sh
  have e : (oIK m.sd).depth = 0 := by cases m.sd <;> rfl
  have e2 : (mkK m).depth = max 0 (max 0 (max 0 (max 0 (max (oIK m.sd).depth (max (NestedKey.depthAll (m.sh.map prK) + 1) 0))))) + 1 := rfl
  rw [e2, e]
  omega
theorem prK_num : ∀ l : List (Int × Int), nkNums (l.map prK) = true
  | [] => rfl
  | p :: r => by
    show (true && nkNums (r.map prK)) = true
    rw [prK_num r]
    rfl
theorem mkK_num (m : MvI) : nkNum (mkK m) = true := by
  have e : nkNum (oIK m.sd) = true := by cases m.sd <;> rfl
  have e2 : nkNum (mkK m) = (true && (true && (true && (true && (nkNum (oIK m.sd) && (nkNums (m.sh.map prK) && true)))))) := by
    simp only [mkK, nkNum, nkNums]
  rw [e2, e, prK_num]
  rfl
mutual
/-- a key stands while the tuples do -/
theorem dp_keyU {K : PySem.W.Frag} {H H' : Hp} (e : ∀ a xs, H a = some (.tup xs) → H' a = some (.tup xs)) (e2 : ∀ a o xs, H a = some (.frz o (.tup xs)) → H' a = some (.frz o (.tup xs))) : ∀ (k : NestedKey) (v : V), Dp K H v k.data → Dp K H' v k.data
  | .none, v, h => by
    have h : Dp K H v PyData.none := h
    cases h
    exact .non
  | .num i, v, h => by
    rw [dp_int (show Dp K H v (.int i) from h)]
    exact .int i
  | .text x, v, h => by
    have h : Dp K H v (PyData.str x) := h
    cases h
    exact .str x
  | .tup ks, v, h => by
    obtain ⟨a, xs, rfl, h1, h2⟩ := dp_tup (show Dp K H v (.tuple (NestedKey.datas ks)) from h)
    refine .tup ?_ (dpa_keyU e e2 ks xs h2)
    rcases h1 with (h1 | ⟨o, h1⟩) | h1
    · exact .inl (.inl (e _ _ h1))
    · exact .inl (.inr ⟨o, e2 _ _ _ h1⟩)
    · exact .inr h1
theorem dpa_keyU {K : PySem.W.Frag} {H H' : Hp} (e : ∀ a xs, H a = some (.tup xs) → H' a = some (.tup xs)) (e2 : ∀ a o xs, H a = some (.frz o (.tup xs)) → H' a = some (.frz o (.tup xs))) : ∀ (ks : List NestedKey) (vs : List V), DpAll K H vs (NestedKey.datas ks) → DpAll K H' vs (NestedKey.datas ks)
  | [], vs, h => by
    rw [dpa_nil (show DpAll K H vs [] from h)]
    exact .nil
  | k :: ks, vs, h => by
    obtain ⟨v, t, rfl, h1, h2⟩ := dpa_cons (show DpAll K H vs (k.data :: NestedKey.datas ks) from h)
    exact .cons (dp_keyU e e2 k v h1) (dpa_keyU e e2 ks t h2)
end
theorem NMs.mono {K : PySem.W.Frag} {H H' : Hp} {L : List NMem} (s : Same H H') (h : NMs K H L) : NMs K H' L := fun x hx => ⟨dp_mono s (h x hx).1, (h x hx).2⟩
/-- the set itself changes -/
theorem key_put {K : PySem.W.Frag} {H : Hp} {w : World} {a : Addr} {L : List NMem} {o : HO} {k : NestedKey} {v : V} (e : H a = some (NSO w a L)) (h : Dp K H v k.data) : Dp K (upd H a o) v k.data :=
  dp_keyU (fun b ys h1 => by rw [upd_ne fun z => by rw [z, e] at h1; cases h1]; exact h1) (fun b o ys h1 => by rw [upd_ne fun z => by rw [z, e] at h1; cases h1]; exact h1) k v h
theorem dp_ma {K : PySem.W.Frag} {H : Hp} {v : V} {M : MI} (h : Dp K H v M.data) : ∃ a sv ma xs, v = .ref a ∧ SqT K H a [.int M.states, .int M.places, sv, .int M.crew, .ref ma] ∧ Sit K H sv M.sst M.cnts ∧ SqL K H ma xs ∧ DpAll K H xs (M.moves.map MvI.data) := by
  obtain ⟨a, xs, rfl, hs, h⟩ := dp_tup h
  obtain ⟨v1, r1, rfl, d1, h⟩ := dpa_cons h
  obtain ⟨v2, r2, rfl, d2, h⟩ := dpa_cons h
  obtain ⟨v3, r3, rfl, d3, h⟩ := dpa_cons h
  obtain ⟨v4, r4, rfl, d4, h⟩ := dpa_cons h
  obtain ⟨v5, r5, rfl, d5, h⟩ := dpa_cons h
  obtain rfl := dpa_nil h
  obtain ⟨ma, ys, rfl, h1, h2⟩ := dp_lst d5
  rw [dp_int d1, dp_int d2, dp_int d4] at hs
  exact ⟨a, v3, ma, ys, rfl, hs, dp_sit d3, h1, h2⟩
section
variable {P : Program} {w : World} {K : PySem.W.Frag} {mg : Str → Option Value} {base : Heap} {CB : Addr}
abbrev s_check_machine : Stmt := topS 9
theorem sc_check_machine : FnScope ["machine", "states", "places", "start", "crew", "moves", "seen", "move", "key"] ["machine"] (defScope s_check_machine) := ⟨rfl, rfl, rfl, by decide +kernel, rfl, by decide +kernel, by decide +kernel⟩
-- check_machine slots: machine=0 states=1 places=2 start=3 crew=4 moves=5 seen=6 move=7 key=8 globals: demand is_tuple is_number MOST_STATES MOST_PLACES check_start is_index isinstance list set check_move tuple
def spCkMa (K : PySem.W.Frag) (CB : Addr) : Sp := fun vs H Q E => ∃ (v : V) (M : MI), vs = [v] ∧ Dp K H v M.data ∧ M.moves.length ≤ 60 ∧ (∀ m ∈ M.moves, m.sh.length ≤ 1000) ∧ (GM M → ∀ H', Same H H' → Q .non H') ∧ (¬ GM M → ∀ H', Same H H' → E (.ref CB) none H')
theorem fdX_check_machine {f : Addr} {fd : FuncData} (F : Fun K "check_machine" "check_machine" s_check_machine f fd) (m : mg "check_machine" = some (.ref f)) (B : Bt mg) (cS : Cst mg "MOST_STATES" (.int 64)) (cP : Cst mg "MOST_PLACES" (.int 96)) (DX_demand : FdX P w K mg base "demand" ["wanted", "text"] 1 (spDem CB)) (D_is_tuple : Fd P w K mg base "is_tuple" ["thing", "size"] 1 (spIsTup K)) (D_is_number : Fd P w K mg base "is_number" ["thing", "least", "greatest"] 1 (spIsNum K)) (D_is_index : Fd P w K mg base "is_index" ["thing", "size"] 2 (spIsIdx K)) (DX_check_start : FdX P w K mg base "check_start" ["start", "states", "places"] 3 (spStrt K CB)) (DX_check_move : FdX P w K mg base "check_move" ["move", "states", "places"] 4 (spCkMv K CB)) : FdX P w K mg base "check_machine" ["machine"] 5 (spCkMa K CB) := by
  refine ⟨f, fd, F.okX sc_check_machine (fun vs H Q E h => ?_) (fun cdv A outer s H vs Q E hr h => ?_), m, F.kp, F.binds (ps := ["machine"]) fun _ _ _ _ _ _ us hl => match us, hl with | [_], _ => rfl⟩
  · obtain ⟨v, M, rfl, _⟩ := h
    rfl
  obtain ⟨v, M, rfl, hd, hl, hl2, q1, q2⟩ := h
  obtain ⟨a, sv, ma, xs, rfl, h1, h2, h3, h4⟩ := dp_ma hd
  have xl := dpa_map_len h4
  refine ⟨_, (pss_cons (ps_expr (pe_fnX (W := fun cls d _ H => E cls d H) DX_demand (hr.mono (by decide)) rfl (takes_of rfl rfl rfl rfl) (pa_cons (pe_fn D_is_tuple (hr.mono (by decide)) rfl (pa_cons (pv 0) (pa_cons pe_int pa_nil))) (pa_cons pe_str pa_nil))))
 (pss_cons (ps_asg (pv 0) (pg_tup rfl (pgs_cons (pg_name (i := 1) sc_check_machine.nd rfl (Or.inl rfl)) (pgs_cons (pg_name (i := 2) sc_check_machine.nd rfl (Or.inl rfl)) (pgs_cons (pg_name (i := 3) sc_check_machine.nd rfl (Or.inl rfl)) (pgs_cons (pg_name (i := 4) sc_check_machine.nd rfl (Or.inl rfl)) (pgs_cons (pg_name (i := 5) sc_check_machine.nd rfl (Or.inl rfl)) pgs_nil)))))))
 (pss_cons (ps_expr (pe_fnX (W := fun cls d _ H => E cls d H) DX_demand (hr.mono (by decide)) rfl (takes_of rfl rfl rfl rfl) (pa_cons (pe_fn D_is_number (hr.mono (by decide)) rfl (pa_cons (pv 1) (pa_cons pe_int (pa_cons (pe_cst cS) pa_nil)))) (pa_cons pe_str pa_nil))))
 (pss_cons (ps_expr (pe_fnX (W := fun cls d _ H => E cls d H) DX_demand (hr.mono (by decide)) rfl (takes_of rfl rfl rfl rfl) (pa_cons (pe_fn D_is_number (hr.mono (by decide)) rfl (pa_cons (pv 2) (pa_cons pe_int (pa_cons (pe_cst cP) pa_nil)))) (pa_cons pe_str pa_nil))))
 (pss_cons (ps_expr (pe_fnX (W := fun cls d _ H => E cls d H) DX_check_start (hr.mono (by decide)) rfl (takes_of rfl rfl rfl rfl) (pa_cons (pv 3) (pa_cons (pv 1) (pa_cons (pv 2) pa_nil)))))
 (pss_cons (ps_expr (pe_fnX (W := fun cls d _ H => E cls d H) DX_demand (hr.mono (by decide)) rfl (takes_of rfl rfl rfl rfl) (pa_cons (pe_fn D_is_index (hr.mono (by decide)) rfl (pa_cons (pv 4) (pa_cons (pv 2) pa_nil))) (pa_cons pe_str pa_nil))))
 (pss_cons (ps_expr (pe_fnX (W := fun cls d _ H => E cls d H) DX_demand (hr.mono (by decide)) rfl (takes_of rfl rfl rfl rfl) (pa_cons (pe_callB (cIsi K) (by rfl) B.isinstance (by decide +kernel) (pa_cons (pv 5) (pa_cons (pe_bltn (v := .ty "list") (by rfl) B.list (by decide +kernel) rfl) pa_nil))) (pa_cons pe_str pa_nil))))
 (pss_cons (ps_set (i := 6) sc_check_machine.nd rfl (Or.inl rfl) (pe_callTy0 cr_setN0 (by rfl) B.set (by decide +kernel)))
 (pss_one (ps_for (passes_of rfl) rfl (piL K (pv 5)) (pg_name (i := 7) sc_check_machine.nd rfl (Or.inl rfl))
 (pss_cons (ps_expr (pe_fnX (W := fun cls d _ H => E cls d H) DX_check_move (hr.mono (by decide)) rfl (takes_of rfl rfl rfl rfl) (pa_cons (pv 7) (pa_cons (pv 1) (pa_cons (pv 2) pa_nil)))))
 (pss_cons (ps_set (i := 8) sc_check_machine.nd rfl (Or.inl rfl) (pe_op (opCatT K) (pe_slice (slT K) (pv 7) po_none (po_some pe_int)) (pe_tup (pa_cons (pe_callTy call_tuple_of (by rfl) B.tuple (by decide +kernel) (pa_cons (pe_ix (ixT K) (pv 7) pe_int (fun _ _ => rfl)) pa_nil)) pa_nil))))
 (pss_cons (ps_expr (pe_fnX (W := fun cls d _ H => E cls d H) DX_demand (hr.mono (by decide)) rfl (takes_of rfl rfl rfl rfl) (pa_cons (pe_cmpR (op_notInS K (hu65 hr)) (pv 8) (pv 6) (by rfl)) (pa_cons pe_str pa_nil))))
 (pss_one (ps_expr (pe_addS (hu65 hr) (pv 6) (pa_cons (pv 8) pa_nil))))))))))))))))), ?_⟩
  have bad : ¬ GM M → E (.ref CB) none H := fun z => q2 z _ (Same.refl _)
  refine ⟨_, rfl, a, _, 5, rfl, h1, _, _, rfl, fun _ => ?_, fun z => nomatch (show true = false from z)⟩
  refine ⟨_, rfl, a, _, rfl, h1, rfl, _, _, rfl, _, _, rfl, _, _, rfl, _, _, rfl, _, _, rfl, rfl, ?_⟩
  dsimp only [gName]
  refine ⟨_, rfl, _, _, _, rfl, _, _, rfl, fun c1 => ?_, fun c1 => bad fun g => rng_f c1 g.s⟩
  have g1 := rng_t c1
  refine ⟨_, rfl, _, _, _, rfl, _, _, rfl, fun c2 => ?_, fun c2 => bad fun g => rng_f c2 g.p⟩
  have g2 := rng_t c2
  refine ⟨_, rfl, _, rfl, _, rfl, sv, M.sst, M.cnts, M.states, M.places, rfl, h2, fun g3 => ?_, fun z => bad fun g => z g.st⟩
  refine ⟨_, rfl, _, rfl, _, _, rfl, _, _, rfl, fun c4 => ?_, fun c4 => bad fun g => rng_f c4 g.cr⟩
  have g4 := rng_t c4
  dsimp only
  refine valIsi (T := "list") (b := true) (fun Q q => ⟨_, rfl, q⟩) (tyx_lstQ h3) (by decide +kernel) ⟨_, _, rfl, fun _ => ?_, fun z => nomatch z⟩
  refine ⟨rfl, fun S nS => ?_⟩
  dsimp only [gName]
  have s0 := same_new (o := NSO w S []) nS
  refine ⟨_, rfl, ma, rfl, ⟨_, s0.seq h3⟩, for_list (xs := xs) (fun i σ' H' => ∃ (y7 y8 : Option V) (L : List NMem), σ' = [some (.ref a), some (.int M.states), some (.int M.places), some sv, some (.int M.crew), some (.ref ma), some (.ref S), y7, y8] ∧ Same H H' ∧ H' S = some (NSO w S L) ∧ NMs K H' L ∧
    (L.map Prod.snd).Perm ((M.moves.take i).map mkK) ∧ (M.moves.take i).Nodup ∧ ∀ m ∈ M.moves.take i, GMv m M.states M.places) ?_ ?_ ?_ ?_⟩
  · exact ⟨_, _, [], rfl, s0, upd_same, (fun e he => nomatch he), .nil, .nil, fun p hp => nomatch hp⟩
  · rintro i σ' H' _ ⟨y7, y8, L, rfl, sm, _⟩
    exact sm.seq h3
  · rintro i x σ' H' hx ⟨y7, y8, L, rfl, sm, eS, hL, perm, nd, al⟩
    obtain ⟨mv, hm, dx⟩ := dpa_map_at h4 hx
    have mm := List.mem_of_getElem? hm
    obtain ⟨b, sa, ys, rfl, m1, m2, m3⟩ := dp_mi dx
    have il : i < M.moves.length := (List.getElem?_eq_some_iff.mp hm).1
    dsimp only [gName]
    refine ⟨_, rfl, _, rfl, _, rfl, _, mv, M.states, M.places, rfl, dp_mono sm dx, hl2 mv mm, fun g5 H1 s1 => ?_, fun z H1 s1 => q2 (fun g => z (g.mv mv mm)) _ (sm.trans s1)⟩
    refine ⟨_, rfl, _, rfl, b, _, rfl, Same.seqT (sm.trans s1) m1, (by show ¬ (HT.sIx 6 0 none = 0 ∧ HT.sIx 6 6 (some 5) = 6); decide), fun p np => ?_⟩
    have t2 := s1.trans (same_new (o := HO.tup (cutV [V.int mv.st, .int mv.pl, .int mv.ns, .int mv.np, oIV mv.sd, .ref sa] none (some 5))) np)
    have ep : (upd H1 p (.tup (cutV [V.int mv.st, .int mv.pl, .int mv.ns, .int mv.np, oIV mv.sd, .ref sa] none (some 5)))) p = some (.tup [V.int mv.st, .int mv.pl, .int mv.ns, .int mv.np, oIV mv.sd]) := upd_same
    generalize upd H1 p (.tup (cutV [V.int mv.st, .int mv.pl, .int mv.ns, .int mv.np, oIV mv.sd, .ref sa] none (some 5))) = H2 at t2 ep ⊢
    refine ⟨_, rfl, _, _, _, _, rfl, rfl, Same.seqT (sm.trans t2) m1, atI_nat (j := 5) rfl, sa, ys, rfl, .inl ⟨(sm.trans t2).seq m2, fun l nl => ?_⟩⟩
    have t3 := t2.trans (same_new (o := HO.tup ys) nl)
    have ep3 := (same_new (o := HO.tup ys) nl) _ _ ep
    have el : (upd H2 l (.tup ys)) l = some (.tup ys) := upd_same
    generalize upd H2 l (.tup ys) = H3 at t3 ep3 el ⊢
    refine ⟨szc 1, fun q nq => ?_⟩
    dsimp only
    have t4 := t3.trans (same_new (o := HO.tup [V.ref l]) nq)
    have ep4 := (same_new (o := HO.tup [V.ref l]) nq) _ _ ep3
    have el4 := (same_new (o := HO.tup [V.ref l]) nq) _ _ el
    have eq4 : (upd H3 q (.tup [V.ref l])) q = some (.tup [V.ref l]) := upd_same
    generalize upd H3 q (.tup [V.ref l]) = H4 at t4 ep4 el4 eq4 ⊢
    refine ⟨p, q, _, _, rfl, rfl, .inl (.inl ep4), .inl (.inl eq4), (by show 6 ≤ sizeLine; rw [sizeLine_eq]; omega), (fun e => nomatch e), (fun _ e => nomatch e), fun _ _ k nk => ?_⟩
    dsimp only [gName]
    have t5 := t4.trans (same_new (o := HO.tup [V.int mv.st, .int mv.pl, .int mv.ns, .int mv.np, oIV mv.sd, V.ref l]) nk)
    have el5 := (same_new (o := HO.tup [V.int mv.st, .int mv.pl, .int mv.ns, .int mv.np, oIV mv.sd, V.ref l]) nk) _ _ el4
    have ek : (upd H4 k (.tup ([V.int mv.st, .int mv.pl, .int mv.ns, .int mv.np, oIV mv.sd] ++ [V.ref l]))) k = some (.tup [V.int mv.st, .int mv.pl, .int mv.ns, .int mv.np, oIV mv.sd, V.ref l]) := upd_same
    change Same H' (upd H4 k (.tup ([V.int mv.st, .int mv.pl, .int mv.ns, .int mv.np, oIV mv.sd] ++ [V.ref l]))) at t5
    change (upd H4 k (.tup ([V.int mv.st, .int mv.pl, .int mv.ns, .int mv.np, oIV mv.sd] ++ [V.ref l]))) l = _ at el5
    generalize upd H4 k (.tup ([V.int mv.st, .int mv.pl, .int mv.ns, .int mv.np, oIV mv.sd] ++ [V.ref l])) = H5 at t5 el5 ek ⊢
    clear t2 t3 t4 ep ep3 ep4 el el4 eq4 np nl nq nk
    have s5 := sm.trans t5
    have dk : Dp K H5 (.ref k) (mkK mv).data := by
      rw [mkK_data]
      exact .tup (.inl (.inl ek)) (.cons (.int _) (.cons (.int _) (.cons (.int _) (.cons (.int _) (.cons (oi_dp _) (.cons (.tup (.inl (.inl el5)) (dpAll_mono s5 m3)) .nil))))))
    have eS5 := t5 _ _ eS
    have hL5 := hL.mono t5
    have ll := perm.length_eq
    rw [List.length_map, List.length_map, List.length_take] at ll
    refine ⟨_, rfl, _, rfl, k, S, mkK mv, L, rfl, rfl, eS5, hL5, dk, mkK_depth mv, mkK_num mv, _, _, rfl, fun c => ?_, fun c => q2 (fun g => ?_) _ s5⟩
    · have new : mkK mv ∉ L.map Prod.snd := fun z => by
        rw [List.any_eq_true.mpr ⟨mkK mv, z, decide_eq_true rfl⟩] at c
        cases c
      refine ⟨_, rfl, ⟨S, L, rfl, eS5⟩, _, rfl, S, k, mkK mv, L, rfl, rfl, eS5, hL5, dk, mkK_depth mv, mkK_num mv, by omega, fun L' _ pm => ?_⟩
      have pm := pm new
      refine ⟨_, _, L', rfl, Same.mut s5 nS, upd_same, fun e he => ?_, ?_, ?_, fun x hx => ?_⟩
      · rcases List.mem_cons.mp (pm.mem_iff.mp he) with z | z
        · rw [z]
          exact ⟨key_put eS5 dk, mkK_depth mv, mkK_num mv⟩
        · exact ⟨key_put eS5 (hL5 e z).1, (hL5 e z).2⟩
      · rw [take_snoc hm, List.map_append]
        exact ((pm.map Prod.snd).trans (perm.cons _)).trans (List.perm_append_comm (l₁ := [mkK mv]))
      · rw [take_snoc hm]
        refine List.nodup_append.mpr ⟨nd, List.nodup_cons.mpr ⟨(fun z => nomatch z), List.nodup_nil⟩, fun u hu v hv e => ?_⟩
        rw [List.mem_singleton.mp hv] at e
        exact new (perm.mem_iff.mpr (List.mem_map.mpr ⟨u, hu, by rw [e]⟩))
      · rw [take_snoc hm] at hx
        rcases List.mem_append.mp hx with hx | hx
        · exact al x hx
        · rw [List.mem_singleton.mp hx]
          exact g5
    · cases z : (L.map Prod.snd).any (fun z => decide (z = mkK mv)) with
      | false =>
        rw [z] at c
        cases c
      | true =>
        obtain ⟨k', hk, ek'⟩ := List.any_eq_true.mp z
        have e3 := perm.mem_iff.mp hk
        obtain ⟨m', hm', e4⟩ := List.mem_map.mp e3
        have e5 := mkK_inj (e4.trans (of_decide_eq_true ek'))
        have nd2 := g.nd
        rw [← List.take_append_drop (i + 1) M.moves, take_snoc hm] at nd2
        exact (List.nodup_append.mp (List.nodup_append.mp nd2).1).2.2 m' hm' mv List.mem_cons_self e5
  · rintro σ' H' ⟨y7, y8, L, rfl, sm, eS, hL, perm, nd, al⟩
    rw [xl, List.take_length] at nd al
    exact q1 ⟨g1, g2, g3, g4, al, nd⟩ _ sm
end
section
variable {P : Program} {w : World} {K : PySem.W.Frag} {mg : Str → Option Value} {base : Heap} {CO CB CL : Addr}
abbrev s_law_refused : Stmt := topS 22
theorem sc_law_refused : FnScope ["machine", "before", "e"] ["machine"] (defScope s_law_refused) := ⟨rfl, rfl, rfl, by decide +kernel, rfl, by decide +kernel, by decide +kernel⟩
-- _law_refused slots: machine=0 before=1 e=2 globals: repr check_machine BadMachine isinstance LegionError ValueError OutOfRange
/-- a machine of which is told that it is not valid -/
structure BadM (M : MI) : Prop where
  ml : M.moves.length ≤ 60
  sl : ∀ m ∈ M.moves, m.sh.length ≤ 1000
  sw : Shw M.data
  no : ¬ GM M
def spLRef (K : PySem.W.Frag) : Sp := fun vs H Q _ => ∃ (v : V) (M : MI), vs = [v] ∧ Dp K H v M.data ∧ BadM M ∧ ∀ H', Same H H' → Q (.bl true) H'
theorem fd_law_refused {f : Addr} {fd : FuncData} (F : Fun K "_law_refused" "_law_refused" s_law_refused f fd) (m : mg "_law_refused" = some (.ref f)) (B : Bt mg) (XL : ExcX K mg "LegionError" CL) (XO : ExcX K mg "OutOfRange" CO) (XB : ExcX K mg "BadMachine" CB) (rBL : PySem.W.subIn K (.ref CB) (.ref CL) = some true) (rBO : PySem.W.subIn K (.ref CB) (.ref CO) = some false)
    (DX_check_machine : FdX P w K mg base "check_machine" ["machine"] 5 (spCkMa K CB)) : FdR P w K mg base "_law_refused" ["machine"] 6 (spLRef K) := by
  refine ⟨f, fd, fng_of F sc_law_refused (fun vs H Q h => ?_) (fun cdv A outer s H vs Q hr free h => ?_), m, F.kp, F.binds (ps := ["machine"]) fun _ _ _ _ _ _ us hl => match us, hl with | [_], _ => rfl⟩
  · obtain ⟨v, M, rfl, _⟩ := h
    rfl
  obtain ⟨v, M, rfl, hd, bad, q⟩ := h
  obtain ⟨av, _, _, _, rfl, _⟩ := dp_ma hd
  have shw := bad.sw
  refine ⟨_, pss_cons (ps_set (i := 1) sc_law_refused.nd rfl (Or.inl rfl) (pe_callB (cRepr K free hr.units) (by rfl) B.repr (by decide +kernel) (pa_cons (pv 0) pa_nil)))
    (pss_cons (ps_try_as (i := 2) (tb := fun W => tDrop (tCallS (spCkMa K CB) (WE W) (tCons (tVar 0) tNil))) (ts := fun a cls d => tRet (tAndV (isTE K a cls d 2 (tC (.ref CL))) (tAndV (isTE K a cls d 2 (tC (.ty "ValueError"))) (tAndV (tNotV (isTE K a cls d 2 (tC (.ref CO)))) (tOp rEq (tCB (rRepr K) (tCons (tVar 0) tNil)) (tVar 1)))))) (Wout := fun _ _ _ _ => False) rfl rfl sc_law_refused.nd rfl rfl ⟨rfl, by decide, .inl XB.gC⟩ takes0
      (fun W pn xe tk _ => pss_one (ps_expr (by exact (pe_fnX DX_check_machine (hr.mono (by decide)) rfl tk (pa_cons (pv 0) pa_nil)))))
      (fun a oe cls d pn hz hf => pss_one (ps_ret (by exact (pe_and (pe_callB (call_isEx hz hf) (by rfl) B.isinstance (by decide +kernel) (pa_cons (pv 2) (pa_cons (pe_glob rfl XL.gC rfl) pa_nil))) (pe_and (pe_callB (call_isEx hz hf) (by rfl) B.isinstance (by decide +kernel) (pa_cons (pv 2) (pa_cons (pe_bltn (v := .ty "ValueError") (by rfl) B.ValueError (by decide +kernel) rfl) pa_nil))) (pe_and (pe_not (pe_callB (call_isEx hz hf) (by rfl) B.isinstance (by decide +kernel) (pa_cons (pv 2) (pa_cons (pe_glob rfl XO.gC rfl) pa_nil)))) (pe_one (pe_cmpR op_eq (pe_callB (cRepr K free hr.units) (by rfl) B.repr (by decide +kernel) (pa_cons (pv 0) pa_nil)) (pv 1) (nomark _))))))))))
    (pss_one (ps_ret pe_bl))), ?_⟩
  refine ⟨_, rfl, av, _, rfl, hd, shw.sh, shw.nd, shw.de, shw.ln, ?_⟩
  dsimp only [gName]
  refine ⟨_, rfl, _, M, rfl, hd, bad.ml, bad.sl, fun g => absurd g bad.no, fun _ H1 s1 => ⟨true, exm_own XB XB.self, fun _ a0 na => ?_, fun q => nomatch q⟩⟩
  refine ⟨_, rfl, CB, true, rfl, rfl, XB.is, ⟨_, rfl, iteT ⟨_, rfl, CB, true, rfl, rfl, XB.is, ⟨_, rfl, iteT ⟨_, rfl, CB, false, rfl, rfl, XB.is, ⟨_, rfl, ⟨_, rfl, iteT ?_⟩⟩, .inl ⟨_, _, rfl, .own _, kit_sub XB XO rBO⟩⟩⟩, .inl ⟨_, _, rfl, .ty _, kit_val XB.val⟩⟩⟩, .inl ⟨_, _, rfl, .own _, kit_sub XB XL rBL⟩⟩
  refine ⟨_, rfl, av, _, rfl, dp_mono s1 hd, shw.sh, shw.nd, shw.de, shw.ln, _, rfl, rfl, ?_⟩
  rw [decide_eq_true rfl]
  exact q _ s1
theorem cut17 (xs : List V) (n : Nat) : cutV xs none (some (n : Int)) = xs.take n := by
  unfold cutV
  rw [HT.sIx_nat]
  show (xs.drop 0).take (min n xs.length - 0) = _
  rw [List.drop_zero, Nat.sub_zero]
  by_cases h : n ≤ xs.length
  · rw [Nat.min_eq_left h]
  · rw [Nat.min_eq_right (by omega), List.take_length, List.take_of_length_le (by omega)]
theorem drp17 {xs : List V} {n : Nat} (h : n ≤ xs.length) : cutV xs (some (n : Int)) none = xs.drop n := by
  unfold cutV
  rw [HT.sIx_nat, Nat.min_eq_left h]
  show (xs.drop n).take (xs.length - n) = _
  exact List.take_of_length_le (by rw [List.length_drop]; omega)
theorem dpa_cut {H : Hp} : ∀ (k : Nat) {vs : List V} {ds : List PyData}, DpAll K H vs ds → DpAll K H (vs.take k) (ds.take k) ∧ DpAll K H (vs.drop k) (ds.drop k)
  | 0, _, _, h => ⟨.nil, h⟩
  | _ + 1, _, _, .nil => ⟨.nil, .nil⟩
  | k + 1, _, _, .cons a t => ⟨.cons a (dpa_cut k t).1, (dpa_cut k t).2⟩
abbrev s_law_with : Stmt := topS 23
theorem sc_law_with : FnScope ["machine", "move", "at"] ["machine", "move", "at"] (defScope s_law_with) := ⟨rfl, rfl, rfl, by decide +kernel, rfl, by decide +kernel, by decide +kernel⟩
-- _law_with slots: machine=0 move=1 at=2 globals: int len
def MI.data4 (M : MI) (l : List PyData) : PyData := .tuple [.int M.states, .int M.places, sitD M.sst M.cnts, .int M.crew, .list l]
def spWith (K : PySem.W.Frag) : Sp := fun vs H Q _ => ∃ (v x : V) (M : MI) (m : MvI) (i : Int), vs = [v, x, .int i] ∧ Dp K H v M.data ∧ Dp K H x m.data ∧ M.moves.length ≤ 50 ∧
  ∀ H' u (k : Nat), Same H H' → k ≤ M.moves.length → Dp K H' u { M with moves := M.moves.take k ++ m :: M.moves.drop k }.data → Q u H'
theorem fd_law_with {f : Addr} {fd : FuncData} (F : Fun K "_law_with" "_law_with" s_law_with f fd) (m : mg "_law_with" = some (.ref f)) (B : Bt mg) : Fd P w K mg base "_law_with" ["machine", "move", "at"] 1 (spWith K) := by
  refine ⟨f, fd, F.ok sc_law_with (fun vs H Q E h => ?_) (fun cdv A outer s H vs Q E hr h => ?_), m, F.kp, F.binds (ps := ["machine", "move", "at"]) fun _ _ _ _ _ _ us hl => match us, hl with | [_, _, _], _ => rfl⟩
  · obtain ⟨v, x, M, m, i, rfl, _⟩ := h
    rfl
  obtain ⟨v, x, M, mv, i, rfl, hd, hx, hl, q⟩ := h
  obtain ⟨a, sv, ma, xs, rfl, h1, h2, h3, h4⟩ := dp_ma hd
  have xl := dpa_map_len h4
  refine ⟨_, (pss_cons (ps_set (i := 2) sc_law_with.nd rfl (Or.inl rfl) (pe_op op_mod (pe_callTy call_int1 (by rfl) B.int (by decide +kernel) (pa_cons (pv 2) pa_nil)) (pe_op op_add (pe_callB (cLen K) (by rfl) B.len PySem.boot_len (pa_cons (pe_ix (ixT K) (pv 0) pe_int (fun _ _ => rfl)) pa_nil)) pe_int)))
 (pss_one (ps_ret (pe_op (opCatT K) (pe_slice (slT K) (pv 0) po_none (po_some pe_int)) (pe_tup (pa_cons (pe_op (opCat K) (pe_op (opCat K) (pe_slice (slL K) (pe_ix (ixT K) (pv 0) pe_int (fun _ _ => rfl)) po_none (po_some (pv 2))) (pe_lst (pa_cons (pv 1) pa_nil))) (pe_slice (slL K) (pe_ix (ixT K) (pv 0) pe_int (fun _ _ => rfl)) (po_some (pv 2)) po_none)) pa_nil)))))), ?_⟩
  refine ⟨_, rfl, .inl ⟨_, rfl, _, rfl, _, _, _, _, rfl, rfl, h1, atI_nat (j := 4) rfl, ma, _, rfl, .inl h3, _, _, rfl, rfl, _, _, rfl, rfl, (by omega), ?_⟩⟩
  obtain ⟨k, ek, hk⟩ : ∃ k : Nat, i % ((xs.length : Int) + 1) = (k : Int) ∧ k ≤ xs.length := by
    have a1 := Int.emod_nonneg i (show ((xs.length : Int) + 1) ≠ 0 by omega)
    have a2 := Int.emod_lt_of_pos i (show (0 : Int) < (xs.length : Int) + 1 by omega)
    exact ⟨(i % ((xs.length : Int) + 1)).toNat, by omega, by omega⟩
  dsimp only [gName]
  rw [ek]
  refine ⟨_, rfl, _, rfl, a, _, rfl, h1, (by show ¬ (HT.sIx 5 0 none = 0 ∧ HT.sIx 5 5 (some 4) = 5); decide), fun p np => ?_⟩
  have t1 := same_new (o := HO.tup (cutV [V.int M.states, .int M.places, sv, .int M.crew, .ref ma] none (some 4))) np
  have ep : (upd H p (.tup (cutV [V.int M.states, .int M.places, sv, .int M.crew, .ref ma] none (some 4)))) p = some (.tup [V.int M.states, .int M.places, sv, .int M.crew]) := upd_same
  generalize upd H p (.tup (cutV [V.int M.states, .int M.places, sv, .int M.crew, .ref ma] none (some 4))) = H1 at t1 ep ⊢
  refine ⟨_, rfl, _, _, _, _, rfl, rfl, Same.seqT t1 h1, atI_nat (j := 4) rfl, _, rfl, _, rfl, ma, _, rfl, t1.seq h3, fun p2 np2 => ⟨_, rfl, szc 1, fun p3 np3 => ?_⟩⟩
  have t2 := t1.trans (same_new (o := HO.lst (cutV xs none (some (k : Int)))) np2)
  have ep2 := (same_new (o := HO.lst (cutV xs none (some (k : Int)))) np2) _ _ ep
  have e2 : (upd H1 p2 (.lst (cutV xs none (some (k : Int))))) p2 = some (.lst (xs.take k)) := by rw [upd_same, cut17]
  generalize upd H1 p2 (.lst (cutV xs none (some (k : Int)))) = H2 at t2 ep2 e2 np3 ⊢
  have t3 := t2.trans (same_new (o := HO.lst [x]) np3)
  have ep3 := (same_new (o := HO.lst [x]) np3) _ _ ep2
  have e23 := (same_new (o := HO.lst [x]) np3) _ _ e2
  have e33 : (upd H2 p3 (.lst [x])) p3 = some (.lst [x]) := upd_same
  generalize upd H2 p3 (.lst [x]) = H3 at t3 ep3 e23 e33 ⊢
  have lt : (xs.take k).length = k := by rw [List.length_take]; omega
  refine ⟨_, _, _, _, rfl, rfl, sq e23, sq e33, (by show (xs.take k).length + 1 ≤ sizeLine; rw [sizeLine_eq, lt]; omega), fun p4 np4 => ?_⟩
  have t4 := t3.trans (same_new (o := HO.lst (xs.take k ++ [x])) np4)
  have ep4 := (same_new (o := HO.lst (xs.take k ++ [x])) np4) _ _ ep3
  have e4 : (upd H3 p4 (.lst (xs.take k ++ [x]))) p4 = some (.lst (xs.take k ++ [x])) := upd_same
  generalize upd H3 p4 (.lst (xs.take k ++ [x])) = H4 at t4 ep4 e4 ⊢
  refine ⟨_, rfl, _, _, _, _, rfl, rfl, Same.seqT t4 h1, atI_nat (j := 4) rfl, _, rfl, _, rfl, ma, _, rfl, t4.seq h3, fun p5 np5 => ?_⟩
  have t5 := t4.trans (same_new (o := HO.lst (cutV xs (some (k : Int)) none)) np5)
  have ep5 := (same_new (o := HO.lst (cutV xs (some (k : Int)) none)) np5) _ _ ep4
  have e45 := (same_new (o := HO.lst (cutV xs (some (k : Int)) none)) np5) _ _ e4
  have e5 : (upd H4 p5 (.lst (cutV xs (some (k : Int)) none))) p5 = some (.lst (xs.drop k)) := by rw [upd_same, drp17 hk]
  generalize upd H4 p5 (.lst (cutV xs (some (k : Int)) none)) = H5 at t5 ep5 e45 e5 ⊢
  have ld : (xs.drop k).length = xs.length - k := List.length_drop
  refine ⟨_, _, _, _, rfl, rfl, sq e45, sq e5, (by rw [sizeLine_eq, List.length_append, lt, ld, List.length_singleton]; omega), fun p6 np6 => ⟨szc 1, fun p7 np7 => ?_⟩⟩
  have t6 := t5.trans (same_new (o := HO.lst (xs.take k ++ [x] ++ xs.drop k)) np6)
  have ep6 := (same_new (o := HO.lst (xs.take k ++ [x] ++ xs.drop k)) np6) _ _ ep5
  have e6 : (upd H5 p6 (.lst (xs.take k ++ [x] ++ xs.drop k))) p6 = some (.lst (xs.take k ++ [x] ++ xs.drop k)) := upd_same
  generalize upd H5 p6 (.lst (xs.take k ++ [x] ++ xs.drop k)) = H6 at t6 ep6 e6 np7 ⊢
  have t7 := t6.trans (same_new (o := HO.tup [V.ref p6]) np7)
  have ep7 := (same_new (o := HO.tup [V.ref p6]) np7) _ _ ep6
  have e67 := (same_new (o := HO.tup [V.ref p6]) np7) _ _ e6
  have e7 : (upd H6 p7 (.tup [V.ref p6])) p7 = some (.tup [V.ref p6]) := upd_same
  dsimp only
  generalize upd H6 p7 (.tup [V.ref p6]) = H7 at t7 ep7 e67 e7 ⊢
  refine ⟨_, _, _, _, rfl, rfl, .inl (.inl ep7), .inl (.inl e7), (by show 5 ≤ sizeLine; rw [sizeLine_eq]; omega), (fun e => nomatch e), (fun _ e => nomatch e), fun _ _ p8 np8 => ?_⟩
  have t8 := t7.trans (same_new (o := HO.tup ([V.int M.states, .int M.places, sv, .int M.crew] ++ [V.ref p6])) np8)
  refine q _ _ k t8 (by omega) (.tup (.inl (.inl upd_same)) (.cons (.int _) (.cons (.int _) (.cons (dp_mono t8 (sit_dp h2)) (.cons (.int _) (.cons (.lst (sq ((same_new np8) _ _ e67)) ?_) .nil))))))
  rw [List.map_append, List.map_cons, List.append_assoc]
  have a1 := dpa_cut k (dpAll_mono t8 h4)
  rw [← List.map_take, ← List.map_drop] at a1
  exact dpa_app a1.1 (.cons (dp_mono t8 hx) a1.2)
end
/-! ### displays: what they make, as data, in a part of the view -/
structure VwOk (W : Hp → Hp) (G : Hp → Prop) : Prop where
  sub : ∀ H, Same (W H) H
  new : ∀ H p x, G H → H p = none → W (upd H p x) p = some x
  mono : ∀ H p x, G H → H p = none → Same (W H) (W (upd H p x))
  keep : ∀ H p x, G H → H p = none → G (upd H p x)
theorem vw_id : VwOk (fun H => H) (fun _ => True) := ⟨fun _ => Same.refl _, fun _ _ _ _ _ => upd_same, fun _ _ _ _ h => same_new h, fun _ _ _ _ _ => trivial⟩
theorem vw_ho (o : Addr) : VwOk (Ho o) (fun H => H o ≠ none) := by
  have ne : ∀ {H : Hp} {p : Addr}, H o ≠ none → H p = none → p ≠ o := fun h1 h2 e => h1 (e ▸ h2)
  refine ⟨fun _ => ho_out, fun H p x g h => ?_, fun H p x g h b y e => ?_, fun H p x g h => ?_⟩
  · unfold Ho
    rw [if_neg (ne g h)]
    exact upd_same
  · unfold Ho at e ⊢
    split at e
    · cases e
    · rename_i z
      rw [if_neg z, upd_ne (fun q => by rw [q, h] at e; cases e)]
      exact e
  · rw [upd_ne (ne g h).symm]
    exact g
section
variable {K : PySem.W.Frag} {W : Hp → Hp} {G : Hp → Prop} {H0 : Hp} {σ : L2.St}
def Mk (K : PySem.W.Frag) (W : Hp → Hp) (G : Hp → Prop) (H0 : Hp) (σ : L2.St) (te : TE) (d : PyData) : Prop := ∀ (H : Hp) (Q : VK), G H → Same H0 (W H) → (∀ H' v, G H' → Same H H' → Same (W H) (W H') → Dp K (W H') v d → Q v H') → te σ H Q
def MkA (K : PySem.W.Frag) (W : Hp → Hp) (G : Hp → Prop) (H0 : Hp) (σ : L2.St) (ta : TA) (ds : List PyData) : Prop := ∀ (H : Hp) (Q : List V → Hp → Prop), G H → Same H0 (W H) → (∀ H' vs, G H' → Same H H' → Same (W H) (W H') → DpAll K (W H') vs ds → Q vs H') → ta σ H Q
variable {ta tb te : TE} {t : TA}
theorem mk_int {n : Int} : Mk K W G H0 σ (tC (.int n)) (.int n) := fun H Q g s q => q H _ g (Same.refl _) (Same.refl _) (.int n)
theorem mk_non : Mk K W G H0 σ (tC .non) .none := fun H Q g s q => q H _ g (Same.refl _) (Same.refl _) .non
theorem mk_var {i : Nat} {v : V} {d : PyData} (dv : Dp K H0 v d) (h : σ[i]? = some (some v) := by rfl) : Mk K W G H0 σ (tVar i) d := fun H Q g s q => ⟨v, h, q H _ g (Same.refl _) (Same.refl _) (dp_mono s dv)⟩
theorem mk_varI {i : Nat} {n : Int} (h : σ[i]? = some (some (.int n)) := by rfl) : Mk K W G H0 σ (tVar i) (.int n) := mk_var (.int n) h
theorem mk_add {i j : Int} (ha : Mk K W G H0 σ ta (.int i)) (hb : Mk K W G H0 σ tb (.int j)) : Mk K W G H0 σ (tOp (rI0 fun i j => .int (i + j)) ta tb) (.int (i + j)) := fun H Q g s q => ha H _ g s fun H1 v1 g1 s1 w1 d1 => hb H1 _ g1 (s.trans w1) fun H2 v2 g2 s2 w2 d2 => by
  rw [dp_int d1, dp_int d2]
  exact ⟨_, _, rfl, rfl, q H2 _ g2 (s1.trans s2) (w1.trans w2) (.int _)⟩
theorem mk_sub {i j : Int} (ha : Mk K W G H0 σ ta (.int i)) (hb : Mk K W G H0 σ tb (.int j)) : Mk K W G H0 σ (tOp (rI0 fun i j => .int (i - j)) ta tb) (.int (i - j)) := fun H Q g s q => ha H _ g s fun H1 v1 g1 s1 w1 d1 => hb H1 _ g1 (s.trans w1) fun H2 v2 g2 s2 w2 d2 => by
  rw [dp_int d1, dp_int d2]
  exact ⟨_, _, rfl, rfl, q H2 _ g2 (s1.trans s2) (w1.trans w2) (.int _)⟩
theorem mk_neg {i : Int} (ha : Mk K W G H0 σ ta (.int i)) : Mk K W G H0 σ (tUn (rU fun i => .int (-i)) ta) (.int (-i)) := fun H Q g s q => ha H _ g s fun H1 v1 g1 s1 w1 d1 => by
  rw [dp_int d1]
  exact ⟨_, rfl, q H1 _ g1 s1 w1 (.int _)⟩
theorem mk_nil : MkA K W G H0 σ tNil [] := fun H Q g s q => q H _ g (Same.refl _) (Same.refl _) .nil
theorem mk_cons {d : PyData} {ds : List PyData} (ha : Mk K W G H0 σ te d) (hb : MkA K W G H0 σ t ds) : MkA K W G H0 σ (tCons te t) (d :: ds) := fun H Q g s q => ha H _ g s fun H1 v1 g1 s1 w1 d1 => hb H1 _ g1 (s.trans w1) fun H2 v2 g2 s2 w2 d2 =>
  q H2 _ g2 (s1.trans s2) (w1.trans w2) (.cons (dp_mono w2 d1) d2)
theorem mk_tup {ds : List PyData} (ok : VwOk W G) (h : MkA K W G H0 σ t ds) (hl : ds.length ≤ 100000) : Mk K W G H0 σ (tTup t) (.tuple ds) := fun H Q g s q => h H _ g s fun H1 vs g1 s1 w1 d1 =>
  ⟨by rw [dpa_len d1, sizeLine_eq]; omega, fun p np => q _ _ (ok.keep _ p _ g1 np) (s1.trans (same_new np)) (w1.trans (ok.mono _ p _ g1 np)) (.tup (.inl (.inl (ok.new _ p _ g1 np))) (dpAll_mono (ok.mono _ p _ g1 np) d1))⟩
theorem mk_lst {ds : List PyData} (ok : VwOk W G) (h : MkA K W G H0 σ t ds) (hl : ds.length ≤ 100000) : Mk K W G H0 σ (tLst t) (.list ds) := fun H Q g s q => h H _ g s fun H1 vs g1 s1 w1 d1 =>
  ⟨by rw [dpa_len d1, sizeLine_eq]; omega, fun p np => q _ _ (ok.keep _ p _ g1 np) (s1.trans (same_new np)) (w1.trans (ok.mono _ p _ g1 np)) (.lst (sq (ok.new _ p _ g1 np)) (dpAll_mono (ok.mono _ p _ g1 np) d1))⟩
theorem mk_cat {ds es : List PyData} (ok : VwOk W G) (ha : Mk K W G H0 σ ta (.list ds)) (hb : Mk K W G H0 σ tb (.list es)) (hl : ds.length + es.length ≤ 100000) : Mk K W G H0 σ (tOp (rCatS K) ta tb) (.list (ds ++ es)) := fun H Q g s q => ha H _ g s fun H1 v1 g1 s1 w1 d1 => hb H1 _ g1 (s.trans w1) fun H2 v2 g2 s2 w2 d2 => by
  obtain ⟨a, xs, rfl, e1, f1⟩ := dp_lst d1
  obtain ⟨b, ys, rfl, e2, f2⟩ := dp_lst d2
  refine ⟨a, b, xs, ys, rfl, rfl, (ok.sub _).seq (w2.seq e1), (ok.sub _).seq e2, by rw [dpa_len f1, dpa_len f2, sizeLine_eq]; omega, fun p np => q _ _ (ok.keep _ p _ g2 np) ((s1.trans s2).trans (same_new np)) ((w1.trans w2).trans (ok.mono _ p _ g2 np)) (.lst (sq (ok.new _ p _ g2 np)) ?_)⟩
  exact dpAll_mono (ok.mono _ p _ g2 np) (dpa_app (dpAll_mono w2 f1) f2)
theorem mk_catM {α : Type} {g : α → PyData} {as bs : List α} (ok : VwOk W G) (ha : Mk K W G H0 σ ta (.list (as.map g))) (hb : Mk K W G H0 σ tb (.list (bs.map g))) (hl : as.length + bs.length ≤ 100000) : Mk K W G H0 σ (tOp (rCatS K) ta tb) (.list ((as ++ bs).map g)) := by
  rw [List.map_append]
  exact mk_cat ok ha hb (by rw [List.length_map, List.length_map]; exact hl)
/-- from here -/
theorem Mk.run {H : Hp} {Q : VK} {d : PyData} (h : Mk K (fun H => H) (fun _ => True) H σ te d) (q : ∀ H' v, Same H H' → Dp K H' v d → Q v H') : te σ H Q := h H Q trivial (Same.refl _) fun H' v _ s _ dv => q H' v s dv
theorem Mk.runW {H : Hp} {Q : VK} {d : PyData} (h : Mk K W G H0 σ te d) (g : G H) (s : Same H0 (W H)) (q : ∀ H' v, G H' → Same H H' → Same (W H) (W H') → Dp K (W H') v d → Q v H') : te σ H Q := h H Q g s q
theorem mk_ixT {i : Nat} {a : Addr} {xs : List V} {j : Nat} {v : V} {d : PyData} (ok : VwOk W G) (hs : SqT K H0 a xs) (hv : xs[j]? = some v) (dv : Dp K H0 v d) (h : σ[i]? = some (some (.ref a)) := by rfl) : Mk K W G H0 σ (tOp (rIxT K) (tVar i) (tC (.int (j : Int)))) d := fun H Q g s q =>
  ⟨_, h, a, _, _, _, rfl, rfl, Same.seqT (ok.sub _) (Same.seqT s hs), atI_nat hv, q H _ g (Same.refl _) (Same.refl _) (dp_mono s dv)⟩
/-- a part of a list of numbers -/
def cutI (ns : List Int) (lo hi : Option Int) : List Int := (ns.drop (HT.sIx ns.length 0 lo)).take (HT.sIx ns.length ns.length hi - HT.sIx ns.length 0 lo)
theorem cutI_v (ns : List Int) (lo hi : Option Int) : cutV (ns.map V.int) lo hi = (cutI ns lo hi).map V.int := by
  unfold cutV cutI
  rw [List.length_map, ← List.map_drop, ← List.map_take]
theorem cutI_mem {ns : List Int} {lo hi : Option Int} {n : Int} (h : n ∈ cutI ns lo hi) : n ∈ ns := List.mem_of_mem_drop (List.mem_of_mem_take h)
theorem cutI_len (ns : List Int) (lo hi : Option Int) : (cutI ns lo hi).length ≤ ns.length := by
  unfold cutI
  rw [List.length_take, List.length_drop]
  omega
def PurO (tl : TO) (σ : L2.St) (l : Option Int) : Prop := ∀ (H : Hp) (Q : Option Int → Hp → Prop), Q l H → tl σ H Q
theorem po_no : PurO tNoPart σ none := fun _ _ q => q
theorem po_int {n : Int} : PurO (tPart (tC (.int n))) σ (some n) := fun _ _ q => ⟨_, rfl, q⟩
theorem po_neg {n : Int} : PurO (tPart (tUn (rU fun i => .int (-i)) (tC (.int n)))) σ (some (-n)) := fun _ _ q => ⟨_, rfl, _, rfl, q⟩
theorem po_var {i : Nat} {n : Int} (h : σ[i]? = some (some (.int n)) := by rfl) : PurO (tPart (tVar i)) σ (some n) := fun _ _ q => ⟨_, h, _, rfl, q⟩
theorem po_varp {i : Nat} {n m : Int} (h : σ[i]? = some (some (.int n)) := by rfl) : PurO (tPart (tOp (rI0 fun i j => .int (i + j)) (tVar i) (tC (.int m)))) σ (some (n + m)) := fun _ _ q => ⟨_, h, _, _, rfl, rfl, _, rfl, q⟩
theorem mk_sl {ns : List Int} {lo hi : Option Int} {tl th : TO} (ok : VwOk W G) (ha : Mk K W G H0 σ ta (.list (ns.map .int))) (hl : PurO tl σ lo) (hh : PurO th σ hi) : Mk K W G H0 σ (tSl (rSlL K) ta tl th) (.list ((cutI ns lo hi).map .int)) := fun H Q g s q => ha H _ g s fun H1 v1 g1 s1 w1 d1 => by
  obtain ⟨a, xs, rfl, e1, f1⟩ := dp_lst d1
  rw [dpa_intsE f1] at e1
  refine hl _ _ (hh _ _ ⟨a, _, rfl, (ok.sub _).seq e1, fun p np => q _ _ (ok.keep _ p _ g1 np) (s1.trans (same_new np)) (w1.trans (ok.mono _ p _ g1 np)) (.lst (sq (ok.new _ p _ g1 np)) ?_)⟩)
  rw [cutI_v]
  exact dpa_ints _
/-- a `for` over a list that is made on the spot -/
theorem forL17 {tl : TE} {g : TG} {tb u : TS} {D : Ends} {H : Hp}
    (h : ∀ D', D' = { D with nx := u D } → tl σ H fun x H1 => ∃ a, x = .ref a ∧ (∃ xs, SqL K H1 a xs) ∧ ∃ W : Nat → Nat → L2.St → Hp → Prop, (∃ m, W 0 m σ H1) ∧ ∀ i m σ H, W i m σ H → ((Itl K a).stop i H ∧ D'.nx σ H) ∨ ((Itl K a).go i H ∧ ∃ N : L2.St → Hp → Prop, (∀ σ' H', N σ' H' → ∃ m', m' < m ∧ W (i + 1) m' σ' H') ∧
      ∀ x H', (Itl K a).yld i H x H' → g x σ H' fun σ2 H2 => tb { D' with nx := N, ct := N, bk := D'.nx } σ2 H2)) : tSeq (tFor (iList K tl) g tb) u D σ H := h _ rfl
/-- [v] * n -/
theorem mk_rep {n i : Int} (ok : VwOk W G) (hb : Mk K W G H0 σ tb (.int n)) (hn : 0 ≤ n ∧ n ≤ 100000) : Mk K W G H0 σ (tOp rRep (tLst (tCons (tC (.int i)) tNil)) tb) (.list ((List.replicate n.toNat i).map .int)) := fun H Q g s q => ⟨szc 1, fun p np => hb _ _ (ok.keep _ p _ g np) (s.trans (ok.mono _ p _ g np)) fun H2 v2 g2 s2 w2 d2 => by
  rw [dp_int d2]
  refine ⟨p, n, _, rfl, rfl, s2 _ _ upd_same, by omega, by omega, (by rw [sizeLine_eq, List.length_singleton]; omega), fun p2 np2 => ?_⟩
  have e : (List.replicate n.toNat [V.int i]).flatten = (List.replicate n.toNat i).map V.int := by
    generalize n.toNat = k
    induction k with
    | zero => rfl
    | succ k ih => rw [List.replicate_succ, List.flatten_cons, ih, List.replicate_succ]; rfl
  refine q _ _ (ok.keep _ p2 _ g2 np2) (((same_new np).trans s2).trans (same_new np2)) (((ok.mono _ p _ g np).trans w2).trans (ok.mono _ p2 _ g2 np2)) (.lst (sq (ok.new _ p2 _ g2 np2)) ?_)
  rw [e]
  exact dpa_ints _⟩
end
/-! ### the law's faulty moves -/
def bad1 (S Pl f : Int) : List MvI := [⟨S - 1 + f, 0, 0, 0, none, []⟩, ⟨-f, 0, 0, 0, none, []⟩, ⟨0, Pl - 1 + f, 0, 0, none, []⟩, ⟨0, -f, 0, 0, none, []⟩]
def bad2 (S Pl f : Int) : List MvI := [⟨0, 0, S, 0, none, []⟩, ⟨0, 0, -1, 0, none, []⟩, ⟨0, 0, 0, Pl, none, []⟩, ⟨0, 0, 0, -1, none, []⟩]
def bad3 (S Pl f : Int) : List MvI := [⟨0, 0, 0, 0, some (Pl - 1 + f), []⟩, ⟨0, 0, 0, 0, some (-f), []⟩, ⟨0, 0, 0, 0, none, [(Pl, 0)]⟩, ⟨0, 0, 0, 0, none, [(-f, 0)]⟩]
def bad4 (S Pl f : Int) : List MvI := [⟨0, 0, 0, 0, none, [(0, Pl)]⟩, ⟨0, 0, 0, 0, none, [(0, -1)]⟩, ⟨0, 0, 0, 0, none, [(0, 0)]⟩]
def bad5 (S Pl f : Int) : List MvI := [⟨0, 0, 0, 0, none, [(0, 2), (1, Pl)]⟩, ⟨0, 0, 0, 0, none, [(0, 1), (Pl, 1)]⟩, ⟨0, 0, 0, 0, none, [(0, 2), (1, -1)]⟩]
def bad6 : List MvI := [⟨0, 0, 0, 0, none, [(1, 2), (0, 2)]⟩, ⟨0, 0, 0, 0, none, [(0, 2), (0, 2)]⟩, ⟨0, 0, 0, 0, none, [(0, 1), (0, 2)]⟩]
def bad7 : List MvI := [⟨0, 0, 0, 0, none, [(0, 4), (2, 4), (1, 4)]⟩, ⟨0, 0, 0, 0, none, [(0, 4), (1, 3), (1, 4)]⟩, ⟨0, 0, 0, 0, none, [(0, 4), (1, 3), (2, 1)]⟩]
def bad8 : List MvI := [⟨0, 0, 0, 0, none, [(0, 1), (1, 2)]⟩, ⟨0, 0, 0, 0, none, [(0, 2), (1, 0)]⟩, ⟨0, 0, 0, 0, none, [(0, 1), (2, 2)]⟩]
def badMv (S Pl f : Int) : List MvI := (bad1 S Pl f ++ bad2 S Pl f ++ bad3 S Pl f ++ bad4 S Pl f) ++ (if 2 < Pl then bad5 S Pl f ++ bad6 ++ (if 4 < Pl then bad7 else []) ++ bad8 else [])
section
variable {P : Program} {w : World} {K : PySem.W.Frag} {mg : Str → Option Value} {base : Heap}
abbrev s_law_bad_moves : Stmt := topS 24
theorem sc_law_bad_moves : FnScope ["states", "places", "far", "bad"] ["states", "places", "far"] (defScope s_law_bad_moves) := ⟨rfl, rfl, rfl, by decide +kernel, rfl, by decide +kernel, by decide +kernel⟩
-- _law_bad_moves slots: states=0 places=1 far=2 bad=3 globals: 
def spBadMv (K : PySem.W.Frag) : Sp := fun vs H Q _ => ∃ (S Pl f : Int), vs = [.int S, .int Pl, .int f] ∧ ∀ H' v, Same H H' → Dp K H' v (.list ((badMv S Pl f).map MvI.data)) → Q v H'
theorem fd_law_bad_moves {f : Addr} {fd : FuncData} (F : Fun K "_law_bad_moves" "_law_bad_moves" s_law_bad_moves f fd) (m : mg "_law_bad_moves" = some (.ref f)) (B : Bt mg) : Fd P w K mg base "_law_bad_moves" ["states", "places", "far"] 1 (spBadMv K) := by
  refine ⟨f, fd, F.ok sc_law_bad_moves (fun vs H Q E h => ?_) (fun cdv A outer s H vs Q E hr h => ?_), m, F.kp, F.binds (ps := ["states", "places", "far"]) fun _ _ _ _ _ _ us hl => match us, hl with | [_, _, _], _ => rfl⟩
  · obtain ⟨S, Pl, f, rfl, _⟩ := h
    rfl
  obtain ⟨S, Pl, f, rfl, q⟩ := h
  refine ⟨_, (pss_cons (ps_set (i := 3) sc_law_bad_moves.nd rfl (Or.inl rfl) (pe_lst (pa_cons (pe_tup (pa_cons (pe_op op_add (pe_op op_sub (pv 0) pe_int) (pv 2)) (pa_cons pe_int (pa_cons pe_int (pa_cons pe_int (pa_cons pe_non (pa_cons (pe_lst pa_nil) pa_nil))))))) (pa_cons (pe_tup (pa_cons (pe_un un_neg (pv 2)) (pa_cons pe_int (pa_cons pe_int (pa_cons pe_int (pa_cons pe_non (pa_cons (pe_lst pa_nil) pa_nil))))))) (pa_cons (pe_tup (pa_cons pe_int (pa_cons (pe_op op_add (pe_op op_sub (pv 1) pe_int) (pv 2)) (pa_cons pe_int (pa_cons pe_int (pa_cons pe_non (pa_cons (pe_lst pa_nil) pa_nil))))))) (pa_cons (pe_tup (pa_cons pe_int (pa_cons (pe_un un_neg (pv 2)) (pa_cons pe_int (pa_cons pe_int (pa_cons pe_non (pa_cons (pe_lst pa_nil) pa_nil))))))) pa_nil))))))
 (pss_cons (ps_set (i := 3) sc_law_bad_moves.nd rfl (Or.inl rfl) (pe_op (opCat K) (pv 3) (pe_lst (pa_cons (pe_tup (pa_cons pe_int (pa_cons pe_int (pa_cons (pv 0) (pa_cons pe_int (pa_cons pe_non (pa_cons (pe_lst pa_nil) pa_nil))))))) (pa_cons (pe_tup (pa_cons pe_int (pa_cons pe_int (pa_cons (pe_un un_neg pe_int) (pa_cons pe_int (pa_cons pe_non (pa_cons (pe_lst pa_nil) pa_nil))))))) (pa_cons (pe_tup (pa_cons pe_int (pa_cons pe_int (pa_cons pe_int (pa_cons (pv 1) (pa_cons pe_non (pa_cons (pe_lst pa_nil) pa_nil))))))) (pa_cons (pe_tup (pa_cons pe_int (pa_cons pe_int (pa_cons pe_int (pa_cons (pe_un un_neg pe_int) (pa_cons pe_non (pa_cons (pe_lst pa_nil) pa_nil))))))) pa_nil)))))))
 (pss_cons (ps_set (i := 3) sc_law_bad_moves.nd rfl (Or.inl rfl) (pe_op (opCat K) (pv 3) (pe_lst (pa_cons (pe_tup (pa_cons pe_int (pa_cons pe_int (pa_cons pe_int (pa_cons pe_int (pa_cons (pe_op op_add (pe_op op_sub (pv 1) pe_int) (pv 2)) (pa_cons (pe_lst pa_nil) pa_nil))))))) (pa_cons (pe_tup (pa_cons pe_int (pa_cons pe_int (pa_cons pe_int (pa_cons pe_int (pa_cons (pe_un un_neg (pv 2)) (pa_cons (pe_lst pa_nil) pa_nil))))))) (pa_cons (pe_tup (pa_cons pe_int (pa_cons pe_int (pa_cons pe_int (pa_cons pe_int (pa_cons pe_non (pa_cons (pe_lst (pa_cons (pe_tup (pa_cons (pv 1) (pa_cons pe_int pa_nil))) pa_nil)) pa_nil))))))) (pa_cons (pe_tup (pa_cons pe_int (pa_cons pe_int (pa_cons pe_int (pa_cons pe_int (pa_cons pe_non (pa_cons (pe_lst (pa_cons (pe_tup (pa_cons (pe_un un_neg (pv 2)) (pa_cons pe_int pa_nil))) pa_nil)) pa_nil))))))) pa_nil)))))))
 (pss_cons (ps_set (i := 3) sc_law_bad_moves.nd rfl (Or.inl rfl) (pe_op (opCat K) (pv 3) (pe_lst (pa_cons (pe_tup (pa_cons pe_int (pa_cons pe_int (pa_cons pe_int (pa_cons pe_int (pa_cons pe_non (pa_cons (pe_lst (pa_cons (pe_tup (pa_cons pe_int (pa_cons (pv 1) pa_nil))) pa_nil)) pa_nil))))))) (pa_cons (pe_tup (pa_cons pe_int (pa_cons pe_int (pa_cons pe_int (pa_cons pe_int (pa_cons pe_non (pa_cons (pe_lst (pa_cons (pe_tup (pa_cons pe_int (pa_cons (pe_un un_neg pe_int) pa_nil))) pa_nil)) pa_nil))))))) (pa_cons (pe_tup (pa_cons pe_int (pa_cons pe_int (pa_cons pe_int (pa_cons pe_int (pa_cons pe_non (pa_cons (pe_lst (pa_cons (pe_tup (pa_cons pe_int (pa_cons pe_int pa_nil))) pa_nil)) pa_nil))))))) pa_nil))))))
 (C8.pss_cut (ps_if (pt_cmpR op_gt (pv 1) pe_int (nomark _))
 (pss_cons (ps_set (i := 3) sc_law_bad_moves.nd rfl (Or.inl rfl) (pe_op (opCat K) (pv 3) (pe_lst (pa_cons (pe_tup (pa_cons pe_int (pa_cons pe_int (pa_cons pe_int (pa_cons pe_int (pa_cons pe_non (pa_cons (pe_lst (pa_cons (pe_tup (pa_cons pe_int (pa_cons pe_int pa_nil))) (pa_cons (pe_tup (pa_cons pe_int (pa_cons (pv 1) pa_nil))) pa_nil))) pa_nil))))))) (pa_cons (pe_tup (pa_cons pe_int (pa_cons pe_int (pa_cons pe_int (pa_cons pe_int (pa_cons pe_non (pa_cons (pe_lst (pa_cons (pe_tup (pa_cons pe_int (pa_cons pe_int pa_nil))) (pa_cons (pe_tup (pa_cons (pv 1) (pa_cons pe_int pa_nil))) pa_nil))) pa_nil))))))) (pa_cons (pe_tup (pa_cons pe_int (pa_cons pe_int (pa_cons pe_int (pa_cons pe_int (pa_cons pe_non (pa_cons (pe_lst (pa_cons (pe_tup (pa_cons pe_int (pa_cons pe_int pa_nil))) (pa_cons (pe_tup (pa_cons pe_int (pa_cons (pe_un un_neg pe_int) pa_nil))) pa_nil))) pa_nil))))))) pa_nil))))))
 (pss_cons (ps_set (i := 3) sc_law_bad_moves.nd rfl (Or.inl rfl) (pe_op (opCat K) (pv 3) (pe_lst (pa_cons (pe_tup (pa_cons pe_int (pa_cons pe_int (pa_cons pe_int (pa_cons pe_int (pa_cons pe_non (pa_cons (pe_lst (pa_cons (pe_tup (pa_cons pe_int (pa_cons pe_int pa_nil))) (pa_cons (pe_tup (pa_cons pe_int (pa_cons pe_int pa_nil))) pa_nil))) pa_nil))))))) (pa_cons (pe_tup (pa_cons pe_int (pa_cons pe_int (pa_cons pe_int (pa_cons pe_int (pa_cons pe_non (pa_cons (pe_lst (pa_cons (pe_tup (pa_cons pe_int (pa_cons pe_int pa_nil))) (pa_cons (pe_tup (pa_cons pe_int (pa_cons pe_int pa_nil))) pa_nil))) pa_nil))))))) (pa_cons (pe_tup (pa_cons pe_int (pa_cons pe_int (pa_cons pe_int (pa_cons pe_int (pa_cons pe_non (pa_cons (pe_lst (pa_cons (pe_tup (pa_cons pe_int (pa_cons pe_int pa_nil))) (pa_cons (pe_tup (pa_cons pe_int (pa_cons pe_int pa_nil))) pa_nil))) pa_nil))))))) pa_nil))))))
 (C8.pss_cut (ps_if (pt_cmpR op_gt (pv 1) pe_int (nomark _))
 (pss_one (ps_set (i := 3) sc_law_bad_moves.nd rfl (Or.inl rfl) (pe_op (opCat K) (pv 3) (pe_lst (pa_cons (pe_tup (pa_cons pe_int (pa_cons pe_int (pa_cons pe_int (pa_cons pe_int (pa_cons pe_non (pa_cons (pe_lst (pa_cons (pe_tup (pa_cons pe_int (pa_cons pe_int pa_nil))) (pa_cons (pe_tup (pa_cons pe_int (pa_cons pe_int pa_nil))) (pa_cons (pe_tup (pa_cons pe_int (pa_cons pe_int pa_nil))) pa_nil)))) pa_nil))))))) (pa_cons (pe_tup (pa_cons pe_int (pa_cons pe_int (pa_cons pe_int (pa_cons pe_int (pa_cons pe_non (pa_cons (pe_lst (pa_cons (pe_tup (pa_cons pe_int (pa_cons pe_int pa_nil))) (pa_cons (pe_tup (pa_cons pe_int (pa_cons pe_int pa_nil))) (pa_cons (pe_tup (pa_cons pe_int (pa_cons pe_int pa_nil))) pa_nil)))) pa_nil))))))) (pa_cons (pe_tup (pa_cons pe_int (pa_cons pe_int (pa_cons pe_int (pa_cons pe_int (pa_cons pe_non (pa_cons (pe_lst (pa_cons (pe_tup (pa_cons pe_int (pa_cons pe_int pa_nil))) (pa_cons (pe_tup (pa_cons pe_int (pa_cons pe_int pa_nil))) (pa_cons (pe_tup (pa_cons pe_int (pa_cons pe_int pa_nil))) pa_nil)))) pa_nil))))))) pa_nil)))))))
 pss_nil)
 (pss_one (ps_set (i := 3) sc_law_bad_moves.nd rfl (Or.inl rfl) (pe_op (opCat K) (pv 3) (pe_lst (pa_cons (pe_tup (pa_cons pe_int (pa_cons pe_int (pa_cons pe_int (pa_cons pe_int (pa_cons pe_non (pa_cons (pe_lst (pa_cons (pe_tup (pa_cons pe_int (pa_cons pe_int pa_nil))) (pa_cons (pe_tup (pa_cons pe_int (pa_cons pe_int pa_nil))) pa_nil))) pa_nil))))))) (pa_cons (pe_tup (pa_cons pe_int (pa_cons pe_int (pa_cons pe_int (pa_cons pe_int (pa_cons pe_non (pa_cons (pe_lst (pa_cons (pe_tup (pa_cons pe_int (pa_cons pe_int pa_nil))) (pa_cons (pe_tup (pa_cons pe_int (pa_cons pe_int pa_nil))) pa_nil))) pa_nil))))))) (pa_cons (pe_tup (pa_cons pe_int (pa_cons pe_int (pa_cons pe_int (pa_cons pe_int (pa_cons pe_non (pa_cons (pe_lst (pa_cons (pe_tup (pa_cons pe_int (pa_cons pe_int pa_nil))) (pa_cons (pe_tup (pa_cons pe_int (pa_cons pe_int pa_nil))) pa_nil))) pa_nil))))))) pa_nil))))))))))
 pss_nil)
 (pss_one (ps_ret (pv 3)))))))), ?_⟩
  refine Mk.run (K := K) (d := .list ((bad1 S Pl f).map MvI.data)) (by repeat (first | exact mk_int | exact mk_non | exact mk_nil | exact mk_varI | refine mk_cons ?_ ?_ | refine mk_tup vw_id ?_ ?_ | refine mk_lst vw_id ?_ ?_ | refine mk_add ?_ ?_ | refine mk_sub ?_ ?_ | refine mk_neg ?_ | exact Nat.le_of_ble_eq_true rfl)) fun H1 v1 s1 d1 => ?_
  dsimp only [gName]
  refine Mk.run (K := K) (d := .list ((bad1 S Pl f ++ bad2 S Pl f).map MvI.data)) (mk_catM vw_id (mk_var d1) (by repeat (first | exact mk_int | exact mk_non | exact mk_nil | exact mk_varI | refine mk_cons ?_ ?_ | refine mk_tup vw_id ?_ ?_ | refine mk_lst vw_id ?_ ?_ | refine mk_add ?_ ?_ | refine mk_sub ?_ ?_ | refine mk_neg ?_ | exact Nat.le_of_ble_eq_true rfl)) (Nat.le_of_ble_eq_true rfl)) fun H2 v2 s2 d2 => ?_
  dsimp only [gName]
  refine Mk.run (K := K) (d := .list ((bad1 S Pl f ++ bad2 S Pl f ++ bad3 S Pl f).map MvI.data)) (mk_catM vw_id (mk_var d2) (by repeat (first | exact mk_int | exact mk_non | exact mk_nil | exact mk_varI | refine mk_cons ?_ ?_ | refine mk_tup vw_id ?_ ?_ | refine mk_lst vw_id ?_ ?_ | refine mk_add ?_ ?_ | refine mk_sub ?_ ?_ | refine mk_neg ?_ | exact Nat.le_of_ble_eq_true rfl)) (Nat.le_of_ble_eq_true rfl)) fun H3 v3 s3 d3 => ?_
  dsimp only [gName]
  refine Mk.run (K := K) (d := .list ((bad1 S Pl f ++ bad2 S Pl f ++ bad3 S Pl f ++ bad4 S Pl f).map MvI.data)) (mk_catM vw_id (mk_var d3) (by repeat (first | exact mk_int | exact mk_non | exact mk_nil | exact mk_varI | refine mk_cons ?_ ?_ | refine mk_tup vw_id ?_ ?_ | refine mk_lst vw_id ?_ ?_ | refine mk_add ?_ ?_ | refine mk_sub ?_ ?_ | refine mk_neg ?_ | exact Nat.le_of_ble_eq_true rfl)) (Nat.le_of_ble_eq_true rfl)) fun H4 v4 s4 d4 => ?_
  dsimp only [gName]
  have s04 := ((s1.trans s2).trans s3).trans s4
  clear s1 s2 s3 s4 d1 d2 d3
  refine ⟨fun σ' H' => ∃ v, σ' = [some (.int S), some (.int Pl), some (.int f), some v] ∧ Same H H' ∧ Dp K H' v (.list ((badMv S Pl f).map MvI.data)), ?_, fun σ' H' => ?_⟩
  · unfold badMv
    refine ⟨_, rfl, _, _, rfl, rfl, _, rfl, ite2 (fun e => ?_) (fun e => ?_)⟩
    · have h2 : 2 < Pl := of_decide_eq_true e
      rw [if_pos h2]
      refine Mk.run (K := K) (d := .list ((bad1 S Pl f ++ bad2 S Pl f ++ bad3 S Pl f ++ bad4 S Pl f ++ bad5 S Pl f).map MvI.data)) (mk_catM vw_id (mk_var d4) (by repeat (first | exact mk_int | exact mk_non | exact mk_nil | exact mk_varI | refine mk_cons ?_ ?_ | refine mk_tup vw_id ?_ ?_ | refine mk_lst vw_id ?_ ?_ | refine mk_add ?_ ?_ | refine mk_sub ?_ ?_ | refine mk_neg ?_ | exact Nat.le_of_ble_eq_true rfl)) (Nat.le_of_ble_eq_true rfl)) fun H5 v5 s5 d5 => ?_
      dsimp only [gName]
      refine Mk.run (K := K) (d := .list ((bad1 S Pl f ++ bad2 S Pl f ++ bad3 S Pl f ++ bad4 S Pl f ++ bad5 S Pl f ++ bad6).map MvI.data)) (mk_catM vw_id (mk_var d5) (by repeat (first | exact mk_int | exact mk_non | exact mk_nil | exact mk_varI | refine mk_cons ?_ ?_ | refine mk_tup vw_id ?_ ?_ | refine mk_lst vw_id ?_ ?_ | refine mk_add ?_ ?_ | refine mk_sub ?_ ?_ | refine mk_neg ?_ | exact Nat.le_of_ble_eq_true rfl)) (Nat.le_of_ble_eq_true rfl)) fun H6 v6 s6 d6 => ?_
      dsimp only [gName]
      refine ⟨fun σ' H' => ∃ v, σ' = [some (.int S), some (.int Pl), some (.int f), some v] ∧ Same H H' ∧ Dp K H' v (.list ((bad1 S Pl f ++ bad2 S Pl f ++ bad3 S Pl f ++ bad4 S Pl f ++ bad5 S Pl f ++ bad6 ++ (if 4 < Pl then bad7 else [])).map MvI.data)), ?_, fun σ' H' => ?_⟩
      · refine ⟨_, rfl, _, _, rfl, rfl, _, rfl, ite2 (fun e4 => ?_) (fun e4 => ?_)⟩
        · rw [if_pos (of_decide_eq_true e4)]
          refine Mk.run (K := K) (d := .list ((bad1 S Pl f ++ bad2 S Pl f ++ bad3 S Pl f ++ bad4 S Pl f ++ bad5 S Pl f ++ bad6 ++ bad7).map MvI.data)) (mk_catM vw_id (mk_var d6) (by repeat (first | exact mk_int | exact mk_non | exact mk_nil | exact mk_varI | refine mk_cons ?_ ?_ | refine mk_tup vw_id ?_ ?_ | refine mk_lst vw_id ?_ ?_ | refine mk_add ?_ ?_ | refine mk_sub ?_ ?_ | refine mk_neg ?_ | exact Nat.le_of_ble_eq_true rfl)) (Nat.le_of_ble_eq_true rfl)) fun H7 v7 s7 d7 => ?_
          exact ⟨v7, rfl, ((s04.trans s5).trans s6).trans s7, d7⟩
        · rw [if_neg (fun z => e4 (decide_eq_true z)), List.append_nil]
          exact ⟨v6, rfl, (s04.trans s5).trans s6, d6⟩
      · rintro ⟨v7, rfl, s7, d7⟩
        have few : (if 4 < Pl then bad7 else []).length ≤ 3 := by
          split <;> decide
        refine Mk.run (K := K) (d := .list ((bad1 S Pl f ++ bad2 S Pl f ++ bad3 S Pl f ++ bad4 S Pl f ++ bad5 S Pl f ++ bad6 ++ (if 4 < Pl then bad7 else []) ++ bad8).map MvI.data)) (mk_catM vw_id (mk_var d7) (by repeat (first | exact mk_int | exact mk_non | exact mk_nil | exact mk_varI | refine mk_cons ?_ ?_ | refine mk_tup vw_id ?_ ?_ | refine mk_lst vw_id ?_ ?_ | refine mk_add ?_ ?_ | refine mk_sub ?_ ?_ | refine mk_neg ?_ | exact Nat.le_of_ble_eq_true rfl)) (by
          rw [List.length_append]
          have : (bad1 S Pl f ++ bad2 S Pl f ++ bad3 S Pl f ++ bad4 S Pl f ++ bad5 S Pl f ++ bad6).length = 21 := rfl
          have : bad8.length = 3 := rfl
          omega)) fun H8 v8 s8 d8 => ?_
        refine ⟨v8, rfl, s7.trans s8, ?_⟩
        simp only [List.append_assoc] at d8 ⊢
        exact d8
    · rw [if_neg (fun z => e (decide_eq_true z)), List.append_nil]
      exact ⟨v4, rfl, s04, d4⟩
  · rintro ⟨v, rfl, s5, d5⟩
    exact ⟨_, rfl, q _ _ s5 d5⟩
end
/-! ### small data; what is wrong with the faulty ones -/
structure MvI.Sm (m : MvI) : Prop where
  st : m.st.natAbs ≤ 5000
  pl : m.pl.natAbs ≤ 5000
  ns : m.ns.natAbs ≤ 5000
  np : m.np.natAbs ≤ 5000
  sd : ∀ d, m.sd = some d → d.natAbs ≤ 5000
  sh : ∀ p ∈ m.sh, p.1.natAbs ≤ 5000 ∧ p.2.natAbs ≤ 5000
  sl : m.sh.length ≤ 6
structure MI.Sm (M : MI) : Prop where
  s : M.states.natAbs ≤ 5000
  p : M.places.natAbs ≤ 5000
  st : M.sst.natAbs ≤ 5000
  cl : M.cnts.length ≤ 2000
  cs : ∀ c ∈ M.cnts, c.natAbs ≤ 5000
  cr : M.crew.natAbs ≤ 5000
  ml : M.moves.length ≤ 13
  mv : ∀ m ∈ M.moves, m.Sm
theorem prs_nc : ∀ {sh : List (Int × Int)}, (∀ p ∈ sh, p.1.natAbs ≤ 5000 ∧ p.2.natAbs ≤ 5000) → NcL (sh.map prD) (3 * sh.length) 1
  | [], _ => .nil
  | p :: r, h => by
    obtain ⟨h1, h2⟩ := h p List.mem_cons_self
    have a : NcD (prD p) 3 1 := NcL.tup (m := 0) (.cons (.int (by omega)) (.cons (.int (by omega)) (.nil (c := 0))))
    exact (NcL.cons a (prs_nc fun x hx => h x (List.mem_cons_of_mem _ hx))).mono (by rw [List.length_cons]; omega) (Nat.le_refl _)
theorem MvI.Sm.nc {m : MvI} (h : m.Sm) : NcD m.data 25 3 := by
  have a := prs_nc h.sh
  have b : NcD (oID m.sd) 1 2 := by
    have := h.sd
    cases e : m.sd with
    | none => exact ⟨rfl, Nat.le_refl _, Nat.zero_le _⟩
    | some d => exact .int (by have := this d e; omega)
  have h1 := h.st
  have h2 := h.pl
  have h3 := h.ns
  have h4 := h.np
  have h5 := h.sl
  exact (NcL.tup (m := 2) (.cons (.int (by omega)) (.cons (.int (by omega)) (.cons (.int (by omega)) (.cons (.int (by omega)) (.cons b (.cons (NcL.lst a) (.nil (c := 0))))))))).mono (by omega) (Nat.le_refl _)
theorem mvs_ncI : ∀ {ms : List MvI}, (∀ m ∈ ms, m.Sm) → NcL (ms.map MvI.data) (25 * ms.length) 3
  | [], _ => .nil
  | m :: r, h => (NcL.cons (h m List.mem_cons_self).nc (mvs_ncI fun x hx => h x (List.mem_cons_of_mem _ hx))).mono (by rw [List.length_cons]; omega) (Nat.le_refl _)
theorem MI.Sm.nc {M : MI} (h : M.Sm) : NcD M.data 2400 5 := by
  have a := mvs_ncI h.mv
  have b := sit_nc (s := M.sst) (ns := M.cnts) (by have := h.st; omega) fun n hn => by have := h.cs n hn; omega
  have h1 := h.s
  have h2 := h.p
  have h3 := h.cl
  have h4 := h.cr
  have h5 := h.ml
  exact (NcL.tup (m := 4) (.cons (.int (by omega)) (.cons (.int (by omega)) (.cons (b.mono (Nat.le_refl _) (by decide)) (.cons (.int (by omega)) (.cons (NcL.lst a) (.nil (c := 0)))))))).mono (by omega) (Nat.le_refl _)
theorem MI.Sm.shw {M : MI} (h : M.Sm) : Shw M.data := h.nc.shw (by decide) (by decide)
theorem MI.Sm.bad {M : MI} (h : M.Sm) (no : ¬ GM M) : BadM M := ⟨by have := h.ml; omega, fun m hm => by have := (h.mv m hm).sl; omega, h.shw, no⟩
theorem sm0 {a b c d : Int} {o : Option Int} {sh : List (Int × Int)} (h : a.natAbs ≤ 5000 ∧ b.natAbs ≤ 5000 ∧ c.natAbs ≤ 5000 ∧ d.natAbs ≤ 5000) (ho : ∀ e, o = some e → e.natAbs ≤ 5000) (hs : (∀ p ∈ sh, p.1.natAbs ≤ 5000 ∧ p.2.natAbs ≤ 5000) ∧ sh.length ≤ 6) : (⟨a, b, c, d, o, sh⟩ : MvI).Sm := ⟨h.1, h.2.1, h.2.2.1, h.2.2.2, ho, hs.1, hs.2⟩
def SmBad (S Pl : Int) (m : MvI) : Prop := m.Sm ∧ ¬ GMv m S Pl
theorem badMv_ok {S Pl f : Int} (hS : 1 ≤ S ∧ S ≤ 64) (hP : 1 ≤ Pl ∧ Pl ≤ 96) (hf : 1 ≤ f ∧ f ≤ 1000) : ∀ m ∈ badMv S Pl f, SmBad S Pl m := by
  have nn : ∀ e : Int, (none : Option Int) = some e → e.natAbs ≤ 5000 := fun _ z => nomatch z
  have n0 : (∀ p ∈ ([] : List (Int × Int)), p.1.natAbs ≤ 5000 ∧ p.2.natAbs ≤ 5000) ∧ ([] : List (Int × Int)).length ≤ 6 := ⟨fun _ z => absurd z List.not_mem_nil, by decide⟩
  have one : ∀ {a b : Int}, a.natAbs ≤ 5000 ∧ b.natAbs ≤ 5000 → (∀ p ∈ [(a, b)], p.1.natAbs ≤ 5000 ∧ p.2.natAbs ≤ 5000) ∧ [(a, b)].length ≤ 6 := fun h => ⟨fun p hp => by rw [List.mem_singleton.mp hp]; exact h, by simp⟩
  have two : ∀ {a b c d : Int}, (a.natAbs ≤ 5000 ∧ b.natAbs ≤ 5000) ∧ (c.natAbs ≤ 5000 ∧ d.natAbs ≤ 5000) → (∀ p ∈ [(a, b), (c, d)], p.1.natAbs ≤ 5000 ∧ p.2.natAbs ≤ 5000) ∧ [(a, b), (c, d)].length ≤ 6 := fun h => ⟨fun p hp => by
    rcases List.mem_cons.mp hp with e | hp
    · rw [e]; exact h.1
    · rw [List.mem_singleton.mp hp]; exact h.2, by simp⟩
  have tri : ∀ {a b c d e g : Int}, (a.natAbs ≤ 5000 ∧ b.natAbs ≤ 5000) ∧ (c.natAbs ≤ 5000 ∧ d.natAbs ≤ 5000) ∧ (e.natAbs ≤ 5000 ∧ g.natAbs ≤ 5000) → (∀ p ∈ [(a, b), (c, d), (e, g)], p.1.natAbs ≤ 5000 ∧ p.2.natAbs ≤ 5000) ∧ [(a, b), (c, d), (e, g)].length ≤ 6 := fun h => ⟨fun p hp => by
    rcases List.mem_cons.mp hp with e | hp
    · rw [e]; exact h.1
    · rcases List.mem_cons.mp hp with e | hp
      · rw [e]; exact h.2.1
      · rw [List.mem_singleton.mp hp]; exact h.2.2, by simp⟩
  intro m hm
  unfold badMv bad1 bad2 bad3 bad4 bad5 bad6 bad7 bad8 at hm
  simp only [List.mem_append, List.mem_cons, List.not_mem_nil, or_false] at hm
  rcases hm with ((((h | h | h | h) | (h | h | h | h)) | (h | h | h | h)) | (h | h | h)) | h
  · subst h; exact ⟨sm0 (by omega) nn n0, fun g => by have := g.st; dsimp only at this; omega⟩
  · subst h; exact ⟨sm0 (by omega) nn n0, fun g => by have := g.st; dsimp only at this; omega⟩
  · subst h; exact ⟨sm0 (by omega) nn n0, fun g => by have := g.pl; dsimp only at this; omega⟩
  · subst h; exact ⟨sm0 (by omega) nn n0, fun g => by have := g.pl; dsimp only at this; omega⟩
  · subst h; exact ⟨sm0 (by omega) nn n0, fun g => by have := g.ns; dsimp only at this; omega⟩
  · subst h; exact ⟨sm0 (by omega) nn n0, fun g => by have := g.ns; dsimp only at this; omega⟩
  · subst h; exact ⟨sm0 (by omega) nn n0, fun g => by have := g.np; dsimp only at this; omega⟩
  · subst h; exact ⟨sm0 (by omega) nn n0, fun g => by have := g.np; dsimp only at this; omega⟩
  · subst h; exact ⟨sm0 (by omega) (fun e z => by cases z; omega) n0, fun g => by have := g.sd _ rfl; omega⟩
  · subst h; exact ⟨sm0 (by omega) (fun e z => by cases z; omega) n0, fun g => by have := g.sd _ rfl; omega⟩
  · subst h; exact ⟨sm0 (by omega) nn (one (by omega)), fun g => by have := g.sh.rg _ List.mem_cons_self; dsimp only at this; omega⟩
  · subst h; exact ⟨sm0 (by omega) nn (one (by omega)), fun g => by have := g.sh.rg _ List.mem_cons_self; dsimp only at this; omega⟩
  · subst h; exact ⟨sm0 (by omega) nn (one (by omega)), fun g => by have := g.sh.rg _ List.mem_cons_self; dsimp only at this; omega⟩
  · subst h; exact ⟨sm0 (by omega) nn (one (by omega)), fun g => by have := g.sh.rg _ List.mem_cons_self; dsimp only at this; omega⟩
  · subst h; exact ⟨sm0 (by omega) nn (one (by omega)), fun g => g.sh.sep _ List.mem_cons_self (by simp)⟩
  split at h
  · simp only [List.mem_append, List.mem_cons, List.not_mem_nil, or_false] at h
    rcases h with (((h | h | h) | (h | h | h)) | h) | (h | h | h)
    · subst h; exact ⟨sm0 (by omega) nn (two (by omega)), fun g => by have := g.sh.rg (1, Pl) (by simp); dsimp only at this; omega⟩
    · subst h; exact ⟨sm0 (by omega) nn (two (by omega)), fun g => by have := g.sh.rg (Pl, 1) (by simp); dsimp only at this; omega⟩
    · subst h; exact ⟨sm0 (by omega) nn (two (by omega)), fun g => by have := g.sh.rg (1, -1) (by simp); dsimp only at this; omega⟩
    · subst h; exact ⟨sm0 (by omega) nn (two (by omega)), fun g => by have := g.sh.asc; simp at this⟩
    · subst h; exact ⟨sm0 (by omega) nn (two (by omega)), fun g => by have := g.sh.asc; simp at this⟩
    · subst h; exact ⟨sm0 (by omega) nn (two (by omega)), fun g => by have := g.sh.asc; simp at this⟩
    · split at h
      · simp only [List.mem_cons, List.not_mem_nil, or_false] at h
        rcases h with h | h | h
        · subst h; exact ⟨sm0 (by omega) nn (tri (by omega)), fun g => by have := g.sh.asc; simp at this⟩
        · subst h; exact ⟨sm0 (by omega) nn (tri (by omega)), fun g => by have := g.sh.asc; simp at this⟩
        · subst h; exact ⟨sm0 (by omega) nn (tri (by omega)), fun g => g.sh.sep (2, 1) (by simp) (by simp)⟩
      · exact absurd h List.not_mem_nil
    · subst h; exact ⟨sm0 (by omega) nn (two (by omega)), fun g => g.sh.sep (0, 1) (by simp) (by simp)⟩
    · subst h; exact ⟨sm0 (by omega) nn (two (by omega)), fun g => g.sh.sep (1, 0) (by simp) (by simp)⟩
    · subst h; exact ⟨sm0 (by omega) nn (two (by omega)), fun g => g.sh.sep (2, 2) (by simp) (by simp)⟩
  · exact absurd h List.not_mem_nil
/-! ### the law's faulty starts -/
def MI.with0 (M : MI) (S : Int) : MI := ⟨S, M.places, M.sst, M.cnts, M.crew, []⟩
def MI.sit (M : MI) (p : Int × List Int) : MI := ⟨M.states, M.places, p.1, p.2, M.crew, M.moves⟩
def MI.crw (M : MI) (c : Int) : MI := ⟨M.states, M.places, M.sst, M.cnts, c, M.moves⟩
def stA (M : MI) (f : Int) : List MI := [M.with0 0, M.with0 (64 + f), ⟨M.states, 0, 0, [], 0, []⟩]
def stB (M : MI) (f : Int) : List MI := [⟨M.states, 96 + f, 0, List.replicate (96 + f).toNat 0, 0, []⟩, M.with0 (-f)]
def stL (M : MI) (f : Int) : List (Int × List Int) := [(M.states - 1 + f, M.cnts), (-f, M.cnts), (0, M.cnts ++ [0]), (0, cutI M.cnts (some 1) none), (0, cutI M.cnts none (some (-1)) ++ [-f]), (0, [-1] ++ cutI M.cnts (some 1) none)]
def stAt (M : MI) (f : Int) : Int × List Int := (0, cutI M.cnts none (some (f % M.places)) ++ [-f] ++ cutI M.cnts (some (f % M.places + 1)) none)
def stC (M : MI) (f : Int) : List Int := [M.places - 1 + f, -f]
def badSt (M : MI) (f : Int) : List MI := (stA M f ++ stB M f) ++ (stL M f).map M.sit ++ [M.sit (stAt M f)] ++ (stC M f).map M.crw
def sitP (p : Int × List Int) : PyData := sitD p.1 p.2
section
variable {P : Program} {w : World} {K : PySem.W.Frag} {mg : Str → Option Value} {base : Heap}
abbrev s_law_bad_starts : Stmt := topS 25
theorem sc_law_bad_starts : FnScope ["machine", "far", "states", "places", "counts", "bad", "start", "at", "crew"] ["machine", "far"] (defScope s_law_bad_starts) := ⟨rfl, rfl, rfl, by decide +kernel, rfl, by decide +kernel, by decide +kernel⟩
-- _law_bad_starts slots: machine=0 far=1 states=2 places=3 counts=4 bad=5 start=6 at=7 crew=8 globals: int
def spBadSt (K : PySem.W.Frag) : Sp := fun vs H Q _ => ∃ (v : V) (M : MI) (f : Int), vs = [v, .int f] ∧ Dp K H v M.data ∧ 1 ≤ f ∧ f ≤ 1000 ∧ 1 ≤ M.places ∧ M.cnts.length ≤ 100 ∧ ∀ H' v, Same H H' → Dp K H' v (.list ((badSt M f).map MI.data)) → Q v H'
theorem fd_law_bad_starts {f : Addr} {fd : FuncData} (F : Fun K "_law_bad_starts" "_law_bad_starts" s_law_bad_starts f fd) (m : mg "_law_bad_starts" = some (.ref f)) (B : Bt mg) : Fd P w K mg base "_law_bad_starts" ["machine", "far"] 1 (spBadSt K) := by
  refine ⟨f, fd, F.ok sc_law_bad_starts (fun vs H Q E h => ?_) (fun cdv A outer s H vs Q E hr h => ?_), m, F.kp, F.binds (ps := ["machine", "far"]) fun _ _ _ _ _ _ us hl => match us, hl with | [_, _], _ => rfl⟩
  · obtain ⟨v, M, f, rfl, _⟩ := h
    rfl
  obtain ⟨v, M, f, rfl, hd, f1, f2, p1, cl, q⟩ := h
  obtain ⟨a, sv, ma, mxs, rfl, h1, h2, h3, h4⟩ := dp_ma hd
  have dsv := sit_dp h2
  have dma : Dp K H (.ref ma) (.list (M.moves.map MvI.data)) := .lst h3 h4
  obtain ⟨sa, ca, rfl, h5, h6⟩ := h2
  have dca : Dp K H (.ref ca) (.list (M.cnts.map .int)) := .lst h6 (dpa_ints _)
  refine ⟨_, (pss_cons (ps_set (i := 2) sc_law_bad_starts.nd rfl (Or.inl rfl) (pe_ix (ixT K) (pv 0) pe_int (fun _ _ => rfl)))
 (pss_cons (ps_set (i := 3) sc_law_bad_starts.nd rfl (Or.inl rfl) (pe_ix (ixT K) (pv 0) pe_int (fun _ _ => rfl)))
 (pss_cons (ps_set (i := 4) sc_law_bad_starts.nd rfl (Or.inl rfl) (pe_ix (ixT K) (pe_ix (ixT K) (pv 0) pe_int (fun _ _ => rfl)) pe_int (fun _ _ => rfl)))
 (pss_cons (ps_set (i := 5) sc_law_bad_starts.nd rfl (Or.inl rfl) (pe_lst (pa_cons (pe_tup (pa_cons pe_int (pa_cons (pv 3) (pa_cons (pe_ix (ixT K) (pv 0) pe_int (fun _ _ => rfl)) (pa_cons (pe_ix (ixT K) (pv 0) pe_int (fun _ _ => rfl)) (pa_cons (pe_lst pa_nil) pa_nil)))))) (pa_cons (pe_tup (pa_cons (pe_op op_add pe_int (pv 1)) (pa_cons (pv 3) (pa_cons (pe_ix (ixT K) (pv 0) pe_int (fun _ _ => rfl)) (pa_cons (pe_ix (ixT K) (pv 0) pe_int (fun _ _ => rfl)) (pa_cons (pe_lst pa_nil) pa_nil)))))) (pa_cons (pe_tup (pa_cons (pv 2) (pa_cons pe_int (pa_cons (pe_tup (pa_cons pe_int (pa_cons (pe_lst pa_nil) pa_nil))) (pa_cons pe_int (pa_cons (pe_lst pa_nil) pa_nil)))))) pa_nil)))))
 (pss_cons (ps_set (i := 5) sc_law_bad_starts.nd rfl (Or.inl rfl) (pe_op (opCat K) (pv 5) (pe_lst (pa_cons (pe_tup (pa_cons (pv 2) (pa_cons (pe_op op_add pe_int (pv 1)) (pa_cons (pe_tup (pa_cons pe_int (pa_cons (pe_op op_rep (pe_lst (pa_cons pe_int pa_nil)) (pe_op op_add pe_int (pv 1))) pa_nil))) (pa_cons pe_int (pa_cons (pe_lst pa_nil) pa_nil)))))) (pa_cons (pe_tup (pa_cons (pe_un un_neg (pv 1)) (pa_cons (pv 3) (pa_cons (pe_ix (ixT K) (pv 0) pe_int (fun _ _ => rfl)) (pa_cons (pe_ix (ixT K) (pv 0) pe_int (fun _ _ => rfl)) (pa_cons (pe_lst pa_nil) pa_nil)))))) pa_nil)))))
 (pss_cons (ps_for PassesOwn.never rfl (piL K (pe_lst (pa_cons (pe_tup (pa_cons (pe_op op_add (pe_op op_sub (pv 2) pe_int) (pv 1)) (pa_cons (pv 4) pa_nil))) (pa_cons (pe_tup (pa_cons (pe_un un_neg (pv 1)) (pa_cons (pv 4) pa_nil))) (pa_cons (pe_tup (pa_cons pe_int (pa_cons (pe_op (opCat K) (pv 4) (pe_lst (pa_cons pe_int pa_nil))) pa_nil))) (pa_cons (pe_tup (pa_cons pe_int (pa_cons (pe_slice (slL K) (pv 4) (po_some pe_int) po_none) pa_nil))) (pa_cons (pe_tup (pa_cons pe_int (pa_cons (pe_op (opCat K) (pe_slice (slL K) (pv 4) po_none (po_some (pe_un un_neg pe_int))) (pe_lst (pa_cons (pe_un un_neg (pv 1)) pa_nil))) pa_nil))) (pa_cons (pe_tup (pa_cons pe_int (pa_cons (pe_op (opCat K) (pe_lst (pa_cons (pe_un un_neg pe_int) pa_nil)) (pe_slice (slL K) (pv 4) (po_some pe_int) po_none)) pa_nil))) pa_nil)))))))) (pg_name (i := 6) sc_law_bad_starts.nd rfl (Or.inl rfl))
 (pss_one (ps_expr (peBm K PySem.F.plainAttrs_list PySem.F.slot_list_append PySem.F.type_list_append mt_append (pv 5) (pa_cons (pe_tup (pa_cons (pv 2) (pa_cons (pv 3) (pa_cons (pv 6) (pa_cons (pe_ix (ixT K) (pv 0) pe_int (fun _ _ => rfl)) (pa_cons (pe_ix (ixT K) (pv 0) pe_int (fun _ _ => rfl)) pa_nil)))))) pa_nil)))))
 (pss_cons (ps_set (i := 7) sc_law_bad_starts.nd rfl (Or.inl rfl) (pe_op op_mod (pe_callTy call_int1 (by rfl) B.int (by decide +kernel) (pa_cons (pv 1) pa_nil)) (pv 3)))
 (pss_cons (ps_expr (peBm K PySem.F.plainAttrs_list PySem.F.slot_list_append PySem.F.type_list_append mt_append (pv 5) (pa_cons (pe_tup (pa_cons (pv 2) (pa_cons (pv 3) (pa_cons (pe_tup (pa_cons pe_int (pa_cons (pe_op (opCat K) (pe_op (opCat K) (pe_slice (slL K) (pv 4) po_none (po_some (pv 7))) (pe_lst (pa_cons (pe_un un_neg (pv 1)) pa_nil))) (pe_slice (slL K) (pv 4) (po_some (pe_op op_add (pv 7) pe_int)) po_none)) pa_nil))) (pa_cons (pe_ix (ixT K) (pv 0) pe_int (fun _ _ => rfl)) (pa_cons (pe_ix (ixT K) (pv 0) pe_int (fun _ _ => rfl)) pa_nil)))))) pa_nil)))
 (pss_cons (ps_for PassesOwn.never rfl (piL K (pe_lst (pa_cons (pe_op op_add (pe_op op_sub (pv 3) pe_int) (pv 1)) (pa_cons (pe_un un_neg (pv 1)) pa_nil)))) (pg_name (i := 8) sc_law_bad_starts.nd rfl (Or.inl rfl))
 (pss_one (ps_expr (peBm K PySem.F.plainAttrs_list PySem.F.slot_list_append PySem.F.type_list_append mt_append (pv 5) (pa_cons (pe_tup (pa_cons (pv 2) (pa_cons (pv 3) (pa_cons (pe_ix (ixT K) (pv 0) pe_int (fun _ _ => rfl)) (pa_cons (pv 8) (pa_cons (pe_ix (ixT K) (pv 0) pe_int (fun _ _ => rfl)) pa_nil)))))) pa_nil)))))
 (pss_one (ps_ret (pv 5)))))))))))), ?_⟩
  refine ⟨_, rfl, _, _, _, _, rfl, rfl, h1, atI_nat (j := 0) rfl, ?_⟩
  dsimp only [gName]
  refine ⟨_, rfl, _, _, _, _, rfl, rfl, h1, atI_nat (j := 1) rfl, ?_⟩
  dsimp only [gName]
  refine ⟨_, rfl, _, _, _, _, rfl, rfl, h1, atI_nat (j := 2) rfl, _, _, _, _, rfl, rfl, h5, atI_nat (j := 1) rfl, ?_⟩
  dsimp only [gName]
  refine Mk.run (K := K) (d := .list ((stA M f).map MI.data)) (by repeat (first | exact mk_int | exact mk_non | exact mk_nil | exact mk_varI | exact (mk_ixT (j := 2) vw_id h1 rfl dsv) | exact (mk_ixT (j := 3) vw_id h1 rfl (.int _)) | exact mk_int | refine mk_cons ?_ ?_ | refine mk_tup vw_id ?_ ?_ | refine mk_lst vw_id ?_ ?_ | refine mk_add ?_ ?_ | refine mk_sub ?_ ?_ | refine mk_neg ?_ | exact Nat.le_of_ble_eq_true rfl)) fun H1 v1 s1 d1 => ?_
  dsimp only [gName]
  obtain ⟨o1, xs1, rfl, e1, g1⟩ := dp_lst d1
  have k1 := Same.seqT s1 h1
  refine ⟨_, rfl, Mk.run (K := K) (d := .list ((stB M f).map MI.data)) (by repeat (first | exact mk_int | exact mk_non | exact mk_nil | exact mk_varI | exact (mk_ixT (j := 2) vw_id k1 rfl (dp_mono s1 dsv)) | exact (mk_ixT (j := 3) vw_id k1 rfl (.int _)) | exact (mk_rep vw_id (mk_add mk_int mk_varI) (by omega)) | refine mk_cons ?_ ?_ | refine mk_tup vw_id ?_ ?_ | refine mk_lst vw_id ?_ ?_ | refine mk_add ?_ ?_ | refine mk_sub ?_ ?_ | refine mk_neg ?_ | exact Nat.le_of_ble_eq_true rfl)) fun H2 v2 s2 d2 => ?_⟩
  obtain ⟨o2, xs2, rfl, e2, g2⟩ := dp_lst d2
  have g12 := dpa_app (dpAll_mono s2 g1) g2
  rw [← List.map_append] at g12
  refine ⟨_, _, _, _, rfl, rfl, s2.seq e1, e2, (by rw [dpa_map_len g1, dpa_map_len g2, sizeLine_eq]; exact Nat.le_of_ble_eq_true rfl), fun o no => ?_⟩
  dsimp only [gName]
  have s02 := s1.trans s2
  have s3 : Same H2 (Ho o (upd H2 o (.lst (xs1 ++ xs2)))) := ho_first no
  have s0 : Same H (upd H2 o (.lst (xs1 ++ xs2))) := s02.trans (same_new no)
  have eo : (upd H2 o (.lst (xs1 ++ xs2))) o = some (.lst (xs1 ++ xs2)) := upd_same
  have nHo : H o = none := by
    cases z : H o with
    | none => rfl
    | some u => rw [s02 _ _ z] at no; cases no
  have gg := dpAll_mono s3 g12
  generalize xs1 ++ xs2 = xs at gg eo s3 s0 ⊢
  have sH3 : Same H (Ho o (upd H2 o (.lst xs))) := s02.trans s3
  generalize upd H2 o (.lst xs) = H3 at gg eo s3 s0 sH3 ⊢
  clear s3 g12 e1 e2 g1 g2 no d1 d2 k1 s1 s2
  have l12 : (stA M f ++ stB M f).length = 5 := rfl
  generalize hL5 : stA M f ++ stB M f = L5 at gg l12
  have xl := dpa_map_len gg
  have vw := vw_ho o
  -- the starts
  refine forL17 fun D1 eD1 => ?_
  refine Mk.runW (K := K) (W := Ho o) (G := fun H => H o ≠ none) (H0 := H) (d := .list ((stL M f).map sitP)) (by
    have le1 : Nat.ble 1 100000 = true := rfl
    have lc : ∀ lo hi, (cutI M.cnts lo hi).length + [(-f)].length ≤ 100000 := fun lo hi => by have := cutI_len M.cnts lo hi; simp only [List.length_singleton]; omega
    have lc2 : ∀ lo hi, [(-1 : Int)].length + (cutI M.cnts lo hi).length ≤ 100000 := fun lo hi => by have := cutI_len M.cnts lo hi; simp only [List.length_singleton]; omega
    have lc3 : M.cnts.length + [(0 : Int)].length ≤ 100000 := by simp only [List.length_singleton]; omega
    repeat (first | exact mk_int | exact mk_non | exact mk_nil | exact mk_varI | exact (mk_var dca) | exact (mk_catM vw (mk_var dca) (mk_lst vw (mk_cons mk_int mk_nil) (Nat.le_of_ble_eq_true le1)) lc3) | exact (mk_sl vw (mk_var dca) po_int po_no) | exact (mk_catM vw (mk_sl vw (mk_var dca) po_no po_neg) (mk_lst vw (mk_cons (mk_neg mk_varI) mk_nil) (Nat.le_of_ble_eq_true le1)) (lc _ _)) | exact (mk_catM vw (mk_lst vw (mk_cons (mk_neg mk_int) mk_nil) (Nat.le_of_ble_eq_true le1)) (mk_sl vw (mk_var dca) po_int po_no) (lc2 _ _)) | refine mk_cons ?_ ?_ | refine mk_tup vw ?_ ?_ | refine mk_lst vw ?_ ?_ | refine mk_add ?_ ?_ | refine mk_sub ?_ ?_ | refine mk_neg ?_ | exact Nat.le_of_ble_eq_true rfl)) (by show H3 o ≠ none; rw [eo]; exact fun z => nomatch z) sH3 fun H4 v4 g4 s4 w4 d4 => ?_
  obtain ⟨l, ys, rfl, el, dl⟩ := dp_lst d4
  have yl := dpa_map_len dl
  have sH4 := sH3.trans w4
  refine ⟨l, rfl, ⟨_, ho_out.seq el⟩, for_list (xs := ys) (fun i σ' H' => ∃ (y6 : Option V) (zs : List V), σ' = [some (.ref a), some (.int f), some (.int M.states), some (.int M.places), some (.ref ca), some (.ref o), y6, none, none] ∧ Same (Ho o H4) (Ho o H') ∧ H' o = some (.lst zs) ∧ DpAll K (Ho o H') zs ((L5 ++ ((stL M f).take i).map M.sit).map MI.data)) ?_ ?_ ?_ ?_⟩
  · exact ⟨_, xs, rfl, Same.refl _, s4 _ _ eo, by rw [List.take_zero, List.map_nil, List.append_nil]; exact dpAll_mono w4 gg⟩
  · rintro i σ' H' _ ⟨y6, zs, rfl, sm, _⟩
    exact ho_out.seq (sm.seq el)
  · rintro i x σ' H' hx ⟨y6, zs, rfl, sm, ez, dz⟩
    obtain ⟨p, hp, dx⟩ := dpa_map_at dl hx
    dsimp only [gName]
    have il : i < (stL M f).length := (List.getElem?_eq_some_iff.mp hp).1
    have zl := dpa_map_len dz
    rw [List.length_append, List.length_map, List.length_take] at zl
    have sl6 : (stL M f).length = 6 := rfl
    refine ⟨_, rfl, .inl ⟨rfl, _, sq ez⟩, ?_⟩
    refine Mk.runW (K := K) (W := Ho o) (G := fun H => H o ≠ none) (H0 := Ho o H4) (d := (M.sit p).data) (by
      have k1 := Same.seqT sH4 h1
      repeat (first | exact mk_int | exact mk_non | exact mk_nil | exact mk_varI | exact (mk_var dx) | exact (mk_ixT (j := 3) vw k1 rfl (.int _)) | exact (mk_ixT (j := 4) vw k1 rfl (dp_mono sH4 dma)) | refine mk_cons ?_ ?_ | refine mk_tup vw ?_ ?_ | refine mk_lst vw ?_ ?_ | refine mk_add ?_ ?_ | refine mk_sub ?_ ?_ | refine mk_neg ?_ | exact Nat.le_of_ble_eq_true rfl)) (by show H' o ≠ none; rw [ez]; exact fun z => nomatch z) sm fun H5 v5 g5 s5 w5 d5 => ?_
    refine ⟨o, _, _, rfl, rfl, s5 _ _ ez, szl (by omega), ?_⟩
    refine ⟨_, zs ++ [v5], rfl, (sm.trans w5).trans ho_mut, upd_same, ?_⟩
    rw [show L5 ++ ((stL M f).take (i + 1)).map M.sit = (L5 ++ ((stL M f).take i).map M.sit) ++ [M.sit p] by rw [take_snoc hp, List.map_append, ← List.append_assoc]; rfl, List.map_append]
    exact dpAll_mono ho_mut (dpa_app (dpAll_mono w5 dz) (.cons d5 .nil))
  subst eD1
  rintro σ' H5 ⟨y6, zs, rfl, sm5, ez, dz⟩
  rw [yl, List.take_length] at dz
  have zl := dpa_map_len dz
  rw [List.length_append, List.length_map] at zl
  have sl6 : (stL M f).length = 6 := rfl
  have sH5 := sH4.trans sm5
  generalize hL : L5 ++ (stL M f).map M.sit = L11 at dz
  have l11 : L11.length = 11 := by rw [← hL, List.length_append, List.length_map]; omega
  refine ⟨_, rfl, .inl ⟨_, rfl, _, rfl, _, _, rfl, rfl, (by omega), ?_⟩⟩
  dsimp only [gName]
  -- the one more
  refine ⟨_, rfl, .inl ⟨rfl, _, sq ez⟩, ?_⟩
  refine Mk.runW (K := K) (W := Ho o) (G := fun H => H o ≠ none) (H0 := Ho o H5) (d := (M.sit (stAt M f)).data) (by
    have k1 := Same.seqT sH5 h1
    have le1 : Nat.ble 1 100000 = true := rfl
    have b1 : (cutI M.cnts none (some (f % M.places))).length + [(-f)].length ≤ 100000 := by have := cutI_len M.cnts none (some (f % M.places)); simp only [List.length_singleton]; omega
    have b2 : (cutI M.cnts none (some (f % M.places)) ++ [-f]).length + (cutI M.cnts (some (f % M.places + 1)) none).length ≤ 100000 := by
      have := cutI_len M.cnts none (some (f % M.places))
      have := cutI_len M.cnts (some (f % M.places + 1)) none
      rw [List.length_append]
      simp only [List.length_singleton]
      omega
    repeat (first | exact mk_int | exact mk_non | exact mk_nil | exact mk_varI | exact (mk_catM vw (mk_catM vw (mk_sl vw (mk_var (dp_mono sH5 dca)) po_no po_var) (mk_lst vw (mk_cons (mk_neg mk_varI) mk_nil) (Nat.le_of_ble_eq_true le1)) b1) (mk_sl vw (mk_var (dp_mono sH5 dca)) po_varp po_no) b2) | exact (mk_ixT (j := 3) vw k1 rfl (.int _)) | exact (mk_ixT (j := 4) vw k1 rfl (dp_mono sH5 dma)) | refine mk_cons ?_ ?_ | refine mk_tup vw ?_ ?_ | refine mk_lst vw ?_ ?_ | refine mk_add ?_ ?_ | refine mk_sub ?_ ?_ | refine mk_neg ?_ | exact Nat.le_of_ble_eq_true rfl)) (by show H5 o ≠ none; rw [ez]; exact fun z => nomatch z) (Same.refl _) fun H6 v6 g6 s6 w6 d6 => ?_
  refine ⟨o, _, _, rfl, rfl, s6 _ _ ez, szl (by omega), ?_⟩
  have sH7 : Same H (Ho o (upd H6 o (.lst (zs ++ [v6])))) := (sH5.trans w6).trans ho_mut
  have e7 : (upd H6 o (.lst (zs ++ [v6]))) o = some (.lst (zs ++ [v6])) := upd_same
  have d7 : DpAll K (Ho o (upd H6 o (.lst (zs ++ [v6])))) (zs ++ [v6]) ((L11 ++ [M.sit (stAt M f)]).map MI.data) := by
    rw [List.map_append]
    exact dpAll_mono ho_mut (dpa_app (dpAll_mono w6 dz) (.cons d6 .nil))
  have l7 : (zs ++ [v6]).length = 12 := by rw [List.length_append, List.length_singleton]; omega
  generalize upd H6 o (.lst (zs ++ [v6])) = H7 at sH7 e7 d7 ⊢
  generalize zs ++ [v6] = zs7 at e7 d7 l7
  clear d6 w6 s6 g6 dz ez sm5 sH5 s4 w4 d4 dl el sH4 g4
  -- the crews
  dsimp only
  refine forL17 fun D1 eD1 => ?_
  refine Mk.runW (K := K) (W := Ho o) (G := fun H => H o ≠ none) (H0 := H) (d := .list ((stC M f).map .int)) (by repeat (first | exact mk_int | exact mk_non | exact mk_nil | exact mk_varI | refine mk_cons ?_ ?_ | refine mk_tup vw ?_ ?_ | refine mk_lst vw ?_ ?_ | refine mk_add ?_ ?_ | refine mk_sub ?_ ?_ | refine mk_neg ?_ | exact Nat.le_of_ble_eq_true rfl)) (by show H7 o ≠ none; rw [e7]; exact fun z => nomatch z) sH7 fun H8 v8 g8 s8 w8 d8 => ?_
  obtain ⟨l, ys, rfl, el, dl⟩ := dp_lst d8
  have ye := dpa_intsE dl
  subst ye
  refine ⟨l, rfl, ⟨_, ho_out.seq el⟩, for_list (xs := (stC M f).map V.int) (fun i σ' H' => ∃ (y8 : Option V) (zs : List V), σ' = [some (.ref a), some (.int f), some (.int M.states), some (.int M.places), some (.ref ca), some (.ref o), y6, some (.int (f % M.places)), y8] ∧ Same (Ho o H8) (Ho o H') ∧ H' o = some (.lst zs) ∧ DpAll K (Ho o H') zs (((L11 ++ [M.sit (stAt M f)]) ++ ((stC M f).take i).map M.crw).map MI.data)) ?_ ?_ ?_ ?_⟩
  · exact ⟨_, zs7, rfl, Same.refl _, s8 _ _ e7, by rw [List.take_zero, List.map_nil, List.append_nil]; exact dpAll_mono w8 d7⟩
  · rintro i σ' H' _ ⟨y8, zs, rfl, sm, _⟩
    exact ho_out.seq (sm.seq el)
  · rintro i x σ' H' hx ⟨y8, zs, rfl, sm, ez, dz⟩
    obtain ⟨p, hp, rfl⟩ := get_map_inv hx
    dsimp only [gName]
    have il : i < (stC M f).length := (List.getElem?_eq_some_iff.mp hp).1
    have zl := dpa_map_len dz
    rw [List.length_append, List.length_append, List.length_map, List.length_take, List.length_singleton] at zl
    have sl2 : (stC M f).length = 2 := rfl
    refine ⟨_, rfl, .inl ⟨rfl, _, sq ez⟩, ?_⟩
    refine Mk.runW (K := K) (W := Ho o) (G := fun H => H o ≠ none) (H0 := Ho o H8) (d := (M.crw p).data) (by
      have sH8 := sH7.trans w8
      have k1 := Same.seqT sH8 h1
      repeat (first | exact mk_int | exact mk_non | exact mk_nil | exact mk_varI | exact (mk_ixT (j := 2) vw k1 rfl (dp_mono sH8 dsv)) | exact (mk_ixT (j := 4) vw k1 rfl (dp_mono sH8 dma)) | exact mk_int | refine mk_cons ?_ ?_ | refine mk_tup vw ?_ ?_ | refine mk_lst vw ?_ ?_ | refine mk_add ?_ ?_ | refine mk_sub ?_ ?_ | refine mk_neg ?_ | exact Nat.le_of_ble_eq_true rfl)) (by show H' o ≠ none; rw [ez]; exact fun z => nomatch z) sm fun H9 v9 g9 s9 w9 d9 => ?_
    refine ⟨o, _, _, rfl, rfl, s9 _ _ ez, szl (by omega), ?_⟩
    refine ⟨_, zs ++ [v9], rfl, (sm.trans w9).trans ho_mut, upd_same, ?_⟩
    rw [show (L11 ++ [M.sit (stAt M f)]) ++ ((stC M f).take (i + 1)).map M.crw = ((L11 ++ [M.sit (stAt M f)]) ++ ((stC M f).take i).map M.crw) ++ [M.crw p] by rw [take_snoc hp, List.map_append, ← List.append_assoc]; rfl, List.map_append]
    exact dpAll_mono ho_mut (dpa_app (dpAll_mono w9 dz) (.cons d9 .nil))
  subst eD1
  rintro σ' H9 ⟨y8, zs, rfl, sm9, ez, dz⟩
  rw [List.length_map, List.take_length] at dz
  refine ⟨_, rfl, q _ _ (((sH7.trans w8).trans sm9).trans ho_out) (.lst (sq ez) ?_)⟩
  refine dpAll_mono (ho_out (B := o)) ?_
  unfold badSt
  rw [hL5, hL]
  exact dz
end
/-! ### each faulty start is a fault; the drawn machines are good -/
theorem cutI_tail {ns : List Int} (h : 1 ≤ ns.length) : (cutI ns (some 1) none).length = ns.length - 1 := by
  unfold cutI
  rw [show HT.sIx ns.length 0 (some 1) = min 1 ns.length from HT.sIx_nat ns.length 0 1, Nat.min_eq_left h, List.length_take, List.length_drop]
  show min (ns.length - 1) (ns.length - 1) = _
  exact Nat.min_self _
theorem badSt_ok {M : MI} {f : Int} (g : GM M) (sm : M.Sm) (hf : 1 ≤ f ∧ f ≤ 1000) : ∀ N ∈ badSt M f, N.Sm ∧ ¬ GM N := by
  have s1 := g.s
  have p1 := g.p
  have st := g.st.st
  have ln := g.st.ln
  have cr := g.cr
  have no : ∀ m ∈ ([] : List MvI), m.Sm := fun m hm => absurd hm List.not_mem_nil
  have w0 : ∀ S : Int, S.natAbs ≤ 5000 → (S < 1 ∨ 64 < S) → (M.with0 S).Sm ∧ ¬ GM (M.with0 S) := fun S h1 h2 => ⟨⟨h1, sm.p, sm.st, sm.cl, sm.cs, sm.cr, Nat.zero_le _, no⟩, fun z => by have q : 1 ≤ S ∧ S ≤ 64 := z.s; omega⟩
  have wS : ∀ p : Int × List Int, p.1.natAbs ≤ 5000 → p.2.length ≤ 2000 → (∀ c ∈ p.2, c.natAbs ≤ 5000) → ¬ GSt p.1 p.2 M.states M.places → (M.sit p).Sm ∧ ¬ GM (M.sit p) := fun p h1 h2 h3 h4 => ⟨⟨sm.s, sm.p, h1, h2, h3, sm.cr, sm.ml, sm.mv⟩, fun z => h4 z.st⟩
  have wC : ∀ c : Int, c.natAbs ≤ 5000 → ¬ (0 ≤ c ∧ c ≤ M.places - 1) → (M.crw c).Sm ∧ ¬ GM (M.crw c) := fun c h1 h2 => ⟨⟨sm.s, sm.p, sm.st, sm.cl, sm.cs, h1, sm.ml, sm.mv⟩, fun z => h2 z.cr⟩
  have part : ∀ lo hi, ∀ c ∈ cutI M.cnts lo hi, c.natAbs ≤ 5000 := fun lo hi c hc => sm.cs c (cutI_mem hc)
  have pl := fun lo hi => cutI_len M.cnts lo hi
  have ml := sm.cl
  intro N hN
  unfold badSt at hN
  rcases List.mem_append.mp hN with hN | hN
  · rcases List.mem_append.mp hN with hN | hN
    · rcases List.mem_append.mp hN with hN | hN
      · rcases List.mem_append.mp hN with hN | hN
        · unfold stA at hN
          simp only [List.mem_cons, List.not_mem_nil, or_false] at hN
          rcases hN with h | h | h
          · subst h; exact w0 0 (by decide) (by omega)
          · subst h; exact w0 _ (by omega) (by omega)
          · subst h
            exact ⟨⟨sm.s, by show (0 : Int).natAbs ≤ 5000; decide, by show (0 : Int).natAbs ≤ 5000; decide, Nat.zero_le _, fun c hc => absurd hc List.not_mem_nil, by show (0 : Int).natAbs ≤ 5000; decide, Nat.zero_le _, no⟩, fun z => by have q : (1 : Int) ≤ 0 ∧ (0 : Int) ≤ 96 := z.p; omega⟩
        · unfold stB at hN
          simp only [List.mem_cons, List.not_mem_nil, or_false] at hN
          rcases hN with h | h
          · subst h
            refine ⟨⟨sm.s, by show (96 + f).natAbs ≤ 5000; omega, by show (0 : Int).natAbs ≤ 5000; decide, by show (List.replicate (96 + f).toNat (0 : Int)).length ≤ 2000; rw [List.length_replicate]; omega, fun c hc => ?_, by show (0 : Int).natAbs ≤ 5000; decide, Nat.zero_le _, no⟩, fun z => by have q : (1 : Int) ≤ 96 + f ∧ 96 + f ≤ 96 := z.p; omega⟩
            rw [List.eq_of_mem_replicate hc]
            decide
          · subst h; exact w0 _ (by omega) (by omega)
      · obtain ⟨p, hp, rfl⟩ := List.mem_map.mp hN
        unfold stL at hp
        simp only [List.mem_cons, List.not_mem_nil, or_false] at hp
        have tl := cutI_tail (ns := M.cnts) (by omega)
        rcases hp with h | h | h | h | h | h
        · subst h; exact wS _ (by dsimp only; omega) sm.cl sm.cs fun z => by have := z.st; dsimp only at this; omega
        · subst h; exact wS _ (by dsimp only; omega) sm.cl sm.cs fun z => by have := z.st; dsimp only at this; omega
        · subst h
          refine wS _ (show (0 : Int).natAbs ≤ 5000 by decide) (by show (M.cnts ++ [0]).length ≤ 2000; rw [List.length_append, List.length_singleton]; omega) (fun c hc => ?_) fun z => ?_
          · rcases List.mem_append.mp hc with hc | hc
            · exact sm.cs c hc
            · rw [List.mem_singleton.mp hc]; decide
          · have q : ((M.cnts ++ [0]).length : Int) = M.places := z.ln
            rw [List.length_append, List.length_singleton] at q
            omega
        · subst h
          refine wS _ (show (0 : Int).natAbs ≤ 5000 by decide) (by have := pl (some 1) none; dsimp only; omega) (part _ _) fun z => ?_
          have q : ((cutI M.cnts (some 1) none).length : Int) = M.places := z.ln
          omega
        · subst h
          refine wS _ (show (0 : Int).natAbs ≤ 5000 by decide) (by have := pl none (some (-1)); dsimp only; rw [List.length_append, List.length_singleton]; omega) (fun c hc => ?_) fun z => ?_
          · rcases List.mem_append.mp hc with hc | hc
            · exact part _ _ c hc
            · rw [List.mem_singleton.mp hc]; omega
          · have q := z.nn (-f) (List.mem_append.mpr (.inr List.mem_cons_self))
            omega
        · subst h
          refine wS _ (show (0 : Int).natAbs ≤ 5000 by decide) (by have := pl (some 1) none; dsimp only; rw [List.length_append, List.length_singleton]; omega) (fun c hc => ?_) fun z => ?_
          · rcases List.mem_append.mp hc with hc | hc
            · rw [List.mem_singleton.mp hc]; decide
            · exact part _ _ c hc
          · have q := z.nn (-1) (List.mem_append.mpr (.inl List.mem_cons_self))
            omega
    · rw [List.mem_singleton.mp hN]
      unfold stAt
      refine wS _ (show (0 : Int).natAbs ≤ 5000 by decide) ?_ (fun c hc => ?_) fun z => ?_
      · have := pl none (some (f % M.places))
        have := pl (some (f % M.places + 1)) none
        dsimp only
        rw [List.length_append, List.length_append, List.length_singleton]
        omega
      · rcases List.mem_append.mp hc with hc | hc
        · rcases List.mem_append.mp hc with hc | hc
          · exact part _ _ c hc
          · rw [List.mem_singleton.mp hc]; omega
        · exact part _ _ c hc
      · have q := z.nn (-f) (List.mem_append.mpr (.inl (List.mem_append.mpr (.inr List.mem_cons_self))))
        omega
  · obtain ⟨c, hc, rfl⟩ := List.mem_map.mp hN
    unfold stC at hc
    simp only [List.mem_cons, List.not_mem_nil, or_false] at hc
    rcases hc with h | h
    · subst h; exact wC _ (by omega) (by omega)
    · subst h; exact wC _ (by omega) (by omega)
/-- a drawn machine, as such data -/
def prI (p : Nat × Nat) : Int × Int := ((p.1 : Int), (p.2 : Int))
def MvT.toI (m : MvT) : MvI := ⟨m.st, m.pl, m.ns, m.np, m.sd.map fun (d : Nat) => (d : Int), m.sh.map prI⟩
def MT.toI (M : MT) : MI := ⟨M.states, M.places, M.sst, M.cnts, M.crew, M.moves.map MvT.toI⟩
theorem MvT.toI_data (m : MvT) : m.toI.data = m.data := by
  have e1 : oID (m.sd.map fun (d : Nat) => (d : Int)) = sdD m.sd := by cases m.sd <;> rfl
  have e2 : (m.sh.map prI).map prD = m.sh.map shD := by rw [List.map_map]; rfl
  show PyData.tuple [_, _, _, _, oID (m.sd.map fun (d : Nat) => (d : Int)), .list ((m.sh.map prI).map prD)] = _
  rw [e1, e2]
  rfl
theorem MT.toI_data (M : MT) : M.toI.data = M.data := by
  have e : (M.moves.map MvT.toI).map MvI.data = M.moves.map MvT.data := by
    rw [List.map_map]
    exact List.map_congr_left fun m _ => m.toI_data
  show PyData.tuple [_, _, _, _, .list ((M.moves.map MvT.toI).map MvI.data)] = _
  rw [e]
  rfl
theorem prI_inj {p q : Nat × Nat} (h : prI p = prI q) : p = q := by
  unfold prI at h
  injection h with h1 h2
  exact Prod.ext (by omega) (by omega)
theorem toI_inj {m m' : MvT} (h : m.toI = m'.toI) : m = m' := by
  obtain ⟨a, b, c, d, e, f⟩ := m
  obtain ⟨a', b', c', d', e', f'⟩ := m'
  unfold MvT.toI at h
  injection h with h1 h2 h3 h4 h5 h6
  have e6 : f = f' := by
    have key : ∀ l l' : List (Nat × Nat), l.map prI = l'.map prI → l = l' := by
      intro l
      induction l with
      | nil => intro l' h; cases l' with
        | nil => rfl
        | cons _ _ => simp at h
      | cons p l ih => intro l' h; cases l' with
        | nil => simp at h
        | cons q l' =>
          rw [List.map_cons, List.map_cons] at h
          injection h with x1 x2
          rw [prI_inj x1, ih l' x2]
    exact key _ _ h6
  have e5 : e = e' := by
    cases e with
    | none => cases e' with
      | none => rfl
      | some _ => cases h5
    | some y => cases e' with
      | none => cases h5
      | some x =>
        have z : (y : Int) = (x : Int) := Option.some.inj h5
        rw [show y = x by omega]
  dsimp only at h1 h2 h3 h4
  rw [show a = a' by omega, show b = b' by omega, show c = c' by omega, show d = d' by omega, e5, e6]
theorem toI_mv {m : MvT} {S Pl : Nat} (h : m.Fit S Pl) : GMv m.toI S Pl := by
  have h1 := h.st
  have h2 := h.pl
  have h3 := h.ns
  have h4 := h.np
  refine ⟨by show 0 ≤ (m.st : Int) ∧ (m.st : Int) ≤ _; omega, by show 0 ≤ (m.ns : Int) ∧ (m.ns : Int) ≤ _; omega, by show 0 ≤ (m.pl : Int) ∧ (m.pl : Int) ≤ _; omega, by show 0 ≤ (m.np : Int) ∧ (m.np : Int) ≤ _; omega, fun d hd => ?_, fun p hp => ?_, ?_, fun p hp => ?_⟩
  · have hd : (m.sd.map fun (d : Nat) => (d : Int)) = some d := hd
    obtain ⟨k, hk, rfl⟩ := Option.map_eq_some_iff.mp hd
    have := h.sd k hk
    omega
  · obtain ⟨q, hq, rfl⟩ := List.mem_map.mp hp
    have a1 := h.sh.fst q hq
    have a2 := h.sh.snd q hq
    unfold prI
    dsimp only
    omega
  · show ((m.sh.map prI).map (·.1)).Pairwise (· < ·)
    have e : (m.sh.map prI).map (·.1) = (m.sh.map (·.1)).map fun (k : Nat) => (k : Int) := by rw [List.map_map, List.map_map]; rfl
    rw [e, List.pairwise_map]
    exact h.sh.asc.imp fun z => by omega
  · obtain ⟨q, hq, rfl⟩ := List.mem_map.mp hp
    intro z
    obtain ⟨r, hr, e⟩ := List.mem_map.mp z
    obtain ⟨r', hr', rfl⟩ := List.mem_map.mp hr
    have := h.sh.sep q hq r' hr'
    unfold prI at e
    dsimp only at e
    omega
theorem toI_good {M : MT} (h : M.Ok) : GM M.toI := by
  have h1 := h.s1
  have h2 := h.s2
  have h3 := h.p1
  have h4 := h.p2
  have h5 := h.ss
  have h6 := h.cr
  have h7 := h.cl
  refine ⟨by show 1 ≤ (M.states : Int) ∧ (M.states : Int) ≤ 64; omega, by show 1 ≤ (M.places : Int) ∧ (M.places : Int) ≤ 96; omega, ⟨by show 0 ≤ (M.sst : Int) ∧ (M.sst : Int) ≤ (M.states : Int) - 1; omega, by show (M.cnts.length : Int) = (M.places : Int); omega, fun c hc => (h.cb c hc).1⟩, by show 0 ≤ (M.crew : Int) ∧ (M.crew : Int) ≤ (M.places : Int) - 1; omega, fun m hm => ?_, ?_⟩
  · obtain ⟨x, hx, rfl⟩ := List.mem_map.mp hm
    exact toI_mv (h.fit x hx)
  · show (M.moves.map MvT.toI).Nodup
    rw [List.nodup_iff_pairwise_ne, List.pairwise_map]
    exact (List.nodup_iff_pairwise_ne.mp h.nd).imp fun z e => z (toI_inj e)
theorem toI_sm {M : MT} (h : M.Ok) (h6 : ∀ m ∈ M.moves, m.sh.length ≤ 6) : M.toI.Sm := by
  have h1 := h.s2
  have h2 := h.p2
  have h3 := h.ss
  have h4 := h.cr
  have h5 := h.cl
  have h7 := h.ml
  refine ⟨by show (M.states : Int).natAbs ≤ 5000; omega, by show (M.places : Int).natAbs ≤ 5000; omega, by show (M.sst : Int).natAbs ≤ 5000; omega, by show M.cnts.length ≤ 2000; omega, fun c hc => by have := h.cb c hc; omega, by show (M.crew : Int).natAbs ≤ 5000; omega, by show (M.moves.map MvT.toI).length ≤ 13; rw [List.length_map]; omega, fun m hm => ?_⟩
  obtain ⟨x, hx, rfl⟩ := List.mem_map.mp hm
  have f := h.fit x hx
  have a1 := f.st
  have a2 := f.pl
  have a3 := f.ns
  have a4 := f.np
  refine ⟨by show (x.st : Int).natAbs ≤ 5000; omega, by show (x.pl : Int).natAbs ≤ 5000; omega, by show (x.ns : Int).natAbs ≤ 5000; omega, by show (x.np : Int).natAbs ≤ 5000; omega, fun d hd => ?_, fun p hp => ?_, by show (x.sh.map prI).length ≤ 6; rw [List.length_map]; exact h6 x hx⟩
  · have hd : (x.sd.map fun (d : Nat) => (d : Int)) = some d := hd
    obtain ⟨k, hk, rfl⟩ := Option.map_eq_some_iff.mp hd
    have := f.sd k hk
    omega
  · obtain ⟨q, hq, rfl⟩ := List.mem_map.mp hp
    have b1 := f.sh.fst q hq
    have b2 := f.sh.snd q hq
    unfold prI
    dsimp only
    omega
/-- [te for k in range(n)] -/
theorem mk_lcr {K : PySem.W.Frag} {H0 : Hp} {σ : L2.St} (n : Nat) (hn : n ≤ 90000) {j : Nat} {te : TE} {vs : List Nat} (f : Nat → PyData) (hw : ∀ x, wipe ((wipe σ vs).set j x) vs = wipe σ vs)
    (h : ∀ D i H0', i < n → Mk K (Ho D) (fun H => H D ≠ none) H0' ((wipe σ vs).set j (some (.int ((0 : Int) + (i : Int))))) te (f i)) :
    Mk K (fun H => H) (fun _ => True) H0 σ (tLc (iRng1 (tCons (tC (.int (n : Int))) tNil)) (gName j) tYes te vs) (.list ((List.range n).map f)) := fun H Q _ s q => by
  refine ⟨(n : Int), rfl, by omega, by omega, fun D nD => ?_⟩
  refine lc_range (lo := 0) (n := n) (fun i H' => Same H (Ho D H') ∧ ∃ xs, H' D = some (.lst xs) ∧ DpAll K (Ho D H') xs ((List.range i).map f)) ⟨ho_first nD, [], upd_same, .nil⟩ ?_ fun H' hd => ?_
  · rintro i H' hi ⟨sm, xs, eD, dx⟩
    refine ⟨hw _, ?_⟩
    show te _ H' _
    refine h D i (Ho D H') hi H' _ (by show H' D ≠ none; rw [eD]; exact fun z => nomatch z) (Same.refl _) fun H5 v5 g5 s5 w5 d5 => ?_
    have xl := dpa_len dx
    rw [List.length_map, List.length_range] at xl
    refine ⟨xs, s5 _ _ eD, szl (by omega), (sm.trans w5).trans ho_mut, xs ++ [v5], upd_same, ?_⟩
    rw [List.range_succ, List.map_append]
    exact dpAll_mono ho_mut (dpa_app (dpAll_mono w5 dx) (.cons d5 .nil))
  · obtain ⟨sm, xs, eD, dx⟩ := hd
    exact q H' _ trivial (sm.trans ho_out) (sm.trans ho_out) (.lst (sq eD) (dpAll_mono (ho_out (B := D)) dx))
section
variable {K : PySem.W.Frag} {W : Hp → Hp} {G : Hp → Prop} {H0 : Hp} {σ : L2.St} {ta tb te : TE}
theorem mk_mod {i j : Int} (hj : 0 < j) (ha : Mk K W G H0 σ ta (.int i)) (hb : Mk K W G H0 σ tb (.int j)) : Mk K W G H0 σ (tOp (rI (fun _ j => 0 < j) fun i j => .int (i % j)) ta tb) (.int (i % j)) := fun H Q g s q => ha H _ g s fun H1 v1 g1 s1 w1 d1 => hb H1 _ g1 (s.trans w1) fun H2 v2 g2 s2 w2 d2 => by
  rw [dp_int d1, dp_int d2]
  exact ⟨_, _, rfl, rfl, hj, q H2 _ g2 (s1.trans s2) (w1.trans w2) (.int _)⟩
/-- int(n) -/
theorem mk_intc {i : Int} (ha : Mk K W G H0 σ ta (.int i)) : Mk K W G H0 σ (tCB (fun xs H Q => (∃ i, xs = [V.int i] ∧ Q (.int i) H) ∨ ∃ k, xs = [V.bl k] ∧ Q (.int (if k = true then 1 else 0)) H) (tCons ta tNil)) (.int i) := fun H Q g s q => ha H _ g s fun H1 v1 g1 s1 w1 d1 => by
  rw [dp_int d1]
  exact .inl ⟨_, rfl, q H1 _ g1 s1 w1 (.int _)⟩
theorem Mk.asg {g : TG} {u : TS} {D : Ends} {H : Hp} {d : PyData} (h : Mk K (fun H => H) (fun _ => True) H σ te d) (q : ∀ H' v, Same H H' → Dp K H' v d → g v σ H' (u D)) : tSeq (tAsg te g) u D σ H := h.run q
end
def great (f : Int) : MI := ⟨64, 96, 63, (List.range 96).map fun (k : Nat) => (f + (0 + (k : Int))) % 5, 95, [⟨63, 95, 0, 0, some 95, (List.range 95).map fun (k : Nat) => (0 + (k : Int), (95 : Int))⟩, ⟨0, 0, 63, 95, none, []⟩]⟩
theorem great_good (f : Int) : GM (great f) := by
  refine ⟨show (1 : Int) ≤ 64 ∧ (64 : Int) ≤ 64 by decide, show (1 : Int) ≤ 96 ∧ (96 : Int) ≤ 96 by decide, ⟨show (0 : Int) ≤ 63 ∧ (63 : Int) ≤ 64 - 1 by decide, ?_, fun c hc => ?_⟩, show (0 : Int) ≤ 95 ∧ (95 : Int) ≤ 96 - 1 by decide, fun m hm => ?_, ?_⟩
  · show (((List.range 96).map fun (k : Nat) => (f + (0 + (k : Int))) % 5).length : Int) = 96
    rw [List.length_map, List.length_range]
    rfl
  · have hc : c ∈ (List.range 96).map fun (k : Nat) => (f + (0 + (k : Int))) % 5 := hc
    obtain ⟨k, _, rfl⟩ := List.mem_map.mp hc
    exact Int.emod_nonneg _ (by decide)
  · rcases List.mem_cons.mp hm with e | hm
    · subst e
      refine ⟨show (0 : Int) ≤ 63 ∧ (63 : Int) ≤ 64 - 1 by decide, show (0 : Int) ≤ 0 ∧ (0 : Int) ≤ 64 - 1 by decide, show (0 : Int) ≤ 95 ∧ (95 : Int) ≤ 96 - 1 by decide, show (0 : Int) ≤ 0 ∧ (0 : Int) ≤ 96 - 1 by decide, fun d hd => ?_, fun p hp => ?_, ?_, fun p hp => ?_⟩
      · have hd : some (95 : Int) = some d := hd
        cases hd
        show (0 : Int) ≤ 95 ∧ (95 : Int) ≤ 96 - 1
        decide
      · obtain ⟨k, hk, rfl⟩ := List.mem_map.mp hp
        have := List.mem_range.mp hk
        show (0 ≤ 0 + (k : Int) ∧ 0 + (k : Int) ≤ 96 - 1) ∧ (0 : Int) ≤ 95 ∧ (95 : Int) ≤ 96 - 1
        omega
      · show (((List.range 95).map fun (k : Nat) => (0 + (k : Int), (95 : Int))).map (·.1)).Pairwise (· < ·)
        decide +kernel
      · obtain ⟨k, hk, rfl⟩ := List.mem_map.mp hp
        intro z
        obtain ⟨r, hr, e⟩ := List.mem_map.mp z
        obtain ⟨k2, hk2, rfl⟩ := List.mem_map.mp hr
        have := List.mem_range.mp hk2
        have e : 0 + (k2 : Int) = 95 := e
        omega
    · rw [List.mem_singleton.mp hm]
      exact ⟨show (0 : Int) ≤ 0 ∧ (0 : Int) ≤ 64 - 1 by decide, show (0 : Int) ≤ 63 ∧ (63 : Int) ≤ 64 - 1 by decide, show (0 : Int) ≤ 0 ∧ (0 : Int) ≤ 96 - 1 by decide, show (0 : Int) ≤ 95 ∧ (95 : Int) ≤ 96 - 1 by decide, (fun d hd => nomatch hd), ⟨fun p hp => absurd hp List.not_mem_nil, List.Pairwise.nil, fun p hp => absurd hp List.not_mem_nil⟩⟩
  · refine List.nodup_cons.mpr ⟨fun z => ?_, List.nodup_cons.mpr ⟨List.not_mem_nil, List.nodup_nil⟩⟩
    have e : (63 : Int) = 0 := congrArg MvI.st (List.mem_singleton.mp z)
    omega
def tiny (f : Int) : MI := ⟨1, 1, 0, [f], 0, []⟩
theorem tiny_good {f : Int} (h : 1 ≤ f) : GM (tiny f) :=
  ⟨show (1 : Int) ≤ 1 ∧ (1 : Int) ≤ 64 by decide, show (1 : Int) ≤ 1 ∧ (1 : Int) ≤ 96 by decide, ⟨show (0 : Int) ≤ 0 ∧ (0 : Int) ≤ 1 - 1 by decide, rfl, fun c hc => by rw [List.mem_singleton.mp hc]; omega⟩, show (0 : Int) ≤ 0 ∧ (0 : Int) ≤ 1 - 1 by decide, fun m hm => absurd hm List.not_mem_nil, List.nodup_nil⟩
theorem with_bad {M : MI} {m : MvI} {k : Nat} (sm : M.Sm) (ml : M.moves.length ≤ 12) (hm : m.Sm) (no : ¬ GMv m M.states M.places ∨ m ∈ M.moves) : BadM { M with moves := M.moves.take k ++ m :: M.moves.drop k } := by
  have mem : ∀ x, x ∈ M.moves.take k ++ m :: M.moves.drop k → x = m ∨ x ∈ M.moves := fun x hx => by
    rcases List.mem_append.mp hx with hx | hx
    · exact .inr (List.mem_of_mem_take hx)
    · rcases List.mem_cons.mp hx with hx | hx
      · exact .inl hx
      · exact .inr (List.mem_of_mem_drop hx)
  refine MI.Sm.bad ⟨sm.s, sm.p, sm.st, sm.cl, sm.cs, sm.cr, ?_, fun x hx => ?_⟩ fun g => ?_
  · show (M.moves.take k ++ m :: M.moves.drop k).length ≤ 13
    rw [List.length_append, List.length_cons, List.length_take, List.length_drop]
    omega
  · rcases mem x hx with e | e
    · rw [e]; exact hm
    · exact sm.mv x e
  · rcases no with no | no
    · exact no (g.mv m (List.mem_append.mpr (.inr List.mem_cons_self)))
    · have nd : (M.moves.take k ++ m :: M.moves.drop k).Nodup := g.nd
      rw [← List.take_append_drop k M.moves] at no
      have nd2 := List.nodup_append.mp nd
      rcases List.mem_append.mp no with z | z
      · exact nd2.2.2 m z m List.mem_cons_self rfl
      · exact (List.nodup_cons.mp nd2.2.1).1 z
theorem ck_new {K : PySem.W.Frag} {CB : Addr} {E : _} {σ : L2.St} {H : Hp} {te : TE} {M : MI} {Q : VK} (h : Mk K (fun H => H) (fun _ => True) H σ te M.data) (g : GM M) (l : M.moves.length ≤ 60) (sl : ∀ m ∈ M.moves, m.sh.length ≤ 1000) (q : ∀ H', Q (.bl true) H') :
    tOp (fun x y H Q => y = V.non ∧ Q (V.bl (decide (x = V.non))) H) (tCallS (spCkMa K CB) E (tCons te tNil)) (tC V.non) σ H Q := h.run fun H1 v1 s1 d1 => ⟨v1, M, rfl, d1, l, sl, fun _ H2 s2 => ⟨rfl, q _⟩, fun z => absurd g z⟩
theorem cutV_mem {xs : List V} {lo hi : Option Int} {x : V} (h : x ∈ cutV xs lo hi) : x ∈ xs := List.mem_of_mem_drop (List.mem_of_mem_take h)
section
variable {P : Program} {w : World} {K : PySem.W.Frag} {mg : Str → Option Value} {base : Heap} {CB : Addr}
abbrev s_law : Stmt := topS 26
theorem sc_law : FnScope ["script", "machine", "far", "before", "move", "bad", "k", "great"] ["script"] (defScope s_law) := ⟨rfl, rfl, rfl, by decide +kernel, rfl, by decide +kernel, by decide +kernel⟩
-- law slots: script=0 machine=1 far=2(cell) before=3 move=4 bad=5 k=6 great=7 globals: _law_machine _law_cell _law_draws repr check_machine _law_refused _law_with _law_bad_moves range len _law_bad_starts
def spLaw (K : PySem.W.Frag) : Sp := fun vs H Q _ => ∃ (a : Addr) (ns : List Int), vs = [.ref a] ∧ SqL K H a (ns.map V.int) ∧ ns.length ≤ 63 ∧ ∀ H', Q (.bl true) H'
set_option maxHeartbeats 4000000 in
theorem fd_law {f : Addr} {fd : FuncData} (F : Fun K "law" "law" s_law f fd) (m : mg "law" = some (.ref f)) (bind : ∀ (s : Shared) (v : Value), BindsTo s fd ⟨[v], []⟩ [("script", v)]) (B : Bt mg)
    (D_law_cell : Fd P w K mg base "_law_cell" ["script", "k"] 1 (spCellA K)) (D_law_draws : Fd P w K mg base "_law_draws" ["cell", "limits"] 1 (spDraws K)) (D_law_machine : Fd P w K mg base "_law_machine" ["cell", "cells", "shifting"] 3 (spMach K))
    (DX_check_machine : FdX P w K mg base "check_machine" ["machine"] 5 (spCkMa K CB)) (D_law_refused : FdR P w K mg base "_law_refused" ["machine"] 6 (spLRef K)) (D_law_with : Fd P w K mg base "_law_with" ["machine", "move", "at"] 1 (spWith K))
    (D_law_bad_moves : Fd P w K mg base "_law_bad_moves" ["states", "places", "far"] 1 (spBadMv K)) (D_law_bad_starts : Fd P w K mg base "_law_bad_starts" ["machine", "far"] 1 (spBadSt K)) :
    TopOk P w K mg base f (spLaw K) := by
  refine top_ok (k := 8) F sc_law (by refine ⟨rfl, ?_, ?_⟩ <;> decide +kernel) bind fun cdv s H a Q hr h => ?_
  obtain ⟨a1, ns, ea, hs, hl, q⟩ := h
  cases ea
  refine ⟨_, (pss_cons (ps_set (i := 1) sc_law.nd rfl (Or.inl rfl) (pe_fn D_law_machine (hr.mono (by decide)) rfl (pa_cons (pe_fn D_law_cell (hr.mono (by decide)) rfl (pa_cons (pv 0) (pa_cons pe_int pa_nil))) (pa_cons (pe_slice (slL K) (pv 0) (po_some pe_int) po_none) (pa_cons pe_bl pa_nil)))))
 (pss_cons (ps_set (i := 2) sc_law.nd rfl (Or.inr rfl) (pe_op op_add pe_int (pe_ix (ixL K) (pe_fn D_law_draws (hr.mono (by decide)) rfl (pa_cons (pe_fn D_law_cell (hr.mono (by decide)) rfl (pa_cons (pv 0) (pa_cons pe_int pa_nil))) (pa_cons (pe_lst (pa_cons pe_int pa_nil)) pa_nil))) pe_int (fun _ _ => rfl))))
 (pss_cons (ps_set (i := 3) sc_law.nd rfl (Or.inl rfl) (pe_callB (cRepr K rfl hr.units) (by rfl) B.repr (by decide +kernel) (pa_cons (pv 1) pa_nil)))
 (pss_cons (ps_if (PW.pt (pw_or (pt_cmpR op_notN (pe_fnX (W := fun _ _ _ _ => False) DX_check_machine (hr.mono (by decide)) rfl takes0 (pa_cons (pv 1) pa_nil)) pe_non (nomark _)) (pw_or1 (pt_cmpR op_ne (pe_callB (cRepr K rfl hr.units) (by rfl) B.repr (by decide +kernel) (pa_cons (pv 1) pa_nil)) (pv 3) (nomark _)))))
 (pss_one (ps_ret pe_bl))
 pss_nil)
 (pss_cons (ps_for PassesOwn.never rfl (piL K (pe_op (opCat K) (pe_slice (slL K) (pe_ix (ixT K) (pv 1) pe_int (fun _ _ => rfl)) po_none (po_some pe_int)) (pe_slice (slL K) (pe_ix (ixT K) (pv 1) pe_int (fun _ _ => rfl)) (po_some (pe_un un_neg pe_int)) po_none))) (pg_name (i := 4) sc_law.nd rfl (Or.inl rfl))
 (pss_one (ps_if (pt_not (pt_val (pe_fnG D_law_refused (hr.mono (by decide)) rfl rfl (pa_cons (pe_fn D_law_with (hr.mono (by decide)) rfl (pa_cons (pv 1) (pa_cons (pv 4) (pa_cons (pv 2) pa_nil)))) pa_nil))))
 (pss_one (ps_ret pe_bl))
 pss_nil)))
 (pss_cons (ps_set (i := 5) sc_law.nd rfl (Or.inl rfl) (pe_fn D_law_bad_moves (hr.mono (by decide)) rfl (pa_cons (pe_ix (ixT K) (pv 1) pe_int (fun _ _ => rfl)) (pa_cons (pe_ix (ixT K) (pv 1) pe_int (fun _ _ => rfl)) (pa_cons (pv 2) pa_nil)))))
 (pss_cons (ps_for PassesOwn.never rfl (pi_range1 rfl B.range (pa_cons (pe_callB (cLen K) (by rfl) B.len PySem.boot_len (pa_cons (pv 5) pa_nil)) pa_nil)) (pg_name (i := 6) sc_law.nd rfl (Or.inl rfl))
 (pss_one (ps_if (pt_not (pt_val (pe_fnG D_law_refused (hr.mono (by decide)) rfl rfl (pa_cons (pe_fn D_law_with (hr.mono (by decide)) rfl (pa_cons (pv 1) (pa_cons (pe_ix (ixL K) (pv 5) (pv 6) (fun _ _ => rfl)) (pa_cons (pe_op op_add (pv 2) (pv 6)) pa_nil)))) pa_nil))))
 (pss_one (ps_ret pe_bl))
 pss_nil)))
 (pss_cons (ps_for PassesOwn.never rfl (piL K (pe_fn D_law_bad_starts (hr.mono (by decide)) rfl (pa_cons (pv 1) (pa_cons (pv 2) pa_nil)))) (pg_name (i := 5) sc_law.nd rfl (Or.inl rfl))
 (pss_one (ps_if (pt_not (pt_val (pe_fnG D_law_refused (hr.mono (by decide)) rfl rfl (pa_cons (pv 5) pa_nil))))
 (pss_one (ps_ret pe_bl))
 pss_nil)))
 (pss_cons (ps_set (i := 7) sc_law.nd rfl (Or.inl rfl) (pe_tup (pa_cons pe_int (pa_cons pe_int (pa_cons (pe_tup (pa_cons pe_int (pa_cons (pe_lc (own := [("k", 6)]) (g := gName 6) (by rfl) sc_law.nd (pi_range1 rfl B.range (pa_cons pe_int pa_nil)) (blkOk_by (own := [("k", 6)]) (N := ["script", "machine", "far", "before", "move", "bad", "k", "great"]) (sc := (defScope s_law)) (by decide +kernel)) (fun _ _ _ _ _ => (pg_name (i := 6) sc_law.nd rfl (Or.inl rfl))) (fun _ _ _ _ _ => pts_nil) (fun _ _ _ _ _ => (pe_op op_mod (pe_callTy call_int1 (by rfl) B.int (by decide +kernel) (pa_cons (pe_op op_add (pv 2) (pv 6)) pa_nil)) pe_int))) pa_nil))) (pa_cons pe_int (pa_cons (pe_lst (pa_cons (pe_tup (pa_cons pe_int (pa_cons pe_int (pa_cons pe_int (pa_cons pe_int (pa_cons pe_int (pa_cons (pe_lc (own := [("k", 6)]) (g := gName 6) (by rfl) sc_law.nd (pi_range1 rfl B.range (pa_cons pe_int pa_nil)) (blkOk_by (own := [("k", 6)]) (N := ["script", "machine", "far", "before", "move", "bad", "k", "great"]) (sc := (defScope s_law)) (by decide +kernel)) (fun _ _ _ _ _ => (pg_name (i := 6) sc_law.nd rfl (Or.inl rfl))) (fun _ _ _ _ _ => pts_nil) (fun _ _ _ _ _ => (pe_tup (pa_cons (pv 6) (pa_cons pe_int pa_nil))))) pa_nil))))))) (pa_cons (pe_tup (pa_cons pe_int (pa_cons pe_int (pa_cons pe_int (pa_cons pe_int (pa_cons pe_non (pa_cons (pe_lst pa_nil) pa_nil))))))) pa_nil))) pa_nil)))))))
 (pss_one (ps_ret (pe_and (pe_cmpR op_isN (pe_fnX (W := fun _ _ _ _ => False) DX_check_machine (hr.mono (by decide)) rfl takes0 (pa_cons (pv 7) pa_nil)) pe_non (nomark _)) (pe_one (pe_cmpR op_isN (pe_fnX (W := fun _ _ _ _ => False) DX_check_machine (hr.mono (by decide)) rfl takes0 (pa_cons (pe_tup (pa_cons pe_int (pa_cons pe_int (pa_cons (pe_tup (pa_cons pe_int (pa_cons (pe_lst (pa_cons (pv 2) pa_nil)) pa_nil))) (pa_cons pe_int (pa_cons (pe_lst pa_nil) pa_nil)))))) pa_nil)) pe_non (nomark _))))))))))))))), ?_⟩
  obtain ⟨ys, ey, hy, _⟩ := cutV_map V.int ns (some 2) none
  refine ⟨_, rfl, a, ns, 0, rfl, hs, fun c0 => ⟨_, rfl, _, rfl, a, _, rfl, hs, fun p1 n1 => ⟨c0, p1, ys, true, rfl, sq (by rw [upd_same, ey]), by omega, ?_⟩⟩⟩
  intro H1 v M0 s1 dM ok l6 _
  have sm1 := (same_new n1).trans s1
  clear s1 n1
  have good := toI_good ok
  have sm := toI_sm ok l6
  rw [← M0.toI_data] at dM
  have h1 := ok.s1
  have h2 := ok.s2
  have h3 := ok.p1
  have h4 := ok.p2
  have h5 := ok.cl
  have ml12 : M0.toI.moves.length ≤ 12 := by
    show (M0.moves.map MvT.toI).length ≤ 12
    rw [List.length_map]
    exact ok.ml
  have eS : M0.toI.states = (M0.states : Int) := rfl
  have eP : M0.toI.places = (M0.places : Int) := rfl
  have eC : M0.toI.cnts = M0.cnts := rfl
  generalize M0.toI = M at dM good sm eS eP eC ml12
  obtain ⟨av, sv, ma, mxs, rfl, m1, m2, m3, m4⟩ := dp_ma dM
  have mxl := dpa_map_len m4
  have mls := sm.ml
  dsimp only [gName]
  refine ⟨_, rfl, a, ns, 1, rfl, sm1.seq hs, fun c1 => ⟨szc 1, fun p2 np2 => ⟨p2, c1, [1000], rfl, sq upd_same, by decide, by decide, fun H2 pd ds s2 nd ed dk => ?_⟩⟩⟩
  obtain ⟨far, r0, rfl, x0, x1, dk⟩ := dk.cons
  obtain rfl := dk.nil
  have s12 := (same_new np2).trans s2
  clear s2 np2
  refine ⟨_, _, _, _, rfl, rfl, sq ed, atI_nat (j := 0) rfl, _, _, rfl, rfl, ?_⟩
  dsimp only [gName]
  obtain ⟨fr, efr⟩ : ∃ fr : Int, fr = 1 + far := ⟨_, rfl⟩
  rw [← efr]
  have hf : 1 ≤ fr ∧ fr ≤ 1000 := by omega
  clear x0 x1 efr ed nd
  have shw := sm.shw
  have sl6 : ∀ m ∈ M.moves, m.sh.length ≤ 1000 := fun m hm => by have := (sm.mv m hm).sl; omega
  refine ⟨_, rfl, av, _, rfl, dp_mono s12 dM, shw.sh, shw.nd, shw.de, shw.ln, ?_⟩
  dsimp only [gName]
  refine ⟨_, rfl, _, M, rfl, dp_mono s12 dM, by omega, sl6, fun _ H3 s3 => ⟨rfl, _, rfl, ?_⟩, fun z => absurd good z⟩
  have s13 := s12.trans s3
  clear s12 s3
  refine iteF ⟨_, rfl, av, _, rfl, dp_mono s13 dM, shw.sh, shw.nd, shw.de, shw.ln, ?_⟩
  refine ⟨_, rfl, rfl, _, rfl, ?_⟩
  rw [decide_eq_true rfl]
  refine iteF ?_
  -- a move twice
  refine ⟨_, rfl, _, _, _, _, rfl, rfl, Same.seqT s13 m1, atI_nat (j := 4) rfl, _, rfl, ma, _, rfl, s13.seq m3, fun p3 np3 => ?_⟩
  have s4 := s13.trans (same_new (o := HO.lst (cutV mxs none (some 3))) np3)
  have e4 : (upd H3 p3 (.lst (cutV mxs none (some 3)))) p3 = some (.lst (cutV mxs none (some 3))) := upd_same
  generalize upd H3 p3 (.lst (cutV mxs none (some 3))) = H4 at s4 e4 ⊢
  refine ⟨_, rfl, _, _, _, _, rfl, rfl, Same.seqT s4 m1, atI_nat (j := 4) rfl, _, rfl, _, rfl, ma, _, rfl, s4.seq m3, fun p5 np5 => ?_⟩
  have t5 := same_new (o := HO.lst (cutV mxs (some (-2)) none)) np5
  have s5 := s4.trans t5
  have e45 := t5 _ _ e4
  have e5 : (upd H4 p5 (.lst (cutV mxs (some (-2)) none))) p5 = some (.lst (cutV mxs (some (-2)) none)) := upd_same
  change Same H1 (upd H4 p5 (.lst (cutV mxs (some (-2)) none))) at s5
  generalize upd H4 p5 (.lst (cutV mxs (some (-2)) none)) = H5 at s5 e45 e5 ⊢
  have lc1 := cutV_length mxs none (some 3)
  have lc2 := cutV_length mxs (some (-2)) none
  refine ⟨p3, p5, _, _, rfl, rfl, sq e45, sq e5, (by rw [sizeLine_eq]; omega), fun p6 np6 => ?_⟩
  have s6 := s5.trans (same_new (o := HO.lst (cutV mxs none (some 3) ++ cutV mxs (some (-2)) none)) np6)
  have e6 : (upd H5 p6 (.lst (cutV mxs none (some 3) ++ cutV mxs (some (-2)) none))) p6 = some (.lst (cutV mxs none (some 3) ++ cutV mxs (some (-2)) none)) := upd_same
  have mem : ∀ x ∈ cutV mxs none (some 3) ++ cutV mxs (some (-2)) none, x ∈ mxs := fun x hx => by
    rcases List.mem_append.mp hx with z | z <;> exact cutV_mem z
  generalize cutV mxs none (some 3) ++ cutV mxs (some (-2)) none = zs at s6 e6 mem ⊢
  generalize upd H5 p6 (.lst zs) = H6 at s6 e6 ⊢
  clear e45 e5 e4 np3 np5 np6 lc1 lc2 s4 t5 s5 s13
  refine ⟨p6, rfl, ⟨_, sq e6⟩, for_list (xs := zs) (fun i σ' H' => ∃ (y4 : Option V), σ' = [some (.ref a), some (.ref av), some (.int fr), some (.str M.data.shown), y4, none, none, none] ∧ Same H6 H') ?_ ?_ ?_ ?_⟩
  · exact ⟨_, rfl, Same.refl _⟩
  · rintro i σ' H' _ ⟨y4, rfl, sx⟩
    exact sx.seq (sq e6)
  · rintro i x σ' H' hx ⟨y4, rfl, sx⟩
    obtain ⟨j, hj⟩ := List.getElem?_of_mem (mem x (List.mem_of_getElem? hx))
    obtain ⟨mv, hm, dx⟩ := dpa_map_at m4 hj
    have mm := List.mem_of_getElem? hm
    have s1x := s6.trans sx
    dsimp only [gName]
    refine ⟨_, rfl, _, rfl, _, rfl, .ref av, x, M, mv, fr, rfl, dp_mono s1x dM, dp_mono s1x dx, by omega, fun H7 u k s7 hk du => ⟨u, _, rfl, du, with_bad sm ml12 (sm.mv mv mm) (.inr mm), fun H8 s8 => ⟨true, rfl, iteF ⟨_, rfl, (sx.trans s7).trans s8⟩⟩⟩⟩
  rintro σ' H7 ⟨y4, rfl, s7⟩
  have s17 := s6.trans s7
  clear s6 s7 e6 mem
  -- the faulty moves
  refine ⟨_, rfl, _, _, _, _, rfl, rfl, Same.seqT s17 m1, atI_nat (j := 0) rfl, _, rfl, _, _, _, _, rfl, rfl, Same.seqT s17 m1, atI_nat (j := 1) rfl, _, rfl, M.states, M.places, fr, rfl, fun H8 vb s8 db => ?_⟩
  dsimp only [gName]
  obtain ⟨pb, bs, rfl, eb, db⟩ := dp_lst db
  have bl := dpa_map_len db
  have okB := badMv_ok (S := M.states) (Pl := M.places) (f := fr) (by omega) (by omega) hf
  have lB : (badMv M.states M.places fr).length ≤ 40 := by
    unfold badMv
    rw [List.length_append]
    have a1 : (bad1 M.states M.places fr ++ bad2 M.states M.places fr ++ bad3 M.states M.places fr ++ bad4 M.states M.places fr).length = 15 := rfl
    have a2 : (if 2 < M.places then bad5 M.states M.places fr ++ bad6 ++ (if 4 < M.places then bad7 else []) ++ bad8 else []).length ≤ 12 := by
      split
      · rw [List.length_append, List.length_append, List.length_append]
        have b1 : (bad5 M.states M.places fr).length = 3 := rfl
        have b2 : bad6.length = 3 := rfl
        have b3 : bad8.length = 3 := rfl
        have b4 : (if 4 < M.places then bad7 else []).length ≤ 3 := by split <;> decide
        omega
      · decide
    omega
  have s18 := s17.trans s8
  clear s17 s8
  refine ⟨_, rfl, pb, _, rfl, .inl eb, _, rfl, by omega, by omega, for_range (lo := 0) (n := bs.length) (fun i σ' H' => ∃ (y6 : Option V), σ' = [some (.ref a), some (.ref av), some (.int fr), some (.str M.data.shown), y4, some (.ref pb), y6, none] ∧ Same H8 H') ?_ ?_ ?_⟩
  · exact ⟨_, rfl, Same.refl _⟩
  · rintro i σ' H' hi ⟨y6, rfl, sx⟩
    have hz : (0 : Int) + (i : Int) = (i : Int) := by omega
    have hx : bs[i]? = some bs[i] := List.getElem?_eq_getElem hi
    obtain ⟨mv, hm, dx⟩ := dpa_map_at db hx
    have mm := okB mv (List.mem_of_getElem? hm)
    have s1x := s18.trans sx
    dsimp only [gName]
    refine ⟨_, rfl, _, rfl, _, rfl, _, _, _, _, rfl, rfl, sx.seq eb, at_n hz hx, _, rfl, _, rfl, _, _, rfl, rfl, .ref av, bs[i], M, mv, _, rfl, dp_mono s1x dM, dp_mono sx dx, by omega, fun H9 u k s9 hk du => ⟨u, _, rfl, du, with_bad sm ml12 mm.1 (.inl mm.2), fun H10 s10 => ⟨true, rfl, iteF ⟨_, rfl, (sx.trans s9).trans s10⟩⟩⟩⟩
  rintro σ' H9 ⟨y6, rfl, s9⟩
  have s19 := s18.trans s9
  clear s18 s9 eb db okB lB bl
  -- the faulty starts
  refine ⟨_, rfl, _, rfl, .ref av, M, fr, rfl, dp_mono s19 dM, hf.1, hf.2, by omega, (by rw [eC]; omega), fun H10 vb s10 db => ?_⟩
  obtain ⟨pb, bs, rfl, eb, db⟩ := dp_lst db
  have bl := dpa_map_len db
  have okB := badSt_ok (f := fr) good sm hf
  have s110 := s19.trans s10
  clear s19 s10
  refine ⟨pb, rfl, ⟨_, eb⟩, for_list (xs := bs) (fun i σ' H' => ∃ (y5 : Option V), σ' = [some (.ref a), some (.ref av), some (.int fr), some (.str M.data.shown), y4, y5, y6, none] ∧ Same H10 H') ?_ ?_ ?_ ?_⟩
  · exact ⟨_, rfl, Same.refl _⟩
  · rintro i σ' H' _ ⟨y5, rfl, sx⟩
    exact sx.seq eb
  · rintro i x σ' H' hx ⟨y5, rfl, sx⟩
    obtain ⟨N, hN, dx⟩ := dpa_map_at db hx
    have nn := okB N (List.mem_of_getElem? hN)
    dsimp only [gName]
    exact ⟨_, rfl, x, N, rfl, dp_mono sx dx, nn.1.bad nn.2, fun H11 s11 => ⟨true, rfl, iteF ⟨_, rfl, sx.trans s11⟩⟩⟩
  rintro σ' H11 ⟨y5, rfl, s11⟩
  clear s11 s110 eb db okB bl
  have dg : (great fr).data = .tuple [.int 64, .int 96, .tuple [.int 63, .list ((List.range 96).map fun (k : Nat) => PyData.int ((fr + (0 + (k : Int))) % 5))], .int 95, .list [.tuple [.int 63, .int 95, .int 0, .int 0, .int 95, .list ((List.range 95).map fun (k : Nat) => PyData.tuple [.int (0 + (k : Int)), .int 95])], .tuple [.int 0, .int 0, .int 63, .int 95, .none, .list []]]] := by
    show PyData.tuple [_, _, .tuple [_, .list (((List.range 96).map fun (k : Nat) => (fr + (0 + (k : Int))) % 5).map PyData.int)], _, .list [.tuple [_, _, _, _, _, .list (((List.range 95).map fun (k : Nat) => (0 + (k : Int), (95 : Int))).map prD)], _]] = _
    rw [List.map_map, List.map_map]
    rfl
  dsimp only
  refine Mk.asg (K := K) (d := (great fr).data) (by
    rw [dg]
    repeat (first | exact mk_int | exact mk_non | exact mk_nil | exact mk_varI | exact (mk_lcr 96 (by decide) (fun (k : Nat) => PyData.int ((fr + (0 + (k : Int))) % 5)) (fun x => rfl) fun D i H0' _ => mk_mod (by decide) (mk_intc (mk_add mk_varI mk_varI)) mk_int) | exact (mk_lcr 95 (by decide) (fun (k : Nat) => PyData.tuple [.int (0 + (k : Int)), .int 95]) (fun x => rfl) fun D i H0' _ => mk_tup (vw_ho D) (mk_cons mk_varI (mk_cons mk_int mk_nil)) (Nat.le_of_ble_eq_true rfl)) | exact mk_int | refine mk_cons ?_ ?_ | refine mk_tup vw_id ?_ ?_ | refine mk_lst vw_id ?_ ?_ | refine mk_add ?_ ?_ | refine mk_sub ?_ ?_ | refine mk_neg ?_ | exact Nat.le_of_ble_eq_true rfl)) fun H12 v12 s12 d12 => ?_
  dsimp only [gName]
  have gl : (great fr).moves.length ≤ 60 := by show 2 ≤ 60; decide
  have gs : ∀ m ∈ (great fr).moves, m.sh.length ≤ 1000 := fun m hm => by
    rcases List.mem_cons.mp hm with e | hm
    · subst e
      show ((List.range 95).map fun (k : Nat) => (0 + (k : Int), (95 : Int))).length ≤ 1000
      rw [List.length_map, List.length_range]
      decide
    · rw [List.mem_singleton.mp hm]
      exact Nat.zero_le _
  refine ⟨_, rfl, v12, great fr, rfl, d12, gl, gs, fun _ H13 s13 => ⟨rfl, _, rfl, iteT ?_⟩, fun z => absurd (great_good fr) z⟩
  exact ck_new (M := tiny fr) (by repeat (first | exact mk_int | exact mk_non | exact mk_nil | exact mk_varI | refine mk_cons ?_ ?_ | refine mk_tup vw_id ?_ ?_ | refine mk_lst vw_id ?_ ?_ | refine mk_add ?_ ?_ | refine mk_sub ?_ ?_ | refine mk_neg ?_ | exact Nat.le_of_ble_eq_true rfl)) (tiny_good hf.1) (Nat.zero_le _) (fun m hm => absurd hm List.not_mem_nil) fun _ => q _
end
-- IMPORT HandS.TupSets KE.KDictKeyed HandS.RaiseMore
theorem all_mk {l : PySem.W.OpenLaw} {w : World} {K : PySem.W.Frag} {h : Heap} {mg : Str → Option Value} {fa f1 f2 f3 f4 f5 f6 f7 f8 f9 f10 f11 f12 f13 f14 f15 f16 f17 f18 : Addr} (X : K.In h) (G : h.Ns mainGlobals mg) (hfa : mg "law" = some (.ref fa))
    {od1 an1 od2 an2 od3 an3 od4 an4 od5 an5 od6 an6 od7 an7 od8 an8 od9 an9 od10 an10 od11 an11 od12 an12 od13 an13 od14 an14 od15 an15 od16 an16 od17 an17 od18 an18 : Option Addr} {sl1 sl2 sl3 sl4 sl5 sl6 sl7 sl8 sl9 sl10 sl11 sl12 sl13 sl14 sl15 sl16 sl17 sl18 : Array (Option Value)} {oc1 kV1 dc1 pm1 cd1 ct1 oc2 kV2 dc2 pm2 cd2 ct2 oc3 kV3 dc3 pm3 cd3 ct3 oc4 kV4 dc4 pm4 cd4 ct4 oc5 kV5 dc5 pm5 cd5 ct5 oc6 kV6 dc6 pm6 cd6 ct6 oc7 kV7 dc7 pm7 cd7 ct7 oc8 kV8 dc8 pm8 cd8 ct8 oc9 kV9 dc9 pm9 cd9 ct9 oc10 kV10 dc10 pm10 cd10 ct10 oc11 kV11 dc11 pm11 cd11 ct11 oc12 kV12 dc12 pm12 cd12 ct12 oc13 kV13 dc13 pm13 cd13 ct13 oc14 kV14 dc14 pm14 cd14 ct14 oc15 kV15 dc15 pm15 cd15 ct15 oc16 kV16 dc16 pm16 cd16 ct16 oc17 kV17 dc17 pm17 cd17 ct17 oc18 kV18 dc18 pm18 cd18 ct18 : Value}
    (a1 : PySem.W.nsIn K mainGlobals "_law_cell" = some (some (.ref f1))) (l1 : K.lookup f1 = some ⟨oc1, od1, .func (PySem.W.fnOf "_law_cell" "_law_cell" (defArgs s_law_cell) (defBody s_law_cell) (defScope s_law_cell) .none kV1 dc1 pm1 an1 cd1 ct1), sl1⟩) (c1 : PySem.W.codeIn K cd1 "_law_cell" = true) (k1 : PySem.W.keepIn K (.ref f1) = true)
    (a2 : PySem.W.nsIn K mainGlobals "_law_draws" = some (some (.ref f2))) (l2 : K.lookup f2 = some ⟨oc2, od2, .func (PySem.W.fnOf "_law_draws" "_law_draws" (defArgs s_law_draws) (defBody s_law_draws) (defScope s_law_draws) .none kV2 dc2 pm2 an2 cd2 ct2), sl2⟩) (c2 : PySem.W.codeIn K cd2 "_law_draws" = true) (k2 : PySem.W.keepIn K (.ref f2) = true)
    (a3 : PySem.W.nsIn K mainGlobals "_law_pairs" = some (some (.ref f3))) (l3 : K.lookup f3 = some ⟨oc3, od3, .func (PySem.W.fnOf "_law_pairs" "_law_pairs" (defArgs s_law_pairs) (defBody s_law_pairs) (defScope s_law_pairs) .none kV3 dc3 pm3 an3 cd3 ct3), sl3⟩) (c3 : PySem.W.codeIn K cd3 "_law_pairs" = true) (k3 : PySem.W.keepIn K (.ref f3) = true)
    (a4 : PySem.W.nsIn K mainGlobals "_law_machine" = some (some (.ref f4))) (l4 : K.lookup f4 = some ⟨oc4, od4, .func (PySem.W.fnOf "_law_machine" "_law_machine" (defArgs s_law_machine) (defBody s_law_machine) (defScope s_law_machine) .none kV4 dc4 pm4 an4 cd4 ct4), sl4⟩) (c4 : PySem.W.codeIn K cd4 "_law_machine" = true) (k4 : PySem.W.keepIn K (.ref f4) = true)
    (a5 : PySem.W.nsIn K mainGlobals "is_number" = some (some (.ref f5))) (l5 : K.lookup f5 = some ⟨oc5, od5, .func (PySem.W.fnOf "is_number" "is_number" (defArgs s_is_number) (defBody s_is_number) (defScope s_is_number) .none kV5 dc5 pm5 an5 cd5 ct5), sl5⟩) (c5 : PySem.W.codeIn K cd5 "is_number" = true) (k5 : PySem.W.keepIn K (.ref f5) = true)
    (a6 : PySem.W.nsIn K mainGlobals "is_index" = some (some (.ref f6))) (l6 : K.lookup f6 = some ⟨oc6, od6, .func (PySem.W.fnOf "is_index" "is_index" (defArgs s_is_index) (defBody s_is_index) (defScope s_is_index) .none kV6 dc6 pm6 an6 cd6 ct6), sl6⟩) (c6 : PySem.W.codeIn K cd6 "is_index" = true) (k6 : PySem.W.keepIn K (.ref f6) = true)
    (a7 : PySem.W.nsIn K mainGlobals "is_tuple" = some (some (.ref f7))) (l7 : K.lookup f7 = some ⟨oc7, od7, .func (PySem.W.fnOf "is_tuple" "is_tuple" (defArgs s_is_tuple) (defBody s_is_tuple) (defScope s_is_tuple) .none kV7 dc7 pm7 an7 cd7 ct7), sl7⟩) (c7 : PySem.W.codeIn K cd7 "is_tuple" = true) (k7 : PySem.W.keepIn K (.ref f7) = true)
    (a8 : PySem.W.nsIn K mainGlobals "is_count" = some (some (.ref f8))) (l8 : K.lookup f8 = some ⟨oc8, od8, .func (PySem.W.fnOf "is_count" "is_count" (defArgs s_is_count) (defBody s_is_count) (defScope s_is_count) .none kV8 dc8 pm8 an8 cd8 ct8), sl8⟩) (c8 : PySem.W.codeIn K cd8 "is_count" = true) (k8 : PySem.W.keepIn K (.ref f8) = true)
    (a9 : PySem.W.nsIn K mainGlobals "demand" = some (some (.ref f9))) (l9 : K.lookup f9 = some ⟨oc9, od9, .func (PySem.W.fnOf "demand" "demand" (defArgs s_demand) (defBody s_demand) (defScope s_demand) .none kV9 dc9 pm9 an9 cd9 ct9), sl9⟩) (c9 : PySem.W.codeIn K cd9 "demand" = true) (k9 : PySem.W.keepIn K (.ref f9) = true)
    (a10 : PySem.W.nsIn K mainGlobals "check_shifts" = some (some (.ref f10))) (l10 : K.lookup f10 = some ⟨oc10, od10, .func (PySem.W.fnOf "check_shifts" "check_shifts" (defArgs s_check_shifts) (defBody s_check_shifts) (defScope s_check_shifts) .none kV10 dc10 pm10 an10 cd10 ct10), sl10⟩) (c10 : PySem.W.codeIn K cd10 "check_shifts" = true) (k10 : PySem.W.keepIn K (.ref f10) = true)
    (a11 : PySem.W.nsIn K mainGlobals "check_start" = some (some (.ref f11))) (l11 : K.lookup f11 = some ⟨oc11, od11, .func (PySem.W.fnOf "check_start" "check_start" (defArgs s_check_start) (defBody s_check_start) (defScope s_check_start) .none kV11 dc11 pm11 an11 cd11 ct11), sl11⟩) (c11 : PySem.W.codeIn K cd11 "check_start" = true) (k11 : PySem.W.keepIn K (.ref f11) = true)
    (a12 : PySem.W.nsIn K mainGlobals "check_move" = some (some (.ref f12))) (l12 : K.lookup f12 = some ⟨oc12, od12, .func (PySem.W.fnOf "check_move" "check_move" (defArgs s_check_move) (defBody s_check_move) (defScope s_check_move) .none kV12 dc12 pm12 an12 cd12 ct12), sl12⟩) (c12 : PySem.W.codeIn K cd12 "check_move" = true) (k12 : PySem.W.keepIn K (.ref f12) = true)
    (a13 : PySem.W.nsIn K mainGlobals "check_machine" = some (some (.ref f13))) (l13 : K.lookup f13 = some ⟨oc13, od13, .func (PySem.W.fnOf "check_machine" "check_machine" (defArgs s_check_machine) (defBody s_check_machine) (defScope s_check_machine) .none kV13 dc13 pm13 an13 cd13 ct13), sl13⟩) (c13 : PySem.W.codeIn K cd13 "check_machine" = true) (k13 : PySem.W.keepIn K (.ref f13) = true)
    (a14 : PySem.W.nsIn K mainGlobals "_law_refused" = some (some (.ref f14))) (l14 : K.lookup f14 = some ⟨oc14, od14, .func (PySem.W.fnOf "_law_refused" "_law_refused" (defArgs s_law_refused) (defBody s_law_refused) (defScope s_law_refused) .none kV14 dc14 pm14 an14 cd14 ct14), sl14⟩) (c14 : PySem.W.codeIn K cd14 "_law_refused" = true) (k14 : PySem.W.keepIn K (.ref f14) = true)
    (a15 : PySem.W.nsIn K mainGlobals "_law_with" = some (some (.ref f15))) (l15 : K.lookup f15 = some ⟨oc15, od15, .func (PySem.W.fnOf "_law_with" "_law_with" (defArgs s_law_with) (defBody s_law_with) (defScope s_law_with) .none kV15 dc15 pm15 an15 cd15 ct15), sl15⟩) (c15 : PySem.W.codeIn K cd15 "_law_with" = true) (k15 : PySem.W.keepIn K (.ref f15) = true)
    (a16 : PySem.W.nsIn K mainGlobals "_law_bad_moves" = some (some (.ref f16))) (l16 : K.lookup f16 = some ⟨oc16, od16, .func (PySem.W.fnOf "_law_bad_moves" "_law_bad_moves" (defArgs s_law_bad_moves) (defBody s_law_bad_moves) (defScope s_law_bad_moves) .none kV16 dc16 pm16 an16 cd16 ct16), sl16⟩) (c16 : PySem.W.codeIn K cd16 "_law_bad_moves" = true) (k16 : PySem.W.keepIn K (.ref f16) = true)
    (a17 : PySem.W.nsIn K mainGlobals "_law_bad_starts" = some (some (.ref f17))) (l17 : K.lookup f17 = some ⟨oc17, od17, .func (PySem.W.fnOf "_law_bad_starts" "_law_bad_starts" (defArgs s_law_bad_starts) (defBody s_law_bad_starts) (defScope s_law_bad_starts) .none kV17 dc17 pm17 an17 cd17 ct17), sl17⟩) (c17 : PySem.W.codeIn K cd17 "_law_bad_starts" = true) (k17 : PySem.W.keepIn K (.ref f17) = true)
    (a18 : PySem.W.nsIn K mainGlobals "law" = some (some (.ref f18))) (l18 : K.lookup f18 = some ⟨oc18, od18, .func (PySem.W.fnOf "law" "law" (defArgs s_law) (defBody s_law) (defScope s_law) .none kV18 dc18 pm18 an18 cd18 ct18), sl18⟩) (c18 : PySem.W.codeIn K cd18 "law" = true) (k18 : PySem.W.keepIn K (.ref f18) = true)
    {CL CO CB : Addr}
    (xgL : PySem.W.nsIn K mainGlobals "LegionError" = some (some (.ref CL))) (xxL : PySem.W.excIn K CL [.type "ValueError", .type "Exception", .type "BaseException", .type "object"] "ValueError.__new__" = true) (xkL : PySem.W.keepIn K (.ref CL) = true) (xtL : PySem.W.typeIn K (.ref CL) = some (.type "type")) (xiL : PySem.W.isClsIn K CL = true) (xsL : PySem.W.subIn K (.ref CL) (.ref CL) = some true) (xvL : PySem.W.subIn K (.ref CL) (.type "ValueError") = some true) (xaL : PySem.W.findIn K (.ref CL) "__getattribute__" = some (some (.builtin "BaseException.__getattribute__"))) (xbL : PySem.W.findIn K (.ref CL) "__getattr__" = some none) (xcL : PySem.W.subIn K (.ref CL) (.type "BaseException") = some true) (xdL : PySem.W.hasDictIn K CL = true) (xeL : PySem.W.findIn K (.ref CL) "__class__" = some (some (.builtin "object.__class__"))) (xmL : PySem.W.mroIn K CL (.type "object") = some true) (xgO : PySem.W.nsIn K mainGlobals "OutOfRange" = some (some (.ref CO))) (xxO : PySem.W.excIn K CO [.type "ValueError", .type "Exception", .type "BaseException", .type "object"] "ValueError.__new__" = true) (xkO : PySem.W.keepIn K (.ref CO) = true) (xtO : PySem.W.typeIn K (.ref CO) = some (.type "type")) (xiO : PySem.W.isClsIn K CO = true) (xsO : PySem.W.subIn K (.ref CO) (.ref CO) = some true) (xvO : PySem.W.subIn K (.ref CO) (.type "ValueError") = some true) (xaO : PySem.W.findIn K (.ref CO) "__getattribute__" = some (some (.builtin "BaseException.__getattribute__"))) (xbO : PySem.W.findIn K (.ref CO) "__getattr__" = some none) (xcO : PySem.W.subIn K (.ref CO) (.type "BaseException") = some true) (xdO : PySem.W.hasDictIn K CO = true) (xeO : PySem.W.findIn K (.ref CO) "__class__" = some (some (.builtin "object.__class__"))) (xmO : PySem.W.mroIn K CO (.type "object") = some true) (xgB : PySem.W.nsIn K mainGlobals "BadMachine" = some (some (.ref CB))) (xxB : PySem.W.excIn K CB [.type "ValueError", .type "Exception", .type "BaseException", .type "object"] "ValueError.__new__" = true) (xkB : PySem.W.keepIn K (.ref CB) = true) (xtB : PySem.W.typeIn K (.ref CB) = some (.type "type")) (xiB : PySem.W.isClsIn K CB = true) (xsB : PySem.W.subIn K (.ref CB) (.ref CB) = some true) (xvB : PySem.W.subIn K (.ref CB) (.type "ValueError") = some true) (xaB : PySem.W.findIn K (.ref CB) "__getattribute__" = some (some (.builtin "BaseException.__getattribute__"))) (xbB : PySem.W.findIn K (.ref CB) "__getattr__" = some none) (xcB : PySem.W.subIn K (.ref CB) (.type "BaseException") = some true) (xdB : PySem.W.hasDictIn K CB = true) (xeB : PySem.W.findIn K (.ref CB) "__class__" = some (some (.builtin "object.__class__"))) (xmB : PySem.W.mroIn K CB (.type "object") = some true)
    (xn : PySem.W.specialIn K (.builtin "object.__class__") "__get__" = some (some (.builtin "getset_descriptor.__get__"))) (xh : PySem.W.takesIn K (.builtin "object.__class__") = some true)
    (rOL : PySem.W.subIn K (.ref CO) (.ref CL) = some true) (rOB : PySem.W.subIn K (.ref CO) (.ref CB) = some false) (rBL : PySem.W.subIn K (.ref CB) (.ref CL) = some true) (rBO : PySem.W.subIn K (.ref CB) (.ref CO) = some false)
    {ct_MOST_STATES : _} (ck_MOST_STATES : PySem.W.nsIn K mainGlobals "MOST_STATES" = some (some (.int 64 ct_MOST_STATES)))
    {ct_MOST_PLACES : _} (ck_MOST_PLACES : PySem.W.nsIn K mainGlobals "MOST_PLACES" = some (some (.int 96 ct_MOST_PLACES)))
    (z_len : PySem.W.nsIn K mainGlobals "len" = some none) (z_int : PySem.W.nsIn K mainGlobals "int" = some none) (z_abs : PySem.W.nsIn K mainGlobals "abs" = some none) (z_range : PySem.W.nsIn K mainGlobals "range" = some none) (z_min : PySem.W.nsIn K mainGlobals "min" = some none) (z_str : PySem.W.nsIn K mainGlobals "str" = some none) (z_isinstance : PySem.W.nsIn K mainGlobals "isinstance" = some none) (z_bool : PySem.W.nsIn K mainGlobals "bool" = some none) (z_dict : PySem.W.nsIn K mainGlobals "dict" = some none) (z_sum : PySem.W.nsIn K mainGlobals "sum" = some none) (z_list : PySem.W.nsIn K mainGlobals "list" = some none) (z_tuple : PySem.W.nsIn K mainGlobals "tuple" = some none) (z_repr : PySem.W.nsIn K mainGlobals "repr" = some none) (z_sorted : PySem.W.nsIn K mainGlobals "sorted" = some none) (z_enumerate : PySem.W.nsIn K mainGlobals "enumerate" = some none) (z_zip : PySem.W.nsIn K mainGlobals "zip" = some none) (z_all : PySem.W.nsIn K mainGlobals "all" = some none) (z_max : PySem.W.nsIn K mainGlobals "max" = some none) (z_set : PySem.W.nsIn K mainGlobals "set" = some none) (z_ValueError : PySem.W.nsIn K mainGlobals "ValueError" = some none) (z_any : PySem.W.nsIn K mainGlobals "any" = some none) (z_reversed : PySem.W.nsIn K mainGlobals "reversed" = some none) :
    ∀ base : Heap, K.In base → base.Ns mainGlobals mg → TopOk l.prog w K mg base fa (spLaw K) := by
  have e := hfa.symm.trans (PySem.W.mg_of X G a18)
  cases e
  have F1 := fun_mk (st := s_law_cell) l1 c1 k1
  have F2 := fun_mk (st := s_law_draws) l2 c2 k2
  have F3 := fun_mk (st := s_law_pairs) l3 c3 k3
  have F4 := fun_mk (st := s_law_machine) l4 c4 k4
  have F5 := fun_mk (st := s_is_number) l5 c5 k5
  have F6 := fun_mk (st := s_is_index) l6 c6 k6
  have F7 := fun_mk (st := s_is_tuple) l7 c7 k7
  have F8 := fun_mk (st := s_is_count) l8 c8 k8
  have F9 := fun_mk (st := s_demand) l9 c9 k9
  have F10 := fun_mk (st := s_check_shifts) l10 c10 k10
  have F11 := fun_mk (st := s_check_start) l11 c11 k11
  have F12 := fun_mk (st := s_check_move) l12 c12 k12
  have F13 := fun_mk (st := s_check_machine) l13 c13 k13
  have F14 := fun_mk (st := s_law_refused) l14 c14 k14
  have F15 := fun_mk (st := s_law_with) l15 c15 k15
  have F16 := fun_mk (st := s_law_bad_moves) l16 c16 k16
  have F17 := fun_mk (st := s_law_bad_starts) l17 c17 k17
  have F18 := fun_mk (st := s_law) l18 c18 k18
  have B : Bt mg := { len := PySem.W.mg_none_of X G z_len, int := PySem.W.mg_none_of X G z_int, abs := PySem.W.mg_none_of X G z_abs, range := PySem.W.mg_none_of X G z_range, min := PySem.W.mg_none_of X G z_min, str := PySem.W.mg_none_of X G z_str, isinstance := PySem.W.mg_none_of X G z_isinstance, bool := PySem.W.mg_none_of X G z_bool, dict := PySem.W.mg_none_of X G z_dict, sum := PySem.W.mg_none_of X G z_sum, list := PySem.W.mg_none_of X G z_list, tuple := PySem.W.mg_none_of X G z_tuple, repr := PySem.W.mg_none_of X G z_repr, sorted := PySem.W.mg_none_of X G z_sorted, enumerate := PySem.W.mg_none_of X G z_enumerate, zip := PySem.W.mg_none_of X G z_zip, all := PySem.W.mg_none_of X G z_all, max := PySem.W.mg_none_of X G z_max, set := PySem.W.mg_none_of X G z_set, ValueError := PySem.W.mg_none_of X G z_ValueError, any := PySem.W.mg_none_of X G z_any, reversed := PySem.W.mg_none_of X G z_reversed }
  have cM_MOST_STATES : Cst mg "MOST_STATES" (.int 64) := ⟨_, PySem.W.mg_of X G ck_MOST_STATES, ⟨_, rfl⟩⟩
  have cM_MOST_PLACES : Cst mg "MOST_PLACES" (.int 96) := ⟨_, PySem.W.mg_of X G ck_MOST_PLACES, ⟨_, rfl⟩⟩
  have XL : ExcX K mg "LegionError" CL := ⟨PySem.W.mg_of X G xgL, xxL, xkL, xtL, xiL, xsL, xvL, ⟨xaL, xbL, xcL, xdL, xeL, xn, xh, xmL⟩⟩
  have XO : ExcX K mg "OutOfRange" CO := ⟨PySem.W.mg_of X G xgO, xxO, xkO, xtO, xiO, xsO, xvO, ⟨xaO, xbO, xcO, xdO, xeO, xn, xh, xmO⟩⟩
  have XB : ExcX K mg "BadMachine" CB := ⟨PySem.W.mg_of X G xgB, xxB, xkB, xtB, xiB, xsB, xvB, ⟨xaB, xbB, xcB, xdB, xeB, xn, xh, xmB⟩⟩
  intro base _ _
  have D_law_cell := fd_law_cell (P := l.prog) (w := w) (base := base) F1 (PySem.W.mg_of X G a1) B
  have D_law_draws := fd_law_draws (P := l.prog) (w := w) (base := base) F2 (PySem.W.mg_of X G a2) B
  have D_law_pairs := fd_law_pairs (P := l.prog) (w := w) (base := base) F3 (PySem.W.mg_of X G a3) B D_law_draws
  have D_law_machine := fd_law_machine (P := l.prog) (w := w) (base := base) F4 (PySem.W.mg_of X G a4) B D_law_draws D_law_pairs
  have D_is_number := fd_is_number (P := l.prog) (w := w) (base := base) F5 (PySem.W.mg_of X G a5) B
  have D_is_index := fd_is_index (P := l.prog) (w := w) (base := base) F6 (PySem.W.mg_of X G a6) D_is_number
  have D_is_tuple := fd_is_tuple (P := l.prog) (w := w) (base := base) F7 (PySem.W.mg_of X G a7) B
  have D_is_count := fd_is_count (P := l.prog) (w := w) (base := base) F8 (PySem.W.mg_of X G a8) B
  have DX_demand := fdX_demand (P := l.prog) (w := w) (base := base) F9 (PySem.W.mg_of X G a9) XB
  have DX_check_shifts := fdX_check_shifts (P := l.prog) (w := w) (base := base) F10 (PySem.W.mg_of X G a10) B DX_demand D_is_tuple D_is_index
  have DX_check_start := fdX_check_start (P := l.prog) (w := w) (base := base) F11 (PySem.W.mg_of X G a11) B DX_demand D_is_tuple D_is_index D_is_count
  have DX_check_move := fdX_check_move (P := l.prog) (w := w) (base := base) F12 (PySem.W.mg_of X G a12) B DX_demand D_is_tuple D_is_index DX_check_shifts
  have DX_check_machine := fdX_check_machine (P := l.prog) (w := w) (base := base) F13 (PySem.W.mg_of X G a13) B cM_MOST_STATES cM_MOST_PLACES DX_demand D_is_tuple D_is_number D_is_index DX_check_start DX_check_move
  have D_law_refused := fd_law_refused (P := l.prog) (w := w) (base := base) F14 (PySem.W.mg_of X G a14) B XL XO XB rBL rBO DX_check_machine
  have D_law_with := fd_law_with (P := l.prog) (w := w) (base := base) F15 (PySem.W.mg_of X G a15) B
  have D_law_bad_moves := fd_law_bad_moves (P := l.prog) (w := w) (base := base) F16 (PySem.W.mg_of X G a16) B
  have D_law_bad_starts := fd_law_bad_starts (P := l.prog) (w := w) (base := base) F17 (PySem.W.mg_of X G a17) B
  exact fd_law F18 (PySem.W.mg_of X G a18) (fun s v => .of_eq rfl) B D_law_cell D_law_draws D_law_machine DX_check_machine D_law_refused D_law_with D_law_bad_moves D_law_bad_starts
end My
open PySem PySem.W PyProof.Rows
set_option maxRecDepth 100000 in
set_option maxHeartbeats 0 in
theorem PySem.Challenge.cw_legion_k17_machines_checked_holds : PySem.Challenge.rw_legion_k17_machines_checked.Holds := by
  w_on; o_law; k_head; (case hw => w_witness2)
  k_fill
  refine My.walk_top (l := PySem.Challenge.rw_legion_k17_machines_checked) (n := 63) (sp := fun w => My.spLaw _) rfl (by decide) rfl (fun w h Y => PySem.W.kIn_of Y) ?F (fun _ _ a ns hl hS => ⟨a, ns, rfl, hS, hl, fun _ => rfl⟩)
  case F =>
    intro w mg fa h KX G hmg
    refine' My.all_mk KX G hmg ?a1 ?l1 ?c1 ?k1 ?a2 ?l2 ?c2 ?k2 ?a3 ?l3 ?c3 ?k3 ?a4 ?l4 ?c4 ?k4 ?a5 ?l5 ?c5 ?k5 ?a6 ?l6 ?c6 ?k6 ?a7 ?l7 ?c7 ?k7 ?a8 ?l8 ?c8 ?k8 ?a9 ?l9 ?c9 ?k9 ?a10 ?l10 ?c10 ?k10 ?a11 ?l11 ?c11 ?k11 ?a12 ?l12 ?c12 ?k12 ?a13 ?l13 ?c13 ?k13 ?a14 ?l14 ?c14 ?k14 ?a15 ?l15 ?c15 ?k15 ?a16 ?l16 ?c16 ?k16 ?a17 ?l17 ?c17 ?k17 ?a18 ?l18 ?c18 ?k18 ?xgL ?xxL ?xkL ?xtL ?xiL ?xsL ?xvL ?xaL ?xbL ?xcL ?xdL ?xeL ?xmL ?xgO ?xxO ?xkO ?xtO ?xiO ?xsO ?xvO ?xaO ?xbO ?xcO ?xdO ?xeO ?xmO ?xgB ?xxB ?xkB ?xtB ?xiB ?xsB ?xvB ?xaB ?xbB ?xcB ?xdB ?xeB ?xmB ?xn ?xh ?rOL ?rOB ?rBL ?rBO ?ck_MOST_STATES ?ck_MOST_PLACES ?z_len ?z_int ?z_abs ?z_range ?z_min ?z_str ?z_isinstance ?z_bool ?z_dict ?z_sum ?z_list ?z_tuple ?z_repr ?z_sorted ?z_enumerate ?z_zip ?z_all ?z_max ?z_set ?z_ValueError ?z_any ?z_reversed
    (case xgL => k_is)
    (case xxL => k_exc)
    (case xkL => k_is)
    (case xtL => k_is)
    (case xiL => k_is)
    (case xsL => k_is)
    (case xvL => k_is)
    (case xaL => k_is)
    (case xbL => k_is)
    (case xcL => k_is)
    (case xdL => k_is)
    (case xeL => k_is)
    (case xmL => k_is)
    (case xgO => k_is)
    (case xxO => k_exc)
    (case xkO => k_is)
    (case xtO => k_is)
    (case xiO => k_is)
    (case xsO => k_is)
    (case xvO => k_is)
    (case xaO => k_is)
    (case xbO => k_is)
    (case xcO => k_is)
    (case xdO => k_is)
    (case xeO => k_is)
    (case xmO => k_is)
    (case xgB => k_is)
    (case xxB => k_exc)
    (case xkB => k_is)
    (case xtB => k_is)
    (case xiB => k_is)
    (case xsB => k_is)
    (case xvB => k_is)
    (case xaB => k_is)
    (case xbB => k_is)
    (case xcB => k_is)
    (case xdB => k_is)
    (case xeB => k_is)
    (case xmB => k_is)
    (case xn => k_is)
    (case xh => k_is)
    (case rOL => k_is)
    (case rOB => k_is)
    (case rBL => k_is)
    (case rBO => k_is)
    (case ck_MOST_STATES => k_is)
    (case ck_MOST_PLACES => k_is)
    (case a1 => k_is); (case l1 => k_is); (case c1 => k_is); (case k1 => k_is)
    (case a2 => k_is); (case l2 => k_is); (case c2 => k_is); (case k2 => k_is)
    (case a3 => k_is); (case l3 => k_is); (case c3 => k_is); (case k3 => k_is)
    (case a4 => k_is); (case l4 => k_is); (case c4 => k_is); (case k4 => k_is)
    (case a5 => k_is); (case l5 => k_is); (case c5 => k_is); (case k5 => k_is)
    (case a6 => k_is); (case l6 => k_is); (case c6 => k_is); (case k6 => k_is)
    (case a7 => k_is); (case l7 => k_is); (case c7 => k_is); (case k7 => k_is)
    (case a8 => k_is); (case l8 => k_is); (case c8 => k_is); (case k8 => k_is)
    (case a9 => k_is); (case l9 => k_is); (case c9 => k_is); (case k9 => k_is)
    (case a10 => k_is); (case l10 => k_is); (case c10 => k_is); (case k10 => k_is)
    (case a11 => k_is); (case l11 => k_is); (case c11 => k_is); (case k11 => k_is)
    (case a12 => k_is); (case l12 => k_is); (case c12 => k_is); (case k12 => k_is)
    (case a13 => k_is); (case l13 => k_is); (case c13 => k_is); (case k13 => k_is)
    (case a14 => k_is); (case l14 => k_is); (case c14 => k_is); (case k14 => k_is)
    (case a15 => k_is); (case l15 => k_is); (case c15 => k_is); (case k15 => k_is)
    (case a16 => k_is); (case l16 => k_is); (case c16 => k_is); (case k16 => k_is)
    (case a17 => k_is); (case l17 => k_is); (case c17 => k_is); (case k17 => k_is)
    (case a18 => k_is); (case l18 => k_is); (case c18 => k_is); (case k18 => k_is)
    (case z_len => k_is); (case z_int => k_is); (case z_abs => k_is); (case z_range => k_is); (case z_min => k_is); (case z_str => k_is); (case z_isinstance => k_is); (case z_bool => k_is); (case z_dict => k_is); (case z_sum => k_is); (case z_list => k_is); (case z_tuple => k_is); (case z_repr => k_is); (case z_sorted => k_is); (case z_enumerate => k_is); (case z_zip => k_is); (case z_all => k_is); (case z_max => k_is); (case z_set => k_is); (case z_ValueError => k_is); (case z_any => k_is); (case z_reversed => k_is)
