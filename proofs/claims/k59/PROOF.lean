import PyProof.Rows.All
import Wide.All
import OpenK.AllK
import Wide.FinOn
import PyProof.Rows.SeqMore
import HandS.ForMost
import HandS.Exc
import HandS.TryOnly
import HandS.ExcOwn
import HandS.WordsExc
import HandS.IsInst
import HandS.Wide
import HandS.TupAny
import HandS.Flow
import HandS.FStr
import HandS.NoneIn
import HandS.SortKw
import HandS.Codes
import HandS.Steps
import HandS.DictComp
import HandS.WordsDict
import HandS.More
import HandS.Walk
import HandS.Star
import HandS.Deep
import HandS.Records
import HandS.Rev
import PyProof.CodeObj
import HandS.ExcIs
import HandS.Zip
import HandS.GenList
import HandS.GenCall
import HandS.TryMany
import KE.SortData
import KE.KMinKey
import KE.KeyNested
import HandS.DictTup
import HandS.TupLen
import HandS.Defaults
import PySem.Challenge.RW_legion_k59_bodies_enclosed
set_option Elab.async false
set_option linter.all false
set_option maxRecDepth 100000
namespace My
open PySem PySem.Spec PyProof.Rows L2
/-! ### lists that are read only, joined -/
def rCatS (K : PySem.W.Frag) : R2 := fun x y H Q => ∃ l b xs zs, x = .ref l ∧ y = .ref b ∧ SqL K H l xs ∧ SqL K H b zs ∧ xs.length + zs.length ≤ sizeLine ∧ ∀ p, H p = none → Q (.ref p) (upd H p (.lst (xs ++ zs)))
theorem op_catS {X : Cx} : OpR X (binaryOp .Add) (rCatS X.K) := by
  intro pins s σ H x y v u Q I rx ry h
  obtain ⟨l, b, xs, zs, rfl, rfl, hH, hB, hz, q⟩ := h
  cases rx
  cases ry
  obtain ⟨its, r, pl, z⟩ := I.list hH
  obtain ⟨its2, r2, pl2, z2⟩ := I.list hB
  have hl := r.length
  have hl2 := r2.length
  obtain ⟨⟨cls, dd, data, sl⟩, ho, hc, n, hd⟩ := pl.isList
  obtain ⟨⟨cls2, dd2, data2, sl2⟩, ho2, hc2, n2, hd2⟩ := pl2.isList
  simp only at hc hd hc2 hd2
  subst hc hd hc2 hd2
  have ea : its.toArray ++ its2.toArray = (its ++ its2).toArray := by simp
  refine concat_meets ⟨_, ho, rfl⟩ ⟨_, ho2, rfl⟩ noFill_list_add seq_list_add PySem.F.slot_list_add PySem.F.entry_list_add (PySem.F.args_list_add_2 _ _) (list_addW l b its.toArray its2.toArray n n2 dd dd2 sl sl2 (by rw [List.size_toArray, List.size_toArray]; omega)) ⟨ho, ho2, ?_⟩
  rw [ea]
  exact ⟨.ref _, _, I.lnew (t' := s.toks) (r.append r2) (by rw [List.length_append]; omega), rfl, q _ I.fresh⟩
/-- is True, is False, of anything -/
def rIsBl : R2 := fun x y H Q => ∃ b, y = .bl b ∧ Q (.bl (decide (x = .bl b))) H
theorem op_isBv {X : Cx} : OpR X (compareOp .Is) rIsBl := by
  intro pins s σ H x y v u Q I rx ry h
  obtain ⟨b, rfl, q⟩ := h
  cases (show u = Value.bool b from ry)
  have go : ∀ v : Value, plainIs v (.bool b) = true → (v == Value.bool b) = decide (x = .bl b) → wpAny (model X.prog X.w) X.A (compareOp .Is v (.bool b)) (EP X pins σ Q) X.xe s := fun v hp e =>
    wpAny_is_plain hp (by rw [e]; exact ⟨.bl _, H, I, rfl, q⟩)
  cases x with
  | bl c =>
    cases (show v = Value.bool c from rx)
    refine go _ rfl ?_
    cases b <;> cases c <;> rfl
  | non => cases (show v = Value.none from rx); exact go _ rfl rfl
  | int i => obtain ⟨t, rfl⟩ := (show ∃ t, v = Value.int i t from rx); exact go _ rfl rfl
  | str i => obtain ⟨t, rfl⟩ := (show ∃ t, v = Value.str i t from rx); exact go _ rfl rfl
  | byt i => obtain ⟨t, rfl⟩ := (show ∃ t, v = Value.bytes i t from rx); exact go _ rfl rfl
  | flt i => obtain ⟨t, rfl⟩ := (show ∃ t, v = Value.float i t from rx); exact go _ rfl rfl
  | ref a => cases (show v = Value.ref a from rx); exact go _ rfl rfl
  | ty a => cases (show v = Value.type a from rx); exact go _ rfl rfl
/-! ### rules with the written part named -/
section
variable {X : Cx} (K : PySem.W.Frag)
theorem ixL (h : X.K = K := by rfl) : IxR X (rIxL K) := h ▸ ix_list
theorem ixT (h : X.K = K := by rfl) : IxR X (rIxT K) := h ▸ ix_tup
theorem ixQ (h : X.K = K := by rfl) : IxR X (rIx K) := h ▸ ix_seq
theorem opIn (h : X.K = K := by rfl) : OpR X (compareOp .In) (rIn K false) := h ▸ op_in_seq
theorem opNotIn (h : X.K = K := by rfl) : OpR X (compareOp .NotIn) (rIn K true) := h ▸ op_notIn_seq
theorem opCat (h : X.K = K := by rfl) : OpR X (binaryOp .Add) (rCatS K) := h ▸ op_catS
theorem opCatT (h : X.K = K := by rfl) : OpR X (binaryOp .Add) (rCatA K) := h ▸ op_catA
theorem opEqD (hu : X.A.units + 64 < cLine) (h : X.K = K := by rfl) : OpR X (compareOp .Eq) (rEqD K) := h ▸ op_eqD hu
theorem opNeD (hu : X.A.units + 64 < cLine) (h : X.K = K := by rfl) : OpR X (compareOp .NotEq) (rNeD K) := h ▸ op_neD hu
theorem slL (h : X.K = K := by rfl) : SlR X (rSlL K) := h ▸ sl_list
theorem slT (h : X.K = K := by rfl) : SlR X (rSlT K) := h ▸ sl_tup
def rLenQ (K : PySem.W.Frag) : List V → Hp → VK → Prop := fun xs H Q => ∃ p ys, xs = [.ref p] ∧ (SqL K H p ys ∨ SqT K H p ys) ∧ Q (.int ys.length) H
theorem cLen (h : X.K = K := by rfl) : CallR X (.builtin "len") (rLenQ K) := h ▸ call_len_seq
def rListQ (K : PySem.W.Frag) : List V → Hp → VK → Prop := fun xs H Q => ∃ p ys, xs = [.ref p] ∧ (SqL K H p ys ∨ SqT K H p ys) ∧ ∀ l, H l = none → Q (.ref l) (upd H l (.lst ys))
theorem cList (h : X.K = K := by rfl) : CallR X (.type "list") (rListQ K) := h ▸ call_list_of
theorem cSum (hc : X.calm = true) (h : X.K = K := by rfl) : CallR X (.builtin "sum") (rSum K) := h ▸ cr_sum hc
theorem cAll (hc : X.calm = true) (h : X.K = K := by rfl) : CallR X (.builtin "all") (rAll K) := h ▸ cr_all hc
theorem cAny (hc : X.calm = true) (h : X.K = K := by rfl) : CallR X (.builtin "any") (rAny K) := h ▸ cr_any hc
theorem cIsi (h : X.K = K := by rfl) : CallR X (.builtin "isinstance") (rIsi K) := h ▸ call_isi
theorem peBm {T name id : String} {r : V → List V → Hp → VK → Prop} {to : TE} {t : TA} {o e : Expr} {es : List Expr} {apos cpos : Pos} (pa : PlainAttrs T) (slot : Slot T name id) (hty : typeOf (.builtin id) = pure (.type "method_descriptor")) (hm : MtR X id r) (ho : PE X o to) (ha : PA X (e :: es) t) (h : X.K = K := by rfl)
    (hbase : attributeBase o name X.env (eval o X.env) = eval o X.env := by rfl)
    (hfew : ((backTo cpos (starEach (e :: es) X.env)).all (fun x => !x.1) && (backToKw cpos (keywordEach [] X.env)).all (fun x => x.1.isSome)
      && decide ((e :: es).length + ([] : List Keyword).length + (if ([] : List Keyword).isEmpty then 0 else 1) < 30)) = true := by rfl)
    (hline : (apos.endLine == cpos.line) = true := by rfl) (hs : starEach (e :: es) X.env = (false, eval e X.env) :: starEach es X.env := by rfl) (hplain : (backTo cpos (starEach es X.env)).any (·.1) = false := by rfl) :
    PE X (.Call (.Attribute o name apos) (e :: es) [] cpos) (tBM K T r to t) := h ▸ pe_bm pa slot hty hm ho ha hbase hfew hline hs hplain
def tTruK (K : PySem.W.Frag) (ta : TE) : TT := fun σ H Q => ta σ H fun x H' => ∃ k, TruV K x H' k ∧ Q k H'
theorem ptTru {a : Expr} {ta : TE} (ha : PE X a ta) (he : ∀ whole, isTrue a X.env whole = (do let v ← whole; standAt a.pos; holding [v] (truthy v))) (h : X.K = K := by rfl) : PT X a (tTruK K ta) := h ▸ pt_truth ha he
theorem piL {tg l : Expr} {tl : TE} (hl : PE X l tl) (h : X.K = K := by rfl) : PI X tg l (iList K tl) := h ▸ pi_list hl
theorem piT {tg l : Expr} {tl : TE} (hl : PE X l tl) (h : X.K = K := by rfl) : PI X tg l (iTup K tl) := h ▸ pi_tup hl
end
/-! ### a def that is known -/
structure Fd (P : Program) (w : World) (K : PySem.W.Frag) (mg : Str → Option Value) (base : Heap) (x : Str) (ps : List Str) (k : Nat) (sp : Sp) : Prop where
  ex : ∃ (f : Addr) (fd : FuncData), FnOk P w K mg base CX0 k f fd ps sp ∧ mg x = some (.ref f) ∧ PySem.W.keepIn K (.ref f) = true ∧ Binds K fd ps []
theorem pe_fn {X : Cx} {x : Str} {ps : List Str} {k : Nat} {sp : Sp} {e : Expr} {es : List Expr} {t : TA} {p pos : Pos} (F : Fd X.prog X.w X.K X.mg X.base x ps k sp) (hr : Room k X.A) (hg : Gl X x) (ha : PA X (e :: es) t)
    (hdb : (x == ("__debug__" : Str)) = false := by decide) (he : starEach (e :: es) X.env = (false, eval e X.env) :: starEach es X.env := by rfl) (hpl : (backTo pos (starEach es X.env)).any (·.1) = false := by rfl) :
    PE X (.Call (.Name x p) (e :: es) [] pos) (tCall sp [] E0 t) := by
  obtain ⟨f, fd, G, m, kp, b⟩ := F.ex
  exact pe_call G hr hg m kp b .nil pass0 ha hdb he hpl
/-- the built-ins stand as they were -/
structure Bt (mg : Str → Option Value) : Prop where
  len : mg "len" = none
  int : mg "int" = none
  abs : mg "abs" = none
  range : mg "range" = none
  min : mg "min" = none
  str : mg "str" = none
  isinstance : mg "isinstance" = none
  bool : mg "bool" = none
  sum : mg "sum" = none
  list : mg "list" = none
  tuple : mg "tuple" = none
  repr : mg "repr" = none
  sorted : mg "sorted" = none
  enumerate : mg "enumerate" = none
  zip : mg "zip" = none
  all : mg "all" = none
  dict : mg "dict" = none
  max : mg "max" = none
  set : mg "set" = none
  ValueError : mg "ValueError" = none
  any : mg "any" = none
  reversed : mg "reversed" = none
/-! ### heaps -/
theorem same_new {H : Hp} {p : Addr} {o : HO} (h : H p = none) : Same H (upd H p o) := fun b x e => by
  rw [upd_ne (ne_of_none e h)]
  exact e
/-- an object that H does not know may change -/
theorem Same.mut {H H' : Hp} {p : Addr} {o : HO} (e : Same H H') (h : H p = none) : Same H (upd H' p o) := fun a u ha => by
  rw [upd_ne (ne_of_none ha h)]
  exact e a u ha
theorem sq {K : PySem.W.Frag} {H : Hp} {a : Addr} {xs : List V} (h : H a = some (.lst xs)) : SqL K H a xs := .inl (.inl h)
theorem st {K : PySem.W.Frag} {H : Hp} {a : Addr} {xs : List V} (h : H a = some (.tup xs)) : SqT K H a xs := .inl (.inl h)
theorem sz {n : Nat} (h : n ≤ 100000) : n ≤ sizeLine := Nat.le_trans h (by decide)
theorem szl {n : Nat} (h : n < 100000) : n < sizeLine := Nat.lt_of_lt_of_le h (by decide)
theorem Same.seqT {K : PySem.W.Frag} {H H' : Hp} {a : Addr} {xs : List V} (e : Same H H') (h : SqT K H a xs) : SqT K H' a xs := by
  rcases h with (h | ⟨o, h⟩) | h
  · exact .inl (.inl (e _ _ h))
  · exact .inl (.inr ⟨o, e _ _ h⟩)
  · exact .inr h
/-! ### numbers drawn below limits -/
def DOk : List Int → List Int → Prop
  | [], [] => True
  | d :: ds, m :: ms => (0 ≤ d ∧ d < m) ∧ DOk ds ms
  | _, _ => False
theorem DOk.snoc : ∀ {ds ms : List Int} {d m : Int}, DOk ds ms → 0 ≤ d → d < m → DOk (ds ++ [d]) (ms ++ [m])
  | [], [], _, _, _, h0, h1 => ⟨⟨h0, h1⟩, trivial⟩
  | [], _ :: _, _, _, h, _, _ => h.elim
  | _ :: _, [], _, _, h, _, _ => h.elim
  | _ :: _, _ :: _, _, _, h, h0, h1 => ⟨h.1, DOk.snoc h.2 h0 h1⟩
theorem DOk.len : ∀ {ds ms : List Int}, DOk ds ms → ds.length = ms.length
  | [], [], _ => rfl
  | [], _ :: _, h => h.elim
  | _ :: _, [], h => h.elim
  | _ :: _, _ :: _, h => by rw [List.length_cons, List.length_cons, DOk.len h.2]
theorem DOk.at : ∀ {ds ms : List Int} {i : Nat} {m : Int}, DOk ds ms → ms[i]? = some m → ∃ d, ds[i]? = some d ∧ 0 ≤ d ∧ d < m
  | [], [], _, _, _, e => by simp at e
  | [], _ :: _, _, _, h, _ => h.elim
  | _ :: _, [], _, _, h, _ => h.elim
  | d :: _, _ :: _, 0, m, h, e => ⟨d, rfl, h.1.1, by have := Option.some.inj e; rw [← this]; exact h.1.2⟩
  | _ :: ds, _ :: ms, i + 1, m, h, e => DOk.at (ds := ds) (ms := ms) (i := i) h.2 e
theorem DOk.cons {ds ms : List Int} {m : Int} (h : DOk ds (m :: ms)) : ∃ d r, ds = d :: r ∧ 0 ≤ d ∧ d < m ∧ DOk r ms := by
  cases ds with
  | nil => exact h.elim
  | cons d r => exact ⟨d, r, rfl, h.1.1, h.1.2, h.2⟩
theorem DOk.nil {ds : List Int} (h : DOk ds []) : ds = [] := by
  cases ds with
  | nil => rfl
  | cons d r => exact h.elim
theorem get_map {α : Type} {f : α → V} {xs : List α} {i : Nat} {x : α} (h : xs[i]? = some x) : (xs.map f)[i]? = some (f x) := by
  rw [List.getElem?_map, h]; rfl
theorem get_map_inv {α : Type} {f : α → V} {xs : List α} {i : Nat} {v : V} (h : (xs.map f)[i]? = some v) : ∃ x, xs[i]? = some x ∧ v = f x := by
  rw [List.getElem?_map] at h
  cases e : xs[i]? with
  | none => rw [e] at h; cases h
  | some x => rw [e] at h; exact ⟨x, rfl, (Option.some.inj h).symm⟩
theorem fmod_pos {a m : Int} (h : 0 < m) : 0 ≤ a.fmod m ∧ a.fmod m < m := ⟨Int.fmod_nonneg_of_pos a h, Int.fmod_lt_of_pos a h⟩
theorem take_snoc {α : Type} {xs : List α} {i : Nat} {x : α} (h : xs[i]? = some x) : xs.take (i + 1) = xs.take i ++ [x] := by
  rw [List.take_add_one, h]; rfl
end My
namespace My
open PySem PySem.Spec PyProof.Rows L2
def topS (i : Nat) : Stmt := PySem.Challenge.pw_legion_k59_bodies_enclosed.main.body.getD i (.Pass ⟨0, 0, 0, 0⟩)
theorem atI_in {α : Type} {xs : List α} {i : Int} (h0 : 0 ≤ i) (h1 : i < xs.length) : ∃ v, atI xs i = some v ∧ v ∈ xs := by
  obtain ⟨n, rfl⟩ := Int.eq_ofNat_of_zero_le h0
  have hn : n < xs.length := by omega
  exact ⟨xs[n], atI_nat (List.getElem?_eq_getElem hn), List.getElem_mem hn⟩
theorem atI_map {α : Type} {f : α → V} {xs : List α} {i : Int} (h0 : 0 ≤ i) (h1 : i < xs.length) : ∃ v, atI (xs.map f) i = some (f v) ∧ v ∈ xs ∧ xs[i.toNat]? = some v := by
  obtain ⟨n, rfl⟩ := Int.eq_ofNat_of_zero_le h0
  have hn : n < xs.length := by omega
  exact ⟨xs[n], atI_nat (get_map (List.getElem?_eq_getElem hn)), List.getElem_mem hn, List.getElem?_eq_getElem hn⟩
theorem len_app (a b : Str) : (a ++ b).length = a.length + b.length := by
  show (a.cps ++ b.cps).size = a.cps.size + b.cps.size
  exact Array.size_append
theorem len_join0 : ∀ (parts : List Str), (∀ p ∈ parts, p.length = 1) → (Txt.join (Str.ofString "") parts).length = parts.length := by
  intro parts h
  have e : ∀ parts : List Str, (∀ p ∈ parts, p.length = 1) → (TL.joinL [] (parts.map TL.tl)).length = parts.length := by
    intro parts
    induction parts with
    | nil => intro _; rfl
    | cons p r ih =>
      intro h
      have hp : (TL.tl p).length = 1 := by
        have := h p List.mem_cons_self
        rw [← this]
        exact Array.length_toList
      have hr := ih fun q hq => h q (List.mem_cons_of_mem _ hq)
      cases r with
      | nil => show (TL.tl p).length = 1; exact hp
      | cons q r =>
        show (TL.tl p ++ ([] ++ TL.joinL [] ((q :: r).map TL.tl))).length = _
        rw [List.length_append, List.nil_append, hr, hp, List.length_cons (a := p)]
        omega
  have e2 := TL.tl_join (Str.ofString "") parts
  rw [← TL.join_eq] at e2
  have e3 : (Txt.join (Str.ofString "") parts).length = (TL.tl (Txt.join (Str.ofString "") parts)).length := Array.length_toList.symm
  rw [e3, e2, show TL.tl (Str.ofString "") = [] by decide +kernel]
  exact e parts h
theorem len_digits : ∀ k : Nat, k < 60 → ((toString (k : Int) : String) |> fun s => (Str.ofString s).length) ≤ 2 := by
  intro k hk
  have : ∀ k : Fin 60, ((toString ((k : Nat) : Int) : String) |> fun s => (Str.ofString s).length) ≤ 2 := by decide +kernel
  exact this ⟨k, hk⟩
/-! ### tests that leave the heap -/
theorem ansOr {t u : TT} {σ : L2.St} {H : Hp} {a b : Bool} (ha : Ans t σ H a) (hb : Ans u σ H b) : Ans (tOr t u) σ H (a || b) := fun Q q => ha _ (by
  cases a with
  | true => exact iteT q
  | false => exact iteF (hb Q q))
theorem ansAnd {t u : TT} {σ : L2.St} {H : Hp} {a b : Bool} (ha : Ans t σ H a) (hb : Ans u σ H b) : Ans (tAnd t u) σ H (a && b) := fun Q q => ha _ (by
  cases a with
  | true => exact iteT (hb Q q)
  | false => exact iteF q)
theorem ifS {c : TT} {t u : TS} {D : Ends} {σ : L2.St} {H : Hp} {b : Bool} (h : Ans c σ H b) (ht : b = true → t D σ H) (hu : b = false → u D σ H) : tIfS c t u D σ H := h _ (by
  cases b with
  | true => exact iteT (ht rfl)
  | false => exact iteF (hu rfl))
theorem sum_ones : ∀ {ss : List Str}, (∀ s ∈ ss, s.length = 1) → (ss.map (·.length)).sum = ss.length
  | [], _ => rfl
  | s :: r, h => by
    rw [List.map_cons, List.sum_cons, sum_ones fun x hx => h x (List.mem_cons_of_mem _ hx), h s List.mem_cons_self, List.length_cons]
    omega
theorem flat_strs (ss : List Str) : (ss.map V.str).all flatV = true := by
  rw [List.all_eq_true]
  intro v hv
  obtain ⟨s, _, rfl⟩ := List.mem_map.mp hv
  rfl
theorem szc (n : Nat) {xs : List V} (h : xs.length = n := by rfl) (hn : n ≤ 100000 := by decide) : xs.length ≤ sizeLine := by rw [h]; exact sz hn
theorem ansIsi {K : PySem.W.Frag} {te : TE} {σ : L2.St} {H : Hp} {x : V} {T T2 : String} {b : Bool} (hx : ∀ Q : VK, Q x H → te σ H Q) (ty : TyX K H x (.type T)) (hb : kitB T T2 = some b) :
    Ans (tB (tCB (rIsi K) (tCons te (tCons (tC (.ty T2)) tNil)))) σ H b := fun Q q => hx _ ⟨x, _, _, _, b, rfl, .ty T2, ty, kit_ty hb, _, rfl, q⟩
theorem ansTo {t : TT} {σ : L2.St} {H : Hp} {b b' : Bool} (h : Ans t σ H b) (e : b = b') : Ans t σ H b' := e ▸ h
/-- lo <= x <= hi over whole numbers -/
theorem ansChain {ta tb tc : TE} {σ : L2.St} {H : Hp} {i j k : Int} (ha : Val ta σ H (.int i)) (hb : Val tb σ H (.int j)) (hc : Val tc σ H (.int k)) :
    Ans (tTest (tChain (rI0 fun i j => .bl (decide (i ≤ j))) (rI0 fun i j => .bl (decide (i ≤ j))) ta tb tc)) σ H (decide (i ≤ j) && decide (j ≤ k)) := fun Q q =>
  ha _ (hb _ ⟨i, j, rfl, rfl, _, rfl, by
    by_cases h : i ≤ j
    · rw [if_pos (decide_eq_true h)]
      refine hc _ ⟨j, k, rfl, rfl, _, rfl, ?_⟩
      rw [decide_eq_true h, Bool.true_and] at q
      exact q
    · rw [if_neg (by rw [decide_eq_false h]; exact Bool.false_ne_true)]
      rw [decide_eq_false h, Bool.false_and] at q
      exact ⟨_, rfl, q⟩⟩)
theorem ifQ {c : TT} {t u r : TS} {D : Ends} {σ : L2.St} {H : Hp} {b : Bool} (h : Ans c σ H b) (ht : b = true → t { D with nx := r D } σ H) (hu : b = false → u { D with nx := r D } σ H) : tSeq (tIfS c t u) r D σ H := ifS (D := { D with nx := r D }) h ht hu
theorem noQ {c : TT} {t r : TS} {D : Ends} {σ : L2.St} {H : Hp} (h : Ans c σ H false) (q : r D σ H) : tSeq (tIfS c t tNext) r D σ H := ifQ h (fun z => nomatch z) fun _ => q
theorem noS {c : TT} {t : TS} {D : Ends} {σ : L2.St} {H : Hp} (h : Ans c σ H false) (q : D.nx σ H) : tIfS c t tNext D σ H := ifS h (fun z => nomatch z) fun _ => q
theorem ifR {c : TT} {t r : TS} {D : Ends} {σ : L2.St} {H : Hp} {b : Bool} (h : Ans c σ H b) (ht : b = true → t { D with nx := r D } σ H) (hu : b = false → r D σ H) : tSeq (tIfS c t tNext) r D σ H := ifQ h ht hu
theorem cutV_map {α : Type} (f : α → V) (xs : List α) (lo hi : Option Int) : ∃ ys : List α, cutV (xs.map f) lo hi = ys.map f ∧ ys.length ≤ xs.length ∧ ∀ y ∈ ys, y ∈ xs := by
  refine ⟨(xs.drop (HT.sIx (xs.map f).length 0 lo)).take (HT.sIx (xs.map f).length (xs.map f).length hi - HT.sIx (xs.map f).length 0 lo), ?_, ?_, ?_⟩
  · unfold cutV
    rw [List.map_take, List.map_drop]
  · rw [List.length_take, List.length_drop]
    omega
  · intro y hy
    exact List.mem_of_mem_drop (List.mem_of_mem_take hy)
theorem iteFx {c : Bool} {A B : Prop} (h : c = false) (q : B) : if c = true then A else B := by
  subst h
  exact iteF q
theorem iteTx {c : Bool} {A B : Prop} (h : c = true) (q : A) : if c = true then A else B := by
  subst h
  exact iteT q
/-! ### names -/
def lets : Str := Str.ofString "abcdefghijklmnopqrstuvwxyz"
def sgns : Str := Str.ofString "abcdefghijklmnopqrstuvwxyz0123456789"
def resv : List Str := ["share", "lock", "bell", "kind", "any", "local", "skip", "set", "acquire", "release", "rest", "wake", "start", "check", "await", "mark", "if", "else", "loop", "choose", "or", "end", "and", "not"].map Str.ofString
structure NmF (s : Str) : Prop where
  l1 : 1 ≤ s.length
  l20 : s.length ≤ 20
  hd : ∃ c r, s.cps.toList = c :: r ∧ c ∈ lets.cps.toList
  al : ∀ c ∈ s.cps.toList, c ∈ sgns.cps.toList
theorem str_len (s : Str) : s.cps.toList.length = s.length := Array.length_toList
theorem str_app (a b : Str) : (a ++ b).cps.toList = a.cps.toList ++ b.cps.toList := by
  show (a.cps ++ b.cps).toList = _
  exact Array.toList_append
theorem let_sgn {c : Nat} (h : c ∈ lets.cps.toList) : c ∈ sgns.cps.toList := by
  have e : sgns = lets ++ Str.ofString "0123456789" := by decide +kernel
  rw [e, str_app]
  exact List.mem_append_left _ h
theorem nmF_cons {s : Str} {c : Nat} {r : List Nat} (e : s.cps.toList = c :: r) (hc : c ∈ lets.cps.toList) (hr : ∀ x ∈ r, x ∈ sgns.cps.toList) (hl : r.length ≤ 19) : NmF s := by
  have := str_len s
  rw [e, List.length_cons] at this
  refine ⟨by omega, by omega, ⟨c, r, e, hc⟩, fun x hx => ?_⟩
  rw [e] at hx
  rcases List.mem_cons.mp hx with h | h
  · rw [h]; exact let_sgn hc
  · exact hr x h
def nmfB (l : List Nat) : Bool := match l with
  | [] => false
  | c :: r => decide (c ∈ lets.cps.toList) && (r.all fun x => decide (x ∈ sgns.cps.toList)) && decide (r.length ≤ 19)
theorem nmF_of {s : Str} (h : nmfB s.cps.toList = true) : NmF s := by
  cases e : s.cps.toList with
  | nil => rw [e] at h; cases h
  | cons c r =>
    rw [e] at h
    simp only [nmfB, Bool.and_eq_true, decide_eq_true_eq, List.all_eq_true] at h
    exact nmF_cons e h.1.1 h.1.2 h.2
def digL (i : Nat) : List Nat := (Str.ofString (toString (i : Int))).cps.toList
theorem dig_ok : ∀ i : Fin 31, (∃ c r, digL i = c :: r ∧ c ∉ lets.cps.toList) ∧ (∀ x ∈ digL i, x ∈ sgns.cps.toList) ∧ (digL i).length ≤ 2 := by
  have h : ∀ i : Fin 31, (match digL i with
    | [] => false
    | c :: _ => !decide (c ∈ lets.cps.toList)) = true ∧ ((digL i).all fun x => decide (x ∈ sgns.cps.toList)) = true ∧ (digL i).length ≤ 2 := by decide +kernel
  intro i
  obtain ⟨h1, h2, h3⟩ := h i
  refine ⟨?_, fun x hx => of_decide_eq_true (List.all_eq_true.mp h2 x hx), h3⟩
  cases e : digL i with
  | nil => rw [e] at h1; cases h1
  | cons c r => rw [e] at h1; exact ⟨c, r, rfl, by simpa using h1⟩
def letAt (j : Nat) : Nat := lets.cps.toList.getD j 0
theorem let_inj : ∀ a b : Fin 26, letAt a = letAt b → a = b := by decide +kernel
theorem let_in : ∀ a : Fin 26, letAt a ∈ lets.cps.toList := by decide +kernel
def candL (i j : Nat) : List Nat := letAt (j % 26) :: (digL i ++ if j < 26 then [] else [120])
theorem cand_f {i j : Nat} (hi : i < 31) (s : Str) (e : s.cps.toList = candL i j) : NmF s := by
  obtain ⟨_, h2, h3⟩ := dig_ok ⟨i, hi⟩
  refine nmF_cons e (let_in ⟨j % 26, by omega⟩) (fun x hx => ?_) ?_
  · rcases List.mem_append.mp hx with h | h
    · exact h2 x h
    · split at h
      · cases h
      · rw [List.mem_singleton.mp h]; decide +kernel
  · rw [List.length_append]
    have : (if j < 26 then [] else [120] : List Nat).length ≤ 1 := by split <;> decide
    have h3' : (digL i).length ≤ 2 := h3
    omega
theorem resv_let : ∀ s ∈ resv, ∀ c ∈ s.cps.toList, c ∈ lets.cps.toList := by decide +kernel
theorem cand_nr {i j : Nat} (hi : i < 31) (s : Str) (e : s.cps.toList = candL i j) : s ∉ resv := fun hm => by
  obtain ⟨⟨c, r, ec, hc⟩, _⟩ := dig_ok ⟨i, hi⟩
  refine hc (resv_let s hm c ?_)
  rw [e]
  have : digL i = c :: r := ec
  unfold candL
  rw [this]
  exact List.mem_cons_of_mem _ (List.mem_append_left _ List.mem_cons_self)
theorem cand_inj {i j k : Nat} (hj : j < 52) (hk : k < 52) (e : candL i j = candL i k) : j = k := by
  have h1 : letAt (j % 26) = letAt (k % 26) := (List.cons.inj e).1
  have h2 := congrArg List.length (List.cons.inj e).2
  have h3 := congrArg Fin.val (let_inj ⟨j % 26, by omega⟩ ⟨k % 26, by omega⟩ h1)
  have h4 : j % 26 = k % 26 := h3
  rw [List.length_append, List.length_append] at h2
  split at h2 <;> split at h2 <;> simp only [List.length_nil, List.length_cons] at h2 <;> omega
theorem pigeon {α : Type} [BEq α] [LawfulBEq α] : ∀ (xs ys : List α), xs.Nodup → (∀ x ∈ xs, x ∈ ys) → xs.length ≤ ys.length
  | [], _, _, _ => Nat.zero_le _
  | x :: r, ys, hn, h => by
    have hx := h x List.mem_cons_self
    obtain ⟨hnx, hnr⟩ := List.nodup_cons.mp hn
    have ih := pigeon r (ys.erase x) hnr fun y hy => (List.mem_erase_of_ne fun (e : y = x) => hnx (e ▸ hy)).mpr (h y (List.mem_cons_of_mem _ hy))
    rw [List.length_erase_of_mem hx] at ih
    have := List.length_pos_of_mem hx
    rw [List.length_cons]
    omega
/-- of 52 names one is free -/
theorem cand_free {i : Nat} (hi : i < 31) {ss : List Str} (hl : ss.length < 52) (h : ∀ j < 52, ∀ s : Str, s.cps.toList = candL i j → s ∈ ss ∨ s ∈ resv) : False := by
  have hs : ∀ j < 52, candL i j ∈ ss.map fun s => s.cps.toList := fun j hj => by
    have e : ((⟨(candL i j).toArray⟩ : Str)).cps.toList = candL i j := rfl
    rcases h j hj _ e with m | m
    · exact List.mem_map.mpr ⟨_, m, e⟩
    · exact absurd m (cand_nr hi _ e)
  have hn : ((List.range 52).map (candL i)).Nodup := by
    refine List.nodup_iff_pairwise_ne.mpr ?_ |> fun z => z
    rw [List.pairwise_map]
    refine List.Pairwise.imp_of_mem (fun {a b} ha hb hab e => ?_) (List.nodup_iff_pairwise_ne.mp List.nodup_range)
    exact hab (cand_inj (List.mem_range.mp ha) (List.mem_range.mp hb) e)
  have := pigeon _ _ hn fun x hx => by
    obtain ⟨j, hj, rfl⟩ := List.mem_map.mp hx
    exact hs j (List.mem_range.mp hj)
  rw [List.length_map, List.length_map, List.length_range] at this
  omega
theorem cut_x : ∀ j : Fin 52, (cutS (Str.ofString "x") none (some (((j : Nat) : Int) / 26))).cps.toList = (if (j : Nat) < 26 then [] else [120]) := by decide +kernel
structure NmsOk (ss : List Str) : Prop where
  f : ∀ s ∈ ss, NmF s
  r : ∀ s ∈ ss, s ∉ resv
  nd : ss.Nodup
theorem NmsOk.snoc {ss : List Str} {s : Str} (h : NmsOk ss) (hf : NmF s) (hr : s ∉ resv) (hs : s ∉ ss) : NmsOk (ss ++ [s]) where
  f := fun x hx => by
    rcases List.mem_append.mp hx with m | m
    · exact h.f x m
    · rw [List.mem_singleton.mp m]; exact hf
  r := fun x hx => by
    rcases List.mem_append.mp hx with m | m
    · exact h.r x m
    · rw [List.mem_singleton.mp m]; exact hr
  nd := by
    refine List.nodup_append.mpr ⟨h.nd, List.nodup_cons.mpr ⟨(fun m => by cases m), List.nodup_nil⟩, fun a ha b hb e => ?_⟩
    rw [List.mem_singleton.mp hb] at e
    exact hs (e ▸ ha)
theorem inV_iff {l : Str} {xs : List Str} : inV (V.str l) (xs.map V.str) = true ↔ l ∈ xs := by
  unfold inV
  rw [List.any_map, List.any_eq_true]
  constructor
  · rintro ⟨x, hx, h⟩
    have : (x == l) = true := h
    rw [← eq_of_beq this]
    exact hx
  · intro h
    exact ⟨l, h, (beq_self_eq_true l : (l == l) = true)⟩
theorem mem_join0 {S : List Nat} : ∀ (parts : List Str), (∀ p ∈ parts, ∀ c ∈ p.cps.toList, c ∈ S) → ∀ c ∈ (Txt.join (Str.ofString "") parts).cps.toList, c ∈ S := by
  intro parts h c hc
  have e2 := TL.tl_join (Str.ofString "") parts
  rw [← TL.join_eq, show TL.tl (Str.ofString "") = [] by decide +kernel] at e2
  have e3 : (Txt.join (Str.ofString "") parts).cps.toList = TL.joinL [] (parts.map TL.tl) := e2
  rw [e3] at hc
  clear e2 e3
  induction parts with
  | nil => cases hc
  | cons p r ih =>
    cases r with
    | nil => exact h p List.mem_cons_self c hc
    | cons q r =>
      have hc2 : c ∈ TL.tl p ++ ([] ++ TL.joinL [] ((q :: r).map TL.tl)) := hc
      rw [List.nil_append] at hc2
      rcases List.mem_append.mp hc2 with m | m
      · exact h p List.mem_cons_self c m
      · exact ih (fun p hp => h p (List.mem_cons_of_mem _ hp)) m
theorem str_ext {a b : Str} (h : a.cps.toList = b.cps.toList) : a = b := by
  cases a; cases b
  have := Array.toList_inj.mp h
  simp only at this
  rw [this]
/-! ### values and conditions as trees -/
theorem Fd.none {P : Program} {w : World} {K : PySem.W.Frag} {mg : Str → Option Value} {base : Heap} {x qual : Str} {st : Stmt} {f : Addr} {fd : FuncData} {ps : List Str} {k : Nat} {sp : Sp} (F : Fun K x qual st f fd) (m : mg x = some (.ref f)) (b : Binds K fd ps [])
    (no : ∀ vs H Q E, ¬ sp vs H Q E) : Fd P w K mg base x ps k sp := ⟨f, fd, ⟨fun vs H Q E h => absurd h (no vs H Q E), fun A outer s H args us vs Q E _ _ _ _ h => absurd h (no vs H Q E)⟩, m, F.kp, b⟩
theorem yesQ {c : TT} {t u r : TS} {D : Ends} {σ : L2.St} {H : Hp} (h : Ans c σ H true) (q : t { D with nx := r D } σ H) : tSeq (tIfS c t u) r D σ H := ifQ h (fun _ => q) fun z => nomatch z
theorem yesS {c : TT} {t u : TS} {D : Ends} {σ : L2.St} {H : Hp} (h : Ans c σ H true) (q : t D σ H) : tIfS c t u D σ H := ifS h (fun _ => q) fun z => nomatch z
/-- what is new in H' over H -/
def Nw (H H' : Hp) : Hp := fun a => match H a with
  | none => H' a
  | some _ => none
theorem nw_at {H H' : Hp} {a : Addr} (h : H a = none) : Nw H H' a = H' a := by
  unfold Nw
  rw [h]
theorem nw_old {H H' : Hp} {a : Addr} {o : HO} (h : H a = some o) : Nw H H' a = none := by
  unfold Nw
  rw [h]
theorem nw_some {H H' : Hp} {a : Addr} {o : HO} (h : Nw H H' a = some o) : H a = none ∧ H' a = some o := by
  cases e : H a with
  | none => rw [nw_at e] at h; exact ⟨rfl, h⟩
  | some x => rw [nw_old e] at h; cases h
theorem nw_same {H H' : Hp} : Same (Nw H H') H' := fun _ _ h => (nw_some h).2
theorem nw_mono {H H1 H2 H3 : Hp} (a : Same H H1) (b : Same H2 H3) : Same (Nw H1 H2) (Nw H H3) := fun x o h => by
  obtain ⟨h1, h2⟩ := nw_some h
  rw [nw_at (a.free h1)]
  exact b x o h2
/-- what is there is there -/
def Dm (H H' : Hp) : Prop := ∀ a, H' a = none → H a = none
theorem Same.dm {H H' : Hp} (s : Same H H') : Dm H H' := fun _ h => s.free h
theorem Dm.trans {H H1 H2 : Hp} (a : Dm H H1) (b : Dm H1 H2) : Dm H H2 := fun x h => a x (b x h)
theorem dm_upd {H H' : Hp} {D : Addr} {o u : HO} (s : Same H H') (h : H' D = some o) : Dm (upd H D u) H' := fun a ha => by
  have hne : a ≠ D := fun e => by rw [e, h] at ha; cases ha
  rw [upd_ne hne]
  exact s.free ha
theorem dm_up {H : Hp} {D : Addr} {u : HO} : Dm H (upd H D u) := fun a ha => by
  by_cases e : a = D
  · rw [e, upd_same] at ha; cases ha
  · rw [upd_ne e] at ha; exact ha
theorem nw_mono2 {H H1 H2 H3 : Hp} (a : Dm H H1) (b : Same H2 H3) : Same (Nw H1 H2) (Nw H H3) := fun x o h => by
  obtain ⟨h1, h2⟩ := nw_some h
  rw [nw_at (a x h1)]
  exact b x o h2
theorem nw_upd {H H' : Hp} {a : Addr} {o u : HO} (h : H a = some o) : Same (Nw H H') (Nw H (upd H' a u)) := fun x y e => by
  obtain ⟨h1, h2⟩ := nw_some e
  rw [nw_at h1, upd_ne (ne_of_none h h1).symm]
  exact h2
inductive Ar where
  | add | sub | mul
def Ar.tx : Ar → Str
  | .add => Str.ofString "+"
  | .sub => Str.ofString "-"
  | .mul => Str.ofString "*"
def Ar.ev : Ar → Int → Int → Int
  | .add, a, b => a + b
  | .sub, a, b => a - b
  | .mul, a, b => a * b
inductive VT where
  | int (i : Int) | nm (s : Str) | op (o : Ar) (a b : VT)
def VT.ht : VT → Nat
  | .op _ a b => max a.ht b.ht + 1
  | _ => 0
def RVal (H : Hp) : VT → V → Prop
  | .int i, v => v = .int i
  | .nm s, v => v = .str s
  | .op o a b, v => ∃ t x y, v = .ref t ∧ H t = some (.tup [.str o.tx, x, y]) ∧ RVal H a x ∧ RVal H b y
theorem RVal.mono {H H' : Hp} (e : Same H H') : ∀ {t : VT} {v : V}, RVal H t v → RVal H' t v
  | .int _, _, h => h
  | .nm _, _, h => h
  | .op _ _ _, _, ⟨t, x, y, e1, e2, ha, hb⟩ => ⟨t, x, y, e1, e _ _ e2, RVal.mono e ha, RVal.mono e hb⟩
def look (kvs : List (Key × V)) (s : Str) : Int := match valV kvs (Sum.inr s) with
  | some (.int i) => i
  | _ => 0
def VT.ev (kvs : List (Key × V)) : VT → Int
  | .int i => i
  | .nm s => look kvs s
  | .op o a b => o.ev (a.ev kvs) (b.ev kvs)
def VT.wt : VT → Nat
  | .op _ a b => a.wt + b.wt
  | _ => 8
def Fine (kvs : List (Key × V)) : VT → Prop
  | .int i => i.natAbs < 256
  | .nm s => ∃ i : Int, valV kvs (Sum.inr s) = some (.int i) ∧ i.natAbs < 256
  | .op _ a b => Fine kvs a ∧ Fine kvs b
theorem VT.wt_pos : ∀ t : VT, 8 ≤ t.wt
  | .int _ => Nat.le_refl 8
  | .nm _ => Nat.le_refl 8
  | .op _ a b => by show 8 ≤ a.wt + b.wt; have := a.wt_pos; omega
theorem pow_add_le {a b x y : Nat} (ha : x < 2 ^ a) (hb : y < 2 ^ b) (h1 : 1 ≤ a) (h2 : 1 ≤ b) : x + y < 2 ^ (a + b) := by
  have ea : 2 ^ (a + b) = 2 ^ a * 2 ^ b := Nat.pow_add 2 a b
  have h3 : 2 ≤ 2 ^ a := by
    have := Nat.pow_le_pow_right (show 0 < 2 by decide) h1
    omega
  have h4 : 2 ≤ 2 ^ b := by
    have := Nat.pow_le_pow_right (show 0 < 2 by decide) h2
    omega
  generalize 2 ^ a = u at *
  generalize 2 ^ b = v at *
  rw [ea]
  have h5 : u + v ≤ u * v := by
    rcases Nat.le_total u v with h | h
    · have := Nat.mul_le_mul_right v h3
      omega
    · have := Nat.mul_le_mul_left u h4
      omega
  omega
theorem ev_lt {kvs : List (Key × V)} : ∀ {t : VT}, Fine kvs t → (t.ev kvs).natAbs < 2 ^ t.wt
  | .int i, h => h
  | .nm s, ⟨i, e, h⟩ => by
    show (look kvs s).natAbs < 2 ^ 8
    unfold look
    rw [e]
    exact h
  | .op o a b, ⟨ha, hb⟩ => by
    have h1 := ev_lt ha
    have h2 := ev_lt hb
    have p1 := a.wt_pos
    have p2 := b.wt_pos
    have h3 := pow_add_le h1 h2 (by omega) (by omega)
    show (o.ev (a.ev kvs) (b.ev kvs)).natAbs < 2 ^ (a.wt + b.wt)
    cases o with
    | add => show (a.ev kvs + b.ev kvs).natAbs < _; omega
    | sub => show (a.ev kvs - b.ev kvs).natAbs < _; omega
    | mul => exact wide_lt h1 h2
inductive Cp where
  | eq | lt | le
def Cp.tx : Cp → Str
  | .eq => Str.ofString "="
  | .lt => Str.ofString "<"
  | .le => Str.ofString "<="
def Cp.ev : Cp → Int → Int → Bool
  | .eq, a, b => decide (V.int a = V.int b)
  | .lt, a, b => decide (a < b)
  | .le, a, b => decide (a ≤ b)
inductive CT where
  | bl (b : Bool) | no (c : CT) | an (a b : CT) | or (a b : CT) | cp (o : Cp) (a b : VT)
def CT.ht : CT → Nat
  | .bl _ => 0
  | .no c => c.ht + 1
  | .an a b => max a.ht b.ht + 1
  | .or a b => max a.ht b.ht + 1
  | .cp _ _ _ => 0
def RCond (H : Hp) : CT → V → Prop
  | .bl b, v => v = .bl b
  | .no c, v => ∃ t x, v = .ref t ∧ H t = some (.tup [.str (Str.ofString "not"), x]) ∧ RCond H c x
  | .an a b, v => ∃ t x y, v = .ref t ∧ H t = some (.tup [.str (Str.ofString "and"), x, y]) ∧ RCond H a x ∧ RCond H b y
  | .or a b, v => ∃ t x y, v = .ref t ∧ H t = some (.tup [.str (Str.ofString "or"), x, y]) ∧ RCond H a x ∧ RCond H b y
  | .cp o a b, v => ∃ t x y, v = .ref t ∧ H t = some (.tup [.str o.tx, x, y]) ∧ RVal H a x ∧ RVal H b y
theorem RCond.mono {H H' : Hp} (e : Same H H') : ∀ {t : CT} {v : V}, RCond H t v → RCond H' t v
  | .bl _, _, h => h
  | .no _, _, ⟨t, x, e1, e2, ha⟩ => ⟨t, x, e1, e _ _ e2, RCond.mono e ha⟩
  | .an _ _, _, ⟨t, x, y, e1, e2, ha, hb⟩ => ⟨t, x, y, e1, e _ _ e2, RCond.mono e ha, RCond.mono e hb⟩
  | .or _ _, _, ⟨t, x, y, e1, e2, ha, hb⟩ => ⟨t, x, y, e1, e _ _ e2, RCond.mono e ha, RCond.mono e hb⟩
  | .cp _ _ _, _, ⟨t, x, y, e1, e2, ha, hb⟩ => ⟨t, x, y, e1, e _ _ e2, RVal.mono e ha, RVal.mono e hb⟩
def CT.ev (kvs : List (Key × V)) : CT → Bool
  | .bl b => b
  | .no c => !c.ev kvs
  | .an a b => a.ev kvs && b.ev kvs
  | .or a b => a.ev kvs || b.ev kvs
  | .cp o a b => o.ev (a.ev kvs) (b.ev kvs)
/-- every value in it is fine, of height below n and of weight at most m -/
def CFine (kvs : List (Key × V)) (n m : Nat) : CT → Prop
  | .bl _ => True
  | .no c => CFine kvs n m c
  | .an a b => CFine kvs n m a ∧ CFine kvs n m b
  | .or a b => CFine kvs n m a ∧ CFine kvs n m b
  | .cp _ a b => (Fine kvs a ∧ a.ht < n ∧ a.wt ≤ m) ∧ Fine kvs b ∧ b.ht < n ∧ b.wt ≤ m
/-! ### data: what stands in the heap, at any depth -/
mutual
theorem dp_mono {K : PySem.W.Frag} {H H' : Hp} (e : Same H H') : ∀ {v : V} {d : PyData}, Dp K H v d → Dp K H' v d
  | _, .none, .non => .non
  | _, .bool _, .bl b => .bl b
  | _, .int _, .int i => .int i
  | _, .str _, .str x => .str x
  | _, .list _, .lst h a => .lst (e.seq h) (dpAll_mono e a)
  | _, .tuple _, .tup h a => .tup (Same.seqT e h) (dpAll_mono e a)
theorem dpAll_mono {K : PySem.W.Frag} {H H' : Hp} (e : Same H H') : ∀ {vs : List V} {ds : List PyData}, DpAll K H vs ds → DpAll K H' vs ds
  | _, [], .nil => .nil
  | _, _ :: _, .cons h t => .cons (dp_mono e h) (dpAll_mono e t)
end
theorem dpa_len {K : PySem.W.Frag} {H : Hp} : ∀ {ds : List PyData} {vs : List V}, DpAll K H vs ds → vs.length = ds.length
  | [], _, .nil => rfl
  | _ :: _, _, .cons _ t => congrArg (· + 1) (dpa_len t)
theorem dpa_at {K : PySem.W.Frag} {H : Hp} : ∀ {ds : List PyData} {vs : List V}, DpAll K H vs ds → ∀ {i : Nat} {v : V}, vs[i]? = some v → ∃ d, ds[i]? = some d ∧ Dp K H v d
  | [], _, .nil, i, v, h => by simp at h
  | _ :: _, _, .cons a t, 0, v, h => by
    have := Option.some.inj h
    subst this
    exact ⟨_, rfl, a⟩
  | _ :: _, _, .cons a t, i + 1, v, h => dpa_at t (i := i) h
theorem dpa_at' {K : PySem.W.Frag} {H : Hp} : ∀ {ds : List PyData} {vs : List V}, DpAll K H vs ds → ∀ {i : Nat} {d : PyData}, ds[i]? = some d → ∃ v, vs[i]? = some v ∧ Dp K H v d
  | [], _, .nil, i, v, h => by simp at h
  | _ :: _, _, .cons a t, 0, v, h => by
    have := Option.some.inj h
    subst this
    exact ⟨_, rfl, a⟩
  | _ :: _, _, .cons a t, i + 1, v, h => dpa_at' t (i := i) h
theorem dpa_app {K : PySem.W.Frag} {H : Hp} : ∀ {ds es : List PyData} {vs us : List V}, DpAll K H vs ds → DpAll K H us es → DpAll K H (vs ++ us) (ds ++ es)
  | [], _, _, _, .nil, b => b
  | _ :: _, _, _, _, .cons a t, b => .cons a (dpa_app t b)
theorem dpa_strs {K : PySem.W.Frag} {H : Hp} : ∀ ss : List Str, DpAll K H (ss.map V.str) (ss.map PyData.str)
  | [] => .nil
  | s :: r => .cons (.str s) (dpa_strs r)
theorem dpa_ints {K : PySem.W.Frag} {H : Hp} : ∀ ss : List Int, DpAll K H (ss.map V.int) (ss.map PyData.int)
  | [] => .nil
  | s :: r => .cons (.int s) (dpa_ints r)
/-- a tuple of data -/
theorem dp_tup {K : PySem.W.Frag} {H : Hp} {v : V} {ds : List PyData} (h : Dp K H v (.tuple ds)) : ∃ a xs, v = .ref a ∧ SqT K H a xs ∧ DpAll K H xs ds := by
  cases h with
  | tup hs ha => exact ⟨_, _, rfl, hs, ha⟩
theorem dp_lst {K : PySem.W.Frag} {H : Hp} {v : V} {ds : List PyData} (h : Dp K H v (.list ds)) : ∃ a xs, v = .ref a ∧ SqL K H a xs ∧ DpAll K H xs ds := by
  cases h with
  | lst hs ha => exact ⟨_, _, rfl, hs, ha⟩
theorem dp_str {K : PySem.W.Frag} {H : Hp} {v : V} {s : Str} (h : Dp K H v (.str s)) : v = .str s := by cases h; rfl
theorem dp_int {K : PySem.W.Frag} {H : Hp} {v : V} {s : Int} (h : Dp K H v (.int s)) : v = .int s := by cases h; rfl
theorem dpa_cons {K : PySem.W.Frag} {H : Hp} {vs : List V} {d : PyData} {ds : List PyData} (h : DpAll K H vs (d :: ds)) : ∃ v r, vs = v :: r ∧ Dp K H v d ∧ DpAll K H r ds := by
  cases h with
  | cons a t => exact ⟨_, _, rfl, a, t⟩
theorem dpa_nil {K : PySem.W.Frag} {H : Hp} {vs : List V} (h : DpAll K H vs []) : vs = [] := by cases h; rfl
theorem dpa_strsE {K : PySem.W.Frag} {H : Hp} : ∀ {ss : List Str} {vs : List V}, DpAll K H vs (ss.map PyData.str) → vs = ss.map V.str
  | [], _, h => dpa_nil h
  | s :: r, _, h => by
    obtain ⟨v, q, rfl, a, t⟩ := dpa_cons h
    rw [dp_str a, dpa_strsE t]
    rfl
/-! ### data that can be shown and compared -/
mutual
def nice : PyData → Bool
  | .none | .bool _ => true
  | .int i => decide (i.natAbs < 10 ^ 7)
  | .str s => (s.cps.toList.all fun c => decide (c < 128)) && decide (s.length ≤ 20)
  | .list xs | .tuple xs => niceAll xs
  | .dict _ => false
def niceAll : List PyData → Bool
  | [] => true
  | x :: xs => nice x && niceAll xs
end
mutual
def cells : PyData → Nat
  | .list xs | .tuple xs => cellsAll xs + 1
  | .none | .bool _ | .int _ | .str _ | .dict _ => 1
def cellsAll : List PyData → Nat
  | [] => 0
  | x :: xs => cells x + cellsAll xs
end
mutual
theorem nice_lay : ∀ d : PyData, nice d = true → d.canLay0 = true
  | .none, _ => rfl
  | .bool _, _ => rfl
  | .int _, _ => rfl
  | .str s, h => by
    simp only [nice, Bool.and_eq_true, List.all_eq_true, decide_eq_true_eq] at h
    show (s.cps.all fun c => decide (c < 0x110000)) = true
    rw [← Array.all_toList, List.all_eq_true]
    intro c hc
    have := h.1 c hc
    exact decide_eq_true (by omega)
  | .list xs, h => by
    show PyData.canLayAll0 xs = true
    exact nice_layAll xs h
  | .tuple xs, h => by
    show PyData.canLayAll0 xs = true
    exact nice_layAll xs h
  | .dict _, h => nomatch h
theorem nice_layAll : ∀ xs : List PyData, niceAll xs = true → PyData.canLayAll0 xs = true
  | [], _ => rfl
  | x :: xs, h => by
    have h' : nice x = true ∧ niceAll xs = true := by simpa only [niceAll, Bool.and_eq_true] using h
    show (x.canLay0 && PyData.canLayAll0 xs) = true
    rw [nice_lay x h'.1, nice_layAll xs h'.2]
    rfl
end
mutual
theorem nice_short : ∀ d : PyData, nice d = true → d.leavesShort 8 = true ∧ d.showable = true
  | .none, _ => ⟨rfl, rfl⟩
  | .bool _, _ => ⟨rfl, rfl⟩
  | .int i, h => by
    have h1 : i.natAbs < 10 ^ 7 := by simpa only [nice, decide_eq_true_eq] using h
    refine ⟨?_, ?_⟩
    · show decide ((Str.ofString (toString i)).length ≤ 8) = true
      have := int_text_length_le10 (a := i) (k := 7) (by decide) h1
      refine decide_eq_true ?_
      rw [PySem.ofString_length]
      exact this
    · show decide (i.natAbs.log2 < 1920) = true
      refine decide_eq_true ?_
      have h2 : i.natAbs.log2 ≤ i.natAbs := Nat.log2_le_self _
      by_cases h0 : i.natAbs = 0
      · rw [h0]; decide
      · rw [Nat.log2_lt h0]
        exact Nat.lt_of_lt_of_le h1 (by decide +kernel)
  | .str s, h => by
    simp only [nice, Bool.and_eq_true, List.all_eq_true, decide_eq_true_eq] at h
    refine ⟨?_, rfl⟩
    show (s.cps.toList.all fun c => decide (c < 16 ^ 8)) = true
    rw [List.all_eq_true]
    intro c hc
    have := h.1 c hc
    exact decide_eq_true (Nat.lt_of_lt_of_le this (by decide))
  | .list xs, h => nice_shortAll xs h
  | .tuple xs, h => nice_shortAll xs h
  | .dict _, h => nomatch h
theorem nice_shortAll : ∀ xs : List PyData, niceAll xs = true → PyData.leavesShortAll 8 xs = true ∧ PyData.showableAll xs = true
  | [], _ => ⟨rfl, rfl⟩
  | x :: xs, h => by
    have h' : nice x = true ∧ niceAll xs = true := by simpa only [niceAll, Bool.and_eq_true] using h
    obtain ⟨a1, a2⟩ := nice_short x h'.1
    obtain ⟨b1, b2⟩ := nice_shortAll xs h'.2
    refine ⟨?_, ?_⟩
    · show (x.leavesShort 8 && PyData.leavesShortAll 8 xs) = true
      rw [a1, b1]; rfl
    · show (x.showable && PyData.showableAll xs) = true
      rw [a2, b2]; rfl
end
mutual
theorem nice_bulk : ∀ d : PyData, nice d = true → d.bulk + 1 ≤ 21 * cells d
  | .none, _ => by decide
  | .bool _, _ => by show 0 + 1 ≤ 21 * 1; decide
  | .int _, _ => by show 0 + 1 ≤ 21 * 1; decide
  | .str s, h => by
    simp only [nice, Bool.and_eq_true, List.all_eq_true, decide_eq_true_eq] at h
    have : s.cps.size ≤ 20 := h.2
    show s.cps.size + 1 ≤ 21 * 1
    omega
  | .list xs, h => by
    have := nice_bulkAll xs h
    show PyData.bulkAll xs + 1 ≤ 21 * (cellsAll xs + 1)
    omega
  | .tuple xs, h => by
    have := nice_bulkAll xs h
    show PyData.bulkAll xs + 1 ≤ 21 * (cellsAll xs + 1)
    omega
  | .dict _, h => nomatch h
theorem nice_bulkAll : ∀ xs : List PyData, niceAll xs = true → PyData.bulkAll xs ≤ 21 * cellsAll xs
  | [], _ => by decide
  | x :: xs, h => by
    have h' : nice x = true ∧ niceAll xs = true := by simpa only [niceAll, Bool.and_eq_true] using h
    have h1 := nice_bulk x h'.1
    have h2 := nice_bulkAll xs h'.2
    show x.bulk + 1 + PyData.bulkAll xs ≤ 21 * (cells x + cellsAll xs)
    omega
end
structure NcD (d : PyData) (c m : Nat) : Prop where
  ni : nice d = true
  ce : cells d ≤ c
  de : d.depth ≤ m
structure NcL (ds : List PyData) (c m : Nat) : Prop where
  ni : niceAll ds = true
  ce : cellsAll ds ≤ c
  de : PyData.depthAll ds ≤ m
theorem NcD.mono {d : PyData} {c m c' m' : Nat} (h : NcD d c m) (h1 : c ≤ c') (h2 : m ≤ m') : NcD d c' m' := ⟨h.ni, Nat.le_trans h.ce h1, Nat.le_trans h.de h2⟩
theorem NcL.mono {d : List PyData} {c m c' m' : Nat} (h : NcL d c m) (h1 : c ≤ c') (h2 : m ≤ m') : NcL d c' m' := ⟨h.ni, Nat.le_trans h.ce h1, Nat.le_trans h.de h2⟩
theorem NcL.nil {c m : Nat} : NcL [] c m := ⟨rfl, Nat.zero_le _, Nat.zero_le _⟩
theorem NcL.cons {d : PyData} {ds : List PyData} {c1 c2 m : Nat} (h : NcD d c1 m) (t : NcL ds c2 m) : NcL (d :: ds) (c1 + c2) m := by
  have h1 := h.ce
  have h2 := t.ce
  have h3 := h.de
  have h4 := t.de
  refine ⟨?_, ?_, ?_⟩
  · show (nice d && niceAll ds) = true
    rw [h.ni, t.ni]; rfl
  · show cells d + cellsAll ds ≤ c1 + c2
    omega
  · show max d.depth (PyData.depthAll ds) ≤ m
    omega
theorem NcL.tup {ds : List PyData} {c m : Nat} (h : NcL ds c m) : NcD (.tuple ds) (c + 1) (m + 1) := ⟨h.ni, Nat.succ_le_succ h.ce, Nat.succ_le_succ h.de⟩
theorem NcL.lst {ds : List PyData} {c m : Nat} (h : NcL ds c m) : NcD (.list ds) (c + 1) (m + 1) := ⟨h.ni, Nat.succ_le_succ h.ce, Nat.succ_le_succ h.de⟩
theorem NcD.str {s : Str} {m : Nat} (h : nice (.str s) = true) : NcD (.str s) 1 m := ⟨h, Nat.le_refl _, Nat.zero_le _⟩
theorem NcD.int {i : Int} {m : Nat} (h : i.natAbs < 10 ^ 7) : NcD (.int i) 1 m := ⟨decide_eq_true h, Nat.le_refl _, Nat.zero_le _⟩
theorem NcD.shaped {d : PyData} {c m : Nat} (h : NcD d c m) (hm : m ≤ 64) : SeqAt.shaped d = true := by
  show (d.canLay0 && decide (d.depth ≤ 64)) = true
  have h1 := h.de
  rw [nice_lay d h.ni, decide_eq_true (by omega)]
  rfl
theorem NcD.eqv {d : PyData} {c m : Nat} (h : NcD d c m) : PyData.eqv d d = true := SeqAt.eqv_refl d (nice_lay d h.ni)
structure Shw (d : PyData) : Prop where
  sh : d.showable = true
  nd : d.hasDict = false
  de : d.depth ≤ 60
  ln : d.shown.length ≤ sizeLine
theorem NcD.shw {d : PyData} {c m : Nat} (h : NcD d c m) (hc : c ≤ 40000) (hm : m ≤ 60) : Shw d := by
  have h1 := nice_short d h.ni
  have h2 := nice_bulk d h.ni
  have h3 := h.de
  have h4 := h.ce
  refine ⟨h1.2, PyData.hasDict_of_canLay d (nice_lay d h.ni), by omega, PyData.shown_fits_bulk (by decide) (by decide) h1.1 ?_⟩
  rw [show (2 : Nat) ^ 20 = 1048576 from rfl]
  omega
/-! ### repr of data, and a law's call from outside all frames (there no guard is up) -/
section
variable {X : Cx}
def rRepr (K : PySem.W.Frag) : List V → Hp → VK → Prop := fun xs H Q => ∃ (a : Addr) (d : PyData), xs = [.ref a] ∧ Dp K H (.ref a) d ∧ d.showable = true ∧ d.hasDict = false ∧ d.depth ≤ 60 ∧ d.shown.length ≤ sizeLine ∧ Q (.str d.shown) H
theorem cRepr (K : PySem.W.Frag) (hg : X.A.guards = some []) (hu : X.A.units + 64 < cLine) (hK : X.K = K := by rfl) : CallR X (.builtin "repr") (rRepr K) := by
  subst hK
  rintro pins s σ H xs us Q I r ⟨a, d, rfl, hd, hs, hn, hp, hz, q⟩
  obtain ⟨u, rfl, ru⟩ := vals1 r
  cases ru
  obtain ⟨as, hr⟩ := Dp.reads I d _ _ hd rfl
  exact PySem.repr_of_reads' hr hs (fun z => by rw [hn] at z; cases z) hg (by omega) (fun _ _ e => e) (fun h' t tk kp => ⟨.str d.shown, H, I.kept kp, ⟨t, rfl⟩, q⟩) hz
end
/-- the law's def keeps sp where it is called with the script, from outside -/
def TopOk (P : Program) (w : World) (K : PySem.W.Frag) (mg : Str → Option Value) (base : Heap) (f : Addr) (sp : Sp) : Prop :=
  ∀ (s : Shared) (H : Hp) (a : Addr) (Q : VK), Env0 P w K mg base callerA [] s H → sp [.ref a] H Q E0 → codeAny (model P w) callerA (.call (.ref f) ⟨[.ref a], []⟩) (CR CX0 [] P w H s Q E0) s
theorem top_ok {P : Program} {w : World} {K : PySem.W.Frag} {mg : Str → Option Value} {base : Heap} {x : Str} {st : Stmt} {f : Addr} {fd : FuncData} {N : List Str} {k : Nat} {sp : Sp} (F : Fun K x x st f fd) (S : FnScope N ["script"] (defScope st)) (hroom : Room (k + 1) callerA)
    (bind : ∀ (s : Shared) (v : Value), BindsTo s fd ⟨[v], []⟩ [("script", v)])
    (body : ∀ (cdv : Value) (s : Shared) (H : Hp) (a : Addr) (Q : VK), Room k (callerA.deeper (envOfC x (defScope st) s.heap.objs.size f cdv)) → sp [.ref a] H Q E0 →
      ∃ t, PSs (cxOf CX0 P w K mg base N x (defScope st) f cdv callerA [] s H E0).nox (defBody st) t ∧ t { nx := fun _ H' => Q .non H', rt := Q } (start N [.ref a]) H) : TopOk P w K mg base f sp := by
  obtain ⟨c1, c2, c3, c4, c5, c6, cd, c8, c9, rfl, look, code⟩ := F.ex
  intro s H a Q env want
  have inS : K.In s.heap := PySem.W.Frag.In.keeps env.mod.kin (fun b o z => (env.bs b o z).1)
  have room := hroom.deeper (envOfC x (defScope st) s.heap.objs.size f cd)
  obtain ⟨t, good, read⟩ := body cd s H a Q room want
  refine codeAny_call_function (by decide) (inS f _ look) rfl S.co S.gen rfl (PySem.W.codeRec_of inS code) (bind s _ _ _ _ _ ?_)
  have names : ∀ y ∈ [(("script" : Str), Value.ref a)], (defScope st).names.lookup y.1 = some .local ∨ ((defScope st).names.lookup y.1 = some .cell ∧ ((cellsFrom (s.heap.objs.size + 1) (defScope st).names []).lookup y.1).isSome = true) := by
    intro y hy
    rw [List.mem_singleton.mp hy]
    exact (S.par "script" List.mem_cons_self).imp id fun z => ⟨z, PySem.W.cellsFrom_some _ _ _ (.inl z)⟩
  refine wpAny_newFunctionEnv_cells S.kind names ?_
  rintro _ rfl s1 made
  have few : s.heap.NoLimit := Heap.NoLimit.keeps env.mod.nolimit (fun b o z => (env.bs b o z).1)
  refine ⟨Heap.NoLimit.keeps few made.toInCall.keep, codeAny_func ?_⟩
  have inv := inv_start (CX := CX0) (vs := [V.ref a]) (us := [Value.ref a]) (E := E0) S hroom.hd env rfl (.cons rfl .nil) made
  refine wpAny_mono (good.nox.run [] s1 _ H _ inv read) ?_ (fun _ _ z => z)
  intro fl s2 out
  cases fl with
  | brk => exact False.elim out.choose_spec.choose_spec.2
  | cont => exact False.elim out.choose_spec.choose_spec.2
  | next =>
    obtain ⟨σ2, H2, inv2, q2⟩ := out
    exact ⟨.non, H2, inv2.os, inv2.bare, inv2.base, inv2.hok, rfl, q2⟩
  | ret u =>
    obtain ⟨v, σ2, H2, inv2, rel, q2⟩ := out
    exact ⟨v, H2, inv2.os, inv2.bare, inv2.base, inv2.hok, rel, q2⟩
/-- what the object of the script is taken for: the locked list, unless it is an object of the module -/
def hpOf (K : PySem.W.Frag) (a : Addr) (o : Obj) (ns : List Int) : Hp := fun b => if b = a ∧ K.lookup a = none then some (.frz o (.lst (ns.map V.int))) else none
theorem hp_none {K : PySem.W.Frag} {a b : Addr} {o : Obj} {ns : List Int} (h : b ≠ a) : hpOf K a o ns b = none := if_neg fun z => h z.1
theorem hp_ne {K : PySem.W.Frag} {a b : Addr} {o : Obj} {ns : List Int} {u : HO} (h : hpOf K a o ns b = some u) : b = a ∧ K.lookup a = none ∧ u = .frz o (.lst (ns.map V.int)) := by
  unfold hpOf at h
  split at h
  · rename_i c
    exact ⟨c.1, c.2, (Option.some.inj h).symm⟩
  · cases h
theorem ints_vals : ∀ {vs : List Value} {ns : List Int}, IntsAre vs ns → Vals (ns.map V.int) vs := fun h => vals_ints h
theorem top_call {P : Program} {w : World} {K : PySem.W.Frag} {mg mb : Str → Option Value} {fa a : Addr} {sp : Sp} {s1 : Shared} {vs : List Value} {ns : List Int} (KX : K.In s1.heap) (hns : s1.heap.Ns mainGlobals mg) (hb : s1.heap.Ns builtinsNs mb) (hbb : ∀ x : Str, x ≠ "__name__" → mb x = bootBuiltins x)
    (hlim : s1.heap.NoLimit) (hg : s1.gens = #[]) (ha : s1.heap.get? a = some { cls := .type "list", data := .seq vs.toArray }) (hi : IntsAre vs ns) (hl : ns.length ≤ sizeLine) (F : ∀ base : Heap, K.In base → base.Ns mainGlobals mg → TopOk P w K mg base fa sp)
    (hsp : ∀ H : Hp, SqL K H a (ns.map V.int) → sp [.ref a] H (fun v _ => v = .bl true) E0) :
    codeAny (model P w) callerA (.call (.ref fa) ⟨[.ref a], []⟩) (fun r s' => r = .ok (.ret (.bool true)) ∧ OldK s1.heap s'.heap ∧ s'.os = s1.os ∧ AllBare s'.gens) s1 := by
  have rel := vals_ints hi
  have size := hi.length
  generalize hob : ({ cls := .type "list", data := .seq vs.toArray } : Obj) = ob at ha
  generalize hH : hpOf K a ob ns = H
  have known : ∀ {b : Addr} {u : HO}, H b = some u → b = a ∧ K.lookup a = none ∧ u = .frz ob (.lst (ns.map V.int)) := fun z => hp_ne (hH ▸ z)
  have free : ∀ {b : Addr}, b ≠ a → H b = none := fun z => hH ▸ hp_none z
  -- what is a dict, or the module's own, is not hidden
  have dictFree : ∀ {b : Addr} {o : Obj} {es : Array DictEntry} {ep : Nat}, s1.heap.get? b = some o → o.data = .dict es ep → H b = none := by
    intro b o es ep e d
    refine free fun z => ?_
    rw [z, ha] at e
    cases e
    rw [← hob] at d
    cases d
  have kFree : ∀ {b : Addr} {o : Obj}, K.lookup b = some o → H b = none := by
    intro b o e
    cases h : H b with
    | none => rfl
    | some u =>
      obtain ⟨z1, z2, _⟩ := known h
      rw [z1, z2] at e
      cases e
  have seen : ∀ {b : Addr} {o : Obj}, s1.heap.get? b = some o → H b = none → (hidT s1.heap H).get? b = some o := fun e n => hidT_get e n
  have kIn : K.In (hidT s1.heap H) := fun b o e => seen (KX b o e) (kFree e)
  have spaces : ∀ {b : Addr} {m : Str → Option Value}, s1.heap.Ns b m → (hidT s1.heap H).Ns b m := by
    rintro b m ⟨o, es, ep, e, d, r⟩
    exact ⟨o, es, ep, seen e (dictFree e d), d, r⟩
  have limit : (hidT s1.heap H).NoLimit := by
    obtain ⟨mc, l1, l2⟩ := hlim
    exact ⟨mc, spaces l1, l2⟩
  have ok : HOk P w H s1.heap := by
    intro b u z
    obtain ⟨rfl, _, rfl⟩ := known z
    subst hob
    exact ⟨ha, by rw [List.length_map]; exact hl, vs, _, rel, ha⟩
  have script : SqL K H a (ns.map V.int) := by
    cases h : K.lookup a with
    | none => exact .inl (.inr ⟨ob, by rw [← hH]; exact if_pos ⟨rfl, h⟩⟩)
    | some o =>
      have e := KX a o h
      rw [ha] at e
      cases e
      subst hob
      exact .inr ⟨_, vs.toArray, _, h, rfl, rfl, rfl, by rw [List.size_toArray, size]; exact hl, by rw [List.toList_toArray]; exact rel⟩
  have env : Env0 P w K mg (hidT s1.heap H) callerA [] s1 H := {
    frames := rfl
    mod := ⟨kIn, spaces hns, ⟨mb, spaces hb, hbb⟩, limit⟩
    bs := fun _ _ z => of_hidT z
    bsz := Nat.le_of_eq (hidT_size _ _)
    funs := trivial
    frf := fun _ z => nomatch z
    hok := ok
    bare := .of_eq hg }
  refine codeAny_mono (F _ kIn (spaces hns) s1 H a _ env (hsp H script)) ?_
  intro r s2 out
  match r, out with
  | .error _, out => exact False.elim out
  | .ok .next, out => exact False.elim out
  | .ok .brk, out => exact False.elim out
  | .ok .cont, out => exact False.elim out
  | .ok (.ret u), ⟨v, H2, os, bare, un, ok2, ru, qv⟩ =>
    have qv' : v = .bl true := qv
    subst qv'
    have ru' : u = Value.bool true := ru
    subst ru'
    refine ⟨rfl, OldK.of_keep ?_, os, bare⟩
    intro b o e
    cases h : H b with
    | none => exact un.keep b o e h (fun z => nomatch z) (fun z => nomatch z)
    | some x =>
      obtain ⟨rfl, _, rfl⟩ := known h
      have later := (ok2 b _ (un.frzs b ob _ h)).1
      rw [ha] at e
      cases e
      exact later
theorem walk_top {l : PySem.W.OpenLaw} {n : Nat} {q : Program} {loose : List Str} {XP : (Str → Option Value) → Heap → Prop} {YP : World → Heap → Prop} {d : DefRec} {K : Params → PySem.W.Frag} {sp : World → Sp} (hn : l.most = some n) (hn2 : n ≤ sizeLine) (hdf : d.params.defaults = [])
    (hY : ∀ (w : World) (h : Heap), YP w h → (K w.params).In h)
    (F : ∀ (w : World) (mg : Str → Option Value) (fa : Addr) (h : Heap), (K w.params).In h → h.Ns mainGlobals mg → mg d.name = some (.ref fa) → ∀ base : Heap, (K w.params).In base → base.Ns mainGlobals mg → TopOk l.prog w (K w.params) mg base fa (sp w))
    (hsp : ∀ (w : World) (H : Hp) (a : Addr) (ns : List Int), ns.length ≤ n → SqL (K w.params) H a (ns.map V.int) → sp w [.ref a] H (fun v _ => v = .bl true) E0) :
    PySem.W.WalkO q loose XP YP l.row.toRowW d [] (fun f vs => PySem.call f vs) := by
  refine Att.attach_call hn hdf ?_
  intro w s0 s1 mg mb fa o pm cd doc a vs ns G Y ho hd hcd hmg hobj hints hlen hg
  exact top_call (hY w _ Y) G.T.g G.T.b G.T.builtins G.T.nolimit hg hobj hints (Nat.le_trans hlen hn2) (F w mg fa _ (hY w _ Y) G.T.g hmg) fun H hS => hsp w H a ns hlen hS
theorem orM {A B : TT} {t u r : TS} {D : Ends} {σ : L2.St} {H : Hp} (h : Ans A σ H false) (hb : tSeq (tIfS B t u) r D σ H) : tSeq (tIfS (tOr A B) t u) r D σ H := h _ (iteF hb)
theorem neM (s : Str) : (!decide (V.str s = V.str s)) = false := by
  rw [decide_eq_true rfl]
  rfl
theorem nbM (b : Bool) : (!decide (V.bl b = V.bl b)) = false := by
  rw [decide_eq_true rfl]
  rfl
theorem nvM {d : PyData} (e : PyData.eqv d d = true) : (!PyData.eqv d d) = false := by
  rw [e]
  rfl
theorem ansF {t : TT} {σ : L2.St} {H : Hp} {Q : Bool → Hp → Prop} (h : Ans t σ H false) (q : Q false H) : t σ H Q := h _ q
theorem orA {A B : TT} {σ : L2.St} {H : Hp} {Q : Bool → Hp → Prop} (h : Ans A σ H false) (q : B σ H Q) : tOr A B σ H Q := h _ (iteF q)
/-! ### situations -/
/-- xs[i] read before it is stored anew -/
def rGetL (K : PySem.W.Frag) : R2 := fun x y H Q => ∃ p xs i v, x = .ref p ∧ y = .int i ∧ 0 ≤ i ∧ SqL K H p xs ∧ atI xs i = some v ∧ Q v H
theorem get_list {X : Cx} : PGet X (rGetL X.K) := by
  intro pins s σ H x y v u Q I rx ry h
  obtain ⟨p, xs, i, z, rfl, rfl, h0, hq, he, q⟩ := h
  cases rx
  obtain ⟨t, rfl⟩ := ry
  obtain ⟨its, r, pl, hz⟩ := I.list hq
  obtain ⟨j, h1, h2, h3, h4, h5⟩ := atI_get he
  obtain ⟨w, ew, rw'⟩ := r.get h2
  have hl := r.length
  have hn := line63
  have hj : i.toNat = j := by
    rw [seqIndex_of h0 h5] at h1
    exact Option.some.inj h1
  exact wpAny_getItem_list pl.isList h0 (by omega) (by rw [hj]; simpa using ew) ⟨z, H, I, rw', q⟩
theorem getL {X : Cx} (K : PySem.W.Frag) (h : X.K = K := by rfl) : PGet X (rGetL K) := h ▸ get_list
/-- a situation: a pair of a number and a list of numbers -/
def Sit (K : PySem.W.Frag) (H : Hp) (v : V) (s : Int) (ns : List Int) : Prop := ∃ a ca, v = .ref a ∧ SqT K H a [.int s, .ref ca] ∧ SqL K H ca (ns.map V.int)
theorem Same.sit {K : PySem.W.Frag} {H H' : Hp} (e : Same H H') {v : V} {s : Int} {ns : List Int} (h : Sit K H v s ns) : Sit K H' v s ns := by
  obtain ⟨a, ca, e1, h1, h2⟩ := h
  exact ⟨a, ca, e1, Same.seqT e h1, e.seq h2⟩
def sitD (s : Int) (ns : List Int) : PyData := .tuple [.int s, .list (ns.map PyData.int)]
theorem sit_dp {K : PySem.W.Frag} {H : Hp} {v : V} {s : Int} {ns : List Int} (h : Sit K H v s ns) : Dp K H v (sitD s ns) := by
  obtain ⟨a, ca, rfl, h1, h2⟩ := h
  exact .tup h1 (.cons (.int _) (.cons (.lst h2 (dpa_ints ns)) .nil))
theorem dpa_intsE {K : PySem.W.Frag} {H : Hp} : ∀ {ns : List Int} {vs : List V}, DpAll K H vs (ns.map PyData.int) → vs = ns.map V.int
  | [], _, h => dpa_nil h
  | n :: ns, vs, h => by
    obtain ⟨v, r, rfl, h1, h2⟩ := dpa_cons h
    rw [dp_int h1, dpa_intsE h2]
    rfl
theorem dp_sit {K : PySem.W.Frag} {H : Hp} {v : V} {s : Int} {ns : List Int} (h : Dp K H v (sitD s ns)) : Sit K H v s ns := by
  obtain ⟨a, xs, rfl, h1, h2⟩ := dp_tup h
  obtain ⟨v1, r1, rfl, d1, h2⟩ := dpa_cons h2
  obtain ⟨v2, r2, rfl, d2, h2⟩ := dpa_cons h2
  obtain rfl := dpa_nil h2
  obtain ⟨ca, cxs, rfl, h3, h4⟩ := dp_lst d2
  rw [dp_int d1] at h1
  rw [dpa_intsE h4] at h3
  exact ⟨a, ca, rfl, h1, h3⟩
/-- at least as many everywhere -/
def geAll : List Int → List Int → Bool
  | m :: ms, n :: ns => decide (n ≤ m) && geAll ms ns
  | _, _ => true
theorem geAll_refl : ∀ ms : List Int, geAll ms ms = true
  | [] => rfl
  | m :: ms => by
    show (decide (m ≤ m) && geAll ms ms) = true
    rw [decide_eq_true (Int.le_refl m), geAll_refl ms]
    rfl
theorem geAll_take {ms ns : List Int} {m n : Int} : ∀ {i : Nat}, ms[i]? = some m → ns[i]? = some n → geAll (ms.take (i + 1)) (ns.take (i + 1)) = (geAll (ms.take i) (ns.take i) && decide (n ≤ m)) := by
  induction ms generalizing ns with
  | nil => intro i h; simp at h
  | cons a ms ih =>
    intro i h1 h2
    cases ns with
    | nil => simp at h2
    | cons b ns =>
      cases i with
      | zero =>
        cases h1
        cases h2
        show (decide (n ≤ m) && geAll (ms.take 0) (ns.take 0)) = (true && _)
        rw [List.take_zero, List.take_zero]
        show (decide (n ≤ m) && true) = _
        rw [Bool.and_true, Bool.true_and]
      | succ i =>
        show (decide (b ≤ a) && geAll (ms.take (i + 1)) (ns.take (i + 1))) = ((decide (b ≤ a) && geAll (ms.take i) (ns.take i)) && decide (n ≤ m))
        rw [ih h1 h2, Bool.and_assoc]
theorem geAll_false {ms ns : List Int} : ∀ {i : Nat}, geAll (ms.take i) (ns.take i) = false → geAll ms ns = false := by
  induction ms generalizing ns with
  | nil => intro i h; rw [List.take_nil] at h; cases h
  | cons a ms ih =>
    intro i h
    cases ns with
    | nil => rw [List.take_nil] at h; cases i <;> cases h
    | cons b ns =>
      cases i with
      | zero => cases h
      | succ i =>
        have h' : (decide (b ≤ a) && geAll (ms.take i) (ns.take i)) = false := h
        show (decide (b ≤ a) && geAll ms ns) = false
        cases hb : decide (b ≤ a) with
        | false => rfl
        | true =>
          rw [hb, Bool.true_and] at h'
          rw [ih h']
          rfl
/-- the first covers the second -/
def covB (s : Int) (ms : List Int) (t : Int) (ns : List Int) : Bool := decide (s = t) && geAll ms ns
theorem covB_refl (s : Int) (ms : List Int) : covB s ms s ms = true := by
  unfold covB
  rw [decide_eq_true (show s = s from rfl), geAll_refl]
  rfl
theorem ixN_nat {n j : Nat} (hj : j < n) : ixN n (j : Int) = some j := by
  unfold ixN
  rw [if_pos (by omega), if_pos (by omega)]
  simp
theorem gd {ds : List Int} {i : Nat} (h : i < ds.length) : ds[i]? = some (ds.getD i 0) := by
  rw [List.getD_eq_getElem?_getD, List.getElem?_eq_getElem h]
  rfl
theorem gd_mem {ds : List Int} {i : Nat} (h : i < ds.length) : ds.getD i 0 ∈ ds := List.mem_of_getElem? (gd h)
theorem at_gd {ds : List Int} {i : Int} {j : Nat} (e : i = (j : Int)) (h : j < ds.length) : atI (ds.map V.int) i = some (.int (ds.getD j 0)) := by
  rw [e]
  exact atI_nat (get_map (gd h))
theorem mod_in (z : Int) {m : Int} (h : 0 < m) : 0 ≤ z % m ∧ z % m < m := ⟨Int.emod_nonneg _ (by omega), Int.emod_lt_of_pos _ h⟩
theorem cut_ints {ds : List Int} {a n : Nat} {i j : Int} (h : a + n ≤ ds.length) (hi : i = (a : Int)) (hj : j = ((a + n : Nat) : Int)) : cutV (ds.map V.int) (some i) (some j) = ((ds.drop a).take n).map V.int := by
  subst hi
  subst hj
  unfold cutV
  rw [HT.sIx_nat, HT.sIx_nat, List.length_map, Nat.min_eq_left (show a ≤ ds.length by omega), Nat.min_eq_left h, List.map_take, List.map_drop, Nat.add_sub_cancel_left]
theorem rep_one (n : Nat) (x : V) : (List.replicate n [x]).flatten = List.replicate n x := by
  induction n with
  | zero => rfl
  | succ n ih =>
    show x :: (List.replicate n [x]).flatten = x :: List.replicate n x
    rw [ih]
theorem rep_map (n : Nat) (x : Int) : List.replicate n (V.int x) = (List.replicate n x).map V.int := by rw [List.map_replicate]
theorem int_eqE (a b : Int) : decide (V.int a = V.int b) = decide (a = b) := by
  by_cases h : a = b
  · rw [decide_eq_true h, h, decide_eq_true rfl]
  · rw [decide_eq_false h, decide_eq_false fun z => h (by cases z; rfl)]
/-- the heap without B -/
def Ho (B : Addr) (H : Hp) : Hp := fun x => if x = B then none else H x
theorem ho_out {B : Addr} {H : Hp} : Same (Ho B H) H := fun b x e => by
  unfold Ho at e
  split at e
  · cases e
  · exact e
theorem ho_same {B : Addr} {H H' : Hp} (s : Same H H') : Same (Ho B H) (Ho B H') := fun b x e => by
  unfold Ho at e ⊢
  split at e
  · cases e
  · rename_i h; rw [if_neg h]; exact s _ _ e
theorem ho_mut {B : Addr} {H : Hp} {u : HO} : Same (Ho B H) (Ho B (upd H B u)) := fun b x e => by
  unfold Ho at e ⊢
  split at e
  · cases e
  · rename_i h; rw [if_neg h, upd_ne h]; exact e
theorem ho_first {B : Addr} {H : Hp} {u : HO} (nB : H B = none) : Same H (Ho B (upd H B u)) := fun b x e => by
  have h : b ≠ B := ne_of_none e nB
  show (if b = B then none else upd H B u b) = _
  rw [if_neg h, upd_ne h]
  exact e
theorem dp_newT {K : PySem.W.Frag} {H : Hp} {p : Addr} {xs : List V} {ds : List PyData} (np : H p = none) (h : DpAll K H xs ds) : Dp K (upd H p (.tup xs)) (.ref p) (.tuple ds) := .tup (st upd_same) (dpAll_mono (same_new np) h)
theorem dp_newL {K : PySem.W.Frag} {H : Hp} {p : Addr} {xs : List V} {ds : List PyData} (np : H p = none) (h : DpAll K H xs ds) : Dp K (upd H p (.lst xs)) (.ref p) (.list ds) := .lst (sq upd_same) (dpAll_mono (same_new np) h)
theorem dpo_newT {K : PySem.W.Frag} {H : Hp} {B p : Addr} {o : HO} {xs : List V} {ds : List PyData} (eB : H B = some o) (np : H p = none) (h : DpAll K (Ho B H) xs ds) : Dp K (Ho B (upd H p (.tup xs))) (.ref p) (.tuple ds) := by
  have hne : p ≠ B := fun e => by rw [e, eB] at np; cases np
  refine .tup (st ?_) (dpAll_mono (ho_same (same_new np)) h)
  show (if p = B then none else upd H p (.tup xs) p) = _
  rw [if_neg hne]
  exact upd_same
theorem dpo_newL {K : PySem.W.Frag} {H : Hp} {B p : Addr} {o : HO} {xs : List V} {ds : List PyData} (eB : H B = some o) (np : H p = none) (h : DpAll K (Ho B H) xs ds) : Dp K (Ho B (upd H p (.lst xs))) (.ref p) (.list ds) := by
  have hne : p ≠ B := fun e => by rw [e, eB] at np; cases np
  refine .lst (sq ?_) (dpAll_mono (ho_same (same_new np)) h)
  show (if p = B then none else upd H p (.lst xs) p) = _
  rw [if_neg hne]
  exact upd_same
section
variable {P : Program} {w : World} {K : PySem.W.Frag} {mg : Str → Option Value} {base : Heap}
/-- a comprehension of numbers over a range -/
theorem lc_intR {n : Nat} (hn : n ≤ 90000) {j : Nat} {te : TE} {vs : List Nat} {σ : L2.St} {H1 : Hp} {D : Addr} {Qd : Hp → Prop} (nD : H1 D = none) (f : Nat → Int) (hw : ∀ x, wipe ((wipe σ vs).set j x) vs = wipe σ vs)
    (hs : ∀ i H, i < n → Same H1 H → te ((wipe σ vs).set j (some (.int ((0 : Int) + (i : Int))))) H fun y H4 => y = .int (f i) ∧ Same H H4)
    (mono : ∀ σ H (Q Q' : VK), (∀ v H', Q v H' → Q' v H') → te σ H Q → te σ H Q')
    (hd : ∀ H, Same H1 H → H D = some (.lst (((List.range n).map f).map V.int)) → Qd H) :
    ∃ W : Nat → Nat → Hp → Prop, (∃ m, W 0 m (upd H1 D (.lst []))) ∧ ∀ i m H, W i m H →
      ((Itr 0 n).stop i H ∧ Qd H) ∨ ((Itr 0 n).go i H ∧ ∃ Nx : Hp → Prop, (∀ H', Nx H' → ∃ m', m' < m ∧ W (i + 1) m' H') ∧ ∀ x H', (Itr 0 n).yld i H x H' → gName j x (wipe σ vs) H' fun σ2 H2 => wipe σ2 vs = wipe σ vs ∧ tYes σ2 H2 fun b H3 =>
        if b = true then te σ2 H3 fun y H4 => ∃ acc, H4 D = some (.lst acc) ∧ acc.length < sizeLine ∧ Nx (upd H4 D (.lst (acc ++ [y]))) else Nx H3) := by
  refine lc_range (fun i H' => Same H1 H' ∧ H' D = some (.lst (((List.range i).map f).map V.int))) ⟨same_new nD, upd_same⟩ ?_ fun H h => hd H h.1 h.2
  rintro i H hi ⟨sm, eD⟩
  refine ⟨hw _, ?_⟩
  show te _ H _
  refine mono _ _ _ _ ?_ (hs i H hi sm)
  rintro v H' ⟨rfl, s⟩
  refine ⟨_, s _ _ eD, ?_, Same.mut (sm.trans s) nD, ?_⟩
  · rw [List.length_map, List.length_map, List.length_range]
    exact szl (by omega)
  · rw [upd_same, List.range_succ, List.map_append, List.map_append]
    rfl
abbrev s_law_cell : Stmt := topS 5
theorem sc_law_cell : FnScope ["script", "k"] ["script", "k"] (defScope s_law_cell) := ⟨rfl, rfl, rfl, by decide +kernel, rfl, by decide +kernel, by decide +kernel⟩
-- _law_cell slots: script=0 k=1 globals: len abs int
def spCellP (K : PySem.W.Frag) : Sp := fun vs H Q _ => ∃ (a : Addr) (ns : List Int) (k : Nat), vs = [.ref a, .int (k : Int)] ∧ SqL K H a (ns.map V.int) ∧ ∀ z : Int, 0 ≤ z → Q (.int z) H
theorem fd_law_cell {f : Addr} {fd : FuncData} (F : Fun K "_law_cell" "_law_cell" s_law_cell f fd) (m : mg "_law_cell" = some (.ref f)) (B : Bt mg) : Fd P w K mg base "_law_cell" ["script", "k"] 1 (spCellP K) := by
  refine ⟨f, fd, F.ok sc_law_cell (fun vs H Q E h => ?_) (fun cdv A outer s H vs Q E hr h => ?_), m, F.kp, F.binds (ps := ["script", "k"]) fun _ _ _ _ _ _ us hl => match us, hl with | [_, _], _ => rfl⟩
  · obtain ⟨a, ns, k, rfl, _⟩ := h
    rfl
  obtain ⟨a, ns, k, rfl, hs, q⟩ := h
  refine ⟨_, (pss_cons (ps_if (pt_cmpR op_lt (pv 1) (pe_callB (cLen K) (by rfl) B.len PySem.boot_len (pa_cons (pv 0) pa_nil)) (nomark _))
 (pss_one (ps_ret (pe_callB call_abs (by rfl) B.abs (by decide +kernel) (pa_cons (pe_callTy call_int1 (by rfl) B.int (by decide +kernel) (pa_cons (pe_ix (ixQ K) (pv 0) (pv 1) (fun _ _ => rfl)) pa_nil)) pa_nil))))
 pss_nil)
 (pss_one (ps_ret pe_int))), ?_⟩
  refine ⟨_, rfl, _, rfl, a, _, rfl, .inl hs, _, _, rfl, rfl, _, rfl, ite2 (fun e => ?_) (fun e => ?_)⟩
  · have e1 := of_decide_eq_true e
    rw [List.length_map] at e1
    have e2 : k < ns.length := by omega
    refine ⟨_, rfl, _, rfl, .inl ⟨a, _, _, _, rfl, rfl, hs, atI_nat (get_map (List.getElem?_eq_getElem e2)), .inl ⟨_, rfl, _, rfl, q _ ?_⟩⟩⟩
    split <;> omega
  · exact q _ (by decide)
abbrev s_law_digits : Stmt := topS 6
theorem sc_law_digits : FnScope ["cell", "base", "most", "digits", "large", "k"] ["cell", "base", "most"] (defScope s_law_digits) := ⟨rfl, rfl, rfl, by decide +kernel, rfl, by decide +kernel, by decide +kernel⟩
-- _law_digits slots: cell=0 base=1 most=2 digits=3 large=4 k=5 globals: range int
def spDigits (K : PySem.W.Frag) : Sp := fun vs H Q _ => ∃ (c b : Int) (n : Nat), vs = [.int c, .int b, .int (n : Int)] ∧ 0 ≤ c ∧ 0 < b ∧ b < 1073741824 ∧ n ≤ 10000 ∧
  ∀ H' p (ds : List Int), Same H H' → H p = none → H' p = some (.lst (ds.map V.int)) → ds.length = n → (∀ d ∈ ds, 0 ≤ d ∧ d < b) → Q (.ref p) H'
theorem fd_law_digits {f : Addr} {fd : FuncData} (F : Fun K "_law_digits" "_law_digits" s_law_digits f fd) (m : mg "_law_digits" = some (.ref f)) (B : Bt mg) : Fd P w K mg base "_law_digits" ["cell", "base", "most"] 1 (spDigits K) := by
  refine ⟨f, fd, F.ok sc_law_digits (fun vs H Q E h => ?_) (fun cdv A outer s H vs Q E hr h => ?_), m, F.kp, F.binds (ps := ["cell", "base", "most"]) fun _ _ _ _ _ _ us hl => match us, hl with | [_, _, _], _ => rfl⟩
  · obtain ⟨c, b, n, rfl, _⟩ := h
    rfl
  obtain ⟨c, b, n, rfl, hc, hb, hb2, hn, q⟩ := h
  refine ⟨_, (pss_cons (ps_set (i := 3) sc_law_digits.nd rfl (Or.inl rfl) (pe_lst pa_nil))
 (pss_cons (ps_set (i := 4) sc_law_digits.nd rfl (Or.inl rfl) (pe_cmpR op_ge (pv 0) (pe_op op_pow pe_int pe_int) (nomark _)))
 (pss_cons (ps_for PassesOwn.never rfl (pi_range1 rfl B.range (pa_cons (pv 2) pa_nil)) (pg_name (i := 5) sc_law_digits.nd rfl (Or.inl rfl))
 (pss_one (ps_if (ptTru K (pv 4) (by intro _; rfl))
 (pss_cons (ps_expr (peBm K PySem.F.plainAttrs_list PySem.F.slot_list_append PySem.F.type_list_append mt_append (pv 3) (pa_cons (pe_op op_mod (pe_callTy call_int1 (by rfl) B.int (by decide +kernel) (pa_cons (pv 0) pa_nil)) (pv 1)) pa_nil)))
 (pss_one (ps_set (i := 0) sc_law_digits.nd rfl (Or.inl rfl) (pe_op op_fdiv (pv 0) (pv 1)))))
 (pss_one (ps_expr (peBm K PySem.F.plainAttrs_list PySem.F.slot_list_append PySem.F.type_list_append mt_append (pv 3) (pa_cons (pe_op op_mod (pe_op op_mod (pe_callTy call_int1 (by rfl) B.int (by decide +kernel) (pa_cons (pe_op op_add (pe_op op_add (pe_op op_mul (pv 0) pe_int) (pe_op op_mul (pe_op op_mul (pe_op op_add (pv 5) pe_int) (pe_op op_add (pv 5) pe_int)) pe_int)) (pe_op op_mul (pe_op op_fdiv (pv 0) pe_int) (pv 5))) pa_nil)) pe_int) (pv 1)) pa_nil)))))))
 (pss_one (ps_ret (pv 3)))))), ?_⟩
  refine ⟨sz (by decide), fun o no => ?_⟩
  refine ⟨_, rfl, _, _, rfl, rfl, ⟨by decide, by decide, by decide⟩, _, _, rfl, rfl, ?_⟩
  refine ⟨_, rfl, n, rfl, by omega, by omega, for_range (lo := 0) (n := n) (fun i σ' H' => ∃ (lg : Bool) (c' : Int) (y : Option V) (ds : List Int), σ' = [some (.int c'), some (.int b), some (.int (n : Int)), some (.ref o), some (.bl lg), y] ∧ 0 ≤ c' ∧ Same H H' ∧ H' o = some (.lst (ds.map V.int)) ∧ ds.length = i ∧ ∀ d ∈ ds, 0 ≤ d ∧ d < b) ⟨_, c, none, [], rfl, hc, same_new no, upd_same, rfl, fun d hd => by cases hd⟩ ?_ ?_⟩
  · rintro i σ' H' hi ⟨lg, c', y, ds, rfl, hc', sm, eo, hl, hd⟩
    have dl : (ds.map V.int).length < sizeLine := szl (by rw [List.length_map]; omega)
    have hm : ∀ z : Int, 0 ≤ z % b ∧ z % b < b := fun z => ⟨Int.emod_nonneg _ (by omega), Int.emod_lt_of_pos _ hb⟩
    have fin : ∀ (c2 d : Int), 0 ≤ c2 → (0 ≤ d ∧ d < b) → ∃ (lg' : Bool) (c' : Int) (y : Option V) (ds' : List Int), [some (V.int c2), some (.int b), some (.int (n : Int)), some (.ref o), some (.bl lg), some (.int (0 + (i : Int)))] = [some (.int c'), some (.int b), some (.int (n : Int)), some (.ref o), some (.bl lg'), y] ∧ 0 ≤ c' ∧ Same H (upd H' o (.lst (ds.map V.int ++ [.int d]))) ∧ (upd H' o (.lst (ds.map V.int ++ [.int d]))) o = some (.lst (ds'.map V.int)) ∧ ds'.length = i + 1 ∧ ∀ d ∈ ds', 0 ≤ d ∧ d < b := fun c2 d h1 h2 =>
      ⟨lg, c2, _, ds ++ [d], rfl, h1, Same.mut sm no, by rw [upd_same, List.map_append]; rfl, by rw [List.length_append, hl]; rfl, fun x hx => by
        rcases List.mem_append.mp hx with hx | hx
        · exact hd x hx
        · rw [List.mem_singleton.mp hx]; exact h2⟩
    refine ⟨_, rfl, lg, rfl, ?_⟩
    cases lg with
    | true =>
      refine iteT ?_
      refine ⟨_, rfl, .inl ⟨rfl, _, sq eo⟩, _, rfl, .inl ⟨_, rfl, _, rfl, _, _, rfl, rfl, hb, o, _, _, rfl, rfl, eo, dl, ?_⟩⟩
      refine ⟨_, rfl, _, rfl, _, _, rfl, rfl, ⟨hb, hb2⟩, ?_⟩
      exact fin _ _ (Int.ediv_nonneg hc' (by omega)) (hm _)
    | false =>
      refine iteF ?_
      refine ⟨_, rfl, .inl ⟨rfl, _, sq eo⟩, _, rfl, _, _, rfl, rfl, .inr ⟨by decide, by decide⟩, ?_⟩
      refine ⟨_, rfl, _, _, rfl, rfl, _, rfl, _, _, rfl, rfl, _, _, rfl, rfl, .inl ⟨by omega, by omega⟩, _, _, rfl, rfl, .inr ⟨by decide, by decide⟩, _, _, rfl, rfl, ?_⟩
      refine ⟨_, rfl, _, _, rfl, rfl, ⟨by decide, by decide⟩, _, rfl, _, _, rfl, rfl, .inr ⟨by omega, by omega⟩, _, _, rfl, rfl, ?_⟩
      refine .inl ⟨_, rfl, _, _, rfl, rfl, (by show (0 : Int) < 2147483647; decide), _, rfl, _, _, rfl, rfl, hb, o, _, _, rfl, rfl, eo, dl, ?_⟩
      exact fin _ _ hc' (hm _)
  · rintro σ' H' ⟨lg, c', y, ds, rfl, hc', sm, eo, hl, hd⟩
    exact ⟨_, rfl, q H' o ds sm no eo hl hd⟩
end
/-! ### drawn values and conditions -/
def VOk (ss : List Str) : Nat → VT → Prop
  | _, .int i => -99 ≤ i ∧ i ≤ 99
  | _, .nm s => s ∈ ss
  | d, .op _ a b => ∃ e, d = e + 1 ∧ VOk ss e a ∧ VOk ss e b
def COk (ss : List Str) : Nat → CT → Prop
  | _, .bl _ => True
  | d, .no c => ∃ e, d = e + 1 ∧ COk ss e c
  | d, .an a b => ∃ e, d = e + 1 ∧ COk ss e a ∧ COk ss e b
  | d, .or a b => ∃ e, d = e + 1 ∧ COk ss e a ∧ COk ss e b
  | _, .cp _ a b => VOk ss 1 a ∧ VOk ss 1 b
theorem VOk.ht {ss : List Str} : ∀ {t : VT} {d : Nat}, VOk ss d t → t.ht ≤ d
  | .int _, _, _ => Nat.zero_le _
  | .nm _, _, _ => Nat.zero_le _
  | .op _ a b, d, ⟨e, h, ha, hb⟩ => by
    have h1 := ha.ht
    have h2 := hb.ht
    show max a.ht b.ht + 1 ≤ d
    omega
theorem VOk.wt {ss : List Str} : ∀ {t : VT} {d : Nat}, VOk ss d t → t.wt ≤ 8 * 2 ^ d
  | .int _, d, _ => by
    have := Nat.two_pow_pos d
    show 8 ≤ 8 * 2 ^ d
    omega
  | .nm _, d, _ => by
    have := Nat.two_pow_pos d
    show 8 ≤ 8 * 2 ^ d
    omega
  | .op _ a b, d, ⟨e, h, ha, hb⟩ => by
    have h1 := ha.wt
    have h2 := hb.wt
    show a.wt + b.wt ≤ 8 * 2 ^ d
    rw [h, Nat.pow_succ]
    omega
theorem COk.ht {ss : List Str} : ∀ {t : CT} {d : Nat}, COk ss d t → t.ht ≤ d
  | .bl _, _, _ => Nat.zero_le _
  | .cp _ _ _, _, _ => Nat.zero_le _
  | .no c, d, ⟨e, h, ha⟩ => by
    have h1 := ha.ht
    show c.ht + 1 ≤ d
    omega
  | .an a b, d, ⟨e, h, ha, hb⟩ => by
    have h1 := ha.ht
    have h2 := hb.ht
    show max a.ht b.ht + 1 ≤ d
    omega
  | .or a b, d, ⟨e, h, ha, hb⟩ => by
    have h1 := ha.ht
    have h2 := hb.ht
    show max a.ht b.ht + 1 ≤ d
    omega
/-! ### the tape of draws of stage 4 -/
def Sb (tp : Addr) (H H' : Hp) : Prop := ∀ b u, b ≠ tp → H b = some u → H' b = some u
theorem Sb.refl {tp : Addr} (H : Hp) : Sb tp H H := fun _ _ _ h => h
theorem Sb.trans {tp : Addr} {H H1 H2 : Hp} (a : Sb tp H H1) (b : Sb tp H1 H2) : Sb tp H H2 := fun x u n h => b x u n (a x u n h)
theorem Same.sb {tp : Addr} {H H' : Hp} (s : Same H H') : Sb tp H H' := fun b u _ h => s b u h
theorem Sb.ho {tp : Addr} {H H' : Hp} (s : Sb tp H H') : Same (Ho tp H) (Ho tp H') := fun b u h => by
  by_cases e : b = tp
  · rw [e] at h; unfold Ho at h; rw [if_pos rfl] at h; cases h
  · unfold Ho at h ⊢
    rw [if_neg e] at h ⊢
    exact s b u e h
structure Tp (K : PySem.W.Frag) (H : Hp) (tp pd : Addr) (ds : List Int) (b : Int) : Prop where
  tape : ∃ n : Int, 0 ≤ n ∧ n ≤ b ∧ H tp = some (.lst [.ref pd, .int n])
  dig : SqL K H pd (ds.map V.int)
  ne : pd ≠ tp
  l0 : 0 < ds.length
  l1 : ds.length ≤ 1000
  pos : ∀ d ∈ ds, 0 ≤ d
theorem Tp.dom {K : PySem.W.Frag} {H : Hp} {tp pd : Addr} {ds : List Int} {b : Int} (h : Tp K H tp pd ds b) : ∃ u, H tp = some u := let ⟨_, _, _, e⟩ := h.tape; ⟨_, e⟩
theorem Tp.mono {K : PySem.W.Frag} {H : Hp} {tp pd : Addr} {ds : List Int} {b b' : Int} (h : Tp K H tp pd ds b) (l : b ≤ b') : Tp K H tp pd ds b' := let ⟨n, h0, h1, e⟩ := h.tape; ⟨⟨n, h0, by omega, e⟩, h.dig, h.ne, h.l0, h.l1, h.pos⟩
theorem Sb.seqL {K : PySem.W.Frag} {tp : Addr} {H H' : Hp} (s : Sb tp H H') {b : Addr} {xs : List V} (n : b ≠ tp) (h : SqL K H b xs) : SqL K H' b xs := by
  rcases h with r | r
  · refine .inl ?_
    rcases r with r | ⟨o, r⟩
    · exact .inl (s b _ n r)
    · exact .inr ⟨o, s b _ n r⟩
  · exact .inr r
section
variable {P : Program} {w : World} {K : PySem.W.Frag} {mg : Str → Option Value} {base : Heap}
def spTake (K : PySem.W.Frag) : Sp := fun vs H Q _ => ∃ (tp pd : Addr) (ds : List Int) (c b : Int), vs = [.ref tp, .int c] ∧ Tp K H tp pd ds b ∧ b ≤ 1000000000 ∧ 0 < c ∧ ∀ H' z, Sb tp H H' → Tp K H' tp pd ds (b + 1) → 0 ≤ z → z < c → Q (.int z) H'
abbrev s_law_take : Stmt := topS 7
theorem sc_law_take : FnScope ["tape", "count", "at"] ["tape", "count"] (defScope s_law_take) := ⟨rfl, rfl, rfl, by decide +kernel, rfl, by decide +kernel, by decide +kernel⟩
-- _law_take slots: tape=0 count=1 at=2 globals: len
set_option maxHeartbeats 2000000 in
theorem fd_law_take {f : Addr} {fd : FuncData} (F : Fun K "_law_take" "_law_take" s_law_take f fd) (m : mg "_law_take" = some (.ref f)) (B : Bt mg) : Fd P w K mg base "_law_take" ["tape", "count"] 1 (spTake K) := by
  refine ⟨f, fd, F.ok sc_law_take (fun vs H Q E h => ?_) (fun cdv A outer s H vs Q E hr h => ?_), m, F.kp, F.binds (ps := ["tape", "count"]) fun _ _ _ _ _ _ us hl => match us, hl with | [_, _], _ => rfl⟩
  · obtain ⟨tp, pd, ds, c, b, rfl, _⟩ := h
    rfl
  obtain ⟨tp, pd, ds, c, b, rfl, t, b9, c0, q⟩ := h
  obtain ⟨n, n0, nb, e⟩ := t.tape
  refine ⟨_, (pss_cons (ps_set (i := 2) sc_law_take.nd rfl (Or.inl rfl) (pe_ix (ixQ K) (pv 0) pe_int (fun _ _ => rfl)))
 (pss_cons (ps_asg (pe_op op_add (pv 2) pe_int) (pg_sub (pv 0) pe_int set_list))
 (pss_one (ps_ret (pe_op op_mod (pe_op op_fdiv (pe_ix (ixQ K) (pe_ix (ixQ K) (pv 0) pe_int (fun _ _ => rfl)) (pe_op op_mod (pv 2) (pe_callB (cLen K) (by rfl) B.len PySem.boot_len (pa_cons (pe_ix (ixQ K) (pv 0) pe_int (fun _ _ => rfl)) pa_nil))) (fun _ _ => rfl)) (pe_op op_add pe_int (pe_op op_fdiv (pv 2) (pe_callB (cLen K) (by rfl) B.len PySem.boot_len (pa_cons (pe_ix (ixQ K) (pv 0) pe_int (fun _ _ => rfl)) pa_nil))))) (pv 1)))))), ?_⟩
  refine ⟨_, rfl, .inl ⟨_, _, _, _, rfl, rfl, sq e, atI_nat (j := 1) rfl, ?_⟩⟩
  dsimp only [gName]
  refine ⟨_, rfl, _, _, rfl, rfl, _, rfl, tp, _, _, 1, rfl, rfl, e, rfl, ?_⟩
  have e2 : (upd H tp (.lst [.ref pd, .int (n + 1)])) tp = some (.lst [.ref pd, .int (n + 1)]) := upd_same
  have sb : Sb tp H (upd H tp (.lst [.ref pd, .int (n + 1)])) := fun b u nb h => by rw [upd_ne nb]; exact h
  have sd := sb.seqL t.ne t.dig
  have t2 : Tp K (upd H tp (.lst [.ref pd, .int (n + 1)])) tp pd ds (b + 1) := ⟨⟨n + 1, by omega, by omega, e2⟩, sd, t.ne, t.l0, t.l1, t.pos⟩
  have l0 := t.l0
  have ll : (0 : Int) < ((ds.map V.int).length : Nat) := by rw [List.length_map]; omega
  have mj := mod_in n ll
  obtain ⟨j, ej⟩ : ∃ j : Nat, n % (((ds.map V.int).length : Nat) : Int) = (j : Int) := ⟨_, (Int.toNat_of_nonneg mj.1).symm⟩
  have jl : j < ds.length := by rw [List.length_map] at mj ej; omega
  have d0 : 0 ≤ ds.getD j 0 := t.pos _ (gd_mem jl)
  have dv : 0 ≤ n / (((ds.map V.int).length : Nat) : Int) := Int.ediv_nonneg n0 (by omega)
  have mc := mod_in (ds.getD j 0 / (1 + n / (((ds.map V.int).length : Nat) : Int))) c0
  refine ⟨_, rfl, .inl ⟨_, _, _, _, rfl, rfl, sq e2, atI_nat (j := 0) rfl, ?_⟩⟩
  refine ⟨_, rfl, _, rfl, .inl ⟨_, _, _, _, rfl, rfl, sq e2, atI_nat (j := 0) rfl, ?_⟩⟩
  have dvl : n / (((ds.map V.int).length : Nat) : Int) ≤ n := Int.ediv_le_self _ n0
  refine ⟨pd, _, rfl, .inl sd, _, _, rfl, rfl, ll, .inl ⟨_, _, _, _, rfl, rfl, sd, at_gd ej jl, ?_⟩⟩
  refine ⟨_, rfl, _, rfl, .inl ⟨_, _, _, _, rfl, rfl, sq e2, atI_nat (j := 0) rfl, ?_⟩⟩
  exact ⟨pd, _, rfl, .inl sd, _, _, rfl, rfl, ⟨ll, by rw [List.length_map]; have := t.l1; omega⟩, _, _, rfl, rfl, _, _, rfl, rfl, ⟨by omega, by omega⟩, _, rfl, _, _, rfl, rfl, c0, q _ _ sb t2 mc.1 mc.2⟩
end
theorem Sb.dm {tp : Addr} {H H' : Hp} (s : Sb tp H H') (h : ∃ u, H' tp = some u) : Dm H H' := fun a ha => by
  by_cases e : a = tp
  · obtain ⟨u, hu⟩ := h
    rw [e, hu] at ha
    cases ha
  · cases hz : H a with
    | none => rfl
    | some u => rw [s a u e hz] at ha; cases ha
theorem nw_sb {tp : Addr} {H H1 H2 H3 : Hp} (d : Dm H H1) (s : Sb tp H2 H3) (t : ∃ u, H1 tp = some u) : Same (Nw H1 H2) (Nw H H3) := fun x o h => by
  obtain ⟨h1, h2⟩ := nw_some h
  rw [nw_at (d x h1)]
  exact s x o (fun e => by obtain ⟨u, hu⟩ := t; rw [e, hu] at h1; cases h1) h2
theorem Tp.same {K : PySem.W.Frag} {H H' : Hp} {tp pd : Addr} {ds : List Int} {b : Int} (h : Tp K H tp pd ds b) (s : Same H H') : Tp K H' tp pd ds b := let ⟨n, h0, h1, e⟩ := h.tape; ⟨⟨n, h0, h1, s _ _ e⟩, s.seq h.dig, h.ne, h.l0, h.l1, h.pos⟩
/-! ### values and conditions from the tape -/
def vc : Nat → Int
  | 0 => 2
  | k + 1 => 2 + 2 * vc k
section
variable {P : Program} {w : World} {K : PySem.W.Frag} {mg : Str → Option Value} {base : Heap}
def spLV4 (K : PySem.W.Frag) (n : Nat) : Sp := fun vs H Q _ => ∃ (tp pd : Addr) (ds : List Int) (nl : Addr) (ss : List Str) (k : Nat) (z b : Int), vs = [.ref tp, .ref nl, .int z] ∧ 0 ≤ z ∧ 2 - z ≤ (k : Int) ∧ k < n ∧ k ≤ 2 ∧ Tp K H tp pd ds b ∧ b + vc k ≤ 900000000 ∧ nl ≠ tp ∧ SqL K H nl (ss.map V.str) ∧ ∀ H' v t, Sb tp H H' → Tp K H' tp pd ds (b + vc k) → RVal (Nw H H') t v → VOk ss k t → Q v H'
abbrev s_law_value : Stmt := topS 8
theorem sc_law_value : FnScope ["tape", "names", "depth", "way"] ["tape", "names", "depth"] (defScope s_law_value) := ⟨rfl, rfl, rfl, by decide +kernel, rfl, by decide +kernel, by decide +kernel⟩
-- _law_value slots: tape=0 names=1 depth=2 way=3 globals: _law_take len _law_value
set_option maxHeartbeats 2000000 in
theorem fd_law_value {f : Addr} {fd : FuncData} (F : Fun K "_law_value" "_law_value" s_law_value f fd) (m : mg "_law_value" = some (.ref f)) (B : Bt mg) (D_law_take : Fd P w K mg base "_law_take" ["tape", "count"] 1 (spTake K)) : ∀ n : Nat, Fd P w K mg base "_law_value" ["tape", "names", "depth"] (n + 1) (spLV4 K n)
  | 0 => Fd.none F m (F.binds (ps := ["tape", "names", "depth"]) fun _ _ _ _ _ _ us hl => match us, hl with | [_, _, _], _ => rfl) fun vs H Q E h => by
    obtain ⟨tp, pd, ds, nl, ss, k, z, b, _, h0, h1, h2, _⟩ := h
    omega
  | n + 1 => by
    have D_law_value := fd_law_value F m B D_law_take n
    refine ⟨f, fd, F.ok sc_law_value (fun vs H Q E h => ?_) (fun cdv A outer s H vs Q E hr h => ?_), m, F.kp, F.binds (ps := ["tape", "names", "depth"]) fun _ _ _ _ _ _ us hl => match us, hl with | [_, _, _], _ => rfl⟩
    · obtain ⟨tp, pd, ds, nl, ss, k, z, b, rfl, _⟩ := h
      rfl
    obtain ⟨tp, pd, ds, nl, ss, k, z, b, rfl, z0, z1, kn, k2, t, b9, nt, hn, q⟩ := h
    have vck : 2 ≤ vc k := by
      match k, k2 with
      | 0, _ => decide
      | 1, _ => decide
      | 2, _ => decide
    refine ⟨_, (pss_cons (ps_set (i := 3) sc_law_value.nd rfl (Or.inl rfl) (pe_fn D_law_take (hr.mono (by omega)) rfl (pa_cons (pv 0) (pa_cons pe_int pa_nil))))
 (pss_cons (ps_if (PW.pt (pw_or (pt_cmpR op_eq (pv 3) pe_int (nomark _)) (pw_or1 (pt_cmpR op_eq (pe_callB (cLen K) (by rfl) B.len PySem.boot_len (pa_cons (pv 1) pa_nil)) pe_int (nomark _)))))
 (pss_one (ps_ret (pe_op op_sub (pe_fn D_law_take (hr.mono (by omega)) rfl (pa_cons (pv 0) (pa_cons pe_int pa_nil))) pe_int)))
 pss_nil)
 (pss_cons (ps_if (PW.pt (pw_or (pt_cmpR op_lt (pv 3) pe_int (nomark _)) (pw_or1 (pt_cmpR op_gt (pv 2) pe_int (nomark _)))))
 (pss_one (ps_ret (pe_ix (ixL K) (pv 1) (pe_fn D_law_take (hr.mono (by omega)) rfl (pa_cons (pv 0) (pa_cons (pe_callB (cLen K) (by rfl) B.len PySem.boot_len (pa_cons (pv 1) pa_nil)) pa_nil))) (fun _ _ => rfl))))
 pss_nil)
 (pss_one (ps_ret (pe_tup (pa_cons (pe_ix (ixL K) (pe_lst (pa_cons pe_str (pa_cons pe_str (pa_cons pe_str pa_nil)))) (pe_fn D_law_take (hr.mono (by omega)) rfl (pa_cons (pv 0) (pa_cons pe_int pa_nil))) (fun _ _ => rfl)) (pa_cons (pe_fn D_law_value hr rfl (pa_cons (pv 0) (pa_cons (pv 1) (pa_cons (pe_op op_add (pv 2) pe_int) pa_nil)))) (pa_cons (pe_fn D_law_value hr rfl (pa_cons (pv 0) (pa_cons (pv 1) (pa_cons (pe_op op_add (pv 2) pe_int) pa_nil)))) pa_nil))))))))), ?_⟩
    refine ⟨_, rfl, tp, pd, ds, 5, b, rfl, t, by omega, by decide, fun H1 y s1 t1 y0 y5 => ?_⟩
    dsimp only [gName]
    have hn1 := s1.seqL nt hn
    have vl : ∀ d, VOk ss d (.int d) → True := fun _ _ => trivial
    refine ifR (b := decide (y = 0) || decide (ss.length = 0)) ?_ (fun hb => ?_) (fun hb => ?_)
    · exact ansOr (fun Q q => ⟨_, rfl, rfl, _, rfl, by rw [int_eqE]; exact q⟩) (fun Q q => ⟨_, rfl, nl, _, rfl, .inl hn1, rfl, _, rfl, by rw [int_eqE, List.length_map, show decide (((ss.length : Nat) : Int) = 0) = decide (ss.length = 0) by exact decide_eq_decide.mpr (by omega)]; exact q⟩)
    · refine ⟨_, rfl, tp, pd, ds, 7, b + 1, rfl, t1, by omega, by decide, fun H2 y2 s2 t2 y20 y27 => ?_⟩
      exact ⟨_, _, rfl, rfl, q _ _ (.int (y2 - 2)) (s1.trans s2) (t2.mono (by omega)) rfl (by show -99 ≤ y2 - 2 ∧ y2 - 2 ≤ 99; omega)⟩
    rw [Bool.or_eq_false_iff] at hb
    have hss : ss.length ≠ 0 := of_decide_eq_false hb.2
    refine ifR (b := decide (y < 4) || decide (1 < z)) ?_ (fun hb2 => ?_) (fun hb2 => ?_)
    · exact ansOr (fun Q q => ⟨_, rfl, _, _, rfl, rfl, _, rfl, q⟩) (fun Q q => ⟨_, rfl, _, _, rfl, rfl, _, rfl, q⟩)
    · refine ⟨_, rfl, _, rfl, _, rfl, nl, _, rfl, .inl hn1, tp, pd, ds, _, b + 1, rfl, t1, by omega, by rw [List.length_map]; omega, fun H2 y2 s2 t2 y20 y2l => ?_⟩
      obtain ⟨sv, gs, ms, _⟩ := atI_map (f := V.str) (xs := ss) (i := y2) y20 (by rw [List.length_map] at y2l; exact y2l)
      exact ⟨_, _, _, _, rfl, rfl, s2.seqL nt hn1, gs, q _ _ (.nm sv) (s1.trans s2) (t2.mono (by omega)) rfl ms⟩
    rw [Bool.or_eq_false_iff] at hb2
    have z2 : ¬ 1 < z := of_decide_eq_false hb2.2
    obtain ⟨k, rfl⟩ : ∃ k', k = k' + 1 := ⟨k - 1, by omega⟩
    refine ⟨szc 3, fun q5 m5 => ⟨_, rfl, tp, pd, ds, 3, b + 1, rfl, t1.same (same_new m5), by omega, by decide, fun H2 y2 s2 t2 y20 y23 => ?_⟩⟩
    obtain ⟨o, ho⟩ : ∃ o : Ar, atI [V.str (Str.ofString "+"), V.str (Str.ofString "-"), V.str (Str.ofString "*")] y2 = some (.str o.tx) := by
      have : y2 = 0 ∨ y2 = 1 ∨ y2 = 2 := by omega
      rcases this with rfl | rfl | rfl
      · exact ⟨.add, rfl⟩
      · exact ⟨.sub, rfl⟩
      · exact ⟨.mul, rfl⟩
    have sm := same_new (o := HO.lst [V.str (Str.ofString "+"), V.str (Str.ofString "-"), V.str (Str.ofString "*")]) m5
    have q5t : q5 ≠ tp := fun e => by obtain ⟨u, hu⟩ := t1.dom; rw [← e, m5] at hu; cases hu
    have s02 := (s1.trans (Same.sb sm)).trans s2
    refine ⟨_, _, _, _, rfl, rfl, s2.seqL q5t (sq upd_same), ho, ?_⟩
    have vk : vc (k + 1) = 2 + 2 * vc k := rfl
    have vk0 : 2 ≤ vc k := by
      match k, k2 with
      | 0, _ => decide
      | 1, _ => decide
    refine ⟨_, rfl, _, rfl, _, rfl, _, _, rfl, rfl, tp, pd, ds, nl, ss, k, z + 1, b + 2, rfl, by omega, by omega, by omega, by omega, t2.mono (by omega), by omega, nt, s02.seqL nt hn, fun H3 v1 tv1 s3 t3 r1 o1 => ?_⟩
    have s03 := s02.trans s3
    refine ⟨_, rfl, _, rfl, _, rfl, _, _, rfl, rfl, tp, pd, ds, nl, ss, k, z + 1, b + 2 + vc k, rfl, by omega, by omega, by omega, by omega, t3, by omega, nt, s03.seqL nt hn, fun H4 v2 tv2 s4 t4 r2 o2 => ?_⟩
    have s04 := s03.trans s4
    refine ⟨szc 3, fun pt npt => ?_⟩
    have sp := same_new (o := HO.tup [V.str o.tx, v1, v2]) npt
    have d4 := s04.dm t4.dom
    refine q _ _ (.op o tv1 tv2) (s04.trans (Same.sb sp)) ((t4.same sp).mono (by omega)) ⟨pt, v1, v2, rfl, (nw_at (d4 _ npt)).trans upd_same, RVal.mono (nw_sb (s02.dm t2.dom) (s4.trans (Same.sb sp)) t2.dom) r1, RVal.mono (nw_sb (s03.dm t3.dom) (Same.sb sp) t3.dom) r2⟩ ⟨k, rfl, o1, o2⟩
end
def cc : Nat → Int
  | 0 => 14
  | k + 1 => 2 + 2 * cc k
section
variable {P : Program} {w : World} {K : PySem.W.Frag} {mg : Str → Option Value} {base : Heap}
theorem and_true_l {a b : Bool} (h : (a && b) = true) : a = true := by cases a <;> simp_all
theorem and_true_r {a b : Bool} (h : (a && b) = true) : b = true := by cases b <;> simp_all
def spLC4 (K : PySem.W.Frag) (n : Nat) : Sp := fun vs H Q _ => ∃ (tp pd : Addr) (ds : List Int) (nl : Addr) (ss : List Str) (k : Nat) (z b : Int), vs = [.ref tp, .ref nl, .int z] ∧ 0 ≤ z ∧ 1 - z ≤ (k : Int) ∧ k < n ∧ k ≤ 1 ∧ Tp K H tp pd ds b ∧ b + cc k ≤ 900000000 ∧ nl ≠ tp ∧ SqL K H nl (ss.map V.str) ∧ ∀ H' v t, Sb tp H H' → Tp K H' tp pd ds (b + cc k) → RCond (Nw H H') t v → COk ss k t → Q v H'
abbrev s_law_condition : Stmt := topS 9
theorem sc_law_condition : FnScope ["tape", "names", "depth", "way"] ["tape", "names", "depth"] (defScope s_law_condition) := ⟨rfl, rfl, rfl, by decide +kernel, rfl, by decide +kernel, by decide +kernel⟩
-- _law_condition slots: tape=0 names=1 depth=2 way=3 globals: _law_take _law_condition _law_value
set_option maxHeartbeats 2000000 in
theorem fd_law_condition {f : Addr} {fd : FuncData} (F : Fun K "_law_condition" "_law_condition" s_law_condition f fd) (m : mg "_law_condition" = some (.ref f)) (D_law_take : Fd P w K mg base "_law_take" ["tape", "count"] 1 (spTake K)) (D_law_value : Fd P w K mg base "_law_value" ["tape", "names", "depth"] 4 (spLV4 K 3)) : ∀ n : Nat, Fd P w K mg base "_law_condition" ["tape", "names", "depth"] (n + 4) (spLC4 K n)
  | 0 => Fd.none F m (F.binds (ps := ["tape", "names", "depth"]) fun _ _ _ _ _ _ us hl => match us, hl with | [_, _, _], _ => rfl) fun vs H Q E h => by
    obtain ⟨tp, pd, ds, nl, ss, k, z, b, _, h0, h1, h2, _⟩ := h
    omega
  | n + 1 => by
    have D_law_condition := fd_law_condition F m D_law_take D_law_value n
    refine ⟨f, fd, F.ok sc_law_condition (fun vs H Q E h => ?_) (fun cdv A outer s H vs Q E hr h => ?_), m, F.kp, F.binds (ps := ["tape", "names", "depth"]) fun _ _ _ _ _ _ us hl => match us, hl with | [_, _, _], _ => rfl⟩
    · obtain ⟨tp, pd, ds, nl, ss, k, z, b, rfl, _⟩ := h
      rfl
    obtain ⟨tp, pd, ds, nl, ss, k, z, b, rfl, z0, z1, kn, k2, t, b9, nt, hn, q⟩ := h
    have vck : 14 ≤ cc k := by
      match k, k2 with
      | 0, _ => decide
      | 1, _ => decide
    refine ⟨_, (pss_cons (ps_set (i := 3) sc_law_condition.nd rfl (Or.inl rfl) (pe_fn D_law_take (hr.mono (by omega)) rfl (pa_cons (pv 0) (pa_cons pe_int pa_nil))))
 (pss_cons (ps_if (pt_cmpR op_eq (pv 3) pe_int (nomark _))
 (pss_one (ps_ret (pe_cmpR op_gt (pe_fn D_law_take (hr.mono (by omega)) rfl (pa_cons (pv 0) (pa_cons pe_int pa_nil))) pe_int (nomark _))))
 pss_nil)
 (pss_cons (ps_if (PW.pt (pw_and (pt_cmpR op_eq (pv 3) pe_int (nomark _)) (pw_and1 (pt_cmpR op_eq (pv 2) pe_int (nomark _)))))
 (pss_one (ps_ret (pe_tup (pa_cons pe_str (pa_cons (pe_fn D_law_condition hr rfl (pa_cons (pv 0) (pa_cons (pv 1) (pa_cons pe_int pa_nil)))) pa_nil)))))
 pss_nil)
 (pss_cons (ps_if (PW.pt (pw_and (pt_cmpR op_eq (pv 3) pe_int (nomark _)) (pw_and1 (pt_cmpR op_eq (pv 2) pe_int (nomark _)))))
 (pss_one (ps_ret (pe_tup (pa_cons (pe_ix (ixL K) (pe_lst (pa_cons pe_str (pa_cons pe_str pa_nil))) (pe_fn D_law_take (hr.mono (by omega)) rfl (pa_cons (pv 0) (pa_cons pe_int pa_nil))) (fun _ _ => rfl)) (pa_cons (pe_fn D_law_condition hr rfl (pa_cons (pv 0) (pa_cons (pv 1) (pa_cons pe_int pa_nil)))) (pa_cons (pe_fn D_law_condition hr rfl (pa_cons (pv 0) (pa_cons (pv 1) (pa_cons pe_int pa_nil)))) pa_nil))))))
 pss_nil)
 (pss_one (ps_ret (pe_tup (pa_cons (pe_ix (ixL K) (pe_lst (pa_cons pe_str (pa_cons pe_str (pa_cons pe_str pa_nil)))) (pe_fn D_law_take (hr.mono (by omega)) rfl (pa_cons (pv 0) (pa_cons pe_int pa_nil))) (fun _ _ => rfl)) (pa_cons (pe_fn D_law_value (hr.mono (by omega)) rfl (pa_cons (pv 0) (pa_cons (pv 1) (pa_cons pe_int pa_nil)))) (pa_cons (pe_fn D_law_value (hr.mono (by omega)) rfl (pa_cons (pv 0) (pa_cons (pv 1) (pa_cons pe_int pa_nil)))) pa_nil)))))))))), ?_⟩
    refine ⟨_, rfl, tp, pd, ds, 8, b, rfl, t, by omega, by decide, fun H1 y s1 t1 y0 y8 => ?_⟩
    dsimp only [gName]
    have hn1 := s1.seqL nt hn
    refine ifR (b := decide (y = 0)) (fun Q q => ⟨_, rfl, rfl, _, rfl, by rw [int_eqE]; exact q⟩) (fun _ => ?_) (fun h0 => ?_)
    · refine ⟨_, rfl, tp, pd, ds, 3, b + 1, rfl, t1, by omega, by decide, fun H2 y2 s2 t2 y20 y23 => ?_⟩
      exact ⟨_, _, rfl, rfl, q _ _ (.bl _) (s1.trans s2) (t2.mono (by omega)) rfl trivial⟩
    have y1 : y ≠ 0 := of_decide_eq_false h0
    refine ifR (b := decide (y = 1) && decide (z = 0)) (ansAnd (fun Q q => ⟨_, rfl, rfl, _, rfl, by rw [int_eqE]; exact q⟩) (fun Q q => ⟨_, rfl, rfl, _, rfl, by rw [int_eqE]; exact q⟩)) (fun hb => ?_) (fun h2 => ?_)
    · have hz : z = 0 := of_decide_eq_true (and_true_r hb)
      obtain ⟨k, rfl⟩ : ∃ k', k = k' + 1 := ⟨k - 1, by omega⟩
      have vk : cc (k + 1) = 2 + 2 * cc k := rfl
      have vk0 : 14 ≤ cc k := by
        match k, k2 with
        | 0, _ => decide
      refine ⟨_, rfl, _, rfl, tp, pd, ds, nl, ss, k, 1, b + 1, rfl, by omega, by omega, by omega, by omega, t1, by omega, nt, hn1, fun H2 v1 c1 s2 t2 r1 o1 => ?_⟩
      refine ⟨szc 2, fun pt npt => ?_⟩
      have sp := same_new (o := HO.tup [V.str (Str.ofString "not"), v1]) npt
      have s02 := s1.trans s2
      exact q _ _ (.no c1) (s02.trans (Same.sb sp)) ((t2.same sp).mono (by omega)) ⟨pt, v1, rfl, (nw_at (s02.dm t2.dom _ npt)).trans upd_same, RCond.mono (nw_sb (s1.dm t1.dom) (Same.sb sp) t1.dom) r1⟩ ⟨k, rfl, o1⟩
    refine ifR (b := decide (y = 2) && decide (z = 0)) (ansAnd (fun Q q => ⟨_, rfl, rfl, _, rfl, by rw [int_eqE]; exact q⟩) (fun Q q => ⟨_, rfl, rfl, _, rfl, by rw [int_eqE]; exact q⟩)) (fun hb => ?_) (fun _ => ?_)
    · have hz : z = 0 := of_decide_eq_true (and_true_r hb)
      obtain ⟨k, rfl⟩ : ∃ k', k = k' + 1 := ⟨k - 1, by omega⟩
      have vk : cc (k + 1) = 2 + 2 * cc k := rfl
      have vk0 : 14 ≤ cc k := by
        match k, k2 with
        | 0, _ => decide
      refine ⟨szc 2, fun q5 m5 => ⟨_, rfl, tp, pd, ds, 2, b + 1, rfl, t1.same (same_new m5), by omega, by decide, fun H2 y2 s2 t2 y20 y23 => ?_⟩⟩
      obtain ⟨e, ho⟩ : ∃ e : Bool, atI [V.str (Str.ofString "and"), V.str (Str.ofString "or")] y2 = some (if e then .str (Str.ofString "and") else .str (Str.ofString "or")) := by
        have : y2 = 0 ∨ y2 = 1 := by omega
        rcases this with rfl | rfl
        · exact ⟨true, rfl⟩
        · exact ⟨false, rfl⟩
      have sm := same_new (o := HO.lst [V.str (Str.ofString "and"), V.str (Str.ofString "or")]) m5
      have q5t : q5 ≠ tp := fun e => by obtain ⟨u, hu⟩ := t1.dom; rw [← e, m5] at hu; cases hu
      have s02 := (s1.trans (Same.sb sm)).trans s2
      refine ⟨_, _, _, _, rfl, rfl, s2.seqL q5t (sq upd_same), ho, ?_⟩
      refine ⟨_, rfl, _, rfl, tp, pd, ds, nl, ss, k, 1, b + 2, rfl, by omega, by omega, by omega, by omega, t2.mono (by omega), by omega, nt, s02.seqL nt hn, fun H3 v1 c1 s3 t3 r1 o1 => ?_⟩
      have s03 := s02.trans s3
      refine ⟨_, rfl, _, rfl, tp, pd, ds, nl, ss, k, 1, b + 2 + cc k, rfl, by omega, by omega, by omega, by omega, t3, by omega, nt, s03.seqL nt hn, fun H4 v2 c2 s4 t4 r2 o2 => ?_⟩
      have s04 := s03.trans s4
      refine ⟨szc 3, fun pt npt => ?_⟩
      have sp := same_new (o := HO.tup [(if e then .str (Str.ofString "and") else .str (Str.ofString "or")), v1, v2]) npt
      have d4 := s04.dm t4.dom
      have ra := RCond.mono (nw_sb (s02.dm t2.dom) (s4.trans (Same.sb sp)) t2.dom) r1
      have rb := RCond.mono (nw_sb (s03.dm t3.dom) (Same.sb sp) t3.dom) r2
      have tt := (t4.same sp).mono (show b + 2 + cc k + cc k ≤ b + cc (k + 1) by omega)
      have ss' := s04.trans (Same.sb sp)
      cases e with
      | true => exact q _ _ (.an c1 c2) ss' tt ⟨pt, v1, v2, rfl, (nw_at (d4 _ npt)).trans upd_same, ra, rb⟩ ⟨k, rfl, o1, o2⟩
      | false => exact q _ _ (.or c1 c2) ss' tt ⟨pt, v1, v2, rfl, (nw_at (d4 _ npt)).trans upd_same, ra, rb⟩ ⟨k, rfl, o1, o2⟩
    refine ⟨szc 3, fun q5 m5 => ⟨_, rfl, tp, pd, ds, 3, b + 1, rfl, t1.same (same_new m5), by omega, by decide, fun H2 y2 s2 t2 y20 y23 => ?_⟩⟩
    obtain ⟨o, ho⟩ : ∃ o : Cp, atI [V.str (Str.ofString "="), V.str (Str.ofString "<"), V.str (Str.ofString "<=")] y2 = some (.str o.tx) := by
      have : y2 = 0 ∨ y2 = 1 ∨ y2 = 2 := by omega
      rcases this with rfl | rfl | rfl
      · exact ⟨.eq, rfl⟩
      · exact ⟨.lt, rfl⟩
      · exact ⟨.le, rfl⟩
    have sm := same_new (o := HO.lst [V.str (Str.ofString "="), V.str (Str.ofString "<"), V.str (Str.ofString "<=")]) m5
    have q5t : q5 ≠ tp := fun e => by obtain ⟨u, hu⟩ := t1.dom; rw [← e, m5] at hu; cases hu
    have s02 := (s1.trans (Same.sb sm)).trans s2
    have v6 : vc 1 = 6 := by decide
    refine ⟨_, _, _, _, rfl, rfl, s2.seqL q5t (sq upd_same), ho, ?_⟩
    refine ⟨_, rfl, _, rfl, tp, pd, ds, nl, ss, 1, 1, b + 2, rfl, by omega, by omega, by omega, by omega, t2.mono (by omega), by omega, nt, s02.seqL nt hn, fun H3 v1 c1 s3 t3 r1 o1 => ?_⟩
    have s03 := s02.trans s3
    refine ⟨_, rfl, _, rfl, tp, pd, ds, nl, ss, 1, 1, b + 2 + vc 1, rfl, by omega, by omega, by omega, by omega, t3, by omega, nt, s03.seqL nt hn, fun H4 v2 c2 s4 t4 r2 o2 => ?_⟩
    have s04 := s03.trans s4
    refine ⟨szc 3, fun pt npt => ?_⟩
    have sp := same_new (o := HO.tup [V.str o.tx, v1, v2]) npt
    exact q _ _ (.cp o c1 c2) (s04.trans (Same.sb sp)) ((t4.same sp).mono (by omega)) ⟨pt, v1, v2, rfl, (nw_at (s04.dm t4.dom _ npt)).trans upd_same, RVal.mono (nw_sb (s02.dm t2.dom) (s4.trans (Same.sb sp)) t2.dom) r1, RVal.mono (nw_sb (s03.dm t3.dom) (Same.sb sp) t3.dom) r2⟩ ⟨o1, o2⟩
end
def VT.data : VT → PyData
  | .int i => .int i
  | .nm s => .str s
  | .op o a b => .tuple [.str o.tx, a.data, b.data]
def CT.data : CT → PyData
  | .bl b => .bool b
  | .no c => .tuple [.str (Str.ofString "not"), c.data]
  | .an a b => .tuple [.str (Str.ofString "and"), a.data, b.data]
  | .or a b => .tuple [.str (Str.ofString "or"), a.data, b.data]
  | .cp o a b => .tuple [.str o.tx, a.data, b.data]
theorem RVal.dp {K : PySem.W.Frag} {H : Hp} : ∀ {t : VT} {v : V}, RVal H t v → Dp K H v t.data
  | .int _, _, h => by cases (show _ = _ from h); exact .int _
  | .nm _, _, h => by cases (show _ = _ from h); exact .str _
  | .op _ _ _, _, ⟨t, x, y, e, ht, ha, hb⟩ => by subst e; exact .tup (st ht) (.cons (.str _) (.cons (RVal.dp ha) (.cons (RVal.dp hb) .nil)))
theorem RCond.dp {K : PySem.W.Frag} {H : Hp} : ∀ {t : CT} {v : V}, RCond H t v → Dp K H v t.data
  | .bl _, _, h => by cases (show _ = _ from h); exact .bl _
  | .no _, _, ⟨t, x, e, ht, ha⟩ => by subst e; exact .tup (st ht) (.cons (.str _) (.cons (RCond.dp ha) .nil))
  | .an _ _, _, ⟨t, x, y, e, ht, ha, hb⟩ => by subst e; exact .tup (st ht) (.cons (.str _) (.cons (RCond.dp ha) (.cons (RCond.dp hb) .nil)))
  | .or _ _, _, ⟨t, x, y, e, ht, ha, hb⟩ => by subst e; exact .tup (st ht) (.cons (.str _) (.cons (RCond.dp ha) (.cons (RCond.dp hb) .nil)))
  | .cp _ _ _, _, ⟨t, x, y, e, ht, ha, hb⟩ => by subst e; exact .tup (st ht) (.cons (.str _) (.cons (RVal.dp ha) (.cons (RVal.dp hb) .nil)))
/-! ### statements as trees -/
inductive ST where
  | skip | set (n : Str) (v : VT) | acq (l : Str) | rel (l : Str) | rest (b : Str) | wake (b : Str) | start (k : Str) | chk (c : CT) | awt (c : CT) | mark (m : Str)
  | iff (c : CT) (a b : List ST) | loop (c : CT) (a : List ST) | choose (bs : List (List ST))
mutual
def ST.data : ST → PyData
  | .skip => .tuple [.str (Str.ofString "skip")]
  | .set n v => .tuple [.str (Str.ofString "set"), .str n, v.data]
  | .acq l => .tuple [.str (Str.ofString "acquire"), .str l]
  | .rel l => .tuple [.str (Str.ofString "release"), .str l]
  | .rest b => .tuple [.str (Str.ofString "rest"), .str b]
  | .wake b => .tuple [.str (Str.ofString "wake"), .str b]
  | .start k => .tuple [.str (Str.ofString "start"), .str k]
  | .chk c => .tuple [.str (Str.ofString "check"), c.data]
  | .awt c => .tuple [.str (Str.ofString "await"), c.data]
  | .mark m => .tuple [.str (Str.ofString "mark"), .str m]
  | .iff c a b => .tuple [.str (Str.ofString "if"), c.data, .list (datas a), .list (datas b)]
  | .loop c a => .tuple [.str (Str.ofString "loop"), c.data, .list (datas a)]
  | .choose bs => .tuple [.str (Str.ofString "choose"), .list (datass bs)]
def datas : List ST → List PyData
  | [] => []
  | s :: r => s.data :: datas r
def datass : List (List ST) → List PyData
  | [] => []
  | b :: r => .list (datas b) :: datass r
end
theorem datas_map : ∀ ss : List ST, datas ss = ss.map ST.data
  | [] => rfl
  | s :: r => by
    show s.data :: datas r = s.data :: r.map ST.data
    rw [datas_map r]
theorem datass_map : ∀ bs : List (List ST), datass bs = bs.map fun b => .list (datas b)
  | [] => rfl
  | b :: r => by
    show PyData.list (datas b) :: datass r = _ :: _
    rw [datass_map r]
theorem datas_app (a b : List ST) : datas (a ++ b) = datas a ++ datas b := by rw [datas_map, datas_map, datas_map, List.map_append]
theorem datas_len (a : List ST) : (datas a).length = a.length := by rw [datas_map, List.length_map]
theorem datass_len (a : List (List ST)) : (datass a).length = a.length := by rw [datass_map, List.length_map]
/-- what names there are -/
structure GE where
  vars : List Str
  locks : List Str
  bells : List Str
  titles : List Str
  names : List Str
mutual
/-- a drawn body: locks are taken and given back -/
inductive GB (e : GE) : List Str → Nat → List ST → Prop
  | nil {h d} : GB e h d []
  | cons {h d s r} : GS e h d s → GB e h d r → GB e h d (s :: r)
  | lock {h d l b r} : l ∈ e.locks → l ∉ h → GB e (h ++ [l]) d b → GB e h d r → GB e h d (.acq l :: (b ++ .rel l :: r))
inductive GS (e : GE) : List Str → Nat → ST → Prop
  | skip {h d} : GS e h d .skip
  | set {h d n v} : n ∈ e.vars → VOk e.vars 2 v → GS e h d (.set n v)
  | rest {d b} : b ∈ e.bells → GS e [] d (.rest b)
  | wake {h d b} : b ∈ e.bells → GS e h d (.wake b)
  | start {h d k} : k ∈ e.titles → GS e h d (.start k)
  | chk {h d c} : COk e.vars 2 c → GS e h d (.chk c)
  | awt {h d c} : COk e.vars 2 c → GS e h d (.awt c)
  | mark {h d m} : m ∈ e.names → GS e h d (.mark m)
  | iff {h d c a b} : COk e.vars 2 c → GB e h d a → GB e h d b → a.length ≤ 1000 → b.length ≤ 1000 → GS e h (d + 1) (.iff c a b)
  | loop {h d c a} : COk e.vars 2 c → GB e h d a → a.length ≤ 1000 → GS e h (d + 1) (.loop c a)
  | choose {h d bs} : bs ≠ [] → bs.length ≤ 6 → (∀ b ∈ bs, GB e h d b) → (∀ b ∈ bs, b.length ≤ 1000) → GS e h (d + 1) (.choose bs)
end
theorem gb_app {e : GE} {h : List Str} {d : Nat} : ∀ {a b : List ST}, GB e h d a → GB e h d b → GB e h d (a ++ b)
  | _, _, .nil, hb => hb
  | _, _, .cons s r, hb => .cons s (gb_app r hb)
  | _, _, .lock h1 h2 hbd hr, hb => by
    rw [List.cons_append, List.append_assoc, List.cons_append]
    exact .lock h1 h2 hbd (gb_app hr hb)
/-! ### how large drawn values and conditions are -/
def vl : Nat → Nat
  | 0 => 1
  | k + 1 => 2 + 2 * vl k
def cl4 : Nat → Nat
  | 0 => 10
  | k + 1 => 2 + 2 * cl4 k
theorem vl1 : ∀ k, 1 ≤ vl k
  | 0 => Nat.le_refl _
  | k + 1 => by show 1 ≤ 2 + 2 * vl k; omega
theorem cl10 : ∀ k, 10 ≤ cl4 k
  | 0 => Nat.le_refl _
  | k + 1 => by have := cl10 k; show 10 ≤ 2 + 2 * cl4 k; omega
theorem ar_nice (o : Ar) : nice (.str o.tx) = true := by cases o <;> decide +kernel
theorem cp_nice (o : Cp) : nice (.str o.tx) = true := by cases o <;> decide +kernel
theorem vok_nc {ss : List Str} (hs : ∀ s ∈ ss, nice (.str s) = true) : ∀ {t : VT} {k : Nat}, VOk ss k t → NcD t.data (vl k) k
  | .int i, k, h => by
    have h : -99 ≤ i ∧ i ≤ 99 := by cases k <;> exact h
    exact (NcD.int (by omega)).mono (vl1 k) (Nat.le_refl _)
  | .nm s, k, h => by
    have h : s ∈ ss := by cases k <;> exact h
    exact (NcD.str (hs s h)).mono (vl1 k) (Nat.le_refl _)
  | .op o a b, k, ⟨e, h, ha, hb⟩ => by
    subst h
    exact (NcL.tup (.cons (NcD.str (ar_nice o)) (.cons (vok_nc hs ha) (.cons (vok_nc hs hb) (.nil (c := 0)))))).mono (by show _ ≤ 2 + 2 * vl e; omega) (Nat.le_refl _)
theorem cok_nc {ss : List Str} (hs : ∀ s ∈ ss, nice (.str s) = true) : ∀ {t : CT} {k : Nat}, COk ss k t → NcD t.data (cl4 k) (k + 2)
  | .bl b, k, _ => ⟨rfl, by have := cl10 k; show 1 ≤ _; omega, Nat.zero_le _⟩
  | .no c, k, ⟨e, h, hc⟩ => by
    subst h
    exact (NcL.tup (.cons (NcD.str (by decide +kernel)) (.cons (cok_nc hs hc) (.nil (c := 0))))).mono (by have := cl10 e; show _ ≤ 2 + 2 * cl4 e; omega) (by omega)
  | .an a b, k, ⟨e, h, ha, hb⟩ => by
    subst h
    exact (NcL.tup (.cons (NcD.str (by decide +kernel)) (.cons (cok_nc hs ha) (.cons (cok_nc hs hb) (.nil (c := 0)))))).mono (by show _ ≤ 2 + 2 * cl4 e; omega) (by omega)
  | .or a b, k, ⟨e, h, ha, hb⟩ => by
    subst h
    exact (NcL.tup (.cons (NcD.str (by decide +kernel)) (.cons (cok_nc hs ha) (.cons (cok_nc hs hb) (.nil (c := 0)))))).mono (by show _ ≤ 2 + 2 * cl4 e; omega) (by omega)
  | .cp o a b, k, h => by
    have h : VOk ss 1 a ∧ VOk ss 1 b := by cases k <;> exact h
    exact (NcL.tup (m := 1) (.cons (NcD.str (cp_nice o)) (.cons (vok_nc hs h.1) (.cons (vok_nc hs h.2) (.nil (c := 0)))))).mono (by have := cl10 k; have : vl 1 = 4 := rfl; omega) (by omega)
/-! ### the names that a body may speak of -/
structure Nms where
  vars : List Str
  bells : List Str
  called : List Str
  marks : List Str
  free : Bool
structure Nms.Ok (e : Nms) : Prop where
  v : ∀ s ∈ e.vars, nice (.str s) = true
  b : ∀ s ∈ e.bells, nice (.str s) = true
  c : ∀ s ∈ e.called, nice (.str s) = true
  m : ∀ s ∈ e.marks, nice (.str s) = true
  c0 : 0 < e.called.length
  m0 : 0 < e.marks.length
def Thg (K : PySem.W.Frag) (H : Hp) (tp th : Addr) (e : Nms) : Prop := ∃ a0 a1 a2 a3 a5 : Addr, (SqL K H th [.ref a0, .ref a1, .ref a2, .ref a3, .bl e.free, .ref a5] ∧ th ≠ tp) ∧ (SqL K H a0 (e.vars.map V.str) ∧ a0 ≠ tp) ∧ (SqL K H a1 (e.vars.map V.str) ∧ a1 ≠ tp) ∧ (SqL K H a2 (e.bells.map V.str) ∧ a2 ≠ tp) ∧ (SqL K H a3 (e.called.map V.str) ∧ a3 ≠ tp) ∧ (SqL K H a5 (e.marks.map V.str) ∧ a5 ≠ tp)
theorem Thg.sb {K : PySem.W.Frag} {H H' : Hp} {tp th : Addr} {e : Nms} (h : Thg K H tp th e) (s : Sb tp H H') : Thg K H' tp th e := by
  obtain ⟨a0, a1, a2, a3, a5, ⟨t, tn⟩, ⟨h0, n0⟩, ⟨h1, n1⟩, ⟨h2, n2⟩, ⟨h3, n3⟩, ⟨h5, n5⟩⟩ := h
  exact ⟨a0, a1, a2, a3, a5, ⟨s.seqL tn t, tn⟩, ⟨s.seqL n0 h0, n0⟩, ⟨s.seqL n1 h1, n1⟩, ⟨s.seqL n2 h2, n2⟩, ⟨s.seqL n3 h3, n3⟩, ⟨s.seqL n5 h5, n5⟩⟩
def ST.isRel : ST → Bool
  | .rel _ => true
  | _ => false
section
variable {P : Program} {w : World} {K : PySem.W.Frag} {mg : Str → Option Value} {base : Heap}
def spLSm (K : PySem.W.Frag) : Sp := fun vs H Q _ => ∃ (tp pd : Addr) (ds : List Int) (th : Addr) (e : Nms) (b : Int), vs = [.ref tp, .ref th] ∧ Tp K H tp pd ds b ∧ b + 33 ≤ 900000000 ∧ Thg K H tp th e ∧ e.Ok ∧ ∀ H' v (s : ST), Sb tp H H' → Tp K H' tp pd ds (b + 33) → Dp K (Nw H H') v s.data → NcD s.data 24 4 → s.isRel = false → Q v H'
theorem at_names {ss : List Str} {y : Int} (y0 : 0 ≤ y) (yl : y < ((ss.map V.str).length : Nat)) : ∃ s, atI (ss.map V.str) y = some (.str s) ∧ s ∈ ss := by
  obtain ⟨sv, gs, ms, _⟩ := atI_map (f := V.str) (xs := ss) (i := y) y0 (by rw [List.length_map] at yl; exact yl)
  exact ⟨sv, gs, ms⟩
abbrev s_law_simple : Stmt := topS 10
theorem sc_law_simple : FnScope ["tape", "things", "way"] ["tape", "things"] (defScope s_law_simple) := ⟨rfl, rfl, rfl, by decide +kernel, rfl, by decide +kernel, by decide +kernel⟩
-- _law_simple slots: tape=0 things=1 way=2 globals: _law_take len _law_value _law_condition
set_option maxHeartbeats 4000000 in
theorem fd_law_simple {f : Addr} {fd : FuncData} (F : Fun K "_law_simple" "_law_simple" s_law_simple f fd) (m : mg "_law_simple" = some (.ref f)) (B : Bt mg) (D_law_take : Fd P w K mg base "_law_take" ["tape", "count"] 1 (spTake K)) (D_law_value : Fd P w K mg base "_law_value" ["tape", "names", "depth"] 4 (spLV4 K 3)) (D_law_condition : Fd P w K mg base "_law_condition" ["tape", "names", "depth"] 6 (spLC4 K 2)) : Fd P w K mg base "_law_simple" ["tape", "things"] 7 (spLSm K) := by
  refine ⟨f, fd, F.ok sc_law_simple (fun vs H Q E h => ?_) (fun cdv A outer s H vs Q E hr h => ?_), m, F.kp, F.binds (ps := ["tape", "things"]) fun _ _ _ _ _ _ us hl => match us, hl with | [_, _], _ => rfl⟩
  · obtain ⟨tp, pd, ds, th, e, b, rfl, _⟩ := h
    rfl
  obtain ⟨tp, pd, ds, th, e, b, rfl, t, b9, hth, ok, q⟩ := h
  have c30 : cc 1 = 30 := by decide
  have v14 : vc 2 = 14 := by decide
  refine ⟨_, (pss_cons (ps_set (i := 2) sc_law_simple.nd rfl (Or.inl rfl) (pe_fn D_law_take (hr.mono (by decide)) rfl (pa_cons (pv 0) (pa_cons pe_int pa_nil))))
 (pss_cons (ps_if (pt_cmpR op_eq (pv 2) pe_int (nomark _))
 (pss_one (ps_ret (pe_tup (pa_cons pe_str pa_nil))))
 pss_nil)
 (pss_cons (ps_if (PW.pt (pw_and (pt_cmpR op_lt (pv 2) pe_int (nomark _)) (pw_and1 (pt_cmpR op_gt (pe_callB (cLen K) (by rfl) B.len PySem.boot_len (pa_cons (pe_ix (ixL K) (pv 1) pe_int (fun _ _ => rfl)) pa_nil)) pe_int (nomark _)))))
 (pss_one (ps_ret (pe_tup (pa_cons pe_str (pa_cons (pe_ix (ixL K) (pe_ix (ixL K) (pv 1) pe_int (fun _ _ => rfl)) (pe_fn D_law_take (hr.mono (by decide)) rfl (pa_cons (pv 0) (pa_cons (pe_callB (cLen K) (by rfl) B.len PySem.boot_len (pa_cons (pe_ix (ixL K) (pv 1) pe_int (fun _ _ => rfl)) pa_nil)) pa_nil))) (fun _ _ => rfl)) (pa_cons (pe_fn D_law_value (hr.mono (by decide)) rfl (pa_cons (pv 0) (pa_cons (pe_ix (ixL K) (pv 1) pe_int (fun _ _ => rfl)) (pa_cons pe_int pa_nil)))) pa_nil))))))
 pss_nil)
 (pss_cons (ps_if (pt_cmpR op_eq (pv 2) pe_int (nomark _))
 (pss_one (ps_ret (pe_tup (pa_cons pe_str (pa_cons (pe_fn D_law_condition (hr.mono (by decide)) rfl (pa_cons (pv 0) (pa_cons (pe_ix (ixL K) (pv 1) pe_int (fun _ _ => rfl)) (pa_cons pe_int pa_nil)))) pa_nil)))))
 pss_nil)
 (pss_cons (ps_if (pt_cmpR op_eq (pv 2) pe_int (nomark _))
 (pss_one (ps_ret (pe_tup (pa_cons pe_str (pa_cons (pe_fn D_law_condition (hr.mono (by decide)) rfl (pa_cons (pv 0) (pa_cons (pe_ix (ixL K) (pv 1) pe_int (fun _ _ => rfl)) (pa_cons pe_int pa_nil)))) pa_nil)))))
 pss_nil)
 (pss_cons (ps_if (PW.pt (pw_and (pt_cmpR op_eq (pv 2) pe_int (nomark _)) (pw_and1 (pt_cmpR op_gt (pe_callB (cLen K) (by rfl) B.len PySem.boot_len (pa_cons (pe_ix (ixL K) (pv 1) pe_int (fun _ _ => rfl)) pa_nil)) pe_int (nomark _)))))
 (pss_one (ps_ret (pe_tup (pa_cons pe_str (pa_cons (pe_ix (ixL K) (pe_ix (ixL K) (pv 1) pe_int (fun _ _ => rfl)) (pe_fn D_law_take (hr.mono (by decide)) rfl (pa_cons (pv 0) (pa_cons (pe_callB (cLen K) (by rfl) B.len PySem.boot_len (pa_cons (pe_ix (ixL K) (pv 1) pe_int (fun _ _ => rfl)) pa_nil)) pa_nil))) (fun _ _ => rfl)) pa_nil)))))
 pss_nil)
 (C8.pss_cut (ps_if (PW.pt (pw_and (pt_cmpR op_eq (pv 2) pe_int (nomark _)) (pw_and1 (pt_cmpR op_eq (pe_fn D_law_take (hr.mono (by decide)) rfl (pa_cons (pv 0) (pa_cons pe_int pa_nil))) pe_int (nomark _)))))
 (pss_one (ps_ret (pe_tup (pa_cons pe_str (pa_cons (pe_ix (ixL K) (pe_ix (ixL K) (pv 1) pe_int (fun _ _ => rfl)) (pe_fn D_law_take (hr.mono (by decide)) rfl (pa_cons (pv 0) (pa_cons (pe_callB (cLen K) (by rfl) B.len PySem.boot_len (pa_cons (pe_ix (ixL K) (pv 1) pe_int (fun _ _ => rfl)) pa_nil)) pa_nil))) (fun _ _ => rfl)) pa_nil)))))
 pss_nil)
 (pss_one (ps_ret (pe_tup (pa_cons pe_str (pa_cons (pe_ix (ixL K) (pe_ix (ixL K) (pv 1) pe_int (fun _ _ => rfl)) (pe_fn D_law_take (hr.mono (by decide)) rfl (pa_cons (pv 0) (pa_cons (pe_callB (cLen K) (by rfl) B.len PySem.boot_len (pa_cons (pe_ix (ixL K) (pv 1) pe_int (fun _ _ => rfl)) pa_nil)) pa_nil))) (fun _ _ => rfl)) pa_nil)))))))))))), ?_⟩
  refine ⟨_, rfl, tp, pd, ds, 9, b, rfl, t, by omega, by decide, fun H1 y s1 t1 y0 y9 => ?_⟩
  dsimp only [gName]
  obtain ⟨a0, a1, a2, a3, a5, ⟨g, gn⟩, ⟨g0, n0⟩, ⟨g1, n1⟩, ⟨g2, n2⟩, ⟨g3, n3⟩, ⟨g5, n5⟩⟩ := hth.sb s1
  refine ifR (b := decide (y = 0)) (fun Q q => ⟨_, rfl, rfl, _, rfl, by rw [int_eqE]; exact q⟩) (fun _ => ?_) (fun h0 => ?_)
  · refine ⟨szc 1, fun pt npt => ?_⟩
    have sp := same_new (o := HO.tup [V.str (Str.ofString "skip")]) npt
    exact q _ _ .skip (s1.trans (Same.sb sp)) ((t1.same sp).mono (by omega)) (.tup (st ((nw_at (s1.dm t1.dom _ npt)).trans upd_same)) (.cons (.str _) .nil)) ((NcL.tup (m := 0) (.cons (NcD.str (by decide +kernel)) (.nil (c := 0)))).mono (by omega) (by omega)) rfl
  refine ifR (b := decide (y < 4) && decide (0 < ((e.vars.map V.str).length : Int))) (ansAnd (fun Q q => ⟨_, rfl, _, _, rfl, rfl, _, rfl, q⟩) (fun Q q => ⟨_, rfl, _, _, _, _, rfl, rfl, g, atI_nat (j := 1) rfl, a1, _, rfl, .inl g1, _, _, rfl, rfl, _, rfl, q⟩)) (fun hb => ?_) (fun _ => ?_)
  · have hl : (0 : Int) < ((e.vars.map V.str).length : Int) := of_decide_eq_true (by cases h : decide (0 < ((e.vars.map V.str).length : Int)) with | true => rfl | false => rw [h, Bool.and_false] at hb; cases hb)
    refine ⟨_, rfl, _, _, _, _, rfl, rfl, g, atI_nat (j := 1) rfl, _, rfl, _, rfl, _, _, _, _, rfl, rfl, g, atI_nat (j := 1) rfl, a1, _, rfl, .inl g1, tp, pd, ds, _, b + 1, rfl, t1, by omega, hl, fun H2 y2 s2 t2 y20 y2l => ?_⟩
    obtain ⟨sv, gs, ms⟩ := at_names y20 y2l
    refine ⟨_, _, _, _, rfl, rfl, s2.seqL n1 g1, gs, ?_⟩
    refine ⟨_, rfl, _, rfl, _, _, _, _, rfl, rfl, s2.seqL gn g, atI_nat (j := 0) rfl, tp, pd, ds, a0, e.vars, 2, 0, b + 2, rfl, by omega, by omega, by omega, by omega, t2.mono (by omega), by omega, n0, s2.seqL n0 g0, fun H3 v tv s3 t3 r1 o1 => ?_⟩
    refine ⟨szc 3, fun pt npt => ?_⟩
    have sp := same_new (o := HO.tup [V.str (Str.ofString "set"), .str sv, v]) npt
    have s02 := s1.trans s2
    have s03 := s02.trans s3
    exact q _ _ (.set sv tv) (s03.trans (Same.sb sp)) ((t3.same sp).mono (by omega)) (.tup (st ((nw_at (s03.dm t3.dom _ npt)).trans upd_same)) (.cons (.str _) (.cons (.str _) (.cons (dp_mono (nw_sb (s02.dm t2.dom) (Same.sb sp) t2.dom) r1.dp) .nil)))) ((NcL.tup (m := 3) (.cons (NcD.str (by decide +kernel)) (.cons (NcD.str (ok.v sv ms)) (.cons ((vok_nc ok.v o1).mono (Nat.le_refl _) (by omega)) (.nil (c := 0)))))).mono (by have : vl 2 = 10 := rfl; omega) (by omega)) rfl
  have cond : ∀ (k : Str) (mk : CT → ST), nice (.str k) = true → (∀ c, (mk c).data = .tuple [.str k, c.data]) → (∀ c, (mk c).isRel = false) → ∀ H2 v c, Sb tp H1 H2 → Tp K H2 tp pd ds (b + 1 + cc 1) → RCond (Nw H1 H2) c v → COk e.vars 1 c → ∀ pt, H2 pt = none → Q (.ref pt) (upd H2 pt (.tup [.str k, v])) := fun k mk hk hd hr H2 v c s2 t2 r1 o1 pt npt => by
    have sp := same_new (o := HO.tup [V.str k, v]) npt
    have s02 := s1.trans s2
    refine q _ _ (mk c) (s02.trans (Same.sb sp)) ((t2.same sp).mono (by omega)) ?_ ?_ (hr c)
    · rw [hd]
      exact .tup (st ((nw_at (s02.dm t2.dom _ npt)).trans upd_same)) (.cons (.str _) (.cons (dp_mono (nw_sb (s1.dm t1.dom) (Same.sb sp) t1.dom) r1.dp) .nil))
    · rw [hd]
      exact (NcL.tup (m := 3) (.cons (NcD.str hk) (.cons (cok_nc ok.v o1) (.nil (c := 0))))).mono (by have : cl4 1 = 22 := rfl; omega) (by omega)
  refine ifR (b := decide (y = 4)) (fun Q q => ⟨_, rfl, rfl, _, rfl, by rw [int_eqE]; exact q⟩) (fun _ => ?_) (fun _ => ?_)
  · refine ⟨_, rfl, _, rfl, _, _, _, _, rfl, rfl, g, atI_nat (j := 0) rfl, tp, pd, ds, a0, e.vars, 1, 0, b + 1, rfl, by omega, by omega, by omega, by omega, t1, by omega, n0, g0, fun H2 v c s2 t2 r1 o1 => ?_⟩
    exact ⟨szc 2, fun pt npt => cond _ .chk (by decide +kernel) (fun _ => rfl) (fun _ => rfl) H2 v c s2 t2 r1 o1 pt npt⟩
  refine ifR (b := decide (y = 5)) (fun Q q => ⟨_, rfl, rfl, _, rfl, by rw [int_eqE]; exact q⟩) (fun _ => ?_) (fun _ => ?_)
  · refine ⟨_, rfl, _, rfl, _, _, _, _, rfl, rfl, g, atI_nat (j := 0) rfl, tp, pd, ds, a0, e.vars, 1, 0, b + 1, rfl, by omega, by omega, by omega, by omega, t1, by omega, n0, g0, fun H2 v c s2 t2 r1 o1 => ?_⟩
    exact ⟨szc 2, fun pt npt => cond _ .awt (by decide +kernel) (fun _ => rfl) (fun _ => rfl) H2 v c s2 t2 r1 o1 pt npt⟩
  have name : ∀ (k : Str) (mk : Str → ST), nice (.str k) = true → (∀ c, (mk c).data = .tuple [.str k, .str c]) → (∀ c, (mk c).isRel = false) → ∀ H2 c, nice (.str c) = true → Sb tp H1 H2 → Tp K H2 tp pd ds (b + 3) → ∀ pt, H2 pt = none → Q (.ref pt) (upd H2 pt (.tup [.str k, .str c])) := fun k mk hk hd hr H2 c hc s2 t2 pt npt => by
    have sp := same_new (o := HO.tup [V.str k, .str c]) npt
    have s02 := s1.trans s2
    refine q _ _ (mk c) (s02.trans (Same.sb sp)) ((t2.same sp).mono (by omega)) ?_ ?_ (hr c)
    · rw [hd]
      exact .tup (st ((nw_at (s02.dm t2.dom _ npt)).trans upd_same)) (.cons (.str _) (.cons (.str _) .nil))
    · rw [hd]
      exact (NcL.tup (m := 3) (.cons (NcD.str hk) (.cons (NcD.str hc) (.nil (c := 0))))).mono (by omega) (by omega)
  refine ifR (b := decide (y = 6) && decide (0 < ((e.bells.map V.str).length : Int))) (ansAnd (fun Q q => ⟨_, rfl, rfl, _, rfl, by rw [int_eqE]; exact q⟩) (fun Q q => ⟨_, rfl, _, _, _, _, rfl, rfl, g, atI_nat (j := 2) rfl, a2, _, rfl, .inl g2, _, _, rfl, rfl, _, rfl, q⟩)) (fun hb => ?_) (fun _ => ?_)
  · have hl : (0 : Int) < ((e.bells.map V.str).length : Int) := of_decide_eq_true (by cases h : decide (0 < ((e.bells.map V.str).length : Int)) with | true => rfl | false => rw [h, Bool.and_false] at hb; cases hb)
    refine ⟨_, rfl, _, _, _, _, rfl, rfl, g, atI_nat (j := 2) rfl, _, rfl, _, rfl, _, _, _, _, rfl, rfl, g, atI_nat (j := 2) rfl, a2, _, rfl, .inl g2, tp, pd, ds, _, b + 1, rfl, t1, by omega, hl, fun H2 y2 s2 t2 y20 y2l => ?_⟩
    obtain ⟨sv, gs, ms⟩ := at_names y20 y2l
    exact ⟨_, _, _, _, rfl, rfl, s2.seqL n2 g2, gs, szc 2, fun pt npt => name _ .wake (by decide +kernel) (fun _ => rfl) (fun _ => rfl) H2 sv (ok.b sv ms) s2 (t2.mono (by omega)) pt npt⟩
  have hc0 : (0 : Int) < ((e.called.map V.str).length : Int) := by have := ok.c0; rw [List.length_map]; omega
  have hm0 : (0 : Int) < ((e.marks.map V.str).length : Int) := by have := ok.m0; rw [List.length_map]; omega
  refine ⟨fun σ' H2 => σ' = [some (.ref tp), some (.ref th), some (.int y)] ∧ Sb tp H1 H2 ∧ Tp K H2 tp pd ds (b + 2), ?_, ?_⟩
  · refine ⟨_, rfl, rfl, _, rfl, ?_⟩
    rw [int_eqE]
    refine ite2 (fun _ => ?_) (fun _ => ⟨rfl, Sb.refl _, t1.mono (by omega)⟩)
    refine ⟨_, rfl, tp, pd, ds, 3, b + 1, rfl, t1, by omega, by decide, fun H2 y2 s2 t2 y20 y2l => ⟨rfl, _, rfl, ?_⟩⟩
    rw [int_eqE]
    refine ite2 (fun _ => ?_) (fun _ => ⟨rfl, s2, t2.mono (by omega)⟩)
    have t2 := t2.mono (show b + 1 + 1 ≤ b + 2 by omega)
    refine ⟨_, rfl, _, _, _, _, rfl, rfl, s2.seqL gn g, atI_nat (j := 3) rfl, _, rfl, _, rfl, _, _, _, _, rfl, rfl, s2.seqL gn g, atI_nat (j := 3) rfl, a3, _, rfl, .inl (s2.seqL n3 g3), tp, pd, ds, _, b + 2, rfl, t2, by omega, hc0, fun H3 y3 s3 t3 y30 y3l => ?_⟩
    obtain ⟨sv, gs, ms⟩ := at_names y30 y3l
    exact ⟨_, _, _, _, rfl, rfl, (s2.trans s3).seqL n3 g3, gs, szc 2, fun pt npt => name _ .start (by decide +kernel) (fun _ => rfl) (fun _ => rfl) H3 sv (ok.c sv ms) (s2.trans s3) (t3.mono (by omega)) pt npt⟩
  rintro σ' H2 ⟨rfl, s2, t2⟩
  refine ⟨_, rfl, _, _, _, _, rfl, rfl, s2.seqL gn g, atI_nat (j := 5) rfl, _, rfl, _, rfl, _, _, _, _, rfl, rfl, s2.seqL gn g, atI_nat (j := 5) rfl, a5, _, rfl, .inl (s2.seqL n5 g5), tp, pd, ds, _, b + 2, rfl, t2, by omega, hm0, fun H3 y3 s3 t3 y30 y3l => ?_⟩
  obtain ⟨sv, gs, ms⟩ := at_names y30 y3l
  exact ⟨_, _, _, _, rfl, rfl, (s2.trans s3).seqL n5 g5, gs, szc 2, fun pt npt => name _ .mark (by decide +kernel) (fun _ => rfl) (fun _ => rfl) H3 sv (ok.m sv ms) (s2.trans s3) (t3.mono (by omega)) pt npt⟩
end
/-! ### machines -/
abbrev nV (n : Nat) : V := .int (n : Int)
abbrev nD (n : Nat) : PyData := .int (n : Int)
structure MvT where
  st : Nat
  pl : Nat
  ns : Nat
  np : Nat
  sd : Option Nat
  sh : List (Nat × Nat)
def sdV : Option Nat → V
  | none => .non
  | some d => nV d
def sdD : Option Nat → PyData
  | none => .none
  | some d => nD d
def shD (p : Nat × Nat) : PyData := .tuple [nD p.1, nD p.2]
def MvT.data (m : MvT) : PyData := .tuple [nD m.st, nD m.pl, nD m.ns, nD m.np, sdD m.sd, .list (m.sh.map shD)]
structure MT where
  states : Nat
  places : Nat
  sst : Nat
  cnts : List Int
  crew : Nat
  moves : List MvT
def MT.data (M : MT) : PyData := .tuple [nD M.states, nD M.places, sitD M.sst M.cnts, nD M.crew, .list (M.moves.map MvT.data)]
structure ShOk (sh : List (Nat × Nat)) (P : Nat) : Prop where
  asc : (sh.map (·.1)).Pairwise (· < ·)
  fst : ∀ p ∈ sh, p.1 < P
  snd : ∀ p ∈ sh, p.2 < P
  sep : ∀ p ∈ sh, ∀ q ∈ sh, p.2 ≠ q.1
structure MvT.Fit (m : MvT) (S P : Nat) : Prop where
  st : m.st < S
  pl : m.pl < P
  ns : m.ns < S
  np : m.np < P
  sd : ∀ d, m.sd = some d → d < P
  sh : ShOk m.sh P
structure MT.Ok (M : MT) : Prop where
  s1 : 1 ≤ M.states
  s2 : M.states ≤ 4
  p1 : 1 ≤ M.places
  p2 : M.places ≤ 6
  ss : M.sst < M.states
  cl : M.cnts.length = M.places
  cb : ∀ c ∈ M.cnts, 0 ≤ c ∧ c < 3
  cr : M.crew < M.places
  ml : M.moves.length ≤ 12
  fit : ∀ m ∈ M.moves, m.Fit M.states M.places
  nd : M.moves.Nodup
def shiftAll (sh : List (Nat × Nat)) (cs : List Int) : List Int := sh.foldl (fun cs p => (cs.set p.2 (cs.getD p.2 0 + cs.getD p.1 0)).set p.1 0) cs
def bump (cs : List Int) (k : Nat) (z : Int) : List Int := cs.set k (cs.getD k 0 + z)
def MvT.mid (m : MvT) (cs : List Int) : List Int := shiftAll m.sh (bump cs m.pl (-1))
def MvT.aft (m : MvT) (cs : List Int) : List Int := match m.sd with
  | none => bump (m.mid cs) m.np 1
  | some d => bump (bump (m.mid cs) m.np 1) d 1
def MvT.can (m : MvT) (s : Int) (cs : List Int) : Bool := decide ((m.st : Int) = s) && decide (0 < cs.getD m.pl 0)
def canAt (ms : List MvT) (s : Int) (cs : List Int) (k : Nat) : Bool := match ms[k]? with
  | some m => m.can s cs
  | none => false
def canL (ms : List MvT) (s : Int) (cs : List Int) : List Nat := (List.range ms.length).filter (canAt ms s cs)
theorem shiftAll_len : ∀ (sh : List (Nat × Nat)) (cs : List Int), (shiftAll sh cs).length = cs.length
  | [], _ => rfl
  | p :: r, cs => by
    show (shiftAll r _).length = _
    rw [shiftAll_len r, List.length_set, List.length_set]
theorem bump_len (cs : List Int) (k : Nat) (z : Int) : (bump cs k z).length = cs.length := List.length_set
theorem mid_len (m : MvT) (cs : List Int) : (m.mid cs).length = cs.length := by
  unfold MvT.mid
  rw [shiftAll_len, bump_len]
theorem aft_len (m : MvT) (cs : List Int) : (m.aft cs).length = cs.length := by
  unfold MvT.aft
  split
  · rw [bump_len, mid_len]
  · rw [bump_len, bump_len, mid_len]
theorem shiftAll_snoc (sh : List (Nat × Nat)) (p : Nat × Nat) (cs : List Int) : shiftAll (sh ++ [p]) cs = ((shiftAll sh cs).set p.2 ((shiftAll sh cs).getD p.2 0 + (shiftAll sh cs).getD p.1 0)).set p.1 0 := by
  unfold shiftAll
  rw [List.foldl_append]
  rfl
theorem filt_yes {f : Nat → Bool} {i : Nat} (h : f i = true) : (List.range (i + 1)).filter f = (List.range i).filter f ++ [i] := by
  rw [List.range_succ, List.filter_append, List.filter_cons, if_pos h]
  rfl
theorem filt_no {f : Nat → Bool} {i : Nat} (h : f i = false) : (List.range (i + 1)).filter f = (List.range i).filter f := by
  rw [List.range_succ, List.filter_append, List.filter_cons, if_neg (by rw [h]; decide)]
  show _ ++ [] = _
  rw [List.append_nil]
theorem filt_len (n : Nat) (f : Nat → Bool) : ((List.range n).filter f).length ≤ n := by
  have h := List.length_filter_le f (List.range n)
  rw [List.length_range] at h
  exact h
theorem mem_canL {ms : List MvT} {s : Int} {cs : List Int} {k : Nat} : k ∈ canL ms s cs ↔ ∃ m, ms[k]? = some m ∧ m.can s cs = true := by
  unfold canL
  rw [List.mem_filter, List.mem_range]
  unfold canAt
  constructor
  · rintro ⟨h1, h2⟩
    rw [List.getElem?_eq_getElem h1] at h2
    exact ⟨_, List.getElem?_eq_getElem h1, h2⟩
  · rintro ⟨m, h1, h2⟩
    rw [h1]
    exact ⟨(List.getElem?_eq_some_iff.mp h1).1, h2⟩
section
variable {K : PySem.W.Frag} {H : Hp}
theorem dp_sd {v : V} {o : Option Nat} (h : Dp K H v (sdD o)) : v = sdV o := by
  cases o with
  | none => cases h; rfl
  | some d => exact dp_int h
theorem sd_dp (o : Option Nat) : Dp K H (sdV o) (sdD o) := by
  cases o with
  | none => exact .non
  | some d => exact .int _
theorem dp_sh {v : V} {p : Nat × Nat} (h : Dp K H v (shD p)) : ∃ a, v = .ref a ∧ SqT K H a [nV p.1, nV p.2] := by
  obtain ⟨a, xs, rfl, hs, h⟩ := dp_tup h
  obtain ⟨v1, r1, rfl, d1, h⟩ := dpa_cons h
  obtain ⟨v2, r2, rfl, d2, h⟩ := dpa_cons h
  rw [dp_int d1, dp_int d2, dpa_nil h] at hs
  exact ⟨a, rfl, hs⟩
theorem dp_mv {v : V} {m : MvT} (h : Dp K H v m.data) : ∃ a sa xs, v = .ref a ∧ SqT K H a [nV m.st, nV m.pl, nV m.ns, nV m.np, sdV m.sd, .ref sa] ∧ SqL K H sa xs ∧ DpAll K H xs (m.sh.map shD) := by
  obtain ⟨a, xs, rfl, hs, h⟩ := dp_tup h
  obtain ⟨v1, r1, rfl, d1, h⟩ := dpa_cons h
  obtain ⟨v2, r2, rfl, d2, h⟩ := dpa_cons h
  obtain ⟨v3, r3, rfl, d3, h⟩ := dpa_cons h
  obtain ⟨v4, r4, rfl, d4, h⟩ := dpa_cons h
  obtain ⟨v5, r5, rfl, d5, h⟩ := dpa_cons h
  obtain ⟨v6, r6, rfl, d6, h⟩ := dpa_cons h
  obtain rfl := dpa_nil h
  obtain ⟨sa, ys, rfl, h1, h2⟩ := dp_lst d6
  rw [dp_int d1, dp_int d2, dp_int d3, dp_int d4, dp_sd d5] at hs
  exact ⟨a, sa, ys, rfl, hs, h1, h2⟩
theorem dp_mt {v : V} {M : MT} (h : Dp K H v M.data) : ∃ a sv ma xs, v = .ref a ∧ SqT K H a [nV M.states, nV M.places, sv, nV M.crew, .ref ma] ∧ Sit K H sv M.sst M.cnts ∧ SqL K H ma xs ∧ DpAll K H xs (M.moves.map MvT.data) := by
  obtain ⟨a, xs, rfl, hs, h⟩ := dp_tup h
  obtain ⟨v1, r1, rfl, d1, h⟩ := dpa_cons h
  obtain ⟨v2, r2, rfl, d2, h⟩ := dpa_cons h
  obtain ⟨v3, r3, rfl, d3, h⟩ := dpa_cons h
  obtain ⟨v4, r4, rfl, d4, h⟩ := dpa_cons h
  obtain ⟨v5, r5, rfl, d5, h⟩ := dpa_cons h
  obtain rfl := dpa_nil h
  obtain ⟨ma, ys, rfl, h1, h2⟩ := dp_lst d5
  rw [dp_int d1, dp_int d2, dp_int d4] at hs
  exact ⟨a, v3, ma, ys, rfl, hs, dp_sit d3, h1, h2⟩
theorem dpa_map_at {α : Type} {f : α → PyData} {xs : List V} {as : List α} (h : DpAll K H xs (as.map f)) {i : Nat} {x : V} (hx : xs[i]? = some x) : ∃ a, as[i]? = some a ∧ Dp K H x (f a) := by
  obtain ⟨d, hd, dx⟩ := dpa_at h hx
  obtain ⟨a, ha, rfl⟩ : ∃ a, as[i]? = some a ∧ d = f a := by
    rw [List.getElem?_map] at hd
    cases e : as[i]? with
    | none => rw [e] at hd; cases hd
    | some a => rw [e] at hd; exact ⟨a, rfl, (Option.some.inj hd).symm⟩
  exact ⟨a, ha, dx⟩
theorem dpa_map_at' {α : Type} {f : α → PyData} {xs : List V} {as : List α} (h : DpAll K H xs (as.map f)) {i : Nat} {a : α} (ha : as[i]? = some a) : ∃ x, xs[i]? = some x ∧ Dp K H x (f a) := by
  obtain ⟨v, hv, dv⟩ := dpa_at' h (i := i) (d := f a) (by rw [List.getElem?_map, ha]; rfl)
  exact ⟨v, hv, dv⟩
theorem dpa_map_len {α : Type} {f : α → PyData} {xs : List V} {as : List α} (h : DpAll K H xs (as.map f)) : xs.length = as.length := by
  have := dpa_len h
  rw [List.length_map] at this
  exact this
end
theorem at_n {xs : List V} {i : Int} {j : Nat} {v : V} (e : i = (j : Int)) (h : xs[j]? = some v) : atI xs i = some v := by
  rw [e]
  exact atI_nat h
theorem hu65 {A : Around} {k : Nat} (hr : Room k A) : A.units + 65 < cLine := by
  have := hr.un
  omega
theorem opNotInD {X : Cx} (K : PySem.W.Frag) (hu : X.A.units + 65 < cLine) (h : X.K = K := by rfl) : OpR X (compareOp .NotIn) (rNotInD K) := h ▸ op_notInD hu
theorem opInD {X : Cx} (K : PySem.W.Frag) (hu : X.A.units + 65 < cLine) (h : X.K = K := by rfl) : OpR X (compareOp .In) (rInD K) := h ▸ op_inD hu
section
variable {P : Program} {w : World} {K : PySem.W.Frag} {mg : Str → Option Value} {base : Heap}
theorem filter_snoc {α : Type} {f : α → Bool} {xs : List α} {i : Nat} {x : α} (h : xs[i]? = some x) : (xs.take (i + 1)).filter f = (xs.take i).filter f ++ (if f x then [x] else []) := by
  rw [take_snoc h, List.filter_append]
  congr 1
  rw [List.filter_cons]
  rfl
/-- a comprehension that keeps those of a list of data for which a test holds -/
theorem lc_filt {α : Type} {fD : α → PyData} {j : Nat} {tt : TT} {vs : List Nat} {σ : L2.St} {H1 : Hp} {D a : Addr} {xs : List V} {as : List α} {Qd : Hp → Prop} (p : α → Bool) (nD : H1 D = none) (ha : SqL K H1 a xs) (hd : DpAll K H1 xs (as.map fD)) (hb : as.length ≤ 90000) (hw : ∀ x, wipe ((wipe σ vs).set j x) vs = wipe σ vs) (hj : ∀ x, ((wipe σ vs).set j (some x))[j]? = some (some x))
    (ht : ∀ (i : Nat) (x : α) (u : V) (H : Hp) (Q : Bool → Hp → Prop), as[i]? = some x → Dp K H u (fD x) → Same H1 H → (∀ H4, Same H H4 → Q (p x) H4) → tt ((wipe σ vs).set j (some u)) H Q)
    (hq : ∀ (H : Hp) (ys : List V), Same H1 H → H D = some (.lst ys) → DpAll K H1 ys ((as.filter p).map fD) → Qd H) :
    ∃ W : Nat → Nat → Hp → Prop, (∃ m, W 0 m (upd H1 D (.lst []))) ∧ ∀ i m H, W i m H →
      ((Itl K a).stop i H ∧ Qd H) ∨ ((Itl K a).go i H ∧ ∃ Nx : Hp → Prop, (∀ H', Nx H' → ∃ m', m' < m ∧ W (i + 1) m' H') ∧ ∀ x H', (Itl K a).yld i H x H' → gName j x (wipe σ vs) H' fun σ2 H2 => wipe σ2 vs = wipe σ vs ∧ tt σ2 H2 fun b H3 =>
        if b = true then tVar j σ2 H3 fun y H4 => ∃ acc, H4 D = some (.lst acc) ∧ acc.length < sizeLine ∧ Nx (upd H4 D (.lst (acc ++ [y]))) else Nx H3) := by
  have xl := dpa_map_len hd
  refine lc_list (xs := xs) (fun i H' => Same H1 H' ∧ ∃ ys, H' D = some (.lst ys) ∧ DpAll K H1 ys (((as.take i).filter p).map fD)) ⟨same_new nD, [], upd_same, .nil⟩ (fun _ H' _ h => h.1.seq ha) ?_ ?_
  · rintro i u H' hu ⟨sm, ys, eD, dy⟩
    obtain ⟨x, hx, du⟩ := dpa_map_at hd hu
    have lt := (List.getElem?_eq_some_iff.mp hx).1
    have yl := dpa_map_len dy
    refine ⟨hw _, ht i x u H' _ hx (dp_mono sm du) sm fun H4 s4 => ?_⟩
    rw [filter_snoc hx]
    cases hp : p x with
    | false =>
      refine iteF ⟨sm.trans s4, ys, s4 _ _ eD, ?_⟩
      rw [if_neg (by decide), List.append_nil]
      exact dy
    | true =>
      refine iteT ⟨u, hj u, ys, s4 _ _ eD, ?_, Same.mut (sm.trans s4) nD, ys ++ [u], upd_same, ?_⟩
      · rw [yl]
        have := List.length_filter_le p (as.take i)
        rw [List.length_take] at this
        exact szl (by omega)
      · rw [if_pos rfl, List.map_append]
        exact dpa_app dy (.cons du .nil)
  · rintro H ⟨sm, ys, eD, dy⟩
    rw [xl, List.take_length] at dy
    exact hq H ys sm eD dy
end
/-! ### bodies from the tape -/
def tl : Nat → Nat
  | 0 => 24
  | l + 1 => 6 + 2 * tl l
def tc : Nat → Nat → Nat
  | 0, l => tl l
  | k + 1, l => 26 + 3 * tc k l
def bl0 : Nat → Int
  | 0 => 40
  | l + 1 => 40 + 2 * bl0 l
def bt : Nat → Nat → Int
  | 0, l => bl0 l
  | k + 1, l => 40 + 3 * bt k l
theorem tl_up : ∀ l, 24 ≤ tl l ∧ tl l ≤ tl (l + 1)
  | 0 => by decide
  | l + 1 => by
    have := tl_up l
    show 24 ≤ 6 + 2 * tl l ∧ 6 + 2 * tl l ≤ 6 + 2 * tl (l + 1)
    omega
theorem tc_up : ∀ k l, 24 ≤ tc k l ∧ tc k l ≤ tc k (l + 1)
  | 0, l => tl_up l
  | k + 1, l => by
    have := tc_up k l
    show 24 ≤ 26 + 3 * tc k l ∧ 26 + 3 * tc k l ≤ 26 + 3 * tc k (l + 1)
    omega
theorem bl_up : ∀ l, 40 ≤ bl0 l ∧ bl0 l ≤ bl0 (l + 1)
  | 0 => by decide
  | l + 1 => by
    have := bl_up l
    show 40 ≤ 40 + 2 * bl0 l ∧ 40 + 2 * bl0 l ≤ 40 + 2 * bl0 (l + 1)
    omega
theorem bt_up : ∀ k l, 40 ≤ bt k l ∧ bt k l ≤ bt k (l + 1)
  | 0, l => bl_up l
  | k + 1, l => by
    have := bt_up k l
    show 40 ≤ 40 + 3 * bt k l ∧ 40 + 3 * bt k l ≤ 40 + 3 * bt k (l + 1)
    omega
/-- a lock that is taken: one lock and one level less -/
theorem tc_lock : ∀ k l, 6 + 2 * tc (k - 1) l ≤ tc k (l + 1)
  | 0, l => Nat.le_refl _
  | k + 1, l => by
    have := tc_up k l
    show 6 + 2 * tc k l ≤ 26 + 3 * tc k (l + 1)
    omega
theorem bt_lock : ∀ k l, 40 + 2 * bt (k - 1) l ≤ bt k (l + 1)
  | 0, l => Int.le_refl _
  | k + 1, l => by
    have := bt_up k l
    show 40 + 2 * bt k l ≤ 40 + 3 * bt k (l + 1)
    omega
/-- what gives a lock back has taken it before -/
def Bal (ss : List ST) : Prop := ∀ (i : Nat) (l : Str), ss[i]? = some (.rel l) → ∃ j, j < i ∧ ss[j]? = some (.acq l)
theorem Bal.snoc {ss : List ST} {s : ST} (h : Bal ss) (hs : s.isRel = false) : Bal (ss ++ [s]) := fun i l e => by
  rcases Nat.lt_or_ge i ss.length with hi | hi
  · rw [List.getElem?_append_left hi] at e
    obtain ⟨j, hj, ej⟩ := h i l e
    exact ⟨j, hj, by rw [List.getElem?_append_left (by omega)]; exact ej⟩
  · rw [List.getElem?_append_right hi] at e
    cases h0 : i - ss.length with
    | zero =>
      rw [h0] at e
      have e : s = .rel l := Option.some.inj e
      rw [e] at hs
      cases hs
    | succ n => rw [h0] at e; cases e
theorem Bal.block {ss b : List ST} {k : Str} (h : Bal ss) (hb : Bal b) : Bal (((ss ++ [.acq k]) ++ b) ++ [.rel k]) := fun i l e => by
  have l1 : (ss ++ [ST.acq k]).length = ss.length + 1 := List.length_append
  have l2 : ((ss ++ [ST.acq k]) ++ b).length = ss.length + 1 + b.length := by rw [List.length_append, l1]
  rcases Nat.lt_or_ge i (ss.length + 1 + b.length) with hi | hi
  · rw [List.getElem?_append_left (by omega)] at e
    rcases Nat.lt_or_ge i (ss.length + 1) with h2 | h2
    · rw [List.getElem?_append_left (by omega)] at e
      obtain ⟨j, hj, ej⟩ := h.snoc (s := .acq k) rfl i l e
      exact ⟨j, hj, by rw [List.getElem?_append_left (by omega), List.getElem?_append_left (by omega)]; exact ej⟩
    · rw [List.getElem?_append_right (by omega), l1] at e
      obtain ⟨j, hj, ej⟩ := hb _ l e
      exact ⟨ss.length + 1 + j, by omega, by rw [List.getElem?_append_left (by omega), List.getElem?_append_right (by omega), l1, Nat.add_sub_cancel_left]; exact ej⟩
  · rw [List.getElem?_append_right (by omega), l2] at e
    cases h0 : i - (ss.length + 1 + b.length) with
    | zero =>
      rw [h0] at e
      cases e
      exact ⟨ss.length, by omega, by rw [List.getElem?_append_left (by omega), List.getElem?_append_left (by omega), List.getElem?_append_right (Nat.le_refl _), Nat.sub_self]; rfl⟩
    | succ n => rw [h0] at e; cases e
theorem Bal.take {ss : List ST} (h : Bal ss) (n : Nat) : Bal (ss.take n) := fun i l e => by
  rw [List.getElem?_take] at e
  by_cases hi : i < n
  · rw [if_pos hi] at e
    obtain ⟨j, hj, ej⟩ := h i l e
    exact ⟨j, hj, by rw [List.getElem?_take, if_pos (by omega)]; exact ej⟩
  · rw [if_neg hi] at e; cases e
theorem NcL.app {a b : List PyData} {c1 c2 m : Nat} (h1 : NcL a c1 m) (h2 : NcL b c2 m) : NcL (a ++ b) (c1 + c2) m := by
  induction a generalizing c1 with
  | nil => exact h2.mono (Nat.le_add_left _ _) (Nat.le_refl _)
  | cons d ds ih =>
    have e1 : nice d = true ∧ niceAll ds = true := by have := h1.ni; simpa only [niceAll, Bool.and_eq_true] using this
    have e2 : cells d + cellsAll ds ≤ c1 := h1.ce
    have e3 : max d.depth (PyData.depthAll ds) ≤ m := h1.de
    have := NcL.cons (c1 := cells d) ⟨e1.1, Nat.le_refl _, by omega⟩ (ih (c1 := cellsAll ds) ⟨e1.2, Nat.le_refl _, by omega⟩)
    exact this.mono (by omega) (Nat.le_refl _)
theorem NcL.len : ∀ {a : List PyData} {c m : Nat}, NcL a c m → a.length ≤ c
  | [], _, _, _ => Nat.zero_le _
  | d :: ds, c, m, h => by
    have e1 : nice d = true ∧ niceAll ds = true := by have := h.ni; simpa only [niceAll, Bool.and_eq_true] using this
    have e2 : cells d + cellsAll ds ≤ c := h.ce
    have e3 : max d.depth (PyData.depthAll ds) ≤ m := h.de
    have h1 := NcL.len (c := cellsAll ds) (m := m) ⟨e1.2, Nat.le_refl _, by omega⟩
    have h2 : 1 ≤ cells d := by cases d <;> (unfold cells; omega)
    rw [List.length_cons]
    omega
theorem datas_nc1 {s : ST} {c m : Nat} (h : NcD s.data c m) : NcL (datas [s]) c m := (NcL.cons h (.nil (c := 0)))
def HoN (o : Addr) (H H' : Hp) : Hp := Ho o (Nw H H')
theorem hoN_sb {tp o : Addr} {H H1 H2 : Hp} (t : ∃ u, H tp = some u) (s : Sb tp H1 H2) : Same (HoN o H H1) (HoN o H H2) := ho_same (nw_sb (fun _ h => h) s t)
theorem hoN_new {tp o : Addr} {H H1 H2 H3 : Hp} (d : Dm H H1) (s : Sb tp H2 H3) (t : ∃ u, H1 tp = some u) (eo : ∃ u, H1 o = some u) : Same (Nw H1 H2) (HoN o H H3) := fun x u h => by
  have h2 := nw_sb d s t x u h
  have ne : x ≠ o := fun z => by
    obtain ⟨h1, _⟩ := nw_some h
    obtain ⟨v, hv⟩ := eo
    rw [z, hv] at h1
    cases h1
  unfold HoN Ho
  rw [if_neg ne]
  exact h2
theorem hoN_mut {o : Addr} {H H1 : Hp} {u : HO} (n : H o = none) : Same (HoN o H H1) (HoN o H (upd H1 o u)) := fun x v h => by
  unfold HoN Ho at h ⊢
  by_cases e : x = o
  · rw [if_pos e] at h; cases h
  · rw [if_neg e] at h ⊢
    obtain ⟨h1, h2⟩ := nw_some h
    rw [nw_at h1, upd_ne e]
    exact h2
theorem hoN_to {o o2 : Addr} {H H1 H2 : Hp} (s : Same (Nw H H1) (Nw H H2)) (n : H1 o2 = none) : Same (HoN o H H1) (HoN o2 H H2) := fun x v h => by
  have h2 := ho_out (B := o) x v h
  have ne : x ≠ o2 := fun e => by obtain ⟨_, h3⟩ := nw_some h2; rw [e, n] at h3; cases h3
  unfold HoN Ho
  rw [if_neg ne]
  exact s x v h2
theorem ifE {c : TT} {t u : TS} {D : Ends} {σ : L2.St} {H : Hp} {b : Bool} (h : Ans c σ H b) (ht : b = true → t D σ H) (hu : b = false → u D σ H) : tIfS c t u D σ H := h _ (by
  cases b with
  | true => exact iteT (ht rfl)
  | false => exact iteF (hu rfl))
theorem tc_top : ∀ k l : Nat, k ≤ 2 → l ≤ 3 → tc k l ≤ 2210 := by
  intro k l hk hl
  match k, hk, l, hl with
  | 0, _, 0, _ => decide
  | 0, _, 1, _ => decide
  | 0, _, 2, _ => decide
  | 0, _, 3, _ => decide
  | 1, _, 0, _ => decide
  | 1, _, 1, _ => decide
  | 1, _, 2, _ => decide
  | 1, _, 3, _ => decide
  | 2, _, 0, _ => decide
  | 2, _, 1, _ => decide
  | 2, _, 2, _ => decide
  | 2, _, 3, _ => decide
theorem yesT4 {σ : L2.St} {H : Hp} {A B : Bool → Hp → Prop} (h : A true H) : tYes σ H fun b H3 => if b = true then A b H3 else B b H3 := by
  show (if true = true then A true H else B true H)
  rw [if_pos rfl]
  exact h
theorem hoN_at {q a : Addr} {H H' : Hp} {u : HO} (n : H a = none) (ne : a ≠ q) (e : H' a = some u) : HoN q H H' a = some u := by
  unfold HoN Ho
  rw [if_neg ne, nw_at n]
  exact e
theorem hoN_all {tp p q : Addr} {H H1 H2 H3 : Hp} (d : Dm H H1) (s : Sb tp H2 H3) (t : ∃ u, H1 tp = some u) (n : H2 q = none) : Same (HoN p H1 H2) (HoN q H H3) := fun x v h => by
  have h2 := ho_out (B := p) x v h
  have ne : x ≠ q := fun e => by obtain ⟨_, h3⟩ := nw_some h2; rw [e, n] at h3; cases h3
  unfold HoN Ho
  rw [if_neg ne]
  exact nw_sb d s t x v h2
theorem bt_mono (k : Nat) {a : Nat} : ∀ d, bt k a ≤ bt k (a + d)
  | 0 => Int.le_refl _
  | d + 1 => Int.le_trans (bt_mono k d) (bt_up k (a + d)).2
theorem tc_mono (k : Nat) {a : Nat} : ∀ d, tc k a ≤ tc k (a + d)
  | 0 => Nat.le_refl _
  | d + 1 => Nat.le_trans (tc_mono k d) (tc_up k (a + d)).2
theorem tp_mut {K : PySem.W.Frag} {H0 H' : Hp} {tp pd D : Addr} {ds : List Int} {b0 b : Int} {u : HO} (t0 : Tp K H0 tp pd ds b0) (t : Tp K H' tp pd ds b) (n : H0 D = none) (sb : Sb tp H0 H') : Sb tp H0 (upd H' D u) ∧ Tp K (upd H' D u) tp pd ds b := by
  have ne : D ≠ tp := fun e => by obtain ⟨v, hv⟩ := t0.dom; rw [e, hv] at n; cases n
  have s2 : Sb tp H0 (upd H' D u) := fun x v nx hx => by
    rw [upd_ne (fun e => by rw [e, n] at hx; cases hx)]
    exact sb x v nx hx
  obtain ⟨m, h0, h1, h2⟩ := t.tape
  exact ⟨s2, ⟨m, h0, h1, by rw [upd_ne (Ne.symm ne)]; exact h2⟩, s2.seqL t0.ne t0.dig, t.ne, t.l0, t.l1, t.pos⟩
theorem datass_app (a b : List (List ST)) : datass (a ++ b) = datass a ++ datass b := by rw [datass_map, datass_map, datass_map, List.map_append]
section
variable {P : Program} {w : World} {K : PySem.W.Frag} {mg : Str → Option Value} {base : Heap}
def spLB4 (K : PySem.W.Frag) (n : Nat) : Sp := fun vs H Q _ => ∃ (tp pd : Addr) (ds : List Int) (th lo : Addr) (e : Nms) (ls : List Str) (k mo : Nat) (z b : Int), vs = [.ref tp, .ref th, .ref lo, .int z, nV mo] ∧ 0 ≤ z ∧ 2 - z ≤ (k : Int) ∧ k ≤ 2 ∧ ls.length ≤ 3 ∧ k + ls.length < n ∧ mo ≤ 5 ∧ Tp K H tp pd ds b ∧ b + 1 + (mo : Int) * bt k ls.length ≤ 900000000 ∧ Thg K H tp th e ∧ e.Ok ∧ SqL K H lo (ls.map V.str) ∧ lo ≠ tp ∧ (∀ s ∈ ls, nice (.str s) = true) ∧
  ∀ H' p xs (ss : List ST), Sb tp H H' → Tp K H' tp pd ds (b + 1 + (mo : Int) * bt k ls.length) → H p = none → H' p = some (.lst xs) → DpAll K (HoN p H H') xs (datas ss) → NcL (datas ss) (mo * tc k ls.length) (4 + 3 * k) → Bal ss → Q (.ref p) H'
abbrev s_law_body : Stmt := topS 11
theorem sc_law_body : FnScope ["tape", "things", "locks", "depth", "most", "body", "turn", "way", "lock", "rest", "inside", "name"] ["tape", "things", "locks", "depth", "most"] (defScope s_law_body) := ⟨rfl, rfl, rfl, by decide +kernel, rfl, by decide +kernel, by decide +kernel⟩
-- _law_body slots: tape=0(cell) things=1(cell) locks=2(cell) depth=3(cell) most=4 body=5 turn=6 way=7 lock=8(cell) rest=9 inside=10 name=11(None) globals: range _law_take _law_condition _law_body len _law_simple
set_option maxHeartbeats 8000000 in
theorem fd_law_body {f : Addr} {fd : FuncData} (F : Fun K "_law_body" "_law_body" s_law_body f fd) (m : mg "_law_body" = some (.ref f)) (B : Bt mg) (D_law_take : Fd P w K mg base "_law_take" ["tape", "count"] 1 (spTake K)) (D_law_condition : Fd P w K mg base "_law_condition" ["tape", "names", "depth"] 6 (spLC4 K 2)) (D_law_simple : Fd P w K mg base "_law_simple" ["tape", "things"] 7 (spLSm K)) : ∀ n : Nat, Fd P w K mg base "_law_body" ["tape", "things", "locks", "depth", "most"] (n + 8) (spLB4 K n)
  | 0 => Fd.none F m (F.binds (ps := ["tape", "things", "locks", "depth", "most"]) fun _ _ _ _ _ _ us hl => match us, hl with | [_, _, _, _, _], _ => rfl) fun vs H Q E h => by
    obtain ⟨tp, pd, ds, th, lo, e, ls, k, mo, z, b, _, h0, h1, h2, h3, h4, _⟩ := h
    omega
  | n + 1 => by
    have D_law_body := fd_law_body F m B D_law_take D_law_condition D_law_simple n
    refine ⟨f, fd, F.ok sc_law_body (fun vs H Q E h => ?_) (fun cdv A outer s H vs Q E hr h => ?_), m, F.kp, F.binds (ps := ["tape", "things", "locks", "depth", "most"]) fun _ _ _ _ _ _ us hl => match us, hl with | [_, _, _, _, _], _ => rfl⟩
    · obtain ⟨tp, pd, ds, th, lo, e, ls, k, mo, z, b, rfl, _⟩ := h
      rfl
    obtain ⟨tp, pd, ds, th, lo, e, ls, k, mo, z, b, rfl, z0, z1, k2, l3, kl, m5, t, b9, hth, ok, hlo, nlo, hls, q⟩ := h
    have T24 := (tc_up k ls.length).1
    have T22 := tc_top k ls.length k2 l3
    have B40 := (bt_up k ls.length).1
    refine ⟨_, (pss_cons (ps_set (i := 5) sc_law_body.nd rfl (Or.inl rfl) (pe_lst pa_nil))
 (pss_cons (ps_for PassesOwn.never rfl (pi_range1 rfl B.range (pa_cons (pe_fn D_law_take (hr.mono (by omega)) rfl (pa_cons (pv 0) (pa_cons (pe_op op_add (pv 4) pe_int) pa_nil))) pa_nil)) (pg_name (i := 6) sc_law_body.nd rfl (Or.inl rfl))
 (pss_cons (ps_set (i := 7) sc_law_body.nd rfl (Or.inl rfl) (pe_fn D_law_take (hr.mono (by omega)) rfl (pa_cons (pv 0) (pa_cons pe_int pa_nil))))
 (pss_one (ps_if (PW.pt (pw_and (pt_cmpR op_eq (pv 7) pe_int (nomark _)) (pw_and1 (pt_cmpR op_lt (pv 3) pe_int (nomark _)))))
 (pss_one (ps_expr (peBm K PySem.F.plainAttrs_list PySem.F.slot_list_append PySem.F.type_list_append mt_append (pv 5) (pa_cons (pe_tup (pa_cons pe_str (pa_cons (pe_fn D_law_condition (hr.mono (by omega)) rfl (pa_cons (pv 0) (pa_cons (pe_ix (ixL K) (pv 1) pe_int (fun _ _ => rfl)) (pa_cons pe_int pa_nil)))) (pa_cons (pe_fn D_law_body hr rfl (pa_cons (pv 0) (pa_cons (pv 1) (pa_cons (pv 2) (pa_cons (pe_op op_add (pv 3) pe_int) (pa_cons pe_int pa_nil)))))) (pa_cons (pe_fn D_law_body hr rfl (pa_cons (pv 0) (pa_cons (pv 1) (pa_cons (pv 2) (pa_cons (pe_op op_add (pv 3) pe_int) (pa_cons pe_int pa_nil)))))) pa_nil))))) pa_nil))))
 (pss_one (ps_if (PW.pt (pw_and (pt_cmpR op_eq (pv 7) pe_int (nomark _)) (pw_and1 (pt_cmpR op_lt (pv 3) pe_int (nomark _)))))
 (pss_one (ps_expr (peBm K PySem.F.plainAttrs_list PySem.F.slot_list_append PySem.F.type_list_append mt_append (pv 5) (pa_cons (pe_tup (pa_cons pe_str (pa_cons (pe_fn D_law_condition (hr.mono (by omega)) rfl (pa_cons (pv 0) (pa_cons (pe_ix (ixL K) (pv 1) pe_int (fun _ _ => rfl)) (pa_cons pe_int pa_nil)))) (pa_cons (pe_fn D_law_body hr rfl (pa_cons (pv 0) (pa_cons (pv 1) (pa_cons (pv 2) (pa_cons (pe_op op_add (pv 3) pe_int) (pa_cons pe_int pa_nil)))))) pa_nil)))) pa_nil))))
 (pss_one (ps_if (PW.pt (pw_and (pt_cmpR op_eq (pv 7) pe_int (nomark _)) (pw_and1 (pt_cmpR op_lt (pv 3) pe_int (nomark _)))))
 (pss_one (ps_expr (peBm K PySem.F.plainAttrs_list PySem.F.slot_list_append PySem.F.type_list_append mt_append (pv 5) (pa_cons (pe_tup (pa_cons pe_str (pa_cons (pe_lc (own := [("turn", 6)]) (g := gName 6) (by rfl) sc_law_body.nd (pi_range1 rfl B.range (pa_cons (pe_op op_add pe_int (pe_fn D_law_take (hr.mono (by omega)) rfl (pa_cons (pv 0) (pa_cons pe_int pa_nil)))) pa_nil)) (blkOk_by (own := [("turn", 6)]) (N := ["tape", "things", "locks", "depth", "most", "body", "turn", "way", "lock", "rest", "inside", "name"]) (sc := (defScope s_law_body)) (by decide +kernel)) (fun _ _ _ _ _ => (pg_name (i := 6) sc_law_body.nd rfl (Or.inl rfl))) (fun _ _ _ _ _ => pts_nil) (fun _ _ _ _ _ => (pe_fn D_law_body hr rfl (pa_cons (pv 0) (pa_cons (pv 1) (pa_cons (pv 2) (pa_cons (pe_op op_add (pv 3) pe_int) (pa_cons pe_int pa_nil)))))))) pa_nil))) pa_nil))))
 (pss_one (ps_if (PW.pt (pw_and (pt_cmpR op_lt (pv 7) pe_int (nomark _)) (pw_and1 (pt_cmpR op_gt (pe_callB (cLen K) (by rfl) B.len PySem.boot_len (pa_cons (pv 2) pa_nil)) pe_int (nomark _)))))
 (pss_cons (ps_set (i := 8) sc_law_body.nd rfl (Or.inr rfl) (pe_ix (ixL K) (pv 2) (pe_fn D_law_take (hr.mono (by omega)) rfl (pa_cons (pv 0) (pa_cons (pe_callB (cLen K) (by rfl) B.len PySem.boot_len (pa_cons (pv 2) pa_nil)) pa_nil))) (fun _ _ => rfl)))
 (pss_cons (ps_setLc (i := 9) (own := [("name", 11)]) (g := gName 11) (by rfl) sc_law_body.nd rfl rfl (sw_true rfl rfl rfl (by decide +kernel)) (piL K (pv 2)) (blkOk_by (own := [("name", 11)]) (N := ["tape", "things", "locks", "depth", "most", "body", "turn", "way", "lock", "rest", "inside", "name"]) (sc := (defScope s_law_body)) (by decide +kernel)) (fun _ _ _ _ _ => (pg_name (i := 11) sc_law_body.nd rfl (Or.inl rfl))) (fun _ _ _ _ _ => (pts_one (pt_cmpR op_ne (pv 11) (pv 8) (nomark _)))) (fun _ _ _ _ _ => (pv 11)))
 (pss_cons (ps_set (i := 10) sc_law_body.nd rfl (Or.inl rfl) (pe_fn D_law_body hr rfl (pa_cons (pv 0) (pa_cons (pe_lst (pa_cons (pe_ix (ixL K) (pv 1) pe_int (fun _ _ => rfl)) (pa_cons (pe_ix (ixL K) (pv 1) pe_int (fun _ _ => rfl)) (pa_cons (pe_ix (ixL K) (pv 1) pe_int (fun _ _ => rfl)) (pa_cons (pe_ix (ixL K) (pv 1) pe_int (fun _ _ => rfl)) (pa_cons pe_bl (pa_cons (pe_ix (ixL K) (pv 1) pe_int (fun _ _ => rfl)) pa_nil))))))) (pa_cons (pv 9) (pa_cons (pe_op op_add (pv 3) pe_int) (pa_cons pe_int pa_nil)))))))
 (pss_one (ps_set (i := 5) sc_law_body.nd rfl (Or.inl rfl) (pe_op (opCat K) (pe_op (opCat K) (pe_op (opCat K) (pv 5) (pe_lst (pa_cons (pe_tup (pa_cons pe_str (pa_cons (pv 8) pa_nil))) pa_nil))) (pv 10)) (pe_lst (pa_cons (pe_tup (pa_cons pe_str (pa_cons (pv 8) pa_nil))) pa_nil))))))))
 (pss_one (ps_if (PW.pt (pw_and (pt_cmpR op_eq (pv 7) pe_int (nomark _)) (pw_and (pt_cmpR op_gt (pe_callB (cLen K) (by rfl) B.len PySem.boot_len (pa_cons (pe_ix (ixL K) (pv 1) pe_int (fun _ _ => rfl)) pa_nil)) pe_int (nomark _)) (pw_and1 (ptTru K (pe_ix (ixL K) (pv 1) pe_int (fun _ _ => rfl)) (by intro _; rfl))))))
 (pss_one (ps_expr (peBm K PySem.F.plainAttrs_list PySem.F.slot_list_append PySem.F.type_list_append mt_append (pv 5) (pa_cons (pe_tup (pa_cons pe_str (pa_cons (pe_ix (ixL K) (pe_ix (ixL K) (pv 1) pe_int (fun _ _ => rfl)) (pe_fn D_law_take (hr.mono (by omega)) rfl (pa_cons (pv 0) (pa_cons (pe_callB (cLen K) (by rfl) B.len PySem.boot_len (pa_cons (pe_ix (ixL K) (pv 1) pe_int (fun _ _ => rfl)) pa_nil)) pa_nil))) (fun _ _ => rfl)) pa_nil))) pa_nil))))
 (pss_one (ps_expr (peBm K PySem.F.plainAttrs_list PySem.F.slot_list_append PySem.F.type_list_append mt_append (pv 5) (pa_cons (pe_fn D_law_simple (hr.mono (by omega)) rfl (pa_cons (pv 0) (pa_cons (pv 1) pa_nil))) pa_nil))))))))))))))))
 (pss_one (ps_ret (pv 5))))), ?_⟩
    refine ⟨szc 0, fun o0 no0 => ?_⟩
    dsimp only [gName]
    have s0 := same_new (o := HO.lst []) no0
    have mB : (0 : Int) ≤ (mo : Int) * bt k ls.length := Int.mul_nonneg (by omega) (by omega)
    have tD := t.dom
    have c30 : cc 1 = 30 := by decide
    generalize hBB : bt k ls.length = BB at *
    generalize hTT : tc k ls.length = TT at *
    refine ⟨_, rfl, _, rfl, _, _, rfl, rfl, tp, pd, ds, _, b, rfl, t.same s0, by omega, by omega, fun H1 y s1 t1 y0 yl => ?_⟩
    obtain ⟨yn, rfl⟩ := Int.eq_ofNat_of_zero_le y0
    have ym : yn ≤ mo := by omega
    have nt0 : o0 ≠ tp := fun e => by obtain ⟨u, hu⟩ := tD; rw [e, hu] at no0; cases no0
    refine ⟨yn, rfl, by omega, by omega, for_range (lo := 0) (n := yn) (fun i σ' H' => ∃ (y6 y7 y8 y9 y10 y11 : Option V) (o : Addr) (xs : List V) (ss : List ST), σ' = [some (.ref tp), some (.ref th), some (.ref lo), some (.int z), some (nV mo), some (.ref o), y6, y7, y8, y9, y10, y11] ∧ Sb tp H H' ∧ Tp K H' tp pd ds (b + 1 + (i : Int) * BB) ∧ H o = none ∧ H' o = some (.lst xs) ∧ DpAll K (HoN o H H') xs (datas ss) ∧ NcL (datas ss) (i * TT) (4 + 3 * k) ∧ Bal ss) ⟨_, _, _, _, _, _, o0, [], [], rfl, (Same.sb s0).trans s1, t1.mono (by omega), no0, s1 _ _ nt0 upd_same, .nil, NcL.nil, fun i l h => nomatch h⟩ ?_ ?_⟩
    · rintro i σ' H' hi ⟨y6, y7, y8, y9, y10, y11, o, xs, ss, rfl, sb, tt, no, eo, dx, nx, bal⟩
      have xl : xs.length = ss.length := (dpa_len dx).trans (datas_len ss)
      have sl : ss.length ≤ i * TT := by have := nx.len; rw [datas_len] at this; exact this
      have iT : i * TT ≤ 5 * 2210 := Nat.mul_le_mul (by omega) T22
      have iB : b + 1 + (i : Int) * BB + BB ≤ b + 1 + (mo : Int) * BB := by
        have h1 : ((i : Int) + 1) * BB ≤ (mo : Int) * BB := Int.mul_le_mul_of_nonneg_right (by omega) (by omega)
        rw [Int.add_mul, Int.one_mul] at h1
        omega
      have i1 : ((i + 1 : Nat) : Int) * BB = (i : Int) * BB + BB := by rw [Int.natCast_add, Int.add_mul]; show _ + 1 * BB = _; rw [Int.one_mul]
      have i2 : (i + 1) * TT = i * TT + TT := Nat.succ_mul _ _
      have not' : o ≠ tp := fun e => by obtain ⟨u, hu⟩ := tD; rw [e, hu] at no; cases no
      rw [i1, i2]
      generalize (i : Int) * BB = bi at *
      generalize i * TT = ti at *
      have hth' := hth.sb sb
      have hlo' := sb.seqL nlo hlo
      dsimp only [gName]
      refine ⟨_, rfl, tp, pd, ds, 9, b + 1 + bi, rfl, tt, by omega, by decide, fun H2 y s2 t2 y0 y9 => ?_⟩
      dsimp only [gName]
      have add : ∀ (H3 : Hp) (v : V) (s : ST), Sb tp H' H3 → Tp K H3 tp pd ds (b + 1 + (bi + BB)) → Dp K (Nw H' H3) v s.data → NcD s.data TT (4 + 3 * k) → s.isRel = false → Sb tp H (upd H3 o (.lst (xs ++ [v]))) ∧ Tp K (upd H3 o (.lst (xs ++ [v]))) tp pd ds (b + 1 + (bi + BB)) ∧ H o = none ∧ (upd H3 o (.lst (xs ++ [v]))) o = some (.lst (xs ++ [v])) ∧ DpAll K (HoN o H (upd H3 o (.lst (xs ++ [v])))) (xs ++ [v]) (datas (ss ++ [s])) ∧ NcL (datas (ss ++ [s])) (ti + TT) (4 + 3 * k) ∧ Bal (ss ++ [s]) := fun H3 v s s3 t3 dv nv hr => by
        have sbn : Sb tp H (upd H3 o (.lst (xs ++ [v]))) := fun x u nx hx => by
          rw [upd_ne (fun e => by rw [e, no] at hx; cases hx)]
          exact s3 x u nx (sb x u nx hx)
        refine ⟨sbn, ?_, no, upd_same, ?_, ?_, bal.snoc hr⟩
        · obtain ⟨n, h0, h1, h2⟩ := t3.tape
          refine ⟨⟨n, h0, h1, by rw [upd_ne (Ne.symm not')]; exact h2⟩, sbn.seqL t.ne t.dig, t.ne, t.l0, t.l1, t.pos⟩
        · rw [datas_app]
          exact dpa_app (dpAll_mono ((hoN_sb tD s3).trans (hoN_mut no)) dx) (.cons (dp_mono ((hoN_new (sb.dm tt.dom) (Sb.refl H3) tt.dom ⟨_, eo⟩).trans (hoN_mut no)) dv) .nil)
        · rw [datas_app]
          exact NcL.app nx (datas_nc1 nv)
      have bodyIn : ∀ {H3 H4 H5 : Hp} {p : Addr} {xs2 : List V} {s2 : List ST}, Sb tp H' H3 → Sb tp H4 H5 → (∃ u, H3 tp = some u) → H3 p = none → H4 p = some (.lst xs2) → p ≠ tp → DpAll K (HoN p H3 H4) xs2 (datas s2) → Dp K (Nw H' H5) (.ref p) (.list (datas s2)) := fun {H3 H4 H5 p xs2 s2} a b c np ep pt d => by
        have d3 := a.dm c
        refine .lst (sq ?_) (dpAll_mono (ho_out.trans (nw_sb d3 b c)) d)
        rw [nw_at (d3 _ np)]
        exact b _ _ pt ep
      have eo2 := s2 _ _ not' eo
      have hth2 := hth'.sb s2
      have hlo2 := s2.seqL nlo hlo'
      have xb : xs.length ≤ 20000 := by omega
      refine ifE (b := decide (y = 0) && decide (z < 2)) (ansAnd (fun Q q => ⟨_, rfl, rfl, _, rfl, by rw [int_eqE]; exact q⟩) (fun Q q => ⟨_, rfl, _, _, rfl, rfl, _, rfl, q⟩)) (fun hb => ?_) (fun _ => ?_)
      · have hz : z < 2 := of_decide_eq_true (and_true_r hb)
        obtain ⟨k, rfl⟩ : ∃ k', k = k' + 1 := ⟨k - 1, by omega⟩
        have e1 : BB = 40 + 3 * bt k ls.length := hBB.symm
        have e2 : TT = 26 + 3 * tc k ls.length := hTT.symm
        have B4' := (bt_up k ls.length).1
        obtain ⟨a0, a1, a2, a3, a5, ⟨g, gn⟩, ⟨g0, n0⟩, _⟩ := hth2
        refine ⟨_, rfl, .inl ⟨rfl, _, sq eo2⟩, _, rfl, _, rfl, _, _, _, _, rfl, rfl, g, atI_nat (j := 0) rfl, tp, pd, ds, a0, e.vars, 1, 0, b + 1 + bi + 1, rfl, by omega, by omega, by omega, by omega, t2, by omega, n0, g0, fun H3 v c s3 t3 r1 o1 => ?_⟩
        have s13 := s2.trans s3
        refine ⟨_, rfl, _, rfl, _, rfl, _, rfl, _, _, rfl, rfl, tp, pd, ds, th, lo, e, ls, k, 2, z + 1, b + 1 + bi + 1 + cc 1, rfl, by omega, by omega, by omega, l3, by omega, by omega, t3, by omega, hth'.sb s13, ok, s13.seqL nlo hlo', nlo, hls, fun H4 p1 xs1 ss1 s4 t4 np1 ep1 d1 c1 b1 => ?_⟩
        have s14 := s13.trans s4
        refine ⟨_, rfl, _, rfl, _, rfl, _, rfl, _, _, rfl, rfl, tp, pd, ds, th, lo, e, ls, k, 1, z + 1, _, rfl, by omega, by omega, by omega, l3, by omega, by omega, t4, by omega, hth'.sb s14, ok, s14.seqL nlo hlo', nlo, hls, fun H5 p2 xs2 ss2 s5 t5 np2 ep2 d2 c2 b2 => ?_⟩
        have s15 := s14.trans s5
        refine ⟨szc 4, fun pt npt => ?_⟩
        have sp := same_new (o := HO.tup [V.str (Str.ofString "if"), v, .ref p1, .ref p2]) npt
        have s16 := s15.trans (Same.sb sp)
        have p1t : p1 ≠ tp := fun e => by obtain ⟨u, hu⟩ := t3.dom; rw [e, hu] at np1; cases np1
        have p2t : p2 ≠ tp := fun e => by obtain ⟨u, hu⟩ := t4.dom; rw [e, hu] at np2; cases np2
        have e16 := s16 _ _ not' eo
        refine ⟨o, _, _, rfl, rfl, e16, szl (by omega), ?_⟩
        exact ⟨_, _, _, _, _, _, o, _, _, rfl, add _ (.ref pt) (.iff c ss1 ss2) s16 ((t5.same sp).mono (by omega)) (.tup (st ((nw_at (s15.dm t5.dom _ npt)).trans upd_same)) (.cons (.str _) (.cons (dp_mono (nw_sb (s2.dm t2.dom) ((s4.trans s5).trans (Same.sb sp)) t2.dom) r1.dp) (.cons (bodyIn s13 (s5.trans (Same.sb sp)) t3.dom np1 ep1 p1t d1) (.cons (bodyIn s14 (Same.sb sp) t4.dom np2 ep2 p2t d2) .nil))))) ((NcL.tup (m := 6 + 3 * k) (.cons (NcD.str (by decide +kernel)) (.cons ((cok_nc ok.v o1).mono (Nat.le_refl _) (by omega)) (.cons ((NcL.lst c1).mono (Nat.le_refl _) (by omega)) (.cons ((NcL.lst c2).mono (Nat.le_refl _) (by omega)) (.nil (c := 0))))))).mono (by have : cl4 1 = 22 := rfl; omega) (by omega)) rfl⟩
      refine ifE (b := decide (y = 1) && decide (z < 2)) (ansAnd (fun Q q => ⟨_, rfl, rfl, _, rfl, by rw [int_eqE]; exact q⟩) (fun Q q => ⟨_, rfl, _, _, rfl, rfl, _, rfl, q⟩)) (fun hb => ?_) (fun _ => ?_)
      · have hz : z < 2 := of_decide_eq_true (and_true_r hb)
        obtain ⟨k, rfl⟩ : ∃ k', k = k' + 1 := ⟨k - 1, by omega⟩
        have e1 : BB = 40 + 3 * bt k ls.length := hBB.symm
        have e2 : TT = 26 + 3 * tc k ls.length := hTT.symm
        have B4' := (bt_up k ls.length).1
        obtain ⟨a0, a1, a2, a3, a5, ⟨g, gn⟩, ⟨g0, n0⟩, _⟩ := hth2
        refine ⟨_, rfl, .inl ⟨rfl, _, sq eo2⟩, _, rfl, _, rfl, _, _, _, _, rfl, rfl, g, atI_nat (j := 0) rfl, tp, pd, ds, a0, e.vars, 1, 0, b + 1 + bi + 1, rfl, by omega, by omega, by omega, by omega, t2, by omega, n0, g0, fun H3 v c s3 t3 r1 o1 => ?_⟩
        have s13 := s2.trans s3
        refine ⟨_, rfl, _, rfl, _, rfl, _, rfl, _, _, rfl, rfl, tp, pd, ds, th, lo, e, ls, k, 2, z + 1, b + 1 + bi + 1 + cc 1, rfl, by omega, by omega, by omega, l3, by omega, by omega, t3, by omega, hth'.sb s13, ok, s13.seqL nlo hlo', nlo, hls, fun H4 p1 xs1 ss1 s4 t4 np1 ep1 d1 c1 b1 => ?_⟩
        have s14 := s13.trans s4
        refine ⟨szc 3, fun pt npt => ?_⟩
        have sp := same_new (o := HO.tup [V.str (Str.ofString "loop"), v, .ref p1]) npt
        have s16 := s14.trans (Same.sb sp)
        have p1t : p1 ≠ tp := fun e => by obtain ⟨u, hu⟩ := t3.dom; rw [e, hu] at np1; cases np1
        have e16 := s16 _ _ not' eo
        refine ⟨o, _, _, rfl, rfl, e16, szl (by omega), ?_⟩
        exact ⟨_, _, _, _, _, _, o, _, _, rfl, add _ (.ref pt) (.loop c ss1) s16 ((t4.same sp).mono (by omega)) (.tup (st ((nw_at (s14.dm t4.dom _ npt)).trans upd_same)) (.cons (.str _) (.cons (dp_mono (nw_sb (s2.dm t2.dom) (s4.trans (Same.sb sp)) t2.dom) r1.dp) (.cons (bodyIn s13 (Same.sb sp) t3.dom np1 ep1 p1t d1) .nil)))) ((NcL.tup (m := 6 + 3 * k) (.cons (NcD.str (by decide +kernel)) (.cons ((cok_nc ok.v o1).mono (Nat.le_refl _) (by omega)) (.cons ((NcL.lst c1).mono (Nat.le_refl _) (by omega)) (.nil (c := 0)))))).mono (by have : cl4 1 = 22 := rfl; omega) (by omega)) rfl⟩
      refine ifE (b := decide (y = 2) && decide (z < 2)) (ansAnd (fun Q q => ⟨_, rfl, rfl, _, rfl, by rw [int_eqE]; exact q⟩) (fun Q q => ⟨_, rfl, _, _, rfl, rfl, _, rfl, q⟩)) (fun hb => ?_) (fun _ => ?_)
      · have hz : z < 2 := of_decide_eq_true (and_true_r hb)
        obtain ⟨k, rfl⟩ : ∃ k', k = k' + 1 := ⟨k - 1, by omega⟩
        have e1 : BB = 40 + 3 * bt k ls.length := hBB.symm
        have e2 : TT = 26 + 3 * tc k ls.length := hTT.symm
        have B4' := (bt_up k ls.length).1
        refine ⟨_, rfl, .inl ⟨rfl, _, sq eo2⟩, _, rfl, tp, pd, ds, 2, b + 1 + bi + 1, rfl, t2, by omega, by decide, fun H3 y3 s3 t3 y30 y32 => ?_⟩
        obtain ⟨N, en⟩ : ∃ N : Nat, 1 + y3 = (N : Int) := ⟨(1 + y3).toNat, by omega⟩
        have s13 := s2.trans s3
        refine ⟨_, _, rfl, rfl, N, congrArg (fun z => [V.int z]) en, by omega, by omega, fun D nD => lc_range (lo := 0) (n := N) (fun j H5 => ∃ (zs : List V) (bs : List (List ST)), Sb tp H3 H5 ∧ Tp K H5 tp pd ds (b + 1 + bi + 2 + (j : Int) * (1 + bt k ls.length)) ∧ H5 D = some (.lst zs) ∧ DpAll K (HoN D H3 H5) zs (datass bs) ∧ NcL (datass bs) (j * (1 + tc k ls.length)) (5 + 3 * k)) ⟨[], [], Same.sb (same_new nD), (t3.same (same_new nD)).mono (by omega), upd_same, .nil, .nil⟩ ?_ ?_⟩
        · rintro j H5 hj ⟨zs, bs, sb5, t5, eD, dz, nz⟩
          have s15 := s13.trans sb5
          have j1 : ((j + 1 : Nat) : Int) * (1 + bt k ls.length) = (j : Int) * (1 + bt k ls.length) + (1 + bt k ls.length) := by rw [Int.natCast_add, Int.add_mul]; show _ + 1 * (1 + bt k ls.length) = _; rw [Int.one_mul]
          have j2 : (j + 1) * (1 + tc k ls.length) = j * (1 + tc k ls.length) + (1 + tc k ls.length) := Nat.succ_mul _ _
          have jx : (j : Int) * (1 + bt k ls.length) ≤ 1 * (1 + bt k ls.length) := Int.mul_le_mul_of_nonneg_right (by omega) (by omega)
          have jn : (0 : Int) ≤ (j : Int) * (1 + bt k ls.length) := Int.mul_nonneg (by omega) (by omega)
          have zl : zs.length ≤ j * (1 + tc k ls.length) := by rw [dpa_len dz]; exact nz.len
          have jz : j * (1 + tc k ls.length) ≤ 1 * (1 + tc k ls.length) := Nat.mul_le_mul_right _ (by omega)
          rw [j1, j2]
          generalize (j : Int) * (1 + bt k ls.length) = jb at *
          generalize j * (1 + tc k ls.length) = jt at *
          dsimp only [gName]
          refine ⟨rfl, yesT4 ?_⟩
          refine ⟨_, rfl, _, rfl, _, rfl, _, rfl, _, _, rfl, rfl, tp, pd, ds, th, lo, e, ls, k, 1, z + 1, _, rfl, by omega, by omega, by omega, l3, by omega, by omega, t5, by omega, hth'.sb s15, ok, s15.seqL nlo hlo', nlo, hls, fun H6 p1 xs1 ss1 s6 t6 np1 ep1 d1 c1 b1 => ?_⟩
          have nDt : D ≠ tp := fun e => by obtain ⟨u, hu⟩ := t3.dom; rw [e, hu] at nD; cases nD
          obtain ⟨sbm, tm⟩ := tp_mut (u := .lst (zs ++ [.ref p1])) t3 t6 nD (sb5.trans s6)
          refine ⟨zs, s6 _ _ nDt eD, szl (by omega), zs ++ [.ref p1], bs ++ [ss1], sbm, tm.mono (by omega), upd_same, ?_, ?_⟩
          · rw [datass_app]
            refine dpa_app (dpAll_mono ((hoN_sb t3.dom s6).trans (hoN_mut nD)) dz) (.cons (dp_mono ((hoN_new (sb5.dm t5.dom) (Sb.refl H6) t5.dom ⟨_, eD⟩).trans (hoN_mut nD)) ?_) .nil)
            exact .lst (sq ((nw_at np1).trans ep1)) (dpAll_mono ho_out d1)
          · rw [datass_app]
            exact NcL.app nz ((NcL.cons (NcL.lst c1) (.nil (c := 0))).mono (by omega) (by omega))
        rintro H5 ⟨zs, bs, sb5, t5, eD, dz, nz⟩
        have Nx : (N : Int) * (1 + bt k ls.length) ≤ 2 * (1 + bt k ls.length) := Int.mul_le_mul_of_nonneg_right (by omega) (by omega)
        have Nt : N * (1 + tc k ls.length) ≤ 2 * (1 + tc k ls.length) := Nat.mul_le_mul_right _ (by omega)
        have nDt : D ≠ tp := fun e => by obtain ⟨u, hu⟩ := t3.dom; rw [e, hu] at nD; cases nD
        have s15 := s13.trans sb5
        refine ⟨szc 2, fun pt npt => ?_⟩
        have sp := same_new (o := HO.tup [V.str (Str.ofString "choose"), .ref D]) npt
        have s16 := s15.trans (Same.sb sp)
        refine ⟨o, _, _, rfl, rfl, s16 _ _ not' eo, szl (by omega), ?_⟩
        have dD : Dp K (Nw H' (upd H5 pt (.tup [V.str (Str.ofString "choose"), .ref D]))) (.ref D) (.list (datass bs)) := by
          have d3 := s13.dm t3.dom
          refine .lst (sq ?_) (dpAll_mono (ho_out.trans (nw_sb d3 (Same.sb sp) t3.dom)) dz)
          rw [nw_at (d3 _ nD)]
          exact sp _ _ eD
        exact ⟨_, _, _, _, _, _, o, _, _, rfl, add _ (.ref pt) (.choose bs) s16 ((t5.same sp).mono (by omega)) (.tup (st ((nw_at (s15.dm t5.dom _ npt)).trans upd_same)) (.cons (.str _) (.cons dD .nil))) ((NcL.tup (m := 6 + 3 * k) (.cons (NcD.str (by decide +kernel)) (.cons ((NcL.lst nz).mono (Nat.le_refl _) (by omega)) (.nil (c := 0))))).mono (by omega) (by omega)) rfl⟩
      refine ifE (b := decide (y < 5) && decide (0 < ((ls.map V.str).length : Int))) (ansAnd (fun Q q => ⟨_, rfl, _, _, rfl, rfl, _, rfl, q⟩) (fun Q q => ⟨_, rfl, lo, _, rfl, .inl hlo2, _, _, rfl, rfl, _, rfl, q⟩)) (fun hb => ?_) (fun _ => ?_)
      · have hl : (0 : Int) < ((ls.map V.str).length : Int) := of_decide_eq_true (by cases h : decide (0 < ((ls.map V.str).length : Int)) with | true => rfl | false => rw [h, Bool.and_false] at hb; cases hb)
        refine ⟨_, rfl, _, rfl, _, rfl, lo, _, rfl, .inl hlo2, tp, pd, ds, _, b + 1 + bi + 1, rfl, t2, by omega, hl, fun H3 y3 s3 t3 y30 y3l => ?_⟩
        obtain ⟨sv, gs, ms⟩ := at_names y30 y3l
        have s13 := s2.trans s3
        refine ⟨_, _, _, _, rfl, rfl, s3.seqL nlo hlo2, gs, ?_⟩
        dsimp only [gName]
        have hlo3 := s13.seqL nlo hlo'
        refine ⟨_, rfl, lo, rfl, ⟨_, hlo3⟩, fun D nD => ?_⟩
        refine lc_filt (K := K) (fD := PyData.str) (p := fun s => !decide (V.str s = V.str sv)) nD hlo3 (dpa_strs ls) (by omega) (fun _ => rfl) (fun _ => rfl) (fun j x ur Hx Q' hx dur sx q' => ?_) fun H4 zs s4 eD4 dz => ?_
        · obtain rfl := dp_str dur
          exact ⟨_, rfl, _, rfl, rfl, _, rfl, q' _ (Same.refl _)⟩
        obtain rfl := dpa_strsE dz
        dsimp only [gName]
        have s14 := s13.trans (Same.sb s4)
        have t4 := t3.same s4
        have Dt : D ≠ tp := fun e => by obtain ⟨u, hu⟩ := t3.dom; rw [e, hu] at nD; cases nD
        have lt : (ls.filter fun s => !decide (V.str s = V.str sv)).length < ls.length := List.length_filter_lt_length_iff_exists.mpr ⟨sv, ms, by rw [decide_eq_true rfl]; decide⟩
        have nls : ∀ s ∈ ls.filter fun s => !decide (V.str s = V.str sv), nice (.str s) = true := fun s h => hls s (List.mem_filter.mp h).1
        generalize (ls.filter fun s => !decide (V.str s = V.str sv)) = ls2 at eD4 lt nls
        obtain ⟨d, hd⟩ : ∃ d, ls.length = ls2.length + d + 1 := ⟨ls.length - ls2.length - 1, by omega⟩
        have e1 : 40 + 2 * bt (k - 1) ls2.length ≤ BB := by
          have h1 := bt_lock k (ls2.length + d)
          rw [← hd, hBB] at h1
          have := bt_mono (k - 1) (a := ls2.length) d
          omega
        have e2 : 6 + 2 * tc (k - 1) ls2.length ≤ TT := by
          have h1 := tc_lock k (ls2.length + d)
          rw [← hd, hTT] at h1
          have := tc_mono (k - 1) (a := ls2.length) d
          omega
        obtain ⟨a0, a1, a2, a3, a5, ⟨g, gn⟩, ⟨g0, n0⟩, ⟨g1, n1⟩, ⟨g2, n2⟩, ⟨g3, n3⟩, ⟨g5, n5⟩⟩ := hth'.sb s14
        refine ⟨_, rfl, _, rfl, _, _, _, _, rfl, rfl, g, atI_nat (j := 0) rfl, _, rfl, _, _, _, _, rfl, rfl, g, atI_nat (j := 1) rfl, _, rfl, _, _, _, _, rfl, rfl, g, atI_nat (j := 2) rfl, _, rfl, _, _, _, _, rfl, rfl, g, atI_nat (j := 3) rfl, _, rfl, _, _, _, _, rfl, rfl, g, atI_nat (j := 5) rfl, szc 6, fun th2 nth2 => ?_⟩
        have s5 := same_new (o := HO.lst [V.ref a0, .ref a1, .ref a2, .ref a3, .bl false, .ref a5]) nth2
        have eth : (upd H4 th2 (.lst [V.ref a0, .ref a1, .ref a2, .ref a3, .bl false, .ref a5])) th2 = some (.lst [V.ref a0, .ref a1, .ref a2, .ref a3, .bl false, .ref a5]) := upd_same
        have tht : th2 ≠ tp := fun e => by obtain ⟨u, hu⟩ := t4.dom; rw [e, hu] at nth2; cases nth2
        dsimp only
        generalize upd H4 th2 (.lst [V.ref a0, .ref a1, .ref a2, .ref a3, .bl false, .ref a5]) = H5 at s5 eth ⊢
        have t5 := t4.same s5
        have s15 := s14.trans (Same.sb s5)
        refine ⟨_, rfl, _, rfl, _, _, rfl, rfl, tp, pd, ds, th2, D, { e with free := false }, ls2, k - 1, 2, z + 1, b + 1 + bi + 2, rfl, by omega, by omega, by omega, by omega, by omega, by omega, t5.mono (by omega), by omega, ⟨a0, a1, a2, a3, a5, ⟨sq eth, tht⟩, ⟨s5.seq g0, n0⟩, ⟨s5.seq g1, n1⟩, ⟨s5.seq g2, n2⟩, ⟨s5.seq g3, n3⟩, ⟨s5.seq g5, n5⟩⟩, ⟨ok.v, ok.b, ok.c, ok.m, ok.c0, ok.m0⟩, sq (s5 _ _ eD4), Dt, nls, fun H6 p1 xs1 ss1 s6 t6 np1 ep1 d1 c1 b1 => ?_⟩
        dsimp only [gName]
        have s16 := s15.trans s6
        have x1l : xs1.length ≤ 2 * tc (k - 1) ls2.length := by rw [dpa_len d1]; exact c1.len
        have e6 := s16 _ _ not' eo
        refine ⟨_, rfl, _, rfl, szc 2, fun q1 nq1 => ⟨szc 1, fun q2 nq2 => ?_⟩⟩
        have u1 := same_new (o := HO.tup [V.str (Str.ofString "acquire"), .str sv]) nq1
        have w1 : (upd H6 q1 (.tup [V.str (Str.ofString "acquire"), .str sv])) q1 = some (.tup [V.str (Str.ofString "acquire"), .str sv]) := upd_same
        dsimp only
        generalize upd H6 q1 (.tup [V.str (Str.ofString "acquire"), .str sv]) = H7 at u1 w1 nq2 ⊢
        have u2 := same_new (o := HO.lst [V.ref q1]) nq2
        have w2 : (upd H7 q2 (.lst [V.ref q1])) q2 = some (.lst [V.ref q1]) := upd_same
        generalize upd H7 q2 (.lst [V.ref q1]) = H8 at u2 w2 ⊢
        have u12 := u1.trans u2
        refine ⟨o, q2, xs, [.ref q1], rfl, rfl, sq (u12 _ _ e6), sq w2, Nat.le_trans (by show xs.length + 1 ≤ 30000; omega) (by decide), fun q3 nq3 => ?_⟩
        have u3 := same_new (o := HO.lst (xs ++ [V.ref q1])) nq3
        have w3 : (upd H8 q3 (.lst (xs ++ [V.ref q1]))) q3 = some (.lst (xs ++ [V.ref q1])) := upd_same
        generalize upd H8 q3 (.lst (xs ++ [V.ref q1])) = H9 at u3 w3 ⊢
        have u13 := u12.trans u3
        refine ⟨_, rfl, q3, p1, _, xs1, rfl, rfl, sq w3, sq (u13 _ _ ep1), Nat.le_trans (by show (xs ++ [V.ref q1]).length + xs1.length ≤ 60000; rw [List.length_append, List.length_singleton]; omega) (by decide), fun q4 nq4 => ?_⟩
        have u4 := same_new (o := HO.lst ((xs ++ [V.ref q1]) ++ xs1)) nq4
        have w4 : (upd H9 q4 (.lst ((xs ++ [V.ref q1]) ++ xs1))) q4 = some (.lst ((xs ++ [V.ref q1]) ++ xs1)) := upd_same
        generalize upd H9 q4 (.lst ((xs ++ [V.ref q1]) ++ xs1)) = H10 at u4 w4 ⊢
        have u14 := u13.trans u4
        refine ⟨_, rfl, szc 2, fun q5 nq5 => ⟨szc 1, fun q6 nq6 => ?_⟩⟩
        have u5 := same_new (o := HO.tup [V.str (Str.ofString "release"), .str sv]) nq5
        have w5 : (upd H10 q5 (.tup [V.str (Str.ofString "release"), .str sv])) q5 = some (.tup [V.str (Str.ofString "release"), .str sv]) := upd_same
        dsimp only
        generalize upd H10 q5 (.tup [V.str (Str.ofString "release"), .str sv]) = H11 at u5 w5 nq6 ⊢
        have u6 := same_new (o := HO.lst [V.ref q5]) nq6
        have w6 : (upd H11 q6 (.lst [V.ref q5])) q6 = some (.lst [V.ref q5]) := upd_same
        generalize upd H11 q6 (.lst [V.ref q5]) = H12 at u6 w6 ⊢
        have u16 := u14.trans (u5.trans u6)
        refine ⟨q4, q6, _, [.ref q5], rfl, rfl, sq ((u5.trans u6) _ _ w4), sq w6, Nat.le_trans (by show ((xs ++ [V.ref q1]) ++ xs1).length + 1 ≤ 60000; rw [List.length_append, List.length_append, List.length_singleton]; omega) (by decide), fun q7 nq7 => ?_⟩
        have u7 := same_new (o := HO.lst (((xs ++ [V.ref q1]) ++ xs1) ++ [V.ref q5])) nq7
        have w7 : (upd H12 q7 (.lst (((xs ++ [V.ref q1]) ++ xs1) ++ [V.ref q5]))) q7 = some (.lst (((xs ++ [V.ref q1]) ++ xs1) ++ [V.ref q5])) := upd_same
        dsimp only [gName]
        generalize upd H12 q7 (.lst (((xs ++ [V.ref q1]) ++ xs1) ++ [V.ref q5])) = HZ at u7 w7 ⊢
        have uZ := u16.trans u7
        have sZ := s16.trans (Same.sb uZ)
        have sH := sb.trans sZ
        have tZ := t6.same uZ
        have n12 : H12 q7 = none := nq7
        have n6 : H6 q7 = none := u16.free n12
        have n' : H' q7 = none := s16.dm t6.dom _ n6
        have q1n : H q1 = none := (sb.trans s16).dm t6.dom _ nq1
        have q5n : H q5 = none := (sb.trans s16).dm t6.dom _ (u14.free nq5)
        have q1Z := (u2.trans (u3.trans (u4.trans (u5.trans (u6.trans u7))))) _ _ w1
        have q5Z := (u6.trans u7) _ _ w5
        have q17 : q1 ≠ q7 := fun e => by have := (u2.trans (u3.trans (u4.trans (u5.trans u6)))) _ _ w1; rw [e, n12] at this; cases this
        have q57 : q5 ≠ q7 := fun e => by have := u6 _ _ w5; rw [e, n12] at this; cases this
        refine ⟨_, _, _, _, _, _, q7, _, ((ss ++ [.acq sv]) ++ ss1) ++ [.rel sv], rfl, sH, tZ.mono (by omega), (sb.trans s16).dm t6.dom _ n6, w7, ?_, ?_, bal.block b1⟩
        · rw [datas_app, datas_app, datas_app]
          refine dpa_app (dpa_app (dpa_app (dpAll_mono (hoN_all (fun _ h => h) sZ tD n') dx) (.cons ?_ .nil)) (dpAll_mono (hoN_all ((sb.trans s15).dm t5.dom) (Same.sb uZ) t5.dom n6) d1)) (.cons ?_ .nil)
          · exact .tup (st (hoN_at q1n q17 q1Z)) (.cons (.str _) (.cons (.str _) .nil))
          · exact .tup (st (hoN_at q5n q57 q5Z)) (.cons (.str _) (.cons (.str _) .nil))
        · rw [datas_app, datas_app, datas_app]
          have na : ∀ w : Str, nice (.str w) = true → NcD (.tuple [.str w, .str sv]) 3 1 := fun w hw => NcL.tup (m := 0) (.cons (NcD.str hw) (.cons (NcD.str (hls sv ms)) (.nil (c := 0))))
          exact ((((nx.app (datas_nc1 (s := .acq sv) ((na _ (by decide +kernel)).mono (Nat.le_refl _) (by omega)))).app (c1.mono (Nat.le_refl _) (by omega))).app (datas_nc1 (s := .rel sv) ((na _ (by decide +kernel)).mono (Nat.le_refl _) (by omega))))).mono (by omega) (Nat.le_refl _)
      obtain ⟨a0, a1, a2, a3, a5, ⟨g, gn⟩, ⟨g0, n0⟩, ⟨g1, n1⟩, ⟨g2, n2⟩, ⟨g3, n3⟩, ⟨g5, n5⟩⟩ := id hth2
      refine ifE (b := decide (y = 5) && (decide (0 < ((e.bells.map V.str).length : Int)) && e.free)) (ansAnd (fun Q q => ⟨_, rfl, rfl, _, rfl, by rw [int_eqE]; exact q⟩) (ansAnd (fun Q q => ⟨_, rfl, _, _, _, _, rfl, rfl, g, atI_nat (j := 2) rfl, a2, _, rfl, .inl g2, _, _, rfl, rfl, _, rfl, q⟩) (fun Q q => ⟨_, rfl, _, _, _, _, rfl, rfl, g, atI_nat (j := 4) rfl, _, rfl, q⟩))) (fun hb => ?_) (fun _ => ?_)
      · have hl : (0 : Int) < ((e.bells.map V.str).length : Int) := of_decide_eq_true (by cases h : decide (0 < ((e.bells.map V.str).length : Int)) with | true => rfl | false => rw [h, Bool.false_and, Bool.and_false] at hb; cases hb)
        refine ⟨_, rfl, .inl ⟨rfl, _, sq eo2⟩, _, rfl, _, _, _, _, rfl, rfl, g, atI_nat (j := 2) rfl, _, rfl, _, rfl, _, _, _, _, rfl, rfl, g, atI_nat (j := 2) rfl, a2, _, rfl, .inl g2, tp, pd, ds, _, b + 1 + bi + 1, rfl, t2, by omega, hl, fun H3 y3 s3 t3 y30 y3l => ?_⟩
        obtain ⟨sv, gs, ms⟩ := at_names y30 y3l
        refine ⟨_, _, _, _, rfl, rfl, s3.seqL n2 g2, gs, szc 2, fun pt npt => ?_⟩
        have s13 := s2.trans s3
        have sp := same_new (o := HO.tup [V.str (Str.ofString "rest"), .str sv]) npt
        have s16 := s13.trans (Same.sb sp)
        refine ⟨o, _, _, rfl, rfl, s16 _ _ not' eo, szl (by omega), ?_⟩
        exact ⟨_, _, _, _, _, _, o, _, _, rfl, add _ (.ref pt) (.rest sv) s16 ((t3.same sp).mono (by omega)) (.tup (st ((nw_at (s13.dm t3.dom _ npt)).trans upd_same)) (.cons (.str _) (.cons (.str _) .nil))) ((NcL.tup (m := 0) (.cons (NcD.str (by decide +kernel)) (.cons (NcD.str (ok.b sv ms)) (.nil (c := 0))))).mono (by omega) (by omega)) rfl⟩
      refine ⟨_, rfl, .inl ⟨rfl, _, sq eo2⟩, _, rfl, _, rfl, tp, pd, ds, th, e, b + 1 + bi + 1, rfl, t2, by omega, hth2, ok, fun H3 v s s3 t3 dv nv hr => ?_⟩
      have s13 := s2.trans s3
      refine ⟨o, _, _, rfl, rfl, s13 _ _ not' eo, szl (by omega), ?_⟩
      exact ⟨_, _, _, _, _, _, o, _, _, rfl, add _ v s s13 (t3.mono (by omega)) (dp_mono (nw_sb (s2.dm t2.dom) (Sb.refl H3) t2.dom) dv) (nv.mono (by omega) (by omega)) hr⟩
    rintro σ' H' ⟨y6, y7, y8, y9, y10, y11, o, xs, ss, rfl, sb, tt, no, eo, dx, nx, bal⟩
    have h1 : (yn : Int) * BB ≤ (mo : Int) * BB := Int.mul_le_mul_of_nonneg_right (by omega) (by omega)
    exact ⟨_, rfl, q H' o xs ss sb (tt.mono (by omega)) no eo dx (nx.mono (Nat.mul_le_mul_right _ ym) (Nat.le_refl _)) bal⟩
end
/-! ### the size of a body -/
def ST.word : ST → Str
  | .skip => Str.ofString "skip"
  | .set _ _ => Str.ofString "set"
  | .acq _ => Str.ofString "acquire"
  | .rel _ => Str.ofString "release"
  | .rest _ => Str.ofString "rest"
  | .wake _ => Str.ofString "wake"
  | .start _ => Str.ofString "start"
  | .chk _ => Str.ofString "check"
  | .awt _ => Str.ofString "await"
  | .mark _ => Str.ofString "mark"
  | .iff _ _ _ => Str.ofString "if"
  | .loop _ _ => Str.ofString "loop"
  | .choose _ => Str.ofString "choose"
def ST.tail : ST → List PyData
  | .skip => []
  | .set n v => [.str n, v.data]
  | .acq l => [.str l]
  | .rel l => [.str l]
  | .rest b => [.str b]
  | .wake b => [.str b]
  | .start k => [.str k]
  | .chk c => [c.data]
  | .awt c => [c.data]
  | .mark m => [.str m]
  | .iff c a b => [c.data, .list (datas a), .list (datas b)]
  | .loop c a => [c.data, .list (datas a)]
  | .choose bs => [.list (datass bs)]
theorem ST.data_eq (s : ST) : s.data = .tuple (.str s.word :: s.tail) := by cases s <;> rfl
theorem word_iff {s : ST} (h : s.word = Str.ofString "if") : ∃ c a b, s = .iff c a b := by
  cases s <;> first
    | exact ⟨_, _, _, rfl⟩
    | exact absurd h (by show ¬ (Str.ofString _ = Str.ofString "if"); decide +kernel)
theorem word_loop {s : ST} (h : s.word = Str.ofString "loop") : ∃ c a, s = .loop c a := by
  cases s <;> first
    | exact ⟨_, _, rfl⟩
    | exact absurd h (by show ¬ (Str.ofString _ = Str.ofString "loop"); decide +kernel)
theorem word_choose {s : ST} (h : s.word = Str.ofString "choose") : ∃ bs, s = .choose bs := by
  cases s <;> first
    | exact ⟨_, rfl⟩
    | exact absurd h (by show ¬ (Str.ofString _ = Str.ofString "choose"); decide +kernel)
theorem word_rel {s : ST} (h : s.word = Str.ofString "release") : ∃ l, s = .rel l := by
  cases s <;> first
    | exact ⟨_, rfl⟩
    | exact absurd h (by show ¬ (Str.ofString _ = Str.ofString "release"); decide +kernel)
theorem ncl_mem {d : PyData} : ∀ {ds : List PyData} {c m : Nat}, NcL ds c m → d ∈ ds → NcD d c m
  | x :: ds, c, m, h, hm => by
    have e1 : nice x = true ∧ niceAll ds = true := by have := h.ni; simpa only [niceAll, Bool.and_eq_true] using this
    have e2 : cells x + cellsAll ds ≤ c := h.ce
    have e3 : max x.depth (PyData.depthAll ds) ≤ m := h.de
    rcases List.mem_cons.mp hm with rfl | hm
    · exact ⟨e1.1, by omega, by omega⟩
    · exact ncl_mem ⟨e1.2, by omega, by omega⟩ hm
theorem ncd_tup {ds : List PyData} {c m : Nat} (h : NcD (.tuple ds) c m) : ∃ m', m = m' + 1 ∧ NcL ds c m' := by
  have e2 : cellsAll ds + 1 ≤ c := h.ce
  have e3 : PyData.depthAll ds + 1 ≤ m := h.de
  exact ⟨m - 1, by omega, h.ni, by omega, by omega⟩
theorem ncd_lst {ds : List PyData} {c m : Nat} (h : NcD (.list ds) c m) : ∃ m', m = m' + 1 ∧ NcL ds c m' := by
  have e2 : cellsAll ds + 1 ≤ c := h.ce
  have e3 : PyData.depthAll ds + 1 ≤ m := h.de
  exact ⟨m - 1, by omega, h.ni, by omega, by omega⟩
section
variable {P : Program} {w : World} {K : PySem.W.Frag} {mg : Str → Option Value} {base : Heap}
def spSz4 (K : PySem.W.Frag) (n : Nat) : Sp := fun vs H Q _ => ∃ (v : V) (ss : List ST) (c m : Nat), vs = [v] ∧ Dp K H v (.list (datas ss)) ∧ NcL (datas ss) c m ∧ c ≤ 40000 ∧ m < n ∧ ∀ H' z, Same H H' → (ss = [] → z = 0) → Q (.int z) H'
abbrev s_law_size : Stmt := topS 12
theorem sc_law_size : FnScope ["body", "size", "statement", "inner"] ["body"] (defScope s_law_size) := ⟨rfl, rfl, rfl, by decide +kernel, rfl, by decide +kernel, by decide +kernel⟩
-- _law_size slots: body=0 size=1 statement=2 inner=3(None) globals: _law_size sum
set_option maxHeartbeats 2000000 in
theorem fd_law_size {f : Addr} {fd : FuncData} (F : Fun K "_law_size" "_law_size" s_law_size f fd) (m : mg "_law_size" = some (.ref f)) (B : Bt mg) : ∀ n : Nat, Fd P w K mg base "_law_size" ["body"] (n + 1) (spSz4 K n)
  | 0 => Fd.none F m (F.binds (ps := ["body"]) fun _ _ _ _ _ _ us hl => match us, hl with | [_], _ => rfl) fun vs H Q E h => by
    obtain ⟨v, ss, c, m, _, _, _, _, h1, _⟩ := h
    omega
  | n + 1 => by
    have D_law_size := fd_law_size F m B n
    refine ⟨f, fd, F.ok sc_law_size (fun vs H Q E h => ?_) (fun cdv A outer s H vs Q E hr h => ?_), m, F.kp, F.binds (ps := ["body"]) fun _ _ _ _ _ _ us hl => match us, hl with | [_], _ => rfl⟩
    · obtain ⟨v, ss, c, m, rfl, _⟩ := h
      rfl
    obtain ⟨v, ss, c, mm, rfl, dv, nc, hc, hm, q⟩ := h
    obtain ⟨a, xs, rfl, ha, dx⟩ := dp_lst dv
    rw [datas_map] at dx
    have xl := dpa_map_len dx
    refine ⟨_, (pss_cons (ps_set (i := 1) sc_law_size.nd rfl (Or.inl rfl) pe_int)
 (pss_cons (ps_for PassesOwn.never rfl (piL K (pv 0)) (pg_name (i := 2) sc_law_size.nd rfl (Or.inl rfl))
 (C8.pss_cut (ps_aug (i := 1) sc_law_size.nd rfl (Or.inl rfl) (pe_ifExp (pt_cmpR op_eq (pe_ix (ixT K) (pv 2) pe_int (fun _ _ => rfl)) pe_str (nomark _)) pe_int pe_int) ip_add)
 (pss_one (ps_if (pt_cmpR op_eq (pe_ix (ixT K) (pv 2) pe_int (fun _ _ => rfl)) pe_str (nomark _))
 (pss_one (ps_aug (i := 1) sc_law_size.nd rfl (Or.inl rfl) (pe_op op_add (pe_fn D_law_size hr rfl (pa_cons (pe_ix (ixT K) (pv 2) pe_int (fun _ _ => rfl)) pa_nil)) (pe_fn D_law_size hr rfl (pa_cons (pe_ix (ixT K) (pv 2) pe_int (fun _ _ => rfl)) pa_nil))) ip_add))
 (pss_one (ps_if (pt_cmpR op_eq (pe_ix (ixT K) (pv 2) pe_int (fun _ _ => rfl)) pe_str (nomark _))
 (pss_one (ps_aug (i := 1) sc_law_size.nd rfl (Or.inl rfl) (pe_fn D_law_size hr rfl (pa_cons (pe_ix (ixT K) (pv 2) pe_int (fun _ _ => rfl)) pa_nil)) ip_add))
 (pss_one (ps_if (pt_cmpR op_eq (pe_ix (ixT K) (pv 2) pe_int (fun _ _ => rfl)) pe_str (nomark _))
 (pss_one (ps_aug (i := 1) sc_law_size.nd rfl (Or.inl rfl) (pe_callB (cSum K rfl) (by rfl) B.sum (by decide +kernel) (pa_cons (pe_lc (own := [("inner", 3)]) (g := gName 3) (by rfl) sc_law_size.nd (piL K (pe_ix (ixT K) (pv 2) pe_int (fun _ _ => rfl))) (blkOk_by (own := [("inner", 3)]) (N := ["body", "size", "statement", "inner"]) (sc := (defScope s_law_size)) (by decide +kernel)) (fun _ _ _ _ _ => (pg_name (i := 3) sc_law_size.nd rfl (Or.inl rfl))) (fun _ _ _ _ _ => pts_nil) (fun _ _ _ _ _ => (pe_fn D_law_size hr rfl (pa_cons (pv 3) pa_nil)))) pa_nil)) ip_add))
 pss_nil))))))))
 (pss_one (ps_ret (pv 1))))), ?_⟩
    refine ⟨_, rfl, a, rfl, ⟨_, ha⟩, for_list (xs := xs) (fun i σ' H' => ∃ (z : Int) (y2 y3 : Option V), σ' = [some (.ref a), some (.int z), y2, y3] ∧ Same H H' ∧ (i = 0 → z = 0)) ⟨0, none, none, rfl, Same.refl _, fun _ => rfl⟩ ?_ ?_ ?_⟩
    · rintro i σ' H' _ ⟨z, y2, y3, rfl, sm, _⟩
      exact sm.seq ha
    · rintro i u σ' H' hu ⟨z, y2, y3, rfl, sm, _⟩
      obtain ⟨s, hs, du⟩ := dpa_map_at dx hu
      have ns : NcD s.data c mm := ncl_mem nc (by rw [datas_map]; exact List.mem_map_of_mem (List.mem_of_getElem? hs))
      rw [ST.data_eq] at du ns
      obtain ⟨ta, tx0, rfl, ht, dt0⟩ := dp_tup (dp_mono sm du)
      obtain ⟨v0, tx, rfl, d0, dt⟩ := dpa_cons dt0
      obtain rfl := dp_str d0
      clear dt0
      obtain ⟨m1, rfl, nt⟩ := ncd_tup ns
      dsimp only [gName]
      have done : ∀ (H3 : Hp) (z : Int) (y3 : Option V), Same H' H3 → ∃ (z' : Int) (y2' y3' : Option V), [some (V.ref a), some (.int z), some (.ref ta), y3] = [some (.ref a), some (.int z'), y2', y3'] ∧ Same H H3 ∧ (i + 1 = 0 → z' = 0) := fun H3 z y3 s3 => ⟨z, _, _, rfl, sm.trans s3, fun e => by omega⟩
      refine ⟨fun σ' H3 => ∃ z : Int, σ' = [some (.ref a), some (.int z), some (.ref ta), y3] ∧ H3 = H', ?_, ?_⟩
      · refine ⟨_, rfl, _, rfl, _, _, _, _, rfl, rfl, ht, atI_nat (j := 0) rfl, rfl, _, rfl, ite2 (fun _ => ?_) (fun _ => ?_)⟩
        · exact ⟨_, _, rfl, rfl, _, rfl, rfl⟩
        · exact ⟨_, _, rfl, rfl, _, rfl, rfl⟩
      rintro σ' H3 ⟨z, rfl, rfl⟩
      have wd : ∀ (k : Str) (Q : Bool → Hp → Prop), Q (decide (V.str s.word = V.str k)) H3 → tTest (tOp rEq (tOp (rIxT K) (tVar 2) (tC (V.int 0))) (tC (V.str k))) [some (V.ref a), some (.int z), some (.ref ta), y3] H3 Q := fun k Q q => ⟨_, rfl, _, _, _, _, rfl, rfl, ht, atI_nat (j := 0) rfl, rfl, _, rfl, q⟩
      have no : ∀ {k : Str}, decide (V.str s.word = V.str k) = true → s.word = k := fun h => by have := of_decide_eq_true h; injection this
      refine ifE (wd _) (fun h1 => ?_) (fun _ => ifE (wd _) (fun h1 => ?_) (fun _ => ifE (wd _) (fun h1 => ?_) (fun _ => done _ _ _ (Same.refl _))))
      · obtain ⟨c1, b1, b2, rfl⟩ := word_iff (no h1)
        obtain ⟨v1, r1, rfl, d1, dt1⟩ := dpa_cons dt
        obtain ⟨v2, r2, rfl, d2, dt2⟩ := dpa_cons dt1
        obtain ⟨v3, r3, rfl, d3, dt3⟩ := dpa_cons dt2
        obtain ⟨m2, e2, n2⟩ := ncd_lst (ncl_mem nt (show PyData.list (datas b1) ∈ _ from List.mem_cons_of_mem _ (List.mem_cons_of_mem _ List.mem_cons_self)))
        obtain ⟨m3, e3, n3⟩ := ncd_lst (ncl_mem nt (show PyData.list (datas b2) ∈ _ from List.mem_cons_of_mem _ (List.mem_cons_of_mem _ (List.mem_cons_of_mem _ List.mem_cons_self))))
        refine ⟨_, rfl, _, rfl, _, _, _, _, rfl, rfl, ht, atI_nat (j := 2) rfl, v2, b1, c, m2, rfl, d2, n2, hc, by omega, fun H4 z4 s4 _ => ?_⟩
        refine ⟨_, rfl, _, _, _, _, rfl, rfl, Same.seqT s4 ht, atI_nat (j := 3) rfl, v3, b2, c, m3, rfl, dp_mono s4 d3, n3, hc, by omega, fun H5 z5 s5 _ => ?_⟩
        exact ⟨_, _, rfl, rfl, _, _, rfl, rfl, done _ _ _ (s4.trans s5)⟩
      · obtain ⟨c1, b1, rfl⟩ := word_loop (no h1)
        obtain ⟨v1, r1, rfl, d1, dt1⟩ := dpa_cons dt
        obtain ⟨v2, r2, rfl, d2, dt2⟩ := dpa_cons dt1
        obtain ⟨m2, e2, n2⟩ := ncd_lst (ncl_mem nt (show PyData.list (datas b1) ∈ _ from List.mem_cons_of_mem _ (List.mem_cons_of_mem _ List.mem_cons_self)))
        refine ⟨_, rfl, _, rfl, _, _, _, _, rfl, rfl, ht, atI_nat (j := 2) rfl, v2, b1, c, m2, rfl, d2, n2, hc, by omega, fun H4 z4 s4 _ => ?_⟩
        exact ⟨_, _, rfl, rfl, done _ _ _ s4⟩
      · obtain ⟨bs, rfl⟩ := word_choose (no h1)
        obtain ⟨v1, r1, rfl, d1, dt1⟩ := dpa_cons dt
        obtain ⟨b1, ys, rfl, hb1, dys⟩ := dp_lst d1
        obtain ⟨m2, e2, n2⟩ := ncd_lst (ncl_mem nt (show PyData.list (datass bs) ∈ _ from List.mem_cons_of_mem _ List.mem_cons_self))
        have yl : ys.length ≤ c := by rw [dpa_len dys]; exact n2.len
        refine ⟨_, rfl, _, rfl, _, _, _, _, rfl, rfl, ht, atI_nat (j := 1) rfl, b1, rfl, ⟨_, hb1⟩, fun D nD => lc_list (xs := ys) (fun j H4 => Same H3 H4 ∧ ∃ ns : List Int, ns.length ≤ j ∧ H4 D = some (.lst (ns.map V.int))) ⟨same_new nD, [], Nat.le_refl _, upd_same⟩ (fun i H' _ p => p.1.seq hb1) ?_ ?_⟩
        · rintro j y H4 hy ⟨sm4, ns, nl, eD⟩
          obtain ⟨d, hdj, dy⟩ := dpa_at dys hy
          have jl := (List.getElem?_eq_some_iff.mp hy).1
          have dm := List.mem_of_getElem? hdj
          rw [datass_map] at hdj
          obtain ⟨b, hbj, rfl⟩ : ∃ b, bs[j]? = some b ∧ PyData.list (datas b) = d := by
            rw [List.getElem?_map] at hdj
            cases e : bs[j]? with
            | none => rw [e] at hdj; cases hdj
            | some s => rw [e] at hdj; exact ⟨s, rfl, Option.some.inj hdj⟩
          obtain ⟨m3, e3, n3⟩ := ncd_lst (ncl_mem n2 dm)
          dsimp only [gName]
          refine ⟨rfl, yesT4 ?_⟩
          refine ⟨_, rfl, y, b, c, m3, rfl, dp_mono sm4 dy, n3, hc, by omega, fun H5 z5 s5 _ => ⟨_, s5 _ _ eD, szl (by rw [List.length_map]; omega), Same.mut (sm4.trans s5) nD, ns ++ [z5], by rw [List.length_append, List.length_singleton]; omega, by rw [upd_same, List.map_append]; rfl⟩⟩
        rintro H4 ⟨sm4, ns, nl, eD⟩
        exact ⟨D, ns, rfl, sq eD, _, _, rfl, rfl, done _ _ _ sm4⟩
    rintro σ' H' ⟨z, y2, y3, rfl, sm, hz⟩
    exact ⟨_, rfl, q H' z sm fun e => hz (by rw [xl, e]; rfl)⟩
end
theorem ncl_take : ∀ {ds : List PyData} {c m : Nat} (k : Nat), NcL ds c m → NcL (ds.take k) c m
  | [], c, m, k, h => by rw [List.take_nil]; exact h
  | d :: ds, c, m, 0, h => ⟨rfl, Nat.zero_le _, Nat.zero_le _⟩
  | d :: ds, c, m, k + 1, h => by
    have e1 : nice d = true ∧ niceAll ds = true := by have := h.ni; simpa only [niceAll, Bool.and_eq_true] using this
    have e2 : cells d + cellsAll ds ≤ c := h.ce
    have e3 : max d.depth (PyData.depthAll ds) ≤ m := h.de
    have := NcL.cons (c1 := cells d) (m := m) ⟨e1.1, Nat.le_refl _, by omega⟩ (ncl_take k (c := cellsAll ds) ⟨e1.2, Nat.le_refl _, by omega⟩)
    exact this.mono e2 (Nat.le_refl _)
theorem cut_head4 (xs : List V) (i : Nat) : cutV xs none (some (i : Int)) = xs.take i := by
  unfold cutV
  rw [HT.sIx_nat]
  show List.take (min i xs.length - 0) (List.drop 0 xs) = _
  rw [Nat.sub_zero, List.drop_zero]
  rcases Nat.le_total i xs.length with h | h
  · rw [Nat.min_eq_left h]
  · rw [Nat.min_eq_right h, List.take_of_length_le h, List.take_of_length_le (Nat.le_refl _)]
theorem dpa_take4 {K : PySem.W.Frag} {H : Hp} : ∀ {ds : List PyData} {xs : List V} (i : Nat), DpAll K H xs ds → DpAll K H (xs.take i) (ds.take i)
  | [], _, i, h => by rw [dpa_nil h, List.take_nil, List.take_nil]; exact .nil
  | d :: ds, xs, i, h => by
    obtain ⟨v, r, rfl, h1, h2⟩ := dpa_cons h
    cases i with
    | zero => exact .nil
    | succ i => exact .cons h1 (dpa_take4 i h2)
theorem datas_take (ss : List ST) (k : Nat) : datas (ss.take k) = (datas ss).take k := by rw [datas_map, datas_map, List.map_take]
section
variable {P : Program} {w : World} {K : PySem.W.Frag} {mg : Str → Option Value} {base : Heap}
def spCut4 (K : PySem.W.Frag) (n : Nat) : Sp := fun vs H Q _ => ∃ (v : V) (ss : List ST) (mo : Int) (c m : Nat) (Hs : Hp), vs = [v, .int mo] ∧ 0 ≤ mo ∧ Dm Hs H ∧ Dp K (Nw Hs H) v (.list (datas ss)) ∧ NcL (datas ss) c m ∧ c ≤ 40000 ∧ m < n ∧ m ≤ 60 ∧ Bal ss ∧ ∀ H' v' k, Same H H' → Dp K (Nw Hs H') v' (.list (datas (ss.take k))) → Q v' H'
abbrev s_law_cut : Stmt := topS 13
theorem sc_law_cut : FnScope ["body", "most", "turn", "at"] ["body", "most"] (defScope s_law_cut) := ⟨rfl, rfl, rfl, by decide +kernel, rfl, by decide +kernel, by decide +kernel⟩
-- _law_cut slots: body=0 most=1 turn=2 at=3 globals: range _law_size len
set_option maxHeartbeats 4000000 in
theorem fd_law_cut {f : Addr} {fd : FuncData} (F : Fun K "_law_cut" "_law_cut" s_law_cut f fd) (m : mg "_law_cut" = some (.ref f)) (B : Bt mg) (D_law_size : Fd P w K mg base "_law_size" ["body"] 17 (spSz4 K 16)) : Fd P w K mg base "_law_cut" ["body", "most"] 18 (spCut4 K 16) := by
  refine ⟨f, fd, F.ok sc_law_cut (fun vs H Q E h => ?_) (fun cdv A outer s H vs Q E hr h => ?_), m, F.kp, F.binds (ps := ["body", "most"]) fun _ _ _ _ _ _ us hl => match us, hl with | [_, _], _ => rfl⟩
  · obtain ⟨v, ss, mo, c, m, Hs, rfl, _⟩ := h
    rfl
  obtain ⟨v, ss, mo, c, mm, Hs, rfl, m0, dm, dv, nc, hc, hm, h60, bal, q⟩ := h
  refine ⟨_, (pss_cons (ps_for PassesOwn.never rfl (pi_range1 rfl B.range (pa_cons pe_int pa_nil)) (pg_name (i := 2) sc_law_cut.nd rfl (Or.inl rfl))
 (pss_cons (ps_if (pt_cmpR op_le (pe_fn D_law_size (hr.mono (by decide)) rfl (pa_cons (pv 0) pa_nil)) (pv 1) (nomark _))
 (pss_one (ps_ret (pv 0)))
 pss_nil)
 (pss_cons (ps_set (i := 3) sc_law_cut.nd rfl (Or.inl rfl) (pe_op op_sub (pe_callB (cLen K) (by rfl) B.len PySem.boot_len (pa_cons (pv 0) pa_nil)) pe_int))
 (C8.pss_cut (ps_if (pt_cmpR op_eq (pe_ix (ixT K) (pe_ix (ixL K) (pv 0) (pv 3) (fun _ _ => rfl)) pe_int (fun _ _ => rfl)) pe_str (nomark _))
 (pss_one (ps_while PassesOwn.never (pt_cmpR (opNeD K hr.units) (pe_ix (ixL K) (pv 0) (pv 3) (fun _ _ => rfl)) (pe_tup (pa_cons pe_str (pa_cons (pe_ix (ixT K) (pe_ix (ixL K) (pv 0) (pe_op op_sub (pe_callB (cLen K) (by rfl) B.len PySem.boot_len (pa_cons (pv 0) pa_nil)) pe_int) (fun _ _ => rfl)) pe_int (fun _ _ => rfl)) pa_nil))) (nomark _))
 (pss_one (ps_set (i := 3) sc_law_cut.nd rfl (Or.inl rfl) (pe_op op_sub (pv 3) pe_int)))))
 pss_nil)
 (pss_one (ps_set (i := 0) sc_law_cut.nd rfl (Or.inl rfl) (pe_slice (slL K) (pv 0) po_none (po_some (pv 3)))))))))
 (pss_one (ps_ret (pv 0)))), ?_⟩
  refine ⟨40, rfl, by decide, by decide, for_range (lo := 0) (n := 40) (fun i σ' H' => ∃ (v : V) (k : Nat) (y2 y3 : Option V), σ' = [some v, some (.int mo), y2, y3] ∧ Same H H' ∧ Dp K (Nw Hs H') v (.list (datas (ss.take k)))) ⟨v, ss.length, none, none, rfl, Same.refl _, by rw [List.take_length]; exact dv⟩ ?_ ?_⟩
  · rintro i σ' H' hi ⟨v, k, y2, y3, rfl, sm, dv⟩
    have bal := bal.take k
    have nc : NcL (datas (ss.take k)) c mm := by rw [datas_take]; exact ncl_take k nc
    have up : ∀ j, ∃ k', (ss.take k).take j = ss.take k' := fun j => ⟨min j k, by rw [List.take_take]⟩
    generalize ss.take k = ts at *
    obtain ⟨a, xs, rfl, ha0, dx⟩ := dp_lst dv
    have ha := nw_same.seq ha0
    have xl : xs.length = ts.length := (dpa_len dx).trans (datas_len ts)
    have tl : ts.length ≤ c := by have := nc.len; rw [datas_len] at this; exact this
    refine ⟨_, rfl, .ref a, ts, c, mm, rfl, dp_mono nw_same dv, nc, hc, hm, fun H2 z s2 hz => ⟨_, rfl, _, _, rfl, rfl, _, rfl, ite2 (fun _ => ?_) (fun e => ?_)⟩⟩
    · obtain ⟨k', hk⟩ := up ts.length
      rw [List.take_length] at hk
      exact ⟨_, rfl, q H2 _ k' (sm.trans s2) (hk ▸ dp_mono (nw_mono2 (fun _ h => h) s2) dv)⟩
    have ne : ts ≠ [] := fun e' => e (decide_eq_true (by rw [hz e']; exact m0))
    have ha2 := s2.seq ha
    obtain ⟨N, hN⟩ : ∃ N, xs.length = N + 1 := ⟨xs.length - 1, by
      have : ts.length ≠ 0 := fun e => ne (List.length_eq_zero_iff.mp e)
      omega⟩
    have eN : ((xs.length : Nat) : Int) - 1 = (N : Int) := by omega
    have dx2 : DpAll K H2 xs (ts.map ST.data) := by rw [← datas_map]; exact dpAll_mono (nw_same.trans s2) dx
    have el : ∀ j, j ≤ N → ∃ (s : ST) (ta : Addr) (tx : List V), ts[j]? = some s ∧ xs[j]? = some (.ref ta) ∧ SqT K H2 ta (.str s.word :: tx) ∧ DpAll K H2 tx s.tail := fun j hj => by
      obtain ⟨s, hs⟩ : ∃ s, ts[j]? = some s := ⟨_, List.getElem?_eq_getElem (by omega)⟩
      obtain ⟨x, hx, du⟩ := dpa_map_at' dx2 hs
      rw [ST.data_eq] at du
      obtain ⟨ta, tx0, rfl, ht, dt0⟩ := dp_tup du
      obtain ⟨v0, tx, rfl, d0, dt⟩ := dpa_cons dt0
      obtain rfl := dp_str d0
      exact ⟨s, ta, tx, hs, hx, ht, dt⟩
    have shp : ∀ s ∈ ts, SeqAt.shaped s.data = true := fun s hs => (ncl_mem nc (by rw [datas_map]; exact List.mem_map_of_mem hs)).shaped (by omega)
    have refl' : ∀ s ∈ ts, PyData.eqv s.data s.data = true := fun s hs => (ncl_mem nc (by rw [datas_map]; exact List.mem_map_of_mem hs)).eqv
    refine ⟨_, rfl, a, _, rfl, .inl ha2, _, _, rfl, rfl, ?_⟩
    dsimp only [gName]
    rw [eN]
    refine ⟨fun σ' H3 => ∃ j : Nat, σ' = [some (.ref a), some (.int mo), some (.int (0 + (i : Int))), some (.int (j : Int))] ∧ Same H2 H3, ?_, ?_⟩
    · obtain ⟨s, ta, tx, hs, hx, ht, dt⟩ := el N (Nat.le_refl _)
      refine ⟨_, rfl, _, rfl, _, _, _, _, rfl, rfl, ha2, atI_nat hx, _, _, _, _, rfl, rfl, ht, atI_nat (j := 0) rfl, rfl, _, rfl, ite2 (fun h => ?_) (fun _ => ⟨N, rfl, Same.refl _⟩)⟩
      obtain ⟨l, rfl⟩ := word_rel (by have := of_decide_eq_true h; injection this)
      obtain ⟨j0, j0N, hj0⟩ := bal N l hs
      obtain ⟨vl, tx1, rfl, dl, dt1⟩ := dpa_cons dt
      obtain rfl := dp_str dl
      refine ⟨fun m σ' H3 => ∃ j : Nat, m = j ∧ j0 ≤ j ∧ j ≤ N ∧ σ' = [some (.ref a), some (.int mo), some (.int (0 + (i : Int))), some (.int (j : Int))] ∧ Same H2 H3, ⟨N, N, rfl, by omega, Nat.le_refl _, rfl, Same.refl _⟩, ?_⟩
      rintro m' σ' H3 ⟨j, ej, h1, h2, rfl, s3⟩
      obtain ⟨s2', ta2, tx2, hs2, hx2, ht2, dt2⟩ := el j h2
      have ha3 := s3.seq ha2
      refine ⟨_, rfl, _, rfl, _, _, _, _, rfl, rfl, ha3, atI_nat hx2, ?_⟩
      refine ⟨_, rfl, _, rfl, a, _, rfl, .inl ha3, _, _, rfl, rfl, _, _, _, _, rfl, rfl, ha3, (by rw [eN]; exact atI_nat hx), _, _, _, _, rfl, rfl, Same.seqT s3 ht, atI_nat (j := 1) rfl, szc 2, fun p np => ?_⟩
      have sp := same_new (o := HO.tup [V.str (Str.ofString "acquire"), .str l]) np
      refine ⟨s2'.data, (ST.acq l).data, ?_, .tup (st upd_same) (.cons (.str _) (.cons (.str _) .nil)), shp _ (List.mem_of_getElem? hs2), shp _ (List.mem_of_getElem? hj0), _, rfl, ?_⟩
      · rw [ST.data_eq]
        exact .tup (Same.seqT (s3.trans sp) ht2) (.cons (.str _) (dpAll_mono (s3.trans sp) dt2))
      cases hq : PyData.eqv s2'.data (ST.acq l).data with
      | true => exact iteFx rfl ⟨j, rfl, s3.trans sp⟩
      | false =>
        have jj : j0 ≠ j := fun e' => by
          rw [e', hs2] at hj0
          rw [Option.some.inj hj0, refl' (.acq l) (by rw [← Option.some.inj hj0]; exact List.mem_of_getElem? hs2)] at hq
          cases hq
        refine iteTx rfl ⟨fun σ' H4 => ∃ j' : Nat, j' + 1 = j ∧ σ' = [some (.ref a), some (.int mo), some (.int (0 + (i : Int))), some (.int (j' : Int))] ∧ Same H2 H4, ?_, ?_⟩
        · rintro σ' H4 ⟨j', hj', rfl, s4⟩
          exact ⟨j', by omega, j', rfl, by omega, by omega, rfl, s4⟩
        · refine ⟨_, rfl, _, _, rfl, rfl, ?_⟩
          obtain ⟨j', rfl⟩ : ∃ j', j = j' + 1 := ⟨j - 1, by omega⟩
          exact ⟨j', rfl, by dsimp only [gName]; rw [show ((j' + 1 : Nat) : Int) - 1 = (j' : Int) by omega]; rfl, s3.trans sp⟩
    rintro σ' H3 ⟨j, rfl, s3⟩
    have s23 := s2.trans s3
    refine ⟨_, rfl, _, rfl, _, rfl, a, xs, rfl, s3.seq ha2, fun p np => ?_⟩
    dsimp only [gName]
    have sp := same_new (o := HO.lst (cutV xs none (some (j : Int)))) np
    obtain ⟨k', hk⟩ := up j
    refine ⟨.ref p, k', _, _, rfl, (sm.trans s23).trans sp, ?_⟩
    rw [← hk, datas_take]
    refine .lst (sq ?_) (dpAll_mono (nw_mono2 (fun _ h => h) (s23.trans sp)) (dpa_take4 j dx))
    rw [nw_at (dm _ ((sm.trans s23).free np)), upd_same, cut_head4]
  rintro σ' H' ⟨v, k, y2, y3, rfl, sm, dv⟩
  exact ⟨_, rfl, q H' v k sm dv⟩
end
/-! ### names of stage 4 -/
structure Nm4 (n : Nat) (s : Str) : Prop where
  asc : ∀ c ∈ s.cps.toList, c < 128
  len : s.length ≤ n
theorem Nm4.mono {n m : Nat} {s : Str} (h : Nm4 n s) (l : n ≤ m) : Nm4 m s := ⟨h.asc, Nat.le_trans h.len l⟩
theorem Nm4.app {n m : Nat} {a b : Str} (h : Nm4 n a) (g : Nm4 m b) : Nm4 (n + m) (a ++ b) := ⟨fun c hc => by
  rw [str_app] at hc
  rcases List.mem_append.mp hc with hc | hc
  · exact h.asc c hc
  · exact g.asc c hc, by
  have h1 := h.len
  have h2 := g.len
  rw [← str_len, str_app, List.length_append, str_len, str_len]
  omega⟩
theorem Nm4.cut {n : Nat} {s : Str} (h : Nm4 n s) (k : Nat) (hk : k ≤ 2) : Nm4 k (cutS s none (some (k : Int))) := by
  have e : (cutS s none (some (k : Int))).cps.toList = s.cps.toList.take k := by
    show ((s.cps.toList.drop 0).take (HT.sIx s.length s.length (some (k : Int)) - 0)) = _
    rw [HT.sIx_nat, Nat.sub_zero, List.drop_zero]
    rcases Nat.le_total k s.length with l | l
    · rw [Nat.min_eq_left l]
    · rw [Nat.min_eq_right l, List.take_of_length_le (by rw [str_len]; exact Nat.le_refl _), List.take_of_length_le (by rw [str_len]; exact l)]
  refine ⟨fun c hc => h.asc c (List.mem_of_mem_take (e ▸ hc)), ?_⟩
  rw [← str_len, e, List.length_take]
  exact Nat.min_le_left _ _
theorem Nm4.nice {n : Nat} {s : Str} (h : Nm4 n s) (l : n ≤ 20) : My.nice (.str s) = true := by
  show ((s.cps.toList.all fun c => decide (c < 128)) && decide (s.length ≤ 20)) = true
  rw [decide_eq_true (Nat.le_trans h.len l), Bool.and_true]
  exact List.all_eq_true.mpr fun c hc => decide_eq_true (h.asc c hc)
def nm4B (n : Nat) (s : Str) : Bool := (s.cps.toList.all fun c => decide (c < 128)) && decide (s.length ≤ n)
theorem nm4_of {n : Nat} {s : Str} (h : nm4B n s = true) : Nm4 n s := by
  obtain ⟨h1, h2⟩ := Bool.and_eq_true_iff.mp h
  exact ⟨fun c hc => of_decide_eq_true (List.all_eq_true.mp h1 c hc), of_decide_eq_true h2⟩
theorem k_str {k : Nat} (h : k < 30) : Nm4 2 (toString (k : Int) : String) := by
  have all : ((List.range 30).all fun k : Nat => nm4B 2 (toString (k : Int) : String)) = true := by decide +kernel
  exact nm4_of (List.all_eq_true.mp all k (List.mem_range.mpr h))
abbrev abc : Str := Str.ofString "abcdefghijklmnopqrstuvwxyz"
theorem abc_at {i : Int} (h0 : 0 ≤ i) (h1 : i < 26) : ∃ c, atI abc.cps.toList i = some c ∧ Nm4 1 (⟨#[c]⟩ : Str) := by
  obtain ⟨c, h, hc⟩ := atI_in (xs := abc.cps.toList) (i := i) h0 (by rw [show abc.cps.toList.length = 26 by decide +kernel]; exact h1)
  have all : (abc.cps.toList.all fun c => decide (c < 128)) = true := by decide +kernel
  exact ⟨c, h, fun x hx => by rw [List.mem_singleton.mp (show x ∈ [c] from hx)]; exact of_decide_eq_true (List.all_eq_true.mp all c hc), Nat.le_refl _⟩
/-- a call of a def without arguments -/
theorem pe_fn0 {X : Cx} {x : Str} {ps : List Str} {k : Nat} {sp : Sp} {p pos : Pos} (F : Fd X.prog X.w X.K X.mg X.base x ps k sp) (hr : Room k X.A) (hg : Gl X x) (hdb : (x == ("__debug__" : Str)) = false := by decide) :
    PE X (.Call (.Name x p) [] [] pos) (tCall sp [] E0 tNil) := by
  obtain ⟨f, fd, G, m, kp, b⟩ := F.ex
  exact pe_call0 G hr hg m kp b .nil pass0 hdb
section
variable {P : Program} {w : World} {K : PySem.W.Frag} {mg : Str → Option Value} {base : Heap}
def spWords4 (K : PySem.W.Frag) : Sp := fun vs H Q _ => vs = [] ∧ ∀ H' p (ss : List Str), Same H H' → H' p = some (.lst (ss.map V.str)) → Q (.ref p) H'
abbrev s_law_words : Stmt := topS 15
theorem sc_law_words : FnScope ["words"] [] (defScope s_law_words) := ⟨rfl, rfl, rfl, by decide +kernel, rfl, by decide +kernel, by decide +kernel⟩
-- _law_words slots: words=0 globals: 
theorem fd_law_words {f : Addr} {fd : FuncData} (F : Fun K "_law_words" "_law_words" s_law_words f fd) (m : mg "_law_words" = some (.ref f)) (B : Bt mg) : Fd P w K mg base "_law_words" [] 1 (spWords4 K) := by
  refine ⟨f, fd, F.ok sc_law_words (fun vs H Q E h => ?_) (fun cdv A outer s H vs Q E hr h => ?_), m, F.kp, F.binds (ps := []) fun _ _ _ _ _ _ us hl => match us, hl with | [], _ => rfl⟩
  · obtain ⟨rfl, _⟩ := h
    rfl
  obtain ⟨rfl, q⟩ := h
  refine ⟨_, (pss_cons (ps_set (i := 0) sc_law_words.nd rfl (Or.inl rfl) pe_str)
 (pss_one (ps_ret (pe_op (opCat K) (pe_split (pv 0) pe_str) (pe_lst (pa_cons pe_str (pa_cons pe_str (pa_cons pe_str (pa_cons pe_str (pa_cons pe_str pa_nil)))))))))), ?_⟩
  refine ⟨_, rfl, ⟨_, rfl⟩, _, _, rfl, rfl, by decide +kernel, sz (by decide +kernel), fun p np => ?_⟩
  have ln : (Txt.split (Str.ofString "share lock bell kind any local skip set acquire release rest wake start check await mark if else loop choose") (Str.ofString " ")).length ≤ 100 := by decide +kernel
  generalize Txt.split (Str.ofString "share lock bell kind any local skip set acquire release rest wake start check await mark if else loop choose") (Str.ofString " ") = ws at ln ⊢
  refine ⟨szc 5, fun p2 np2 => ?_⟩
  exact ⟨p, p2, _, _, rfl, rfl, sq (same_new np2 _ _ upd_same), sq upd_same, Nat.le_trans (by rw [List.length_map]; show ws.length + 5 ≤ 200; omega) (by decide), fun p3 np3 => q _ p3 (ws ++ [Str.ofString "or", Str.ofString "end", Str.ofString "and", Str.ofString "not", Str.ofString "guard"]) (((same_new np).trans (same_new np2)).trans (same_new np3)) (by rw [upd_same, List.map_append]; rfl)⟩
def spNames4 (K : PySem.W.Frag) : Sp := fun vs H Q _ => ∃ (c : Int) (n : Nat), vs = [.int c, nV n] ∧ 0 ≤ c ∧ n ≤ 30 ∧ ∀ H' p (ss : List Str), Same H H' → H p = none → H' p = some (.lst (ss.map V.str)) → ss.length = n → (∀ s ∈ ss, Nm4 12 s) → Q (.ref p) H'
abbrev s_law_names : Stmt := topS 14
theorem sc_law_names : FnScope ["cell", "count", "letters", "names", "k", "draw", "name", "j"] ["cell", "count"] (defScope s_law_names) := ⟨rfl, rfl, rfl, by decide +kernel, rfl, by decide +kernel, by decide +kernel⟩
-- _law_names slots: cell=0 count=1 letters=2 names=3 k=4 draw=5 name=6 j=7 globals: range int len _law_words str
set_option maxHeartbeats 4000000 in
theorem fd_law_names {f : Addr} {fd : FuncData} (F : Fun K "_law_names" "_law_names" s_law_names f fd) (m : mg "_law_names" = some (.ref f)) (B : Bt mg) (D_law_words : Fd P w K mg base "_law_words" [] 1 (spWords4 K)) : Fd P w K mg base "_law_names" ["cell", "count"] 2 (spNames4 K) := by
  refine ⟨f, fd, F.ok sc_law_names (fun vs H Q E h => ?_) (fun cdv A outer s H vs Q E hr h => ?_), m, F.kp, F.binds (ps := ["cell", "count"]) fun _ _ _ _ _ _ us hl => match us, hl with | [_, _], _ => rfl⟩
  · obtain ⟨c, n, rfl, _⟩ := h
    rfl
  obtain ⟨c, n, rfl, c0, hn, q⟩ := h
  refine ⟨_, (pss_cons (ps_set (i := 2) sc_law_names.nd rfl (Or.inl rfl) pe_str)
 (pss_cons (ps_set (i := 3) sc_law_names.nd rfl (Or.inl rfl) (pe_lst pa_nil))
 (pss_cons (ps_for PassesOwn.never rfl (pi_range1 rfl B.range (pa_cons (pv 1) pa_nil)) (pg_name (i := 4) sc_law_names.nd rfl (Or.inl rfl))
 (pss_cons (ps_set (i := 5) sc_law_names.nd rfl (Or.inl rfl) (pe_op op_mod (pe_callTy call_int1 (by rfl) B.int (by decide +kernel) (pa_cons (pe_op op_add (pe_op op_add (pe_op op_mul (pv 0) pe_int) (pe_op op_mul (pe_op op_mul (pe_op op_add (pv 4) pe_int) (pe_op op_add (pv 4) pe_int)) pe_int)) (pe_op op_mul (pe_op op_fdiv (pv 0) pe_int) (pv 4))) pa_nil)) pe_int))
 (pss_cons (ps_set (i := 6) sc_law_names.nd rfl (Or.inl rfl) (pe_ix ix_str (pv 2) (pe_op op_mod (pv 5) pe_int) (fun _ _ => rfl)))
 (pss_cons (ps_for PassesOwn.never rfl (pi_range1 rfl B.range (pa_cons (pe_op op_mod (pe_op op_fdiv (pv 5) pe_int) pe_int) pa_nil)) (pg_name (i := 7) sc_law_names.nd rfl (Or.inl rfl))
 (pss_one (ps_set (i := 6) sc_law_names.nd rfl (Or.inl rfl) (pe_op op_add_str (pv 6) (pe_ix ix_str (pv 2) (pe_op op_mod (pe_op op_fdiv (pv 5) (pe_op op_add pe_int (pe_op op_mul pe_int (pv 7)))) pe_int) (fun _ _ => rfl))))))
 (C8.pss_cut (ps_if (PW.pt (pw_and (pt_cmpR op_gt (pe_callB (cLen K) (by rfl) B.len PySem.boot_len (pa_cons (pv 3) pa_nil)) pe_int (nomark _)) (pw_and1 (pt_cmpR op_eq (pe_op op_mod (pe_op op_fdiv (pv 5) pe_int) pe_int) pe_int (nomark _)))))
 (pss_one (ps_set (i := 6) sc_law_names.nd rfl (Or.inl rfl) (pe_op op_add_str (pe_ix (ixL K) (pv 3) (pe_op op_sub (pe_callB (cLen K) (by rfl) B.len PySem.boot_len (pa_cons (pv 3) pa_nil)) pe_int) (fun _ _ => rfl)) (pe_ix ix_str (pv 2) (pe_op op_mod (pe_op op_fdiv (pv 5) pe_int) pe_int) (fun _ _ => rfl)))))
 pss_nil)
 (C8.pss_cut (ps_if (PW.pt (pw_and (pt_cmpR op_gt (pe_callB (cLen K) (by rfl) B.len PySem.boot_len (pa_cons (pv 3) pa_nil)) pe_int (nomark _)) (pw_and1 (pt_cmpR op_eq (pe_op op_mod (pe_op op_fdiv (pv 5) pe_int) pe_int) pe_int (nomark _)))))
 (pss_one (ps_set (i := 6) sc_law_names.nd rfl (Or.inl rfl) (pe_slice sl_str (pe_ix (ixL K) (pv 3) (pe_op op_sub (pe_callB (cLen K) (by rfl) B.len PySem.boot_len (pa_cons (pv 3) pa_nil)) pe_int) (fun _ _ => rfl)) po_none (po_some pe_int))))
 pss_nil)
 (C8.pss_cut (ps_if (PW.pt (pw_or (pt_cmpR (opIn K) (pv 6) (pv 3) (by rfl)) (pw_or (pt_cmpR (opIn K) (pv 6) (pe_fn0 D_law_words (hr.mono (by decide)) rfl) (by rfl)) (pw_or1 (pt_cmpR op_gt (pe_callB call_len_str (by rfl) B.len PySem.boot_len (pa_cons (pv 6) pa_nil)) pe_int (nomark _))))))
 (pss_one (ps_set (i := 6) sc_law_names.nd rfl (Or.inl rfl) (pe_op op_add_str (pe_op op_add_str (pe_slice sl_str (pv 6) po_none (po_some pe_int)) (pe_callTy call_str_int (by rfl) B.str (by decide +kernel) (pa_cons (pv 4) pa_nil))) pe_str)))
 pss_nil)
 (pss_one (ps_expr (peBm K PySem.F.plainAttrs_list PySem.F.slot_list_append PySem.F.type_list_append mt_append (pv 3) (pa_cons (pv 6) pa_nil)))))))))))
 (pss_one (ps_ret (pv 3)))))), ?_⟩
  refine ⟨szc 0, fun o no => ?_⟩
  dsimp only [gName]
  have ablen : abc.length ≤ sizeLine := sz (by decide +kernel)
  refine ⟨_, rfl, n, rfl, by omega, by omega, for_range (lo := 0) (n := n) (fun i σ' H' => ∃ (y4 y5 y6 y7 : Option V) (ss : List Str), σ' = [some (.int c), some (nV n), some (.str abc), some (.ref o), y4, y5, y6, y7] ∧ (∀ b u, b ≠ o → H b = some u → H' b = some u) ∧ H' o = some (.lst (ss.map V.str)) ∧ ss.length = i ∧ ∀ s ∈ ss, Nm4 12 s) ⟨_, _, _, _, [], rfl, fun b u nb h => by rw [upd_ne nb]; exact h, upd_same, rfl, fun s hs => nomatch hs⟩ ?_ ?_⟩
  · rintro i σ' H' hi ⟨y4, y5, y6, y7, ss, rfl, fr, eo, sl, nm⟩
    dsimp only [gName]
    have i0 : (0 : Int) + (i : Int) = (i : Int) := by omega
    rw [i0]
    have xl : (ss.map V.str).length = i := (List.length_map _).trans sl
    refine ⟨_, rfl, _, _, rfl, rfl, .inr ⟨by decide, by decide⟩, _, rfl, _, _, rfl, rfl, _, rfl, _, _, rfl, rfl, _, _, rfl, rfl, .inl ⟨by omega, by omega⟩, _, _, rfl, rfl, .inr ⟨by decide, by decide⟩, _, _, rfl, rfl, _, rfl, _, _, rfl, rfl, ⟨by decide, by decide⟩, _, rfl, _, _, rfl, rfl, .inr ⟨by omega, by omega⟩, _, _, rfl, rfl, .inl ⟨_, rfl, _, _, rfl, rfl, (by show (0 : Int) < 2147483647; decide), ?_⟩⟩
    dsimp only [gName]
    have mD := mod_in (c * 48271 + ((i : Int) + 3) * ((i : Int) + 7) * 69621 + c / 97 * (i : Int)) (show (0 : Int) < 2147483647 by decide)
    generalize (c * 48271 + ((i : Int) + 3) * ((i : Int) + 7) * 69621 + c / 97 * (i : Int)) % 2147483647 = D at mD ⊢
    have m26 := mod_in D (show (0 : Int) < 26 by decide)
    obtain ⟨ch, hch, nch⟩ := abc_at m26.1 m26.2
    refine ⟨_, rfl, _, rfl, _, _, rfl, rfl, (by show (0 : Int) < 26; decide), _, _, ch, rfl, rfl, ablen, hch, ?_⟩
    dsimp only [gName]
    have m3 := mod_in (D / 26) (show (0 : Int) < 3 by decide)
    obtain ⟨N, eN⟩ : ∃ N : Nat, D / 26 % 3 = (N : Int) := ⟨_, (Int.toNat_of_nonneg m3.1).symm⟩
    refine ⟨_, rfl, _, _, rfl, rfl, ⟨by decide, by decide⟩, _, _, rfl, rfl, (by show (0 : Int) < 3; decide), N, congrArg (fun z => [V.int z]) eN, by omega, by omega, for_range (lo := 0) (n := N) (fun j σ' H'' => ∃ (y7 : Option V) (nm : Str), σ' = [some (.int c), some (nV n), some (.str abc), some (.ref o), some (.int (i : Int)), some (.int D), some (.str nm), y7] ∧ H'' = H' ∧ Nm4 (1 + j) nm) ⟨y7, _, rfl, rfl, nch⟩ ?_ ?_⟩
    · rintro j σ' H'' hj ⟨y7, nm1, rfl, rfl, n1⟩
      have d0 : (0 : Int) < 78 + 31 * (0 + (j : Int)) := by omega
      have mj := mod_in (D / (78 + 31 * (0 + (j : Int)))) (show (0 : Int) < 26 by decide)
      obtain ⟨c2, hc2, nc2⟩ := abc_at mj.1 mj.2
      have := n1.len
      exact ⟨_, rfl, _, rfl, _, rfl, _, rfl, _, _, rfl, rfl, .inl ⟨by decide, by decide⟩, _, _, rfl, rfl, _, _, rfl, rfl, ⟨d0, by omega⟩, _, _, rfl, rfl, (by show (0 : Int) < 26; decide), _, _, c2, rfl, rfl, ablen, hc2, _, _, rfl, rfl, Nat.le_trans (by have := nc2.len; show _ ≤ 100; omega) (by decide), _, _, rfl, rfl, (n1.app nc2).mono (by omega)⟩
    rintro σ' H'' ⟨y7, nm1, rfl, rfl, n1⟩
    have last : 0 < i → ∃ s, atI (ss.map V.str) (((ss.map V.str).length : Nat) - 1 : Int) = some (.str s) ∧ s ∈ ss := fun h => at_names (by omega) (by omega)
    have big : ∀ {A B : Bool}, (A && B) = true → A = true := fun {A B} h => by cases A <;> simp_all
    refine ⟨fun σ' H3 => ∃ nm : Str, σ' = [some (.int c), some (nV n), some (.str abc), some (.ref o), some (.int (i : Int)), some (.int D), some (.str nm), y7] ∧ H3 = H'' ∧ Nm4 13 nm, ?_, ?_⟩
    · refine ifE (b := decide (0 < (((ss.map V.str).length : Nat) : Int)) && decide (D / 5 % 3 = 0)) (ansAnd (fun Q q => ⟨_, rfl, o, _, rfl, .inl (sq eo), _, _, rfl, rfl, _, rfl, q⟩) (fun Q q => ⟨_, rfl, _, _, rfl, rfl, ⟨by decide, by decide⟩, _, _, rfl, rfl, (by show (0 : Int) < 3; decide), rfl, _, rfl, by rw [int_eqE]; exact q⟩)) (fun hb => ?_) (fun _ => ⟨nm1, rfl, rfl, n1.mono (by omega)⟩)
      have ip : (0 : Int) < (((ss.map V.str).length : Nat) : Int) := of_decide_eq_true (big hb)
      obtain ⟨sv, hsv, msv⟩ := last (by omega)
      have m7 := mod_in (D / 7) (show (0 : Int) < 26 by decide)
      obtain ⟨c2, hc2, nc2⟩ := abc_at m7.1 m7.2
      exact ⟨_, rfl, _, rfl, o, _, rfl, .inl (sq eo), _, _, rfl, rfl, _, _, _, _, rfl, rfl, sq eo, hsv, _, rfl, _, rfl, _, _, rfl, rfl, ⟨by decide, by decide⟩, _, _, rfl, rfl, (by show (0 : Int) < 26; decide), _, _, c2, rfl, rfl, ablen, hc2, _, _, rfl, rfl, Nat.le_trans (by have := nc2.len; have := (nm sv msv).len; show _ ≤ 100; omega) (by decide), _, rfl, rfl, ((nm sv msv).app nc2).mono (by decide)⟩
    rintro σ' H3 ⟨nm2, rfl, rfl, n2⟩
    refine ⟨fun σ' H3' => ∃ nm : Str, σ' = [some (.int c), some (nV n), some (.str abc), some (.ref o), some (.int (i : Int)), some (.int D), some (.str nm), y7] ∧ H3' = H3 ∧ Nm4 13 nm, ?_, ?_⟩
    · refine ifE (b := decide (0 < (((ss.map V.str).length : Nat) : Int)) && decide (D / 5 % 9 = 1)) (ansAnd (fun Q q => ⟨_, rfl, o, _, rfl, .inl (sq eo), _, _, rfl, rfl, _, rfl, q⟩) (fun Q q => ⟨_, rfl, _, _, rfl, rfl, ⟨by decide, by decide⟩, _, _, rfl, rfl, (by show (0 : Int) < 9; decide), rfl, _, rfl, by rw [int_eqE]; exact q⟩)) (fun hb => ?_) (fun _ => ⟨nm2, rfl, rfl, n2⟩)
      have ip : (0 : Int) < (((ss.map V.str).length : Nat) : Int) := of_decide_eq_true (big hb)
      obtain ⟨sv, hsv, msv⟩ := last (by omega)
      have nsv := nm sv msv
      exact ⟨_, rfl, _, rfl, o, _, rfl, .inl (sq eo), _, _, rfl, rfl, _, _, _, _, rfl, rfl, sq eo, hsv, _, rfl, sv, rfl, Nat.le_trans nsv.len (by decide), _, rfl, rfl, (nsv.cut 1 (by decide)).mono (by decide)⟩
    rintro σ' H3' ⟨nm3, rfl, rfl, n3⟩
    have ki : i < 30 := by omega
    have nl3 : nm3.length ≤ sizeLine := Nat.le_trans n3.len (by decide)
    have c2 : Nm4 2 (cutS nm3 none (some 2)) := n3.cut 2 (by decide)
    have nq : Nm4 1 (Str.ofString "q") := nm4_of (by decide +kernel)
    have z1 : (cutS nm3 none (some 2)).length + (Str.ofString (toString (i : Int))).length ≤ sizeLine := Nat.le_trans (Nat.add_le_add c2.len (k_str ki).len) (by decide)
    have z2 : (cutS nm3 none (some 2) ++ Str.ofString (toString (i : Int))).length + (Str.ofString "q").length ≤ sizeLine := Nat.le_trans (Nat.add_le_add (c2.app (k_str ki)).len nq.len) (by decide)
    have lg : ((i : Int)).natAbs.log2 < 1920 := by
      have : (i : Int).natAbs ≤ 30 := by omega
      have := Nat.log2_le_self (i : Int).natAbs
      omega
    refine ⟨fun σ' H4 => ∃ (nm : Str) (y7 : Option V), σ' = [some (.int c), some (nV n), some (.str abc), some (.ref o), some (.int (i : Int)), some (.int D), some (.str nm), y7] ∧ Same H3' H4 ∧ Nm4 12 nm, ?_, ?_⟩
    · refine ⟨_, rfl, _, rfl, o, _, rfl, .inl (sq eo), rfl, flat_strs ss, _, rfl, ite2 (fun _ => ?_) (fun _ => ?_)⟩
      · exact ⟨_, rfl, _, rfl, nm3, rfl, nl3, _, rfl, _, rfl, lg, _, _, rfl, rfl, z1, _, _, rfl, rfl, z2, _, _, rfl, Same.refl _, ((c2.app (k_str ki)).app nq).mono (by decide)⟩
      refine ⟨_, rfl, rfl, fun H4 p4 ws s4 ep4 => ⟨p4, _, rfl, .inl (sq ep4), rfl, flat_strs ws, _, rfl, ite2 (fun _ => ?_) (fun _ => ?_)⟩⟩
      · exact ⟨_, rfl, _, rfl, nm3, rfl, nl3, _, rfl, _, rfl, lg, _, _, rfl, rfl, z1, _, _, rfl, rfl, z2, _, _, rfl, s4, ((c2.app (k_str ki)).app nq).mono (by decide)⟩
      refine ⟨_, rfl, nm3, rfl, nl3, _, _, rfl, rfl, _, rfl, ite2 (fun _ => ?_) (fun e => ?_)⟩
      · exact ⟨_, rfl, _, rfl, nm3, rfl, nl3, _, rfl, _, rfl, lg, _, _, rfl, rfl, z1, _, _, rfl, rfl, z2, _, _, rfl, s4, ((c2.app (k_str ki)).app nq).mono (by decide)⟩
      · exact ⟨nm3, y7, rfl, s4, n3.asc, by have : ¬ ((12 : Int) < ((nm3.length : Nat) : Int)) := fun z => e (decide_eq_true z); omega⟩
    rintro σ' H4 ⟨nm4, y7, rfl, s4, n4⟩
    have eo4 := s4 _ _ eo
    refine ⟨_, rfl, .inl ⟨rfl, _, sq eo4⟩, _, rfl, o, _, _, rfl, rfl, eo4, szl (by omega), ?_⟩
    exact ⟨_, _, _, _, ss ++ [nm4], rfl, fun b u nb h => by rw [upd_ne nb]; exact s4 _ _ (fr b u nb h), by rw [upd_same, List.map_append]; rfl, by rw [List.length_append, List.length_singleton, sl], fun s hs => by
      rcases List.mem_append.mp hs with hs | hs
      · exact nm s hs
      · rw [List.mem_singleton.mp hs]; exact n4⟩
  rintro σ' H' ⟨y4, y5, y6, y7, ss, rfl, fr, eo, sl, nm⟩
  refine ⟨_, rfl, q H' o ss (fun b u h => fr b u (fun e => by rw [e, no] at h; cases h) h) no eo sl nm⟩
end
section
variable {P : Program} {w : World} {K : PySem.W.Frag} {mg : Str → Option Value} {base : Heap}
def spMarks4 (K : PySem.W.Frag) : Sp := fun vs H Q _ => ∃ c : Int, vs = [.int c] ∧ 0 ≤ c ∧ ∀ H' p (ss : List Str), Same H H' → H p = none → H' p = some (.lst (ss.map V.str)) → ss.length = 3 → (∀ s ∈ ss, nice (.str s) = true) → Q (.ref p) H'
theorem strs_at {ss : List Str} {i : Int} {j : Nat} (e : i = (j : Int)) (h : j < ss.length) : ∃ s, atI (ss.map V.str) i = some (.str s) ∧ s ∈ ss := at_names (by omega) (by rw [List.length_map]; omega)
abbrev s_law_marks : Stmt := topS 16
theorem sc_law_marks : FnScope ["first", "names"] ["first"] (defScope s_law_marks) := ⟨rfl, rfl, rfl, by decide +kernel, rfl, by decide +kernel, by decide +kernel⟩
-- _law_marks slots: first=0 names=1 globals: _law_names
theorem fd_law_marks {f : Addr} {fd : FuncData} (F : Fun K "_law_marks" "_law_marks" s_law_marks f fd) (m : mg "_law_marks" = some (.ref f)) (D_law_names : Fd P w K mg base "_law_names" ["cell", "count"] 2 (spNames4 K)) : Fd P w K mg base "_law_marks" ["first"] 3 (spMarks4 K) := by
  refine ⟨f, fd, F.ok sc_law_marks (fun vs H Q E h => ?_) (fun cdv A outer s H vs Q E hr h => ?_), m, F.kp, F.binds (ps := ["first"]) fun _ _ _ _ _ _ us hl => match us, hl with | [_], _ => rfl⟩
  · obtain ⟨c, rfl, _⟩ := h
    rfl
  obtain ⟨c, rfl, c0, q⟩ := h
  have d0 : 0 ≤ c / 11 := Int.ediv_nonneg c0 (by decide)
  refine ⟨_, (pss_cons (ps_set (i := 1) sc_law_marks.nd rfl (Or.inl rfl) (pe_fn D_law_names (hr.mono (by decide)) rfl (pa_cons (pe_op op_fdiv (pv 0) pe_int) (pa_cons pe_int pa_nil))))
 (pss_one (ps_ret (pe_lst (pa_cons (pe_ix (ixL K) (pv 1) pe_int (fun _ _ => rfl)) (pa_cons (pe_ix (ixL K) (pv 1) pe_int (fun _ _ => rfl)) (pa_cons (pe_ix (ixL K) (pv 1) pe_int (fun _ _ => rfl)) pa_nil))))))), ?_⟩
  refine ⟨_, rfl, _, _, rfl, rfl, ⟨by decide, by decide⟩, c / 11, 12, rfl, d0, by decide, fun H1 p ss s1 np ep sl ns => ?_⟩
  dsimp only [gName]
  obtain ⟨v9, h9, m9⟩ := strs_at (ss := ss) (i := 9) (j := 9) rfl (by omega)
  obtain ⟨v10, h10, m10⟩ := strs_at (ss := ss) (i := 10) (j := 10) rfl (by omega)
  obtain ⟨v0, h0, m0⟩ := strs_at (ss := ss) (i := 0) (j := 0) rfl (by omega)
  refine ⟨_, rfl, _, _, _, _, rfl, rfl, sq ep, h9, _, rfl, _, _, _, _, rfl, rfl, sq ep, h10, _, rfl, _, _, _, _, rfl, rfl, sq ep, h0, szc 3, fun p2 np2 => ?_⟩
  exact q _ p2 [v9, v10, v0] (s1.trans (same_new np2)) (s1.free np2) upd_same rfl fun s hs => by
    rcases List.mem_cons.mp hs with rfl | hs
    · exact (ns _ m9).nice (by decide)
    rcases List.mem_cons.mp hs with rfl | hs
    · exact (ns _ m10).nice (by decide)
    · rw [List.mem_singleton.mp hs]; exact (ns _ m0).nice (by decide)
end
/-! ### programs of stage 4 -/
structure V4 where
  nm : Str
  lo : Int
  hi : Int
  fi : Int
def V4.data (v : V4) : PyData := .tuple [.str v.nm, .int v.lo, .int v.hi, .int v.fi]
structure V4.Ok (v : V4) : Prop where
  n : nice (.str v.nm) = true
  l : -5 ≤ v.lo
  h : v.hi ≤ 9
  f1 : v.lo ≤ v.fi
  f2 : v.fi ≤ v.hi
theorem V4.Ok.nc {v : V4} (h : v.Ok) : NcD v.data 5 1 := by
  have h1 := h.l
  have h2 := h.h
  have h3 := h.f1
  have h4 := h.f2
  exact NcL.tup (m := 0) (.cons (NcD.str h.n) (.cons (.int (by omega)) (.cons (.int (by omega)) (.cons (.int (by omega)) (.nil (c := 0))))))
theorem cut_strs {ss : List Str} (a b : Nat) (h : a ≤ ss.length) : ∃ ys : List Str, cutV (ss.map V.str) (some (a : Int)) (some (b : Int)) = ys.map V.str ∧ ys.length = min b ss.length - a ∧ ∀ y ∈ ys, y ∈ ss := by
  refine ⟨(ss.drop a).take (min b ss.length - a), ?_, ?_, fun y hy => List.mem_of_mem_drop (List.mem_of_mem_take hy)⟩
  · unfold cutV
    rw [HT.sIx_nat, HT.sIx_nat, List.length_map, Nat.min_eq_left h, List.map_take, List.map_drop]
  · rw [List.length_take, List.length_drop]
    omega
theorem cut_strs0 {ss : List Str} (b : Nat) : ∃ ys : List Str, cutV (ss.map V.str) none (some (b : Int)) = ys.map V.str ∧ ys.length = min b ss.length ∧ ∀ y ∈ ys, y ∈ ss := by
  refine ⟨ss.take b, ?_, ?_, fun y hy => List.mem_of_mem_take hy⟩
  · rw [cut_head4, List.map_take]
  · rw [List.length_take]
section
variable {P : Program} {w : World} {K : PySem.W.Frag} {mg : Str → Option Value} {base : Heap}
def cntV4 : Option Nat → V
  | none => .non
  | some n => nV n
theorem ifCnt {c : TT} {te : TE} {σ : L2.St} {H : Hp} {b : Bool} {n : Nat} (h : Ans c σ H b) (he : ∀ Q : VK, Q (nV n) H → te σ H Q) {Q : VK} (q : ∀ o : Option Nat, (∀ m, o = some m → m = n) → Q (cntV4 o) H) : tIf c (tC .non) te σ H Q := h _ (by
  cases b with
  | true => exact iteT (q none fun m e => nomatch e)
  | false => exact iteF (he _ (q (some n) fun m e => (Option.some.inj e).symm)))
theorem ifTen {c : TT} {a e : Int} {σ : L2.St} {H : Hp} {b : Bool} (h : Ans c σ H b) (a0 : 0 ≤ a) (e0 : 0 ≤ e) {Q : VK} (q : ∀ m : Int, 0 ≤ m → Q (.int m) H) : tIf c (tC (.int a)) (tC (.int e)) σ H Q := h _ (by
  cases b with
  | true => exact iteT (q a a0)
  | false => exact iteF (q e e0))
structure K4 where
  nm : Str
  cnt : Option Nat
  locs : List V4
  body : List ST
def cntD4 : Option Nat → PyData
  | none => .none
  | some n => .int n
def K4.data (k : K4) : PyData := .tuple [.str k.nm, cntD4 k.cnt, .list (k.locs.map V4.data), .list (datas k.body)]
theorem v4s_nc : ∀ {vs : List V4}, (∀ v ∈ vs, v.Ok) → NcL (vs.map V4.data) (5 * vs.length) 1
  | [], _ => .nil
  | v :: r, h => (NcL.cons (h v List.mem_cons_self).nc (v4s_nc fun x hx => h x (List.mem_cons_of_mem _ hx))).mono (by rw [List.length_cons]; omega) (Nat.le_refl _)
theorem strs_nc4 {m : Nat} : ∀ {ss : List Str}, (∀ s ∈ ss, nice (.str s) = true) → NcL (ss.map PyData.str) ss.length m
  | [], _ => .nil
  | v :: r, h => (NcL.cons (NcD.str (h v List.mem_cons_self)) (strs_nc4 fun x hx => h x (List.mem_cons_of_mem _ hx))).mono (by rw [List.length_cons]; omega) (Nat.le_refl _)
theorem cnt_dp4 {K : PySem.W.Frag} {H : Hp} (o : Option Nat) : Dp K H (cntV4 o) (cntD4 o) := by
  cases o with
  | none => exact .non
  | some n => exact .int _
structure P4 where
  sh : List V4
  lk : List Str
  be : List Str
  ks : List K4
def P4.data (p : P4) : PyData := .tuple [.list (p.sh.map V4.data), .list (p.lk.map PyData.str), .list (p.be.map PyData.str), .list (p.ks.map K4.data)]
structure P4.Ok (p : P4) : Prop where
  sh : ∀ v ∈ p.sh, v.Ok
  lk : ∀ s ∈ p.lk, nice (.str s) = true
  be : ∀ s ∈ p.be, nice (.str s) = true
  k4 : p.ks.length ≤ 4
  nc : NcD p.data 46000 16
def spProg4 (K : PySem.W.Frag) : Sp := fun vs H Q _ => ∃ (c z : Int), vs = [.int c, .int z] ∧ 0 ≤ c ∧ 0 ≤ z ∧ ∀ H' v (p : P4), Same H H' → Dp K H' v p.data → p.Ok → Q v H'
abbrev s_law_program : Stmt := topS 17
theorem sc_law_program : FnScope ["first", "second", "sizes", "names", "shares", "k", "least", "width", "locks", "bells", "kinds", "count", "called", "tape", "local", "variables", "body", "share", "item"] ["first", "second"] (defScope s_law_program) := ⟨rfl, rfl, rfl, by decide +kernel, rfl, by decide +kernel, by decide +kernel⟩
-- _law_program slots: first=0 second=1 sizes=2 names=3 shares=4 k=5 least=6 width=7 locks=8 bells=9 kinds=10 count=11 called=12 tape=13 local=14 variables=15 body=16 share=17(None) item=18(None) globals: _law_digits _law_names range len _law_body _law_marks _law_cut
set_option maxHeartbeats 8000000 in
theorem fd_law_program {f : Addr} {fd : FuncData} (F : Fun K "_law_program" "_law_program" s_law_program f fd) (m : mg "_law_program" = some (.ref f)) (B : Bt mg) (D_law_digits : Fd P w K mg base "_law_digits" ["cell", "base", "most"] 1 (spDigits K)) (D_law_names : Fd P w K mg base "_law_names" ["cell", "count"] 2 (spNames4 K)) (D_law_marks : Fd P w K mg base "_law_marks" ["first"] 3 (spMarks4 K))
    (D_law_body : Fd P w K mg base "_law_body" ["tape", "things", "locks", "depth", "most"] 14 (spLB4 K 6)) (D_law_cut : Fd P w K mg base "_law_cut" ["body", "most"] 18 (spCut4 K 16)) : Fd P w K mg base "_law_program" ["first", "second"] 19 (spProg4 K) := by
  refine ⟨f, fd, F.ok sc_law_program (fun vs H Q E h => ?_) (fun cdv A outer s H vs Q E hr h => ?_), m, F.kp, F.binds (ps := ["first", "second"]) fun _ _ _ _ _ _ us hl => match us, hl with | [_, _], _ => rfl⟩
  · obtain ⟨c, z, rfl, _⟩ := h
    rfl
  obtain ⟨c, z, rfl, c0, z0, q⟩ := h
  have c11 : 0 ≤ c / 11 := Int.ediv_nonneg c0 (by decide)
  refine ⟨_, (pss_cons (ps_set (i := 2) sc_law_program.nd rfl (Or.inl rfl) (pe_fn D_law_digits (hr.mono (by decide)) rfl (pa_cons (pv 0) (pa_cons pe_int (pa_cons pe_int pa_nil)))))
 (pss_cons (ps_set (i := 3) sc_law_program.nd rfl (Or.inl rfl) (pe_fn D_law_names (hr.mono (by decide)) rfl (pa_cons (pe_op op_fdiv (pv 0) pe_int) (pa_cons pe_int pa_nil))))
 (pss_cons (ps_set (i := 4) sc_law_program.nd rfl (Or.inl rfl) (pe_lst pa_nil))
 (pss_cons (ps_for PassesOwn.never rfl (pi_range1 rfl B.range (pa_cons (pe_op op_mod (pe_ix (ixL K) (pv 2) pe_int (fun _ _ => rfl)) pe_int) pa_nil)) (pg_name (i := 5) sc_law_program.nd rfl (Or.inl rfl))
 (pss_cons (ps_set (i := 6) sc_law_program.nd rfl (Or.inl rfl) (pe_op op_sub (pe_op op_mod (pe_op op_fdiv (pe_ix (ixL K) (pv 2) pe_int (fun _ _ => rfl)) (pe_op op_add pe_int (pe_op op_mul pe_int (pv 5)))) pe_int) pe_int))
 (pss_cons (ps_set (i := 7) sc_law_program.nd rfl (Or.inl rfl) (pe_op op_add pe_int (pe_op op_mod (pe_op op_fdiv (pe_ix (ixL K) (pv 2) pe_int (fun _ _ => rfl)) (pe_op op_add pe_int (pv 5))) pe_int)))
 (pss_one (ps_expr (peBm K PySem.F.plainAttrs_list PySem.F.slot_list_append PySem.F.type_list_append mt_append (pv 4) (pa_cons (pe_tup (pa_cons (pe_ix (ixL K) (pv 3) (pv 5) (fun _ _ => rfl)) (pa_cons (pv 6) (pa_cons (pe_op op_add (pv 6) (pv 7)) (pa_cons (pe_op op_add (pv 6) (pe_op op_mod (pe_op op_fdiv (pe_ix (ixL K) (pv 2) pe_int (fun _ _ => rfl)) (pe_op op_add pe_int (pv 5))) (pe_op op_add (pv 7) pe_int))) pa_nil))))) pa_nil)))))))
 (pss_cons (ps_set (i := 8) sc_law_program.nd rfl (Or.inl rfl) (pe_slice (slL K) (pv 3) (po_some pe_int) (po_some (pe_op op_add pe_int (pe_op op_mod (pe_ix (ixL K) (pv 2) pe_int (fun _ _ => rfl)) pe_int)))))
 (C8.pss_cut (ps_if (pt_cmpR op_eq (pe_callB (cLen K) (by rfl) B.len PySem.boot_len (pa_cons (pv 8) pa_nil)) pe_int (nomark _))
 (pss_one (ps_set (i := 4) sc_law_program.nd rfl (Or.inl rfl) (pe_slice (slL K) (pv 4) po_none (po_some pe_int))))
 pss_nil)
 (C8.pss_cut (ps_if (pt_cmpR op_gt (pe_op op_mod (pe_op op_fdiv (pe_ix (ixL K) (pv 2) pe_int (fun _ _ => rfl)) pe_int) pe_int) pe_int (nomark _))
 (pss_cons (ps_set (i := 4) sc_law_program.nd rfl (Or.inl rfl) (pe_slice (slL K) (pv 4) po_none (po_some pe_int)))
 (pss_one (ps_set (i := 8) sc_law_program.nd rfl (Or.inl rfl) (pe_slice (slL K) (pv 8) po_none (po_some (pe_op op_add pe_int (pe_op op_mod (pe_op op_fdiv (pe_ix (ixL K) (pv 2) pe_int (fun _ _ => rfl)) pe_int) pe_int)))))))
 pss_nil)
 (pss_cons (ps_set (i := 9) sc_law_program.nd rfl (Or.inl rfl) (pe_slice (slL K) (pv 3) (po_some pe_int) (po_some (pe_op op_add pe_int (pe_op op_mod (pe_ix (ixL K) (pv 2) pe_int (fun _ _ => rfl)) pe_int)))))
 (pss_cons (ps_set (i := 10) sc_law_program.nd rfl (Or.inl rfl) (pe_lst pa_nil))
 (pss_cons (ps_set (i := 11) sc_law_program.nd rfl (Or.inl rfl) (pe_ix (ixL K) (pe_lst (pa_cons pe_int (pa_cons pe_int (pa_cons pe_int (pa_cons pe_int (pa_cons pe_int (pa_cons pe_int (pa_cons pe_int (pa_cons pe_int pa_nil))))))))) (pe_op op_mod (pe_ix (ixL K) (pv 2) pe_int (fun _ _ => rfl)) pe_int) (fun _ _ => rfl)))
 (pss_cons (ps_set (i := 12) sc_law_program.nd rfl (Or.inl rfl) (pe_slice (slL K) (pe_op (opCat K) (pe_slice (slL K) (pv 3) (po_some pe_int) (po_some pe_int)) (pe_lst (pa_cons (pe_op op_add_str (pe_op op_add_str pe_str (pe_ix (ixL K) (pv 3) pe_int (fun _ _ => rfl))) pe_str) (pa_cons (pe_op op_add_str (pe_op op_add_str pe_str (pe_ix (ixL K) (pv 3) pe_int (fun _ _ => rfl))) pe_str) pa_nil)))) po_none (po_some (pv 11))))
 (pss_cons (ps_set (i := 13) sc_law_program.nd rfl (Or.inl rfl) (pe_lst (pa_cons (pe_fn D_law_digits (hr.mono (by decide)) rfl (pa_cons (pv 1) (pa_cons pe_int (pa_cons pe_int pa_nil)))) (pa_cons pe_int pa_nil))))
 (pss_cons (ps_for PassesOwn.never rfl (pi_range1 rfl B.range (pa_cons (pv 11) pa_nil)) (pg_name (i := 5) sc_law_program.nd rfl (Or.inl rfl))
 (pss_cons (ps_set (i := 14) sc_law_program.nd rfl (Or.inl rfl) (pe_lst pa_nil))
 (C8.pss_cut (ps_if (PW.pt (pw_and (pt_cmpR op_eq (pe_op op_mod (pe_op op_fdiv (pe_ix (ixL K) (pv 2) pe_int (fun _ _ => rfl)) (pe_op op_add pe_int (pe_op op_mul pe_int (pv 5)))) pe_int) pe_int (nomark _)) (pw_and1 (pt_cmpR op_lt (pv 11) pe_int (nomark _)))))
 (pss_cons (ps_set (i := 6) sc_law_program.nd rfl (Or.inl rfl) (pe_op op_sub (pe_op op_mod (pe_op op_fdiv (pe_ix (ixL K) (pv 2) pe_int (fun _ _ => rfl)) (pe_op op_add pe_int (pv 5))) pe_int) pe_int))
 (pss_cons (ps_set (i := 14) sc_law_program.nd rfl (Or.inl rfl) (pe_lst (pa_cons (pe_tup (pa_cons (pe_ix (ixL K) (pv 3) pe_int (fun _ _ => rfl)) (pa_cons (pv 6) (pa_cons (pe_op op_add (pe_op op_add (pv 6) pe_int) (pe_op op_mod (pe_op op_fdiv (pe_ix (ixL K) (pv 2) pe_int (fun _ _ => rfl)) (pe_op op_add pe_int (pv 5))) pe_int)) (pa_cons (pe_op op_add (pv 6) (pe_op op_mod (pe_op op_fdiv (pe_ix (ixL K) (pv 2) pe_int (fun _ _ => rfl)) pe_int) pe_int)) pa_nil))))) pa_nil)))
 (pss_one (ps_if (PW.pt (pw_and (pt_cmpR op_eq (pv 11) pe_int (nomark _)) (pw_and1 (pt_cmpR op_eq (pe_op op_mod (pe_op op_fdiv (pe_ix (ixL K) (pv 2) pe_int (fun _ _ => rfl)) pe_int) pe_int) pe_int (nomark _)))))
 (pss_one (ps_expr (peBm K PySem.F.plainAttrs_list PySem.F.slot_list_append PySem.F.type_list_append mt_append (pv 14) (pa_cons (pe_tup (pa_cons (pe_ix (ixL K) (pe_fn D_law_names (hr.mono (by decide)) rfl (pa_cons (pe_op op_fdiv (pv 0) pe_int) (pa_cons pe_int pa_nil))) pe_int (fun _ _ => rfl)) (pa_cons pe_int (pa_cons pe_int (pa_cons (pe_op op_add pe_int (pe_op op_mod (pe_op op_fdiv (pe_ix (ixL K) (pv 2) pe_int (fun _ _ => rfl)) pe_int) pe_int)) pa_nil))))) pa_nil))))
 pss_nil))))
 pss_nil)
 (pss_cons (ps_set (i := 15) sc_law_program.nd rfl (Or.inl rfl) (pe_op (opCat K) (pe_lc (own := [("share", 17)]) (g := gName 17) (by rfl) sc_law_program.nd (piL K (pv 4)) (blkOk_by (own := [("share", 17)]) (N := ["first", "second", "sizes", "names", "shares", "k", "least", "width", "locks", "bells", "kinds", "count", "called", "tape", "local", "variables", "body", "share", "item"]) (sc := (defScope s_law_program)) (by decide +kernel)) (fun _ _ _ _ _ => (pg_name (i := 17) sc_law_program.nd rfl (Or.inl rfl))) (fun _ _ _ _ _ => pts_nil) (fun _ _ _ _ _ => (pe_ix (ixT K) (pv 17) pe_int (fun _ _ => rfl)))) (pe_lc (own := [("item", 18)]) (g := gName 18) (by rfl) sc_law_program.nd (piL K (pv 14)) (blkOk_by (own := [("item", 18)]) (N := ["first", "second", "sizes", "names", "shares", "k", "least", "width", "locks", "bells", "kinds", "count", "called", "tape", "local", "variables", "body", "share", "item"]) (sc := (defScope s_law_program)) (by decide +kernel)) (fun _ _ _ _ _ => (pg_name (i := 18) sc_law_program.nd rfl (Or.inl rfl))) (fun _ _ _ _ _ => pts_nil) (fun _ _ _ _ _ => (pe_ix (ixT K) (pv 18) pe_int (fun _ _ => rfl))))))
 (pss_cons (ps_set (i := 16) sc_law_program.nd rfl (Or.inl rfl) (pe_fn D_law_body (hr.mono (by decide)) rfl (pa_cons (pv 13) (pa_cons (pe_lst (pa_cons (pv 15) (pa_cons (pv 15) (pa_cons (pv 9) (pa_cons (pv 12) (pa_cons pe_bl (pa_cons (pe_fn D_law_marks (hr.mono (by decide)) rfl (pa_cons (pv 0) pa_nil)) pa_nil))))))) (pa_cons (pv 8) (pa_cons pe_int (pa_cons pe_int pa_nil)))))))
 (pss_one (ps_expr (peBm K PySem.F.plainAttrs_list PySem.F.slot_list_append PySem.F.type_list_append mt_append (pv 10) (pa_cons (pe_tup (pa_cons (pe_ix (ixL K) (pv 12) (pv 5) (fun _ _ => rfl)) (pa_cons (pe_ifExp (pt_cmpR op_eq (pv 5) (pe_op op_mod (pe_ix (ixL K) (pv 2) pe_int (fun _ _ => rfl)) (pv 11)) (nomark _)) pe_non (pe_op op_mod (pe_op op_fdiv (pe_ix (ixL K) (pv 2) pe_int (fun _ _ => rfl)) pe_int) pe_int)) (pa_cons (pv 14) (pa_cons (pe_fn D_law_cut (hr.mono (by decide)) rfl (pa_cons (pv 16) (pa_cons (pe_ifExp (pt_cmpR op_lt (pv 11) pe_int (nomark _)) pe_int pe_int) pa_nil))) pa_nil))))) pa_nil)))))))))
 (pss_one (ps_ret (pe_tup (pa_cons (pv 4) (pa_cons (pv 8) (pa_cons (pv 9) (pa_cons (pv 10) pa_nil)))))))))))))))))))), ?_⟩
  refine ⟨_, rfl, c, 2520, 8, rfl, c0, by decide, by decide, by decide, fun H1 pz zs s1 npz ez lz bz => ?_⟩
  dsimp only [gName]
  have sz0 := sq (K := K) ez
  have zz : ∀ {i : Nat}, i < 8 → 0 ≤ zs.getD i 0 := fun h => (bz _ (gd_mem (by omega))).1
  refine ⟨_, rfl, _, _, rfl, rfl, ⟨by decide, by decide⟩, c / 11, 12, rfl, c11, by decide, fun H2 pn nms s2 npn en ln nn => ?_⟩
  dsimp only [gName]
  have sz2 := s2.seq sz0
  have sn2 := sq (K := K) en
  refine ⟨szc 0, fun so nso => ?_⟩
  dsimp only [gName]
  have m3 := mod_in (zs.getD 0 0) (show (0 : Int) < 3 by decide)
  obtain ⟨N, eN⟩ : ∃ N : Nat, zs.getD 0 0 % 3 = (N : Int) := ⟨_, (Int.toNat_of_nonneg m3.1).symm⟩
  have s2o := same_new (o := HO.lst []) nso
  refine ⟨_, rfl, _, _, _, _, rfl, rfl, s2o.seq sz2, at_gd (j := 0) rfl (by omega), _, _, rfl, rfl, (by show (0 : Int) < 3; decide), N, congrArg (fun z => [V.int z]) eN, by omega, by omega, for_range (lo := 0) (n := N) (fun i σ' H' => ∃ (y5 y6 y7 : Option V) (xs : List V) (vs : List V4), σ' = [some (.int c), some (.int z), some (.ref pz), some (.ref pn), some (.ref so), y5, y6, y7, none, none, none, none, none, none, none, none, none, none, none] ∧ Same H2 H' ∧ H' so = some (.lst xs) ∧ vs.length = i ∧ DpAll K (Ho so H') xs (vs.map V4.data) ∧ ∀ v ∈ vs, v.Ok) ⟨_, _, _, [], [], rfl, s2o, upd_same, rfl, .nil, fun v hv => nomatch hv⟩ ?_ ?_⟩
  · rintro i σ' H' hi ⟨y5, y6, y7, xs, vs, rfl, sm, eo, vl, dv, vok⟩
    have xl : xs.length = vs.length := dpa_map_len dv
    have i0 : (0 : Int) + (i : Int) = (i : Int) := by omega
    rw [i0]
    have sz' := sm.seq sz2
    have sn' := sm.seq sn2
    dsimp only [gName]
    have w3 := mod_in (zs.getD 1 0 / (1 + 3 * (i : Int))) (show (0 : Int) < 3 by decide)
    have w2 := mod_in (zs.getD 1 0 / (9 + (i : Int))) (show (0 : Int) < 2 by decide)
    refine ⟨_, rfl, _, _, _, _, rfl, rfl, sz', at_gd (j := 1) rfl (by omega), _, rfl, _, _, rfl, rfl, .inl ⟨by decide, by decide⟩, _, _, rfl, rfl, _, _, rfl, rfl, ⟨by omega, by omega⟩, _, _, rfl, rfl, (by show (0 : Int) < 3; decide), _, _, rfl, rfl, ?_⟩
    dsimp only [gName]
    refine ⟨_, rfl, _, _, _, _, rfl, rfl, sz', at_gd (j := 1) rfl (by omega), _, rfl, _, _, rfl, rfl, _, _, rfl, rfl, ⟨by omega, by omega⟩, _, _, rfl, rfl, (by show (0 : Int) < 2; decide), _, _, rfl, rfl, ?_⟩
    dsimp only [gName]
    generalize zs.getD 1 0 / (1 + 3 * (i : Int)) % 3 = le at w3
    generalize zs.getD 1 0 / (9 + (i : Int)) % 2 = wi at w2
    obtain ⟨sv, gs, ms⟩ := strs_at (ss := nms) (i := (i : Int)) (j := i) rfl (by omega)
    have wp : (0 : Int) < 1 + wi + 1 := by omega
    have mw := mod_in (zs.getD 2 0 / (1 + (i : Int))) wp
    refine ⟨_, rfl, .inl ⟨rfl, _, sq eo⟩, _, rfl, _, rfl, _, _, _, _, rfl, rfl, sn', gs, _, rfl, _, rfl, _, rfl, _, _, rfl, rfl, _, rfl, _, rfl, _, _, _, _, rfl, rfl, sz', at_gd (j := 2) rfl (by omega), _, rfl, _, _, rfl, rfl, _, _, rfl, rfl, ⟨by omega, by omega⟩, _, rfl, _, _, rfl, rfl, _, _, rfl, rfl, wp, _, _, rfl, rfl, szc 4, fun pt npt => ?_⟩
    generalize zs.getD 2 0 / (1 + (i : Int)) % (1 + wi + 1) = fi at mw
    have vok1 : (V4.mk sv (le - 1) (le - 1 + (1 + wi)) (le - 1 + fi)).Ok := ⟨(nn sv ms).nice (by decide), by show -5 ≤ le - 1; omega, by show le - 1 + (1 + wi) ≤ 9; omega, by show le - 1 ≤ le - 1 + fi; omega, by show le - 1 + fi ≤ le - 1 + (1 + wi); omega⟩
    have sp := same_new (o := HO.tup [V.str sv, .int (le - 1), .int (le - 1 + (1 + wi)), .int (le - 1 + fi)]) npt
    have eop := sp _ _ eo
    refine ⟨so, _, _, rfl, rfl, eop, szl (by omega), ?_⟩
    refine ⟨_, _, _, _, vs ++ [V4.mk sv (le - 1) (le - 1 + (1 + wi)) (le - 1 + fi)], rfl, Same.mut (sm.trans sp) nso, upd_same, by rw [List.length_append, List.length_singleton, vl], ?_, fun v hv => ?_⟩
    · rw [List.map_append]
      exact dpa_app (dpAll_mono ((ho_same sp).trans ho_mut) dv) (.cons (dp_mono ho_mut (dpo_newT eo npt (.cons (.str _) (.cons (.int _) (.cons (.int _) (.cons (.int _) .nil)))))) .nil)
    · rcases List.mem_append.mp hv with hv | hv
      · exact vok v hv
      · rw [List.mem_singleton.mp hv]; exact vok1
  rintro σ' H3 ⟨y5, y6, y7, xs, vs, rfl, s3, eo, vl, dv0, vok⟩
  have dv := dpAll_mono (ho_out (B := so)) dv0
  have xl : xs.length = vs.length := dpa_map_len dv
  have sz3 := s3.seq sz2
  have sn3 := s3.seq sn2
  clear dv0 sz2 sn2 s2o
  have vl2 : vs.length ≤ 2 := by omega
  have nl12 : nms.length = 12 := ln
  have m4 := mod_in (zs.getD 3 0) (show (0 : Int) < 4 by decide)
  obtain ⟨x4, e4⟩ : ∃ x4 : Nat, 2 + zs.getD 3 0 % 4 = ((2 + x4 : Nat) : Int) := ⟨(zs.getD 3 0 % 4).toNat, by omega⟩
  have x43 : x4 ≤ 3 := by omega
  obtain ⟨ls0, el0, ll0, ml0⟩ := cut_strs (ss := nms) 2 (2 + x4) (by omega)
  refine ⟨_, rfl, _, rfl, _, rfl, _, _, _, _, rfl, rfl, sz3, at_gd (j := 3) rfl (by omega), _, _, rfl, rfl, (by show (0 : Int) < 4; decide), _, _, rfl, rfl, _, rfl, pn, _, rfl, sn3, fun lo0 nlo0 => ?_⟩
  dsimp only [gName]
  have sl0 := same_new (o := HO.lst (cutV (nms.map V.str) (some 2) (some (2 + zs.getD 3 0 % 4)))) nlo0
  have elo0 : (upd H3 lo0 (.lst (cutV (nms.map V.str) (some 2) (some (2 + zs.getD 3 0 % 4))))) lo0 = some (.lst (ls0.map V.str)) := by
    rw [upd_same, e4]
    exact congrArg (fun z => some (HO.lst z)) el0
  generalize upd H3 lo0 (.lst (cutV (nms.map V.str) (some 2) (some (2 + zs.getD 3 0 % 4)))) = H4 at sl0 elo0 ⊢
  have sz4 := sl0.seq sz3
  have sn4 := sl0.seq sn3
  have eo4 := sl0 _ _ eo
  have dv4 := dpAll_mono sl0 dv
  have s24 := s3.trans sl0
  clear sl0 sz3 sn3 eo dv el0 e4
  have nls0 : ∀ s ∈ ls0, nice (.str s) = true := fun s h => (nn s (ml0 s h)).nice (by decide)
  have cut1 : ∀ {p : Addr} {Hx : Hp} {xs : List V} {vs : List V4}, Hx p = none → DpAll K Hx xs (vs.map V4.data) → (upd Hx p (.lst (cutV xs none (some 1)))) p = some (.lst (xs.take 1)) ∧ DpAll K (upd Hx p (.lst (cutV xs none (some 1)))) (xs.take 1) ((vs.take 1).map V4.data) := fun {p Hx xs vs} np d => ⟨by rw [upd_same]; exact congrArg (fun z => some (HO.lst z)) (cut_head4 xs 1), by rw [List.map_take]; exact dpAll_mono (same_new np) (dpa_take4 1 d)⟩
  have tk1 : ∀ {vs : List V4}, (vs.take 1).length ≤ 2 := fun {vs} => by rw [List.length_take]; omega
  refine ⟨fun σ' H' => ∃ (sa : Addr) (xs : List V) (vs : List V4), σ' = [some (.int c), some (.int z), some (.ref pz), some (.ref pn), some (.ref sa), y5, y6, y7, some (.ref lo0), none, none, none, none, none, none, none, none, none, none] ∧ Same H4 H' ∧ H' sa = some (.lst xs) ∧ DpAll K H' xs (vs.map V4.data) ∧ vs.length ≤ 2 ∧ ∀ v ∈ vs, v.Ok, ?_, ?_⟩
  · refine ⟨_, rfl, lo0, _, rfl, .inl (sq elo0), rfl, _, rfl, ite2 (fun _ => ?_) (fun _ => ⟨so, xs, vs, rfl, Same.refl _, eo4, dv4, vl2, vok⟩)⟩
    refine ⟨_, rfl, _, rfl, so, _, rfl, sq eo4, fun p np => ?_⟩
    obtain ⟨e1, d1⟩ := cut1 np dv4
    exact ⟨p, _, vs.take 1, rfl, same_new np, e1, d1, tk1, fun v hv => vok v (List.mem_of_mem_take hv)⟩
  clear vok vl2 dv4 eo4 xl vl
  rintro σ' H5 ⟨sa, xs, vs, rfl, s5, eo5, dv5, vl5, vok5⟩
  have sz5 := s5.seq sz4
  have elo5 := s5 _ _ elo0
  refine ⟨fun σ' H' => ∃ (sa la : Addr) (xs : List V) (vs : List V4) (ls : List Str), σ' = [some (.int c), some (.int z), some (.ref pz), some (.ref pn), some (.ref sa), y5, y6, y7, some (.ref la), none, none, none, none, none, none, none, none, none, none] ∧ Same H5 H' ∧ H' sa = some (.lst xs) ∧ DpAll K H' xs (vs.map V4.data) ∧ vs.length ≤ 2 ∧ (∀ v ∈ vs, v.Ok) ∧ H' la = some (.lst (ls.map V.str)) ∧ ls.length ≤ 3 ∧ ∀ s ∈ ls, nice (.str s) = true, ?_, ?_⟩
  · refine ⟨_, rfl, _, _, _, _, rfl, rfl, sz5, at_gd (j := 4) rfl (by omega), _, _, rfl, rfl, ⟨by decide, by decide⟩, _, _, rfl, rfl, (by show (0 : Int) < 4; decide), _, _, rfl, rfl, _, rfl, ite2 (fun _ => ?_) (fun _ => ⟨sa, lo0, xs, vs, ls0, rfl, Same.refl _, eo5, dv5, vl5, vok5, elo5, by omega, nls0⟩)⟩
    refine ⟨_, rfl, _, rfl, sa, _, rfl, sq eo5, fun p np => ?_⟩
    dsimp only [gName]
    obtain ⟨e1, d1⟩ := cut1 np dv5
    have sp := same_new (o := HO.lst (cutV xs none (some 1))) np
    generalize upd H5 p (.lst (cutV xs none (some 1))) = H6 at e1 d1 sp ⊢
    have m2 := mod_in (zs.getD 4 0 / 8) (show (0 : Int) < 2 by decide)
    obtain ⟨x2, e2⟩ : ∃ x2 : Nat, 1 + zs.getD 4 0 / 8 % 2 = (x2 : Int) := ⟨(1 + zs.getD 4 0 / 8 % 2).toNat, by omega⟩
    obtain ⟨ls1, el1, ll1, ml1⟩ := cut_strs0 (ss := ls0) x2
    refine ⟨_, rfl, _, rfl, _, _, _, _, rfl, rfl, sp.seq sz5, at_gd (j := 4) rfl (by omega), _, _, rfl, rfl, ⟨by decide, by decide⟩, _, _, rfl, rfl, (by show (0 : Int) < 2; decide), _, _, rfl, rfl, _, rfl, lo0, _, rfl, sq (sp _ _ elo5), fun p2 np2 => ?_⟩
    have sp2 := same_new (o := HO.lst (cutV (ls0.map V.str) none (some (1 + zs.getD 4 0 / 8 % 2)))) np2
    exact ⟨p, p2, _, vs.take 1, ls1, rfl, sp.trans sp2, sp2 _ _ e1, dpAll_mono sp2 d1, tk1, fun v hv => vok5 v (List.mem_of_mem_take hv), by rw [upd_same, e2]; exact congrArg (fun z => some (HO.lst z)) el1, by omega, fun s h => nls0 s (ml1 s h)⟩
  rintro σ' H6 ⟨sa, la, xs, vs, ls, rfl, s6, eS, dS, lS, okS, eL, lL, okL⟩
  have s26 := (s24.trans s5).trans s6
  have sz6 := s6.seq sz5
  have sn6 := (s5.trans s6).seq sn4
  clear sz5 sz4 sn4 elo5 eo5 dv5 vl5 vok5 elo0 s24 s5 s6 cut1 tk1
  -- bells
  have mb := mod_in (zs.getD 4 0) (show (0 : Int) < 2 by decide)
  obtain ⟨xb, eb⟩ : ∃ xb : Nat, 5 + zs.getD 4 0 % 2 = ((5 + xb : Nat) : Int) := ⟨(zs.getD 4 0 % 2).toNat, by omega⟩
  obtain ⟨bs, eB, lB, mB⟩ := cut_strs (ss := nms) 5 (5 + xb) (by omega)
  refine ⟨_, rfl, _, rfl, _, rfl, _, _, _, _, rfl, rfl, sz6, at_gd (j := 4) rfl (by omega), _, _, rfl, rfl, (by show (0 : Int) < 2; decide), _, _, rfl, rfl, _, rfl, pn, _, rfl, sn6, fun ba nba => ?_⟩
  dsimp only [gName]
  have sb7 := same_new (o := HO.lst (cutV (nms.map V.str) (some 5) (some (5 + zs.getD 4 0 % 2)))) nba
  have eB7 : (upd H6 ba (.lst (cutV (nms.map V.str) (some 5) (some (5 + zs.getD 4 0 % 2))))) ba = some (.lst (bs.map V.str)) := by
    rw [upd_same, eb]
    exact congrArg (fun z => some (HO.lst z)) eB
  generalize upd H6 ba (.lst (cutV (nms.map V.str) (some 5) (some (5 + zs.getD 4 0 % 2)))) = H7 at sb7 eB7 ⊢
  -- kinds = []
  refine ⟨szc 0, fun ko nko => ?_⟩
  dsimp only [gName]
  have s78 := same_new (o := HO.lst []) nko
  have eK8 : (upd H7 ko (.lst [])) ko = some (.lst []) := upd_same
  generalize upd H7 ko (.lst []) = H8 at s78 eK8 ⊢
  have s68 := sb7.trans s78
  have sz8 := s68.seq sz6
  have sn8 := s68.seq sn6
  -- count
  have m8 := mod_in (zs.getD 5 0) (show (0 : Int) < 8 by decide)
  refine ⟨szc 8, fun q1 nq1 => ?_⟩
  have u1 := same_new (o := HO.lst [V.int 1, .int 2, .int 1, .int 2, .int 1, .int 2, .int 3, .int 4]) nq1
  have w1 : (upd H8 q1 (.lst [V.int 1, .int 2, .int 1, .int 2, .int 1, .int 2, .int 3, .int 4])) q1 = some (.lst [V.int 1, .int 2, .int 1, .int 2, .int 1, .int 2, .int 3, .int 4]) := upd_same
  dsimp only
  generalize upd H8 q1 (.lst [V.int 1, .int 2, .int 1, .int 2, .int 1, .int 2, .int 3, .int 4]) = H9 at u1 w1 ⊢
  obtain ⟨cn, gcn, cn1, cn4⟩ : ∃ cn : Nat, atI [V.int 1, .int 2, .int 1, .int 2, .int 1, .int 2, .int 3, .int 4] (zs.getD 5 0 % 8) = some (nV cn) ∧ 1 ≤ cn ∧ cn ≤ 4 := by
    obtain ⟨j, ej⟩ : ∃ j : Nat, zs.getD 5 0 % 8 = (j : Int) := ⟨_, (Int.toNat_of_nonneg m8.1).symm⟩
    rw [ej] at m8 ⊢
    match j, (show j < 8 by omega) with
    | 0, _ => exact ⟨1, rfl, by decide, by decide⟩
    | 1, _ => exact ⟨2, rfl, by decide, by decide⟩
    | 2, _ => exact ⟨1, rfl, by decide, by decide⟩
    | 3, _ => exact ⟨2, rfl, by decide, by decide⟩
    | 4, _ => exact ⟨1, rfl, by decide, by decide⟩
    | 5, _ => exact ⟨2, rfl, by decide, by decide⟩
    | 6, _ => exact ⟨3, rfl, by decide, by decide⟩
    | 7, _ => exact ⟨4, rfl, by decide, by decide⟩
  have sz9 := u1.seq sz8
  have sn9 := u1.seq sn8
  refine ⟨_, rfl, _, _, _, _, rfl, rfl, sz9, at_gd (j := 5) rfl (by omega), _, _, rfl, rfl, (by show (0 : Int) < 8; decide), _, _, _, _, rfl, rfl, sq w1, gcn, ?_⟩
  dsimp only [gName]
  -- called
  obtain ⟨cs, eC, lC, mC⟩ := cut_strs (ss := nms) 6 8 (by omega)
  obtain ⟨v8, g8, mm8⟩ := strs_at (ss := nms) (i := 8) (j := 8) rfl (by omega)
  have n8 := nn v8 mm8
  have nk : ∀ k : Str, Nm4 1 k → k.length + v8.length ≤ sizeLine ∧ (k ++ v8).length + (Str.ofString "1").length ≤ sizeLine ∧ nice (.str ((k ++ v8) ++ Str.ofString "1")) = true := fun k hk => by
    have n1 : Nm4 1 (Str.ofString "1") := nm4_of (by decide +kernel)
    exact ⟨Nat.le_trans (Nat.add_le_add hk.len n8.len) (by decide), Nat.le_trans (Nat.add_le_add (hk.app n8).len n1.len) (by decide), ((hk.app n8).app n1).nice (by decide)⟩
  obtain ⟨k1, k2, k3⟩ := nk (Str.ofString "k") (nm4_of (by decide +kernel))
  obtain ⟨l1, l2, l3⟩ := nk (Str.ofString "l") (nm4_of (by decide +kernel))
  refine ⟨_, rfl, _, rfl, _, rfl, pn, _, rfl, sn9, fun q2 nq2 => ?_⟩
  have u2 := same_new (o := HO.lst (cutV (nms.map V.str) (some 6) (some 8))) nq2
  have w2 : (upd H9 q2 (.lst (cutV (nms.map V.str) (some 6) (some 8)))) q2 = some (.lst (cs.map V.str)) := by
    rw [upd_same]
    exact congrArg (fun z => some (HO.lst z)) eC
  generalize upd H9 q2 (.lst (cutV (nms.map V.str) (some 6) (some 8))) = H10 at u2 w2 ⊢
  have sn10 := u2.seq sn9
  refine ⟨_, rfl, _, _, _, _, rfl, rfl, sn10, g8, _, _, rfl, rfl, k1, _, _, rfl, rfl, k2, _, rfl, _, _, _, _, rfl, rfl, sn10, g8, _, _, rfl, rfl, l1, _, _, rfl, rfl, l2, szc 2, fun q3 nq3 => ?_⟩
  generalize (Str.ofString "k" ++ v8) ++ Str.ofString "1" = kn at k3 ⊢
  generalize (Str.ofString "l" ++ v8) ++ Str.ofString "1" = ln2 at l3 ⊢
  have u3 := same_new (o := HO.lst [V.str kn, .str ln2]) nq3
  have w3 : (upd H10 q3 (.lst [V.str kn, .str ln2])) q3 = some (.lst [V.str kn, .str ln2]) := upd_same
  dsimp only
  generalize upd H10 q3 (.lst [V.str kn, .str ln2]) = H11 at u3 w3 ⊢
  refine ⟨q2, q3, _, _, rfl, rfl, sq (u3 _ _ w2), sq w3, Nat.le_trans (by rw [List.length_map]; show cs.length + 2 ≤ 100; omega) (by decide), fun q4 nq4 => ?_⟩
  have e4s : cs.map V.str ++ [V.str kn, .str ln2] = (cs ++ [kn, ln2]).map V.str := by rw [List.map_append]; rfl
  rw [e4s]
  have u4 := same_new (o := HO.lst ((cs ++ [kn, ln2]).map V.str)) nq4
  have w4 : (upd H11 q4 (.lst ((cs ++ [kn, ln2]).map V.str))) q4 = some (.lst ((cs ++ [kn, ln2]).map V.str)) := upd_same
  generalize upd H11 q4 (.lst ((cs ++ [kn, ln2]).map V.str)) = H12 at u4 w4 ⊢
  obtain ⟨ca, eCa, lCa, mCa⟩ := cut_strs0 (ss := cs ++ [kn, ln2]) cn
  rw [List.length_append] at lCa
  have lcs : (cs.length + [kn, ln2].length : Nat) = 4 := by show cs.length + 2 = 4; omega
  rw [lcs] at lCa
  have lca : ca.length = cn := by omega
  refine ⟨_, rfl, _, rfl, q4, _, rfl, sq w4, fun qc nqc => ?_⟩
  dsimp only [gName]
  have u5 := same_new (o := HO.lst (cutV ((cs ++ [kn, ln2]).map V.str) none (some (cn : Int)))) nqc
  have w5 : (upd H12 qc (.lst (cutV ((cs ++ [kn, ln2]).map V.str) none (some (cn : Int))))) qc = some (.lst (ca.map V.str)) := by
    rw [upd_same]
    exact congrArg (fun z => some (HO.lst z)) eCa
  generalize upd H12 qc (.lst (cutV ((cs ++ [kn, ln2]).map V.str) none (some (cn : Int)))) = H13 at u5 w5 ⊢
  have nca : ∀ s ∈ ca, nice (.str s) = true := fun s h => by
    rcases List.mem_append.mp (mCa s h) with h | h
    · exact (nn s (mC s h)).nice (by decide)
    rcases List.mem_cons.mp h with rfl | h
    · exact k3
    · rw [List.mem_singleton.mp h]; exact l3
  have nbs : ∀ s ∈ bs, nice (.str s) = true := fun s h => (nn s (mB s h)).nice (by decide)
  have s8D : Same H8 H13 := (((u1.trans u2).trans u3).trans u4).trans u5
  -- the tape
  refine ⟨_, rfl, z, 27720, 60, rfl, z0, by decide, by decide, by decide, fun H14 pt ts s14 npt ept lt bt' => ⟨szc 2, fun tp ntp => ?_⟩⟩
  dsimp only [gName]
  have s4T := same_new (o := HO.lst [V.ref pt, .int 0]) ntp
  have etp : (upd H14 tp (.lst [V.ref pt, .int 0])) tp = some (.lst [V.ref pt, .int 0]) := upd_same
  have ptp : pt ≠ tp := fun e => by rw [e, ntp] at ept; cases ept
  generalize upd H14 tp (.lst [V.ref pt, .int 0]) = HT at s4T etp ⊢
  have s8T : Same H8 HT := (s8D.trans s14).trans s4T
  have s6T := s68.trans s8T
  have s2T := s26.trans s6T
  have szT := s8T.seq sz8
  have snT := s8T.seq sn8
  have eKT := s8T _ _ eK8
  have eST := s6T _ _ eS
  have dST := dpAll_mono s6T dS
  have eLT := s6T _ _ eL
  have eBT := (s78.trans s8T) _ _ eB7
  have eCT := (s14.trans s4T) _ _ w5
  have kot : ko ≠ tp := fun e => by have := (s8D.trans s14) _ _ eK8; rw [e, ntp] at this; cases this
  have neT0 : ∀ {b : Addr} {u : HO}, H14 b = some u → b ≠ tp := fun h e => by rw [e, ntp] at h; cases h
  have ptk : pt ≠ ko := fun e => by have := s8D _ _ eK8; rw [← e, npt] at this; cases this
  have npz : pz ≠ tp := neT0 ((((s2.trans s26).trans sb7).trans (s78.trans (s8D.trans s14))) _ _ ez)
  have tT : Tp K HT tp pt ts 0 := ⟨⟨0, by decide, by decide, etp⟩, s4T.seq (sq ept), ptp, by omega, by omega, fun d hd => (bt' d hd).1⟩
  have neT : ∀ {b : Addr} {u : HO}, H14 b = some u → b ≠ tp := fun h e => by rw [e, ntp] at h; cases h
  have neK : ∀ {b : Addr} {u : HO}, H7 b = some u → b ≠ ko := fun h e => by rw [e, nko] at h; cases h
  have s7E := s78.trans (s8D.trans s14)
  have nS : sa ≠ tp ∧ sa ≠ ko := ⟨neT ((sb7.trans s7E) _ _ eS), neK (sb7 _ _ eS)⟩
  have nL : la ≠ tp ∧ la ≠ ko := ⟨neT ((sb7.trans s7E) _ _ eL), neK (sb7 _ _ eL)⟩
  have nB : ba ≠ tp ∧ ba ≠ ko := ⟨neT (s7E _ _ eB7), neK eB7⟩
  have nC : qc ≠ tp ∧ qc ≠ ko := ⟨neT (s14 _ _ w5), fun e => by have := (((u1.trans u2).trans u3).trans u4) _ _ eK8; rw [← e, nqc] at this; cases this⟩
  have frS : ∀ {H' : Hp}, (∀ b u, b ≠ tp → b ≠ ko → HT b = some u → H' b = some u) → Same H7 H' := fun {H'} fr b u h => fr b u (neT (s7E _ _ h)) (neK h) ((s78.trans s8T) _ _ h)
  have sz7 := sb7.seq sz6
  have sn7 := sb7.seq sn6
  have bt5 : bt 2 ls.length ≤ 5560 := by
    match ls.length, lL with
    | 0, _ => decide
    | 1, _ => decide
    | 2, _ => decide
    | 3, _ => decide
  have bt0 := (bt_up 2 ls.length).1
  have tc5 := tc_top 2 ls.length (by decide) lL
  clear u1 u2 u3 u4 u5 w1 w2 w3 w4 w5 s14 s4T ept etp eK8 s8D eB7 sz8 sn8 sz9 sn9 sn10 eCa eC eB
  refine ⟨_, rfl, cn, rfl, by omega, by omega, for_range (lo := 0) (n := cn) (fun k σ' H' => ∃ (y5 y6 y7 y14 y15 y16 : Option V) (xs : List V) (ks : List K4), σ' = [some (.int c), some (.int z), some (.ref pz), some (.ref pn), some (.ref sa), y5, y6, y7, some (.ref la), some (.ref ba), some (.ref ko), some (nV cn), some (.ref qc), some (.ref tp), y14, y15, y16, none, none] ∧ (∀ b u, b ≠ tp → b ≠ ko → HT b = some u → H' b = some u) ∧ Tp K H' tp pt ts ((k : Int) * 30000) ∧ H' ko = some (.lst xs) ∧ DpAll K (Nw HT H') xs (ks.map K4.data) ∧ ks.length = k ∧ NcL (ks.map K4.data) (k * 11100) 12) ⟨_, _, _, _, _, _, [], [], rfl, fun b u _ _ h => h, tT.mono (by decide), eKT, .nil, rfl, .nil⟩ ?_ ?_⟩
  · rintro k σ' H' hk ⟨y5, y6, y7, y14, y15, y16, xk, ks, rfl, fr, tt, eK, dK, lK, nK⟩
    have k0 : (0 : Int) + (k : Int) = (k : Int) := by omega
    rw [k0]
    have sF := frS fr
    have sz' := sF.seq sz7
    have sn' := sF.seq sn7
    have dmT : Dm HT H' := fun a ha => by
      cases hz : HT a with
      | none => rfl
      | some u =>
        by_cases e1 : a = tp
        · obtain ⟨v, hv⟩ := tt.dom; rw [e1, hv] at ha; cases ha
        by_cases e2 : a = ko
        · rw [e2, eK] at ha; cases ha
        · rw [fr a u e1 e2 hz] at ha; cases ha
    dsimp only [gName]
    refine ⟨szc 0, fun l0 nl0 => ?_⟩
    dsimp only [gName]
    have t0 := same_new (o := HO.lst []) nl0
    have el0 : (upd H' l0 (.lst [])) l0 = some (.lst []) := upd_same
    generalize upd H' l0 (.lst []) = G1 at t0 el0 ⊢
    have szG := t0.seq sz'
    have snG := t0.seq sn'
    refine ⟨fun σ' G => ∃ (lc : Addr) (y6 : Option V) (xl : List V) (lv : List V4), σ' = [some (.int c), some (.int z), some (.ref pz), some (.ref pn), some (.ref sa), some (.int (k : Int)), y6, y7, some (.ref la), some (.ref ba), some (.ref ko), some (nV cn), some (.ref qc), some (.ref tp), some (.ref lc), y15, y16, none, none] ∧ Same H' G ∧ H' lc = none ∧ G lc = some (.lst xl) ∧ DpAll K (Ho lc (Nw HT G)) xl (lv.map V4.data) ∧ lv.length ≤ 2 ∧ ∀ v ∈ lv, v.Ok, ?_, ?_⟩
    · refine ifE (b := decide (zs.getD 6 0 / (1 + 2 * (k : Int)) % 3 = 0) && decide ((cn : Int) < 3)) (ansAnd (fun Q q => ⟨_, rfl, _, _, _, _, rfl, rfl, szG, at_gd (j := 6) rfl (by omega), _, rfl, _, _, rfl, rfl, .inl ⟨by decide, by decide⟩, _, _, rfl, rfl, _, _, rfl, rfl, ⟨by omega, by omega⟩, _, _, rfl, rfl, (by show (0 : Int) < 3; decide), rfl, _, rfl, by rw [int_eqE]; exact q⟩) (fun Q q => ⟨_, rfl, _, _, rfl, rfl, _, rfl, q⟩)) (fun _ => ?_) (fun _ => ⟨l0, y6, [], [], rfl, t0, nl0, el0, .nil, by decide, fun v h => nomatch h⟩)
      refine ⟨_, rfl, _, _, _, _, rfl, rfl, szG, at_gd (j := 6) rfl (by omega), _, rfl, _, _, rfl, rfl, _, _, rfl, rfl, ⟨by omega, by omega⟩, _, _, rfl, rfl, (by show (0 : Int) < 4; decide), _, _, rfl, rfl, ?_⟩
      dsimp only [gName]
      have w4 := mod_in (zs.getD 6 0 / (6 + (k : Int))) (show (0 : Int) < 4 by decide)
      have w2 := mod_in (zs.getD 6 0 / (30 + (k : Int))) (show (0 : Int) < 2 by decide)
      have w6 := mod_in (zs.getD 6 0 / 60) (show (0 : Int) < 2 by decide)
      have w8 := mod_in (zs.getD 6 0 / 240) (show (0 : Int) < 2 by decide)
      refine ⟨_, rfl, _, _, _, _, rfl, rfl, snG, g8, _, rfl, _, rfl, _, _, rfl, rfl, _, rfl, _, _, _, _, rfl, rfl, szG, at_gd (j := 6) rfl (by omega), _, rfl, _, _, rfl, rfl, _, _, rfl, rfl, ⟨by omega, by omega⟩, _, _, rfl, rfl, (by show (0 : Int) < 2; decide), _, _, rfl, rfl, _, rfl, _, rfl, _, _, _, _, rfl, rfl, szG, at_gd (j := 6) rfl (by omega), _, _, rfl, rfl, ⟨by decide, by decide⟩, _, _, rfl, rfl, (by show (0 : Int) < 2; decide), _, _, rfl, rfl, szc 4, fun p1 np1 => ⟨szc 1, fun l1 nl1 => ?_⟩⟩
      dsimp only [gName]
      generalize zs.getD 6 0 / (6 + (k : Int)) % 4 = le at w4 np1 nl1 ⊢
      generalize zs.getD 6 0 / (30 + (k : Int)) % 2 = wi at w2 np1 nl1 ⊢
      generalize zs.getD 6 0 / 60 % 2 = fi at w6 np1 nl1 ⊢
      have ok1 : (V4.mk v8 (le - 2) (le - 2 + 1 + wi) (le - 2 + fi)).Ok := ⟨n8.nice (by decide), by show -5 ≤ le - 2; omega, by show le - 2 + 1 + wi ≤ 9; omega, by show le - 2 ≤ le - 2 + fi; omega, by show le - 2 + fi ≤ le - 2 + 1 + wi; omega⟩
      have t1 := same_new (o := HO.tup [V.str v8, .int (le - 2), .int (le - 2 + 1 + wi), .int (le - 2 + fi)]) np1
      have ep1 : (upd G1 p1 (.tup [V.str v8, .int (le - 2), .int (le - 2 + 1 + wi), .int (le - 2 + fi)])) p1 = some (.tup [V.str v8, .int (le - 2), .int (le - 2 + 1 + wi), .int (le - 2 + fi)]) := upd_same
      generalize upd G1 p1 (.tup [V.str v8, .int (le - 2), .int (le - 2 + 1 + wi), .int (le - 2 + fi)]) = G2 at t1 ep1 nl1 ⊢
      have t2 := same_new (o := HO.lst [V.ref p1]) nl1
      have el1 : (upd G2 l1 (.lst [.ref p1])) l1 = some (.lst [.ref p1]) := upd_same
      have p1l : p1 ≠ l1 := fun e => by rw [e, nl1] at ep1; cases ep1
      generalize upd G2 l1 (.lst [.ref p1]) = G3 at t2 el1 ⊢
      have t13 := t1.trans t2
      have tA := t0.trans t13
      have szA := t13.seq szG
      have hp1 : HT p1 = none := dmT _ (t0.free np1)
      have hl1 : H' l1 = none := (t0.trans t1).free nl1
      have row : ∀ {Gx : Hp}, Gx p1 = some (.tup [V.str v8, .int (le - 2), .int (le - 2 + 1 + wi), .int (le - 2 + fi)]) → DpAll K (Ho l1 (Nw HT Gx)) [.ref p1] ([V4.mk v8 (le - 2) (le - 2 + 1 + wi) (le - 2 + fi)].map V4.data) := fun {Gx} e => .cons (.tup (st (hoN_at hp1 p1l e)) (.cons (.str _) (.cons (.int _) (.cons (.int _) (.cons (.int _) .nil))))) .nil
      refine ifE (b := decide ((cn : Int) = 1) && decide (zs.getD 6 0 / 120 % 2 = 1)) (ansAnd (fun Q q => ⟨_, rfl, rfl, _, rfl, by rw [show nV cn = V.int (cn : Int) from rfl, int_eqE]; exact q⟩) (fun Q q => ⟨_, rfl, _, _, _, _, rfl, rfl, szA, at_gd (j := 6) rfl (by omega), _, _, rfl, rfl, ⟨by decide, by decide⟩, _, _, rfl, rfl, (by show (0 : Int) < 2; decide), rfl, _, rfl, by rw [int_eqE]; exact q⟩)) (fun _ => ?_) (fun _ => ⟨l1, _, [.ref p1], [V4.mk v8 (le - 2) (le - 2 + 1 + wi) (le - 2 + fi)], rfl, tA, hl1, el1, row (t2 _ _ ep1), Nat.le_succ 1, fun v h => by rw [List.mem_singleton.mp h]; exact ok1⟩)
      refine ⟨_, rfl, .inl ⟨rfl, _, sq el1⟩, _, rfl, _, _, rfl, rfl, ⟨by decide, by decide⟩, c / 11, 16, rfl, c11, by decide, fun G4 pn2 nms2 t3 npn2 en2 lnn nn2 => ?_⟩
      obtain ⟨v15, g15, m15⟩ := strs_at (ss := nms2) (i := 15) (j := 15) rfl (by omega)
      refine ⟨_, _, _, _, rfl, rfl, sq en2, g15, _, rfl, _, _, _, _, rfl, rfl, t3.seq szA, at_gd (j := 6) rfl (by omega), _, _, rfl, rfl, ⟨by decide, by decide⟩, _, _, rfl, rfl, (by show (0 : Int) < 2; decide), _, _, rfl, rfl, szc 4, fun p2 np2 => ?_⟩
      generalize zs.getD 6 0 / 240 % 2 = f2 at w8 np2 ⊢
      have t4 := same_new (o := HO.tup [V.str v15, .int 3, .int 4, .int (3 + f2)]) np2
      have el4 := t4 _ _ (t3 _ _ el1)
      have p2l : p2 ≠ l1 := fun e => by rw [e, t3 _ _ el1] at np2; cases np2
      refine ⟨l1, _, _, rfl, rfl, el4, szl (show 1 < 100000 by decide), l1, _, [.ref p1] ++ [.ref p2], [V4.mk v8 (le - 2) (le - 2 + 1 + wi) (le - 2 + fi)] ++ [V4.mk v15 3 4 (3 + f2)], rfl, Same.mut ((tA.trans t3).trans t4) hl1, hl1, upd_same, ?_, Nat.le_refl 2, fun v h => ?_⟩
      · rw [List.map_append]
        refine dpa_app (row ?_) (.cons (.tup (st (hoN_at (dmT _ ((tA.trans t3).free np2)) p2l ?_)) (.cons (.str _) (.cons (.int _) (.cons (.int _) (.cons (.int _) .nil))))) .nil)
        · rw [upd_ne p1l]; exact t4 _ _ (t3 _ _ (t2 _ _ ep1))
        · rw [upd_ne p2l]; exact upd_same
      · rcases List.mem_append.mp h with h | h
        · rw [List.mem_singleton.mp h]; exact ok1
        · rw [List.mem_singleton.mp h]; exact ⟨(nn2 v15 m15).nice (by decide), by show (-5 : Int) ≤ 3; decide, by show (4 : Int) ≤ 9; decide, by show (3 : Int) ≤ 3 + f2; omega, by show 3 + f2 ≤ (4 : Int); omega⟩
    rintro σ' G ⟨lc, y6, xl, lv, rfl, tG, nlc, elc, dlc, llc, oklc⟩
    have sFG := sF.trans tG
    have eSG := tG _ _ (fr _ _ nS.1 nS.2 eST)
    have dSG : DpAll K G xs (vs.map V4.data) := dpAll_mono (sb7.trans sFG) dS
    have dlG : DpAll K G xl (lv.map V4.data) := dpAll_mono (ho_out.trans nw_same) dlc
    refine ⟨_, rfl, sa, rfl, ⟨_, sq eSG⟩, fun D nD => lc_list (K := K) (a := sa) (xs := xs) (fun i Hx => Same G Hx ∧ Hx D = some (.lst (((vs.take i).map V4.nm).map V.str))) ⟨same_new nD, upd_same⟩ (fun i Hx _ p => p.1.seq (sq eSG)) ?_ ?_⟩
    · rintro i u Hx hu ⟨sm, eD⟩
      obtain ⟨v, hv, du⟩ := dpa_map_at dSG hu
      have il := (List.getElem?_eq_some_iff.mp hv).1
      obtain ⟨ta, tx, rfl, ht, dt⟩ := dp_tup (dp_mono sm du)
      obtain ⟨v0, r, rfl, d0, _⟩ := dpa_cons dt
      obtain rfl := dp_str d0
      refine ⟨rfl, yesT4 ?_⟩
      exact ⟨_, rfl, _, _, _, _, rfl, rfl, ht, atI_nat (j := 0) rfl, _, eD, szl (by rw [List.length_map, List.length_map, List.length_take]; omega), Same.mut sm nD, by rw [upd_same, List.take_add_one, hv, List.map_append, List.map_append]; rfl⟩
    rintro Ga ⟨sa1, eD⟩
    have xsl : xs.length = vs.length := dpa_map_len dSG
    rw [xsl, List.take_length] at eD
    have elG := sa1 _ _ elc
    refine ⟨_, rfl, lc, rfl, ⟨_, sq elG⟩, fun D2 nD2 => lc_list (K := K) (a := lc) (xs := xl) (fun i Hx => Same Ga Hx ∧ Hx D2 = some (.lst (((lv.take i).map V4.nm).map V.str))) ⟨same_new nD2, upd_same⟩ (fun i Hx _ p => p.1.seq (sq elG)) ?_ ?_⟩
    · rintro i u Hx hu ⟨sm, eD2⟩
      obtain ⟨v, hv, du⟩ := dpa_map_at (dpAll_mono sa1 dlG) hu
      have il := (List.getElem?_eq_some_iff.mp hv).1
      obtain ⟨ta, tx, rfl, ht, dt⟩ := dp_tup (dp_mono sm du)
      obtain ⟨v0, r, rfl, d0, _⟩ := dpa_cons dt
      obtain rfl := dp_str d0
      refine ⟨rfl, yesT4 ?_⟩
      exact ⟨_, rfl, _, _, _, _, rfl, rfl, ht, atI_nat (j := 0) rfl, _, eD2, szl (by rw [List.length_map, List.length_map, List.length_take]; omega), Same.mut sm nD2, by rw [upd_same, List.take_add_one, hv, List.map_append, List.map_append]; rfl⟩
    rintro Gb ⟨sb1, eD2⟩
    have xll : xl.length = lv.length := dpa_map_len dlG
    rw [xll, List.take_length] at eD2
    refine ⟨D, D2, _, _, rfl, rfl, sq (sb1 _ _ eD), sq eD2, Nat.le_trans (by rw [List.length_map, List.length_map, List.length_map, List.length_map]; show _ ≤ 100; omega) (by decide), fun D3 nD3 => ?_⟩
    rw [show (vs.map V4.nm).map V.str ++ (lv.map V4.nm).map V.str = (vs.map V4.nm ++ lv.map V4.nm).map V.str by rw [List.map_append]]
    dsimp only [gName]
    have sc1 := same_new (o := HO.lst ((vs.map V4.nm ++ lv.map V4.nm).map V.str)) nD3
    have e3 : (upd Gb D3 (.lst ((vs.map V4.nm ++ lv.map V4.nm).map V.str))) D3 = some (.lst ((vs.map V4.nm ++ lv.map V4.nm).map V.str)) := upd_same
    generalize upd Gb D3 (.lst ((vs.map V4.nm ++ lv.map V4.nm).map V.str)) = Gc at sc1 e3 ⊢
    have sGc := (sa1.trans sb1).trans sc1
    have sHc := tG.trans sGc
    refine ⟨_, rfl, _, rfl, _, rfl, _, rfl, _, rfl, _, rfl, c, rfl, c0, fun Gd pm ms sd npm epm lms nms' => ⟨szc 6, fun th nth => ?_⟩⟩
    have se := same_new (o := HO.lst [V.ref D3, .ref D3, .ref ba, .ref qc, .bl true, .ref pm]) nth
    have eth : (upd Gd th (.lst [V.ref D3, .ref D3, .ref ba, .ref qc, .bl true, .ref pm])) th = some (.lst [V.ref D3, .ref D3, .ref ba, .ref qc, .bl true, .ref pm]) := upd_same
    dsimp only
    generalize upd Gd th (.lst [V.ref D3, .ref D3, .ref ba, .ref qc, .bl true, .ref pm]) = Ge at se eth ⊢
    have sHe := (sHc.trans sd).trans se
    have tte := tt.same sHe
    obtain ⟨ut, hut⟩ := tt.dom
    have D3t : D3 ≠ tp := fun e => by have := (tG.trans (sa1.trans sb1)) _ _ hut; rw [← e, nD3] at this; cases this
    have pmt : pm ≠ tp := fun e => by have := sHc _ _ hut; rw [← e, npm] at this; cases this
    have tht : th ≠ tp := fun e => by have := (sHc.trans sd) _ _ hut; rw [← e, nth] at this; cases this
    have e3e := (sd.trans se) _ _ e3
    have okE : (Nms.mk (vs.map V4.nm ++ lv.map V4.nm) bs ca ms true).Ok := ⟨fun s h => by
      rcases List.mem_append.mp h with h | h
      · obtain ⟨v, hv, rfl⟩ := List.mem_map.mp h; exact (okS v hv).n
      · obtain ⟨v, hv, rfl⟩ := List.mem_map.mp h; exact (oklc v hv).n, nbs, nca, nms', by show 0 < ca.length; omega, by show 0 < ms.length; omega⟩
    have b5 : ((5 : Nat) : Int) * bt 2 ls.length ≤ 27800 := by omega
    refine ⟨_, rfl, tp, pt, ts, th, la, ⟨vs.map V4.nm ++ lv.map V4.nm, bs, ca, ms, true⟩, ls, 2, 5, 0, (k : Int) * 30000, rfl, by decide, by decide, by decide, lL, by omega, by decide, tte, by omega, ⟨D3, D3, ba, qc, pm, ⟨sq eth, tht⟩, ⟨sq e3e, D3t⟩, ⟨sq e3e, D3t⟩, ⟨sq (sHe _ _ (fr _ _ nB.1 nB.2 eBT)), nB.1⟩, ⟨sq (sHe _ _ (fr _ _ nC.1 nC.2 eCT)), nC.1⟩, ⟨sq (se _ _ epm), pmt⟩⟩, okE, sq (sHe _ _ (fr _ _ nL.1 nL.2 eLT)), nL.1, okL, fun H6 p1 xs1 ss1 s6' t6 np1 ep1 d1 c1 b1 => ?_⟩
    dsimp only [gName]
    have sH6 := (Same.sb (tp := tp) sHe).trans s6'
    have eK6 := sH6 _ _ kot eK
    have dm6 : Dm HT H6 := dmT.trans (sH6.dm t6.dom)
    have dmG : Dm HT Ge := dmT.trans (Same.dm sHe)
    have p1t : p1 ≠ tp := fun e => by have := sHe _ _ hut; rw [← e, np1] at this; cases this
    have sz6 := sH6.seqL npz sz'
    have xkl : xk.length = ks.length := dpa_map_len dK
    obtain ⟨cv, hcv, mcv⟩ := strs_at (ss := ca) (i := (k : Int)) (j := k) rfl (by omega)
    have w7 := mod_in (zs.getD 7 0 / 2) (show (0 : Int) < 3 by decide)
    obtain ⟨n7, e7⟩ : ∃ n7 : Nat, zs.getD 7 0 / 2 % 3 = (n7 : Int) := ⟨_, (Int.toNat_of_nonneg w7.1).symm⟩
    have eC6 := sH6 _ _ nC.1 (fr _ _ nC.1 nC.2 eCT)
    refine ⟨_, rfl, .inl ⟨rfl, _, sq eK6⟩, _, rfl, _, rfl, _, _, _, _, rfl, rfl, sq eC6, hcv, ?_⟩
    refine ifCnt (n := n7) (b := decide (V.int (k : Int) = V.int (zs.getD 7 0 % (cn : Int)))) (fun Q q => ⟨_, rfl, _, rfl, _, _, _, _, rfl, rfl, sz6, at_gd (j := 7) rfl (by omega), _, rfl, _, _, rfl, rfl, (by show (0 : Int) < (cn : Int); omega), rfl, _, rfl, q⟩) (fun Q q => ⟨_, rfl, _, _, _, _, rfl, rfl, sz6, at_gd (j := 7) rfl (by omega), _, _, rfl, rfl, ⟨by decide, by decide⟩, _, _, rfl, rfl, (by show (0 : Int) < 3; decide), by show Q (V.int (zs.getD 7 0 / 2 % 3)) H6; rw [e7]; exact q⟩) (fun cnt hcnt => ?_)
    have dBody : Dp K (Nw HT H6) (.ref p1) (.list (datas ss1)) := .lst (sq ((nw_at (dmG _ np1)).trans ep1)) (dpAll_mono (ho_out.trans (nw_mono2 dmG (Same.refl _))) d1)
    refine ⟨_, rfl, _, rfl, ifTen (b := decide ((cn : Int) < 3)) (fun Q q => ⟨_, rfl, _, _, rfl, rfl, _, rfl, q⟩) (by decide) (by decide) (fun mo hmo => ?_)⟩
    refine ⟨.ref p1, ss1, mo, 5 * tc 2 ls.length, 4 + 3 * 2, HT, rfl, hmo, dm6, dBody, c1, by omega, by decide, by decide, b1, fun H8' v' kk s7' dv' => ?_⟩
    refine ⟨szc 4, fun pk npk => ?_⟩
    have sp := same_new (o := HO.tup [V.str cv, cntV4 cnt, .ref lc, v']) npk
    have epk : (upd H8' pk (.tup [V.str cv, cntV4 cnt, .ref lc, v'])) pk = some (.tup [V.str cv, cntV4 cnt, .ref lc, v']) := upd_same
    generalize upd H8' pk (.tup [V.str cv, cntV4 cnt, .ref lc, v']) = HZ at sp epk ⊢
    have s6Z := s7'.trans sp
    have sHZ := sH6.trans (Same.sb s6Z)
    have eKZ := s6Z _ _ eK6
    have sGZ := (Same.sb (tp := tp) ((sGc.trans sd).trans se)).trans (s6'.trans (Same.sb s6Z))
    have lct : lc ≠ tp := fun e => by rw [e, hut] at nlc; cases nlc
    have hpk : HT pk = none := (dm6.trans (Same.dm s7')) _ npk
    refine ⟨ko, _, _, rfl, rfl, eKZ, szl (by omega), ?_⟩
    have fr' : ∀ b u, b ≠ tp → b ≠ ko → HT b = some u → (upd HZ ko (.lst (xk ++ [.ref pk]))) b = some u := fun b u nt nb h => by rw [upd_ne nb]; exact sHZ _ _ nt (fr b u nt nb h)
    have tZ := t6.same s6Z
    refine ⟨_, _, _, _, _, _, xk ++ [.ref pk], ks ++ [K4.mk cv cnt lv (ss1.take kk)], rfl, fr', ?_, upd_same, ?_, by rw [List.length_append, List.length_singleton, lK], ?_⟩
    · obtain ⟨n, h0, h1, h2⟩ := tZ.tape
      refine ⟨⟨n, h0, by omega, by rw [upd_ne (Ne.symm kot)]; exact h2⟩, ?_, ptp, tT.l0, tT.l1, tT.pos⟩
      rcases tT.dig with (r | ⟨o, r⟩) | r
      · exact .inl (.inl (fr' _ _ ptp ptk r))
      · exact .inl (.inr ⟨o, fr' _ _ ptp ptk r⟩)
      · exact .inr r
    · rw [List.map_append]
      refine dpa_app (dpAll_mono ((nw_sb (fun _ h => h) sHZ tT.dom).trans (nw_upd eKT)) dK) (.cons (dp_mono (nw_upd eKT) ?_) .nil)
      refine .tup (st ((nw_at hpk).trans epk)) (.cons (.str _) (.cons (cnt_dp4 cnt) (.cons (.lst (sq ((nw_at (dmT _ nlc)).trans (sGZ _ _ lct elc))) (dpAll_mono (ho_out.trans (nw_sb (fun _ h => h) sGZ tT.dom)) dlc)) (.cons (dp_mono (nw_mono2 (fun _ h => h) sp) dv') .nil))))
    · rw [List.map_append]
      have cD : NcD (cntD4 cnt) 1 11 := by
        cases cnt with
        | none => exact ⟨rfl, Nat.le_refl _, Nat.zero_le _⟩
        | some n => exact NcD.int (by have := hcnt n rfl; omega)
      have bD : NcL (datas (ss1.take kk)) (5 * tc 2 ls.length) (4 + 3 * 2) := by rw [datas_take]; exact ncl_take kk c1
      have kD : NcD (K4.mk cv cnt lv (ss1.take kk)).data 11100 12 := (NcL.tup (m := 11) (.cons (NcD.str (nca cv mcv)) (.cons cD (.cons ((NcL.lst (v4s_nc oklc)).mono (Nat.le_refl _) (by decide)) (.cons ((NcL.lst bD).mono (Nat.le_refl _) (by decide)) (.nil (c := 0))))))).mono (by omega) (Nat.le_refl _)
      exact (NcL.app nK (NcL.cons kD (.nil (c := 0)))).mono (by omega) (Nat.le_refl _)
  rintro σ' H' ⟨y5, y6, y7, y14, y15, y16, xk, ks, rfl, fr, tt, eK, dK, lK, nK⟩
  have sF := frS fr
  refine ⟨_, rfl, _, rfl, _, rfl, _, rfl, szc 4, fun pr npr => ?_⟩
  have sp := same_new (o := HO.tup [V.ref sa, .ref la, .ref ba, .ref ko]) npr
  have s7F := sF.trans sp
  refine q _ _ ⟨vs, ls, bs, ks⟩ ((((s1.trans s2).trans s26).trans sb7).trans s7F) (.tup (st upd_same) (.cons (.lst (sq (sp _ _ (fr _ _ nS.1 nS.2 eST))) (dpAll_mono (sb7.trans s7F) dS)) (.cons (.lst (sq (sp _ _ (fr _ _ nL.1 nL.2 eLT))) (dpa_strs ls)) (.cons (.lst (sq (sp _ _ (fr _ _ nB.1 nB.2 eBT))) (dpa_strs bs)) (.cons (.lst (sq (sp _ _ eK)) (dpAll_mono (nw_same.trans sp) dK)) .nil))))) ⟨okS, okL, nbs, by show ks.length ≤ 4; omega, ?_⟩
  have lbs : bs.length ≤ 1 := by omega
  exact (NcL.tup (m := 15) (.cons ((NcL.lst (v4s_nc okS)).mono (Nat.le_refl _) (by decide)) (.cons ((NcL.lst (strs_nc4 (m := 0) okL)).mono (Nat.le_refl _) (by decide)) (.cons ((NcL.lst (strs_nc4 (m := 0) nbs)).mono (Nat.le_refl _) (by decide)) (.cons ((NcL.lst nK).mono (Nat.le_refl _) (by decide)) (.nil (c := 0))))))).mono (by omega) (Nat.le_refl _)
end
/-! ### what a copy owns -/
mutual
inductive Own (K : PySem.W.Frag) (H : Hp) : PyData → V → (Addr → Prop) → Prop
  | non {R} : Own K H .none .non R
  | bl {R} (b : Bool) : Own K H (.bool b) (.bl b) R
  | int {R} (i : Int) : Own K H (.int i) (.int i) R
  | str {R} (s : Str) : Own K H (.str s) (.str s) R
  | lst {ds a xs R} (h : R a) (e : H a = some (.lst xs)) (c : OwnL K H (fun b => R b ∧ b ≠ a) ds xs) : Own K H (.list ds) (.ref a) R
  | tup {ds a xs R} (h : R a) (e : H a = some (.tup xs)) (c : OwnL K H (fun b => R b ∧ b ≠ a) ds xs) : Own K H (.tuple ds) (.ref a) R
inductive OwnL (K : PySem.W.Frag) (H : Hp) : (Addr → Prop) → List PyData → List V → Prop
  | nil {R} : OwnL K H R [] []
  | cons {R R1 R2 d v ds xs} (h1 : ∀ b, R1 b → R b) (h2 : ∀ b, R2 b → R b) (h : ∀ b, R1 b → ¬ R2 b) (o : Own K H d v R1) (r : OwnL K H R2 ds xs) : OwnL K H R (d :: ds) (v :: xs)
end
section
variable {K : PySem.W.Frag} {H H' : Hp}
theorem Own.inv : ∀ {d : PyData} {v : V} {R : Addr → Prop}, Own K H d v R → (match d with
    | .list ds => ∃ a xs, v = .ref a ∧ R a ∧ H a = some (.lst xs) ∧ OwnL K H (fun b => R b ∧ b ≠ a) ds xs
    | .tuple ds => ∃ a xs, v = .ref a ∧ R a ∧ H a = some (.tup xs) ∧ OwnL K H (fun b => R b ∧ b ≠ a) ds xs
    | .none => v = .non
    | .bool b => v = .bl b
    | .int i => v = .int i
    | .str s => v = .str s
    | .dict _ => False)
  | _, _, _, .non => rfl
  | _, _, _, .bl _ => rfl
  | _, _, _, .int _ => rfl
  | _, _, _, .str _ => rfl
  | _, _, _, .lst h e c => ⟨_, _, rfl, h, e, c⟩
  | _, _, _, .tup h e c => ⟨_, _, rfl, h, e, c⟩
theorem OwnL.up {R R' : Addr → Prop} {ds : List PyData} {xs : List V} (h : OwnL K H R ds xs) (s : ∀ b, R b → R' b) : OwnL K H R' ds xs := by
  cases h with
  | nil => exact .nil
  | cons h1 h2 h o r => exact .cons (fun b x => s b (h1 b x)) (fun b x => s b (h2 b x)) h o r
theorem Own.up {R R' : Addr → Prop} {d : PyData} {v : V} (h : Own K H d v R) (s : ∀ b, R b → R' b) : Own K H d v R' := by
  cases h with
  | non => exact .non
  | bl b => exact .bl b
  | int b => exact .int b
  | str b => exact .str b
  | lst h e c => exact .lst (s _ h) e (c.up fun b x => ⟨s b x.1, x.2⟩)
  | tup h e c => exact .tup (s _ h) e (c.up fun b x => ⟨s b x.1, x.2⟩)
mutual
theorem Own.at' : ∀ {d : PyData} {v : V} {R : Addr → Prop}, Own K H d v R → (∀ b u, R b → H b = some u → H' b = some u) → Own K H' d v R
  | _, _, _, .non, _ => .non
  | _, _, _, .bl b, _ => .bl b
  | _, _, _, .int b, _ => .int b
  | _, _, _, .str b, _ => .str b
  | _, _, _, .lst h e c, s => .lst h (s _ _ h e) (OwnL.at' c fun b u x => s b u x.1)
  | _, _, _, .tup h e c, s => .tup h (s _ _ h e) (OwnL.at' c fun b u x => s b u x.1)
theorem OwnL.at' : ∀ {R : Addr → Prop} {ds : List PyData} {xs : List V}, OwnL K H R ds xs → (∀ b u, R b → H b = some u → H' b = some u) → OwnL K H' R ds xs
  | _, _, _, .nil, _ => .nil
  | _, _, _, .cons h1 h2 h o r, s => .cons h1 h2 h (Own.at' o fun b u x => s b u (h1 b x)) (OwnL.at' r fun b u x => s b u (h2 b x))
end
mutual
theorem Own.dp : ∀ {d : PyData} {v : V} {R : Addr → Prop}, Own K H d v R → Dp K H v d
  | _, _, _, .non => .non
  | _, _, _, .bl b => .bl b
  | _, _, _, .int b => .int b
  | _, _, _, .str b => .str b
  | _, _, _, .lst h e c => .lst (sq e) (OwnL.dp c)
  | _, _, _, .tup h e c => .tup (st e) (OwnL.dp c)
theorem OwnL.dp : ∀ {R : Addr → Prop} {ds : List PyData} {xs : List V}, OwnL K H R ds xs → DpAll K H xs ds
  | _, _, _, .nil => .nil
  | _, _, _, .cons _ _ _ o r => .cons (Own.dp o) (OwnL.dp r)
end
theorem OwnL.snoc {d : PyData} {v : V} {R1 : Addr → Prop} : ∀ {R R2 : Addr → Prop} {ds : List PyData} {xs : List V}, OwnL K H R ds xs → Own K H d v R1 → (∀ b, R1 b → ¬ R b) → (∀ b, R b → R2 b) → (∀ b, R1 b → R2 b) → OwnL K H R2 (ds ++ [d]) (xs ++ [v])
  | R, R2, _, _, .nil, o, n, a, b => .cons (R1 := R1) (R2 := fun _ => False) b (fun _ h => h.elim) (fun _ _ h => h) o .nil
  | R, R2, _, _, .cons (R1 := Ra) (R2 := Rb) h1 h2 h o' r, o, n, a, b => .cons (R1 := Ra) (R2 := fun b => Rb b ∨ R1 b) (fun x y => a x (h1 x y)) (fun x y => y.elim (fun z => a x (h2 x z)) (b x)) (fun x y z => z.elim (h x y) fun w => n x w (h1 x y)) o' (OwnL.snoc r o (fun x y z => n x y (h2 x z)) (fun _ => .inl) fun _ => .inr)
end
section
variable {K : PySem.W.Frag}
theorem tyx_lstQ {H : Hp} {a : Addr} {xs : List V} (h : SqL K H a xs) : TyX K H (.ref a) (.type "list") := by
  rcases h with (h | ⟨o, h⟩) | ⟨o, its, n, hl, hc, _⟩
  · exact .base (.lst h)
  · exact .base (.frz h)
  · exact .kList hl hc
theorem tyx_tupQ {H : Hp} {a : Addr} {xs : List V} (h : SqT K H a xs) : TyX K H (.ref a) (.type "tuple") := by
  rcases h with (h | ⟨o, h⟩) | ⟨o, its, n, hl, hc, _⟩
  · exact .base (.tup h)
  · exact .fTuple h
  · exact .kTuple hl hc
end
section
variable {P : Program} {w : World} {K : PySem.W.Frag} {mg : Str → Option Value} {base : Heap}
abbrev New (H H' : Hp) (b : Addr) : Prop := H b = none ∧ H' b ≠ none
def Rc (H Hx : Hp) (D b : Addr) : Prop := H b = none ∧ Hx b ≠ none ∧ b ≠ D
theorem own_step {H Hx H5 : Hp} {D : Addr} {ys : List V} {dl : List PyData} {d : PyData} {v' : V} (sm : Same H Hx) (eD : Hx D = some (.lst ys)) (ol : OwnL K Hx (Rc H Hx D) dl ys) (s5 : Same Hx H5) (o5 : Own K H5 d v' (New Hx H5)) : OwnL K (upd H5 D (.lst (ys ++ [v']))) (Rc H (upd H5 D (.lst (ys ++ [v']))) D) (dl ++ [d]) (ys ++ [v']) := by
  have e5 : ∀ {b}, New Hx H5 b → b ≠ D := fun {b} h e => by have h1 := h.1; rw [e, eD] at h1; cases h1
  have a1 : OwnL K (upd H5 D (.lst (ys ++ [v']))) (Rc H Hx D) dl ys := ol.at' fun b u h e => by rw [upd_ne h.2.2]; exact s5 _ _ e
  have a2 : Own K (upd H5 D (.lst (ys ++ [v']))) d v' (New Hx H5) := o5.at' fun b u h e => by rw [upd_ne (e5 h)]; exact e
  refine a1.snoc a2 (fun b h g => g.2.1 h.1) (fun b h => ⟨h.1, ?_, h.2.2⟩) (fun b h => ⟨sm.free h.1, ?_, e5 h⟩)
  · rw [upd_ne h.2.2]
    intro z
    exact h.2.1 (s5.free z)
  · rw [upd_ne (e5 h)]
    exact h.2
def spFresh (K : PySem.W.Frag) (n : Nat) : Sp := fun vs H Q _ => ∃ (v : V) (d : PyData) (c m : Nat), vs = [v] ∧ Dp K H v d ∧ NcD d c m ∧ c ≤ 90000 ∧ m < n ∧ ∀ H' v', Same H H' → Own K H' d v' (New H H') → Q v' H'
abbrev s_fresh_copy : Stmt := topS 1
theorem sc_fresh_copy : FnScope ["part", "inner"] ["part"] (defScope s_fresh_copy) := ⟨rfl, rfl, rfl, by decide +kernel, rfl, by decide +kernel, by decide +kernel⟩
-- fresh_copy slots: part=0 inner=1(None) globals: isinstance list tuple
set_option maxHeartbeats 4000000 in
theorem fd_fresh_copy {f : Addr} {fd : FuncData} (F : Fun K "fresh_copy" "fresh_copy" s_fresh_copy f fd) (m : mg "fresh_copy" = some (.ref f)) (B : Bt mg) : ∀ n : Nat, Fd P w K mg base "fresh_copy" ["part"] (n + 1) (spFresh K n)
  | 0 => Fd.none F m (F.binds (ps := ["part"]) fun _ _ _ _ _ _ us hl => match us, hl with | [_], _ => rfl) fun vs H Q E h => by
    obtain ⟨v, d, c, m, _, _, _, _, h1, _⟩ := h
    omega
  | n + 1 => by
    have D_fresh_copy := fd_fresh_copy F m B n
    refine ⟨f, fd, F.ok sc_fresh_copy (fun vs H Q E h => ?_) (fun cdv A outer s H vs Q E hr h => ?_), m, F.kp, F.binds (ps := ["part"]) fun _ _ _ _ _ _ us hl => match us, hl with | [_], _ => rfl⟩
    · obtain ⟨v, d, c, m, rfl, _⟩ := h
      rfl
    obtain ⟨v, d, c, mm, rfl, dv, nc, hc, hm, q⟩ := h
    refine ⟨_, (pss_cons (ps_if (pt_val (pe_callB (cIsi K) (by rfl) B.isinstance (by decide +kernel) (pa_cons (pv 0) (pa_cons (pe_bltn (v := .ty "list") (by rfl) B.list (by decide +kernel) rfl) pa_nil))))
 (pss_one (ps_ret (pe_lc (own := [("inner", 1)]) (g := gName 1) (by rfl) sc_fresh_copy.nd (piL K (pv 0)) (blkOk_by (own := [("inner", 1)]) (N := ["part", "inner"]) (sc := (defScope s_fresh_copy)) (by decide +kernel)) (fun _ _ _ _ _ => (pg_name (i := 1) sc_fresh_copy.nd rfl (Or.inl rfl))) (fun _ _ _ _ _ => pts_nil) (fun _ _ _ _ _ => (pe_fn D_fresh_copy hr rfl (pa_cons (pv 1) pa_nil))))))
 pss_nil)
 (pss_cons (ps_if (pt_val (pe_callB (cIsi K) (by rfl) B.isinstance (by decide +kernel) (pa_cons (pv 0) (pa_cons (pe_bltn (v := .ty "tuple") (by rfl) B.tuple (by decide +kernel) rfl) pa_nil))))
 (pss_one (ps_ret (pe_callTy call_tuple_of (by rfl) B.tuple (by decide +kernel) (pa_cons (pe_lc (own := [("inner", 1)]) (g := gName 1) (by rfl) sc_fresh_copy.nd (piT K (pv 0)) (blkOk_by (own := [("inner", 1)]) (N := ["part", "inner"]) (sc := (defScope s_fresh_copy)) (by decide +kernel)) (fun _ _ _ _ _ => (pg_name (i := 1) sc_fresh_copy.nd rfl (Or.inl rfl))) (fun _ _ _ _ _ => pts_nil) (fun _ _ _ _ _ => (pe_fn D_fresh_copy hr rfl (pa_cons (pv 1) pa_nil)))) pa_nil))))
 pss_nil)
 (pss_one (ps_ret (pv 0))))), ?_⟩
    have step : ∀ {ds : List PyData} {a : Addr} {xs : List V} {D : Addr}, (∀ x ∈ ds, ∃ m', NcD x c m' ∧ m' < n) → xs.length ≤ 90000 → DpAll K H xs ds → H D = none → ∀ (i : Nat) (x : V) (Hx : Hp), xs[i]? = some x → (∃ ys, Same H Hx ∧ Hx D = some (.lst ys) ∧ ys.length = i ∧ OwnL K Hx (Rc H Hx D) (ds.take i) ys) → tCall (spFresh K n) [] E0 (tCons (tVar 1) tNil) [some (.ref a), some x] Hx fun y H4 => ∃ acc, H4 D = some (.lst acc) ∧ acc.length < sizeLine ∧ ∃ ys, Same H (upd H4 D (.lst (acc ++ [y]))) ∧ (upd H4 D (.lst (acc ++ [y]))) D = some (.lst ys) ∧ ys.length = i + 1 ∧ OwnL K (upd H4 D (.lst (acc ++ [y]))) (Rc H (upd H4 D (.lst (acc ++ [y]))) D) (ds.take (i + 1)) ys := fun {ds a xs D} hn hx dx nD i x Hx hi h => by
      obtain ⟨ys, sm, eD, yl, ol⟩ := h
      obtain ⟨dd, hd, dxx⟩ := dpa_at dx hi
      have il := (List.getElem?_eq_some_iff.mp hi).1
      obtain ⟨m', nd, lt⟩ := hn dd (List.mem_of_getElem? hd)
      refine ⟨_, rfl, x, dd, c, m', rfl, dp_mono sm dxx, nd, hc, lt, fun H5 v' s5 o5 => ⟨ys, s5 _ _ eD, szl (by omega), ys ++ [v'], Same.mut (sm.trans s5) nD, upd_same, by rw [List.length_append, List.length_singleton, yl], ?_⟩⟩
      rw [List.take_add_one, hd]
      exact own_step sm eD ol s5 o5
    cases d with
    | none =>
      cases dv
      exact ⟨_, rfl, _, _, _, _, false, rfl, .ty "list", .base .non, kit_ty (by decide +kernel), _, rfl, iteFx rfl ⟨_, rfl, _, _, _, _, false, rfl, .ty "tuple", .base .non, kit_ty (by decide +kernel), _, rfl, iteFx rfl ⟨_, rfl, q H _ (Same.refl _) .non⟩⟩⟩
    | bool b =>
      cases dv
      exact ⟨_, rfl, _, _, _, _, false, rfl, .ty "list", .base (.bl _), kit_ty (by decide +kernel), _, rfl, iteFx rfl ⟨_, rfl, _, _, _, _, false, rfl, .ty "tuple", .base (.bl _), kit_ty (by decide +kernel), _, rfl, iteFx rfl ⟨_, rfl, q H _ (Same.refl _) (.bl _)⟩⟩⟩
    | int b =>
      cases dv
      exact ⟨_, rfl, _, _, _, _, false, rfl, .ty "list", .base (.int _), kit_ty (by decide +kernel), _, rfl, iteFx rfl ⟨_, rfl, _, _, _, _, false, rfl, .ty "tuple", .base (.int _), kit_ty (by decide +kernel), _, rfl, iteFx rfl ⟨_, rfl, q H _ (Same.refl _) (.int _)⟩⟩⟩
    | str b =>
      cases dv
      exact ⟨_, rfl, _, _, _, _, false, rfl, .ty "list", .base (.str _), kit_ty (by decide +kernel), _, rfl, iteFx rfl ⟨_, rfl, _, _, _, _, false, rfl, .ty "tuple", .base (.str _), kit_ty (by decide +kernel), _, rfl, iteFx rfl ⟨_, rfl, q H _ (Same.refl _) (.str _)⟩⟩⟩
    | dict kvs => exact absurd (show false = true from nc.ni) (fun z => nomatch z)
    | list ds =>
      obtain ⟨a, xs, rfl, ha, dx⟩ := dp_lst dv
      obtain ⟨m', em, nl⟩ := ncd_lst nc
      have hn : ∀ x ∈ ds, ∃ m', NcD x c m' ∧ m' < n := fun x h => ⟨m', ncl_mem nl h, by omega⟩
      have hx : xs.length ≤ 90000 := by rw [dpa_len dx]; have := nl.len; omega
      refine ⟨_, rfl, .ref a, _, _, _, true, rfl, .ty "list", tyx_lstQ ha, kit_ty (by decide +kernel), _, rfl, iteTx rfl ?_⟩
      refine ⟨_, rfl, a, rfl, ⟨_, ha⟩, fun D nD => lc_list (K := K) (a := a) (xs := xs) (fun i Hx => ∃ ys, Same H Hx ∧ Hx D = some (.lst ys) ∧ ys.length = i ∧ OwnL K Hx (Rc H Hx D) (ds.take i) ys) ⟨[], same_new nD, upd_same, rfl, .nil⟩ (fun i Hx _ p => ?_) (fun i x Hx hi h => ⟨rfl, yesT4 (step hn hx dx nD i x Hx hi h)⟩) (fun Hx h => ?_)⟩
      · obtain ⟨ys, sm, _⟩ := p
        exact sm.seq ha
      · obtain ⟨ys, sm, eD, yl, ol⟩ := h
        rw [dpa_len dx, List.take_length] at ol
        exact q Hx (.ref D) sm (.lst ⟨nD, by rw [eD]; exact fun z => nomatch z⟩ eD (ol.up fun b h => ⟨⟨h.1, h.2.1⟩, h.2.2⟩))
    | tuple ds =>
      obtain ⟨a, xs, rfl, ha, dx⟩ := dp_tup dv
      obtain ⟨m', em, nl⟩ := ncd_tup nc
      have hn : ∀ x ∈ ds, ∃ m', NcD x c m' ∧ m' < n := fun x h => ⟨m', ncl_mem nl h, by omega⟩
      have hx : xs.length ≤ 90000 := by rw [dpa_len dx]; have := nl.len; omega
      refine ⟨_, rfl, .ref a, _, _, _, false, rfl, .ty "list", tyx_tupQ ha, kit_ty (by decide +kernel), _, rfl, iteFx rfl ?_⟩
      refine ⟨_, rfl, .ref a, _, _, _, true, rfl, .ty "tuple", tyx_tupQ ha, kit_ty (by decide +kernel), _, rfl, iteTx rfl ?_⟩
      refine ⟨_, rfl, a, rfl, ⟨_, ha⟩, fun D nD => lc_tup (K := K) (a := a) (xs := xs) (fun i Hx => ∃ ys, Same H Hx ∧ Hx D = some (.lst ys) ∧ ys.length = i ∧ OwnL K Hx (Rc H Hx D) (ds.take i) ys) ⟨[], same_new nD, upd_same, rfl, .nil⟩ (fun i Hx _ p => ?_) (fun i x Hx hi h => ⟨rfl, yesT4 (step hn hx dx nD i x Hx hi h)⟩) (fun Hx h => ?_)⟩
      · obtain ⟨ys, sm, _⟩ := p
        exact Same.seqT sm ha
      · obtain ⟨ys, sm, eD, yl, ol⟩ := h
        rw [dpa_len dx, List.take_length] at ol
        refine ⟨D, ys, rfl, .inl ⟨sq eD, fun l nl2 => q _ _ (sm.trans (same_new nl2)) (.tup ⟨sm.free nl2, by rw [upd_same]; exact fun z => nomatch z⟩ upd_same ((ol.at' fun b u _ e => same_new nl2 _ _ e).up fun b h => ?_))⟩⟩
        have bl : b ≠ l := fun e => h.2.1 (by rw [e]; exact nl2)
        exact ⟨⟨h.1, by rw [upd_ne bl]; exact h.2.1⟩, bl⟩
end
section
variable {P : Program} {w : World} {K : PySem.W.Frag} {mg : Str → Option Value} {base : Heap}
/-- all outside the region stands, and nothing is gone -/
def Out (R : Addr → Prop) (H H' : Hp) : Prop := (∀ b u, ¬ R b → H b = some u → H' b = some u) ∧ ∀ b, H b ≠ none → H' b ≠ none
theorem Out.refl {R : Addr → Prop} (H : Hp) : Out R H H := ⟨fun _ _ _ h => h, fun _ h => h⟩
theorem Out.trans {R : Addr → Prop} {H H1 H2 : Hp} (a : Out R H H1) (b : Out R H1 H2) : Out R H H2 := ⟨fun x u n h => b.1 x u n (a.1 x u n h), fun x h => b.2 x (a.2 x h)⟩
theorem Out.up {R R' : Addr → Prop} {H H' : Hp} (a : Out R H H') (s : ∀ b, R b → R' b) : Out R' H H' := ⟨fun x u n h => a.1 x u (fun r => n (s x r)) h, a.2⟩
theorem Same.out {R : Addr → Prop} {H H' : Hp} (s : Same H H') : Out R H H' := ⟨fun b u _ h => s b u h, fun b h e => h (s.free e)⟩
theorem Out.mut {R : Addr → Prop} {H H' : Hp} {a : Addr} {u : HO} (s : Out R H H') (r : R a) : Out R H (upd H' a u) := ⟨fun b v n h => by rw [upd_ne (fun e => n (by rw [e]; exact r))]; exact s.1 b v n h, fun b h => by
  by_cases e : b = a
  · rw [e, upd_same]; exact fun z => nomatch z
  · rw [upd_ne e]; exact s.2 b h⟩
theorem Own.out {R R1 : Addr → Prop} {H H' : Hp} {d : PyData} {v : V} (o : Own K H d v R1) (s : Out R H H') (n : ∀ b, R1 b → ¬ R b) : Own K H' d v R1 := o.at' fun b u r e => s.1 b u (n b r) e
theorem OwnL.out {R R1 : Addr → Prop} {H H' : Hp} {ds : List PyData} {xs : List V} (o : OwnL K H R1 ds xs) (s : Out R H H') (n : ∀ b, R1 b → ¬ R b) : OwnL K H' R1 ds xs := o.at' fun b u r e => s.1 b u (n b r) e
theorem OwnL.un {R : Addr → Prop} {H : Hp} {d : PyData} {ds : List PyData} {xs : List V} (h : OwnL K H R (d :: ds) xs) : ∃ (v : V) (r : List V) (R1 R2 : Addr → Prop), xs = v :: r ∧ (∀ b, R1 b → R b) ∧ (∀ b, R2 b → R b) ∧ (∀ b, R1 b → ¬ R2 b) ∧ Own K H d v R1 ∧ OwnL K H R2 ds r := by
  cases h with
  | cons h1 h2 h o r => exact ⟨_, _, _, _, rfl, h1, h2, h, o, r⟩
def spSpoil (K : PySem.W.Frag) (n : Nat) : Sp := fun vs H Q _ => ∃ (v : V) (ss : List ST) (R : Addr → Prop) (c m : Nat), vs = [v] ∧ Own K H (.list (datas ss)) v R ∧ (∀ b, R b → H b ≠ none) ∧ NcL (datas ss) c m ∧ c ≤ 50000 ∧ m < n ∧ ∀ H', Out R H H' → Q .non H'
abbrev s_law_spoil : Stmt := topS 18
theorem sc_law_spoil : FnScope ["body", "statement", "inner"] ["body"] (defScope s_law_spoil) := ⟨rfl, rfl, rfl, by decide +kernel, rfl, by decide +kernel, by decide +kernel⟩
-- _law_spoil slots: body=0 statement=1 inner=2 globals: list _law_spoil
set_option maxHeartbeats 4000000 in
theorem fd_law_spoil {f : Addr} {fd : FuncData} (F : Fun K "_law_spoil" "_law_spoil" s_law_spoil f fd) (m : mg "_law_spoil" = some (.ref f)) (B : Bt mg) : ∀ n : Nat, Fd P w K mg base "_law_spoil" ["body"] (n + 1) (spSpoil K n)
  | 0 => Fd.none F m (F.binds (ps := ["body"]) fun _ _ _ _ _ _ us hl => match us, hl with | [_], _ => rfl) fun vs H Q E h => by
    obtain ⟨v, ss, R, c, m, _, _, _, _, _, h1, _⟩ := h
    omega
  | n + 1 => by
    have D_law_spoil := fd_law_spoil F m B n
    refine ⟨f, fd, F.ok sc_law_spoil (fun vs H Q E h => ?_) (fun cdv A outer s H vs Q E hr h => ?_), m, F.kp, F.binds (ps := ["body"]) fun _ _ _ _ _ _ us hl => match us, hl with | [_], _ => rfl⟩
    · obtain ⟨v, ss, R, c, m, rfl, _⟩ := h
      rfl
    obtain ⟨v, ss, R, c, mm, rfl, ow, dom, nc, hc, hm, q⟩ := h
    obtain ⟨a, xs, rfl, Ra, ea, ol⟩ := ow.inv
    have xl : xs.length = ss.length := (dpa_len ol.dp).trans (datas_len ss)
    have sl : ss.length ≤ c := by have := nc.len; rw [datas_len] at this; exact this
    refine ⟨_, (pss_cons (ps_for PassesOwn.never rfl (piL K (pe_callTy (cList K) (by rfl) B.list (by decide +kernel) (pa_cons (pv 0) pa_nil))) (pg_name (i := 1) sc_law_spoil.nd rfl (Or.inl rfl))
 (pss_one (ps_if (pt_cmpR op_eq (pe_ix (ixT K) (pv 1) pe_int (fun _ _ => rfl)) pe_str (nomark _))
 (pss_cons (ps_expr (pe_fn D_law_spoil hr rfl (pa_cons (pe_ix (ixT K) (pv 1) pe_int (fun _ _ => rfl)) pa_nil)))
 (pss_one (ps_expr (pe_fn D_law_spoil hr rfl (pa_cons (pe_ix (ixT K) (pv 1) pe_int (fun _ _ => rfl)) pa_nil)))))
 (pss_one (ps_if (pt_cmpR op_eq (pe_ix (ixT K) (pv 1) pe_int (fun _ _ => rfl)) pe_str (nomark _))
 (pss_one (ps_expr (pe_fn D_law_spoil hr rfl (pa_cons (pe_ix (ixT K) (pv 1) pe_int (fun _ _ => rfl)) pa_nil))))
 (pss_one (ps_if (pt_cmpR op_eq (pe_ix (ixT K) (pv 1) pe_int (fun _ _ => rfl)) pe_str (nomark _))
 (pss_cons (ps_for PassesOwn.never rfl (piL K (pe_ix (ixT K) (pv 1) pe_int (fun _ _ => rfl))) (pg_name (i := 2) sc_law_spoil.nd rfl (Or.inl rfl))
 (pss_one (ps_expr (pe_fn D_law_spoil hr rfl (pa_cons (pv 2) pa_nil)))))
 (pss_one (ps_expr (peBm K PySem.F.plainAttrs_list PySem.F.slot_list_append PySem.F.type_list_append mt_append (pe_ix (ixT K) (pv 1) pe_int (fun _ _ => rfl)) (pa_cons (pe_lst pa_nil) pa_nil)))))
 pss_nil)))))))
 (pss_one (ps_expr (peBm K PySem.F.plainAttrs_list PySem.F.slot_list_append PySem.F.type_list_append mt_append (pv 0) (pa_cons (pe_tup (pa_cons pe_str pa_nil)) pa_nil))))), ?_⟩
    have nRL : ∀ {L : Addr}, H L = none → ¬ R L := fun h r => dom _ r h
    refine ⟨_, rfl, a, xs, rfl, .inl (sq ea), fun L nL => ⟨L, rfl, ⟨_, sq upd_same⟩, for_list (xs := xs) (fun i σ' H' => ∃ (y1 y2 : Option V) (Ri : Addr → Prop), σ' = [some (.ref a), y1, y2] ∧ Out (fun b => R b ∧ b ≠ a) (upd H L (.lst xs)) H' ∧ (∀ b, Ri b → R b ∧ b ≠ a) ∧ OwnL K H' Ri (datas (ss.drop i)) (xs.drop i)) ⟨none, none, _, rfl, Out.refl _, fun b h => h, (ol.at' fun b u _ e => same_new nL _ _ e)⟩ ?_ ?_ ?_⟩⟩
    · rintro i σ' H' _ ⟨y1, y2, Ri, rfl, out, _⟩
      exact sq (out.1 _ _ (fun h => nRL nL h.1) upd_same)
    · rintro i u σ' H' hu ⟨y1, y2, Ri, rfl, out, rs, oi⟩
      have il := (List.getElem?_eq_some_iff.mp hu).1
      obtain ⟨s, hs⟩ : ∃ s, ss[i]? = some s := ⟨_, List.getElem?_eq_getElem (by omega)⟩
      have ns : NcD s.data c mm := ncl_mem nc (by rw [datas_map]; exact List.mem_map_of_mem (List.mem_of_getElem? hs))
      have e1 : xs.drop i = u :: xs.drop (i + 1) := by rw [List.drop_eq_getElem_cons il, (List.getElem?_eq_some_iff.mp hu).2]
      have e2 : ss.drop i = s :: ss.drop (i + 1) := by rw [List.drop_eq_getElem_cons (show i < ss.length by omega), (List.getElem?_eq_some_iff.mp hs).2]
      rw [e1, e2] at oi
      obtain ⟨u', r', R1, R2, ee, h1, h2, h12, o1, r1⟩ := OwnL.un (d := s.data) oi
      obtain ⟨rfl, rfl⟩ := List.cons.inj ee
      rw [ST.data_eq] at o1 ns
      obtain ⟨m1, em, nt⟩ := ncd_tup ns
      obtain ⟨ta, tx0, rfl, Rta, eta, ol1⟩ := o1.inv
      obtain ⟨v0, tx, Rw, Rt, rfl, hw1, hw2, hw3, ow0, olt⟩ := ol1.un
      obtain rfl := ow0.inv
      have domR : ∀ {Hx : Hp} {Rx : Addr → Prop}, Out R1 H' Hx → (∀ b, Rx b → R1 b) → ∀ b, Rx b → Hx b ≠ none := fun {Hx Rx} o s b r => o.2 _ (out.2 _ (fun z => dom b (rs b (h1 b (s b r))).1 ((same_new nL).free z)))
      have fin : ∀ (H3 : Hp) (y2 : Option V), Out R1 H' H3 → ∃ (y1' y2' : Option V) (Ri : Addr → Prop), [some (V.ref a), some (.ref ta), y2] = [some (.ref a), y1', y2'] ∧ Out (fun b => R b ∧ b ≠ a) (upd H L (.lst xs)) H3 ∧ (∀ b, Ri b → R b ∧ b ≠ a) ∧ OwnL K H3 Ri (datas (ss.drop (i + 1))) (xs.drop (i + 1)) := fun H3 y2 o => ⟨_, _, R2, rfl, out.trans (o.up fun b h => rs b (h1 b h)), fun b h => rs b (h2 b h), r1.out o fun b x y => h12 b y x⟩
      dsimp only [gName]
      have wd : ∀ (k : Str) (Q : Bool → Hp → Prop), Q (decide (V.str s.word = V.str k)) H' → tTest (tOp rEq (tOp (rIxT K) (tVar 1) (tC (V.int 0))) (tC (V.str k))) [some (V.ref a), some (.ref ta), y2] H' Q := fun k Q q => ⟨_, rfl, _, _, _, _, rfl, rfl, st eta, atI_nat (j := 0) rfl, rfl, _, rfl, q⟩
      have no : ∀ {k : Str}, decide (V.str s.word = V.str k) = true → s.word = k := fun h => by have := of_decide_eq_true h; injection this
      refine ifE (wd _) (fun w1 => ?_) (fun _ => ifE (wd _) (fun w1 => ?_) (fun _ => ifE (wd _) (fun w1 => ?_) (fun _ => fin _ _ (Out.refl _))))
      · obtain ⟨c1, b1, b2, rfl⟩ := word_iff (no w1)
        obtain ⟨v1, r2, Ra1, Rr1, rfl, p1, p2, p3, oc, olr⟩ := OwnL.un (d := c1.data) olt
        obtain ⟨v2, r3, Rb1, Rr2, rfl, q1, q2, q3, ob1, olr2⟩ := OwnL.un (d := .list (datas b1)) olr
        obtain ⟨v3, r4, Rb2, Rr3, rfl, s1, s2, s3, ob2, _⟩ := OwnL.un (d := .list (datas b2)) olr2
        obtain ⟨m2, e2', n2⟩ := ncd_lst (ncl_mem nt (show PyData.list (datas b1) ∈ _ from List.mem_cons_of_mem _ (List.mem_cons_of_mem _ List.mem_cons_self)))
        obtain ⟨m3, e3', n3⟩ := ncd_lst (ncl_mem nt (show PyData.list (datas b2) ∈ _ from List.mem_cons_of_mem _ (List.mem_cons_of_mem _ (List.mem_cons_of_mem _ List.mem_cons_self))))
        have i1 : ∀ b, Rb1 b → R1 b ∧ b ≠ ta := fun b h => hw2 b (p2 b (q1 b h))
        have i2 : ∀ b, Rb2 b → R1 b ∧ b ≠ ta := fun b h => hw2 b (p2 b (q2 b (s1 b h)))
        refine ⟨_, rfl, _, _, _, _, rfl, rfl, st eta, atI_nat (j := 2) rfl, v2, b1, Rb1, c, m2, rfl, ob1, domR (Out.refl _) fun b h => (i1 b h).1, n2, hc, by omega, fun H3 o3 => ?_⟩
        have eta3 := o3.1 _ _ (fun h => (i1 _ h).2 rfl) eta
        have o3' : Out R1 H' H3 := o3.up fun b h => (i1 b h).1
        refine ⟨_, rfl, _, _, _, _, rfl, rfl, st eta3, atI_nat (j := 3) rfl, v3, b2, Rb2, c, m3, rfl, ob2.out o3 (fun b h g => q3 b g (s1 b h)), domR o3' fun b h => (i2 b h).1, n3, hc, by omega, fun H4 o4 => ?_⟩
        exact fin _ _ (o3'.trans (o4.up fun b h => (i2 b h).1))
      · obtain ⟨c1, b1, rfl⟩ := word_loop (no w1)
        obtain ⟨v1, r2, Ra1, Rr1, rfl, p1, p2, p3, oc, olr⟩ := OwnL.un (d := c1.data) olt
        obtain ⟨v2, r3, Rb1, Rr2, rfl, q1, q2, q3, ob1, olr2⟩ := OwnL.un (d := .list (datas b1)) olr
        obtain ⟨m2, e2', n2⟩ := ncd_lst (ncl_mem nt (show PyData.list (datas b1) ∈ _ from List.mem_cons_of_mem _ (List.mem_cons_of_mem _ List.mem_cons_self)))
        have i1 : ∀ b, Rb1 b → R1 b ∧ b ≠ ta := fun b h => hw2 b (p2 b (q1 b h))
        refine ⟨_, rfl, _, _, _, _, rfl, rfl, st eta, atI_nat (j := 2) rfl, v2, b1, Rb1, c, m2, rfl, ob1, domR (Out.refl _) fun b h => (i1 b h).1, n2, hc, by omega, fun H3 o3 => ?_⟩
        exact fin _ _ (o3.up fun b h => (i1 b h).1)
      · obtain ⟨bs, rfl⟩ := word_choose (no w1)
        obtain ⟨v1, r2, Rl, Rr1, rfl, p1, p2, p3, ob, _⟩ := OwnL.un (d := .list (datass bs)) olt
        obtain ⟨bl, ys, rfl, Rbl, ebl, oly⟩ := ob.inv
        obtain ⟨m2, e2', n2⟩ := ncd_lst (ncl_mem nt (show PyData.list (datass bs) ∈ _ from List.mem_cons_of_mem _ List.mem_cons_self))
        have i1 : ∀ b, Rl b → R1 b ∧ b ≠ ta := fun b h => hw2 b (p1 b h)
        have yl : ys.length = bs.length := (dpa_len oly.dp).trans (datass_len bs)
        have ylc : ys.length ≤ c := by rw [dpa_len oly.dp]; exact n2.len
        refine ⟨_, rfl, _, _, _, _, rfl, rfl, st eta, atI_nat (j := 1) rfl, bl, rfl, ⟨_, sq ebl⟩, for_list (xs := ys) (fun j σ' H3 => ∃ (y2 : Option V) (Rj : Addr → Prop), σ' = [some (.ref a), some (.ref ta), y2] ∧ Out (fun b => Rl b ∧ b ≠ bl) H' H3 ∧ (∀ b, Rj b → Rl b ∧ b ≠ bl) ∧ OwnL K H3 Rj (datass (bs.drop j)) (ys.drop j)) ⟨y2, _, rfl, Out.refl _, fun b h => h, oly⟩ ?_ ?_ ?_⟩
        · rintro j σ' H3 _ ⟨y2, Rj, rfl, out3, _⟩
          exact sq (out3.1 _ _ (fun h => h.2 rfl) ebl)
        · rintro j y σ' H3 hy ⟨y2, Rj, rfl, out3, rj, oj⟩
          have jl := (List.getElem?_eq_some_iff.mp hy).1
          obtain ⟨bb, hb⟩ : ∃ bb, bs[j]? = some bb := ⟨_, List.getElem?_eq_getElem (by omega)⟩
          have e1 : ys.drop j = y :: ys.drop (j + 1) := by rw [List.drop_eq_getElem_cons jl, (List.getElem?_eq_some_iff.mp hy).2]
          have e2 : bs.drop j = bb :: bs.drop (j + 1) := by rw [List.drop_eq_getElem_cons (show j < bs.length by omega), (List.getElem?_eq_some_iff.mp hb).2]
          rw [e1, e2] at oj
          obtain ⟨u', r', Ra1, Rb1, ee, g1, g2, g3, oa, rb⟩ := OwnL.un (d := .list (datas bb)) oj
          obtain ⟨rfl, rfl⟩ := List.cons.inj ee
          obtain ⟨m3, e3', n3⟩ := ncd_lst (ncl_mem n2 (show PyData.list (datas bb) ∈ datass bs by rw [datass_map]; exact List.mem_map_of_mem (f := fun b => PyData.list (datas b)) (List.mem_of_getElem? hb)))
          exact ⟨_, rfl, _, bb, Ra1, c, m3, rfl, oa, domR (out3.up fun b h => (i1 b h.1).1) fun b h => (i1 b (rj b (g1 b h)).1).1, n3, hc, by omega, fun H4 o4 => ⟨_, Rb1, rfl, out3.trans (o4.up fun b h => rj b (g1 b h)), fun b h => rj b (g2 b h), rb.out o4 fun b x y => g3 b y x⟩⟩
        rintro σ' H3 ⟨y2, Rj, rfl, out3, _, _⟩
        have ebl3 := out3.1 _ _ (fun h => h.2 rfl) ebl
        have eta3 := out3.1 _ _ (fun h => (i1 _ h.1).2 rfl) eta
        refine ⟨_, rfl, _, _, _, _, rfl, rfl, st eta3, atI_nat (j := 1) rfl, .inl ⟨rfl, _, sq ebl3⟩, szc 0, fun p np => ⟨bl, _, _, rfl, rfl, same_new np _ _ ebl3, szl (show ys.length < 100000 by omega), ?_⟩⟩
        exact fin _ _ (((out3.up fun b h => (i1 b h.1).1).trans (Same.out (same_new np))).mut (i1 _ Rbl).1)
    rintro σ' H' ⟨y1, y2, Ri, rfl, out, _, _⟩
    have eL : (upd H L (.lst xs)) a = some (.lst xs) := same_new nL _ _ ea
    have ea' := out.1 _ _ (fun h => h.2 rfl) eL
    refine ⟨_, rfl, .inl ⟨rfl, _, sq ea'⟩, szc 1, fun p np => ⟨a, _, _, rfl, rfl, same_new np _ _ ea', szl (show xs.length < 100000 by omega), ?_⟩⟩
    exact q _ (((Same.out (same_new nL)).trans ((out.up fun b h => h.1).trans (Same.out (same_new np)))).mut Ra)
end
/-! ### parts of what is owned -/
section
variable {K : PySem.W.Frag} {H : Hp}
theorem OwnL.split : ∀ {R : Addr → Prop} {d1 d2 : List PyData} {xs : List V}, OwnL K H R (d1 ++ d2) xs → ∃ (x1 x2 : List V) (R1 R2 : Addr → Prop), xs = x1 ++ x2 ∧ x1.length = d1.length ∧ (∀ b, R1 b → R b) ∧ (∀ b, R2 b → R b) ∧ (∀ b, R1 b → ¬ R2 b) ∧ OwnL K H R1 d1 x1 ∧ OwnL K H R2 d2 x2
  | R, [], d2, xs, h => ⟨[], xs, fun _ => False, R, rfl, rfl, fun _ z => z.elim, fun _ z => z, fun _ z => z.elim, .nil, h⟩
  | R, d :: d1, d2, xs, h => by
    obtain ⟨v, r, Ra, Rb, rfl, h1, h2, h3, o, t⟩ := OwnL.un (d := d) (ds := d1 ++ d2) h
    obtain ⟨x1, x2, R1, R2, rfl, l, g1, g2, g3, o1, o2⟩ := OwnL.split t
    exact ⟨v :: x1, x2, fun b => Ra b ∨ R1 b, R2, rfl, congrArg (· + 1) l, fun b z => z.elim (h1 b) fun y => h2 b (g1 b y), fun b z => h2 b (g2 b z), fun b z y => z.elim (fun w => h3 b w (g2 b y)) fun w => g3 b w y, .cons (fun _ => .inl) (fun _ => .inr) (fun b z y => h3 b z (g1 b y)) o o1, o2⟩
theorem OwnL.app : ∀ {R R1 R2 : Addr → Prop} {d1 d2 : List PyData} {x1 x2 : List V}, OwnL K H R1 d1 x1 → OwnL K H R2 d2 x2 → (∀ b, R1 b → ¬ R2 b) → (∀ b, R1 b → R b) → (∀ b, R2 b → R b) → OwnL K H R (d1 ++ d2) (x1 ++ x2)
  | R, R1, R2, _, _, _, _, .nil, h, _, _, s => h.up s
  | R, R1, R2, _, _, _, _, .cons (R1 := Ra) (R2 := Rb) h1 h2 h o r, g, n, s1, s2 => .cons (R1 := Ra) (R2 := fun b => Rb b ∨ R2 b) (fun b z => s1 b (h1 b z)) (fun b z => z.elim (fun y => s1 b (h2 b y)) (s2 b)) (fun b z y => y.elim (h b z) fun w => n b (h1 b z) w) o (OwnL.app r g (fun b z y => n b (h2 b z) y) (fun _ => .inl) fun _ => .inr)
end
/-- what can be shown: up to 49900 cells -/
theorem NcD.shw9 {d : PyData} {c m : Nat} (h : NcD d c m) (hc : c ≤ 49900) (hm : m ≤ 60) : Shw d := by
  have h1 := nice_short d h.ni
  have h2 := nice_bulk d h.ni
  have h3 := h.de
  have h4 := h.ce
  refine ⟨h1.2, PyData.hasDict_of_canLay d (nice_lay d h.ni), by omega, PyData.shown_fits_bulk (by decide) (by decide) h1.1 ?_⟩
  rw [show (2 : Nat) ^ 20 = 1048576 from rfl]
  omega
theorem cut_mid4 {xs y1 y2 y3 : List V} {i j : Nat} (e : xs = y1 ++ (y2 ++ y3)) (h1 : y1.length = i) (h2 : y2.length = j - i) (hij : i ≤ j) : cutV xs (some (i : Int)) (some (j : Int)) = y2 ∧ cutV xs none (some (i : Int)) = y1 ∧ cutV xs (some (j : Int)) none = y3 := by
  subst e
  have l : (y1 ++ (y2 ++ y3)).length = i + ((j - i) + y3.length) := by rw [List.length_append, List.length_append, h1, h2]
  have s1 : HT.sIx (y1 ++ (y2 ++ y3)).length 0 (some (i : Int)) = i := by rw [HT.sIx_nat, l]; omega
  have s2 : HT.sIx (y1 ++ (y2 ++ y3)).length (y1 ++ (y2 ++ y3)).length (some (j : Int)) = j := by rw [HT.sIx_nat, l]; omega
  have s3 : HT.sIx (y1 ++ (y2 ++ y3)).length 0 (some (j : Int)) = j := by rw [HT.sIx_nat, l]; omega
  have d1 : (y1 ++ (y2 ++ y3)).drop i = y2 ++ y3 := by rw [← h1, List.drop_left]
  refine ⟨?_, cut_head4 _ i |>.trans (by rw [← h1, List.take_left]), ?_⟩
  · unfold cutV
    rw [s1, s2, d1, ← h2, List.take_left]
  · unfold cutV
    rw [s3]
    have d2 : (y1 ++ (y2 ++ y3)).drop j = y3 := by
      rw [show j = i + (j - i) by omega, ← List.drop_drop, d1, ← h2, List.drop_left]
    rw [d2, show HT.sIx (y1 ++ (y2 ++ y3)).length (y1 ++ (y2 ++ y3)).length none = (y1 ++ (y2 ++ y3)).length from rfl, l]
    exact List.take_of_length_le (by omega)
theorem ownl_strs {K : PySem.W.Frag} {H : Hp} : ∀ {ss : List Str} {R : Addr → Prop} {xs : List V}, OwnL K H R (ss.map PyData.str) xs → xs = ss.map V.str
  | [], _, _, h => by cases h; rfl
  | s :: r, _, _, h => by
    obtain ⟨v, t, R1, R2, rfl, _, _, _, o, k⟩ := OwnL.un (d := .str s) (ds := r.map PyData.str) h
    rw [ownl_strs k, show v = .str s from o.inv]
    rfl
theorem ownl_strs_of {K : PySem.W.Frag} {H : Hp} {R : Addr → Prop} : ∀ ss : List Str, OwnL K H R (ss.map PyData.str) (ss.map V.str)
  | [] => .nil
  | s :: r => .cons (R1 := fun _ => False) (R2 := R) (fun _ z => z.elim) (fun _ z => z) (fun _ z => z.elim) (.str s) (ownl_strs_of r)
section
variable {P : Program} {w : World} {K : PySem.W.Frag} {mg : Str → Option Value} {base : Heap}
def P4.enc (p : P4) (k i j : Nat) (s : Str) : P4 := ⟨p.sh, p.lk ++ [s], p.be, p.ks.modify k fun t => ⟨t.nm, t.cnt, t.locs, t.body.take i ++ ([.acq s] ++ (t.body.drop i).take (j + 1 - i) ++ [.rel s]) ++ t.body.drop (j + 1)⟩⟩
def spEncl (K : PySem.W.Frag) : Sp := fun vs H Q _ => ∃ (v : V) (p : P4) (k i j : Nat) (s : Str), vs = [v, nV k, nV i, nV j, .str s] ∧ Dp K H v p.data ∧ NcD p.data 46000 16 ∧ k < p.ks.length ∧ i ≤ j ∧ (∀ t, p.ks[k]? = some t → j < t.body.length) ∧ ∀ H' v', Same H H' → Own K H' (p.enc k i j s).data v' (New H H') → Q v' H'
abbrev s_enclosed : Stmt := topS 3
theorem sc_enclosed : FnScope ["program", "kind", "first", "last", "name", "shares", "locks", "bells", "kinds", "own_name", "count", "variables", "body", "inside"] ["program", "kind", "first", "last", "name"] (defScope s_enclosed) := ⟨rfl, rfl, rfl, by decide +kernel, rfl, by decide +kernel, by decide +kernel⟩
-- enclosed slots: program=0 kind=1 first=2 last=3 name=4 shares=5 locks=6 bells=7 kinds=8 own_name=9 count=10 variables=11 body=12 inside=13 globals: fresh_copy
set_option maxHeartbeats 4000000 in
theorem fd_enclosed {f : Addr} {fd : FuncData} (F : Fun K "enclosed" "enclosed" s_enclosed f fd) (m : mg "enclosed" = some (.ref f)) (B : Bt mg) (D_fresh_copy : Fd P w K mg base "fresh_copy" ["part"] 18 (spFresh K 17)) : Fd P w K mg base "enclosed" ["program", "kind", "first", "last", "name"] 19 (spEncl K) := by
  refine ⟨f, fd, F.ok sc_enclosed (fun vs H Q E h => ?_) (fun cdv A outer s H vs Q E hr h => ?_), m, F.kp, F.binds (ps := ["program", "kind", "first", "last", "name"]) fun _ _ _ _ _ _ us hl => match us, hl with | [_, _, _, _, _], _ => rfl⟩
  · obtain ⟨v, p, k, i, j, s, rfl, _⟩ := h
    rfl
  obtain ⟨v, p, k, i, j, sn, rfl, dv, nc, hk, hij, hj, q⟩ := h
  obtain ⟨kd, hkd⟩ : ∃ kd, p.ks[k]? = some kd := ⟨_, List.getElem?_eq_getElem hk⟩
  have hj' := hj kd hkd
  refine ⟨_, (pss_cons (ps_asg (pe_fn D_fresh_copy (hr.mono (by decide)) rfl (pa_cons (pv 0) pa_nil)) (pg_tup rfl (pgs_cons (pg_name (i := 5) sc_enclosed.nd rfl (Or.inl rfl)) (pgs_cons (pg_name (i := 6) sc_enclosed.nd rfl (Or.inl rfl)) (pgs_cons (pg_name (i := 7) sc_enclosed.nd rfl (Or.inl rfl)) (pgs_cons (pg_name (i := 8) sc_enclosed.nd rfl (Or.inl rfl)) pgs_nil))))))
 (pss_cons (ps_asg (pe_ix (ixL K) (pv 8) (pv 1) (fun _ _ => rfl)) (pg_tup rfl (pgs_cons (pg_name (i := 9) sc_enclosed.nd rfl (Or.inl rfl)) (pgs_cons (pg_name (i := 10) sc_enclosed.nd rfl (Or.inl rfl)) (pgs_cons (pg_name (i := 11) sc_enclosed.nd rfl (Or.inl rfl)) (pgs_cons (pg_name (i := 12) sc_enclosed.nd rfl (Or.inl rfl)) pgs_nil))))))
 (pss_cons (ps_set (i := 13) sc_enclosed.nd rfl (Or.inl rfl) (pe_lst (pa_cons (pe_tup (pa_cons pe_str (pa_cons (pv 4) pa_nil))) (StX.pa_star (pe_slice (slL K) (pv 12) (po_some (pv 2)) (po_some (pe_op op_add (pv 3) pe_int))) (pa_cons (pe_tup (pa_cons pe_str (pa_cons (pv 4) pa_nil))) pa_nil)))))
 (pss_cons (ps_asg (pe_tup (pa_cons (pv 9) (pa_cons (pv 10) (pa_cons (pv 11) (pa_cons (pe_op (opCat K) (pe_op (opCat K) (pe_slice (slL K) (pv 12) po_none (po_some (pv 2))) (pv 13)) (pe_slice (slL K) (pv 12) (po_some (pe_op op_add (pv 3) pe_int)) po_none)) pa_nil))))) (pg_sub (pv 8) (pv 1) set_list))
 (pss_one (ps_ret (pe_tup (pa_cons (pv 5) (pa_cons (pe_lst (StX.pa_star (pv 6) (pa_cons (pv 4) pa_nil))) (pa_cons (pv 7) (pa_cons (pv 8) pa_nil))))))))))), ?_⟩
  refine ⟨_, rfl, v, p.data, 46000, 16, rfl, dv, nc, by decide, by decide, fun H1 v1 s1 o1 => ?_⟩
  obtain ⟨pt, px, rfl, Rpt, ept, ol⟩ := (show Own K H1 (.tuple [.list (p.sh.map V4.data), .list (p.lk.map PyData.str), .list (p.be.map PyData.str), .list (p.ks.map K4.data)]) v1 (New H H1) from o1).inv
  obtain ⟨va, r1, Ra, Rr1, rfl, a1, a2, a3, oa, ol1⟩ := ol.un
  obtain ⟨vb, r2, Rb, Rr2, rfl, b1, b2, b3, ob, ol2⟩ := ol1.un
  obtain ⟨vc', r3, Rc', Rr3, rfl, c1, c2, c3, oc, ol3⟩ := ol2.un
  obtain ⟨vd, r4, Rd, Rr4, rfl, d1, d2, d3, od, ol4⟩ := ol3.un
  cases ol4
  obtain ⟨ka, kx, rfl, Rka, eka, okk⟩ := od.inv
  obtain ⟨la, lx, rfl, Rla, ela, oll⟩ := ob.inv
  obtain rfl := ownl_strs oll
  -- the kind
  have eks : p.ks = p.ks.take k ++ kd :: p.ks.drop (k + 1) := by
    have h := List.take_append_drop k p.ks
    rw [List.drop_eq_getElem_cons hk, (List.getElem?_eq_some_iff.mp hkd).2] at h
    exact h.symm
  have ekm : p.ks.map K4.data = (p.ks.take k).map K4.data ++ kd.data :: (p.ks.drop (k + 1)).map K4.data := by
    rw [← List.map_cons, ← List.map_append, ← eks]
  rw [ekm] at okk
  obtain ⟨x1, x2, R1, R2, rfl, l1, i1, i2, i3, o1k, o2k⟩ := okk.split
  rw [List.length_map, List.length_take, Nat.min_eq_left (Nat.le_of_lt hk)] at l1
  obtain ⟨u, x3, Ru, R3, rfl, g1, g2, g3, ou, o3k⟩ := OwnL.un (d := kd.data) o2k
  obtain ⟨ut, ux, rfl, Rut, eut, oku⟩ := (show Own K H1 (.tuple [.str kd.nm, cntD4 kd.cnt, .list (kd.locs.map V4.data), .list (datas kd.body)]) u Ru from ou).inv
  obtain ⟨nv, t1, Rn, Rt1, rfl, n1, n2, n3, on, ot1⟩ := oku.un
  obtain ⟨cv, t2, Rc, Rt2, rfl, m1, m2, m3, ocn, ot2⟩ := ot1.un
  obtain ⟨lv, t3, Rl, Rt3, rfl, p1, p2, p3, olv, ot3⟩ := ot2.un
  obtain ⟨bv, t4, Rb2, Rt4, rfl, q1, q2, q3, obv, ot4⟩ := ot3.un
  cases ot4
  obtain rfl : nv = V.str kd.nm := on.inv
  obtain ⟨bo, bx, rfl, Rbo, ebo, obx⟩ := obv.inv
  -- the body
  have ebd : kd.body = kd.body.take i ++ ((kd.body.drop i).take (j + 1 - i) ++ kd.body.drop (j + 1)) := by
    have h2 := List.take_append_drop (j + 1 - i) (kd.body.drop i)
    rw [List.drop_drop, show i + (j + 1 - i) = j + 1 by omega] at h2
    rw [h2, List.take_append_drop]
  have ebm : datas kd.body = datas (kd.body.take i) ++ (datas ((kd.body.drop i).take (j + 1 - i)) ++ datas (kd.body.drop (j + 1))) := by
    rw [← datas_app, ← datas_app, ← ebd]
  rw [ebm] at obx
  obtain ⟨y1, y23, B1, B23, rfl, yl1, v1a, v1b, v1c, oy1, oy23⟩ := obx.split
  obtain ⟨y2, y3, B2, B3, rfl, yl2, v2a, v2b, v2c, oy2, oy3⟩ := oy23.split
  rw [datas_len, List.length_take, Nat.min_eq_left (by omega)] at yl1
  rw [datas_len, List.length_take, List.length_drop, Nat.min_eq_left (by omega)] at yl2
  obtain ⟨cm, ch, ct⟩ := cut_mid4 (y1 := y1) (y2 := y2) (y3 := y3) (j := j + 1) rfl yl1 yl2 (by omega)
  have bl : (y1 ++ (y2 ++ y3)).length ≤ 46000 := by
    have h3 : (y1 ++ (y2 ++ y3)).length = kd.body.length := by rw [dpa_len (obx.dp), ← ebm, datas_len]
    obtain ⟨m1', e1', n1'⟩ := ncd_tup (show NcD (.tuple [.list (p.sh.map V4.data), .list (p.lk.map PyData.str), .list (p.be.map PyData.str), .list (p.ks.map K4.data)]) 46000 16 from nc)
    obtain ⟨m2', e2', n2'⟩ := ncd_lst (ncl_mem n1' (show PyData.list (p.ks.map K4.data) ∈ _ from List.mem_cons_of_mem _ (List.mem_cons_of_mem _ (List.mem_cons_of_mem _ List.mem_cons_self))))
    obtain ⟨m3', e3', n3'⟩ := ncd_tup (show NcD (.tuple [.str kd.nm, cntD4 kd.cnt, .list (kd.locs.map V4.data), .list (datas kd.body)]) 46000 m2' from ncl_mem n2' (List.mem_map_of_mem (List.mem_of_getElem? hkd)))
    obtain ⟨m4', e4', n4'⟩ := ncd_lst (ncl_mem n3' (show PyData.list (datas kd.body) ∈ _ from List.mem_cons_of_mem _ (List.mem_cons_of_mem _ (List.mem_cons_of_mem _ List.mem_cons_self))))
    have h4 := n4'.len
    rw [datas_len] at h4
    omega
  have lkl : p.lk.length ≤ 46000 := by
    obtain ⟨m1', e1', n1'⟩ := ncd_tup (show NcD (.tuple [.list (p.sh.map V4.data), .list (p.lk.map PyData.str), .list (p.be.map PyData.str), .list (p.ks.map K4.data)]) 46000 16 from nc)
    obtain ⟨m2', e2', n2'⟩ := ncd_lst (ncl_mem n1' (show PyData.list (p.lk.map PyData.str) ∈ _ from List.mem_cons_of_mem _ List.mem_cons_self))
    have h4 := n2'.len
    rwa [List.length_map] at h4
  have ej : (j : Int) + 1 = ((j + 1 : Nat) : Int) := by omega
  refine ⟨pt, _, rfl, st ept, rfl, _, _, rfl, _, _, rfl, _, _, rfl, _, _, rfl, rfl, ?_⟩
  dsimp only [gName]
  have kat : (x1 ++ V.ref ut :: x3)[k]? = some (.ref ut) := by rw [List.getElem?_append_right (by omega), l1, Nat.sub_self]; rfl
  refine ⟨_, rfl, _, rfl, ka, _, _, _, rfl, rfl, sq eka, atI_nat kat, ut, _, rfl, st eut, rfl, _, _, rfl, _, _, rfl, _, _, rfl, _, _, rfl, rfl, ?_⟩
  dsimp only [gName]
  refine ⟨_, rfl, szc 2, fun A1 nA1 => ?_⟩
  have sA1 := same_new (o := HO.tup [V.str "acquire", .str sn]) nA1
  refine ⟨_, rfl, _, rfl, _, rfl, _, rfl, _, _, rfl, rfl, _, rfl, bo, _, rfl, sq (sA1 _ _ ebo), fun A2 nA2 => ⟨A2, _, rfl, .inr (sq upd_same), ?_⟩⟩
  have cm' : cutV (y1 ++ (y2 ++ y3)) (some (i : Int)) (some ((j : Int) + 1)) = y2 := by rw [ej]; exact cm
  have ct' : cutV (y1 ++ (y2 ++ y3)) (some ((j : Int) + 1)) none = y3 := by rw [ej]; exact ct
  rw [cm']
  have n2' := same_new (o := HO.lst y2) nA2
  have sA2 := sA1.trans n2'
  refine ⟨_, rfl, szc 2, fun A3 nA3 => ?_⟩
  have n3' := same_new (o := HO.tup [V.str "release", .str sn]) nA3
  have sA3 := sA2.trans n3'
  have il : (V.ref A1 :: (y2 ++ [V.ref A3])).length ≤ 46100 := by
    rw [List.length_append, List.length_append] at bl
    rw [List.length_cons, List.length_append, List.length_singleton]
    omega
  refine ⟨sz (Nat.le_trans il (by decide)), fun A4 nA4 => ?_⟩
  dsimp only [gName]
  have n4' := same_new (o := HO.lst (V.ref A1 :: (y2 ++ [V.ref A3]))) nA4
  have sA4 := sA3.trans n4'
  refine ⟨_, rfl, _, rfl, _, rfl, _, rfl, _, rfl, _, rfl, bo, _, rfl, sq (sA4 _ _ ebo), fun A5 nA5 => ?_⟩
  rw [ch]
  have n5' := same_new (o := HO.lst y1) nA5
  have sA5 := sA4.trans n5'
  have eA4 := (same_new (o := HO.lst y1) nA5) _ _ (upd_same (o := HO.lst (V.ref A1 :: (y2 ++ [V.ref A3]))))
  have l1' : y1.length + (V.ref A1 :: (y2 ++ [V.ref A3])).length ≤ 92200 := by
    rw [List.length_append] at bl
    omega
  refine ⟨_, rfl, A5, A4, _, _, rfl, rfl, sq upd_same, sq eA4, sz (by omega), fun A6 nA6 => ?_⟩
  have n6' := same_new (o := HO.lst (y1 ++ V.ref A1 :: (y2 ++ [V.ref A3]))) nA6
  have sA6 := sA5.trans n6'
  refine ⟨_, rfl, _, rfl, _, _, rfl, rfl, _, rfl, bo, _, rfl, sq (sA6 _ _ ebo), fun A7 nA7 => ?_⟩
  rw [ct']
  have n7' := same_new (o := HO.lst y3) nA7
  have sA7 := sA6.trans n7'
  have eA6 := (same_new (o := HO.lst y3) nA7) _ _ (upd_same (o := HO.lst (y1 ++ V.ref A1 :: (y2 ++ [V.ref A3]))))
  refine ⟨A6, A7, _, _, rfl, rfl, sq eA6, sq upd_same, ?_, fun A8 nA8 => ?_⟩
  · rw [List.length_append, List.length_cons, List.length_append, List.length_singleton]
    rw [List.length_append, List.length_append] at bl
    exact sz (by omega)
  have n8' := same_new (o := HO.lst ((y1 ++ V.ref A1 :: (y2 ++ [V.ref A3])) ++ y3)) nA8
  have sA8 := sA7.trans n8'
  refine ⟨szc 4, fun A9 nA9 => ?_⟩
  have n9' := same_new (o := HO.tup [V.str kd.nm, cv, lv, V.ref A8]) nA9
  have sA9 := sA8.trans n9'
  have hg1 := (n2'.trans (n3'.trans (n4'.trans (n5'.trans (n6'.trans (n7'.trans (n8'.trans n9'))))))) _ _ (upd_same (o := HO.tup [V.str "acquire", .str sn]))
  have hg3 := (n4'.trans (n5'.trans (n6'.trans (n7'.trans (n8'.trans n9'))))) _ _ (upd_same (o := HO.tup [V.str "release", .str sn]))
  have hg8 := n9' _ _ (upd_same (o := HO.lst ((y1 ++ V.ref A1 :: (y2 ++ [V.ref A3])) ++ y3)))
  have f1 : H1 A1 = none := nA1
  have f3 : H1 A3 = none := sA2.free nA3
  have f8 : H1 A8 = none := sA7.free nA8
  have f9 : H1 A9 = none := sA8.free nA9
  have nlk : la ≠ ka := fun e => b3 la Rla (by rw [e]; exact c2 _ (d1 _ Rka))
  have eset : (x1 ++ V.ref ut :: x3).set k (.ref A9) = x1 ++ V.ref A9 :: x3 := by
    rw [List.set_append_right _ _ (by omega), l1, Nat.sub_self]
    rfl
  have hka : H1 ka ≠ none := (a2 _ (b2 _ (c2 _ (d1 _ Rka)))).1.2
  have fka : H ka = none := (a2 _ (b2 _ (c2 _ (d1 _ Rka)))).1.1
  have ne : ∀ {Hx : Hp} {b c : Addr} {o : HO}, Hx b = some o → Hx c = none → b ≠ c := fun {Hx b c o} h g e => by rw [e, g] at h; cases h
  have d13 := ne (n2' _ _ (upd_same (o := HO.tup [V.str "acquire", .str sn]))) nA3
  have d18 := ne ((n2'.trans (n3'.trans (n4'.trans (n5'.trans (n6'.trans n7'))))) _ _ (upd_same (o := HO.tup [V.str "acquire", .str sn]))) nA8
  have d38 := ne ((n4'.trans (n5'.trans (n6'.trans n7'))) _ _ (upd_same (o := HO.tup [V.str "release", .str sn]))) nA8
  have d19 := ne ((n2'.trans (n3'.trans (n4'.trans (n5'.trans (n6'.trans (n7'.trans n8')))))) _ _ (upd_same (o := HO.tup [V.str "acquire", .str sn]))) nA9
  have d39 := ne ((n4'.trans (n5'.trans (n6'.trans (n7'.trans n8')))) _ _ (upd_same (o := HO.tup [V.str "release", .str sn]))) nA9
  have d89 := ne (upd_same (o := HO.lst ((y1 ++ V.ref A1 :: (y2 ++ [V.ref A3])) ++ y3))) nA9
  have fin : ∀ (G : Hp) (A10 A11 : Addr), Same H1 G → G A1 = some (.tup [V.str "acquire", .str sn]) → G A3 = some (.tup [V.str "release", .str sn]) → G A8 = some (.lst ((y1 ++ V.ref A1 :: (y2 ++ [V.ref A3])) ++ y3)) → G A9 = some (.tup [V.str kd.nm, cv, lv, V.ref A8]) →
      (upd G ka (.lst (x1 ++ V.ref A9 :: x3))) A10 = none → (upd (upd G ka (.lst (x1 ++ V.ref A9 :: x3))) A10 (.lst (p.lk.map V.str ++ [V.str sn]))) A11 = none →
      Q (.ref A11) (upd (upd (upd G ka (.lst (x1 ++ V.ref A9 :: x3))) A10 (.lst (p.lk.map V.str ++ [V.str sn]))) A11 (.tup [va, V.ref A10, vc', V.ref ka])) := by
    intro G A10 A11 sG r1 r3 r8 r9 nA10 nA11
    have u9 : Out (fun b => b = ka) G (upd G ka (.lst (x1 ++ V.ref A9 :: x3))) := (Out.refl G).mut rfl
    have n10 := same_new (o := HO.lst (p.lk.map V.str ++ [V.str sn])) nA10
    have n11 := same_new (o := HO.tup [va, V.ref A10, vc', V.ref ka]) nA11
    have u11 := u9.trans (Same.out (n10.trans n11))
    have o9 := (Same.out (R := fun b => b = ka) sG).trans u9
    have o11 := (Same.out (R := fun b => b = ka) sG).trans u11
    have f10 : H1 A10 = none := Classical.byContradiction fun z => o9.2 _ z nA10
    have f11 : H1 A11 = none := Classical.byContradiction fun z => (o9.trans (Same.out n10)).2 _ z nA11
    have nk : ∀ {b}, H1 b = none → b ≠ ka := fun {b} h e => hka (e ▸ h)
    have e1 := u11.1 _ _ (nk f1) r1
    have e3 := u11.1 _ _ (nk f3) r3
    have e8 := u11.1 _ _ (nk f8) r8
    have e9 := u11.1 _ _ (nk f9) r9
    have ek := (n10.trans n11) _ _ (upd_same (H := G) (a := ka) (o := HO.lst (x1 ++ V.ref A9 :: x3)))
    have e10 := n11 _ _ (upd_same (H := upd G ka (.lst (x1 ++ V.ref A9 :: x3))) (a := A10) (o := HO.lst (p.lk.map V.str ++ [V.str sn])))
    have e11 := upd_same (H := upd (upd G ka (.lst (x1 ++ V.ref A9 :: x3))) A10 (.lst (p.lk.map V.str ++ [V.str sn]))) (a := A11) (o := HO.tup [va, V.ref A10, vc', V.ref ka])
    have d110 := ne (u9.1 _ _ (nk f1) r1) nA10
    have d310 := ne (u9.1 _ _ (nk f3) r3) nA10
    have d810 := ne (u9.1 _ _ (nk f8) r8) nA10
    have d910 := ne (u9.1 _ _ (nk f9) r9) nA10
    have d111 := ne (n10 _ _ (u9.1 _ _ (nk f1) r1)) nA11
    have d311 := ne (n10 _ _ (u9.1 _ _ (nk f3) r3)) nA11
    have d811 := ne (n10 _ _ (u9.1 _ _ (nk f8) r8)) nA11
    have d911 := ne (n10 _ _ (u9.1 _ _ (nk f9) r9)) nA11
    have d1011 := ne (upd_same (H := upd G ka (.lst (x1 ++ V.ref A9 :: x3))) (a := A10) (o := HO.lst (p.lk.map V.str ++ [V.str sn]))) nA11
    have sF : Same H (upd (upd (upd G ka (.lst (x1 ++ V.ref A9 :: x3))) A10 (.lst (p.lk.map V.str ++ [V.str sn]))) A11 (.tup [va, V.ref A10, vc', V.ref ka])) := (Same.mut (s1.trans sG) fka).trans (n10.trans n11)
    generalize hF : upd (upd (upd G ka (.lst (x1 ++ V.ref A9 :: x3))) A10 (.lst (p.lk.map V.str ++ [V.str sn]))) A11 (.tup [va, V.ref A10, vc', V.ref ka]) = HF at *
    refine q _ _ sF ?_
    show Own K HF (.tuple [.list (p.sh.map V4.data), .list ((p.lk ++ [sn]).map PyData.str), .list (p.be.map PyData.str), .list ((p.enc k i j sn).ks.map K4.data)]) (.ref A11) (New H HF)
    have old : ∀ {b}, New H H1 b → b ≠ ka → New H HF b ∧ H1 b ≠ none := fun {b} h n => ⟨⟨h.1, o11.2 b h.2⟩, h.2⟩
    have fresh : ∀ {b}, H1 b = none → HF b ≠ none → New H HF b := fun {b} h n => ⟨s1.free h, n⟩
    -- where the old ones lie
    have wRd : ∀ b, Rd b → Rr3 b := d1
    have wR3' : ∀ b, Rr3 b → New H H1 b ∧ b ≠ pt := fun b h => a2 _ (b2 _ (c2 _ h))
    have wU : ∀ b, Ru b → Rd b ∧ b ≠ ka := fun b h => i2 b (g1 b h)
    have wT1 : ∀ b, Rt1 b → Ru b ∧ b ≠ ut := n2
    have wC : ∀ b, Rc b → Rt1 b := m1
    have wT2 : ∀ b, Rt2 b → Rt1 b := m2
    have wL : ∀ b, Rl b → Rt2 b := p1
    have wT3 : ∀ b, Rt3 b → Rt2 b := p2
    have wB : ∀ b, Rb2 b → Rt3 b := q1
    have wB1 : ∀ b, B1 b → Rb2 b := fun b h => (v1a b h).1
    have wB2 : ∀ b, B2 b → Rb2 b := fun b h => (v1b b (v2a b h)).1
    have wB3 : ∀ b, B3 b → Rb2 b := fun b h => (v1b b (v2b b h)).1
    have inU : ∀ b, Rt1 b → Rd b ∧ b ≠ ka := fun b h => wU b (wT1 b h).1
    have od1 : ∀ {b}, Rd b → H1 b ≠ none := fun {b} h => (wR3' b (wRd b h)).1.2
    have ofB : ∀ {b}, Rb2 b → Rt1 b := fun {b} h => wT2 b (wT3 b (wB b h))
    let ZB : Addr → Prop := fun b => b = A8 ∨ B1 b ∨ b = A1 ∨ B2 b ∨ b = A3 ∨ B3 b
    let ZU : Addr → Prop := fun b => b = A9 ∨ Rc b ∨ Rl b ∨ ZB b
    let ZK : Addr → Prop := fun b => b = ka ∨ R1 b ∨ R3 b ∨ ZU b
    have zB : ∀ b, ZB b → H1 b = none ∨ Rb2 b := by
      rintro b (rfl | h | rfl | h | rfl | h)
      · exact .inl f8
      · exact .inr (wB1 b h)
      · exact .inl f1
      · exact .inr (wB2 b h)
      · exact .inl f3
      · exact .inr (wB3 b h)
    have zU : ∀ b, ZU b → H1 b = none ∨ Rt1 b := by
      rintro b (rfl | h | h | h)
      · exact .inl f9
      · exact .inr (wC b h)
      · exact .inr (wT2 b (wL b h))
      · exact (zB b h).imp id ofB
    have zK : ∀ b, ZK b → H1 b = none ∨ Rd b := by
      rintro b (rfl | h | h | h)
      · exact .inr Rka
      · exact .inr (i1 b h).1
      · exact .inr (i2 b (g2 b h)).1
      · exact (zU b h).imp id fun z => (inU b z).1
    have zHF : ∀ b, ZK b → New H HF b := by
      rintro b h
      rcases zK b h with z | z
      · refine fresh z ?_
        rcases h with rfl | h | h | h | h | h | h | h | h | h | h | h
        · rw [ek]; exact fun z => nomatch z
        · exact absurd z (od1 (i1 b h).1)
        · exact absurd z (od1 (i2 b (g2 b h)).1)
        · rw [h, e9]; exact fun z => nomatch z
        · exact absurd z (od1 (inU b (wC b h)).1)
        · exact absurd z (od1 (inU b (wT2 b (wL b h))).1)
        · rw [h, e8]; exact fun z => nomatch z
        · exact absurd z (od1 (inU b (ofB (wB1 b h))).1)
        · rw [h, e1]; exact fun z => nomatch z
        · exact absurd z (od1 (inU b (ofB (wB2 b h))).1)
        · rw [h, e3]; exact fun z => nomatch z
        · exact absurd z (od1 (inU b (ofB (wB3 b h))).1)
      · have zz := (wR3' b (wRd b z)).1
        exact ⟨zz.1, o11.2 b zz.2⟩
    have on : ∀ {R : Addr → Prop}, (∀ b, R b → b ≠ ka) → ∀ b, R b → ¬ (fun b => b = ka) b := fun h b r e => h b r e
    -- the body
    have tk : ∀ {a : Addr} {x y : Str} {R : Addr → Prop}, R a → HF a = some (.tup [V.str x, .str y]) → Own K HF (.tuple [.str x, .str y]) (.ref a) R := fun h e => .tup h e (.cons (R1 := fun _ => False) (R2 := fun _ => False) (fun _ z => z.elim) (fun _ z => z.elim) (fun _ z => z.elim) (.str _) (.cons (R1 := fun _ => False) (R2 := fun _ => False) (fun _ z => z.elim) (fun _ z => z.elim) (fun _ z => z.elim) (.str _) .nil))
    have ob3 : OwnL K HF (fun b => b = A3 ∨ B3 b) (ST.data (.rel sn) :: datas (kd.body.drop (j + 1))) (.ref A3 :: y3) := .cons (R1 := fun b => b = A3) (R2 := B3) (fun _ => .inl) (fun _ => .inr) (fun b e h => od1 (inU b (ofB (wB3 b h))).1 (e ▸ f3)) (tk rfl e3) (oy3.out o11 (on fun b h => (inU b (ofB (wB3 b h))).2))
    have ob2 : OwnL K HF (fun b => B2 b ∨ b = A3 ∨ B3 b) (datas ((kd.body.drop i).take (j + 1 - i)) ++ ST.data (.rel sn) :: datas (kd.body.drop (j + 1))) (y2 ++ .ref A3 :: y3) := (oy2.out o11 (on fun b h => (inU b (ofB (wB2 b h))).2)).app ob3 (fun b h z => z.elim (fun e => od1 (inU b (ofB (wB2 b h))).1 (e ▸ f3)) fun z => v2c b h z) (fun _ => .inl) (fun _ => .inr)
    have ob1 : OwnL K HF (fun b => b = A1 ∨ B2 b ∨ b = A3 ∨ B3 b) (ST.data (.acq sn) :: (datas ((kd.body.drop i).take (j + 1 - i)) ++ ST.data (.rel sn) :: datas (kd.body.drop (j + 1)))) (.ref A1 :: (y2 ++ .ref A3 :: y3)) := .cons (R1 := fun b => b = A1) (R2 := fun b => B2 b ∨ b = A3 ∨ B3 b) (fun _ => .inl) (fun _ => .inr) (fun b e h => by
      rcases h with h | h | h
      · exact od1 (inU b (ofB (wB2 b h))).1 (e ▸ f1)
      · exact d13 (e.symm.trans h)
      · exact od1 (inU b (ofB (wB3 b h))).1 (e ▸ f1)) (tk rfl e1) ob2
    have ob0 : OwnL K HF (fun b => ZB b ∧ b ≠ A8) (datas (kd.body.take i ++ ([.acq sn] ++ (kd.body.drop i).take (j + 1 - i) ++ [.rel sn]) ++ kd.body.drop (j + 1))) ((y1 ++ V.ref A1 :: (y2 ++ [V.ref A3])) ++ y3) := by
      have ed : datas (kd.body.take i ++ ([.acq sn] ++ (kd.body.drop i).take (j + 1 - i) ++ [.rel sn]) ++ kd.body.drop (j + 1)) = datas (kd.body.take i) ++ (ST.data (.acq sn) :: (datas ((kd.body.drop i).take (j + 1 - i)) ++ ST.data (.rel sn) :: datas (kd.body.drop (j + 1)))) := by
        simp only [datas_map, List.map_append, List.map_cons, List.map_nil, List.append_assoc, List.cons_append, List.nil_append]
      have ev : (y1 ++ V.ref A1 :: (y2 ++ [V.ref A3])) ++ y3 = y1 ++ (V.ref A1 :: (y2 ++ V.ref A3 :: y3)) := by
        simp only [List.append_assoc, List.cons_append, List.nil_append]
      rw [ed, ev]
      refine (oy1.out o11 (on fun b h => (inU b (ofB (wB1 b h))).2)).app ob1 (fun b h z => ?_) (fun b h => ⟨.inr (.inl h), fun e => od1 (inU b (ofB (wB1 b h))).1 (e ▸ f8)⟩) (fun b h => ⟨.inr (.inr h), ?_⟩)
      · rcases z with z | z | z | z
        · exact od1 (inU b (ofB (wB1 b h))).1 (z ▸ f1)
        · exact v1c b h (v2a b z)
        · exact od1 (inU b (ofB (wB1 b h))).1 (z ▸ f3)
        · exact v1c b h (v2b b z)
      · rintro rfl
        rcases h with h | h | h | h
        · exact d18 h.symm
        · exact od1 (inU _ (ofB (wB2 _ h))).1 f8
        · exact d38 h.symm
        · exact od1 (inU _ (ofB (wB3 _ h))).1 f8
    -- the kind
    have okd : Own K HF (.tuple [.str kd.nm, cntD4 kd.cnt, .list (kd.locs.map V4.data), .list (datas (kd.body.take i ++ ([.acq sn] ++ (kd.body.drop i).take (j + 1 - i) ++ [.rel sn]) ++ kd.body.drop (j + 1)))]) (.ref A9) ZU := by
      refine .tup (.inl rfl) e9 (.cons (R1 := fun _ => False) (R2 := fun b => ZU b ∧ b ≠ A9) (fun _ z => z.elim) (fun _ z => z) (fun _ z => z.elim) (.str _) ?_)
      refine .cons (R1 := Rc) (R2 := fun b => Rl b ∨ ZB b) (fun b h => ⟨.inr (.inl h), fun e => od1 (inU b (wC b h)).1 (e ▸ f9)⟩) (fun b h => ⟨.inr (.inr h), ?_⟩) (fun b h z => ?_) (ocn.out o11 (on fun b h => (inU b (wC b h)).2)) ?_
      · rintro rfl
        rcases h with h | h | h | h | h | h | h
        · exact od1 (inU _ (wT2 _ (wL _ h))).1 f9
        · exact d89 h.symm
        · exact od1 (inU _ (ofB (wB1 _ h))).1 f9
        · exact d19 h.symm
        · exact od1 (inU _ (ofB (wB2 _ h))).1 f9
        · exact d39 h.symm
        · exact od1 (inU _ (ofB (wB3 _ h))).1 f9
      · rcases z with z | z
        · exact m3 b h (wL b z)
        · rcases zB b z with z | z
          · exact od1 (inU b (wC b h)).1 z
          · exact m3 b h (wT3 b (wB b z))
      refine .cons (R1 := Rl) (R2 := ZB) (fun _ => .inl) (fun _ => .inr) (fun b h z => ?_) (olv.out o11 (on fun b h => (inU b (wT2 b (wL b h))).2)) ?_
      · rcases zB b z with z | z
        · exact od1 (inU b (wT2 b (wL b h))).1 z
        · exact p3 b h (wB b z)
      exact .cons (R1 := ZB) (R2 := fun _ => False) (fun _ h => h) (fun _ z => z.elim) (fun _ _ z => z) (.lst (.inl rfl) e8 ob0) .nil
    -- the kinds
    have okk' : Own K HF (.list ((p.enc k i j sn).ks.map K4.data)) (.ref ka) ZK := by
      have em : (p.enc k i j sn).ks.map K4.data = (p.ks.take k).map K4.data ++ (.tuple [.str kd.nm, cntD4 kd.cnt, .list (kd.locs.map V4.data), .list (datas (kd.body.take i ++ ([.acq sn] ++ (kd.body.drop i).take (j + 1 - i) ++ [.rel sn]) ++ kd.body.drop (j + 1)))] :: (p.ks.drop (k + 1)).map K4.data) := by
        show (p.ks.modify k _).map K4.data = _
        rw [List.modify_eq_take_cons_drop hk, (List.getElem?_eq_some_iff.mp hkd).2, List.map_append, List.map_cons]
        rfl
      rw [em]
      refine .lst (.inl rfl) ek ((o1k.out o11 (on fun b h => (i1 b h).2)).app (R2 := fun b => ZU b ∨ R3 b) (.cons (R1 := ZU) (R2 := R3) (fun _ => .inl) (fun _ => .inr) (fun b z h => ?_) okd (o3k.out o11 (on fun b h => (i2 b (g2 b h)).2))) (fun b h z => ?_) (fun b h => ⟨.inr (.inl h), (i1 b h).2⟩) (fun b h => ?_))
      · rcases zU b z with z | z
        · exact od1 (i2 b (g2 b h)).1 z
        · exact g3 b (wT1 b z).1 h
      · rcases z with z | z
        · rcases zU b z with z | z
          · exact od1 (i1 b h).1 z
          · exact i3 b h (g1 b (wT1 b z).1)
        · exact i3 b h (g2 b z)
      · rcases h with h | h
        · refine ⟨.inr (.inr (.inr h)), ?_⟩
          rcases zU b h with z | z
          · exact nk z
          · exact (inU b z).2
        · exact ⟨.inr (.inr (.inl h)), (i2 b (g2 b h)).2⟩
    -- all of it
    have ka2 : Rr1 ka := b2 _ (c2 _ (d1 _ Rka))
    have ra : ∀ b, Ra b → New H H1 b ∧ b ≠ ka := fun b h => ⟨(a1 b h).1, fun e => a3 b h (e ▸ ka2)⟩
    have rc : ∀ b, Rc' b → New H H1 b ∧ b ≠ ka := fun b h => ⟨(a2 _ (b2 _ (c1 _ h))).1, fun e => c3 b h (e ▸ d1 _ Rka)⟩
    refine .tup (fresh f11 (by rw [e11]; exact fun z => nomatch z)) e11 (.cons (R1 := Ra) (R2 := fun b => b = A10 ∨ Rc' b ∨ ZK b) (fun b h => ⟨⟨(ra b h).1.1, o11.2 b (ra b h).1.2⟩, fun e => (ra b h).1.2 (e ▸ f11)⟩) (fun b h => ?_) (fun b h z => ?_) (oa.out o11 (on fun b h => (ra b h).2)) ?_)
    · rcases h with rfl | h | h
      · exact ⟨fresh f10 (by rw [e10]; exact fun z => nomatch z), d1011⟩
      · exact ⟨⟨(rc b h).1.1, o11.2 b (rc b h).1.2⟩, fun e => (rc b h).1.2 (e ▸ f11)⟩
      · refine ⟨zHF b h, ?_⟩
        rintro rfl
        rcases h with h | h | h | h | h | h | h | h | h | h | h | h
        · exact hka (h ▸ f11)
        · exact od1 (i1 _ h).1 f11
        · exact od1 (i2 _ (g2 _ h)).1 f11
        · exact d911 h.symm
        · exact od1 (inU _ (wC _ h)).1 f11
        · exact od1 (inU _ (wT2 _ (wL _ h))).1 f11
        · exact d811 h.symm
        · exact od1 (inU _ (ofB (wB1 _ h))).1 f11
        · exact d111 h.symm
        · exact od1 (inU _ (ofB (wB2 _ h))).1 f11
        · exact d311 h.symm
        · exact od1 (inU _ (ofB (wB3 _ h))).1 f11
    · rcases z with z | z | z
      · exact (ra b h).1.2 (z ▸ f10)
      · exact a3 b h (b2 _ (c1 _ z))
      · rcases zK b z with z | z
        · exact (ra b h).1.2 z
        · exact a3 b h (b2 _ (c2 _ (d1 _ z)))
    refine .cons (R1 := fun b => b = A10) (R2 := fun b => Rc' b ∨ ZK b) (fun _ => .inl) (fun _ => .inr) (fun b e h => ?_) (.lst rfl e10 ?_) ?_
    · rcases h with h | h
      · exact (rc b h).1.2 (e ▸ f10)
      · subst e
        rcases h with h | h | h | h | h | h | h | h | h | h | h | h
        · exact hka (h ▸ f10)
        · exact od1 (i1 _ h).1 f10
        · exact od1 (i2 _ (g2 _ h)).1 f10
        · exact d910 h.symm
        · exact od1 (inU _ (wC _ h)).1 f10
        · exact od1 (inU _ (wT2 _ (wL _ h))).1 f10
        · exact d810 h.symm
        · exact od1 (inU _ (ofB (wB1 _ h))).1 f10
        · exact d110 h.symm
        · exact od1 (inU _ (ofB (wB2 _ h))).1 f10
        · exact d310 h.symm
        · exact od1 (inU _ (ofB (wB3 _ h))).1 f10
    · have z := ownl_strs_of (K := K) (H := HF) (R := fun b => b = A10 ∧ b ≠ A10) (p.lk ++ [sn])
      rw [List.map_append] at z
      rw [List.map_append]
      rw [List.map_append] at z
      exact z
    exact .cons (R1 := Rc') (R2 := ZK) (fun _ => .inl) (fun _ => .inr) (fun b h z => by
      rcases zK b z with z | z
      · exact (rc b h).1.2 z
      · exact c3 b h (d1 _ z)) (oc.out o11 (on fun b h => (rc b h).2)) (.cons (R1 := ZK) (R2 := fun _ => False) (fun _ h => h) (fun _ z => z.elim) (fun _ _ z => z) okk' .nil)
  refine ⟨_, rfl, _, rfl, ka, _, _, k, rfl, rfl, sA9 _ _ eka, ixN_nat (by rw [List.length_append, List.length_cons, l1]; omega), ?_⟩
  rw [eset]
  have out9 := (Same.out (R := fun b => b = ka) sA9).mut (u := HO.lst (x1 ++ V.ref A9 :: x3)) rfl
  refine ⟨_, rfl, _, rfl, la, _, rfl, .inr (sq (out9.1 _ _ nlk ela)), _, rfl, ?_, fun A10 nA10 => ?_⟩
  · rw [List.length_append, List.length_map, List.length_singleton]
    exact sz (by omega)
  refine ⟨_, rfl, _, rfl, szc 4, fun A11 nA11 => ?_⟩
  exact fin _ A10 A11 sA9 hg1 hg3 hg8 upd_same nA10 nA11
end
/-! ### an enclosed program is small, too -/
section
theorem dpa_split {K : PySem.W.Frag} {H : Hp} : ∀ {d1 d2 : List PyData} {xs : List V}, DpAll K H xs (d1 ++ d2) → ∃ x1 x2, xs = x1 ++ x2 ∧ x1.length = d1.length ∧ DpAll K H x1 d1 ∧ DpAll K H x2 d2
  | [], d2, xs, h => ⟨[], xs, rfl, rfl, .nil, h⟩
  | d :: d1, d2, xs, h => by
    obtain ⟨v, r, rfl, hd, hr⟩ := dpa_cons (d := d) (ds := d1 ++ d2) h
    obtain ⟨x1, x2, rfl, l, a, b⟩ := dpa_split hr
    exact ⟨v :: x1, x2, rfl, congrArg (· + 1) l, .cons hd a, b⟩
theorem p4_lists {p : P4} {c m : Nat} (h : NcD p.data c (m + 2)) : NcL (p.sh.map V4.data) c m ∧ NcL (p.lk.map PyData.str) c m ∧ NcL (p.be.map PyData.str) c m ∧ NcL (p.ks.map K4.data) c m := by
  obtain ⟨m1, e1, n1⟩ := ncd_tup (show NcD (.tuple [.list (p.sh.map V4.data), .list (p.lk.map PyData.str), .list (p.be.map PyData.str), .list (p.ks.map K4.data)]) c (m + 2) from h)
  obtain ⟨m2, e2, n2⟩ := ncd_lst (ncl_mem n1 (show PyData.list (p.sh.map V4.data) ∈ _ from List.mem_cons_self))
  obtain ⟨m3, e3, n3⟩ := ncd_lst (ncl_mem n1 (show PyData.list (p.lk.map PyData.str) ∈ _ from List.mem_cons_of_mem _ List.mem_cons_self))
  obtain ⟨m4, e4, n4⟩ := ncd_lst (ncl_mem n1 (show PyData.list (p.be.map PyData.str) ∈ _ from List.mem_cons_of_mem _ (List.mem_cons_of_mem _ List.mem_cons_self)))
  obtain ⟨m5, e5, n5⟩ := ncd_lst (ncl_mem n1 (show PyData.list (p.ks.map K4.data) ∈ _ from List.mem_cons_of_mem _ (List.mem_cons_of_mem _ (List.mem_cons_of_mem _ List.mem_cons_self))))
  obtain rfl : m2 = m := by omega
  obtain rfl : m3 = m2 := by omega
  obtain rfl : m4 = m3 := by omega
  obtain rfl : m5 = m4 := by omega
  exact ⟨n2, n3, n4, n5⟩
theorem k4_parts {t : K4} {c m : Nat} (h : NcD t.data c (m + 2)) : nice (.str t.nm) = true ∧ NcD (cntD4 t.cnt) c (m + 1) ∧ NcL (t.locs.map V4.data) c m ∧ NcL (datas t.body) c m := by
  obtain ⟨m1, e1, n1⟩ := ncd_tup (show NcD (.tuple [.str t.nm, cntD4 t.cnt, .list (t.locs.map V4.data), .list (datas t.body)]) c (m + 2) from h)
  obtain rfl : m1 = m + 1 := by omega
  obtain ⟨m2, e2, n2⟩ := ncd_lst (ncl_mem n1 (show PyData.list (t.locs.map V4.data) ∈ _ from List.mem_cons_of_mem _ (List.mem_cons_of_mem _ List.mem_cons_self)))
  obtain ⟨m3, e3, n3⟩ := ncd_lst (ncl_mem n1 (show PyData.list (datas t.body) ∈ _ from List.mem_cons_of_mem _ (List.mem_cons_of_mem _ (List.mem_cons_of_mem _ List.mem_cons_self))))
  obtain rfl : m2 = m := by omega
  obtain rfl : m3 = m2 := by omega
  exact ⟨(ncl_mem n1 (show PyData.str t.nm ∈ _ from List.mem_cons_self)).ni, ncl_mem n1 (show cntD4 t.cnt ∈ _ from List.mem_cons_of_mem _ List.mem_cons_self), n2, n3⟩
theorem cellsAll_app : ∀ a b : List PyData, cellsAll (a ++ b) = cellsAll a + cellsAll b
  | [], b => (Nat.zero_add _).symm
  | d :: r, b => by
    show cells d + cellsAll (r ++ b) = cells d + cellsAll r + cellsAll b
    rw [cellsAll_app r b, Nat.add_assoc]
theorem NcL.tight {ds : List PyData} {c m : Nat} (h : NcL ds c m) : NcL ds (cellsAll ds) m := ⟨h.ni, Nat.le_refl _, h.de⟩
theorem NcD.tight {d : PyData} {c m : Nat} (h : NcD d c m) : NcD d (cells d) m := ⟨h.ni, Nat.le_refl _, h.de⟩
theorem ncl_sub {a b : List PyData} {c m : Nat} (h : NcL (a ++ b) c m) : NcL a (cellsAll a) m ∧ NcL b (cellsAll b) m := by
  have hm : ∀ d ∈ a ++ b, NcD d c m := fun d hd => ncl_mem h hd
  have mk : ∀ l : List PyData, (∀ d ∈ l, NcD d c m) → NcL l (cellsAll l) m := by
    intro l
    induction l with
    | nil => exact fun _ => .nil
    | cons d r ih => exact fun g => .cons (g d List.mem_cons_self).tight (ih fun x hx => g x (List.mem_cons_of_mem _ hx))
  exact ⟨mk a fun d hd => hm d (List.mem_append_left _ hd), mk b fun d hd => hm d (List.mem_append_right _ hd)⟩
theorem enc_nc {p : P4} {k i j : Nat} {s : Str} {kd : K4} (h : NcD p.data 46000 16) (hs : nice (.str s) = true) (hkd : p.ks[k]? = some kd) (hij : i ≤ j) (hj : j < kd.body.length) : NcD (p.enc k i j s).data 46010 16 := by
  obtain ⟨ns, nl, nb, nk⟩ := p4_lists (m := 14) h
  have hk := (List.getElem?_eq_some_iff.mp hkd).1
  have hx : cells p.data = 1 + ((1 + cellsAll (p.sh.map V4.data)) + ((1 + cellsAll (p.lk.map PyData.str)) + ((1 + cellsAll (p.be.map PyData.str)) + ((1 + cellsAll (p.ks.map K4.data)) + 0)))) := by
    simp only [P4.data, cells, cellsAll]
    omega
  have ekm : p.ks.map K4.data = (p.ks.take k).map K4.data ++ ([kd.data] ++ (p.ks.drop (k + 1)).map K4.data) := by
    have z := List.take_append_drop k p.ks
    rw [List.drop_eq_getElem_cons hk, (List.getElem?_eq_some_iff.mp hkd).2] at z
    rw [List.singleton_append, ← List.map_cons, ← List.map_append, z]
  have nk0 := nk
  rw [ekm] at nk
  obtain ⟨n1, n23⟩ := ncl_sub nk
  obtain ⟨n2, n3⟩ := ncl_sub n23
  have nkd : NcD kd.data 46000 14 := ncl_mem nk0 (List.mem_map_of_mem (List.mem_of_getElem? hkd))
  obtain ⟨k1, k2, k3, k4⟩ := k4_parts (m := 12) nkd
  have hx2 : cells kd.data = 1 + (1 + (cells (cntD4 kd.cnt) + ((1 + cellsAll (kd.locs.map V4.data)) + ((1 + cellsAll (datas kd.body)) + 0)))) := by
    simp only [K4.data, cells, cellsAll]
    omega
  have ebd : datas kd.body = datas (kd.body.take i) ++ (datas ((kd.body.drop i).take (j + 1 - i)) ++ datas (kd.body.drop (j + 1))) := by
    have h2 := List.take_append_drop (j + 1 - i) (kd.body.drop i)
    rw [List.drop_drop, show i + (j + 1 - i) = j + 1 by omega] at h2
    rw [← datas_app, ← datas_app, h2, List.take_append_drop]
  have k40 := k4
  rw [ebd] at k4
  obtain ⟨b1, b23⟩ := ncl_sub k4
  obtain ⟨b2, b3⟩ := ncl_sub b23
  have hx3 : cellsAll (datas kd.body) = cellsAll (datas (kd.body.take i)) + (cellsAll (datas ((kd.body.drop i).take (j + 1 - i))) + cellsAll (datas (kd.body.drop (j + 1)))) := by rw [ebd, cellsAll_app, cellsAll_app]
  have hx4 : cellsAll (p.ks.map K4.data) = cellsAll ((p.ks.take k).map K4.data) + (cells kd.data + cellsAll ((p.ks.drop (k + 1)).map K4.data)) := by
    rw [ekm, cellsAll_app, cellsAll_app]
    simp only [cellsAll]
    omega
  have na : ∀ x : Str, nice (.str x) = true → NcD (.tuple [.str x, .str s]) 3 12 := fun x hx => (NcL.tup (m := 11) (.cons (.str hx) (.cons (.str hs) (.nil (c := 0))))).mono (by omega) (Nat.le_refl _)
  have nbd : NcL (datas (kd.body.take i ++ ([.acq s] ++ (kd.body.drop i).take (j + 1 - i) ++ [.rel s]) ++ kd.body.drop (j + 1))) (cellsAll (datas kd.body) + 6) 12 := by
    rw [datas_app, datas_app, datas_app, datas_app]
    refine (((b1.app (((NcL.cons (na "acquire" (by decide +kernel)) (.nil (c := 0))).app b2).app (NcL.cons (na "release" (by decide +kernel)) (.nil (c := 0))))).app b3).mono ?_ (Nat.le_refl _))
    omega
  have nkd2 : NcD (K4.mk kd.nm kd.cnt kd.locs (kd.body.take i ++ ([.acq s] ++ (kd.body.drop i).take (j + 1 - i) ++ [.rel s]) ++ kd.body.drop (j + 1))).data (cells kd.data + 6) 14 := by
    refine (NcL.tup (m := 13) (.cons (.str k1) (.cons k2.tight (.cons k3.tight.lst (.cons nbd.lst (.nil (c := 0))))))).mono ?_ (Nat.le_refl _)
    omega
  have em : (p.enc k i j s).ks.map K4.data = (p.ks.take k).map K4.data ++ ([(K4.mk kd.nm kd.cnt kd.locs (kd.body.take i ++ ([.acq s] ++ (kd.body.drop i).take (j + 1 - i) ++ [.rel s]) ++ kd.body.drop (j + 1))).data] ++ (p.ks.drop (k + 1)).map K4.data) := by
    show (p.ks.modify k _).map K4.data = _
    rw [List.modify_eq_take_cons_drop hk, (List.getElem?_eq_some_iff.mp hkd).2, List.map_append, List.map_cons]
    rfl
  have nke : NcL ((p.enc k i j s).ks.map K4.data) (cellsAll (p.ks.map K4.data) + 6) 14 := by
    rw [em]
    refine (n1.app ((NcL.cons nkd2 (.nil (c := 0))).app n3)).mono ?_ (Nat.le_refl _)
    omega
  have nle : NcL ((p.lk ++ [s]).map PyData.str) (cellsAll (p.lk.map PyData.str) + 1) 14 := by
    rw [List.map_append]
    exact nl.tight.app (NcL.cons (.str hs) (.nil (c := 0)))
  show NcD (.tuple [.list (p.sh.map V4.data), .list ((p.lk ++ [s]).map PyData.str), .list (p.be.map PyData.str), .list ((p.enc k i j s).ks.map K4.data)]) 46010 16
  refine (NcL.tup (m := 15) (.cons ns.tight.lst (.cons nle.lst (.cons nb.tight.lst (.cons nke.lst (.nil (c := 0))))))).mono ?_ (Nat.le_refl _)
  have := h.ce
  omega
end
theorem szl6 {n : Nat} (h : n < 1000000) : n < sizeLine := Nat.lt_of_lt_of_le h (by decide)
theorem sz6 {n : Nat} (h : n ≤ 1000000) : n ≤ sizeLine := Nat.le_trans h (by decide)
/-! ### a text repeated -/
def repS : Nat → Str → Str
  | 0, _ => Str.empty
  | n + 1, z => repS n z ++ z
theorem repS_fold (z : Str) : ∀ n : Nat, (⟨(List.replicate n z.cps).foldl (· ++ ·) #[]⟩ : Str) = repS n z
  | 0 => rfl
  | n + 1 => by
    rw [List.replicate_succ', List.foldl_append]
    show (⟨(List.replicate n z.cps).foldl (· ++ ·) #[] ++ z.cps⟩ : Str) = repS n z ++ z
    rw [← repS_fold z n]
    rfl
theorem repS_one (z : Str) : repS 1 z = z := by
  show Str.empty ++ z = z
  refine str_ext ?_
  rw [str_app]
  rfl
theorem repS_len (z : Str) : ∀ n : Nat, (repS n z).length = n * z.length
  | 0 => by rw [Nat.zero_mul]; rfl
  | n + 1 => by
    have e : (repS n z ++ z).length = (repS n z).length + z.length := Array.size_append
    show (repS n z ++ z).length = _
    rw [e, repS_len z n, Nat.succ_mul]
def rMulS : R2 := fun x y H Q => ∃ (z : Str) (n : Nat), x = .str z ∧ y = .int (n : Int) ∧ 1 ≤ n ∧ n ≤ 1000 ∧ 1 ≤ z.length ∧ z.length ≤ 1000 ∧ Q (.str (repS n z)) H
theorem op_mulS {X : Cx} : OpR X (binaryOp .Mult) rMulS := by
  intro pins s σ H x y v u Q I rx ry h
  obtain ⟨z, n, rfl, rfl, h1, h2, h0, h3, q⟩ := h
  obtain ⟨t, rfl⟩ := rx
  obtain ⟨t', rfl⟩ := ry
  have hm : z.length * n ≤ 1000 * 1000 := Nat.mul_le_mul h3 h2
  have hl : z.length * ((n : Int)).toNat ≤ 1000000 := hm
  refine PySem.P.mul_str ?_ (fun _ _ => ?_) (fun _ _ => ?_) ?_
  · rw [decide_eq_false (by omega), decide_eq_false (by omega)]
    rfl
  · have : (z.length : Int) ≤ (2 ^ 63 - 1) / (n : Int) := by
      rw [Int.le_ediv_iff_mul_le (by omega)]
      have : ((z.length * n : Nat) : Int) ≤ 1000000 := by omega
      push_cast at this
      omega
    omega
  · exact decide_eq_false (Nat.not_lt.mpr (sz6 hl))
  · rw [if_neg (by omega)]
    by_cases e : ((n : Int) == 1 || z.length == 0) = true
    · rw [if_pos e]
      have e1 : n = 1 := by
        rcases Bool.or_eq_true_iff.mp e with e | e
        · have := beq_iff_eq.mp e; omega
        · have := beq_iff_eq.mp e; omega
      subst e1
      rw [repS_one] at q
      exact ⟨.str z, H, I, ⟨t, rfl⟩, q⟩
    · rw [if_neg e, show ((n : Int)).toNat = n from rfl, repS_fold]
      refine ⟨?_, .str _, H, I.tok _, ⟨_, rfl⟩, q⟩
      rw [repS_len]
      exact sz6 (by rw [Nat.mul_comm]; exact hm)
/-! ### join, within a comprehension too -/
def rJoinK (K : PySem.W.Frag) : V → List V → Hp → VK → Prop := fun x xs H Q => ∃ a p, ∃ ys : List Str, x = .str a ∧ xs = [.ref p] ∧ (SqL K H p (ys.map V.str) ∨ SqT K H p (ys.map V.str)) ∧
  (ys.map (·.length)).sum + ys.length * a.length ≤ 16777216 ∧ Q (.str (Txt.join a ys)) H
theorem pe_joinK {X : Cx} {o e : Expr} {to te : TE} {apos pos : Pos} (K : PySem.W.Frag) (ho : PE X o to) (he : PE X e te) (hK : X.K = K := by rfl) (hs : starEach [e] X.env = [(false, eval e X.env)] := by rfl) (hbase : attributeBase o "join" X.env (eval o X.env) = eval o X.env := by rfl) (hline : (apos.endLine == pos.line) = true := by rfl) :
    PE X (.Call (.Attribute o "join" apos) [e] [] pos) (tM1 (rJoinK K) to te) := by
  subst hK
  exact pe_join ho he hs hbase hline
section
variable {P : Program} {w : World} {K : PySem.W.Frag} {mg : Str → Option Value} {base : Heap}
def spLaw (K : PySem.W.Frag) : Sp := fun vs H Q _ => ∃ (a : Addr) (ns : List Int), vs = [.ref a] ∧ SqL K H a (ns.map V.int) ∧ ns.length ≤ 63 ∧ ∀ H', Q (.bl true) H'
theorem orF9 {A B : TT} {t u r : TS} {D : Ends} {σ : L2.St} {H : Hp} (h : Ans A σ H false) (hb : tSeq (tIfS B t u) r D σ H) : tSeq (tIfS (tOr A B) t u) r D σ H := h _ (iteF hb)
theorem orF9s {A B : TT} {t u : TS} {D : Ends} {σ : L2.St} {H : Hp} (h : Ans A σ H false) (hb : tIfS B t u D σ H) : tIfS (tOr A B) t u D σ H := h _ (iteF hb)
theorem neF9 (s : Str) : (!decide (V.str s = V.str s)) = false := by
  rw [decide_eq_true rfl]
  rfl
theorem nvF9 {d : PyData} (e : PyData.eqv d d = true) : (!PyData.eqv d d) = false := by
  rw [e]
  rfl
abbrev s_law : Stmt := topS 19
theorem sc_law : FnScope ["script", "program", "kept", "draws", "name", "kind", "lock", "k", "first", "last", "body", "kinds", "due", "told", "again", "part", "other"] ["script"] (defScope s_law) := ⟨rfl, rfl, rfl, by decide +kernel, rfl, by decide +kernel, by decide +kernel⟩
-- law slots: script=0 program=1 kept=2 draws=3 name=4 kind=5 lock=6 k=7 first=8 last=9 body=10 kinds=11 due=12 told=13 again=14 part=15 other=16 globals: _law_program _law_cell repr _law_digits _law_names range len enclosed isinstance tuple _law_spoil
set_option maxHeartbeats 16000000 in
theorem fd_law {f : Addr} {fd : FuncData} (F : Fun K "law" "law" s_law f fd) (m : mg "law" = some (.ref f)) (bind : ∀ (s : Shared) (v : Value), BindsTo s fd ⟨[v], []⟩ [("script", v)]) (B : Bt mg)
    (D_law_cell : Fd P w K mg base "_law_cell" ["script", "k"] 1 (spCellP K)) (D_law_digits : Fd P w K mg base "_law_digits" ["cell", "base", "most"] 1 (spDigits K)) (D_law_names : Fd P w K mg base "_law_names" ["cell", "count"] 2 (spNames4 K)) (D_law_program : Fd P w K mg base "_law_program" ["first", "second"] 19 (spProg4 K))
    (D_enclosed : Fd P w K mg base "enclosed" ["program", "kind", "first", "last", "name"] 19 (spEncl K)) (D_law_spoil : Fd P w K mg base "_law_spoil" ["body"] 17 (spSpoil K 16)) : TopOk P w K mg base f (spLaw K) := by
  refine top_ok (k := 20) F sc_law (by refine ⟨rfl, ?_, ?_⟩ <;> decide +kernel) bind fun cdv s H a Q hr h => ?_
  obtain ⟨a1, ns, ea, hs, hl, q⟩ := h
  cases ea
  refine ⟨_, (pss_cons (ps_set (i := 1) sc_law.nd rfl (Or.inl rfl) (pe_fn D_law_program (hr.mono (by decide)) rfl (pa_cons (pe_fn D_law_cell (hr.mono (by decide)) rfl (pa_cons (pv 0) (pa_cons pe_int pa_nil))) (pa_cons (pe_fn D_law_cell (hr.mono (by decide)) rfl (pa_cons (pv 0) (pa_cons pe_int pa_nil))) pa_nil))))
 (pss_cons (ps_set (i := 2) sc_law.nd rfl (Or.inl rfl) (pe_callB (cRepr K rfl hr.units) (by rfl) B.repr (by decide +kernel) (pa_cons (pv 1) pa_nil)))
 (pss_cons (ps_set (i := 3) sc_law.nd rfl (Or.inl rfl) (pe_fn D_law_digits (hr.mono (by decide)) rfl (pa_cons (pe_fn D_law_cell (hr.mono (by decide)) rfl (pa_cons (pv 0) (pa_cons pe_int pa_nil))) (pa_cons pe_int (pa_cons pe_int pa_nil)))))
 (pss_cons (ps_set (i := 4) sc_law.nd rfl (Or.inl rfl) (pe_ix (ixL K) (pe_fn D_law_names (hr.mono (by decide)) rfl (pa_cons (pe_op op_fdiv (pe_fn D_law_cell (hr.mono (by decide)) rfl (pa_cons (pv 0) (pa_cons pe_int pa_nil))) pe_int) (pa_cons pe_int pa_nil))) pe_int (fun _ _ => rfl)))
 (C8.pss_cut (ps_if (pt_cmpR (opIn K) (pv 4) (pe_lc (own := [("kind", 5)]) (g := gName 5) (by rfl) sc_law.nd (piL K (pe_ix (ixT K) (pv 1) pe_int (fun _ _ => rfl))) (blkOk_by (own := [("kind", 5)]) (N := ["script", "program", "kept", "draws", "name", "kind", "lock", "k", "first", "last", "body", "kinds", "due", "told", "again", "part", "other"]) (sc := (defScope s_law)) (by decide +kernel)) (fun _ _ _ _ _ => (pg_name (i := 5) sc_law.nd rfl (Or.inl rfl))) (fun _ _ _ _ _ => pts_nil) (fun _ _ _ _ _ => (pe_ix (ixT K) (pv 5) pe_int (fun _ _ => rfl)))) (by rfl))
 (pss_one (ps_set (i := 4) sc_law.nd rfl (Or.inl rfl) (pe_op op_mulS pe_str pe_int)))
 pss_nil)
 (pss_cons (ps_set (i := 6) sc_law.nd rfl (Or.inl rfl) (pe_ix (ixL K) (pe_lst (pa_cons (pv 4) (pa_cons pe_str pa_nil))) (pe_op op_fdiv (pe_op op_mod (pe_ix (ixL K) (pv 3) pe_int (fun _ _ => rfl)) pe_int) pe_int) (fun _ _ => rfl)))
 (pss_cons (ps_for PassesOwn.never rfl (pi_range1 rfl B.range (pa_cons (pe_callB (cLen K) (by rfl) B.len PySem.boot_len (pa_cons (pe_ix (ixT K) (pv 1) pe_int (fun _ _ => rfl)) pa_nil)) pa_nil)) (pg_name (i := 7) sc_law.nd rfl (Or.inl rfl))
 (pss_cons (ps_set (i := 5) sc_law.nd rfl (Or.inl rfl) (pe_ix (ixL K) (pe_ix (ixT K) (pv 1) pe_int (fun _ _ => rfl)) (pv 7) (fun _ _ => rfl)))
 (pss_cons (ps_if (pt_cmpR op_eq (pe_callB (cLen K) (by rfl) B.len PySem.boot_len (pa_cons (pe_ix (ixT K) (pv 5) pe_int (fun _ _ => rfl)) pa_nil)) pe_int (nomark _))
 (pss_one ps_continue)
 pss_nil)
 (pss_cons (ps_set (i := 8) sc_law.nd rfl (Or.inl rfl) (pe_op op_mod (pe_ix (ixL K) (pv 3) pe_int (fun _ _ => rfl)) (pe_callB (cLen K) (by rfl) B.len PySem.boot_len (pa_cons (pe_ix (ixT K) (pv 5) pe_int (fun _ _ => rfl)) pa_nil))))
 (pss_cons (ps_set (i := 9) sc_law.nd rfl (Or.inl rfl) (pe_op op_add (pv 8) (pe_op op_mod (pe_ix (ixL K) (pv 3) pe_int (fun _ _ => rfl)) (pe_op op_sub (pe_callB (cLen K) (by rfl) B.len PySem.boot_len (pa_cons (pe_ix (ixT K) (pv 5) pe_int (fun _ _ => rfl)) pa_nil)) (pv 8)))))
 (pss_cons (ps_set (i := 10) sc_law.nd rfl (Or.inl rfl) (pe_op (opCat K) (pe_op (opCat K) (pe_op (opCat K) (pe_op (opCat K) (pe_slice (slL K) (pe_ix (ixT K) (pv 5) pe_int (fun _ _ => rfl)) po_none (po_some (pv 8))) (pe_lst (pa_cons (pe_tup (pa_cons pe_str (pa_cons (pv 6) pa_nil))) pa_nil))) (pe_slice (slL K) (pe_ix (ixT K) (pv 5) pe_int (fun _ _ => rfl)) (po_some (pv 8)) (po_some (pe_op op_add (pv 9) pe_int)))) (pe_lst (pa_cons (pe_tup (pa_cons pe_str (pa_cons (pv 6) pa_nil))) pa_nil))) (pe_slice (slL K) (pe_ix (ixT K) (pv 5) pe_int (fun _ _ => rfl)) (po_some (pe_op op_add (pv 9) pe_int)) po_none)))
 (pss_cons (ps_set (i := 11) sc_law.nd rfl (Or.inl rfl) (pe_op (opCat K) (pe_op (opCat K) (pe_slice (slL K) (pe_ix (ixT K) (pv 1) pe_int (fun _ _ => rfl)) po_none (po_some (pv 7))) (pe_lst (pa_cons (pe_tup (pa_cons (pe_ix (ixT K) (pv 5) pe_int (fun _ _ => rfl)) (pa_cons (pe_ix (ixT K) (pv 5) pe_int (fun _ _ => rfl)) (pa_cons (pe_ix (ixT K) (pv 5) pe_int (fun _ _ => rfl)) (pa_cons (pv 10) pa_nil))))) pa_nil))) (pe_slice (slL K) (pe_ix (ixT K) (pv 1) pe_int (fun _ _ => rfl)) (po_some (pe_op op_add (pv 7) pe_int)) po_none)))
 (pss_cons (ps_set (i := 12) sc_law.nd rfl (Or.inl rfl) (pe_tup (pa_cons (pe_ix (ixT K) (pv 1) pe_int (fun _ _ => rfl)) (pa_cons (pe_op (opCat K) (pe_ix (ixT K) (pv 1) pe_int (fun _ _ => rfl)) (pe_lst (pa_cons (pv 6) pa_nil))) (pa_cons (pe_ix (ixT K) (pv 1) pe_int (fun _ _ => rfl)) (pa_cons (pv 11) pa_nil))))))
 (pss_cons (ps_set (i := 13) sc_law.nd rfl (Or.inl rfl) (pe_fn D_enclosed (hr.mono (by decide)) rfl (pa_cons (pv 1) (pa_cons (pv 7) (pa_cons (pv 8) (pa_cons (pv 9) (pa_cons (pv 6) pa_nil)))))))
 (pss_cons (ps_if (PW.pt (pw_or (pt_not (pt_val (pe_callB (cIsi K) (by rfl) B.isinstance (by decide +kernel) (pa_cons (pv 13) (pa_cons (pe_bltn (v := .ty "tuple") (by rfl) B.tuple (by decide +kernel) rfl) pa_nil))))) (pw_or (pt_cmpR (opNeD K hr.units) (pv 13) (pv 12) (nomark _)) (pw_or (pt_cmpR op_ne (pe_callB (cRepr K rfl hr.units) (by rfl) B.repr (by decide +kernel) (pa_cons (pv 13) pa_nil)) (pe_callB (cRepr K rfl hr.units) (by rfl) B.repr (by decide +kernel) (pa_cons (pv 12) pa_nil)) (nomark _)) (pw_or1 (pt_cmpR op_ne (pe_callB (cRepr K rfl hr.units) (by rfl) B.repr (by decide +kernel) (pa_cons (pv 1) pa_nil)) (pv 2) (nomark _)))))))
 (pss_one (ps_ret pe_bl))
 pss_nil)
 (pss_cons (ps_set (i := 14) sc_law.nd rfl (Or.inl rfl) (pe_fn D_enclosed (hr.mono (by decide)) rfl (pa_cons (pv 1) (pa_cons (pv 7) (pa_cons (pv 8) (pa_cons (pv 9) (pa_cons (pv 6) pa_nil)))))))
 (pss_cons (ps_for PassesOwn.never rfl (piL K (pe_lst (pa_cons (pe_ix (ixT K) (pv 13) pe_int (fun _ _ => rfl)) (pa_cons (pe_ix (ixT K) (pv 13) pe_int (fun _ _ => rfl)) (pa_cons (pe_ix (ixT K) (pv 13) pe_int (fun _ _ => rfl)) pa_nil))))) (pg_name (i := 15) sc_law.nd rfl (Or.inl rfl))
 (pss_one (ps_expr (peBm K PySem.F.plainAttrs_list PySem.F.slot_list_append PySem.F.type_list_append mt_append (pv 15) (pa_cons pe_str pa_nil)))))
 (pss_cons (ps_for PassesOwn.never rfl (piL K (pe_ix (ixT K) (pv 13) pe_int (fun _ _ => rfl))) (pg_name (i := 16) sc_law.nd rfl (Or.inl rfl))
 (pss_cons (ps_expr (peBm K PySem.F.plainAttrs_list PySem.F.slot_list_append PySem.F.type_list_append mt_append (pe_ix (ixT K) (pv 16) pe_int (fun _ _ => rfl)) (pa_cons (pe_tup (pa_cons pe_str (pa_cons pe_int (pa_cons pe_int (pa_cons pe_int pa_nil))))) pa_nil)))
 (pss_one (ps_expr (pe_fn D_law_spoil (hr.mono (by decide)) rfl (pa_cons (pe_ix (ixT K) (pv 16) pe_int (fun _ _ => rfl)) pa_nil))))))
 (pss_cons (ps_expr (peBm K PySem.F.plainAttrs_list PySem.F.slot_list_append PySem.F.type_list_append mt_append (pe_ix (ixT K) (pv 13) pe_int (fun _ _ => rfl)) (pa_cons (pe_ix (ixL K) (pe_ix (ixT K) (pv 13) pe_int (fun _ _ => rfl)) pe_int (fun _ _ => rfl)) pa_nil)))
 (pss_one (ps_if (PW.pt (pw_or (pt_cmpR (opNeD K hr.units) (pv 14) (pv 12) (nomark _)) (pw_or (pt_cmpR op_ne (pe_callB (cRepr K rfl hr.units) (by rfl) B.repr (by decide +kernel) (pa_cons (pv 1) pa_nil)) (pv 2) (nomark _)) (pw_or1 (pt_cmpR (opNeD K hr.units) (pe_fn D_enclosed (hr.mono (by decide)) rfl (pa_cons (pv 1) (pa_cons (pv 7) (pa_cons (pv 8) (pa_cons (pv 9) (pa_cons (pv 6) pa_nil)))))) (pv 12) (nomark _))))))
 (pss_one (ps_ret pe_bl))
 pss_nil))))))))))))))))
 (pss_one (ps_ret pe_bl))))))))), ?_⟩
  refine ⟨_, rfl, a, ns, 0, rfl, hs, fun c0 c00 => ⟨_, rfl, a, ns, 1, rfl, hs, fun c1 c10 => ⟨c0, c1, rfl, c00, c10, fun H1 v p s1 dv ok => ?_⟩⟩⟩
  obtain ⟨pa, pxs, rfl, hp, hpa⟩ := dp_tup (show Dp K H1 v (.tuple [.list (p.sh.map V4.data), .list (p.lk.map PyData.str), .list (p.be.map PyData.str), .list (p.ks.map K4.data)]) from dv)
  obtain ⟨v1, r1, rfl, dsh, hpa⟩ := dpa_cons hpa
  obtain ⟨v2, r2, rfl, dlk, hpa⟩ := dpa_cons hpa
  obtain ⟨v3, r3, rfl, dbe, hpa⟩ := dpa_cons hpa
  obtain ⟨v4, r4, rfl, dks, hpa⟩ := dpa_cons hpa
  obtain rfl := dpa_nil hpa
  obtain ⟨ka, kxs, rfl, hk, hka⟩ := dp_lst dks
  obtain ⟨la, lxs, rfl, hlk, hla⟩ := dp_lst dlk
  have klen : kxs.length = p.ks.length := by rw [dpa_len hka, List.length_map]
  have pshw := ok.nc.shw9 (by decide) (by decide)
  dsimp only [gName]
  refine ⟨_, rfl, pa, p.data, rfl, dv, pshw.sh, pshw.nd, pshw.de, pshw.ln, ?_⟩
  dsimp only [gName]
  have hs1 := s1.seq hs
  refine ⟨_, rfl, a, ns, 2, rfl, hs1, fun c2 c20 => ⟨c2, 2520, 3, rfl, c20, by decide, by decide, by decide, fun H2 dr ds s2 ndr edr ldr bdr => ?_⟩⟩
  dsimp only [gName]
  have hs2 := s2.seq hs1
  refine ⟨_, rfl, a, ns, 0, rfl, hs2, fun c3 c30 => ?_⟩
  refine ⟨_, _, rfl, rfl, ⟨by decide, by decide⟩, c3 / 11, 12, rfl, Int.ediv_nonneg c30 (by decide), by decide, fun H3 pn nms s3 npn en ln nn => ?_⟩
  obtain ⟨nm, hnm⟩ : ∃ s, nms[11]? = some s := ⟨_, List.getElem?_eq_getElem (by omega)⟩
  refine ⟨pn, _, 11, _, rfl, rfl, sq en, atI_nat (j := 11) (v := .str nm) (by rw [List.getElem?_map, hnm]; rfl), ?_⟩
  dsimp only [gName]
  have s13 := s2.trans s3
  have hp3 : SqT K H3 pa _ := Same.seqT s13 hp
  have hk3 := s13.seq hk
  have edr3 := s3 _ _ edr
  refine ⟨fun σ' H' => ∃ (nm' : Str) (y5 : Option V), σ' = [some (.ref a), some (.ref pa), some (.str p.data.shown), some (.ref dr), some (.str nm'), y5, none, none, none, none, none, none, none, none, none, none, none] ∧ Same H3 H' ∧ nice (.str nm') = true, ?_, ?_⟩
  · refine ⟨_, rfl, _, rfl, _, _, _, _, rfl, rfl, hp3, atI_nat (j := 3) rfl, ka, rfl, ⟨_, hk3⟩, fun D nD => lc_list (K := K) (a := ka) (xs := kxs) (fun i Hx => Same H3 Hx ∧ Hx D = some (.lst ((p.ks.take i).map fun t => V.str t.nm))) ⟨same_new nD, upd_same⟩ (fun i Hx _ p => p.1.seq hk3) (fun i x Hx hi h => ?_) (fun Hx h => ?_)⟩
    · obtain ⟨sH, eD⟩ := h
      obtain ⟨d, hdi, dx⟩ := dpa_at hka hi
      rw [List.getElem?_map] at hdi
      obtain ⟨t, ht, rfl⟩ := Option.map_eq_some_iff.mp hdi
      obtain ⟨ut, ux, rfl, hu, hua⟩ := dp_tup (show Dp K H1 x (.tuple [.str t.nm, cntD4 t.cnt, .list (t.locs.map V4.data), .list (datas t.body)]) from dx)
      obtain ⟨w1, q1, rfl, g1, hua⟩ := dpa_cons hua
      cases g1
      refine ⟨rfl, yesT4 ⟨_, rfl, _, _, _, _, rfl, rfl, Same.seqT (s13.trans sH) hu, atI_nat (j := 0) rfl, _, eD, ?_, Same.mut sH nD, ?_⟩⟩
      · rw [List.length_map, List.length_take]
        have := ok.k4
        exact szl (by omega)
      · rw [upd_same, List.take_add_one, ht, List.map_append]
        rfl
    · have hall : ((p.ks.take kxs.length).map fun t => V.str t.nm).all flatV = true := by
        rw [List.all_map]
        exact List.all_eq_true.mpr fun _ _ => rfl
      refine ⟨D, _, rfl, .inl (sq h.2), rfl, hall, _, rfl, ?_⟩
      cases inV (.str nm) ((p.ks.take kxs.length).map fun t => V.str t.nm) with
      | true => exact iteT ⟨_, 15, rfl, rfl, by decide, by decide, by decide, by decide, ⟨_, none, rfl, h.1, by decide +kernel⟩⟩
      | false => exact iteF ⟨_, none, rfl, h.1, (nn nm (List.mem_of_getElem? hnm)).nice (by decide)⟩
  rintro σ' H4 ⟨lkn, y5, rfl, s4, nlk⟩
  obtain ⟨lk, hlkv, nlk2⟩ : ∃ lk : Str, atI [V.str lkn, .str "guard"] (ds.getD 2 0 % 3 / 2) = some (.str lk) ∧ nice (.str lk) = true := by
    have d0 := (bdr _ (gd_mem (show 2 < ds.length by omega))).1
    have z1 := Int.emod_lt_of_pos (ds.getD 2 0) (show (0 : Int) < 3 by decide)
    have z2 := Int.emod_nonneg (ds.getD 2 0) (show (3 : Int) ≠ 0 by decide)
    rcases (show ds.getD 2 0 % 3 / 2 = 0 ∨ ds.getD 2 0 % 3 / 2 = 1 by omega) with e | e
    · exact ⟨lkn, by rw [e]; rfl, nlk⟩
    · exact ⟨"guard", by rw [e]; rfl, by decide +kernel⟩
  refine ⟨_, rfl, szc 2, fun pl npl => ?_⟩
  have s5 := same_new (o := HO.lst [V.str lkn, .str "guard"]) npl
  have edr5 := s5 _ _ (s4 _ _ edr3)
  refine ⟨_, rfl, _, _, _, _, rfl, rfl, sq edr5, at_gd (j := 2) rfl (by omega), _, _, rfl, rfl, (by show (0 : Int) < 3; decide), _, _, rfl, rfl, ⟨by decide, by decide⟩, _, _, _, _, rfl, rfl, sq upd_same, hlkv, ?_⟩
  dsimp only [gName]
  have s15 := (s13.trans s4).trans s5
  generalize upd H4 pl _ = H5 at s5 edr5 s15 ⊢
  have hp5 : SqT K H5 pa _ := Same.seqT s15 hp
  have hk5 := s15.seq hk
  have dv5 := dp_mono s15 dv
  refine ⟨_, rfl, _, _, _, _, rfl, rfl, hp5, atI_nat (j := 3) rfl, ka, kxs, rfl, .inl hk5, kxs.length, rfl, ?_, ?_, for_range (lo := 0) (n := kxs.length) (fun i σ' H' => ∃ y5 y7 y8 y9 y10 y11 y12 y13 y14 y15 y16 : Option V, σ' = [some (.ref a), some (.ref pa), some (.str p.data.shown), some (.ref dr), some (.str lkn), y5, some (.str lk), y7, y8, y9, y10, y11, y12, y13, y14, y15, y16] ∧ Same H5 H') ?_ ?_ ?_⟩
  · have := ok.k4
    omega
  · have := ok.k4
    omega
  · exact ⟨_, _, _, _, _, _, _, _, _, _, _, rfl, Same.refl _⟩
  · rintro i σ' H6 hi ⟨y5, y7, y8, y9, y10, y11, y12, y13, y14, y15, y16, rfl, s6⟩
    have i0 : (0 : Int) + (i : Int) = (i : Int) := by omega
    rw [i0]
    have hp6 : SqT K H6 pa _ := Same.seqT s6 hp5
    have hk6 := s6.seq hk5
    have dv6 := dp_mono s6 dv5
    have hlk6 := (s15.trans s6).seq hlk
    have hka6 := dpAll_mono (s15.trans s6) hka
    have hla6 := dpAll_mono (s15.trans s6) hla
    have dsh6 := dp_mono (s15.trans s6) dsh
    have dbe6 := dp_mono (s15.trans s6) dbe
    have edr6 := s6 _ _ edr5
    obtain ⟨x, hxi⟩ : ∃ x, kxs[i]? = some x := ⟨_, List.getElem?_eq_getElem hi⟩
    obtain ⟨kd, hkd⟩ : ∃ kd, p.ks[i]? = some kd := ⟨_, List.getElem?_eq_getElem (by omega)⟩
    have ekm : p.ks.map K4.data = (p.ks.take i).map K4.data ++ (kd.data :: (p.ks.drop (i + 1)).map K4.data) := by
      have z := List.take_append_drop i p.ks
      rw [List.drop_eq_getElem_cons (show i < p.ks.length by omega), (List.getElem?_eq_some_iff.mp hkd).2] at z
      rw [← List.map_cons, ← List.map_append, z]
    rw [ekm] at hka6
    obtain ⟨x1, x2, ex, xl1, dx1, dx2⟩ := dpa_split hka6
    obtain ⟨xk, x3, rfl, dxk, dx3⟩ := dpa_cons dx2
    rw [List.length_map, List.length_take, Nat.min_eq_left (by omega)] at xl1
    obtain rfl : x = xk := by
      rw [ex, List.getElem?_append_right (by omega), xl1, Nat.sub_self] at hxi
      exact (Option.some.inj hxi).symm
    obtain ⟨ut, ux, rfl, hut, hua⟩ := dp_tup (show Dp K H6 x (.tuple [.str kd.nm, cntD4 kd.cnt, .list (kd.locs.map V4.data), .list (datas kd.body)]) from dxk)
    obtain ⟨w1, q1, rfl, g1, hua⟩ := dpa_cons hua
    obtain ⟨w2, q2, rfl, g2, hua⟩ := dpa_cons hua
    obtain ⟨w3, q3, rfl, g3, hua⟩ := dpa_cons hua
    obtain ⟨w4, q4, rfl, g4, hua⟩ := dpa_cons hua
    obtain rfl := dpa_nil hua
    cases g1
    obtain ⟨bo, bx, rfl, hbo, hbx⟩ := dp_lst g4
    have bl : bx.length = kd.body.length := by rw [dpa_len hbx, datas_len]
    dsimp only [gName]
    refine ⟨_, rfl, _, _, _, _, rfl, rfl, hp6, atI_nat (j := 3) rfl, _, rfl, ka, kxs, _, _, rfl, rfl, hk6, atI_nat hxi, ?_⟩
    dsimp only [gName]
    refine ifE (b := decide (V.int ((bx.length : Nat) : Int) = V.int 0)) (fun Q q => ⟨_, rfl, _, _, _, _, rfl, rfl, hut, atI_nat (j := 3) rfl, bo, bx, rfl, .inl hbo, rfl, _, rfl, q⟩) (fun _ => ⟨_, _, _, _, _, _, _, _, _, _, _, rfl, s6⟩) (fun hb => ?_)
    have bpos : 0 < bx.length := by
      rcases Nat.eq_zero_or_pos bx.length with z | z
      · rw [z] at hb
        exact absurd (show true = false from hb) (fun z => nomatch z)
      · exact z
    have d0 := (bdr _ (gd_mem (show 0 < ds.length by omega))).1
    have d1 := (bdr _ (gd_mem (show 1 < ds.length by omega))).1
    obtain ⟨I, eI, hI⟩ : ∃ I : Nat, ds.getD 0 0 % ((bx.length : Nat) : Int) = (I : Int) ∧ I < bx.length := by
      have z1 := Int.emod_lt_of_pos (ds.getD 0 0) (show (0 : Int) < ((bx.length : Nat) : Int) by omega)
      have z2 := Int.emod_nonneg (ds.getD 0 0) (show ((bx.length : Nat) : Int) ≠ 0 by omega)
      exact ⟨(ds.getD 0 0 % ((bx.length : Nat) : Int)).toNat, by omega, by omega⟩
    refine ⟨_, rfl, _, _, _, _, rfl, rfl, sq edr6, at_gd (j := 0) rfl (by omega), _, rfl, _, _, _, _, rfl, rfl, hut, atI_nat (j := 3) rfl, bo, bx, rfl, .inl hbo, _, _, rfl, rfl, (by show (0 : Int) < _; omega), ?_⟩
    dsimp only [gName]
    rw [eI]
    obtain ⟨J, eJ, hIJ, hJ⟩ : ∃ J : Nat, (I : Int) + ds.getD 1 0 % (((bx.length : Nat) : Int) - (I : Int)) = (J : Int) ∧ I ≤ J ∧ J < bx.length := by
      have z1 := Int.emod_lt_of_pos (ds.getD 1 0) (show (0 : Int) < ((bx.length : Nat) : Int) - (I : Int) by omega)
      have z2 := Int.emod_nonneg (ds.getD 1 0) (show ((bx.length : Nat) : Int) - (I : Int) ≠ 0 by omega)
      exact ⟨((I : Int) + ds.getD 1 0 % (((bx.length : Nat) : Int) - (I : Int))).toNat, by omega, by omega, by omega⟩
    refine ⟨_, rfl, _, rfl, _, _, _, _, rfl, rfl, sq edr6, at_gd (j := 1) rfl (by omega), _, rfl, _, _, _, _, rfl, rfl, hut, atI_nat (j := 3) rfl, bo, bx, rfl, .inl hbo, _, rfl, _, _, rfl, rfl, _, _, rfl, rfl, (by show (0 : Int) < _; omega), _, _, rfl, rfl, ?_⟩
    dsimp only [gName]
    rw [eJ]
    have ebm : datas kd.body = datas (kd.body.take I) ++ (datas ((kd.body.drop I).take (J + 1 - I)) ++ datas (kd.body.drop (J + 1))) := by
      have h2 := List.take_append_drop (J + 1 - I) (kd.body.drop I)
      rw [List.drop_drop, show I + (J + 1 - I) = J + 1 by omega] at h2
      rw [← datas_app, ← datas_app, h2, List.take_append_drop]
    rw [ebm] at hbx
    obtain ⟨y1, y23, ey1, yl1, dy1, dy23⟩ := dpa_split hbx
    obtain ⟨y2, y3, ey2, yl2, dy2, dy3⟩ := dpa_split dy23
    rw [datas_len, List.length_take, Nat.min_eq_left (by omega)] at yl1
    rw [datas_len, List.length_take, List.length_drop, Nat.min_eq_left (by omega)] at yl2
    have ebx : bx = y1 ++ (y2 ++ y3) := by rw [ey1, ey2]
    obtain ⟨cm, ch, ct⟩ := cut_mid4 (y1 := y1) (y2 := y2) (y3 := y3) (i := I) (j := J + 1) ebx yl1 yl2 (by omega)
    have ej : (J : Int) + 1 = ((J + 1 : Nat) : Int) := by omega
    rw [← ej] at cm ct
    have bl2 : kd.body.length ≤ 46000 := by
      have z := (k4_parts (m := 12) (ncl_mem (p4_lists (m := 14) ok.nc).2.2.2 (List.mem_map_of_mem (List.mem_of_getElem? hkd)))).2.2.2.len
      rwa [datas_len] at z
    have yl3 : y1.length + (y2.length + y3.length) ≤ 46000 := by
      have z := congrArg List.length ebx
      rw [List.length_append, List.length_append] at z
      omega
    -- the body
    refine ⟨_, rfl, _, _, _, _, rfl, rfl, hut, atI_nat (j := 3) rfl, _, rfl, _, rfl, bo, _, rfl, hbo, fun P1 m1 => ?_⟩
    rw [ch]
    have t1 := same_new (o := HO.lst y1) m1
    have h1 := upd_same (H := H6) (a := P1) (o := HO.lst y1)
    generalize upd H6 P1 _ = G1 at t1 h1 ⊢
    refine ⟨_, rfl, szc 2, fun P2 m2 => ?_⟩
    have t2 := same_new (o := HO.tup [V.str "acquire", .str lk]) m2
    have h2 := upd_same (H := G1) (a := P2) (o := HO.tup [V.str "acquire", .str lk])
    generalize upd G1 P2 _ = G2 at t2 h2 ⊢
    refine ⟨szc 1, fun P3 m3 => ?_⟩
    have t3 := same_new (o := HO.lst [V.ref P2]) m3
    have h3 := upd_same (H := G2) (a := P3) (o := HO.lst [V.ref P2])
    generalize upd G2 P3 _ = G3 at t3 h3 ⊢
    refine ⟨P1, P3, _, _, rfl, rfl, sq (t3 _ _ (t2 _ _ h1)), sq h3, ?_, fun P4 m4 => ?_⟩
    · rw [List.length_singleton]
      exact sz (by omega)
    have t4 := same_new (o := HO.lst (y1 ++ [V.ref P2])) m4
    have h4 := upd_same (H := G3) (a := P4) (o := HO.lst (y1 ++ [V.ref P2]))
    generalize upd G3 P4 _ = G4 at t4 h4 ⊢
    have t14 := t1.trans (t2.trans (t3.trans t4))
    refine ⟨_, rfl, _, _, _, _, rfl, rfl, Same.seqT t14 hut, atI_nat (j := 3) rfl, _, rfl, _, rfl, _, rfl, _, _, rfl, rfl, _, rfl, bo, _, rfl, t14.seq hbo, fun P5 m5 => ?_⟩
    rw [cm]
    have t5 := same_new (o := HO.lst y2) m5
    have h5 := upd_same (H := G4) (a := P5) (o := HO.lst y2)
    generalize upd G4 P5 _ = G5 at t5 h5 ⊢
    refine ⟨P4, P5, _, _, rfl, rfl, sq (t5 _ _ h4), sq h5, ?_, fun P6 m6 => ?_⟩
    · rw [List.length_append, List.length_singleton]
      exact sz (by omega)
    have t6 := same_new (o := HO.lst ((y1 ++ [V.ref P2]) ++ y2)) m6
    have h6 := upd_same (H := G5) (a := P6) (o := HO.lst ((y1 ++ [V.ref P2]) ++ y2))
    generalize upd G5 P6 _ = G6 at t6 h6 ⊢
    refine ⟨_, rfl, szc 2, fun P7 m7 => ?_⟩
    have t7 := same_new (o := HO.tup [V.str "release", .str lk]) m7
    have h7 := upd_same (H := G6) (a := P7) (o := HO.tup [V.str "release", .str lk])
    generalize upd G6 P7 _ = G7 at t7 h7 ⊢
    refine ⟨szc 1, fun P8 m8 => ?_⟩
    have t8 := same_new (o := HO.lst [V.ref P7]) m8
    have h8 := upd_same (H := G7) (a := P8) (o := HO.lst [V.ref P7])
    generalize upd G7 P8 _ = G8 at t8 h8 ⊢
    refine ⟨P6, P8, _, _, rfl, rfl, sq (t8 _ _ (t7 _ _ h6)), sq h8, ?_, fun P9 m9 => ?_⟩
    · rw [List.length_append, List.length_append, List.length_singleton, List.length_singleton]
      exact sz (by omega)
    have t9 := same_new (o := HO.lst (((y1 ++ [V.ref P2]) ++ y2) ++ [V.ref P7])) m9
    have h9 := upd_same (H := G8) (a := P9) (o := HO.lst (((y1 ++ [V.ref P2]) ++ y2) ++ [V.ref P7]))
    generalize upd G8 P9 _ = G9 at t9 h9 ⊢
    have t19 := t14.trans (t5.trans (t6.trans (t7.trans (t8.trans t9))))
    refine ⟨_, rfl, _, _, _, _, rfl, rfl, Same.seqT t19 hut, atI_nat (j := 3) rfl, _, rfl, _, _, rfl, rfl, _, rfl, bo, _, rfl, t19.seq hbo, fun P10 m10 => ?_⟩
    rw [ct]
    have t10 := same_new (o := HO.lst y3) m10
    have h10 := upd_same (H := G9) (a := P10) (o := HO.lst y3)
    generalize upd G9 P10 _ = G10 at t10 h10 ⊢
    refine ⟨P9, P10, _, _, rfl, rfl, sq (t10 _ _ h9), sq h10, ?_, fun P11 m11 => ?_⟩
    · simp only [List.length_append, List.length_singleton]
      exact sz (by omega)
    have t11 := same_new (o := HO.lst ((((y1 ++ [V.ref P2]) ++ y2) ++ [V.ref P7]) ++ y3)) m11
    have h11 := upd_same (H := G10) (a := P11) (o := HO.lst ((((y1 ++ [V.ref P2]) ++ y2) ++ [V.ref P7]) ++ y3))
    generalize upd G10 P11 _ = G11 at t11 h11 ⊢
    have tb := t19.trans (t10.trans t11)
    have dbody : Dp K G11 (.ref P11) (.list (datas (kd.body.take I ++ ([.acq lk] ++ (kd.body.drop I).take (J + 1 - I) ++ [.rel lk]) ++ kd.body.drop (J + 1)))) := by
      have b2 : Dp K G11 (.ref P2) (ST.data (.acq lk)) := .tup (st ((t3.trans (t4.trans (t5.trans (t6.trans (t7.trans (t8.trans (t9.trans (t10.trans t11)))))))) _ _ h2)) (.cons (.str _) (.cons (.str _) .nil))
      have b7 : Dp K G11 (.ref P7) (ST.data (.rel lk)) := .tup (st ((t8.trans (t9.trans (t10.trans t11))) _ _ h7)) (.cons (.str _) (.cons (.str _) .nil))
      refine .lst (sq h11) ?_
      have ed : datas (kd.body.take I ++ ([.acq lk] ++ (kd.body.drop I).take (J + 1 - I) ++ [.rel lk]) ++ kd.body.drop (J + 1)) = (((datas (kd.body.take I) ++ [ST.data (.acq lk)]) ++ datas ((kd.body.drop I).take (J + 1 - I))) ++ [ST.data (.rel lk)]) ++ datas (kd.body.drop (J + 1)) := by
        simp only [datas_map, List.map_append, List.map_cons, List.map_nil, List.append_assoc]
      rw [ed]
      exact dpa_app (dpa_app (dpa_app (dpa_app (dpAll_mono tb dy1) (.cons b2 .nil)) (dpAll_mono tb dy2)) (.cons b7 .nil)) (dpAll_mono tb dy3)
    clear h1 h2 h3 h4 h5 h6 h7 h8 h9 h10 t1 t2 t3 t4 t5 t6 t7 t8 t9 t10 t14 t19 m1 m2 m3 m4 m5 m6 m7 m8 m9 m10 m11
    dsimp only [gName]
    -- the kinds
    obtain ⟨-, cx1, cx3⟩ := cut_mid4 (y1 := x1) (y2 := [V.ref ut]) (y3 := x3) (i := i) (j := i + 1) ex xl1 (by rw [List.length_singleton]; omega) (by omega)
    rw [show ((i + 1 : Nat) : Int) = (i : Int) + 1 by omega] at cx3
    have kl4 : x1.length + (x3.length + 1) ≤ 4 := by
      have z := congrArg List.length ex
      rw [List.length_append, List.length_cons] at z
      have := ok.k4
      omega
    refine ⟨_, rfl, _, _, _, _, rfl, rfl, Same.seqT tb hp6, atI_nat (j := 3) rfl, _, rfl, _, rfl, ka, _, rfl, tb.seq hk6, fun P12 m12 => ?_⟩
    rw [cx1]
    have t12 := same_new (o := HO.lst x1) m12
    have h12 := upd_same (H := G11) (a := P12) (o := HO.lst x1)
    generalize upd G11 P12 _ = G12 at t12 h12 ⊢
    have hut12 := Same.seqT (tb.trans t12) hut
    refine ⟨_, rfl, _, _, _, _, rfl, rfl, hut12, atI_nat (j := 0) rfl, _, rfl, _, _, _, _, rfl, rfl, hut12, atI_nat (j := 1) rfl, _, rfl, _, _, _, _, rfl, rfl, hut12, atI_nat (j := 2) rfl, _, rfl, szc 4, fun P13 m13 => ?_⟩
    have t13 := same_new (o := HO.tup [V.str kd.nm, w2, w3, V.ref P11]) m13
    have h13 := upd_same (H := G12) (a := P13) (o := HO.tup [V.str kd.nm, w2, w3, V.ref P11])
    generalize upd G12 P13 _ = G13 at t13 h13 ⊢
    refine ⟨szc 1, fun P14 m14 => ?_⟩
    have t14 := same_new (o := HO.lst [V.ref P13]) m14
    have h14 := upd_same (H := G13) (a := P14) (o := HO.lst [V.ref P13])
    generalize upd G13 P14 _ = G14 at t14 h14 ⊢
    refine ⟨P12, P14, _, _, rfl, rfl, sq (t14 _ _ (t13 _ _ h12)), sq h14, ?_, fun P15 m15 => ?_⟩
    · rw [List.length_singleton]
      exact sz (by omega)
    have t15 := same_new (o := HO.lst (x1 ++ [V.ref P13])) m15
    have h15 := upd_same (H := G14) (a := P15) (o := HO.lst (x1 ++ [V.ref P13]))
    generalize upd G14 P15 _ = G15 at t15 h15 ⊢
    have tc := tb.trans (t12.trans (t13.trans (t14.trans t15)))
    refine ⟨_, rfl, _, _, _, _, rfl, rfl, Same.seqT tc hp6, atI_nat (j := 3) rfl, _, rfl, _, _, rfl, rfl, _, rfl, ka, _, rfl, tc.seq hk6, fun P16 m16 => ?_⟩
    rw [cx3]
    have t16 := same_new (o := HO.lst x3) m16
    have h16 := upd_same (H := G15) (a := P16) (o := HO.lst x3)
    generalize upd G15 P16 _ = G16 at t16 h16 ⊢
    refine ⟨P15, P16, _, _, rfl, rfl, sq (t16 _ _ h15), sq h16, ?_, fun P17 m17 => ?_⟩
    · rw [List.length_append, List.length_singleton]
      exact sz (by omega)
    have t17 := same_new (o := HO.lst ((x1 ++ [V.ref P13]) ++ x3)) m17
    have h17 := upd_same (H := G16) (a := P17) (o := HO.lst ((x1 ++ [V.ref P13]) ++ x3))
    generalize upd G16 P17 _ = G17 at t17 h17 ⊢
    have td := tc.trans (t16.trans t17)
    dsimp only [gName]
    -- what is due
    refine ⟨_, rfl, _, _, _, _, rfl, rfl, Same.seqT td hp6, atI_nat (j := 0) rfl, _, rfl, _, _, _, _, rfl, rfl, Same.seqT td hp6, atI_nat (j := 1) rfl, _, rfl, szc 1, fun P18 m18 => ?_⟩
    have t18 := same_new (o := HO.lst [V.str lk]) m18
    have h18 := upd_same (H := G17) (a := P18) (o := HO.lst [V.str lk])
    generalize upd G17 P18 _ = G18 at t18 h18 ⊢
    have lkl : lxs.length ≤ 46000 := by
      rw [dpa_len hla]
      exact (p4_lists (m := 14) ok.nc).2.1.len
    refine ⟨la, P18, _, _, rfl, rfl, (td.trans t18).seq hlk6, sq h18, ?_, fun P19 m19 => ?_⟩
    · rw [List.length_singleton]
      exact sz (by omega)
    have t19 := same_new (o := HO.lst (lxs ++ [V.str lk])) m19
    have h19 := upd_same (H := G18) (a := P19) (o := HO.lst (lxs ++ [V.str lk]))
    generalize upd G18 P19 _ = G19 at t19 h19 ⊢
    have te := td.trans (t18.trans t19)
    refine ⟨_, rfl, _, _, _, _, rfl, rfl, Same.seqT te hp6, atI_nat (j := 2) rfl, _, rfl, szc 4, fun P20 m20 => ?_⟩
    have t20 := same_new (o := HO.tup [v1, V.ref P19, v3, V.ref P17]) m20
    have h20 := upd_same (H := G19) (a := P20) (o := HO.tup [v1, V.ref P19, v3, V.ref P17])
    generalize upd G19 P20 _ = G20 at t20 h20 ⊢
    have tf := te.trans t20
    have ddue : Dp K G20 (.ref P20) (p.enc i I J lk).data := by
      show Dp K G20 (.ref P20) (.tuple [.list (p.sh.map V4.data), .list ((p.lk ++ [lk]).map PyData.str), .list (p.be.map PyData.str), .list ((p.enc i I J lk).ks.map K4.data)])
      have em : (p.enc i I J lk).ks.map K4.data = ((p.ks.take i).map K4.data ++ [PyData.tuple [.str kd.nm, cntD4 kd.cnt, .list (kd.locs.map V4.data), .list (datas (kd.body.take I ++ ([.acq lk] ++ (kd.body.drop I).take (J + 1 - I) ++ [.rel lk]) ++ kd.body.drop (J + 1)))]]) ++ (p.ks.drop (i + 1)).map K4.data := by
        show (p.ks.modify i _).map K4.data = _
        rw [List.modify_eq_take_cons_drop (show i < p.ks.length by omega), (List.getElem?_eq_some_iff.mp hkd).2, List.map_append, List.map_cons]
        exact (List.append_assoc _ [_] _).symm
      rw [em, List.map_append]
      have dk13 : Dp K G20 (.ref P13) (.tuple [.str kd.nm, cntD4 kd.cnt, .list (kd.locs.map V4.data), .list (datas (kd.body.take I ++ ([.acq lk] ++ (kd.body.drop I).take (J + 1 - I) ++ [.rel lk]) ++ kd.body.drop (J + 1)))]) := by
        have z := (t14.trans (t15.trans (t16.trans (t17.trans (t18.trans (t19.trans t20))))))
        exact .tup (st (z _ _ h13)) (.cons (.str _) (.cons (dp_mono tf g2) (.cons (dp_mono tf g3) (.cons (dp_mono (t12.trans (t13.trans z)) dbody) .nil))))
      refine .tup (st h20) (.cons (dp_mono tf dsh6) (.cons (.lst (sq (t20 _ _ h19)) (dpa_app (dpAll_mono tf hla6) (.cons (.str _) .nil))) (.cons (dp_mono tf dbe6) (.cons (.lst (sq ((t18.trans (t19.trans t20)) _ _ h17)) (dpa_app (dpa_app (dpAll_mono tf dx1) (.cons dk13 .nil)) (dpAll_mono tf dx3))) .nil))))
    clear h11 h12 h13 h14 h15 h16 h17 h18 h19 h20 t11 t12 t13 t14 t15 t16 t17 t18 t19 t20 m12 m13 m14 m15 m16 m17 m18 m19 m20 dbody tb tc td te hut12
    dsimp only [gName]
    have enc := enc_nc (i := I) (j := J) ok.nc nlk2 hkd hIJ (by omega)
    have eshw := enc.shw9 (by decide) (by decide)
    have ikl : i < p.ks.length := by omega
    have hjl : ∀ t, p.ks[i]? = some t → J < t.body.length := fun t ht => by
      rw [hkd] at ht
      rw [← Option.some.inj ht]
      omega
    refine ⟨_, rfl, _, rfl, _, rfl, _, rfl, _, rfl, .ref pa, p, i, I, J, lk, rfl, dp_mono tf dv6, ok.nc, ikl, hIJ, hjl, fun HT vt st1 own => ?_⟩
    dsimp only [gName]
    obtain ⟨tt, tx, rfl, Rtt, ett, olt⟩ := (show Own K HT (.tuple [.list (p.sh.map V4.data), .list ((p.lk ++ [lk]).map PyData.str), .list (p.be.map PyData.str), .list ((p.enc i I J lk).ks.map K4.data)]) vt (New G20 HT) from own).inv
    have dtold := own.dp
    have shp := enc.shaped (by decide)
    have eqv := enc.eqv
    refine orF9 ?t1 (orF9 ?t2 (orF9 ?t3 ?_))
    case t1 => exact ans_not (ansIsi (T := "tuple") (b := true) (fun Q q => ⟨_, rfl, q⟩) (.base (.tup ett)) (by decide +kernel))
    case t2 => exact fun Q q => ⟨_, rfl, _, rfl, _, _, dtold, dp_mono st1 ddue, shp, shp, _, rfl, by rw [nvF9 eqv]; exact q⟩
    case t3 => exact fun Q q => ⟨_, rfl, tt, _, rfl, dtold, eshw.sh, eshw.nd, eshw.de, eshw.ln, _, rfl, P20, _, rfl, dp_mono st1 ddue, eshw.sh, eshw.nd, eshw.de, eshw.ln, rfl, _, rfl, by rw [neF9]; exact q⟩
    refine ⟨_, rfl, pa, _, rfl, dp_mono (tf.trans st1) dv6, pshw.sh, pshw.nd, pshw.de, pshw.ln, _, rfl, rfl, _, rfl, ?_⟩
    rw [neF9]
    refine iteF ?_
    -- again
    refine ⟨_, rfl, _, rfl, _, rfl, _, rfl, _, rfl, .ref pa, p, i, I, J, lk, rfl, dp_mono (tf.trans st1) dv6, ok.nc, ikl, hIJ, hjl, fun HA va st2 own2 => ?_⟩
    dsimp only [gName]
    obtain ⟨va1, tr1, Ra, Rr1, rfl, a1', a2', a3', oa, ol1⟩ := olt.un
    obtain ⟨vb1, tr2, Rb, Rr2, rfl, b1', b2', b3', ob, ol2⟩ := ol1.un
    obtain ⟨vc1, tr3, Rc, Rr3, rfl, c1', c2', c3', oc, ol3⟩ := ol2.un
    obtain ⟨vd1, tr4, Rd, Rr4, rfl, d1', d2', d3', od, ol4⟩ := ol3.un
    cases ol4
    obtain ⟨sa, sx, rfl, Rsa, esa, osx⟩ := oa.inv
    obtain ⟨lb, lx, rfl, Rlb, elb, olx⟩ := ob.inv
    obtain ⟨bb, bbx, rfl, Rbb, ebb, obx⟩ := oc.inv
    obtain ⟨kb, kx, rfl, Rkb, ekb, okx⟩ := od.inv
    obtain ⟨nc1, nc2, nc3, nc4⟩ := p4_lists (m := 14) enc
    have sxl : sx.length ≤ 46010 := by rw [dpa_len osx.dp]; exact nc1.len
    have lxl : lx.length ≤ 46010 := by rw [dpa_len olx.dp]; exact nc2.len
    have bxl : bbx.length ≤ 46010 := by rw [dpa_len obx.dp]; exact nc3.len
    have kxl : kx.length ≤ 46010 := by rw [dpa_len okx.dp]; exact nc4.len
    have wA : ∀ b, Ra b → New G20 HT b ∧ b ≠ tt := a1'
    have wB : ∀ b, Rb b → New G20 HT b ∧ b ≠ tt := fun b h => a2' b (b1' b h)
    have wC : ∀ b, Rc b → New G20 HT b ∧ b ≠ tt := fun b h => a2' b (b2' b (c1' b h))
    have wD : ∀ b, Rd b → New G20 HT b ∧ b ≠ tt := fun b h => a2' b (b2' b (c2' b (d1' b h)))
    have ettA := st2 _ _ ett
    refine ⟨_, rfl, _, _, _, _, rfl, rfl, st ettA, atI_nat (j := 0) rfl, _, rfl, _, _, _, _, rfl, rfl, st ettA, atI_nat (j := 1) rfl, _, rfl, _, _, _, _, rfl, rfl, st ettA, atI_nat (j := 2) rfl, szc 3, fun P21 m21 => ?_⟩
    have t21 := same_new (o := HO.lst [V.ref sa, .ref lb, .ref bb]) m21
    have h21 := upd_same (H := HA) (a := P21) (o := HO.lst [V.ref sa, .ref lb, .ref bb])
    have f21 : HT P21 = none := st2.free m21
    generalize upd HA P21 _ = HB at t21 h21 ⊢
    have stB := st2.trans t21
    let R3 : Addr → Prop := fun b => b = sa ∨ b = lb ∨ b = bb
    have wR3 : ∀ b, R3 b → New G20 HT b ∧ b ≠ tt := by
      rintro b (rfl | rfl | rfl)
      · exact wA _ Rsa
      · exact wB _ Rlb
      · exact wC _ Rbb
    have dR3 : ∀ b, Rd b → ¬ R3 b := by
      rintro b h (rfl | rfl | rfl)
      · exact a3' _ Rsa (b2' _ (c2' _ (d1' _ h)))
      · exact b3' _ Rlb (c2' _ (d1' _ h))
      · exact c3' _ Rbb (d1' _ h)
    refine ⟨P21, rfl, ⟨_, sq h21⟩, for_list (xs := [V.ref sa, .ref lb, .ref bb]) (fun j σ' H' => ∃ y15 y16 : Option V, σ' = [some (.ref a), some (.ref pa), some (.str p.data.shown), some (.ref dr), some (.str lkn), some (.ref ut), some (.str lk), some (.int (i : Int)), some (.int (I : Int)), some (.int (J : Int)), some (.ref P11), some (.ref P17), some (.ref P20), some (.ref tt), some va, y15, y16] ∧ Out R3 HB H' ∧ ∀ c, R3 c → ∃ ys, H' c = some (.lst ys) ∧ ys.length ≤ 46010 + j) ⟨_, _, rfl, Out.refl _, ?_⟩ ?_ ?_ ?_⟩
    · rintro c (rfl | rfl | rfl)
      · exact ⟨_, stB _ _ esa, by omega⟩
      · exact ⟨_, stB _ _ elb, by omega⟩
      · exact ⟨_, stB _ _ ebb, by omega⟩
    · rintro j σ' H' _ ⟨y15, y16, rfl, out, _⟩
      exact sq (out.1 _ _ (fun h => (wR3 _ h).1.2 f21) h21)
    · rintro j u σ' H' hu ⟨y15, y16, rfl, out, al⟩
      obtain ⟨c, rfl, hc⟩ : ∃ c, u = .ref c ∧ R3 c := by
        match j, hu with
        | 0, hu => exact ⟨_, (Option.some.inj hu).symm, .inl rfl⟩
        | 1, hu => exact ⟨_, (Option.some.inj hu).symm, .inr (.inl rfl)⟩
        | 2, hu => exact ⟨_, (Option.some.inj hu).symm, .inr (.inr rfl)⟩
      obtain ⟨ys, ec, yl⟩ := al c hc
      have jl : j < 3 := (List.getElem?_eq_some_iff.mp hu).1
      dsimp only [gName]
      refine ⟨_, rfl, .inl ⟨rfl, _, sq ec⟩, c, _, _, rfl, rfl, ec, szl (show ys.length < 100000 by omega), ⟨_, _, rfl, out.mut hc, fun c' h' => ?_⟩⟩
      by_cases e : c' = c
      · rw [e, upd_same]
        exact ⟨_, rfl, by rw [List.length_append, List.length_singleton]; omega⟩
      · rw [upd_ne e]
        obtain ⟨ys', e', l'⟩ := al c' h'
        exact ⟨ys', e', by omega⟩
    rintro σ' HC ⟨y15, y16, rfl, outC, -⟩
    have ettC := outC.1 _ _ (fun h => (wR3 _ h).2 rfl) (t21 _ _ ettA)
    have ekbC := outC.1 _ _ (dR3 _ Rkb) (stB _ _ ekb)
    have okxC : OwnL K HC (fun b => Rd b ∧ b ≠ kb) ((p.enc i I J lk).ks.map K4.data) kx := (okx.at' fun b u _ e => stB b u e).out outC fun b h => dR3 b h.1
    have domC : ∀ b, Rd b → HC b ≠ none := fun b h => outC.2 b (fun z => (wD b h).1.2 (stB.free z))
    have kx2 : kx.length = (p.enc i I J lk).ks.length := by rw [dpa_len okx.dp, List.length_map]
    dsimp only [gName]
    refine ⟨_, rfl, _, _, _, _, rfl, rfl, st ettC, atI_nat (j := 3) rfl, kb, rfl, ⟨_, sq ekbC⟩, for_list (xs := kx) (fun j σ' H' => ∃ (y16 : Option V) (Ri : Addr → Prop), σ' = [some (.ref a), some (.ref pa), some (.str p.data.shown), some (.ref dr), some (.str lkn), some (.ref ut), some (.str lk), some (.int (i : Int)), some (.int (I : Int)), some (.int (J : Int)), some (.ref P11), some (.ref P17), some (.ref P20), some (.ref tt), some va, y15, y16] ∧ Out (fun b => Rd b ∧ b ≠ kb) HC H' ∧ (∀ b, Ri b → Rd b ∧ b ≠ kb) ∧ OwnL K H' Ri (((p.enc i I J lk).ks.drop j).map K4.data) (kx.drop j)) ⟨_, _, rfl, Out.refl _, fun b h => h, okxC⟩ ?_ ?_ ?_⟩
    · rintro j σ' H' _ ⟨y16, Ri, rfl, out, _⟩
      exact sq (out.1 _ _ (fun h => h.2 rfl) ekbC)
    · rintro j u σ' H' hu ⟨y16, Ri, rfl, out, rs, oi⟩
      have jl := (List.getElem?_eq_some_iff.mp hu).1
      obtain ⟨t, ht⟩ : ∃ t, (p.enc i I J lk).ks[j]? = some t := ⟨_, List.getElem?_eq_getElem (by omega)⟩
      have e1 : kx.drop j = u :: kx.drop (j + 1) := by rw [List.drop_eq_getElem_cons jl, (List.getElem?_eq_some_iff.mp hu).2]
      have e2 : (p.enc i I J lk).ks.drop j = t :: (p.enc i I J lk).ks.drop (j + 1) := by rw [List.drop_eq_getElem_cons (show j < (p.enc i I J lk).ks.length by omega), (List.getElem?_eq_some_iff.mp ht).2]
      rw [e1, e2, List.map_cons] at oi
      obtain ⟨u', r', Q1, Q2, ee, h1, h2, h12, o1, o2⟩ := OwnL.un oi
      obtain ⟨rfl, rfl⟩ := List.cons.inj ee
      have tnc := k4_parts (m := 12) (ncl_mem nc4 (List.mem_map_of_mem (List.mem_of_getElem? ht)))
      obtain ⟨ua, uxs, rfl, Rua, eua, oua⟩ := (show Own K H' (.tuple [.str t.nm, cntD4 t.cnt, .list (t.locs.map V4.data), .list (datas t.body)]) u Q1 from o1).inv
      obtain ⟨z1, r1', S1, T1, rfl, p1, p2, p3, oz1, ot1⟩ := oua.un
      obtain ⟨z2, r2', S2, T2, rfl, p4, p5, p6, oz2, ot2⟩ := ot1.un
      obtain ⟨z3, r3', S3, T3, rfl, p7, p8, p9, oz3, ot3⟩ := ot2.un
      obtain ⟨z4, r4', S4, T4, rfl, p10, p11, p12, oz4, ot4⟩ := ot3.un
      cases ot4
      obtain ⟨lv, lvs, rfl, Rlv, elv, olv⟩ := oz3.inv
      have lvl : lvs.length ≤ 46010 := by rw [dpa_len olv.dp]; exact tnc.2.2.1.len
      have inQ3 : ∀ b, S3 b → Q1 b ∧ b ≠ ua := fun b h => p2 b (p5 b (p7 b h))
      have inQ4 : ∀ b, S4 b → Q1 b ∧ b ≠ ua := fun b h => p2 b (p5 b (p8 b (p10 b h)))
      have d34 : ∀ b, S4 b → ¬ S3 b := fun b h g => p9 b g (p10 b h)
      dsimp only [gName]
      refine ⟨_, rfl, _, _, _, _, rfl, rfl, st eua, atI_nat (j := 2) rfl, .inl ⟨rfl, _, sq elv⟩, szc 4, fun P22 m22 => ?_⟩
      have t22 := same_new (o := HO.tup [V.str "zz", .int 0, .int 0, .int 0]) m22
      refine ⟨lv, _, _, rfl, rfl, t22 _ _ elv, szl (show lvs.length < 100000 by omega), ?_⟩
      have oX : Out S3 H' _ := (Same.out t22).mut (u := HO.lst (lvs ++ [V.ref P22])) Rlv
      have euaX := oX.1 _ _ (fun h => (inQ3 _ h).2 rfl) eua
      have oz4X := oz4.out oX d34
      have domX : ∀ b, S4 b → (upd (upd H' P22 (HO.tup [V.str "zz", .int 0, .int 0, .int 0])) lv (HO.lst (lvs ++ [V.ref P22]))) b ≠ none := fun b h => oX.2 b (out.2 b (domC b (rs b (h1 b (inQ4 b h).1)).1))
      generalize upd (upd H' P22 _) lv _ = HX at oX euaX oz4X domX ⊢
      refine ⟨_, rfl, _, _, _, _, rfl, rfl, st euaX, atI_nat (j := 3) rfl, z4, t.body, S4, 46010, 12, rfl, oz4X, domX, tnc.2.2.2, by decide, by decide, fun HY oY => ?_⟩
      have oXY : Out Q1 H' HY := (oX.up fun b h => (inQ3 b h).1).trans (oY.up fun b h => (inQ4 b h).1)
      exact ⟨_, Q2, rfl, out.trans (oXY.up fun b h => rs b (h1 b h)), fun b h => rs b (h2 b h), o2.out oXY fun b x y => h12 b y x⟩
    rintro σ' HD ⟨y16, Ri, rfl, outD, -⟩
    have ettD := outD.1 _ _ (fun h => (wD _ h.1).2 rfl) ettC
    have ekbD := outD.1 _ _ (fun h => h.2 rfl) ekbC
    have kpos : 0 < kx.length := by
      rw [kx2]
      show 0 < (p.ks.modify i _).length
      rw [List.length_modify]
      omega
    obtain ⟨x0, hx0⟩ : ∃ x0, kx[0]? = some x0 := ⟨_, List.getElem?_eq_getElem kpos⟩
    refine ⟨_, rfl, _, _, _, _, rfl, rfl, st ettD, atI_nat (j := 3) rfl, .inl ⟨rfl, _, sq ekbD⟩, _, rfl, _, _, _, _, rfl, rfl, st ettD, atI_nat (j := 3) rfl, kb, kx, 0, _, rfl, rfl, sq ekbD, atI_nat (j := 0) hx0, kb, _, _, rfl, rfl, ekbD, szl (show kx.length < 100000 by omega), ?_⟩
    have oE : Out (New G20 HT) HA (upd HD kb (.lst (kx ++ [x0]))) := (((Same.out t21).trans (outC.up fun b h => (wR3 b h).1)).trans (outD.up fun b h => (wD b h.1).1)).mut (wD _ Rkb).1
    generalize upd HD kb _ = HE at oE ⊢
    have sGE : Same G20 HE := fun b u h => oE.1 b u (fun z => by rw [z.1] at h; cases h) (st2 _ _ (st1 _ _ h))
    have dag := (own2.out oE fun b h z => z.2 h.1).dp
    have s6E := tf.trans sGE
    dsimp only
    refine orF9s ?u1 (orF9s ?u2 ?_)
    case u1 => exact fun Q q => ⟨_, rfl, _, rfl, _, _, dag, dp_mono sGE ddue, shp, shp, _, rfl, by rw [nvF9 eqv]; exact q⟩
    case u2 => exact fun Q q => ⟨_, rfl, pa, _, rfl, dp_mono s6E dv6, pshw.sh, pshw.nd, pshw.de, pshw.ln, _, rfl, rfl, _, rfl, by rw [neF9]; exact q⟩
    refine ⟨_, rfl, _, rfl, _, rfl, _, rfl, _, rfl, .ref pa, p, i, I, J, lk, rfl, dp_mono s6E dv6, ok.nc, ikl, hIJ, hjl, fun HF vf st3 own3 => ?_⟩
    refine ⟨_, rfl, _, _, own3.dp, dp_mono (sGE.trans st3) ddue, shp, shp, _, rfl, ?_⟩
    rw [nvF9 eqv]
    exact iteF ⟨_, _, _, _, _, _, _, _, _, _, _, rfl, s6.trans (s6E.trans st3)⟩
  · rintro σ' H' ⟨y5, y7, y8, y9, y10, y11, y12, y13, y14, y15, y16, rfl, _⟩
    exact q _
end
theorem all_mk {l : PySem.W.OpenLaw} {w : World} {K : PySem.W.Frag} {h : Heap} {mg : Str → Option Value} {fa f1 f2 f3 f4 f5 f6 f7 f8 f9 f10 f11 f12 f13 f14 f15 f16 f17 : Addr} (X : K.In h) (G : h.Ns mainGlobals mg) (hfa : mg "law" = some (.ref fa))
    {od1 an1 od2 an2 od3 an3 od4 an4 od5 an5 od6 an6 od7 an7 od8 an8 od9 an9 od10 an10 od11 an11 od12 an12 od13 an13 od14 an14 od15 an15 od16 an16 od17 an17 : Option Addr} {sl1 sl2 sl3 sl4 sl5 sl6 sl7 sl8 sl9 sl10 sl11 sl12 sl13 sl14 sl15 sl16 sl17 : Array (Option Value)} {oc1 kV1 dc1 pm1 cd1 ct1 oc2 kV2 dc2 pm2 cd2 ct2 oc3 kV3 dc3 pm3 cd3 ct3 oc4 kV4 dc4 pm4 cd4 ct4 oc5 kV5 dc5 pm5 cd5 ct5 oc6 kV6 dc6 pm6 cd6 ct6 oc7 kV7 dc7 pm7 cd7 ct7 oc8 kV8 dc8 pm8 cd8 ct8 oc9 kV9 dc9 pm9 cd9 ct9 oc10 kV10 dc10 pm10 cd10 ct10 oc11 kV11 dc11 pm11 cd11 ct11 oc12 kV12 dc12 pm12 cd12 ct12 oc13 kV13 dc13 pm13 cd13 ct13 oc14 kV14 dc14 pm14 cd14 ct14 oc15 kV15 dc15 pm15 cd15 ct15 oc16 kV16 dc16 pm16 cd16 ct16 oc17 kV17 dc17 pm17 cd17 ct17 : Value}
    (a1 : PySem.W.nsIn K mainGlobals "fresh_copy" = some (some (.ref f1))) (l1 : K.lookup f1 = some ⟨oc1, od1, .func (PySem.W.fnOf "fresh_copy" "fresh_copy" (defArgs s_fresh_copy) (defBody s_fresh_copy) (defScope s_fresh_copy) .none kV1 dc1 pm1 an1 cd1 ct1), sl1⟩) (c1 : PySem.W.codeIn K cd1 "fresh_copy" = true) (k1 : PySem.W.keepIn K (.ref f1) = true)
    (a2 : PySem.W.nsIn K mainGlobals "enclosed" = some (some (.ref f2))) (l2 : K.lookup f2 = some ⟨oc2, od2, .func (PySem.W.fnOf "enclosed" "enclosed" (defArgs s_enclosed) (defBody s_enclosed) (defScope s_enclosed) .none kV2 dc2 pm2 an2 cd2 ct2), sl2⟩) (c2 : PySem.W.codeIn K cd2 "enclosed" = true) (k2 : PySem.W.keepIn K (.ref f2) = true)
    (a3 : PySem.W.nsIn K mainGlobals "_law_cell" = some (some (.ref f3))) (l3 : K.lookup f3 = some ⟨oc3, od3, .func (PySem.W.fnOf "_law_cell" "_law_cell" (defArgs s_law_cell) (defBody s_law_cell) (defScope s_law_cell) .none kV3 dc3 pm3 an3 cd3 ct3), sl3⟩) (c3 : PySem.W.codeIn K cd3 "_law_cell" = true) (k3 : PySem.W.keepIn K (.ref f3) = true)
    (a4 : PySem.W.nsIn K mainGlobals "_law_digits" = some (some (.ref f4))) (l4 : K.lookup f4 = some ⟨oc4, od4, .func (PySem.W.fnOf "_law_digits" "_law_digits" (defArgs s_law_digits) (defBody s_law_digits) (defScope s_law_digits) .none kV4 dc4 pm4 an4 cd4 ct4), sl4⟩) (c4 : PySem.W.codeIn K cd4 "_law_digits" = true) (k4 : PySem.W.keepIn K (.ref f4) = true)
    (a5 : PySem.W.nsIn K mainGlobals "_law_take" = some (some (.ref f5))) (l5 : K.lookup f5 = some ⟨oc5, od5, .func (PySem.W.fnOf "_law_take" "_law_take" (defArgs s_law_take) (defBody s_law_take) (defScope s_law_take) .none kV5 dc5 pm5 an5 cd5 ct5), sl5⟩) (c5 : PySem.W.codeIn K cd5 "_law_take" = true) (k5 : PySem.W.keepIn K (.ref f5) = true)
    (a6 : PySem.W.nsIn K mainGlobals "_law_value" = some (some (.ref f6))) (l6 : K.lookup f6 = some ⟨oc6, od6, .func (PySem.W.fnOf "_law_value" "_law_value" (defArgs s_law_value) (defBody s_law_value) (defScope s_law_value) .none kV6 dc6 pm6 an6 cd6 ct6), sl6⟩) (c6 : PySem.W.codeIn K cd6 "_law_value" = true) (k6 : PySem.W.keepIn K (.ref f6) = true)
    (a7 : PySem.W.nsIn K mainGlobals "_law_condition" = some (some (.ref f7))) (l7 : K.lookup f7 = some ⟨oc7, od7, .func (PySem.W.fnOf "_law_condition" "_law_condition" (defArgs s_law_condition) (defBody s_law_condition) (defScope s_law_condition) .none kV7 dc7 pm7 an7 cd7 ct7), sl7⟩) (c7 : PySem.W.codeIn K cd7 "_law_condition" = true) (k7 : PySem.W.keepIn K (.ref f7) = true)
    (a8 : PySem.W.nsIn K mainGlobals "_law_simple" = some (some (.ref f8))) (l8 : K.lookup f8 = some ⟨oc8, od8, .func (PySem.W.fnOf "_law_simple" "_law_simple" (defArgs s_law_simple) (defBody s_law_simple) (defScope s_law_simple) .none kV8 dc8 pm8 an8 cd8 ct8), sl8⟩) (c8 : PySem.W.codeIn K cd8 "_law_simple" = true) (k8 : PySem.W.keepIn K (.ref f8) = true)
    (a9 : PySem.W.nsIn K mainGlobals "_law_body" = some (some (.ref f9))) (l9 : K.lookup f9 = some ⟨oc9, od9, .func (PySem.W.fnOf "_law_body" "_law_body" (defArgs s_law_body) (defBody s_law_body) (defScope s_law_body) .none kV9 dc9 pm9 an9 cd9 ct9), sl9⟩) (c9 : PySem.W.codeIn K cd9 "_law_body" = true) (k9 : PySem.W.keepIn K (.ref f9) = true)
    (a10 : PySem.W.nsIn K mainGlobals "_law_size" = some (some (.ref f10))) (l10 : K.lookup f10 = some ⟨oc10, od10, .func (PySem.W.fnOf "_law_size" "_law_size" (defArgs s_law_size) (defBody s_law_size) (defScope s_law_size) .none kV10 dc10 pm10 an10 cd10 ct10), sl10⟩) (c10 : PySem.W.codeIn K cd10 "_law_size" = true) (k10 : PySem.W.keepIn K (.ref f10) = true)
    (a11 : PySem.W.nsIn K mainGlobals "_law_cut" = some (some (.ref f11))) (l11 : K.lookup f11 = some ⟨oc11, od11, .func (PySem.W.fnOf "_law_cut" "_law_cut" (defArgs s_law_cut) (defBody s_law_cut) (defScope s_law_cut) .none kV11 dc11 pm11 an11 cd11 ct11), sl11⟩) (c11 : PySem.W.codeIn K cd11 "_law_cut" = true) (k11 : PySem.W.keepIn K (.ref f11) = true)
    (a12 : PySem.W.nsIn K mainGlobals "_law_words" = some (some (.ref f12))) (l12 : K.lookup f12 = some ⟨oc12, od12, .func (PySem.W.fnOf "_law_words" "_law_words" (defArgs s_law_words) (defBody s_law_words) (defScope s_law_words) .none kV12 dc12 pm12 an12 cd12 ct12), sl12⟩) (c12 : PySem.W.codeIn K cd12 "_law_words" = true) (k12 : PySem.W.keepIn K (.ref f12) = true)
    (a13 : PySem.W.nsIn K mainGlobals "_law_names" = some (some (.ref f13))) (l13 : K.lookup f13 = some ⟨oc13, od13, .func (PySem.W.fnOf "_law_names" "_law_names" (defArgs s_law_names) (defBody s_law_names) (defScope s_law_names) .none kV13 dc13 pm13 an13 cd13 ct13), sl13⟩) (c13 : PySem.W.codeIn K cd13 "_law_names" = true) (k13 : PySem.W.keepIn K (.ref f13) = true)
    (a14 : PySem.W.nsIn K mainGlobals "_law_marks" = some (some (.ref f14))) (l14 : K.lookup f14 = some ⟨oc14, od14, .func (PySem.W.fnOf "_law_marks" "_law_marks" (defArgs s_law_marks) (defBody s_law_marks) (defScope s_law_marks) .none kV14 dc14 pm14 an14 cd14 ct14), sl14⟩) (c14 : PySem.W.codeIn K cd14 "_law_marks" = true) (k14 : PySem.W.keepIn K (.ref f14) = true)
    (a15 : PySem.W.nsIn K mainGlobals "_law_program" = some (some (.ref f15))) (l15 : K.lookup f15 = some ⟨oc15, od15, .func (PySem.W.fnOf "_law_program" "_law_program" (defArgs s_law_program) (defBody s_law_program) (defScope s_law_program) .none kV15 dc15 pm15 an15 cd15 ct15), sl15⟩) (c15 : PySem.W.codeIn K cd15 "_law_program" = true) (k15 : PySem.W.keepIn K (.ref f15) = true)
    (a16 : PySem.W.nsIn K mainGlobals "_law_spoil" = some (some (.ref f16))) (l16 : K.lookup f16 = some ⟨oc16, od16, .func (PySem.W.fnOf "_law_spoil" "_law_spoil" (defArgs s_law_spoil) (defBody s_law_spoil) (defScope s_law_spoil) .none kV16 dc16 pm16 an16 cd16 ct16), sl16⟩) (c16 : PySem.W.codeIn K cd16 "_law_spoil" = true) (k16 : PySem.W.keepIn K (.ref f16) = true)
    (a17 : PySem.W.nsIn K mainGlobals "law" = some (some (.ref f17))) (l17 : K.lookup f17 = some ⟨oc17, od17, .func (PySem.W.fnOf "law" "law" (defArgs s_law) (defBody s_law) (defScope s_law) .none kV17 dc17 pm17 an17 cd17 ct17), sl17⟩) (c17 : PySem.W.codeIn K cd17 "law" = true) (k17 : PySem.W.keepIn K (.ref f17) = true)
    (z_len : PySem.W.nsIn K mainGlobals "len" = some none) (z_int : PySem.W.nsIn K mainGlobals "int" = some none) (z_abs : PySem.W.nsIn K mainGlobals "abs" = some none) (z_range : PySem.W.nsIn K mainGlobals "range" = some none) (z_min : PySem.W.nsIn K mainGlobals "min" = some none) (z_str : PySem.W.nsIn K mainGlobals "str" = some none) (z_isinstance : PySem.W.nsIn K mainGlobals "isinstance" = some none) (z_bool : PySem.W.nsIn K mainGlobals "bool" = some none) (z_dict : PySem.W.nsIn K mainGlobals "dict" = some none) (z_sum : PySem.W.nsIn K mainGlobals "sum" = some none) (z_list : PySem.W.nsIn K mainGlobals "list" = some none) (z_tuple : PySem.W.nsIn K mainGlobals "tuple" = some none) (z_repr : PySem.W.nsIn K mainGlobals "repr" = some none) (z_sorted : PySem.W.nsIn K mainGlobals "sorted" = some none) (z_enumerate : PySem.W.nsIn K mainGlobals "enumerate" = some none) (z_zip : PySem.W.nsIn K mainGlobals "zip" = some none) (z_all : PySem.W.nsIn K mainGlobals "all" = some none) (z_max : PySem.W.nsIn K mainGlobals "max" = some none) (z_set : PySem.W.nsIn K mainGlobals "set" = some none) (z_ValueError : PySem.W.nsIn K mainGlobals "ValueError" = some none) (z_any : PySem.W.nsIn K mainGlobals "any" = some none) (z_reversed : PySem.W.nsIn K mainGlobals "reversed" = some none) :
    ∀ base : Heap, K.In base → base.Ns mainGlobals mg → TopOk l.prog w K mg base fa (spLaw K) := by
  have e := hfa.symm.trans (PySem.W.mg_of X G a17)
  cases e
  have F1 := fun_mk (st := s_fresh_copy) l1 c1 k1
  have F2 := fun_mk (st := s_enclosed) l2 c2 k2
  have F3 := fun_mk (st := s_law_cell) l3 c3 k3
  have F4 := fun_mk (st := s_law_digits) l4 c4 k4
  have F5 := fun_mk (st := s_law_take) l5 c5 k5
  have F6 := fun_mk (st := s_law_value) l6 c6 k6
  have F7 := fun_mk (st := s_law_condition) l7 c7 k7
  have F8 := fun_mk (st := s_law_simple) l8 c8 k8
  have F9 := fun_mk (st := s_law_body) l9 c9 k9
  have F10 := fun_mk (st := s_law_size) l10 c10 k10
  have F11 := fun_mk (st := s_law_cut) l11 c11 k11
  have F12 := fun_mk (st := s_law_words) l12 c12 k12
  have F13 := fun_mk (st := s_law_names) l13 c13 k13
  have F14 := fun_mk (st := s_law_marks) l14 c14 k14
  have F15 := fun_mk (st := s_law_program) l15 c15 k15
  have F16 := fun_mk (st := s_law_spoil) l16 c16 k16
  have F17 := fun_mk (st := s_law) l17 c17 k17
  have B : Bt mg := { len := PySem.W.mg_none_of X G z_len, int := PySem.W.mg_none_of X G z_int, abs := PySem.W.mg_none_of X G z_abs, range := PySem.W.mg_none_of X G z_range, min := PySem.W.mg_none_of X G z_min, str := PySem.W.mg_none_of X G z_str, isinstance := PySem.W.mg_none_of X G z_isinstance, bool := PySem.W.mg_none_of X G z_bool, dict := PySem.W.mg_none_of X G z_dict, sum := PySem.W.mg_none_of X G z_sum, list := PySem.W.mg_none_of X G z_list, tuple := PySem.W.mg_none_of X G z_tuple, repr := PySem.W.mg_none_of X G z_repr, sorted := PySem.W.mg_none_of X G z_sorted, enumerate := PySem.W.mg_none_of X G z_enumerate, zip := PySem.W.mg_none_of X G z_zip, all := PySem.W.mg_none_of X G z_all, max := PySem.W.mg_none_of X G z_max, set := PySem.W.mg_none_of X G z_set, ValueError := PySem.W.mg_none_of X G z_ValueError, any := PySem.W.mg_none_of X G z_any, reversed := PySem.W.mg_none_of X G z_reversed }
  intro base _ _
  have D_fresh_copy := fd_fresh_copy (P := l.prog) (w := w) (base := base) F1 (PySem.W.mg_of X G a1) B 17
  have D_enclosed := fd_enclosed (P := l.prog) (w := w) (base := base) F2 (PySem.W.mg_of X G a2) B D_fresh_copy
  have D_law_cell := fd_law_cell (P := l.prog) (w := w) (base := base) F3 (PySem.W.mg_of X G a3) B
  have D_law_digits := fd_law_digits (P := l.prog) (w := w) (base := base) F4 (PySem.W.mg_of X G a4) B
  have D_law_take := fd_law_take (P := l.prog) (w := w) (base := base) F5 (PySem.W.mg_of X G a5) B
  have D_law_value := fd_law_value (P := l.prog) (w := w) (base := base) F6 (PySem.W.mg_of X G a6) B D_law_take 3
  have D_law_condition := fd_law_condition (P := l.prog) (w := w) (base := base) F7 (PySem.W.mg_of X G a7) D_law_take D_law_value 2
  have D_law_simple := fd_law_simple (P := l.prog) (w := w) (base := base) F8 (PySem.W.mg_of X G a8) B D_law_take D_law_value D_law_condition
  have D_law_body := fd_law_body (P := l.prog) (w := w) (base := base) F9 (PySem.W.mg_of X G a9) B D_law_take D_law_condition D_law_simple 6
  have D_law_size := fd_law_size (P := l.prog) (w := w) (base := base) F10 (PySem.W.mg_of X G a10) B 16
  have D_law_cut := fd_law_cut (P := l.prog) (w := w) (base := base) F11 (PySem.W.mg_of X G a11) B D_law_size
  have D_law_words := fd_law_words (P := l.prog) (w := w) (base := base) F12 (PySem.W.mg_of X G a12) B
  have D_law_names := fd_law_names (P := l.prog) (w := w) (base := base) F13 (PySem.W.mg_of X G a13) B D_law_words
  have D_law_marks := fd_law_marks (P := l.prog) (w := w) (base := base) F14 (PySem.W.mg_of X G a14) D_law_names
  have D_law_program := fd_law_program (P := l.prog) (w := w) (base := base) F15 (PySem.W.mg_of X G a15) B D_law_digits D_law_names D_law_marks D_law_body D_law_cut
  have D_law_spoil := fd_law_spoil (P := l.prog) (w := w) (base := base) F16 (PySem.W.mg_of X G a16) B 16
  exact fd_law F17 (PySem.W.mg_of X G a17) (fun s v => .of_eq rfl) B D_law_cell D_law_digits D_law_names D_law_program D_enclosed D_law_spoil
end My
open PySem PySem.W PyProof.Rows
set_option maxRecDepth 100000 in
set_option maxHeartbeats 0 in
theorem PySem.Challenge.cw_legion_k59_bodies_enclosed_holds : PySem.Challenge.rw_legion_k59_bodies_enclosed.Holds := by
  w_on; o_law; k_head; (case hw => w_witness2)
  k_fill
  refine My.walk_top (l := PySem.Challenge.rw_legion_k59_bodies_enclosed) (n := 63) (sp := fun w => My.spLaw _) rfl (by decide) rfl (fun w h Y => PySem.W.kIn_of Y) ?F (fun _ _ a ns hl hS => ⟨a, ns, rfl, hS, hl, fun _ => rfl⟩)
  case F =>
    intro w mg fa h KX G hmg
    refine' My.all_mk KX G hmg ?a1 ?l1 ?c1 ?k1 ?a2 ?l2 ?c2 ?k2 ?a3 ?l3 ?c3 ?k3 ?a4 ?l4 ?c4 ?k4 ?a5 ?l5 ?c5 ?k5 ?a6 ?l6 ?c6 ?k6 ?a7 ?l7 ?c7 ?k7 ?a8 ?l8 ?c8 ?k8 ?a9 ?l9 ?c9 ?k9 ?a10 ?l10 ?c10 ?k10 ?a11 ?l11 ?c11 ?k11 ?a12 ?l12 ?c12 ?k12 ?a13 ?l13 ?c13 ?k13 ?a14 ?l14 ?c14 ?k14 ?a15 ?l15 ?c15 ?k15 ?a16 ?l16 ?c16 ?k16 ?a17 ?l17 ?c17 ?k17  ?z_len ?z_int ?z_abs ?z_range ?z_min ?z_str ?z_isinstance ?z_bool ?z_dict ?z_sum ?z_list ?z_tuple ?z_repr ?z_sorted ?z_enumerate ?z_zip ?z_all ?z_max ?z_set ?z_ValueError ?z_any ?z_reversed
    (case a1 => k_is); (case l1 => k_is); (case c1 => k_is); (case k1 => k_is)
    (case a2 => k_is); (case l2 => k_is); (case c2 => k_is); (case k2 => k_is)
    (case a3 => k_is); (case l3 => k_is); (case c3 => k_is); (case k3 => k_is)
    (case a4 => k_is); (case l4 => k_is); (case c4 => k_is); (case k4 => k_is)
    (case a5 => k_is); (case l5 => k_is); (case c5 => k_is); (case k5 => k_is)
    (case a6 => k_is); (case l6 => k_is); (case c6 => k_is); (case k6 => k_is)
    (case a7 => k_is); (case l7 => k_is); (case c7 => k_is); (case k7 => k_is)
    (case a8 => k_is); (case l8 => k_is); (case c8 => k_is); (case k8 => k_is)
    (case a9 => k_is); (case l9 => k_is); (case c9 => k_is); (case k9 => k_is)
    (case a10 => k_is); (case l10 => k_is); (case c10 => k_is); (case k10 => k_is)
    (case a11 => k_is); (case l11 => k_is); (case c11 => k_is); (case k11 => k_is)
    (case a12 => k_is); (case l12 => k_is); (case c12 => k_is); (case k12 => k_is)
    (case a13 => k_is); (case l13 => k_is); (case c13 => k_is); (case k13 => k_is)
    (case a14 => k_is); (case l14 => k_is); (case c14 => k_is); (case k14 => k_is)
    (case a15 => k_is); (case l15 => k_is); (case c15 => k_is); (case k15 => k_is)
    (case a16 => k_is); (case l16 => k_is); (case c16 => k_is); (case k16 => k_is)
    (case a17 => k_is); (case l17 => k_is); (case c17 => k_is); (case k17 => k_is)
    (case z_len => k_is); (case z_int => k_is); (case z_abs => k_is); (case z_range => k_is); (case z_min => k_is); (case z_str => k_is); (case z_isinstance => k_is); (case z_bool => k_is); (case z_dict => k_is); (case z_sum => k_is); (case z_list => k_is); (case z_tuple => k_is); (case z_repr => k_is); (case z_sorted => k_is); (case z_enumerate => k_is); (case z_zip => k_is); (case z_all => k_is); (case z_max => k_is); (case z_set => k_is); (case z_ValueError => k_is); (case z_any => k_is); (case z_reversed => k_is)
