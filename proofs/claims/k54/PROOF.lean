import PyProof.Rows.All
import Wide.All
import OpenK.AllK
import Wide.FinOn
import PyProof.Rows.SeqMore
import HandS.ForMost
import HandS.Exc
import HandS.TryOnly
import HandS.ExcOwn
import HandS.WordsExc
import HandS.IsInst
import HandS.Wide
import HandS.TupAny
import HandS.Flow
import HandS.FStr
import HandS.NoneIn
import HandS.SortKw
import HandS.Codes
import HandS.Steps
import HandS.DictComp
import HandS.WordsDict
import HandS.More
import HandS.Walk
import HandS.Star
import HandS.Deep
import HandS.Records
import PyProof.CodeObj
import HandS.ExcIs
import HandS.Zip
import HandS.GenList
import HandS.GenCall
import HandS.TryMany
import KE.SortData
import KE.KMinKey
import KE.KeyNested
import HandS.DictTup
import HandS.TupLen
import HandS.Defaults
import PySem.Challenge.RW_legion_k54_whole_cover_is_never_left
set_option Elab.async false
set_option linter.all false
set_option maxRecDepth 100000
namespace My
open PySem PySem.Spec PyProof.Rows L2
/-! ### lists that are read only, joined -/
def rCatS (K : PySem.W.Frag) : R2 := fun x y H Q => ∃ l b xs zs, x = .ref l ∧ y = .ref b ∧ SqL K H l xs ∧ SqL K H b zs ∧ xs.length + zs.length ≤ sizeLine ∧ ∀ p, H p = none → Q (.ref p) (upd H p (.lst (xs ++ zs)))
theorem op_catS {X : Cx} : OpR X (binaryOp .Add) (rCatS X.K) := by
  intro pins s σ H x y v u Q I rx ry h
  obtain ⟨l, b, xs, zs, rfl, rfl, hH, hB, hz, q⟩ := h
  cases rx
  cases ry
  obtain ⟨its, r, pl, z⟩ := I.list hH
  obtain ⟨its2, r2, pl2, z2⟩ := I.list hB
  have hl := r.length
  have hl2 := r2.length
  obtain ⟨⟨cls, dd, data, sl⟩, ho, hc, n, hd⟩ := pl.isList
  obtain ⟨⟨cls2, dd2, data2, sl2⟩, ho2, hc2, n2, hd2⟩ := pl2.isList
  simp only at hc hd hc2 hd2
  subst hc hd hc2 hd2
  have ea : its.toArray ++ its2.toArray = (its ++ its2).toArray := by simp
  refine concat_meets ⟨_, ho, rfl⟩ ⟨_, ho2, rfl⟩ noFill_list_add seq_list_add PySem.F.slot_list_add PySem.F.entry_list_add (PySem.F.args_list_add_2 _ _) (list_addW l b its.toArray its2.toArray n n2 dd dd2 sl sl2 (by rw [List.size_toArray, List.size_toArray]; omega)) ⟨ho, ho2, ?_⟩
  rw [ea]
  exact ⟨.ref _, _, I.lnew (t' := s.toks) (r.append r2) (by rw [List.length_append]; omega), rfl, q _ I.fresh⟩
/-- is True, is False, of anything -/
def rIsBl : R2 := fun x y H Q => ∃ b, y = .bl b ∧ Q (.bl (decide (x = .bl b))) H
theorem op_isBv {X : Cx} : OpR X (compareOp .Is) rIsBl := by
  intro pins s σ H x y v u Q I rx ry h
  obtain ⟨b, rfl, q⟩ := h
  cases (show u = Value.bool b from ry)
  have go : ∀ v : Value, plainIs v (.bool b) = true → (v == Value.bool b) = decide (x = .bl b) → wpAny (model X.prog X.w) X.A (compareOp .Is v (.bool b)) (EP X pins σ Q) X.xe s := fun v hp e =>
    wpAny_is_plain hp (by rw [e]; exact ⟨.bl _, H, I, rfl, q⟩)
  cases x with
  | bl c =>
    cases (show v = Value.bool c from rx)
    refine go _ rfl ?_
    cases b <;> cases c <;> rfl
  | non => cases (show v = Value.none from rx); exact go _ rfl rfl
  | int i => obtain ⟨t, rfl⟩ := (show ∃ t, v = Value.int i t from rx); exact go _ rfl rfl
  | str i => obtain ⟨t, rfl⟩ := (show ∃ t, v = Value.str i t from rx); exact go _ rfl rfl
  | byt i => obtain ⟨t, rfl⟩ := (show ∃ t, v = Value.bytes i t from rx); exact go _ rfl rfl
  | flt i => obtain ⟨t, rfl⟩ := (show ∃ t, v = Value.float i t from rx); exact go _ rfl rfl
  | ref a => cases (show v = Value.ref a from rx); exact go _ rfl rfl
  | ty a => cases (show v = Value.type a from rx); exact go _ rfl rfl
/-! ### rules with the written part named -/
section
variable {X : Cx} (K : PySem.W.Frag)
theorem ixL (h : X.K = K := by rfl) : IxR X (rIxL K) := h ▸ ix_list
theorem ixT (h : X.K = K := by rfl) : IxR X (rIxT K) := h ▸ ix_tup
theorem ixQ (h : X.K = K := by rfl) : IxR X (rIx K) := h ▸ ix_seq
theorem opIn (h : X.K = K := by rfl) : OpR X (compareOp .In) (rIn K false) := h ▸ op_in_seq
theorem opNotIn (h : X.K = K := by rfl) : OpR X (compareOp .NotIn) (rIn K true) := h ▸ op_notIn_seq
theorem opCat (h : X.K = K := by rfl) : OpR X (binaryOp .Add) (rCatS K) := h ▸ op_catS
theorem opCatT (h : X.K = K := by rfl) : OpR X (binaryOp .Add) (rCatA K) := h ▸ op_catA
theorem opEqD (hu : X.A.units + 64 < cLine) (h : X.K = K := by rfl) : OpR X (compareOp .Eq) (rEqD K) := h ▸ op_eqD hu
theorem opNeD (hu : X.A.units + 64 < cLine) (h : X.K = K := by rfl) : OpR X (compareOp .NotEq) (rNeD K) := h ▸ op_neD hu
theorem slL (h : X.K = K := by rfl) : SlR X (rSlL K) := h ▸ sl_list
theorem slT (h : X.K = K := by rfl) : SlR X (rSlT K) := h ▸ sl_tup
def rLenQ (K : PySem.W.Frag) : List V → Hp → VK → Prop := fun xs H Q => ∃ p ys, xs = [.ref p] ∧ (SqL K H p ys ∨ SqT K H p ys) ∧ Q (.int ys.length) H
theorem cLen (h : X.K = K := by rfl) : CallR X (.builtin "len") (rLenQ K) := h ▸ call_len_seq
def rListQ (K : PySem.W.Frag) : List V → Hp → VK → Prop := fun xs H Q => ∃ p ys, xs = [.ref p] ∧ (SqL K H p ys ∨ SqT K H p ys) ∧ ∀ l, H l = none → Q (.ref l) (upd H l (.lst ys))
theorem cList (h : X.K = K := by rfl) : CallR X (.type "list") (rListQ K) := h ▸ call_list_of
theorem cSum (hc : X.calm = true) (h : X.K = K := by rfl) : CallR X (.builtin "sum") (rSum K) := h ▸ cr_sum hc
theorem cAll (hc : X.calm = true) (h : X.K = K := by rfl) : CallR X (.builtin "all") (rAll K) := h ▸ cr_all hc
theorem cAny (hc : X.calm = true) (h : X.K = K := by rfl) : CallR X (.builtin "any") (rAny K) := h ▸ cr_any hc
theorem cIsi (h : X.K = K := by rfl) : CallR X (.builtin "isinstance") (rIsi K) := h ▸ call_isi
theorem peBm {T name id : String} {r : V → List V → Hp → VK → Prop} {to : TE} {t : TA} {o e : Expr} {es : List Expr} {apos cpos : Pos} (pa : PlainAttrs T) (slot : Slot T name id) (hty : typeOf (.builtin id) = pure (.type "method_descriptor")) (hm : MtR X id r) (ho : PE X o to) (ha : PA X (e :: es) t) (h : X.K = K := by rfl)
    (hbase : attributeBase o name X.env (eval o X.env) = eval o X.env := by rfl)
    (hfew : ((backTo cpos (starEach (e :: es) X.env)).all (fun x => !x.1) && (backToKw cpos (keywordEach [] X.env)).all (fun x => x.1.isSome)
      && decide ((e :: es).length + ([] : List Keyword).length + (if ([] : List Keyword).isEmpty then 0 else 1) < 30)) = true := by rfl)
    (hline : (apos.endLine == cpos.line) = true := by rfl) (hs : starEach (e :: es) X.env = (false, eval e X.env) :: starEach es X.env := by rfl) (hplain : (backTo cpos (starEach es X.env)).any (·.1) = false := by rfl) :
    PE X (.Call (.Attribute o name apos) (e :: es) [] cpos) (tBM K T r to t) := h ▸ pe_bm pa slot hty hm ho ha hbase hfew hline hs hplain
def tTruK (K : PySem.W.Frag) (ta : TE) : TT := fun σ H Q => ta σ H fun x H' => ∃ k, TruV K x H' k ∧ Q k H'
theorem ptTru {a : Expr} {ta : TE} (ha : PE X a ta) (he : ∀ whole, isTrue a X.env whole = (do let v ← whole; standAt a.pos; holding [v] (truthy v))) (h : X.K = K := by rfl) : PT X a (tTruK K ta) := h ▸ pt_truth ha he
theorem piL {tg l : Expr} {tl : TE} (hl : PE X l tl) (h : X.K = K := by rfl) : PI X tg l (iList K tl) := h ▸ pi_list hl
theorem piT {tg l : Expr} {tl : TE} (hl : PE X l tl) (h : X.K = K := by rfl) : PI X tg l (iTup K tl) := h ▸ pi_tup hl
end
/-! ### a def that is known -/
structure Fd (P : Program) (w : World) (K : PySem.W.Frag) (mg : Str → Option Value) (base : Heap) (x : Str) (ps : List Str) (k : Nat) (sp : Sp) : Prop where
  ex : ∃ (f : Addr) (fd : FuncData), FnOk P w K mg base CX0 k f fd ps sp ∧ mg x = some (.ref f) ∧ PySem.W.keepIn K (.ref f) = true ∧ Binds K fd ps []
theorem pe_fn {X : Cx} {x : Str} {ps : List Str} {k : Nat} {sp : Sp} {e : Expr} {es : List Expr} {t : TA} {p pos : Pos} (F : Fd X.prog X.w X.K X.mg X.base x ps k sp) (hr : Room k X.A) (hg : Gl X x) (ha : PA X (e :: es) t)
    (hdb : (x == ("__debug__" : Str)) = false := by decide) (he : starEach (e :: es) X.env = (false, eval e X.env) :: starEach es X.env := by rfl) (hpl : (backTo pos (starEach es X.env)).any (·.1) = false := by rfl) :
    PE X (.Call (.Name x p) (e :: es) [] pos) (tCall sp [] E0 t) := by
  obtain ⟨f, fd, G, m, kp, b⟩ := F.ex
  exact pe_call G hr hg m kp b .nil pass0 ha hdb he hpl
/-- the built-ins stand as they were -/
structure Bt (mg : Str → Option Value) : Prop where
  len : mg "len" = none
  int : mg "int" = none
  abs : mg "abs" = none
  range : mg "range" = none
  min : mg "min" = none
  str : mg "str" = none
  isinstance : mg "isinstance" = none
  bool : mg "bool" = none
  sum : mg "sum" = none
  list : mg "list" = none
  tuple : mg "tuple" = none
  repr : mg "repr" = none
  sorted : mg "sorted" = none
  enumerate : mg "enumerate" = none
  zip : mg "zip" = none
  all : mg "all" = none
  dict : mg "dict" = none
  max : mg "max" = none
  set : mg "set" = none
  ValueError : mg "ValueError" = none
  any : mg "any" = none
  reversed : mg "reversed" = none
/-! ### heaps -/
theorem same_new {H : Hp} {p : Addr} {o : HO} (h : H p = none) : Same H (upd H p o) := fun b x e => by
  rw [upd_ne (ne_of_none e h)]
  exact e
/-- an object that H does not know may change -/
theorem Same.mut {H H' : Hp} {p : Addr} {o : HO} (e : Same H H') (h : H p = none) : Same H (upd H' p o) := fun a u ha => by
  rw [upd_ne (ne_of_none ha h)]
  exact e a u ha
theorem sq {K : PySem.W.Frag} {H : Hp} {a : Addr} {xs : List V} (h : H a = some (.lst xs)) : SqL K H a xs := .inl (.inl h)
theorem st {K : PySem.W.Frag} {H : Hp} {a : Addr} {xs : List V} (h : H a = some (.tup xs)) : SqT K H a xs := .inl (.inl h)
theorem sz {n : Nat} (h : n ≤ 100000) : n ≤ sizeLine := Nat.le_trans h (by decide)
theorem szl {n : Nat} (h : n < 100000) : n < sizeLine := Nat.lt_of_lt_of_le h (by decide)
theorem Same.seqT {K : PySem.W.Frag} {H H' : Hp} {a : Addr} {xs : List V} (e : Same H H') (h : SqT K H a xs) : SqT K H' a xs := by
  rcases h with (h | ⟨o, h⟩) | h
  · exact .inl (.inl (e _ _ h))
  · exact .inl (.inr ⟨o, e _ _ h⟩)
  · exact .inr h
/-! ### numbers drawn below limits -/
def DOk : List Int → List Int → Prop
  | [], [] => True
  | d :: ds, m :: ms => (0 ≤ d ∧ d < m) ∧ DOk ds ms
  | _, _ => False
theorem DOk.snoc : ∀ {ds ms : List Int} {d m : Int}, DOk ds ms → 0 ≤ d → d < m → DOk (ds ++ [d]) (ms ++ [m])
  | [], [], _, _, _, h0, h1 => ⟨⟨h0, h1⟩, trivial⟩
  | [], _ :: _, _, _, h, _, _ => h.elim
  | _ :: _, [], _, _, h, _, _ => h.elim
  | _ :: _, _ :: _, _, _, h, h0, h1 => ⟨h.1, DOk.snoc h.2 h0 h1⟩
theorem DOk.len : ∀ {ds ms : List Int}, DOk ds ms → ds.length = ms.length
  | [], [], _ => rfl
  | [], _ :: _, h => h.elim
  | _ :: _, [], h => h.elim
  | _ :: _, _ :: _, h => by rw [List.length_cons, List.length_cons, DOk.len h.2]
theorem DOk.at : ∀ {ds ms : List Int} {i : Nat} {m : Int}, DOk ds ms → ms[i]? = some m → ∃ d, ds[i]? = some d ∧ 0 ≤ d ∧ d < m
  | [], [], _, _, _, e => by simp at e
  | [], _ :: _, _, _, h, _ => h.elim
  | _ :: _, [], _, _, h, _ => h.elim
  | d :: _, _ :: _, 0, m, h, e => ⟨d, rfl, h.1.1, by have := Option.some.inj e; rw [← this]; exact h.1.2⟩
  | _ :: ds, _ :: ms, i + 1, m, h, e => DOk.at (ds := ds) (ms := ms) (i := i) h.2 e
theorem DOk.cons {ds ms : List Int} {m : Int} (h : DOk ds (m :: ms)) : ∃ d r, ds = d :: r ∧ 0 ≤ d ∧ d < m ∧ DOk r ms := by
  cases ds with
  | nil => exact h.elim
  | cons d r => exact ⟨d, r, rfl, h.1.1, h.1.2, h.2⟩
theorem DOk.nil {ds : List Int} (h : DOk ds []) : ds = [] := by
  cases ds with
  | nil => rfl
  | cons d r => exact h.elim
theorem get_map {α : Type} {f : α → V} {xs : List α} {i : Nat} {x : α} (h : xs[i]? = some x) : (xs.map f)[i]? = some (f x) := by
  rw [List.getElem?_map, h]; rfl
theorem get_map_inv {α : Type} {f : α → V} {xs : List α} {i : Nat} {v : V} (h : (xs.map f)[i]? = some v) : ∃ x, xs[i]? = some x ∧ v = f x := by
  rw [List.getElem?_map] at h
  cases e : xs[i]? with
  | none => rw [e] at h; cases h
  | some x => rw [e] at h; exact ⟨x, rfl, (Option.some.inj h).symm⟩
theorem fmod_pos {a m : Int} (h : 0 < m) : 0 ≤ a.fmod m ∧ a.fmod m < m := ⟨Int.fmod_nonneg_of_pos a h, Int.fmod_lt_of_pos a h⟩
theorem take_snoc {α : Type} {xs : List α} {i : Nat} {x : α} (h : xs[i]? = some x) : xs.take (i + 1) = xs.take i ++ [x] := by
  rw [List.take_add_one, h]; rfl
end My
namespace My
open PySem PySem.Spec PyProof.Rows L2
def topS (i : Nat) : Stmt := PySem.Challenge.pw_legion_k54_whole_cover_is_never_left.main.body.getD i (.Pass ⟨0, 0, 0, 0⟩)
theorem atI_in {α : Type} {xs : List α} {i : Int} (h0 : 0 ≤ i) (h1 : i < xs.length) : ∃ v, atI xs i = some v ∧ v ∈ xs := by
  obtain ⟨n, rfl⟩ := Int.eq_ofNat_of_zero_le h0
  have hn : n < xs.length := by omega
  exact ⟨xs[n], atI_nat (List.getElem?_eq_getElem hn), List.getElem_mem hn⟩
theorem atI_map {α : Type} {f : α → V} {xs : List α} {i : Int} (h0 : 0 ≤ i) (h1 : i < xs.length) : ∃ v, atI (xs.map f) i = some (f v) ∧ v ∈ xs ∧ xs[i.toNat]? = some v := by
  obtain ⟨n, rfl⟩ := Int.eq_ofNat_of_zero_le h0
  have hn : n < xs.length := by omega
  exact ⟨xs[n], atI_nat (get_map (List.getElem?_eq_getElem hn)), List.getElem_mem hn, List.getElem?_eq_getElem hn⟩
theorem len_app (a b : Str) : (a ++ b).length = a.length + b.length := by
  show (a.cps ++ b.cps).size = a.cps.size + b.cps.size
  exact Array.size_append
theorem len_join0 : ∀ (parts : List Str), (∀ p ∈ parts, p.length = 1) → (Txt.join (Str.ofString "") parts).length = parts.length := by
  intro parts h
  have e : ∀ parts : List Str, (∀ p ∈ parts, p.length = 1) → (TL.joinL [] (parts.map TL.tl)).length = parts.length := by
    intro parts
    induction parts with
    | nil => intro _; rfl
    | cons p r ih =>
      intro h
      have hp : (TL.tl p).length = 1 := by
        have := h p List.mem_cons_self
        rw [← this]
        exact Array.length_toList
      have hr := ih fun q hq => h q (List.mem_cons_of_mem _ hq)
      cases r with
      | nil => show (TL.tl p).length = 1; exact hp
      | cons q r =>
        show (TL.tl p ++ ([] ++ TL.joinL [] ((q :: r).map TL.tl))).length = _
        rw [List.length_append, List.nil_append, hr, hp, List.length_cons (a := p)]
        omega
  have e2 := TL.tl_join (Str.ofString "") parts
  rw [← TL.join_eq] at e2
  have e3 : (Txt.join (Str.ofString "") parts).length = (TL.tl (Txt.join (Str.ofString "") parts)).length := Array.length_toList.symm
  rw [e3, e2, show TL.tl (Str.ofString "") = [] by decide +kernel]
  exact e parts h
theorem len_digits : ∀ k : Nat, k < 60 → ((toString (k : Int) : String) |> fun s => (Str.ofString s).length) ≤ 2 := by
  intro k hk
  have : ∀ k : Fin 60, ((toString ((k : Nat) : Int) : String) |> fun s => (Str.ofString s).length) ≤ 2 := by decide +kernel
  exact this ⟨k, hk⟩
/-! ### tests that leave the heap -/
theorem ansOr {t u : TT} {σ : L2.St} {H : Hp} {a b : Bool} (ha : Ans t σ H a) (hb : Ans u σ H b) : Ans (tOr t u) σ H (a || b) := fun Q q => ha _ (by
  cases a with
  | true => exact iteT q
  | false => exact iteF (hb Q q))
theorem ansAnd {t u : TT} {σ : L2.St} {H : Hp} {a b : Bool} (ha : Ans t σ H a) (hb : Ans u σ H b) : Ans (tAnd t u) σ H (a && b) := fun Q q => ha _ (by
  cases a with
  | true => exact iteT (hb Q q)
  | false => exact iteF q)
theorem ifS {c : TT} {t u : TS} {D : Ends} {σ : L2.St} {H : Hp} {b : Bool} (h : Ans c σ H b) (ht : b = true → t D σ H) (hu : b = false → u D σ H) : tIfS c t u D σ H := h _ (by
  cases b with
  | true => exact iteT (ht rfl)
  | false => exact iteF (hu rfl))
theorem sum_ones : ∀ {ss : List Str}, (∀ s ∈ ss, s.length = 1) → (ss.map (·.length)).sum = ss.length
  | [], _ => rfl
  | s :: r, h => by
    rw [List.map_cons, List.sum_cons, sum_ones fun x hx => h x (List.mem_cons_of_mem _ hx), h s List.mem_cons_self, List.length_cons]
    omega
theorem flat_strs (ss : List Str) : (ss.map V.str).all flatV = true := by
  rw [List.all_eq_true]
  intro v hv
  obtain ⟨s, _, rfl⟩ := List.mem_map.mp hv
  rfl
theorem szc (n : Nat) {xs : List V} (h : xs.length = n := by rfl) (hn : n ≤ 100000 := by decide) : xs.length ≤ sizeLine := by rw [h]; exact sz hn
theorem ansIsi {K : PySem.W.Frag} {te : TE} {σ : L2.St} {H : Hp} {x : V} {T T2 : String} {b : Bool} (hx : ∀ Q : VK, Q x H → te σ H Q) (ty : TyX K H x (.type T)) (hb : kitB T T2 = some b) :
    Ans (tB (tCB (rIsi K) (tCons te (tCons (tC (.ty T2)) tNil)))) σ H b := fun Q q => hx _ ⟨x, _, _, _, b, rfl, .ty T2, ty, kit_ty hb, _, rfl, q⟩
theorem ansTo {t : TT} {σ : L2.St} {H : Hp} {b b' : Bool} (h : Ans t σ H b) (e : b = b') : Ans t σ H b' := e ▸ h
/-- lo <= x <= hi over whole numbers -/
theorem ansChain {ta tb tc : TE} {σ : L2.St} {H : Hp} {i j k : Int} (ha : Val ta σ H (.int i)) (hb : Val tb σ H (.int j)) (hc : Val tc σ H (.int k)) :
    Ans (tTest (tChain (rI0 fun i j => .bl (decide (i ≤ j))) (rI0 fun i j => .bl (decide (i ≤ j))) ta tb tc)) σ H (decide (i ≤ j) && decide (j ≤ k)) := fun Q q =>
  ha _ (hb _ ⟨i, j, rfl, rfl, _, rfl, by
    by_cases h : i ≤ j
    · rw [if_pos (decide_eq_true h)]
      refine hc _ ⟨j, k, rfl, rfl, _, rfl, ?_⟩
      rw [decide_eq_true h, Bool.true_and] at q
      exact q
    · rw [if_neg (by rw [decide_eq_false h]; exact Bool.false_ne_true)]
      rw [decide_eq_false h, Bool.false_and] at q
      exact ⟨_, rfl, q⟩⟩)
theorem ifQ {c : TT} {t u r : TS} {D : Ends} {σ : L2.St} {H : Hp} {b : Bool} (h : Ans c σ H b) (ht : b = true → t { D with nx := r D } σ H) (hu : b = false → u { D with nx := r D } σ H) : tSeq (tIfS c t u) r D σ H := ifS (D := { D with nx := r D }) h ht hu
theorem noQ {c : TT} {t r : TS} {D : Ends} {σ : L2.St} {H : Hp} (h : Ans c σ H false) (q : r D σ H) : tSeq (tIfS c t tNext) r D σ H := ifQ h (fun z => nomatch z) fun _ => q
theorem noS {c : TT} {t : TS} {D : Ends} {σ : L2.St} {H : Hp} (h : Ans c σ H false) (q : D.nx σ H) : tIfS c t tNext D σ H := ifS h (fun z => nomatch z) fun _ => q
theorem ifR {c : TT} {t r : TS} {D : Ends} {σ : L2.St} {H : Hp} {b : Bool} (h : Ans c σ H b) (ht : b = true → t { D with nx := r D } σ H) (hu : b = false → r D σ H) : tSeq (tIfS c t tNext) r D σ H := ifQ h ht hu
theorem cutV_map {α : Type} (f : α → V) (xs : List α) (lo hi : Option Int) : ∃ ys : List α, cutV (xs.map f) lo hi = ys.map f ∧ ys.length ≤ xs.length ∧ ∀ y ∈ ys, y ∈ xs := by
  refine ⟨(xs.drop (HT.sIx (xs.map f).length 0 lo)).take (HT.sIx (xs.map f).length (xs.map f).length hi - HT.sIx (xs.map f).length 0 lo), ?_, ?_, ?_⟩
  · unfold cutV
    rw [List.map_take, List.map_drop]
  · rw [List.length_take, List.length_drop]
    omega
  · intro y hy
    exact List.mem_of_mem_drop (List.mem_of_mem_take hy)
theorem iteFx {c : Bool} {A B : Prop} (h : c = false) (q : B) : if c = true then A else B := by
  subst h
  exact iteF q
theorem iteTx {c : Bool} {A B : Prop} (h : c = true) (q : A) : if c = true then A else B := by
  subst h
  exact iteT q
/-! ### names -/
def lets : Str := Str.ofString "abcdefghijklmnopqrstuvwxyz"
def sgns : Str := Str.ofString "abcdefghijklmnopqrstuvwxyz0123456789"
def resv : List Str := ["share", "lock", "bell", "kind", "any", "local", "skip", "set", "acquire", "release", "rest", "wake", "start", "check", "await", "mark", "if", "else", "loop", "choose", "or", "end", "and", "not"].map Str.ofString
structure NmF (s : Str) : Prop where
  l1 : 1 ≤ s.length
  l20 : s.length ≤ 20
  hd : ∃ c r, s.cps.toList = c :: r ∧ c ∈ lets.cps.toList
  al : ∀ c ∈ s.cps.toList, c ∈ sgns.cps.toList
theorem str_len (s : Str) : s.cps.toList.length = s.length := Array.length_toList
theorem str_app (a b : Str) : (a ++ b).cps.toList = a.cps.toList ++ b.cps.toList := by
  show (a.cps ++ b.cps).toList = _
  exact Array.toList_append
theorem let_sgn {c : Nat} (h : c ∈ lets.cps.toList) : c ∈ sgns.cps.toList := by
  have e : sgns = lets ++ Str.ofString "0123456789" := by decide +kernel
  rw [e, str_app]
  exact List.mem_append_left _ h
theorem nmF_cons {s : Str} {c : Nat} {r : List Nat} (e : s.cps.toList = c :: r) (hc : c ∈ lets.cps.toList) (hr : ∀ x ∈ r, x ∈ sgns.cps.toList) (hl : r.length ≤ 19) : NmF s := by
  have := str_len s
  rw [e, List.length_cons] at this
  refine ⟨by omega, by omega, ⟨c, r, e, hc⟩, fun x hx => ?_⟩
  rw [e] at hx
  rcases List.mem_cons.mp hx with h | h
  · rw [h]; exact let_sgn hc
  · exact hr x h
def nmfB (l : List Nat) : Bool := match l with
  | [] => false
  | c :: r => decide (c ∈ lets.cps.toList) && (r.all fun x => decide (x ∈ sgns.cps.toList)) && decide (r.length ≤ 19)
theorem nmF_of {s : Str} (h : nmfB s.cps.toList = true) : NmF s := by
  cases e : s.cps.toList with
  | nil => rw [e] at h; cases h
  | cons c r =>
    rw [e] at h
    simp only [nmfB, Bool.and_eq_true, decide_eq_true_eq, List.all_eq_true] at h
    exact nmF_cons e h.1.1 h.1.2 h.2
def digL (i : Nat) : List Nat := (Str.ofString (toString (i : Int))).cps.toList
theorem dig_ok : ∀ i : Fin 31, (∃ c r, digL i = c :: r ∧ c ∉ lets.cps.toList) ∧ (∀ x ∈ digL i, x ∈ sgns.cps.toList) ∧ (digL i).length ≤ 2 := by
  have h : ∀ i : Fin 31, (match digL i with
    | [] => false
    | c :: _ => !decide (c ∈ lets.cps.toList)) = true ∧ ((digL i).all fun x => decide (x ∈ sgns.cps.toList)) = true ∧ (digL i).length ≤ 2 := by decide +kernel
  intro i
  obtain ⟨h1, h2, h3⟩ := h i
  refine ⟨?_, fun x hx => of_decide_eq_true (List.all_eq_true.mp h2 x hx), h3⟩
  cases e : digL i with
  | nil => rw [e] at h1; cases h1
  | cons c r => rw [e] at h1; exact ⟨c, r, rfl, by simpa using h1⟩
def letAt (j : Nat) : Nat := lets.cps.toList.getD j 0
theorem let_inj : ∀ a b : Fin 26, letAt a = letAt b → a = b := by decide +kernel
theorem let_in : ∀ a : Fin 26, letAt a ∈ lets.cps.toList := by decide +kernel
def candL (i j : Nat) : List Nat := letAt (j % 26) :: (digL i ++ if j < 26 then [] else [120])
theorem cand_f {i j : Nat} (hi : i < 31) (s : Str) (e : s.cps.toList = candL i j) : NmF s := by
  obtain ⟨_, h2, h3⟩ := dig_ok ⟨i, hi⟩
  refine nmF_cons e (let_in ⟨j % 26, by omega⟩) (fun x hx => ?_) ?_
  · rcases List.mem_append.mp hx with h | h
    · exact h2 x h
    · split at h
      · cases h
      · rw [List.mem_singleton.mp h]; decide +kernel
  · rw [List.length_append]
    have : (if j < 26 then [] else [120] : List Nat).length ≤ 1 := by split <;> decide
    have h3' : (digL i).length ≤ 2 := h3
    omega
theorem resv_let : ∀ s ∈ resv, ∀ c ∈ s.cps.toList, c ∈ lets.cps.toList := by decide +kernel
theorem cand_nr {i j : Nat} (hi : i < 31) (s : Str) (e : s.cps.toList = candL i j) : s ∉ resv := fun hm => by
  obtain ⟨⟨c, r, ec, hc⟩, _⟩ := dig_ok ⟨i, hi⟩
  refine hc (resv_let s hm c ?_)
  rw [e]
  have : digL i = c :: r := ec
  unfold candL
  rw [this]
  exact List.mem_cons_of_mem _ (List.mem_append_left _ List.mem_cons_self)
theorem cand_inj {i j k : Nat} (hj : j < 52) (hk : k < 52) (e : candL i j = candL i k) : j = k := by
  have h1 : letAt (j % 26) = letAt (k % 26) := (List.cons.inj e).1
  have h2 := congrArg List.length (List.cons.inj e).2
  have h3 := congrArg Fin.val (let_inj ⟨j % 26, by omega⟩ ⟨k % 26, by omega⟩ h1)
  have h4 : j % 26 = k % 26 := h3
  rw [List.length_append, List.length_append] at h2
  split at h2 <;> split at h2 <;> simp only [List.length_nil, List.length_cons] at h2 <;> omega
theorem pigeon {α : Type} [BEq α] [LawfulBEq α] : ∀ (xs ys : List α), xs.Nodup → (∀ x ∈ xs, x ∈ ys) → xs.length ≤ ys.length
  | [], _, _, _ => Nat.zero_le _
  | x :: r, ys, hn, h => by
    have hx := h x List.mem_cons_self
    obtain ⟨hnx, hnr⟩ := List.nodup_cons.mp hn
    have ih := pigeon r (ys.erase x) hnr fun y hy => (List.mem_erase_of_ne fun (e : y = x) => hnx (e ▸ hy)).mpr (h y (List.mem_cons_of_mem _ hy))
    rw [List.length_erase_of_mem hx] at ih
    have := List.length_pos_of_mem hx
    rw [List.length_cons]
    omega
/-- of 52 names one is free -/
theorem cand_free {i : Nat} (hi : i < 31) {ss : List Str} (hl : ss.length < 52) (h : ∀ j < 52, ∀ s : Str, s.cps.toList = candL i j → s ∈ ss ∨ s ∈ resv) : False := by
  have hs : ∀ j < 52, candL i j ∈ ss.map fun s => s.cps.toList := fun j hj => by
    have e : ((⟨(candL i j).toArray⟩ : Str)).cps.toList = candL i j := rfl
    rcases h j hj _ e with m | m
    · exact List.mem_map.mpr ⟨_, m, e⟩
    · exact absurd m (cand_nr hi _ e)
  have hn : ((List.range 52).map (candL i)).Nodup := by
    refine List.nodup_iff_pairwise_ne.mpr ?_ |> fun z => z
    rw [List.pairwise_map]
    refine List.Pairwise.imp_of_mem (fun {a b} ha hb hab e => ?_) (List.nodup_iff_pairwise_ne.mp List.nodup_range)
    exact hab (cand_inj (List.mem_range.mp ha) (List.mem_range.mp hb) e)
  have := pigeon _ _ hn fun x hx => by
    obtain ⟨j, hj, rfl⟩ := List.mem_map.mp hx
    exact hs j (List.mem_range.mp hj)
  rw [List.length_map, List.length_map, List.length_range] at this
  omega
theorem cut_x : ∀ j : Fin 52, (cutS (Str.ofString "x") none (some (((j : Nat) : Int) / 26))).cps.toList = (if (j : Nat) < 26 then [] else [120]) := by decide +kernel
structure NmsOk (ss : List Str) : Prop where
  f : ∀ s ∈ ss, NmF s
  r : ∀ s ∈ ss, s ∉ resv
  nd : ss.Nodup
theorem NmsOk.snoc {ss : List Str} {s : Str} (h : NmsOk ss) (hf : NmF s) (hr : s ∉ resv) (hs : s ∉ ss) : NmsOk (ss ++ [s]) where
  f := fun x hx => by
    rcases List.mem_append.mp hx with m | m
    · exact h.f x m
    · rw [List.mem_singleton.mp m]; exact hf
  r := fun x hx => by
    rcases List.mem_append.mp hx with m | m
    · exact h.r x m
    · rw [List.mem_singleton.mp m]; exact hr
  nd := by
    refine List.nodup_append.mpr ⟨h.nd, List.nodup_cons.mpr ⟨(fun m => by cases m), List.nodup_nil⟩, fun a ha b hb e => ?_⟩
    rw [List.mem_singleton.mp hb] at e
    exact hs (e ▸ ha)
theorem inV_iff {l : Str} {xs : List Str} : inV (V.str l) (xs.map V.str) = true ↔ l ∈ xs := by
  unfold inV
  rw [List.any_map, List.any_eq_true]
  constructor
  · rintro ⟨x, hx, h⟩
    have : (x == l) = true := h
    rw [← eq_of_beq this]
    exact hx
  · intro h
    exact ⟨l, h, (beq_self_eq_true l : (l == l) = true)⟩
theorem mem_join0 {S : List Nat} : ∀ (parts : List Str), (∀ p ∈ parts, ∀ c ∈ p.cps.toList, c ∈ S) → ∀ c ∈ (Txt.join (Str.ofString "") parts).cps.toList, c ∈ S := by
  intro parts h c hc
  have e2 := TL.tl_join (Str.ofString "") parts
  rw [← TL.join_eq, show TL.tl (Str.ofString "") = [] by decide +kernel] at e2
  have e3 : (Txt.join (Str.ofString "") parts).cps.toList = TL.joinL [] (parts.map TL.tl) := e2
  rw [e3] at hc
  clear e2 e3
  induction parts with
  | nil => cases hc
  | cons p r ih =>
    cases r with
    | nil => exact h p List.mem_cons_self c hc
    | cons q r =>
      have hc2 : c ∈ TL.tl p ++ ([] ++ TL.joinL [] ((q :: r).map TL.tl)) := hc
      rw [List.nil_append] at hc2
      rcases List.mem_append.mp hc2 with m | m
      · exact h p List.mem_cons_self c m
      · exact ih (fun p hp => h p (List.mem_cons_of_mem _ hp)) m
theorem str_ext {a b : Str} (h : a.cps.toList = b.cps.toList) : a = b := by
  cases a; cases b
  have := Array.toList_inj.mp h
  simp only at this
  rw [this]
/-! ### values and conditions as trees -/
theorem Fd.none {P : Program} {w : World} {K : PySem.W.Frag} {mg : Str → Option Value} {base : Heap} {x qual : Str} {st : Stmt} {f : Addr} {fd : FuncData} {ps : List Str} {k : Nat} {sp : Sp} (F : Fun K x qual st f fd) (m : mg x = some (.ref f)) (b : Binds K fd ps [])
    (no : ∀ vs H Q E, ¬ sp vs H Q E) : Fd P w K mg base x ps k sp := ⟨f, fd, ⟨fun vs H Q E h => absurd h (no vs H Q E), fun A outer s H args us vs Q E _ _ _ _ h => absurd h (no vs H Q E)⟩, m, F.kp, b⟩
theorem yesQ {c : TT} {t u r : TS} {D : Ends} {σ : L2.St} {H : Hp} (h : Ans c σ H true) (q : t { D with nx := r D } σ H) : tSeq (tIfS c t u) r D σ H := ifQ h (fun _ => q) fun z => nomatch z
theorem yesS {c : TT} {t u : TS} {D : Ends} {σ : L2.St} {H : Hp} (h : Ans c σ H true) (q : t D σ H) : tIfS c t u D σ H := ifS h (fun _ => q) fun z => nomatch z
/-- what is new in H' over H -/
def Nw (H H' : Hp) : Hp := fun a => match H a with
  | none => H' a
  | some _ => none
theorem nw_at {H H' : Hp} {a : Addr} (h : H a = none) : Nw H H' a = H' a := by
  unfold Nw
  rw [h]
theorem nw_old {H H' : Hp} {a : Addr} {o : HO} (h : H a = some o) : Nw H H' a = none := by
  unfold Nw
  rw [h]
theorem nw_some {H H' : Hp} {a : Addr} {o : HO} (h : Nw H H' a = some o) : H a = none ∧ H' a = some o := by
  cases e : H a with
  | none => rw [nw_at e] at h; exact ⟨rfl, h⟩
  | some x => rw [nw_old e] at h; cases h
theorem nw_same {H H' : Hp} : Same (Nw H H') H' := fun _ _ h => (nw_some h).2
theorem nw_mono {H H1 H2 H3 : Hp} (a : Same H H1) (b : Same H2 H3) : Same (Nw H1 H2) (Nw H H3) := fun x o h => by
  obtain ⟨h1, h2⟩ := nw_some h
  rw [nw_at (a.free h1)]
  exact b x o h2
/-- what is there is there -/
def Dm (H H' : Hp) : Prop := ∀ a, H' a = none → H a = none
theorem Same.dm {H H' : Hp} (s : Same H H') : Dm H H' := fun _ h => s.free h
theorem Dm.trans {H H1 H2 : Hp} (a : Dm H H1) (b : Dm H1 H2) : Dm H H2 := fun x h => a x (b x h)
theorem dm_upd {H H' : Hp} {D : Addr} {o u : HO} (s : Same H H') (h : H' D = some o) : Dm (upd H D u) H' := fun a ha => by
  have hne : a ≠ D := fun e => by rw [e, h] at ha; cases ha
  rw [upd_ne hne]
  exact s.free ha
theorem dm_up {H : Hp} {D : Addr} {u : HO} : Dm H (upd H D u) := fun a ha => by
  by_cases e : a = D
  · rw [e, upd_same] at ha; cases ha
  · rw [upd_ne e] at ha; exact ha
theorem nw_mono2 {H H1 H2 H3 : Hp} (a : Dm H H1) (b : Same H2 H3) : Same (Nw H1 H2) (Nw H H3) := fun x o h => by
  obtain ⟨h1, h2⟩ := nw_some h
  rw [nw_at (a x h1)]
  exact b x o h2
theorem nw_upd {H H' : Hp} {a : Addr} {o u : HO} (h : H a = some o) : Same (Nw H H') (Nw H (upd H' a u)) := fun x y e => by
  obtain ⟨h1, h2⟩ := nw_some e
  rw [nw_at h1, upd_ne (ne_of_none h h1).symm]
  exact h2
inductive Ar where
  | add | sub | mul
def Ar.tx : Ar → Str
  | .add => Str.ofString "+"
  | .sub => Str.ofString "-"
  | .mul => Str.ofString "*"
def Ar.ev : Ar → Int → Int → Int
  | .add, a, b => a + b
  | .sub, a, b => a - b
  | .mul, a, b => a * b
inductive VT where
  | int (i : Int) | nm (s : Str) | op (o : Ar) (a b : VT)
def VT.ht : VT → Nat
  | .op _ a b => max a.ht b.ht + 1
  | _ => 0
def RVal (H : Hp) : VT → V → Prop
  | .int i, v => v = .int i
  | .nm s, v => v = .str s
  | .op o a b, v => ∃ t x y, v = .ref t ∧ H t = some (.tup [.str o.tx, x, y]) ∧ RVal H a x ∧ RVal H b y
theorem RVal.mono {H H' : Hp} (e : Same H H') : ∀ {t : VT} {v : V}, RVal H t v → RVal H' t v
  | .int _, _, h => h
  | .nm _, _, h => h
  | .op _ _ _, _, ⟨t, x, y, e1, e2, ha, hb⟩ => ⟨t, x, y, e1, e _ _ e2, RVal.mono e ha, RVal.mono e hb⟩
def look (kvs : List (Key × V)) (s : Str) : Int := match valV kvs (Sum.inr s) with
  | some (.int i) => i
  | _ => 0
def VT.ev (kvs : List (Key × V)) : VT → Int
  | .int i => i
  | .nm s => look kvs s
  | .op o a b => o.ev (a.ev kvs) (b.ev kvs)
def VT.wt : VT → Nat
  | .op _ a b => a.wt + b.wt
  | _ => 8
def Fine (kvs : List (Key × V)) : VT → Prop
  | .int i => i.natAbs < 256
  | .nm s => ∃ i : Int, valV kvs (Sum.inr s) = some (.int i) ∧ i.natAbs < 256
  | .op _ a b => Fine kvs a ∧ Fine kvs b
theorem VT.wt_pos : ∀ t : VT, 8 ≤ t.wt
  | .int _ => Nat.le_refl 8
  | .nm _ => Nat.le_refl 8
  | .op _ a b => by show 8 ≤ a.wt + b.wt; have := a.wt_pos; omega
theorem pow_add_le {a b x y : Nat} (ha : x < 2 ^ a) (hb : y < 2 ^ b) (h1 : 1 ≤ a) (h2 : 1 ≤ b) : x + y < 2 ^ (a + b) := by
  have ea : 2 ^ (a + b) = 2 ^ a * 2 ^ b := Nat.pow_add 2 a b
  have h3 : 2 ≤ 2 ^ a := by
    have := Nat.pow_le_pow_right (show 0 < 2 by decide) h1
    omega
  have h4 : 2 ≤ 2 ^ b := by
    have := Nat.pow_le_pow_right (show 0 < 2 by decide) h2
    omega
  generalize 2 ^ a = u at *
  generalize 2 ^ b = v at *
  rw [ea]
  have h5 : u + v ≤ u * v := by
    rcases Nat.le_total u v with h | h
    · have := Nat.mul_le_mul_right v h3
      omega
    · have := Nat.mul_le_mul_left u h4
      omega
  omega
theorem ev_lt {kvs : List (Key × V)} : ∀ {t : VT}, Fine kvs t → (t.ev kvs).natAbs < 2 ^ t.wt
  | .int i, h => h
  | .nm s, ⟨i, e, h⟩ => by
    show (look kvs s).natAbs < 2 ^ 8
    unfold look
    rw [e]
    exact h
  | .op o a b, ⟨ha, hb⟩ => by
    have h1 := ev_lt ha
    have h2 := ev_lt hb
    have p1 := a.wt_pos
    have p2 := b.wt_pos
    have h3 := pow_add_le h1 h2 (by omega) (by omega)
    show (o.ev (a.ev kvs) (b.ev kvs)).natAbs < 2 ^ (a.wt + b.wt)
    cases o with
    | add => show (a.ev kvs + b.ev kvs).natAbs < _; omega
    | sub => show (a.ev kvs - b.ev kvs).natAbs < _; omega
    | mul => exact wide_lt h1 h2
inductive Cp where
  | eq | lt | le
def Cp.tx : Cp → Str
  | .eq => Str.ofString "="
  | .lt => Str.ofString "<"
  | .le => Str.ofString "<="
def Cp.ev : Cp → Int → Int → Bool
  | .eq, a, b => decide (V.int a = V.int b)
  | .lt, a, b => decide (a < b)
  | .le, a, b => decide (a ≤ b)
inductive CT where
  | bl (b : Bool) | no (c : CT) | an (a b : CT) | or (a b : CT) | cp (o : Cp) (a b : VT)
def CT.ht : CT → Nat
  | .bl _ => 0
  | .no c => c.ht + 1
  | .an a b => max a.ht b.ht + 1
  | .or a b => max a.ht b.ht + 1
  | .cp _ _ _ => 0
def RCond (H : Hp) : CT → V → Prop
  | .bl b, v => v = .bl b
  | .no c, v => ∃ t x, v = .ref t ∧ H t = some (.tup [.str (Str.ofString "not"), x]) ∧ RCond H c x
  | .an a b, v => ∃ t x y, v = .ref t ∧ H t = some (.tup [.str (Str.ofString "and"), x, y]) ∧ RCond H a x ∧ RCond H b y
  | .or a b, v => ∃ t x y, v = .ref t ∧ H t = some (.tup [.str (Str.ofString "or"), x, y]) ∧ RCond H a x ∧ RCond H b y
  | .cp o a b, v => ∃ t x y, v = .ref t ∧ H t = some (.tup [.str o.tx, x, y]) ∧ RVal H a x ∧ RVal H b y
theorem RCond.mono {H H' : Hp} (e : Same H H') : ∀ {t : CT} {v : V}, RCond H t v → RCond H' t v
  | .bl _, _, h => h
  | .no _, _, ⟨t, x, e1, e2, ha⟩ => ⟨t, x, e1, e _ _ e2, RCond.mono e ha⟩
  | .an _ _, _, ⟨t, x, y, e1, e2, ha, hb⟩ => ⟨t, x, y, e1, e _ _ e2, RCond.mono e ha, RCond.mono e hb⟩
  | .or _ _, _, ⟨t, x, y, e1, e2, ha, hb⟩ => ⟨t, x, y, e1, e _ _ e2, RCond.mono e ha, RCond.mono e hb⟩
  | .cp _ _ _, _, ⟨t, x, y, e1, e2, ha, hb⟩ => ⟨t, x, y, e1, e _ _ e2, RVal.mono e ha, RVal.mono e hb⟩
def CT.ev (kvs : List (Key × V)) : CT → Bool
  | .bl b => b
  | .no c => !c.ev kvs
  | .an a b => a.ev kvs && b.ev kvs
  | .or a b => a.ev kvs || b.ev kvs
  | .cp o a b => o.ev (a.ev kvs) (b.ev kvs)
/-- every value in it is fine, of height below n and of weight at most m -/
def CFine (kvs : List (Key × V)) (n m : Nat) : CT → Prop
  | .bl _ => True
  | .no c => CFine kvs n m c
  | .an a b => CFine kvs n m a ∧ CFine kvs n m b
  | .or a b => CFine kvs n m a ∧ CFine kvs n m b
  | .cp _ a b => (Fine kvs a ∧ a.ht < n ∧ a.wt ≤ m) ∧ Fine kvs b ∧ b.ht < n ∧ b.wt ≤ m
/-! ### data: what stands in the heap, at any depth -/
mutual
theorem dp_mono {K : PySem.W.Frag} {H H' : Hp} (e : Same H H') : ∀ {v : V} {d : PyData}, Dp K H v d → Dp K H' v d
  | _, .none, .non => .non
  | _, .bool _, .bl b => .bl b
  | _, .int _, .int i => .int i
  | _, .str _, .str x => .str x
  | _, .list _, .lst h a => .lst (e.seq h) (dpAll_mono e a)
  | _, .tuple _, .tup h a => .tup (Same.seqT e h) (dpAll_mono e a)
theorem dpAll_mono {K : PySem.W.Frag} {H H' : Hp} (e : Same H H') : ∀ {vs : List V} {ds : List PyData}, DpAll K H vs ds → DpAll K H' vs ds
  | _, [], .nil => .nil
  | _, _ :: _, .cons h t => .cons (dp_mono e h) (dpAll_mono e t)
end
theorem dpa_len {K : PySem.W.Frag} {H : Hp} : ∀ {ds : List PyData} {vs : List V}, DpAll K H vs ds → vs.length = ds.length
  | [], _, .nil => rfl
  | _ :: _, _, .cons _ t => congrArg (· + 1) (dpa_len t)
theorem dpa_at {K : PySem.W.Frag} {H : Hp} : ∀ {ds : List PyData} {vs : List V}, DpAll K H vs ds → ∀ {i : Nat} {v : V}, vs[i]? = some v → ∃ d, ds[i]? = some d ∧ Dp K H v d
  | [], _, .nil, i, v, h => by simp at h
  | _ :: _, _, .cons a t, 0, v, h => by
    have := Option.some.inj h
    subst this
    exact ⟨_, rfl, a⟩
  | _ :: _, _, .cons a t, i + 1, v, h => dpa_at t (i := i) h
theorem dpa_at' {K : PySem.W.Frag} {H : Hp} : ∀ {ds : List PyData} {vs : List V}, DpAll K H vs ds → ∀ {i : Nat} {d : PyData}, ds[i]? = some d → ∃ v, vs[i]? = some v ∧ Dp K H v d
  | [], _, .nil, i, v, h => by simp at h
  | _ :: _, _, .cons a t, 0, v, h => by
    have := Option.some.inj h
    subst this
    exact ⟨_, rfl, a⟩
  | _ :: _, _, .cons a t, i + 1, v, h => dpa_at' t (i := i) h
theorem dpa_app {K : PySem.W.Frag} {H : Hp} : ∀ {ds es : List PyData} {vs us : List V}, DpAll K H vs ds → DpAll K H us es → DpAll K H (vs ++ us) (ds ++ es)
  | [], _, _, _, .nil, b => b
  | _ :: _, _, _, _, .cons a t, b => .cons a (dpa_app t b)
theorem dpa_strs {K : PySem.W.Frag} {H : Hp} : ∀ ss : List Str, DpAll K H (ss.map V.str) (ss.map PyData.str)
  | [] => .nil
  | s :: r => .cons (.str s) (dpa_strs r)
theorem dpa_ints {K : PySem.W.Frag} {H : Hp} : ∀ ss : List Int, DpAll K H (ss.map V.int) (ss.map PyData.int)
  | [] => .nil
  | s :: r => .cons (.int s) (dpa_ints r)
/-- a tuple of data -/
theorem dp_tup {K : PySem.W.Frag} {H : Hp} {v : V} {ds : List PyData} (h : Dp K H v (.tuple ds)) : ∃ a xs, v = .ref a ∧ SqT K H a xs ∧ DpAll K H xs ds := by
  cases h with
  | tup hs ha => exact ⟨_, _, rfl, hs, ha⟩
theorem dp_lst {K : PySem.W.Frag} {H : Hp} {v : V} {ds : List PyData} (h : Dp K H v (.list ds)) : ∃ a xs, v = .ref a ∧ SqL K H a xs ∧ DpAll K H xs ds := by
  cases h with
  | lst hs ha => exact ⟨_, _, rfl, hs, ha⟩
theorem dp_str {K : PySem.W.Frag} {H : Hp} {v : V} {s : Str} (h : Dp K H v (.str s)) : v = .str s := by cases h; rfl
theorem dp_int {K : PySem.W.Frag} {H : Hp} {v : V} {s : Int} (h : Dp K H v (.int s)) : v = .int s := by cases h; rfl
theorem dpa_cons {K : PySem.W.Frag} {H : Hp} {vs : List V} {d : PyData} {ds : List PyData} (h : DpAll K H vs (d :: ds)) : ∃ v r, vs = v :: r ∧ Dp K H v d ∧ DpAll K H r ds := by
  cases h with
  | cons a t => exact ⟨_, _, rfl, a, t⟩
theorem dpa_nil {K : PySem.W.Frag} {H : Hp} {vs : List V} (h : DpAll K H vs []) : vs = [] := by cases h; rfl
theorem dpa_strsE {K : PySem.W.Frag} {H : Hp} : ∀ {ss : List Str} {vs : List V}, DpAll K H vs (ss.map PyData.str) → vs = ss.map V.str
  | [], _, h => dpa_nil h
  | s :: r, _, h => by
    obtain ⟨v, q, rfl, a, t⟩ := dpa_cons h
    rw [dp_str a, dpa_strsE t]
    rfl
/-! ### data that can be shown and compared -/
mutual
def nice : PyData → Bool
  | .none | .bool _ => true
  | .int i => decide (i.natAbs < 10 ^ 7)
  | .str s => (s.cps.toList.all fun c => decide (c < 128)) && decide (s.length ≤ 20)
  | .list xs | .tuple xs => niceAll xs
  | .dict _ => false
def niceAll : List PyData → Bool
  | [] => true
  | x :: xs => nice x && niceAll xs
end
mutual
def cells : PyData → Nat
  | .list xs | .tuple xs => cellsAll xs + 1
  | .none | .bool _ | .int _ | .str _ | .dict _ => 1
def cellsAll : List PyData → Nat
  | [] => 0
  | x :: xs => cells x + cellsAll xs
end
mutual
theorem nice_lay : ∀ d : PyData, nice d = true → d.canLay0 = true
  | .none, _ => rfl
  | .bool _, _ => rfl
  | .int _, _ => rfl
  | .str s, h => by
    simp only [nice, Bool.and_eq_true, List.all_eq_true, decide_eq_true_eq] at h
    show (s.cps.all fun c => decide (c < 0x110000)) = true
    rw [← Array.all_toList, List.all_eq_true]
    intro c hc
    have := h.1 c hc
    exact decide_eq_true (by omega)
  | .list xs, h => by
    show PyData.canLayAll0 xs = true
    exact nice_layAll xs h
  | .tuple xs, h => by
    show PyData.canLayAll0 xs = true
    exact nice_layAll xs h
  | .dict _, h => nomatch h
theorem nice_layAll : ∀ xs : List PyData, niceAll xs = true → PyData.canLayAll0 xs = true
  | [], _ => rfl
  | x :: xs, h => by
    have h' : nice x = true ∧ niceAll xs = true := by simpa only [niceAll, Bool.and_eq_true] using h
    show (x.canLay0 && PyData.canLayAll0 xs) = true
    rw [nice_lay x h'.1, nice_layAll xs h'.2]
    rfl
end
mutual
theorem nice_short : ∀ d : PyData, nice d = true → d.leavesShort 8 = true ∧ d.showable = true
  | .none, _ => ⟨rfl, rfl⟩
  | .bool _, _ => ⟨rfl, rfl⟩
  | .int i, h => by
    have h1 : i.natAbs < 10 ^ 7 := by simpa only [nice, decide_eq_true_eq] using h
    refine ⟨?_, ?_⟩
    · show decide ((Str.ofString (toString i)).length ≤ 8) = true
      have := int_text_length_le10 (a := i) (k := 7) (by decide) h1
      refine decide_eq_true ?_
      rw [PySem.ofString_length]
      exact this
    · show decide (i.natAbs.log2 < 1920) = true
      refine decide_eq_true ?_
      have h2 : i.natAbs.log2 ≤ i.natAbs := Nat.log2_le_self _
      by_cases h0 : i.natAbs = 0
      · rw [h0]; decide
      · rw [Nat.log2_lt h0]
        exact Nat.lt_of_lt_of_le h1 (by decide +kernel)
  | .str s, h => by
    simp only [nice, Bool.and_eq_true, List.all_eq_true, decide_eq_true_eq] at h
    refine ⟨?_, rfl⟩
    show (s.cps.toList.all fun c => decide (c < 16 ^ 8)) = true
    rw [List.all_eq_true]
    intro c hc
    have := h.1 c hc
    exact decide_eq_true (Nat.lt_of_lt_of_le this (by decide))
  | .list xs, h => nice_shortAll xs h
  | .tuple xs, h => nice_shortAll xs h
  | .dict _, h => nomatch h
theorem nice_shortAll : ∀ xs : List PyData, niceAll xs = true → PyData.leavesShortAll 8 xs = true ∧ PyData.showableAll xs = true
  | [], _ => ⟨rfl, rfl⟩
  | x :: xs, h => by
    have h' : nice x = true ∧ niceAll xs = true := by simpa only [niceAll, Bool.and_eq_true] using h
    obtain ⟨a1, a2⟩ := nice_short x h'.1
    obtain ⟨b1, b2⟩ := nice_shortAll xs h'.2
    refine ⟨?_, ?_⟩
    · show (x.leavesShort 8 && PyData.leavesShortAll 8 xs) = true
      rw [a1, b1]; rfl
    · show (x.showable && PyData.showableAll xs) = true
      rw [a2, b2]; rfl
end
mutual
theorem nice_bulk : ∀ d : PyData, nice d = true → d.bulk + 1 ≤ 21 * cells d
  | .none, _ => by decide
  | .bool _, _ => by show 0 + 1 ≤ 21 * 1; decide
  | .int _, _ => by show 0 + 1 ≤ 21 * 1; decide
  | .str s, h => by
    simp only [nice, Bool.and_eq_true, List.all_eq_true, decide_eq_true_eq] at h
    have : s.cps.size ≤ 20 := h.2
    show s.cps.size + 1 ≤ 21 * 1
    omega
  | .list xs, h => by
    have := nice_bulkAll xs h
    show PyData.bulkAll xs + 1 ≤ 21 * (cellsAll xs + 1)
    omega
  | .tuple xs, h => by
    have := nice_bulkAll xs h
    show PyData.bulkAll xs + 1 ≤ 21 * (cellsAll xs + 1)
    omega
  | .dict _, h => nomatch h
theorem nice_bulkAll : ∀ xs : List PyData, niceAll xs = true → PyData.bulkAll xs ≤ 21 * cellsAll xs
  | [], _ => by decide
  | x :: xs, h => by
    have h' : nice x = true ∧ niceAll xs = true := by simpa only [niceAll, Bool.and_eq_true] using h
    have h1 := nice_bulk x h'.1
    have h2 := nice_bulkAll xs h'.2
    show x.bulk + 1 + PyData.bulkAll xs ≤ 21 * (cells x + cellsAll xs)
    omega
end
structure NcD (d : PyData) (c m : Nat) : Prop where
  ni : nice d = true
  ce : cells d ≤ c
  de : d.depth ≤ m
structure NcL (ds : List PyData) (c m : Nat) : Prop where
  ni : niceAll ds = true
  ce : cellsAll ds ≤ c
  de : PyData.depthAll ds ≤ m
theorem NcD.mono {d : PyData} {c m c' m' : Nat} (h : NcD d c m) (h1 : c ≤ c') (h2 : m ≤ m') : NcD d c' m' := ⟨h.ni, Nat.le_trans h.ce h1, Nat.le_trans h.de h2⟩
theorem NcL.mono {d : List PyData} {c m c' m' : Nat} (h : NcL d c m) (h1 : c ≤ c') (h2 : m ≤ m') : NcL d c' m' := ⟨h.ni, Nat.le_trans h.ce h1, Nat.le_trans h.de h2⟩
theorem NcL.nil {c m : Nat} : NcL [] c m := ⟨rfl, Nat.zero_le _, Nat.zero_le _⟩
theorem NcL.cons {d : PyData} {ds : List PyData} {c1 c2 m : Nat} (h : NcD d c1 m) (t : NcL ds c2 m) : NcL (d :: ds) (c1 + c2) m := by
  have h1 := h.ce
  have h2 := t.ce
  have h3 := h.de
  have h4 := t.de
  refine ⟨?_, ?_, ?_⟩
  · show (nice d && niceAll ds) = true
    rw [h.ni, t.ni]; rfl
  · show cells d + cellsAll ds ≤ c1 + c2
    omega
  · show max d.depth (PyData.depthAll ds) ≤ m
    omega
theorem NcL.tup {ds : List PyData} {c m : Nat} (h : NcL ds c m) : NcD (.tuple ds) (c + 1) (m + 1) := ⟨h.ni, Nat.succ_le_succ h.ce, Nat.succ_le_succ h.de⟩
theorem NcL.lst {ds : List PyData} {c m : Nat} (h : NcL ds c m) : NcD (.list ds) (c + 1) (m + 1) := ⟨h.ni, Nat.succ_le_succ h.ce, Nat.succ_le_succ h.de⟩
theorem NcD.str {s : Str} {m : Nat} (h : nice (.str s) = true) : NcD (.str s) 1 m := ⟨h, Nat.le_refl _, Nat.zero_le _⟩
theorem NcD.int {i : Int} {m : Nat} (h : i.natAbs < 10 ^ 7) : NcD (.int i) 1 m := ⟨decide_eq_true h, Nat.le_refl _, Nat.zero_le _⟩
theorem NcD.shaped {d : PyData} {c m : Nat} (h : NcD d c m) (hm : m ≤ 64) : SeqAt.shaped d = true := by
  show (d.canLay0 && decide (d.depth ≤ 64)) = true
  have h1 := h.de
  rw [nice_lay d h.ni, decide_eq_true (by omega)]
  rfl
theorem NcD.eqv {d : PyData} {c m : Nat} (h : NcD d c m) : PyData.eqv d d = true := SeqAt.eqv_refl d (nice_lay d h.ni)
structure Shw (d : PyData) : Prop where
  sh : d.showable = true
  nd : d.hasDict = false
  de : d.depth ≤ 60
  ln : d.shown.length ≤ sizeLine
theorem NcD.shw {d : PyData} {c m : Nat} (h : NcD d c m) (hc : c ≤ 40000) (hm : m ≤ 60) : Shw d := by
  have h1 := nice_short d h.ni
  have h2 := nice_bulk d h.ni
  have h3 := h.de
  have h4 := h.ce
  refine ⟨h1.2, PyData.hasDict_of_canLay d (nice_lay d h.ni), by omega, PyData.shown_fits_bulk (by decide) (by decide) h1.1 ?_⟩
  rw [show (2 : Nat) ^ 20 = 1048576 from rfl]
  omega
/-! ### repr of data, and a law's call from outside all frames (there no guard is up) -/
section
variable {X : Cx}
def rRepr (K : PySem.W.Frag) : List V → Hp → VK → Prop := fun xs H Q => ∃ (a : Addr) (d : PyData), xs = [.ref a] ∧ Dp K H (.ref a) d ∧ d.showable = true ∧ d.hasDict = false ∧ d.depth ≤ 60 ∧ d.shown.length ≤ sizeLine ∧ Q (.str d.shown) H
theorem cRepr (K : PySem.W.Frag) (hg : X.A.guards = some []) (hu : X.A.units + 64 < cLine) (hK : X.K = K := by rfl) : CallR X (.builtin "repr") (rRepr K) := by
  subst hK
  rintro pins s σ H xs us Q I r ⟨a, d, rfl, hd, hs, hn, hp, hz, q⟩
  obtain ⟨u, rfl, ru⟩ := vals1 r
  cases ru
  obtain ⟨as, hr⟩ := Dp.reads I d _ _ hd rfl
  exact PySem.repr_of_reads' hr hs (fun z => by rw [hn] at z; cases z) hg (by omega) (fun _ _ e => e) (fun h' t tk kp => ⟨.str d.shown, H, I.kept kp, ⟨t, rfl⟩, q⟩) hz
end
/-- the law's def keeps sp where it is called with the script, from outside -/
def TopOk (P : Program) (w : World) (K : PySem.W.Frag) (mg : Str → Option Value) (base : Heap) (f : Addr) (sp : Sp) : Prop :=
  ∀ (s : Shared) (H : Hp) (a : Addr) (Q : VK), Env0 P w K mg base callerA [] s H → sp [.ref a] H Q E0 → codeAny (model P w) callerA (.call (.ref f) ⟨[.ref a], []⟩) (CR CX0 [] P w H s Q E0) s
theorem top_ok {P : Program} {w : World} {K : PySem.W.Frag} {mg : Str → Option Value} {base : Heap} {x : Str} {st : Stmt} {f : Addr} {fd : FuncData} {N : List Str} {k : Nat} {sp : Sp} (F : Fun K x x st f fd) (S : FnScope N ["script"] (defScope st)) (hroom : Room (k + 1) callerA)
    (bind : ∀ (s : Shared) (v : Value), BindsTo s fd ⟨[v], []⟩ [("script", v)])
    (body : ∀ (cdv : Value) (s : Shared) (H : Hp) (a : Addr) (Q : VK), Room k (callerA.deeper (envOfC x (defScope st) s.heap.objs.size f cdv)) → sp [.ref a] H Q E0 →
      ∃ t, PSs (cxOf CX0 P w K mg base N x (defScope st) f cdv callerA [] s H E0).nox (defBody st) t ∧ t { nx := fun _ H' => Q .non H', rt := Q } (start N [.ref a]) H) : TopOk P w K mg base f sp := by
  obtain ⟨c1, c2, c3, c4, c5, c6, cd, c8, c9, rfl, look, code⟩ := F.ex
  intro s H a Q env want
  have inS : K.In s.heap := PySem.W.Frag.In.keeps env.mod.kin (fun b o z => (env.bs b o z).1)
  have room := hroom.deeper (envOfC x (defScope st) s.heap.objs.size f cd)
  obtain ⟨t, good, read⟩ := body cd s H a Q room want
  refine codeAny_call_function (by decide) (inS f _ look) rfl S.co S.gen rfl (PySem.W.codeRec_of inS code) (bind s _ _ _ _ _ ?_)
  have names : ∀ y ∈ [(("script" : Str), Value.ref a)], (defScope st).names.lookup y.1 = some .local ∨ ((defScope st).names.lookup y.1 = some .cell ∧ ((cellsFrom (s.heap.objs.size + 1) (defScope st).names []).lookup y.1).isSome = true) := by
    intro y hy
    rw [List.mem_singleton.mp hy]
    exact (S.par "script" List.mem_cons_self).imp id fun z => ⟨z, PySem.W.cellsFrom_some _ _ _ (.inl z)⟩
  refine wpAny_newFunctionEnv_cells S.kind names ?_
  rintro _ rfl s1 made
  have few : s.heap.NoLimit := Heap.NoLimit.keeps env.mod.nolimit (fun b o z => (env.bs b o z).1)
  refine ⟨Heap.NoLimit.keeps few made.toInCall.keep, codeAny_func ?_⟩
  have inv := inv_start (CX := CX0) (vs := [V.ref a]) (us := [Value.ref a]) (E := E0) S hroom.hd env rfl (.cons rfl .nil) made
  refine wpAny_mono (good.nox.run [] s1 _ H _ inv read) ?_ (fun _ _ z => z)
  intro fl s2 out
  cases fl with
  | brk => exact False.elim out.choose_spec.choose_spec.2
  | cont => exact False.elim out.choose_spec.choose_spec.2
  | next =>
    obtain ⟨σ2, H2, inv2, q2⟩ := out
    exact ⟨.non, H2, inv2.os, inv2.bare, inv2.base, inv2.hok, rfl, q2⟩
  | ret u =>
    obtain ⟨v, σ2, H2, inv2, rel, q2⟩ := out
    exact ⟨v, H2, inv2.os, inv2.bare, inv2.base, inv2.hok, rel, q2⟩
/-- what the object of the script is taken for: the locked list, unless it is an object of the module -/
def hpOf (K : PySem.W.Frag) (a : Addr) (o : Obj) (ns : List Int) : Hp := fun b => if b = a ∧ K.lookup a = none then some (.frz o (.lst (ns.map V.int))) else none
theorem hp_none {K : PySem.W.Frag} {a b : Addr} {o : Obj} {ns : List Int} (h : b ≠ a) : hpOf K a o ns b = none := if_neg fun z => h z.1
theorem hp_ne {K : PySem.W.Frag} {a b : Addr} {o : Obj} {ns : List Int} {u : HO} (h : hpOf K a o ns b = some u) : b = a ∧ K.lookup a = none ∧ u = .frz o (.lst (ns.map V.int)) := by
  unfold hpOf at h
  split at h
  · rename_i c
    exact ⟨c.1, c.2, (Option.some.inj h).symm⟩
  · cases h
theorem ints_vals : ∀ {vs : List Value} {ns : List Int}, IntsAre vs ns → Vals (ns.map V.int) vs := fun h => vals_ints h
theorem top_call {P : Program} {w : World} {K : PySem.W.Frag} {mg mb : Str → Option Value} {fa a : Addr} {sp : Sp} {s1 : Shared} {vs : List Value} {ns : List Int} (KX : K.In s1.heap) (hns : s1.heap.Ns mainGlobals mg) (hb : s1.heap.Ns builtinsNs mb) (hbb : ∀ x : Str, x ≠ "__name__" → mb x = bootBuiltins x)
    (hlim : s1.heap.NoLimit) (hg : s1.gens = #[]) (ha : s1.heap.get? a = some { cls := .type "list", data := .seq vs.toArray }) (hi : IntsAre vs ns) (hl : ns.length ≤ sizeLine) (F : ∀ base : Heap, K.In base → base.Ns mainGlobals mg → TopOk P w K mg base fa sp)
    (hsp : ∀ H : Hp, SqL K H a (ns.map V.int) → sp [.ref a] H (fun v _ => v = .bl true) E0) :
    codeAny (model P w) callerA (.call (.ref fa) ⟨[.ref a], []⟩) (fun r s' => r = .ok (.ret (.bool true)) ∧ OldK s1.heap s'.heap ∧ s'.os = s1.os ∧ AllBare s'.gens) s1 := by
  have rel := vals_ints hi
  have size := hi.length
  generalize hob : ({ cls := .type "list", data := .seq vs.toArray } : Obj) = ob at ha
  generalize hH : hpOf K a ob ns = H
  have known : ∀ {b : Addr} {u : HO}, H b = some u → b = a ∧ K.lookup a = none ∧ u = .frz ob (.lst (ns.map V.int)) := fun z => hp_ne (hH ▸ z)
  have free : ∀ {b : Addr}, b ≠ a → H b = none := fun z => hH ▸ hp_none z
  -- what is a dict, or the module's own, is not hidden
  have dictFree : ∀ {b : Addr} {o : Obj} {es : Array DictEntry} {ep : Nat}, s1.heap.get? b = some o → o.data = .dict es ep → H b = none := by
    intro b o es ep e d
    refine free fun z => ?_
    rw [z, ha] at e
    cases e
    rw [← hob] at d
    cases d
  have kFree : ∀ {b : Addr} {o : Obj}, K.lookup b = some o → H b = none := by
    intro b o e
    cases h : H b with
    | none => rfl
    | some u =>
      obtain ⟨z1, z2, _⟩ := known h
      rw [z1, z2] at e
      cases e
  have seen : ∀ {b : Addr} {o : Obj}, s1.heap.get? b = some o → H b = none → (hidT s1.heap H).get? b = some o := fun e n => hidT_get e n
  have kIn : K.In (hidT s1.heap H) := fun b o e => seen (KX b o e) (kFree e)
  have spaces : ∀ {b : Addr} {m : Str → Option Value}, s1.heap.Ns b m → (hidT s1.heap H).Ns b m := by
    rintro b m ⟨o, es, ep, e, d, r⟩
    exact ⟨o, es, ep, seen e (dictFree e d), d, r⟩
  have limit : (hidT s1.heap H).NoLimit := by
    obtain ⟨mc, l1, l2⟩ := hlim
    exact ⟨mc, spaces l1, l2⟩
  have ok : HOk P w H s1.heap := by
    intro b u z
    obtain ⟨rfl, _, rfl⟩ := known z
    subst hob
    exact ⟨ha, by rw [List.length_map]; exact hl, vs, _, rel, ha⟩
  have script : SqL K H a (ns.map V.int) := by
    cases h : K.lookup a with
    | none => exact .inl (.inr ⟨ob, by rw [← hH]; exact if_pos ⟨rfl, h⟩⟩)
    | some o =>
      have e := KX a o h
      rw [ha] at e
      cases e
      subst hob
      exact .inr ⟨_, vs.toArray, _, h, rfl, rfl, rfl, by rw [List.size_toArray, size]; exact hl, by rw [List.toList_toArray]; exact rel⟩
  have env : Env0 P w K mg (hidT s1.heap H) callerA [] s1 H := {
    frames := rfl
    mod := ⟨kIn, spaces hns, ⟨mb, spaces hb, hbb⟩, limit⟩
    bs := fun _ _ z => of_hidT z
    bsz := Nat.le_of_eq (hidT_size _ _)
    funs := trivial
    frf := fun _ z => nomatch z
    hok := ok
    bare := .of_eq hg }
  refine codeAny_mono (F _ kIn (spaces hns) s1 H a _ env (hsp H script)) ?_
  intro r s2 out
  match r, out with
  | .error _, out => exact False.elim out
  | .ok .next, out => exact False.elim out
  | .ok .brk, out => exact False.elim out
  | .ok .cont, out => exact False.elim out
  | .ok (.ret u), ⟨v, H2, os, bare, un, ok2, ru, qv⟩ =>
    have qv' : v = .bl true := qv
    subst qv'
    have ru' : u = Value.bool true := ru
    subst ru'
    refine ⟨rfl, OldK.of_keep ?_, os, bare⟩
    intro b o e
    cases h : H b with
    | none => exact un.keep b o e h (fun z => nomatch z) (fun z => nomatch z)
    | some x =>
      obtain ⟨rfl, _, rfl⟩ := known h
      have later := (ok2 b _ (un.frzs b ob _ h)).1
      rw [ha] at e
      cases e
      exact later
theorem walk_top {l : PySem.W.OpenLaw} {n : Nat} {q : Program} {loose : List Str} {XP : (Str → Option Value) → Heap → Prop} {YP : World → Heap → Prop} {d : DefRec} {K : Params → PySem.W.Frag} {sp : World → Sp} (hn : l.most = some n) (hn2 : n ≤ sizeLine) (hdf : d.params.defaults = [])
    (hY : ∀ (w : World) (h : Heap), YP w h → (K w.params).In h)
    (F : ∀ (w : World) (mg : Str → Option Value) (fa : Addr) (h : Heap), (K w.params).In h → h.Ns mainGlobals mg → mg d.name = some (.ref fa) → ∀ base : Heap, (K w.params).In base → base.Ns mainGlobals mg → TopOk l.prog w (K w.params) mg base fa (sp w))
    (hsp : ∀ (w : World) (H : Hp) (a : Addr) (ns : List Int), ns.length ≤ n → SqL (K w.params) H a (ns.map V.int) → sp w [.ref a] H (fun v _ => v = .bl true) E0) :
    PySem.W.WalkO q loose XP YP l.row.toRowW d [] (fun f vs => PySem.call f vs) := by
  refine Att.attach_call hn hdf ?_
  intro w s0 s1 mg mb fa o pm cd doc a vs ns G Y ho hd hcd hmg hobj hints hlen hg
  exact top_call (hY w _ Y) G.T.g G.T.b G.T.builtins G.T.nolimit hg hobj hints (Nat.le_trans hlen hn2) (F w mg fa _ (hY w _ Y) G.T.g hmg) fun H hS => hsp w H a ns hlen hS
theorem orM {A B : TT} {t u r : TS} {D : Ends} {σ : L2.St} {H : Hp} (h : Ans A σ H false) (hb : tSeq (tIfS B t u) r D σ H) : tSeq (tIfS (tOr A B) t u) r D σ H := h _ (iteF hb)
theorem neM (s : Str) : (!decide (V.str s = V.str s)) = false := by
  rw [decide_eq_true rfl]
  rfl
theorem nbM (b : Bool) : (!decide (V.bl b = V.bl b)) = false := by
  rw [decide_eq_true rfl]
  rfl
theorem nvM {d : PyData} (e : PyData.eqv d d = true) : (!PyData.eqv d d) = false := by
  rw [e]
  rfl
theorem ansF {t : TT} {σ : L2.St} {H : Hp} {Q : Bool → Hp → Prop} (h : Ans t σ H false) (q : Q false H) : t σ H Q := h _ q
theorem orA {A B : TT} {σ : L2.St} {H : Hp} {Q : Bool → Hp → Prop} (h : Ans A σ H false) (q : B σ H Q) : tOr A B σ H Q := h _ (iteF q)
/-! ### situations -/
/-- xs[i] read before it is stored anew -/
def rGetL (K : PySem.W.Frag) : R2 := fun x y H Q => ∃ p xs i v, x = .ref p ∧ y = .int i ∧ 0 ≤ i ∧ SqL K H p xs ∧ atI xs i = some v ∧ Q v H
theorem get_list {X : Cx} : PGet X (rGetL X.K) := by
  intro pins s σ H x y v u Q I rx ry h
  obtain ⟨p, xs, i, z, rfl, rfl, h0, hq, he, q⟩ := h
  cases rx
  obtain ⟨t, rfl⟩ := ry
  obtain ⟨its, r, pl, hz⟩ := I.list hq
  obtain ⟨j, h1, h2, h3, h4, h5⟩ := atI_get he
  obtain ⟨w, ew, rw'⟩ := r.get h2
  have hl := r.length
  have hn := line63
  have hj : i.toNat = j := by
    rw [seqIndex_of h0 h5] at h1
    exact Option.some.inj h1
  exact wpAny_getItem_list pl.isList h0 (by omega) (by rw [hj]; simpa using ew) ⟨z, H, I, rw', q⟩
theorem getL {X : Cx} (K : PySem.W.Frag) (h : X.K = K := by rfl) : PGet X (rGetL K) := h ▸ get_list
/-- a situation: a pair of a number and a list of numbers -/
def Sit (K : PySem.W.Frag) (H : Hp) (v : V) (s : Int) (ns : List Int) : Prop := ∃ a ca, v = .ref a ∧ SqT K H a [.int s, .ref ca] ∧ SqL K H ca (ns.map V.int)
theorem Same.sit {K : PySem.W.Frag} {H H' : Hp} (e : Same H H') {v : V} {s : Int} {ns : List Int} (h : Sit K H v s ns) : Sit K H' v s ns := by
  obtain ⟨a, ca, e1, h1, h2⟩ := h
  exact ⟨a, ca, e1, Same.seqT e h1, e.seq h2⟩
def sitD (s : Int) (ns : List Int) : PyData := .tuple [.int s, .list (ns.map PyData.int)]
theorem sit_dp {K : PySem.W.Frag} {H : Hp} {v : V} {s : Int} {ns : List Int} (h : Sit K H v s ns) : Dp K H v (sitD s ns) := by
  obtain ⟨a, ca, rfl, h1, h2⟩ := h
  exact .tup h1 (.cons (.int _) (.cons (.lst h2 (dpa_ints ns)) .nil))
theorem dpa_intsE {K : PySem.W.Frag} {H : Hp} : ∀ {ns : List Int} {vs : List V}, DpAll K H vs (ns.map PyData.int) → vs = ns.map V.int
  | [], _, h => dpa_nil h
  | n :: ns, vs, h => by
    obtain ⟨v, r, rfl, h1, h2⟩ := dpa_cons h
    rw [dp_int h1, dpa_intsE h2]
    rfl
theorem dp_sit {K : PySem.W.Frag} {H : Hp} {v : V} {s : Int} {ns : List Int} (h : Dp K H v (sitD s ns)) : Sit K H v s ns := by
  obtain ⟨a, xs, rfl, h1, h2⟩ := dp_tup h
  obtain ⟨v1, r1, rfl, d1, h2⟩ := dpa_cons h2
  obtain ⟨v2, r2, rfl, d2, h2⟩ := dpa_cons h2
  obtain rfl := dpa_nil h2
  obtain ⟨ca, cxs, rfl, h3, h4⟩ := dp_lst d2
  rw [dp_int d1] at h1
  rw [dpa_intsE h4] at h3
  exact ⟨a, ca, rfl, h1, h3⟩
/-- at least as many everywhere -/
def geAll : List Int → List Int → Bool
  | m :: ms, n :: ns => decide (n ≤ m) && geAll ms ns
  | _, _ => true
theorem geAll_refl : ∀ ms : List Int, geAll ms ms = true
  | [] => rfl
  | m :: ms => by
    show (decide (m ≤ m) && geAll ms ms) = true
    rw [decide_eq_true (Int.le_refl m), geAll_refl ms]
    rfl
theorem geAll_take {ms ns : List Int} {m n : Int} : ∀ {i : Nat}, ms[i]? = some m → ns[i]? = some n → geAll (ms.take (i + 1)) (ns.take (i + 1)) = (geAll (ms.take i) (ns.take i) && decide (n ≤ m)) := by
  induction ms generalizing ns with
  | nil => intro i h; simp at h
  | cons a ms ih =>
    intro i h1 h2
    cases ns with
    | nil => simp at h2
    | cons b ns =>
      cases i with
      | zero =>
        cases h1
        cases h2
        show (decide (n ≤ m) && geAll (ms.take 0) (ns.take 0)) = (true && _)
        rw [List.take_zero, List.take_zero]
        show (decide (n ≤ m) && true) = _
        rw [Bool.and_true, Bool.true_and]
      | succ i =>
        show (decide (b ≤ a) && geAll (ms.take (i + 1)) (ns.take (i + 1))) = ((decide (b ≤ a) && geAll (ms.take i) (ns.take i)) && decide (n ≤ m))
        rw [ih h1 h2, Bool.and_assoc]
theorem geAll_false {ms ns : List Int} : ∀ {i : Nat}, geAll (ms.take i) (ns.take i) = false → geAll ms ns = false := by
  induction ms generalizing ns with
  | nil => intro i h; rw [List.take_nil] at h; cases h
  | cons a ms ih =>
    intro i h
    cases ns with
    | nil => rw [List.take_nil] at h; cases i <;> cases h
    | cons b ns =>
      cases i with
      | zero => cases h
      | succ i =>
        have h' : (decide (b ≤ a) && geAll (ms.take i) (ns.take i)) = false := h
        show (decide (b ≤ a) && geAll ms ns) = false
        cases hb : decide (b ≤ a) with
        | false => rfl
        | true =>
          rw [hb, Bool.true_and] at h'
          rw [ih h']
          rfl
/-- the first covers the second -/
def covB (s : Int) (ms : List Int) (t : Int) (ns : List Int) : Bool := decide (s = t) && geAll ms ns
theorem covB_refl (s : Int) (ms : List Int) : covB s ms s ms = true := by
  unfold covB
  rw [decide_eq_true (show s = s from rfl), geAll_refl]
  rfl
theorem ixN_nat {n j : Nat} (hj : j < n) : ixN n (j : Int) = some j := by
  unfold ixN
  rw [if_pos (by omega), if_pos (by omega)]
  simp
theorem gd {ds : List Int} {i : Nat} (h : i < ds.length) : ds[i]? = some (ds.getD i 0) := by
  rw [List.getD_eq_getElem?_getD, List.getElem?_eq_getElem h]
  rfl
theorem gd_mem {ds : List Int} {i : Nat} (h : i < ds.length) : ds.getD i 0 ∈ ds := List.mem_of_getElem? (gd h)
theorem at_gd {ds : List Int} {i : Int} {j : Nat} (e : i = (j : Int)) (h : j < ds.length) : atI (ds.map V.int) i = some (.int (ds.getD j 0)) := by
  rw [e]
  exact atI_nat (get_map (gd h))
theorem mod_in (z : Int) {m : Int} (h : 0 < m) : 0 ≤ z % m ∧ z % m < m := ⟨Int.emod_nonneg _ (by omega), Int.emod_lt_of_pos _ h⟩
theorem cut_ints {ds : List Int} {a n : Nat} {i j : Int} (h : a + n ≤ ds.length) (hi : i = (a : Int)) (hj : j = ((a + n : Nat) : Int)) : cutV (ds.map V.int) (some i) (some j) = ((ds.drop a).take n).map V.int := by
  subst hi
  subst hj
  unfold cutV
  rw [HT.sIx_nat, HT.sIx_nat, List.length_map, Nat.min_eq_left (show a ≤ ds.length by omega), Nat.min_eq_left h, List.map_take, List.map_drop, Nat.add_sub_cancel_left]
theorem rep_one (n : Nat) (x : V) : (List.replicate n [x]).flatten = List.replicate n x := by
  induction n with
  | zero => rfl
  | succ n ih =>
    show x :: (List.replicate n [x]).flatten = x :: List.replicate n x
    rw [ih]
theorem rep_map (n : Nat) (x : Int) : List.replicate n (V.int x) = (List.replicate n x).map V.int := by rw [List.map_replicate]
theorem int_eqE (a b : Int) : decide (V.int a = V.int b) = decide (a = b) := by
  by_cases h : a = b
  · rw [decide_eq_true h, h, decide_eq_true rfl]
  · rw [decide_eq_false h, decide_eq_false fun z => h (by cases z; rfl)]
/-- the heap without B -/
def Ho (B : Addr) (H : Hp) : Hp := fun x => if x = B then none else H x
theorem ho_out {B : Addr} {H : Hp} : Same (Ho B H) H := fun b x e => by
  unfold Ho at e
  split at e
  · cases e
  · exact e
theorem ho_same {B : Addr} {H H' : Hp} (s : Same H H') : Same (Ho B H) (Ho B H') := fun b x e => by
  unfold Ho at e ⊢
  split at e
  · cases e
  · rename_i h; rw [if_neg h]; exact s _ _ e
theorem ho_mut {B : Addr} {H : Hp} {u : HO} : Same (Ho B H) (Ho B (upd H B u)) := fun b x e => by
  unfold Ho at e ⊢
  split at e
  · cases e
  · rename_i h; rw [if_neg h, upd_ne h]; exact e
theorem ho_first {B : Addr} {H : Hp} {u : HO} (nB : H B = none) : Same H (Ho B (upd H B u)) := fun b x e => by
  have h : b ≠ B := ne_of_none e nB
  show (if b = B then none else upd H B u b) = _
  rw [if_neg h, upd_ne h]
  exact e
theorem dp_newT {K : PySem.W.Frag} {H : Hp} {p : Addr} {xs : List V} {ds : List PyData} (np : H p = none) (h : DpAll K H xs ds) : Dp K (upd H p (.tup xs)) (.ref p) (.tuple ds) := .tup (st upd_same) (dpAll_mono (same_new np) h)
theorem dp_newL {K : PySem.W.Frag} {H : Hp} {p : Addr} {xs : List V} {ds : List PyData} (np : H p = none) (h : DpAll K H xs ds) : Dp K (upd H p (.lst xs)) (.ref p) (.list ds) := .lst (sq upd_same) (dpAll_mono (same_new np) h)
theorem dpo_newT {K : PySem.W.Frag} {H : Hp} {B p : Addr} {o : HO} {xs : List V} {ds : List PyData} (eB : H B = some o) (np : H p = none) (h : DpAll K (Ho B H) xs ds) : Dp K (Ho B (upd H p (.tup xs))) (.ref p) (.tuple ds) := by
  have hne : p ≠ B := fun e => by rw [e, eB] at np; cases np
  refine .tup (st ?_) (dpAll_mono (ho_same (same_new np)) h)
  show (if p = B then none else upd H p (.tup xs) p) = _
  rw [if_neg hne]
  exact upd_same
theorem dpo_newL {K : PySem.W.Frag} {H : Hp} {B p : Addr} {o : HO} {xs : List V} {ds : List PyData} (eB : H B = some o) (np : H p = none) (h : DpAll K (Ho B H) xs ds) : Dp K (Ho B (upd H p (.lst xs))) (.ref p) (.list ds) := by
  have hne : p ≠ B := fun e => by rw [e, eB] at np; cases np
  refine .lst (sq ?_) (dpAll_mono (ho_same (same_new np)) h)
  show (if p = B then none else upd H p (.lst xs) p) = _
  rw [if_neg hne]
  exact upd_same
/-! ### machines -/
abbrev nV (n : Nat) : V := .int (n : Int)
abbrev nD (n : Nat) : PyData := .int (n : Int)
structure MvT where
  st : Nat
  pl : Nat
  ns : Nat
  np : Nat
  sd : Option Nat
  sh : List (Nat × Nat)
def sdV : Option Nat → V
  | none => .non
  | some d => nV d
def sdD : Option Nat → PyData
  | none => .none
  | some d => nD d
def shD (p : Nat × Nat) : PyData := .tuple [nD p.1, nD p.2]
def MvT.data (m : MvT) : PyData := .tuple [nD m.st, nD m.pl, nD m.ns, nD m.np, sdD m.sd, .list (m.sh.map shD)]
structure MT where
  states : Nat
  places : Nat
  sst : Nat
  cnts : List Int
  crew : Nat
  moves : List MvT
def MT.data (M : MT) : PyData := .tuple [nD M.states, nD M.places, sitD M.sst M.cnts, nD M.crew, .list (M.moves.map MvT.data)]
structure ShOk (sh : List (Nat × Nat)) (P : Nat) : Prop where
  asc : (sh.map (·.1)).Pairwise (· < ·)
  fst : ∀ p ∈ sh, p.1 < P
  snd : ∀ p ∈ sh, p.2 < P
  sep : ∀ p ∈ sh, ∀ q ∈ sh, p.2 ≠ q.1
structure MvT.Fit (m : MvT) (S P : Nat) : Prop where
  st : m.st < S
  pl : m.pl < P
  ns : m.ns < S
  np : m.np < P
  sd : ∀ d, m.sd = some d → d < P
  sh : ShOk m.sh P
structure MT.Ok (M : MT) : Prop where
  s1 : 1 ≤ M.states
  s2 : M.states ≤ 4
  p1 : 1 ≤ M.places
  p2 : M.places ≤ 6
  ss : M.sst < M.states
  cl : M.cnts.length = M.places
  cb : ∀ c ∈ M.cnts, 0 ≤ c ∧ c < 3
  cr : M.crew < M.places
  ml : M.moves.length ≤ 12
  fit : ∀ m ∈ M.moves, m.Fit M.states M.places
  nd : M.moves.Nodup
def shiftAll (sh : List (Nat × Nat)) (cs : List Int) : List Int := sh.foldl (fun cs p => (cs.set p.2 (cs.getD p.2 0 + cs.getD p.1 0)).set p.1 0) cs
def bump (cs : List Int) (k : Nat) (z : Int) : List Int := cs.set k (cs.getD k 0 + z)
def MvT.mid (m : MvT) (cs : List Int) : List Int := shiftAll m.sh (bump cs m.pl (-1))
def MvT.aft (m : MvT) (cs : List Int) : List Int := match m.sd with
  | none => bump (m.mid cs) m.np 1
  | some d => bump (bump (m.mid cs) m.np 1) d 1
def MvT.can (m : MvT) (s : Int) (cs : List Int) : Bool := decide ((m.st : Int) = s) && decide (0 < cs.getD m.pl 0)
def canAt (ms : List MvT) (s : Int) (cs : List Int) (k : Nat) : Bool := match ms[k]? with
  | some m => m.can s cs
  | none => false
def canL (ms : List MvT) (s : Int) (cs : List Int) : List Nat := (List.range ms.length).filter (canAt ms s cs)
theorem shiftAll_len : ∀ (sh : List (Nat × Nat)) (cs : List Int), (shiftAll sh cs).length = cs.length
  | [], _ => rfl
  | p :: r, cs => by
    show (shiftAll r _).length = _
    rw [shiftAll_len r, List.length_set, List.length_set]
theorem bump_len (cs : List Int) (k : Nat) (z : Int) : (bump cs k z).length = cs.length := List.length_set
theorem mid_len (m : MvT) (cs : List Int) : (m.mid cs).length = cs.length := by
  unfold MvT.mid
  rw [shiftAll_len, bump_len]
theorem aft_len (m : MvT) (cs : List Int) : (m.aft cs).length = cs.length := by
  unfold MvT.aft
  split
  · rw [bump_len, mid_len]
  · rw [bump_len, bump_len, mid_len]
theorem shiftAll_snoc (sh : List (Nat × Nat)) (p : Nat × Nat) (cs : List Int) : shiftAll (sh ++ [p]) cs = ((shiftAll sh cs).set p.2 ((shiftAll sh cs).getD p.2 0 + (shiftAll sh cs).getD p.1 0)).set p.1 0 := by
  unfold shiftAll
  rw [List.foldl_append]
  rfl
theorem filt_yes {f : Nat → Bool} {i : Nat} (h : f i = true) : (List.range (i + 1)).filter f = (List.range i).filter f ++ [i] := by
  rw [List.range_succ, List.filter_append, List.filter_cons, if_pos h]
  rfl
theorem filt_no {f : Nat → Bool} {i : Nat} (h : f i = false) : (List.range (i + 1)).filter f = (List.range i).filter f := by
  rw [List.range_succ, List.filter_append, List.filter_cons, if_neg (by rw [h]; decide)]
  show _ ++ [] = _
  rw [List.append_nil]
theorem filt_len (n : Nat) (f : Nat → Bool) : ((List.range n).filter f).length ≤ n := by
  have h := List.length_filter_le f (List.range n)
  rw [List.length_range] at h
  exact h
theorem mem_canL {ms : List MvT} {s : Int} {cs : List Int} {k : Nat} : k ∈ canL ms s cs ↔ ∃ m, ms[k]? = some m ∧ m.can s cs = true := by
  unfold canL
  rw [List.mem_filter, List.mem_range]
  unfold canAt
  constructor
  · rintro ⟨h1, h2⟩
    rw [List.getElem?_eq_getElem h1] at h2
    exact ⟨_, List.getElem?_eq_getElem h1, h2⟩
  · rintro ⟨m, h1, h2⟩
    rw [h1]
    exact ⟨(List.getElem?_eq_some_iff.mp h1).1, h2⟩
section
variable {K : PySem.W.Frag} {H : Hp}
theorem dp_sd {v : V} {o : Option Nat} (h : Dp K H v (sdD o)) : v = sdV o := by
  cases o with
  | none => cases h; rfl
  | some d => exact dp_int h
theorem sd_dp (o : Option Nat) : Dp K H (sdV o) (sdD o) := by
  cases o with
  | none => exact .non
  | some d => exact .int _
theorem dp_sh {v : V} {p : Nat × Nat} (h : Dp K H v (shD p)) : ∃ a, v = .ref a ∧ SqT K H a [nV p.1, nV p.2] := by
  obtain ⟨a, xs, rfl, hs, h⟩ := dp_tup h
  obtain ⟨v1, r1, rfl, d1, h⟩ := dpa_cons h
  obtain ⟨v2, r2, rfl, d2, h⟩ := dpa_cons h
  rw [dp_int d1, dp_int d2, dpa_nil h] at hs
  exact ⟨a, rfl, hs⟩
theorem dp_mv {v : V} {m : MvT} (h : Dp K H v m.data) : ∃ a sa xs, v = .ref a ∧ SqT K H a [nV m.st, nV m.pl, nV m.ns, nV m.np, sdV m.sd, .ref sa] ∧ SqL K H sa xs ∧ DpAll K H xs (m.sh.map shD) := by
  obtain ⟨a, xs, rfl, hs, h⟩ := dp_tup h
  obtain ⟨v1, r1, rfl, d1, h⟩ := dpa_cons h
  obtain ⟨v2, r2, rfl, d2, h⟩ := dpa_cons h
  obtain ⟨v3, r3, rfl, d3, h⟩ := dpa_cons h
  obtain ⟨v4, r4, rfl, d4, h⟩ := dpa_cons h
  obtain ⟨v5, r5, rfl, d5, h⟩ := dpa_cons h
  obtain ⟨v6, r6, rfl, d6, h⟩ := dpa_cons h
  obtain rfl := dpa_nil h
  obtain ⟨sa, ys, rfl, h1, h2⟩ := dp_lst d6
  rw [dp_int d1, dp_int d2, dp_int d3, dp_int d4, dp_sd d5] at hs
  exact ⟨a, sa, ys, rfl, hs, h1, h2⟩
theorem dp_mt {v : V} {M : MT} (h : Dp K H v M.data) : ∃ a sv ma xs, v = .ref a ∧ SqT K H a [nV M.states, nV M.places, sv, nV M.crew, .ref ma] ∧ Sit K H sv M.sst M.cnts ∧ SqL K H ma xs ∧ DpAll K H xs (M.moves.map MvT.data) := by
  obtain ⟨a, xs, rfl, hs, h⟩ := dp_tup h
  obtain ⟨v1, r1, rfl, d1, h⟩ := dpa_cons h
  obtain ⟨v2, r2, rfl, d2, h⟩ := dpa_cons h
  obtain ⟨v3, r3, rfl, d3, h⟩ := dpa_cons h
  obtain ⟨v4, r4, rfl, d4, h⟩ := dpa_cons h
  obtain ⟨v5, r5, rfl, d5, h⟩ := dpa_cons h
  obtain rfl := dpa_nil h
  obtain ⟨ma, ys, rfl, h1, h2⟩ := dp_lst d5
  rw [dp_int d1, dp_int d2, dp_int d4] at hs
  exact ⟨a, v3, ma, ys, rfl, hs, dp_sit d3, h1, h2⟩
theorem dpa_map_at {α : Type} {f : α → PyData} {xs : List V} {as : List α} (h : DpAll K H xs (as.map f)) {i : Nat} {x : V} (hx : xs[i]? = some x) : ∃ a, as[i]? = some a ∧ Dp K H x (f a) := by
  obtain ⟨d, hd, dx⟩ := dpa_at h hx
  obtain ⟨a, ha, rfl⟩ : ∃ a, as[i]? = some a ∧ d = f a := by
    rw [List.getElem?_map] at hd
    cases e : as[i]? with
    | none => rw [e] at hd; cases hd
    | some a => rw [e] at hd; exact ⟨a, rfl, (Option.some.inj hd).symm⟩
  exact ⟨a, ha, dx⟩
theorem dpa_map_at' {α : Type} {f : α → PyData} {xs : List V} {as : List α} (h : DpAll K H xs (as.map f)) {i : Nat} {a : α} (ha : as[i]? = some a) : ∃ x, xs[i]? = some x ∧ Dp K H x (f a) := by
  obtain ⟨v, hv, dv⟩ := dpa_at' h (i := i) (d := f a) (by rw [List.getElem?_map, ha]; rfl)
  exact ⟨v, hv, dv⟩
theorem dpa_map_len {α : Type} {f : α → PyData} {xs : List V} {as : List α} (h : DpAll K H xs (as.map f)) : xs.length = as.length := by
  have := dpa_len h
  rw [List.length_map] at this
  exact this
end
theorem at_n {xs : List V} {i : Int} {j : Nat} {v : V} (e : i = (j : Int)) (h : xs[j]? = some v) : atI xs i = some v := by
  rw [e]
  exact atI_nat h
theorem hu65 {A : Around} {k : Nat} (hr : Room k A) : A.units + 65 < cLine := by
  have := hr.un
  omega
theorem opNotInD {X : Cx} (K : PySem.W.Frag) (hu : X.A.units + 65 < cLine) (h : X.K = K := by rfl) : OpR X (compareOp .NotIn) (rNotInD K) := h ▸ op_notInD hu
theorem opInD {X : Cx} (K : PySem.W.Frag) (hu : X.A.units + 65 < cLine) (h : X.K = K := by rfl) : OpR X (compareOp .In) (rInD K) := h ▸ op_inD hu
section
variable {P : Program} {w : World} {K : PySem.W.Frag} {mg : Str → Option Value} {base : Heap}
theorem set_int (cs : List Int) (k : Nat) (z : Int) : (cs.map V.int).set k (.int z) = (cs.set k z).map V.int := List.map_set.symm
/-- the situation after a move -/
def NewSit (H H' : Hp) (p : Addr) (s : Int) (cs : List Int) : Prop := ∃ ca, H p = none ∧ H ca = none ∧ ca ≠ p ∧ H' p = some (.tup [.int s, .ref ca]) ∧ H' ca = some (.lst (cs.map V.int))
theorem NewSit.sit {H H' : Hp} {p : Addr} {s : Int} {cs : List Int} (h : NewSit H H' p s cs) : Sit K H' (.ref p) s cs := by
  obtain ⟨ca, _, _, _, h1, h2⟩ := h
  exact ⟨p, ca, rfl, st h1, sq h2⟩
def spIsPos (K : PySem.W.Frag) : Sp := fun vs H Q _ => ∃ (v x : V) (M : MT) (i : Nat) (m : MvT) (s : Int) (cs : List Int), vs = [v, x, nV i] ∧ Dp K H v M.data ∧ Sit K H x s cs ∧ M.moves[i]? = some m ∧ m.pl < cs.length ∧ Q (.bl (m.can s cs)) H
def spStart (K : PySem.W.Frag) : Sp := fun vs H Q _ => ∃ (v : V) (M : MT) (n : Int), vs = [v, .int n] ∧ Dp K H v M.data ∧ 0 ≤ n ∧ M.crew < M.cnts.length ∧ ∀ H' p, Same H H' → NewSit H H' p M.sst (bump M.cnts M.crew n) → Q (.ref p) H'
abbrev s_start_with : Stmt := topS 6
theorem sc_start_with : FnScope ["machine", "crew", "state", "counts", "threads"] ["machine", "crew"] (defScope s_start_with) := ⟨rfl, rfl, rfl, by decide +kernel, rfl, by decide +kernel, by decide +kernel⟩
-- start_with slots: machine=0 crew=1 state=2 counts=3 threads=4 globals: OutOfRange list
theorem fd_start_with {f : Addr} {fd : FuncData} (F : Fun K "start_with" "start_with" s_start_with f fd) (m : mg "start_with" = some (.ref f)) (B : Bt mg) : Fd P w K mg base "start_with" ["machine", "crew"] 1 (spStart K) := by
  refine ⟨f, fd, F.ok sc_start_with (fun vs H Q E h => ?_) (fun cdv A outer s H vs Q E hr h => ?_), m, F.kp, F.binds (ps := ["machine", "crew"]) fun _ _ _ _ _ _ us hl => match us, hl with | [_, _], _ => rfl⟩
  · obtain ⟨v, M, n, rfl, _⟩ := h
    rfl
  obtain ⟨v, M, n, rfl, hd, hn, hc, q⟩ := h
  obtain ⟨a, sv, ma, xs, rfl, ha, ⟨b, ca, rfl, hb, hca⟩, _, _⟩ := dp_mt hd
  refine ⟨_, (pss_cons (ps_if (pt_cmpR op_lt (pv 1) pe_int (nomark _))
 (pss_one ps_never)
 pss_nil)
 (pss_cons (ps_asg (pe_ix (ixT K) (pv 0) pe_int (fun _ _ => rfl)) (pg_tup rfl (pgs_cons (pg_name (i := 2) sc_start_with.nd rfl (Or.inl rfl)) (pgs_cons (pg_name (i := 3) sc_start_with.nd rfl (Or.inl rfl)) pgs_nil))))
 (pss_cons (ps_set (i := 4) sc_start_with.nd rfl (Or.inl rfl) (pe_callTy (cList K) (by rfl) B.list (by decide +kernel) (pa_cons (pv 3) pa_nil)))
 (pss_cons (ps_augS (pv 4) (pe_ix (ixT K) (pv 0) pe_int (fun _ _ => rfl)) (getL K) (pv 1) ip_add set_list)
 (pss_one (ps_ret (pe_tup (pa_cons (pv 2) (pa_cons (pv 4) pa_nil))))))))), ?_⟩
  refine ⟨_, rfl, _, _, rfl, rfl, _, rfl, ?_⟩
  rw [decide_eq_false (show ¬ n < 0 by omega)]
  refine iteF ?_
  refine ⟨_, rfl, _, _, _, _, rfl, rfl, ha, atI_nat (j := 2) rfl, b, _, rfl, hb, rfl, _, _, rfl, _, _, rfl, rfl, ?_⟩
  dsimp only [gName]
  refine ⟨_, rfl, ca, _, rfl, .inl hca, fun l nl => ?_⟩
  dsimp only [gName]
  refine ⟨_, rfl, _, rfl, _, _, _, _, rfl, rfl, Same.seqT (same_new nl) ha, atI_nat (j := 3) rfl, _, _, _, _, rfl, rfl, (show (0 : Int) ≤ (M.crew : Int) by omega), sq upd_same, at_gd rfl hc, _, rfl, _, _, rfl, rfl, _, _, _, _, rfl, rfl, upd_same, ixN_nat (by rw [List.length_map]; exact hc), ?_⟩
  rw [set_int]
  refine ⟨_, rfl, _, rfl, szc 2, fun p np => ?_⟩
  have pl : p ≠ l := fun e => by rw [e, upd_same] at np; cases np
  exact q _ p ((Same.mut (same_new nl) nl).trans (same_new np)) ⟨l, (Same.mut (same_new nl) nl).free np, nl, Ne.symm pl, upd_same, by rw [upd_ne (Ne.symm pl), upd_same]; rfl⟩
end
abbrev Sp2 := Int × List Int
def oV : Option Int → V
  | none => .non
  | some i => .int i
theorem oV_non {m : Option Int} : decide (oV m = .non) = m.isNone := by
  cases m with
  | none => rfl
  | some i => exact decide_eq_false fun z => by cases z
/-! ### wide situations: counts that may be None -/
def oD : Option Int → PyData
  | none => .none
  | some i => .int i
def WSit (K : PySem.W.Frag) (H : Hp) (v : V) (s : Int) (ns : List (Option Int)) : Prop := ∃ a ca, v = .ref a ∧ SqT K H a [.int s, .ref ca] ∧ SqL K H ca (ns.map oV)
theorem Same.wsit {K : PySem.W.Frag} {H H' : Hp} (e : Same H H') {v : V} {s : Int} {ns : List (Option Int)} (h : WSit K H v s ns) : WSit K H' v s ns := by
  obtain ⟨a, ca, e1, h1, h2⟩ := h
  exact ⟨a, ca, e1, Same.seqT e h1, e.seq h2⟩
def wsitD (s : Int) (ns : List (Option Int)) : PyData := .tuple [.int s, .list (ns.map oD)]
theorem dp_oV {K : PySem.W.Frag} {H : Hp} : ∀ n : Option Int, Dp K H (oV n) (oD n)
  | none => .non
  | some i => .int i
theorem dpa_os {K : PySem.W.Frag} {H : Hp} : ∀ ns : List (Option Int), DpAll K H (ns.map oV) (ns.map oD)
  | [] => .nil
  | n :: r => .cons (dp_oV n) (dpa_os r)
theorem wsit_dp {K : PySem.W.Frag} {H : Hp} {v : V} {s : Int} {ns : List (Option Int)} (h : WSit K H v s ns) : Dp K H v (wsitD s ns) := by
  obtain ⟨a, ca, rfl, h1, h2⟩ := h
  exact .tup h1 (.cons (.int _) (.cons (.lst h2 (dpa_os ns)) .nil))
theorem dp_oE {K : PySem.W.Frag} {H : Hp} {v : V} : ∀ {n : Option Int}, Dp K H v (oD n) → v = oV n
  | none, h => by cases h; rfl
  | some i, h => dp_int h
theorem dpa_osE {K : PySem.W.Frag} {H : Hp} : ∀ {ns : List (Option Int)} {vs : List V}, DpAll K H vs (ns.map oD) → vs = ns.map oV
  | [], _, h => dpa_nil h
  | n :: ns, vs, h => by
    obtain ⟨v, r, rfl, h1, h2⟩ := dpa_cons h
    rw [dp_oE h1, dpa_osE h2]
    rfl
theorem dp_wsit {K : PySem.W.Frag} {H : Hp} {v : V} {s : Int} {ns : List (Option Int)} (h : Dp K H v (wsitD s ns)) : WSit K H v s ns := by
  obtain ⟨a, xs, rfl, h1, h2⟩ := dp_tup h
  obtain ⟨v1, r1, rfl, d1, h2⟩ := dpa_cons h2
  obtain ⟨v2, r2, rfl, d2, h2⟩ := dpa_cons h2
  obtain rfl := dpa_nil h2
  obtain ⟨ca, cxs, rfl, h3, h4⟩ := dp_lst d2
  rw [dp_int d1] at h1
  rw [dpa_osE h4] at h3
  exact ⟨a, ca, rfl, h1, h3⟩
/-- a count that is enough for another one -/
def geO : Option Int → Option Int → Bool
  | none, _ => true
  | some m, some n => decide (n ≤ m)
  | some _, none => false
def geW : List (Option Int) → List (Option Int) → Bool
  | m :: ms, n :: ns => geO m n && geW ms ns
  | _, _ => true
theorem geO_refl : ∀ m : Option Int, geO m m = true
  | none => rfl
  | some m => decide_eq_true (Int.le_refl m)
theorem geW_refl : ∀ ms : List (Option Int), geW ms ms = true
  | [] => rfl
  | m :: ms => by
    show (geO m m && geW ms ms) = true
    rw [geO_refl, geW_refl ms]
    rfl
theorem geW_take {ms ns : List (Option Int)} {m n : Option Int} : ∀ {i : Nat}, ms[i]? = some m → ns[i]? = some n → geW (ms.take (i + 1)) (ns.take (i + 1)) = (geW (ms.take i) (ns.take i) && geO m n) := by
  induction ms generalizing ns with
  | nil => intro i h; simp at h
  | cons a ms ih =>
    intro i h1 h2
    cases ns with
    | nil => simp at h2
    | cons b ns =>
      cases i with
      | zero =>
        cases h1
        cases h2
        show (geO m n && geW (ms.take 0) (ns.take 0)) = (true && _)
        rw [List.take_zero, List.take_zero]
        show (geO m n && true) = _
        rw [Bool.and_true, Bool.true_and]
      | succ i =>
        show (geO a b && geW (ms.take (i + 1)) (ns.take (i + 1))) = ((geO a b && geW (ms.take i) (ns.take i)) && geO m n)
        rw [ih h1 h2, Bool.and_assoc]
theorem geW_false {ms ns : List (Option Int)} : ∀ {i : Nat}, geW (ms.take i) (ns.take i) = false → geW ms ns = false := by
  induction ms generalizing ns with
  | nil => intro i h; rw [List.take_nil] at h; cases h
  | cons a ms ih =>
    intro i h
    cases ns with
    | nil => rw [List.take_nil] at h; cases i <;> cases h
    | cons b ns =>
      cases i with
      | zero => cases h
      | succ i =>
        have h' : (geO a b && geW (ms.take i) (ns.take i)) = false := h
        show (geO a b && geW ms ns) = false
        cases hb : geO a b with
        | false => rfl
        | true =>
          rw [hb, Bool.true_and] at h'
          rw [ih h']
          rfl
/-- the first wide situation covers the second one -/
def covW (s : Int) (ms : List (Option Int)) (t : Int) (ns : List (Option Int)) : Bool := decide (s = t) && geW ms ns
theorem covW_refl (s : Int) (ms : List (Option Int)) : covW s ms s ms = true := by
  unfold covW
  rw [decide_eq_true (show s = s from rfl), geW_refl]
  rfl
theorem gdO {ds : List (Option Int)} {i : Nat} (h : i < ds.length) : ds[i]? = some (ds.getD i none) := by
  rw [List.getD_eq_getElem?_getD, List.getElem?_eq_getElem h]
  rfl
theorem gdO_mem {ds : List (Option Int)} {i : Nat} (h : i < ds.length) : ds.getD i none ∈ ds := List.mem_of_getElem? (gdO h)
theorem at_gdO {ds : List (Option Int)} {i : Int} {j : Nat} (e : i = (j : Int)) (h : j < ds.length) : atI (ds.map oV) i = some (oV (ds.getD j none)) := by
  rw [e]
  exact atI_nat (get_map (gdO h))
/-- a comprehension over a range, any values -/
theorem lc_valR {K : PySem.W.Frag} {n : Nat} (hn : n ≤ 90000) {j : Nat} {te : TE} {vs : List Nat} {σ : L2.St} {H1 : Hp} {D : Addr} {Qd : Hp → Prop} (nD : H1 D = none) (f : Nat → V) (hw : ∀ x, wipe ((wipe σ vs).set j x) vs = wipe σ vs)
    (hs : ∀ i H (Q : VK), i < n → Same H1 H → (∀ H4, Same H H4 → Q (f i) H4) → te ((wipe σ vs).set j (some (.int ((0 : Int) + (i : Int))))) H Q)
    (hd : ∀ H, Same H1 H → H D = some (.lst ((List.range n).map f)) → Qd H) :
    ∃ W : Nat → Nat → Hp → Prop, (∃ m, W 0 m (upd H1 D (.lst []))) ∧ ∀ i m H, W i m H →
      ((Itr 0 n).stop i H ∧ Qd H) ∨ ((Itr 0 n).go i H ∧ ∃ Nx : Hp → Prop, (∀ H', Nx H' → ∃ m', m' < m ∧ W (i + 1) m' H') ∧ ∀ x H', (Itr 0 n).yld i H x H' → gName j x (wipe σ vs) H' fun σ2 H2 => wipe σ2 vs = wipe σ vs ∧ tYes σ2 H2 fun b H3 =>
        if b = true then te σ2 H3 fun y H4 => ∃ acc, H4 D = some (.lst acc) ∧ acc.length < sizeLine ∧ Nx (upd H4 D (.lst (acc ++ [y]))) else Nx H3) := by
  refine lc_range (fun i H' => Same H1 H' ∧ H' D = some (.lst ((List.range i).map f))) ⟨same_new nD, upd_same⟩ ?_ fun H h => hd H h.1 h.2
  rintro i H hi ⟨sm, eD⟩
  refine ⟨hw _, ?_⟩
  show te _ H _
  refine hs i H _ hi sm fun H' s => ?_
  refine ⟨_, s _ _ eD, ?_, Same.mut (sm.trans s) nD, ?_⟩
  · rw [List.length_map, List.length_range]
    exact szl (by omega)
  · rw [upd_same, List.range_succ, List.map_append]
    rfl
section
variable {P : Program} {w : World} {K : PySem.W.Frag} {mg : Str → Option Value} {base : Heap}
abbrev s_wide_covers : Stmt := topS 8
theorem sc_wide_covers : FnScope ["first", "second", "many", "few"] ["first", "second"] (defScope s_wide_covers) := ⟨rfl, rfl, rfl, by decide +kernel, rfl, by decide +kernel, by decide +kernel⟩
-- wide_covers slots: first=0 second=1 many=2 few=3 globals: zip
def spWCov (K : PySem.W.Frag) : Sp := fun vs H Q _ => ∃ (x y : V) (s t : Int) (ms ns : List (Option Int)), vs = [x, y] ∧ WSit K H x s ms ∧ WSit K H y t ns ∧ ms.length = ns.length ∧ ∀ H', Same H H' → Q (.bl (covW s ms t ns)) H'
theorem fd_wide_covers {f : Addr} {fd : FuncData} (F : Fun K "wide_covers" "wide_covers" s_wide_covers f fd) (m : mg "wide_covers" = some (.ref f)) (B : Bt mg) : Fd P w K mg base "wide_covers" ["first", "second"] 1 (spWCov K) := by
  refine ⟨f, fd, F.ok sc_wide_covers (fun vs H Q E h => ?_) (fun cdv A outer s H vs Q E hr h => ?_), m, F.kp, F.binds (ps := ["first", "second"]) fun _ _ _ _ _ _ us hl => match us, hl with | [_, _], _ => rfl⟩
  · obtain ⟨x, y, s, t, ms, ns, rfl, _⟩ := h
    rfl
  obtain ⟨x, y, s, t, ms, ns, rfl, ⟨a, ca, rfl, ha, hca⟩, ⟨b, cb, rfl, hb, hcb⟩, hl, q⟩ := h
  refine ⟨_, (pss_cons (ps_if (pt_cmpR op_ne (pe_ix (ixT K) (pv 0) pe_int (fun _ _ => rfl)) (pe_ix (ixT K) (pv 1) pe_int (fun _ _ => rfl)) (nomark _))
 (pss_one (ps_ret pe_bl))
 pss_nil)
 (pss_cons (ps_for PassesOwn.never rfl (pi_zip (by rfl) B.zip (pa_cons (pe_ix (ixT K) (pv 0) pe_int (fun _ _ => rfl)) (pa_cons (pe_ix (ixT K) (pv 1) pe_int (fun _ _ => rfl)) pa_nil))) (pg_tup rfl (pgs_cons (pg_name (i := 2) sc_wide_covers.nd rfl (Or.inl rfl)) (pgs_cons (pg_name (i := 3) sc_wide_covers.nd rfl (Or.inl rfl)) pgs_nil)))
 (pss_one (ps_if (PW.pt (pw_and (pt_cmpR op_notN (pv 2) pe_non (nomark _)) (pw_and1 (PW.pt (pw_or (pt_cmpR op_isN (pv 3) pe_non (nomark _)) (pw_or1 (pt_cmpR op_lt (pv 2) (pv 3) (nomark _))))))))
 (pss_one (ps_ret pe_bl))
 pss_nil)))
 (pss_one (ps_ret pe_bl)))), ?_⟩
  refine ⟨_, rfl, _, _, _, _, rfl, rfl, ha, atI_nat (j := 0) rfl, _, rfl, _, _, _, _, rfl, rfl, hb, atI_nat (j := 0) rfl, rfl, _, rfl, ?_⟩
  by_cases est : s = t
  · subst est
    rw [show (!decide (V.int s = V.int s)) = false by rw [decide_eq_true rfl]; rfl]
    refine iteF ?_
    refine ⟨_, rfl, _, _, _, _, rfl, rfl, ha, atI_nat (j := 1) rfl, _, rfl, _, _, _, _, rfl, rfl, hb, atI_nat (j := 1) rfl, ?_⟩
    refine ⟨_, _, _, _, rfl, hca, hcb, RZ.for_zipL (xs := ms.map oV) (ys := ns.map oV) (by rw [List.length_map, List.length_map]; exact hl) (fun i σ' H' => ∃ y2 y3 : Option V, σ' = [some (.ref a), some (.ref b), y2, y3] ∧ Same H H' ∧ geW (ms.take i) (ns.take i) = true) ⟨none, none, rfl, Same.refl _, rfl⟩ ?_ ?_ ?_⟩
    · rintro i σ' H' ⟨y2, y3, rfl, sm, _⟩
      exact ⟨sm.seq hca, sm.seq hcb⟩
    · rintro i x y T σ' H' hx hy ⟨y2, y3, rfl, sm, g⟩ nT
      obtain ⟨u, hu, rfl⟩ := get_map_inv hx
      obtain ⟨v, hv, rfl⟩ := get_map_inv hy
      have sm2 : Same H (upd H' T (.tup [oV u, oV v])) := sm.trans (same_new nT)
      have no : geO u v = false → Q (.bl false) (upd H' T (.tup [oV u, oV v])) := fun e => by
        have e2 : covW s ms s ns = false := by
          unfold covW
          rw [geW_false (i := i + 1), Bool.and_false]
          rw [geW_take hu hv, e, Bool.and_false]
        rw [← e2]
        exact q _ sm2
      have yes : geO u v = true → ∃ y2 y3 : Option V, [some (V.ref a), some (.ref b), some (oV u), some (oV v)] = [some (.ref a), some (.ref b), y2, y3] ∧ Same H (upd H' T (.tup [oV u, oV v])) ∧ geW (ms.take (i + 1)) (ns.take (i + 1)) = true := fun e => ⟨_, _, rfl, sm2, by rw [geW_take hu hv, g, e]; rfl⟩
      refine ⟨_, _, rfl, .inl (.inl upd_same), rfl, _, _, rfl, _, _, rfl, rfl, ?_⟩
      refine ⟨_, rfl, rfl, _, rfl, ?_⟩
      rw [oV_non]
      cases u with
      | none => exact iteF (iteF (yes rfl))
      | some m =>
        refine iteT ?_
        refine ⟨_, rfl, rfl, _, rfl, ?_⟩
        rw [oV_non]
        cases v with
        | none => exact iteT (iteT (no rfl))
        | some n =>
          refine iteF ?_
          refine ⟨_, rfl, _, rfl, _, _, rfl, rfl, _, rfl, ite2 (fun e => ?_) (fun e => ?_)⟩
          · have e1 := of_decide_eq_true e
            exact no (decide_eq_false (by omega))
          · have e1 : ¬ m < n := fun z => e (decide_eq_true z)
            exact yes (decide_eq_true (by omega))
    · rintro σ' H' ⟨y2, y3, rfl, sm, g⟩
      rw [List.length_map] at g
      have e2 : covW s ms s ns = true := by
        unfold covW
        rw [List.take_length, hl, List.take_length] at g
        rw [g, decide_eq_true (show s = s from rfl)]
        rfl
      rw [← e2]
      exact q _ sm
  · rw [show (!decide (V.int s = V.int t)) = true by rw [decide_eq_false (fun z => est (by cases z; rfl))]; rfl]
    refine iteT ?_
    rw [← show covW s ms t ns = false by unfold covW; rw [decide_eq_false est]; rfl]
    exact q _ (Same.refl _)
abbrev s_law_wide_covers : Stmt := topS 24
theorem sc_law_wide_covers : FnScope ["first", "second", "k"] ["first", "second"] (defScope s_law_wide_covers) := ⟨rfl, rfl, rfl, by decide +kernel, rfl, by decide +kernel, by decide +kernel⟩
-- _law_wide_covers slots: first=0 second=1 k=2 globals: range len
def spLWCov (K : PySem.W.Frag) : Sp := fun vs H Q _ => ∃ (x y : V) (s t : Int) (ms ns : List (Option Int)), vs = [x, y] ∧ WSit K H x s ms ∧ WSit K H y t ns ∧ ms.length = ns.length ∧ ns.length ≤ 1000 ∧ Q (.bl (covW s ms t ns)) H
theorem fd_law_wide_covers {f : Addr} {fd : FuncData} (F : Fun K "_law_wide_covers" "_law_wide_covers" s_law_wide_covers f fd) (m : mg "_law_wide_covers" = some (.ref f)) (B : Bt mg) : Fd P w K mg base "_law_wide_covers" ["first", "second"] 1 (spLWCov K) := by
  refine ⟨f, fd, F.ok sc_law_wide_covers (fun vs H Q E h => ?_) (fun cdv A outer s H vs Q E hr h => ?_), m, F.kp, F.binds (ps := ["first", "second"]) fun _ _ _ _ _ _ us hl => match us, hl with | [_, _], _ => rfl⟩
  · obtain ⟨x, y, s, t, ms, ns, rfl, _⟩ := h
    rfl
  obtain ⟨x, y, s, t, ms, ns, rfl, ⟨a, ca, rfl, ha, hca⟩, ⟨b, cb, rfl, hb, hcb⟩, hl, hn, q⟩ := h
  refine ⟨_, (pss_cons (ps_if (pt_cmpR op_ne (pe_ix (ixT K) (pv 0) pe_int (fun _ _ => rfl)) (pe_ix (ixT K) (pv 1) pe_int (fun _ _ => rfl)) (nomark _))
 (pss_one (ps_ret pe_bl))
 pss_nil)
 (pss_cons (ps_for PassesOwn.never rfl (pi_range1 rfl B.range (pa_cons (pe_callB (cLen K) (by rfl) B.len PySem.boot_len (pa_cons (pe_ix (ixT K) (pv 1) pe_int (fun _ _ => rfl)) pa_nil)) pa_nil)) (pg_name (i := 2) sc_law_wide_covers.nd rfl (Or.inl rfl))
 (pss_one (ps_if (PW.pt (pw_and (pt_cmpR op_notN (pe_ix (ixL K) (pe_ix (ixT K) (pv 0) pe_int (fun _ _ => rfl)) (pv 2) (fun _ _ => rfl)) pe_non (nomark _)) (pw_and1 (PW.pt (pw_or (pt_cmpR op_isN (pe_ix (ixL K) (pe_ix (ixT K) (pv 1) pe_int (fun _ _ => rfl)) (pv 2) (fun _ _ => rfl)) pe_non (nomark _)) (pw_or1 (pt_cmpR op_lt (pe_ix (ixL K) (pe_ix (ixT K) (pv 0) pe_int (fun _ _ => rfl)) (pv 2) (fun _ _ => rfl)) (pe_ix (ixL K) (pe_ix (ixT K) (pv 1) pe_int (fun _ _ => rfl)) (pv 2) (fun _ _ => rfl)) (nomark _))))))))
 (pss_one (ps_ret pe_bl))
 pss_nil)))
 (pss_one (ps_ret pe_bl)))), ?_⟩
  refine ⟨_, rfl, _, _, _, _, rfl, rfl, ha, atI_nat (j := 0) rfl, _, rfl, _, _, _, _, rfl, rfl, hb, atI_nat (j := 0) rfl, rfl, _, rfl, ?_⟩
  by_cases est : s = t
  · subst est
    rw [show (!decide (V.int s = V.int s)) = false by rw [decide_eq_true rfl]; rfl]
    refine iteF ?_
    have ll : (ns.map oV).length = ns.length := List.length_map _
    refine ⟨_, rfl, _, _, _, _, rfl, rfl, hb, atI_nat (j := 1) rfl, cb, _, rfl, .inl hcb, _, rfl, by rw [ll]; omega, by rw [ll]; omega, for_range (lo := 0) (n := (ns.map oV).length) (fun i σ' H' => ∃ y2 : Option V, σ' = [some (.ref a), some (.ref b), y2] ∧ H' = H ∧ geW (ms.take i) (ns.take i) = true) ⟨none, rfl, rfl, rfl⟩ ?_ ?_⟩
    · rintro i σ' H' hi ⟨y2, rfl, rfl, g⟩
      rw [ll] at hi
      have hz : (0 : Int) + (i : Int) = (i : Int) := by omega
      have hu : ms[i]? = some (ms.getD i none) := gdO (by omega)
      have hv : ns[i]? = some (ns.getD i none) := gdO hi
      have au := at_gdO (ds := ms) hz (by omega)
      have av := at_gdO (ds := ns) hz hi
      have no : geO (ms.getD i none) (ns.getD i none) = false → Q (.bl false) H' := fun e => by
        have e2 : covW s ms s ns = false := by
          unfold covW
          rw [geW_false (i := i + 1), Bool.and_false]
          rw [geW_take hu hv, e, Bool.and_false]
        rw [← e2]
        exact q
      have yes : geO (ms.getD i none) (ns.getD i none) = true → ∃ y2 : Option V, [some (V.ref a), some (.ref b), some (.int (0 + (i : Int)))] = [some (.ref a), some (.ref b), y2] ∧ H' = H' ∧ geW (ms.take (i + 1)) (ns.take (i + 1)) = true := fun e => ⟨_, rfl, rfl, by rw [geW_take hu hv, g, e]; rfl⟩
      generalize ms.getD i none = u at *
      generalize ns.getD i none = v at *
      refine ⟨_, rfl, _, _, _, _, rfl, rfl, ha, atI_nat (j := 1) rfl, _, rfl, _, _, _, _, rfl, rfl, hca, au, rfl, _, rfl, ?_⟩
      rw [oV_non]
      cases u with
      | none => exact iteF (iteF (yes rfl))
      | some m =>
        refine iteT ?_
        refine ⟨_, rfl, _, _, _, _, rfl, rfl, hb, atI_nat (j := 1) rfl, _, rfl, _, _, _, _, rfl, rfl, hcb, av, rfl, _, rfl, ?_⟩
        rw [oV_non]
        cases v with
        | none => exact iteT (iteT (no rfl))
        | some n =>
          refine iteF ?_
          refine ⟨_, rfl, _, _, _, _, rfl, rfl, ha, atI_nat (j := 1) rfl, _, rfl, _, _, _, _, rfl, rfl, hca, au, _, rfl, _, _, _, _, rfl, rfl, hb, atI_nat (j := 1) rfl, _, rfl, _, _, _, _, rfl, rfl, hcb, av, _, _, rfl, rfl, _, rfl, ite2 (fun e => ?_) (fun e => ?_)⟩
          · have e1 := of_decide_eq_true e
            exact no (decide_eq_false (by omega))
          · have e1 : ¬ m < n := fun z => e (decide_eq_true z)
            exact yes (decide_eq_true (by omega))
    · rintro σ' H' ⟨y2, rfl, rfl, g⟩
      rw [ll] at g
      have e2 : covW s ms s ns = true := by
        unfold covW
        rw [← hl, List.take_length, hl, List.take_length] at g
        rw [g, decide_eq_true (show s = s from rfl)]
        rfl
      rw [← e2]
      exact q
  · rw [show (!decide (V.int s = V.int t)) = true by rw [decide_eq_false (fun z => est (by cases z; rfl))]; rfl]
    refine iteT ?_
    rw [← show covW s ms t ns = false by unfold covW; rw [decide_eq_false est]; rfl]
    exact q
end
/-! ### moves of wide situations -/
def bumpO (cs : List (Option Int)) (k : Nat) (z : Int) : List (Option Int) := cs.set k ((cs.getD k none).map (· + z))
def chgO (cs : List (Option Int)) (p : Option Nat × Int) : List (Option Int) := match p.1 with
  | none => cs
  | some k => bumpO cs k p.2
def MvT.stepsW (m : MvT) : List (Option Nat × Int) := [(some m.pl, -1), (some m.np, 1), (m.sd, 1)]
def MvT.aftW (m : MvT) (cs : List (Option Int)) : List (Option Int) := m.stepsW.foldl chgO cs
def posO : Option Int → Bool
  | none => true
  | some c => decide (0 < c)
def MvT.canW (m : MvT) (s : Int) (cs : List (Option Int)) : Bool := decide ((m.st : Int) = s) && posO (cs.getD m.pl none)
theorem bumpO_len (cs : List (Option Int)) (k : Nat) (z : Int) : (bumpO cs k z).length = cs.length := List.length_set
theorem chgO_len (cs : List (Option Int)) (p : Option Nat × Int) : (chgO cs p).length = cs.length := by
  unfold chgO
  split
  · rfl
  · exact bumpO_len _ _ _
theorem chgs_len : ∀ (ps : List (Option Nat × Int)) (cs : List (Option Int)), (ps.foldl chgO cs).length = cs.length
  | [], _ => rfl
  | p :: r, cs => by
    show (r.foldl chgO (chgO cs p)).length = _
    rw [chgs_len r, chgO_len]
theorem aftW_len (m : MvT) (cs : List (Option Int)) : (m.aftW cs).length = cs.length := chgs_len _ _
theorem bumpO_none {cs : List (Option Int)} {k : Nat} {z : Int} (hk : k < cs.length) (h : cs.getD k none = none) : bumpO cs k z = cs := by
  unfold bumpO
  rw [h]
  show cs.set k none = cs
  refine List.ext_getElem? fun i => ?_
  rw [List.getElem?_set]
  split
  · rename_i e
    subst e
    rw [gdO hk, h]
  · rfl
theorem set_oV (cs : List (Option Int)) (k : Nat) (z : Int) : (cs.map oV).set k (.int z) = (cs.set k (some z)).map oV := by
  rw [List.map_set]
  rfl
/-- a wide situation made anew -/
def NewW (H H' : Hp) (p : Addr) (s : Int) (cs : List (Option Int)) : Prop := ∃ ca, H p = none ∧ H ca = none ∧ ca ≠ p ∧ H' p = some (.tup [.int s, .ref ca]) ∧ H' ca = some (.lst (cs.map oV))
theorem NewW.sit {K : PySem.W.Frag} {H H' : Hp} {p : Addr} {s : Int} {cs : List (Option Int)} (h : NewW H H' p s cs) : WSit K H' (.ref p) s cs := by
  obtain ⟨ca, _, _, _, h1, h2⟩ := h
  exact ⟨p, ca, rfl, My.st h1, sq h2⟩
section
variable {P : Program} {w : World} {K : PySem.W.Frag} {mg : Str → Option Value} {base : Heap}
abbrev s_can_take_wide : Stmt := topS 17
theorem sc_can_take_wide : FnScope ["situation", "move", "count"] ["situation", "move"] (defScope s_can_take_wide) := ⟨rfl, rfl, rfl, by decide +kernel, rfl, by decide +kernel, by decide +kernel⟩
-- can_take_wide slots: situation=0 move=1 count=2 globals: 
def spCanW (K : PySem.W.Frag) : Sp := fun vs H Q _ => ∃ (x y : V) (s : Int) (cs : List (Option Int)) (m : MvT), vs = [x, y] ∧ WSit K H x s cs ∧ Dp K H y m.data ∧ m.pl < cs.length ∧ Q (.bl (m.canW s cs)) H
theorem fd_can_take_wide {f : Addr} {fd : FuncData} (F : Fun K "can_take_wide" "can_take_wide" s_can_take_wide f fd) (m : mg "can_take_wide" = some (.ref f)) (B : Bt mg) : Fd P w K mg base "can_take_wide" ["situation", "move"] 1 (spCanW K) := by
  refine ⟨f, fd, F.ok sc_can_take_wide (fun vs H Q E h => ?_) (fun cdv A outer s H vs Q E hr h => ?_), m, F.kp, F.binds (ps := ["situation", "move"]) fun _ _ _ _ _ _ us hl => match us, hl with | [_, _], _ => rfl⟩
  · obtain ⟨x, y, s, cs, m, rfl, _⟩ := h
    rfl
  obtain ⟨x, y, s, cs, mv, rfl, ⟨a, ca, rfl, ha, hca⟩, hd, hp, q⟩ := h
  obtain ⟨b, sa, xs, rfl, hb, _⟩ := dp_mv hd
  refine ⟨_, (pss_cons (ps_set (i := 2) sc_can_take_wide.nd rfl (Or.inl rfl) (pe_ix (ixL K) (pe_ix (ixT K) (pv 0) pe_int (fun _ _ => rfl)) (pe_ix (ixT K) (pv 1) pe_int (fun _ _ => rfl)) (fun _ _ => rfl)))
 (pss_one (ps_ret (pe_and (pe_cmpR op_eq (pe_ix (ixT K) (pv 1) pe_int (fun _ _ => rfl)) (pe_ix (ixT K) (pv 0) pe_int (fun _ _ => rfl)) (nomark _)) (pe_one (pe_or (pe_cmpR op_isN (pv 2) pe_non (nomark _)) (pe_one (pe_cmpR op_gt (pv 2) pe_int (nomark _))))))))), ?_⟩
  have ac := at_gdO (ds := cs) (i := (mv.pl : Int)) rfl hp
  refine ⟨_, rfl, _, _, _, _, rfl, rfl, ha, atI_nat (j := 1) rfl, _, rfl, _, _, _, _, rfl, rfl, hb, atI_nat (j := 1) rfl, _, _, _, _, rfl, rfl, hca, ac, ?_⟩
  dsimp only [gName]
  refine ⟨_, rfl, _, _, _, _, rfl, rfl, hb, atI_nat (j := 0) rfl, _, rfl, _, _, _, _, rfl, rfl, ha, atI_nat (j := 0) rfl, rfl, _, rfl, ?_⟩
  rw [int_eqE]
  unfold MvT.canW at q
  cases e : decide ((mv.st : Int) = s) with
  | false =>
    rw [e, Bool.false_and] at q
    exact iteF q
  | true =>
    rw [e, Bool.true_and] at q
    refine iteT ?_
    generalize cs.getD mv.pl none = c at q ⊢
    cases c with
    | none => exact ⟨_, rfl, rfl, _, rfl, iteT q⟩
    | some c => exact ⟨_, rfl, rfl, _, rfl, iteF ⟨_, rfl, _, _, rfl, rfl, q⟩⟩
abbrev s_taken_wide : Stmt := topS 18
theorem sc_taken_wide : FnScope ["situation", "move", "_", "place", "next_state", "next_place", "started", "counts", "changed", "change"] ["situation", "move"] (defScope s_taken_wide) := ⟨rfl, rfl, rfl, by decide +kernel, rfl, by decide +kernel, by decide +kernel⟩
-- taken_wide slots: situation=0 move=1 _=2 place=3 next_state=4 next_place=5 started=6 counts=7 changed=8 change=9 globals: list
def spTakenW (K : PySem.W.Frag) : Sp := fun vs H Q _ => ∃ (x y : V) (s : Int) (cs : List (Option Int)) (m : MvT) (S : Nat), vs = [x, y] ∧ WSit K H x s cs ∧ Dp K H y m.data ∧ m.Fit S cs.length ∧
  ∀ H' p, Same H H' → NewW H H' p m.ns (m.aftW cs) → Q (.ref p) H'
theorem fd_taken_wide {f : Addr} {fd : FuncData} (F : Fun K "taken_wide" "taken_wide" s_taken_wide f fd) (m : mg "taken_wide" = some (.ref f)) (B : Bt mg) : Fd P w K mg base "taken_wide" ["situation", "move"] 1 (spTakenW K) := by
  refine ⟨f, fd, F.ok sc_taken_wide (fun vs H Q E h => ?_) (fun cdv A outer s H vs Q E hr h => ?_), m, F.kp, F.binds (ps := ["situation", "move"]) fun _ _ _ _ _ _ us hl => match us, hl with | [_, _], _ => rfl⟩
  · obtain ⟨x, y, s, cs, m, S, rfl, _⟩ := h
    rfl
  obtain ⟨x, y, s, cs, mv, S, rfl, ⟨a, ca, rfl, ha, hca⟩, hd, hf, q⟩ := h
  obtain ⟨b, sa, xs, rfl, hb, _⟩ := dp_mv hd
  refine ⟨_, (pss_cons (ps_asg (pv 1) (pg_tup rfl (pgs_cons (pg_name (i := 2) sc_taken_wide.nd rfl (Or.inl rfl)) (pgs_cons (pg_name (i := 3) sc_taken_wide.nd rfl (Or.inl rfl)) (pgs_cons (pg_name (i := 4) sc_taken_wide.nd rfl (Or.inl rfl)) (pgs_cons (pg_name (i := 5) sc_taken_wide.nd rfl (Or.inl rfl)) (pgs_cons (pg_name (i := 6) sc_taken_wide.nd rfl (Or.inl rfl)) (pgs_cons (pg_name (i := 2) sc_taken_wide.nd rfl (Or.inl rfl)) pgs_nil))))))))
 (pss_cons (ps_set (i := 7) sc_taken_wide.nd rfl (Or.inl rfl) (pe_callTy (cList K) (by rfl) B.list (by decide +kernel) (pa_cons (pe_ix (ixT K) (pv 0) pe_int (fun _ _ => rfl)) pa_nil)))
 (pss_cons (ps_for PassesOwn.never rfl (piT K (pe_tup (pa_cons (pe_tup (pa_cons (pv 3) (pa_cons (pe_un un_neg pe_int) pa_nil))) (pa_cons (pe_tup (pa_cons (pv 5) (pa_cons pe_int pa_nil))) (pa_cons (pe_tup (pa_cons (pv 6) (pa_cons pe_int pa_nil))) pa_nil))))) (pg_tup rfl (pgs_cons (pg_name (i := 8) sc_taken_wide.nd rfl (Or.inl rfl)) (pgs_cons (pg_name (i := 9) sc_taken_wide.nd rfl (Or.inl rfl)) pgs_nil)))
 (pss_one (ps_if (PW.pt (pw_and (pt_cmpR op_notN (pv 8) pe_non (nomark _)) (pw_and1 (pt_cmpR op_notN (pe_ix (ixL K) (pv 7) (pv 8) (fun _ _ => rfl)) pe_non (nomark _)))))
 (pss_one (ps_augS (pv 7) (pv 8) (getL K) (pv 9) ip_add set_list))
 pss_nil)))
 (pss_one (ps_ret (pe_tup (pa_cons (pv 4) (pa_cons (pv 7) pa_nil)))))))), ?_⟩
  refine ⟨_, rfl, b, _, rfl, hb, rfl, _, _, rfl, _, _, rfl, _, _, rfl, _, _, rfl, _, _, rfl, _, _, rfl, rfl, ?_⟩
  dsimp only [gName]
  refine ⟨_, rfl, _, _, _, _, rfl, rfl, ha, atI_nat (j := 1) rfl, ca, _, rfl, .inl hca, fun l nl => ?_⟩
  dsimp only [gName]
  have s1 := same_new (o := HO.lst (cs.map oV)) nl
  have el : (upd H l (.lst (cs.map oV))) l = some (.lst (cs.map oV)) := upd_same
  generalize upd H l (.lst (cs.map oV)) = H1 at s1 el ⊢
  refine ⟨_, rfl, _, rfl, szc 2, fun t1 n1 => ?_⟩
  refine ⟨_, rfl, szc 2, fun t2 n2 => ?_⟩
  refine ⟨_, rfl, szc 2, fun t3 n3 => ⟨szc 3, fun t4 n4 => ?_⟩⟩
  have e3 : (upd (upd (upd (upd H1 t1 (.tup [nV mv.pl, .int (-1)])) t2 (.tup [nV mv.np, .int 1])) t3 (.tup [sdV mv.sd, .int 1])) t4 (.tup [.ref t1, .ref t2, .ref t3])) t3 = some (.tup [sdV mv.sd, .int 1]) := (same_new n4) _ _ upd_same
  have e2 : (upd (upd (upd (upd H1 t1 (.tup [nV mv.pl, .int (-1)])) t2 (.tup [nV mv.np, .int 1])) t3 (.tup [sdV mv.sd, .int 1])) t4 (.tup [.ref t1, .ref t2, .ref t3])) t2 = some (.tup [nV mv.np, .int 1]) := (same_new n4) _ _ ((same_new n3) _ _ upd_same)
  have e1 : (upd (upd (upd (upd H1 t1 (.tup [nV mv.pl, .int (-1)])) t2 (.tup [nV mv.np, .int 1])) t3 (.tup [sdV mv.sd, .int 1])) t4 (.tup [.ref t1, .ref t2, .ref t3])) t1 = some (.tup [nV mv.pl, .int (-1)]) := (same_new n4) _ _ ((same_new n3) _ _ ((same_new n2) _ _ upd_same))
  have e4 : (upd (upd (upd (upd H1 t1 (.tup [nV mv.pl, .int (-1)])) t2 (.tup [nV mv.np, .int 1])) t3 (.tup [sdV mv.sd, .int 1])) t4 (.tup [.ref t1, .ref t2, .ref t3])) t4 = some (.tup [.ref t1, .ref t2, .ref t3]) := upd_same
  have s14 : Same H1 (upd (upd (upd (upd H1 t1 (.tup [nV mv.pl, .int (-1)])) t2 (.tup [nV mv.np, .int 1])) t3 (.tup [sdV mv.sd, .int 1])) t4 (.tup [.ref t1, .ref t2, .ref t3])) := ((same_new n1).trans (same_new n2)).trans ((same_new n3).trans (same_new n4))
  generalize upd (upd (upd (upd H1 t1 (.tup [nV mv.pl, .int (-1)])) t2 (.tup [nV mv.np, .int 1])) t3 (.tup [sdV mv.sd, .int 1])) t4 (.tup [.ref t1, .ref t2, .ref t3]) = H2 at e1 e2 e3 e4 s14 ⊢
  clear n1 n2 n3 n4
  have el2 := s14 _ _ el
  have s12 := s1.trans s14
  have dl : ∀ {t : Addr} {xs : List V}, H2 t = some (.tup xs) → t ≠ l := fun h e => by rw [e, el2] at h; cases h
  have tAt : ∀ (i : Nat) (x : V), [V.ref t1, .ref t2, .ref t3][i]? = some x → ∃ (t : Addr) (o : Option Nat) (z : Int), x = .ref t ∧ H2 t = some (.tup [sdV o, .int z]) ∧ mv.stepsW[i]? = some (o, z) ∧ (∀ k, o = some k → k < cs.length) := fun i x h => by
    match i, h with
    | 0, h => cases h; exact ⟨t1, some mv.pl, -1, rfl, e1, rfl, fun k e => by cases e; exact hf.pl⟩
    | 1, h => cases h; exact ⟨t2, some mv.np, 1, rfl, e2, rfl, fun k e => by cases e; exact hf.np⟩
    | 2, h => cases h; exact ⟨t3, mv.sd, 1, rfl, e3, rfl, hf.sd⟩
  refine ⟨t4, rfl, ⟨_, st e4⟩, for_tup (xs := [.ref t1, .ref t2, .ref t3]) (fun i σ' H' => ∃ y8 y9 : Option V, σ' = [some (.ref a), some (.ref b), some (.ref sa), some (nV mv.pl), some (nV mv.ns), some (nV mv.np), some (sdV mv.sd), some (.ref l), y8, y9] ∧ Same (Ho l H2) (Ho l H') ∧ Same H H' ∧ H' l = some (.lst (((mv.stepsW.take i).foldl chgO cs).map oV))) ⟨none, none, rfl, Same.refl _, s12, el2⟩ ?_ ?_ ?_⟩
  · rintro i σ' H' _ ⟨y8, y9, rfl, sh, _, _⟩
    refine st (ho_out _ _ (sh _ _ ?_))
    unfold Ho
    rw [if_neg (dl e4)]
    exact e4
  · rintro i x σ' H' hx ⟨y8, y9, rfl, sh, sm, eL⟩
    obtain ⟨t, o, z, rfl, et, hs, ho⟩ := tAt i x hx
    have et' : H' t = some (.tup [sdV o, .int z]) := ho_out _ _ (sh _ _ (by unfold Ho; rw [if_neg (dl et)]; exact et))
    rw [take_snoc hs, List.foldl_append]
    have ln : ((mv.stepsW.take i).foldl chgO cs).length = cs.length := chgs_len _ _
    show _
    generalize (mv.stepsW.take i).foldl chgO cs = c1 at eL ln ⊢
    show _
    refine ⟨t, _, rfl, st et', rfl, _, _, rfl, _, _, rfl, rfl, ?_⟩
    dsimp only [gName]
    refine ⟨_, rfl, rfl, _, rfl, ?_⟩
    cases o with
    | none => exact iteF (iteF ⟨_, _, rfl, sh, sm, eL⟩)
    | some k =>
      have hk : k < c1.length := by rw [ln]; exact ho k rfl
      have ak := at_gdO (ds := c1) (i := (k : Int)) rfl hk
      refine iteT ⟨_, rfl, _, rfl, _, _, _, _, rfl, rfl, sq eL, ak, rfl, _, rfl, ?_⟩
      rw [oV_non]
      cases e : c1.getD k none with
      | none => exact iteF ⟨_, _, rfl, sh, sm, by show H' l = some (.lst ((bumpO c1 k z).map oV)); rw [bumpO_none hk e]; exact eL⟩
      | some c =>
        refine iteT ?_
        rw [e] at ak
        refine ⟨_, rfl, _, rfl, _, _, _, _, rfl, rfl, (show (0 : Int) ≤ (k : Int) by omega), sq eL, ak, _, rfl, _, _, rfl, rfl, _, _, _, _, rfl, rfl, eL, ixN_nat (by rw [List.length_map]; exact hk), ?_⟩
        rw [set_oV]
        refine ⟨_, _, rfl, sh.trans ho_mut, Same.mut sm nl, ?_⟩
        show _ = some (HO.lst ((bumpO c1 k z).map oV))
        unfold bumpO
        rw [e]
        exact upd_same
  · rintro σ' H' ⟨y8, y9, rfl, sh, sm, eL⟩
    refine ⟨_, rfl, _, rfl, szc 2, fun p np => ?_⟩
    have pl : p ≠ l := fun e => by rw [e, eL] at np; cases np
    exact q _ p (sm.trans (same_new np)) ⟨l, sm.free np, nl, Ne.symm pl, upd_same, by rw [upd_ne (Ne.symm pl)]; exact eL⟩
end
section
variable {P : Program} {w : World} {K : PySem.W.Frag} {mg : Str → Option Value} {base : Heap}
/-- a comprehension of numbers over a range -/
theorem lc_intR {n : Nat} (hn : n ≤ 90000) {j : Nat} {te : TE} {vs : List Nat} {σ : L2.St} {H1 : Hp} {D : Addr} {Qd : Hp → Prop} (nD : H1 D = none) (f : Nat → Int) (hw : ∀ x, wipe ((wipe σ vs).set j x) vs = wipe σ vs)
    (hs : ∀ i H, i < n → Same H1 H → te ((wipe σ vs).set j (some (.int ((0 : Int) + (i : Int))))) H fun y H4 => y = .int (f i) ∧ Same H H4)
    (mono : ∀ σ H (Q Q' : VK), (∀ v H', Q v H' → Q' v H') → te σ H Q → te σ H Q')
    (hd : ∀ H, Same H1 H → H D = some (.lst (((List.range n).map f).map V.int)) → Qd H) :
    ∃ W : Nat → Nat → Hp → Prop, (∃ m, W 0 m (upd H1 D (.lst []))) ∧ ∀ i m H, W i m H →
      ((Itr 0 n).stop i H ∧ Qd H) ∨ ((Itr 0 n).go i H ∧ ∃ Nx : Hp → Prop, (∀ H', Nx H' → ∃ m', m' < m ∧ W (i + 1) m' H') ∧ ∀ x H', (Itr 0 n).yld i H x H' → gName j x (wipe σ vs) H' fun σ2 H2 => wipe σ2 vs = wipe σ vs ∧ tYes σ2 H2 fun b H3 =>
        if b = true then te σ2 H3 fun y H4 => ∃ acc, H4 D = some (.lst acc) ∧ acc.length < sizeLine ∧ Nx (upd H4 D (.lst (acc ++ [y]))) else Nx H3) := by
  refine lc_range (fun i H' => Same H1 H' ∧ H' D = some (.lst (((List.range i).map f).map V.int))) ⟨same_new nD, upd_same⟩ ?_ fun H h => hd H h.1 h.2
  rintro i H hi ⟨sm, eD⟩
  refine ⟨hw _, ?_⟩
  show te _ H _
  refine mono _ _ _ _ ?_ (hs i H hi sm)
  rintro v H' ⟨rfl, s⟩
  refine ⟨_, s _ _ eD, ?_, Same.mut (sm.trans s) nD, ?_⟩
  · rw [List.length_map, List.length_map, List.length_range]
    exact szl (by omega)
  · rw [upd_same, List.range_succ, List.map_append, List.map_append]
    rfl
abbrev s_law_cell : Stmt := topS 21
theorem sc_law_cell : FnScope ["script", "k"] ["script", "k"] (defScope s_law_cell) := ⟨rfl, rfl, rfl, by decide +kernel, rfl, by decide +kernel, by decide +kernel⟩
-- _law_cell slots: script=0 k=1 globals: len abs int
def spCellP (K : PySem.W.Frag) : Sp := fun vs H Q _ => ∃ (a : Addr) (ns : List Int) (k : Nat), vs = [.ref a, .int (k : Int)] ∧ SqL K H a (ns.map V.int) ∧ ∀ z : Int, 0 ≤ z → Q (.int z) H
theorem fd_law_cell {f : Addr} {fd : FuncData} (F : Fun K "_law_cell" "_law_cell" s_law_cell f fd) (m : mg "_law_cell" = some (.ref f)) (B : Bt mg) : Fd P w K mg base "_law_cell" ["script", "k"] 1 (spCellP K) := by
  refine ⟨f, fd, F.ok sc_law_cell (fun vs H Q E h => ?_) (fun cdv A outer s H vs Q E hr h => ?_), m, F.kp, F.binds (ps := ["script", "k"]) fun _ _ _ _ _ _ us hl => match us, hl with | [_, _], _ => rfl⟩
  · obtain ⟨a, ns, k, rfl, _⟩ := h
    rfl
  obtain ⟨a, ns, k, rfl, hs, q⟩ := h
  refine ⟨_, (pss_cons (ps_if (pt_cmpR op_lt (pv 1) (pe_callB (cLen K) (by rfl) B.len PySem.boot_len (pa_cons (pv 0) pa_nil)) (nomark _))
 (pss_one (ps_ret (pe_callB call_abs (by rfl) B.abs (by decide +kernel) (pa_cons (pe_callTy call_int1 (by rfl) B.int (by decide +kernel) (pa_cons (pe_ix (ixQ K) (pv 0) (pv 1) (fun _ _ => rfl)) pa_nil)) pa_nil))))
 pss_nil)
 (pss_one (ps_ret pe_int))), ?_⟩
  refine ⟨_, rfl, _, rfl, a, _, rfl, .inl hs, _, _, rfl, rfl, _, rfl, ite2 (fun e => ?_) (fun e => ?_)⟩
  · have e1 := of_decide_eq_true e
    rw [List.length_map] at e1
    have e2 : k < ns.length := by omega
    refine ⟨_, rfl, _, rfl, .inl ⟨a, _, _, _, rfl, rfl, hs, atI_nat (get_map (List.getElem?_eq_getElem e2)), .inl ⟨_, rfl, _, rfl, q _ ?_⟩⟩⟩
    split <;> omega
  · exact q _ (by decide)
abbrev s_law_digits : Stmt := topS 22
theorem sc_law_digits : FnScope ["cell", "base", "most", "digits", "large", "k"] ["cell", "base", "most"] (defScope s_law_digits) := ⟨rfl, rfl, rfl, by decide +kernel, rfl, by decide +kernel, by decide +kernel⟩
-- _law_digits slots: cell=0 base=1 most=2 digits=3 large=4 k=5 globals: range int
def spDigits (K : PySem.W.Frag) : Sp := fun vs H Q _ => ∃ (c b : Int) (n : Nat), vs = [.int c, .int b, .int (n : Int)] ∧ 0 ≤ c ∧ 0 < b ∧ b < 1073741824 ∧ n ≤ 10000 ∧
  ∀ H' p (ds : List Int), Same H H' → H p = none → H' p = some (.lst (ds.map V.int)) → ds.length = n → (∀ d ∈ ds, 0 ≤ d ∧ d < b) → Q (.ref p) H'
theorem fd_law_digits {f : Addr} {fd : FuncData} (F : Fun K "_law_digits" "_law_digits" s_law_digits f fd) (m : mg "_law_digits" = some (.ref f)) (B : Bt mg) : Fd P w K mg base "_law_digits" ["cell", "base", "most"] 1 (spDigits K) := by
  refine ⟨f, fd, F.ok sc_law_digits (fun vs H Q E h => ?_) (fun cdv A outer s H vs Q E hr h => ?_), m, F.kp, F.binds (ps := ["cell", "base", "most"]) fun _ _ _ _ _ _ us hl => match us, hl with | [_, _, _], _ => rfl⟩
  · obtain ⟨c, b, n, rfl, _⟩ := h
    rfl
  obtain ⟨c, b, n, rfl, hc, hb, hb2, hn, q⟩ := h
  refine ⟨_, (pss_cons (ps_set (i := 3) sc_law_digits.nd rfl (Or.inl rfl) (pe_lst pa_nil))
 (pss_cons (ps_set (i := 4) sc_law_digits.nd rfl (Or.inl rfl) (pe_cmpR op_ge (pv 0) (pe_op op_pow pe_int pe_int) (nomark _)))
 (pss_cons (ps_for PassesOwn.never rfl (pi_range1 rfl B.range (pa_cons (pv 2) pa_nil)) (pg_name (i := 5) sc_law_digits.nd rfl (Or.inl rfl))
 (pss_one (ps_if (pt_val (pv 4))
 (pss_cons (ps_expr (peBm K PySem.F.plainAttrs_list PySem.F.slot_list_append PySem.F.type_list_append mt_append (pv 3) (pa_cons (pe_op op_mod (pe_callTy call_int1 (by rfl) B.int (by decide +kernel) (pa_cons (pv 0) pa_nil)) (pv 1)) pa_nil)))
 (pss_one (ps_set (i := 0) sc_law_digits.nd rfl (Or.inl rfl) (pe_op op_fdiv (pv 0) (pv 1)))))
 (pss_one (ps_expr (peBm K PySem.F.plainAttrs_list PySem.F.slot_list_append PySem.F.type_list_append mt_append (pv 3) (pa_cons (pe_op op_mod (pe_op op_mod (pe_callTy call_int1 (by rfl) B.int (by decide +kernel) (pa_cons (pe_op op_add (pe_op op_add (pe_op op_mul (pv 0) pe_int) (pe_op op_mul (pe_op op_mul (pe_op op_add (pv 5) pe_int) (pe_op op_add (pv 5) pe_int)) pe_int)) (pe_op op_mul (pe_op op_fdiv (pv 0) pe_int) (pv 5))) pa_nil)) pe_int) (pv 1)) pa_nil)))))))
 (pss_one (ps_ret (pv 3)))))), ?_⟩
  refine ⟨sz (by decide), fun o no => ?_⟩
  refine ⟨_, rfl, _, _, rfl, rfl, ⟨by decide, by decide, by decide⟩, _, _, rfl, rfl, ?_⟩
  refine ⟨_, rfl, n, rfl, by omega, by omega, for_range (lo := 0) (n := n) (fun i σ' H' => ∃ (lg : Bool) (c' : Int) (y : Option V) (ds : List Int), σ' = [some (.int c'), some (.int b), some (.int (n : Int)), some (.ref o), some (.bl lg), y] ∧ 0 ≤ c' ∧ Same H H' ∧ H' o = some (.lst (ds.map V.int)) ∧ ds.length = i ∧ ∀ d ∈ ds, 0 ≤ d ∧ d < b) ⟨_, c, none, [], rfl, hc, same_new no, upd_same, rfl, fun d hd => by cases hd⟩ ?_ ?_⟩
  · rintro i σ' H' hi ⟨lg, c', y, ds, rfl, hc', sm, eo, hl, hd⟩
    have dl : (ds.map V.int).length < sizeLine := szl (by rw [List.length_map]; omega)
    have hm : ∀ z : Int, 0 ≤ z % b ∧ z % b < b := fun z => ⟨Int.emod_nonneg _ (by omega), Int.emod_lt_of_pos _ hb⟩
    have fin : ∀ (c2 d : Int), 0 ≤ c2 → (0 ≤ d ∧ d < b) → ∃ (lg' : Bool) (c' : Int) (y : Option V) (ds' : List Int), [some (V.int c2), some (.int b), some (.int (n : Int)), some (.ref o), some (.bl lg), some (.int (0 + (i : Int)))] = [some (.int c'), some (.int b), some (.int (n : Int)), some (.ref o), some (.bl lg'), y] ∧ 0 ≤ c' ∧ Same H (upd H' o (.lst (ds.map V.int ++ [.int d]))) ∧ (upd H' o (.lst (ds.map V.int ++ [.int d]))) o = some (.lst (ds'.map V.int)) ∧ ds'.length = i + 1 ∧ ∀ d ∈ ds', 0 ≤ d ∧ d < b := fun c2 d h1 h2 =>
      ⟨lg, c2, _, ds ++ [d], rfl, h1, Same.mut sm no, by rw [upd_same, List.map_append]; rfl, by rw [List.length_append, hl]; rfl, fun x hx => by
        rcases List.mem_append.mp hx with hx | hx
        · exact hd x hx
        · rw [List.mem_singleton.mp hx]; exact h2⟩
    refine ⟨_, rfl, lg, rfl, ?_⟩
    cases lg with
    | true =>
      refine iteT ?_
      refine ⟨_, rfl, .inl ⟨rfl, _, sq eo⟩, _, rfl, .inl ⟨_, rfl, _, rfl, _, _, rfl, rfl, hb, o, _, _, rfl, rfl, eo, dl, ?_⟩⟩
      refine ⟨_, rfl, _, rfl, _, _, rfl, rfl, ⟨hb, hb2⟩, ?_⟩
      exact fin _ _ (Int.ediv_nonneg hc' (by omega)) (hm _)
    | false =>
      refine iteF ?_
      refine ⟨_, rfl, .inl ⟨rfl, _, sq eo⟩, _, rfl, _, _, rfl, rfl, .inr ⟨by decide, by decide⟩, ?_⟩
      refine ⟨_, rfl, _, _, rfl, rfl, _, rfl, _, _, rfl, rfl, _, _, rfl, rfl, .inl ⟨by omega, by omega⟩, _, _, rfl, rfl, .inr ⟨by decide, by decide⟩, _, _, rfl, rfl, ?_⟩
      refine ⟨_, rfl, _, _, rfl, rfl, ⟨by decide, by decide⟩, _, rfl, _, _, rfl, rfl, .inr ⟨by omega, by omega⟩, _, _, rfl, rfl, ?_⟩
      refine .inl ⟨_, rfl, _, _, rfl, rfl, (by show (0 : Int) < 2147483647; decide), _, rfl, _, _, rfl, rfl, hb, o, _, _, rfl, rfl, eo, dl, ?_⟩
      exact fin _ _ hc' (hm _)
  · rintro σ' H' ⟨lg, c', y, ds, rfl, hc', sm, eo, hl, hd⟩
    exact ⟨_, rfl, q H' o ds sm no eo hl hd⟩
end
/-! ### exceptions of the program's own -/
/-- what the written part says of an exception's class -/
structure ExcX (K : PySem.W.Frag) (mg : Str → Option Value) (x : Str) (C : Addr) : Prop where
  gC : mg x = some (.ref C)
  exc : PySem.W.excIn K C [.type "ValueError", .type "Exception", .type "BaseException", .type "object"] "ValueError.__new__" = true
  kC : PySem.W.keepIn K (.ref C) = true
  ty : PySem.W.typeIn K (.ref C) = some (.type "type")
  ic : PySem.W.isClsIn K C = true
  self : PySem.W.subIn K (.ref C) (.ref C) = some true
  val : PySem.W.subIn K (.ref C) (.type "ValueError") = some true
  is : ExcC K C
theorem ExcX.sub {K : PySem.W.Frag} {mg : Str → Option Value} {x : Str} {C : Addr} (h : ExcX K mg x C) : PySem.W.subIn K (.ref C) (.type "BaseException") = some true := h.is.hs
theorem kit_ref {K : PySem.W.Frag} {C D : Addr} {b : Bool} (hi : PySem.W.isClsIn K D = true) (ht : PySem.W.typeIn K (.ref D) = some (.type "type")) (hne : C ≠ D) (hs : PySem.W.subIn K (.ref C) (.ref D) = some b) : PySem.W.kitOne K (.ref C) (.ref D) = some b := by
  have e0 : ¬ ((Value.ref C == Value.ref D) = true) := fun z => hne (by cases (beq_iff_eq.mp z); rfl)
  have e2 : ((PySem.W.clsIn K D).isSome && PySem.W.typeIn K (.ref D) == some (.type "type")) = true := by
    have h2' : (PySem.W.clsIn K D).isSome = true := hi
    rw [h2', ht] <;> rfl
  show (if (Value.ref C == Value.ref D) = true then some true else if ((PySem.W.clsIn K D).isSome && PySem.W.typeIn K (.ref D) == some (.type "type")) = true then PySem.W.subIn K (.ref C) (.ref D) else none) = some b
  rw [if_neg e0, if_pos e2]
  exact hs
theorem kit_val {K : PySem.W.Frag} {C : Addr} (hs : PySem.W.subIn K (.ref C) (.type "ValueError") = some true) : PySem.W.kitOne K (.ref C) (.type "ValueError") = some true := by
  show (if (Value.ref C == Value.type "ValueError") = true then some true else if PySem.W.kitMeta "ValueError" = true then PySem.W.subIn K (.ref C) (.type "ValueError") else none) = some true
  rw [if_neg (by intro z; cases (beq_iff_eq.mp z)), if_pos (by decide +kernel)]
  exact hs
theorem exm_own {K : PySem.W.Frag} {mg : Str → Option Value} {x : Str} {C D : Addr} {b : Bool} (hD : ExcX K mg x D) (hs : PySem.W.subIn K (.ref C) (.ref D) = some b) : PySem.W.exmOne K (.ref C) (.ref D) = some b := PySem.W.exm_ref hD.sub hD.is.hd hD.ty hs
/-- isinstance(e, c) and isinstance(e, (c1, c2, ..)), e the exception that the suite holds -/
def rIsEx (K : PySem.W.Frag) (a : Addr) (cls : Value) (d : Option Addr) : List V → Hp → VK → Prop := fun xs H Q => ∃ (D : Addr) (b : Bool), cls = .ref D ∧ d = none ∧ ExcC K D ∧ Q (.bl b) H ∧
  ((∃ (c : V) (cv : Value), xs = [.ref a, c] ∧ ClsV c cv ∧ PySem.W.kitOne K (.ref D) cv = some b) ∨ ∃ (tp : Addr) (cs : List V) (us : List Value), xs = [.ref a, .ref tp] ∧ H tp = some (.tup cs) ∧ Paired ClsV cs us ∧ PySem.W.kitAny K (.ref D) us = some b)
theorem call_isEx {X : Cx} {a : Addr} {cls : Value} {d : Option Addr} {oe : Obj} {pn : List (Addr × Obj)} (hz : Zc cls d oe) (hf : ∃ vs, oe.data = .fields vs) : CallR (X.suite a ((a, oe) :: pn)) (.builtin "isinstance") (rIsEx X.K a cls d) := by
  intro pins s σ H xs us Q I r h
  obtain ⟨D, b, rfl, rfl, C, q, h⟩ := h
  rcases h with ⟨c, cv, rfl, hcv, e⟩ | ⟨tp, cs, ws, rfl, hT, k, e⟩
  · exact call_isE C hz hf pins s σ H _ us Q I r ⟨c, cv, b, rfl, fun u hu => hcv.eq hu, e, q⟩
  · obtain ⟨u1, u2, rfl, r1, r2⟩ := vals2 r
    cases (show u2 = Value.ref tp from r2)
    cases (show u1 = Value.ref a from r1)
    obtain ⟨hget, _⟩ := I.pin (a, oe) (List.mem_append.mpr (.inl List.mem_cons_self))
    obtain ⟨vs, hv⟩ := hf
    have J : PySem.W.InstAt s.heap a oe D none := by
      obtain ⟨oc, od, oda, osl⟩ := oe
      obtain ⟨h1, h2⟩ := hz
      dsimp only at h1 h2 hv
      subst h1 h2 hv
      exact ⟨hget, rfl, rfl, trivial⟩
    obtain ⟨_, its, rv, o, h1, h2, n, h3⟩ := (show ObjOk X.prog X.w H s.heap tp (.tup cs) from I.hok tp _ hT)
    have e3 := ClsV.all k rv
    subst e3
    obtain ⟨oc, od, dt, sl⟩ := o
    simp only at h2 h3
    subst h2 h3
    exact PySem.W.kia_tup (PySem.W.handS_kitx_exc C.hg C.hk C.hs C.hd C.ha C.hn C.ht C.hm) I.kIn J h1 e (fun z => nomatch z) fun tk => ⟨.bl b, H, I.kept (t' := tk) fun _ _ z => z, rfl, q⟩
/-- a def that may raise -/
structure FdX (P : Program) (w : World) (K : PySem.W.Frag) (mg : Str → Option Value) (base : Heap) (x : Str) (ps : List Str) (k : Nat) (sp : Sp) : Prop where
  ex : ∃ (f : Addr) (fd : FuncData), FnOk P w K mg base (L2.CX P w) k f fd ps sp ∧ mg x = some (.ref f) ∧ PySem.W.keepIn K (.ref f) = true ∧ Binds K fd ps []
theorem pe_fnX {X : Cx} {x : Str} {ps : List Str} {k : Nat} {sp : Sp} {e : Expr} {es : List Expr} {t : TA} {p pos : Pos} {W : WX} (F : FdX X.prog X.w X.K X.mg X.base x ps k sp) (hr : Room k X.A) (hg : Gl X x) (tk : Takes X W) (ha : PA X (e :: es) t)
    (hdb : (x == ("__debug__" : Str)) = false := by decide) (he : starEach (e :: es) X.env = (false, eval e X.env) :: starEach es X.env := by rfl) (hpl : (backTo pos (starEach es X.env)).any (·.1) = false := by rfl) :
    PE X (.Call (.Name x p) (e :: es) [] pos) (tCallS sp (WE W) t) := by
  obtain ⟨f, fd, G, m, kp, b⟩ := F.ex
  exact pe_callS G hr hg m kp b (fun σ => passAt tk σ) ha hdb he hpl
theorem kit_sub {K : PySem.W.Frag} {mg : Str → Option Value} {x y : Str} {C D : Addr} {b : Bool} (hC : ExcX K mg x C) (hD : ExcX K mg y D) (hs : PySem.W.subIn K (.ref C) (.ref D) = some b) : PySem.W.kitOne K (.ref C) (.ref D) = some b := by
  by_cases e : C = D
  · subst e
    rw [hC.self] at hs
    cases hs
    show (if (Value.ref C == Value.ref C) = true then some true else _) = some true
    rw [if_pos (beq_self_eq_true _)]
  · exact kit_ref hD.ic hD.ty e hs
theorem kit_two {K : PySem.W.Frag} {t c1 c2 : Value} (h1 : PySem.W.kitOne K t c1 = some false) (h2 : PySem.W.kitOne K t c2 = some false) : PySem.W.kitAny K t [c1, c2] = some false := by
  unfold PySem.W.kitAny
  rw [h1]
  show PySem.W.kitAny K t [c2] = some false
  unfold PySem.W.kitAny
  rw [h2]
  rfl
def isTE (K : PySem.W.Frag) (a : Addr) (cls : Value) (d : Option Addr) (i : Nat) (te : TE) : TE := tCB (rIsEx K a cls d) (tCons (tVar i) (tCons te tNil))
/-- isinstance(e, A) and isinstance(e, ValueError) and not isinstance(e, (B, C)) -/
def isAll (K : PySem.W.Frag) (i : Nat) (A : V) (B : TE) (a : Addr) (cls : Value) (d : Option Addr) : TE := tAndV (isTE K a cls d i (tC A)) (tAndV (isTE K a cls d i (tC (.ty "ValueError"))) (tNotV (isTE K a cls d i B)))
theorem isAll_yes {K : PySem.W.Frag} {mg : Str → Option Value} {nC nL n1 n2 : Str} {i : Nat} {a C L D1 D2 : Addr} {σ : L2.St} {H : Hp} {Q : VK} (XC : ExcX K mg nC C) (XL : ExcX K mg nL L) (X1 : ExcX K mg n1 D1) (X2 : ExcX K mg n2 D2)
    (hL : PySem.W.subIn K (.ref C) (.ref L) = some true) (h1 : PySem.W.subIn K (.ref C) (.ref D1) = some false) (h2 : PySem.W.subIn K (.ref C) (.ref D2) = some false) (hi : σ[i]? = some (some (.ref a)))
    (q : ∀ H', Same H H' → Q (.bl true) H') : isAll K i (.ref L) (tTup (tCons (tC (.ref D1)) (tCons (tC (.ref D2)) tNil))) a (.ref C) none σ H Q :=
  ⟨_, hi, C, true, rfl, rfl, XC.is, ⟨_, rfl, iteT ⟨_, hi, C, true, rfl, rfl, XC.is, ⟨_, rfl, iteT ⟨_, hi, szc 2, fun tp np => ⟨C, false, rfl, rfl, XC.is, ⟨_, rfl, q _ (same_new np)⟩, .inr ⟨tp, _, _, rfl, upd_same, .cons (.own _) (.cons (.own _) .nil), kit_two (kit_sub XC X1 h1) (kit_sub XC X2 h2)⟩⟩⟩⟩, .inl ⟨_, _, rfl, .ty _, kit_val XC.val⟩⟩⟩, .inl ⟨_, _, rfl, .own _, kit_sub XC XL hL⟩⟩
/-- isinstance(e, A) and isinstance(e, ValueError) and not isinstance(e, B) -/
theorem isAll_yes1 {K : PySem.W.Frag} {mg : Str → Option Value} {nC nL n1 : Str} {i : Nat} {a C L D1 : Addr} {σ : L2.St} {H : Hp} {Q : VK} (XC : ExcX K mg nC C) (XL : ExcX K mg nL L) (X1 : ExcX K mg n1 D1)
    (hL : PySem.W.subIn K (.ref C) (.ref L) = some true) (h1 : PySem.W.subIn K (.ref C) (.ref D1) = some false) (hi : σ[i]? = some (some (.ref a)))
    (q : Q (.bl true) H) : isAll K i (.ref L) (tC (.ref D1)) a (.ref C) none σ H Q :=
  ⟨_, hi, C, true, rfl, rfl, XC.is, ⟨_, rfl, iteT ⟨_, hi, C, true, rfl, rfl, XC.is, ⟨_, rfl, iteT ⟨_, hi, C, false, rfl, rfl, XC.is, ⟨_, rfl, q⟩, .inl ⟨_, _, rfl, .own _, kit_sub XC X1 h1⟩⟩⟩, .inl ⟨_, _, rfl, .ty _, kit_val XC.val⟩⟩⟩, .inl ⟨_, _, rfl, .own _, kit_sub XC XL hL⟩⟩
/-- isinstance(e, A) and not isinstance(e, B) -/
def isTwo (K : PySem.W.Frag) (i : Nat) (A B : V) (a : Addr) (cls : Value) (d : Option Addr) : TE := tAndV (isTE K a cls d i (tC A)) (tNotV (isTE K a cls d i (tC B)))
theorem isTwo_yes {K : PySem.W.Frag} {mg : Str → Option Value} {nC nL n1 : Str} {i : Nat} {a C L D1 : Addr} {σ : L2.St} {H : Hp} {Q : VK} (XC : ExcX K mg nC C) (XL : ExcX K mg nL L) (X1 : ExcX K mg n1 D1)
    (hL : PySem.W.subIn K (.ref C) (.ref L) = some true) (h1 : PySem.W.subIn K (.ref C) (.ref D1) = some false) (hi : σ[i]? = some (some (.ref a)))
    (q : Q (.bl true) H) : isTwo K i (.ref L) (.ref D1) a (.ref C) none σ H Q :=
  ⟨_, hi, C, true, rfl, rfl, XC.is, ⟨_, rfl, iteT ⟨_, hi, C, false, rfl, rfl, XC.is, ⟨_, rfl, q⟩, .inl ⟨_, _, rfl, .own _, kit_sub XC X1 h1⟩⟩⟩, .inl ⟨_, _, rfl, .own _, kit_sub XC XL hL⟩⟩
structure Exs (K : PySem.W.Frag) (mg : Str → Option Value) (CL CO CN CB : Addr) : Prop where
  L : ExcX K mg "LegionError" CL
  O : ExcX K mg "OutOfRange" CO
  N : ExcX K mg "NotPossible" CN
  B : ExcX K mg "BadMachine" CB
  oL : PySem.W.subIn K (.ref CO) (.ref CL) = some true
  oN : PySem.W.subIn K (.ref CO) (.ref CN) = some false
  oB : PySem.W.subIn K (.ref CO) (.ref CB) = some false
  nL : PySem.W.subIn K (.ref CN) (.ref CL) = some true
  nO : PySem.W.subIn K (.ref CN) (.ref CO) = some false
  nB : PySem.W.subIn K (.ref CN) (.ref CB) = some false
section
variable {P : Program} {w : World} {K : PySem.W.Frag} {mg : Str → Option Value} {base : Heap}
theorem nnO {cs : List (Option Int)} (h : ∀ c ∈ cs, ∀ i, c = some i → 0 ≤ i) {k : Nat} (hk : k < cs.length) {i : Int} (e : cs.getD k none = some i) : 0 ≤ i := h _ (gdO_mem hk) i e
theorem canW_no {m : MvT} {s : Int} {cs : List (Option Int)} (h : s ≠ (m.st : Int)) : m.canW s cs = false := by
  unfold MvT.canW
  rw [decide_eq_false (fun e => h e.symm)]
  rfl
theorem scal_oV : ∀ (m : Option Int) (z : Int), scal (oV m) (V.int z) = true
  | none, _ => rfl
  | some _, _ => rfl
abbrev s_law_wide_after : Stmt := topS 28
theorem sc_law_wide_after : FnScope ["situation", "move", "counts", "place"] ["situation", "move"] (defScope s_law_wide_after) := ⟨rfl, rfl, rfl, by decide +kernel, rfl, by decide +kernel, by decide +kernel⟩
-- _law_wide_after slots: situation=0 move=1 counts=2 place=3 globals: list
def spLWA (K : PySem.W.Frag) : Sp := fun vs H Q _ => ∃ (x y : V) (s : Int) (cs : List (Option Int)) (m : MvT) (S : Nat), vs = [x, y] ∧ WSit K H x s cs ∧ Dp K H y m.data ∧ m.Fit S cs.length ∧ (∀ c ∈ cs, ∀ i, c = some i → 0 ≤ i) ∧
  (m.canW s cs = false → ∀ H', Same H H' → Q .non H') ∧ (m.canW s cs = true → ∀ H' p, Same H H' → NewW H H' p m.ns (m.aftW cs) → Q (.ref p) H')
theorem fd_law_wide_after {f : Addr} {fd : FuncData} (F : Fun K "_law_wide_after" "_law_wide_after" s_law_wide_after f fd) (m : mg "_law_wide_after" = some (.ref f)) (B : Bt mg) : Fd P w K mg base "_law_wide_after" ["situation", "move"] 1 (spLWA K) := by
  refine ⟨f, fd, F.ok sc_law_wide_after (fun vs H Q E h => ?_) (fun cdv A outer s H vs Q E hr h => ?_), m, F.kp, F.binds (ps := ["situation", "move"]) fun _ _ _ _ _ _ us hl => match us, hl with | [_, _], _ => rfl⟩
  · obtain ⟨x, y, s, cs, m, S, rfl, _⟩ := h
    rfl
  obtain ⟨x, y, s, cs, mv, S, rfl, ⟨a, ca, rfl, ha, hca⟩, hd, hf, nn, q1, q2⟩ := h
  obtain ⟨b, sa, xs, rfl, hb, _⟩ := dp_mv hd
  refine ⟨_, (pss_cons (ps_set (i := 2) sc_law_wide_after.nd rfl (Or.inl rfl) (pe_callTy (cList K) (by rfl) B.list (by decide +kernel) (pa_cons (pe_ix (ixT K) (pv 0) pe_int (fun _ _ => rfl)) pa_nil)))
 (pss_cons (ps_if (PW.pt (pw_or (pt_cmpR op_ne (pe_ix (ixT K) (pv 0) pe_int (fun _ _ => rfl)) (pe_ix (ixT K) (pv 1) pe_int (fun _ _ => rfl)) (nomark _)) (pw_or1 (pt_cmpR op_eq (pe_ix (ixL K) (pv 2) (pe_ix (ixT K) (pv 1) pe_int (fun _ _ => rfl)) (fun _ _ => rfl)) pe_int (nomark _)))))
 (pss_one (ps_ret pe_non))
 pss_nil)
 (C8.pss_cut (ps_if (pt_cmpR op_notN (pe_ix (ixL K) (pv 2) (pe_ix (ixT K) (pv 1) pe_int (fun _ _ => rfl)) (fun _ _ => rfl)) pe_non (nomark _))
 (pss_one (ps_asg (pe_op op_sub (pe_ix (ixL K) (pv 2) (pe_ix (ixT K) (pv 1) pe_int (fun _ _ => rfl)) (fun _ _ => rfl)) pe_int) (pg_sub (pv 2) (pe_ix (ixT K) (pv 1) pe_int (fun _ _ => rfl)) set_list)))
 pss_nil)
 (pss_cons (ps_for PassesOwn.never rfl (piL K (pe_lst (pa_cons (pe_ix (ixT K) (pv 1) pe_int (fun _ _ => rfl)) (pa_cons (pe_ix (ixT K) (pv 1) pe_int (fun _ _ => rfl)) pa_nil)))) (pg_name (i := 3) sc_law_wide_after.nd rfl (Or.inl rfl))
 (pss_one (ps_if (PW.pt (pw_and (pt_cmpR op_notN (pv 3) pe_non (nomark _)) (pw_and1 (pt_cmpR op_notN (pe_ix (ixL K) (pv 2) (pv 3) (fun _ _ => rfl)) pe_non (nomark _)))))
 (pss_one (ps_asg (pe_op op_add (pe_ix (ixL K) (pv 2) (pv 3) (fun _ _ => rfl)) pe_int) (pg_sub (pv 2) (pv 3) set_list)))
 pss_nil)))
 (pss_one (ps_ret (pe_tup (pa_cons (pe_ix (ixT K) (pv 1) pe_int (fun _ _ => rfl)) (pa_cons (pv 2) pa_nil))))))))), ?_⟩
  refine ⟨_, rfl, _, _, _, _, rfl, rfl, ha, atI_nat (j := 1) rfl, ca, _, rfl, .inl hca, fun l nl => ?_⟩
  dsimp only [gName]
  have s1 := same_new (o := HO.lst (cs.map oV)) nl
  have el : (upd H l (.lst (cs.map oV))) l = some (.lst (cs.map oV)) := upd_same
  generalize upd H l (.lst (cs.map oV)) = H1 at s1 el ⊢
  have ha1 := Same.seqT s1 ha
  have hb1 := Same.seqT s1 hb
  have ac := at_gdO (ds := cs) (i := (mv.pl : Int)) rfl hf.pl
  refine ⟨_, rfl, _, _, _, _, rfl, rfl, ha1, atI_nat (j := 0) rfl, _, rfl, _, _, _, _, rfl, rfl, hb1, atI_nat (j := 0) rfl, rfl, _, rfl, ?_⟩
  rw [int_eqE]
  by_cases est : s = (mv.st : Int)
  · rw [decide_eq_true est]
    refine iteF ?_
    refine ⟨_, rfl, _, rfl, _, _, _, _, rfl, rfl, hb1, atI_nat (j := 1) rfl, _, _, _, _, rfl, rfl, sq el, ac, scal_oV _ _, _, rfl, ?_⟩
    have cw : mv.canW s cs = posO (cs.getD mv.pl none) := by unfold MvT.canW; rw [decide_eq_true est.symm, Bool.true_and]
    rw [cw] at q1 q2
    cases e0 : decide (oV (cs.getD mv.pl none) = V.int 0) with
    | true =>
      refine iteT (q1 ?_ _ s1)
      have := of_decide_eq_true e0
      cases e : cs.getD mv.pl none with
      | none => rw [e] at this; cases this
      | some c => rw [e] at this; cases this; rfl
    | false =>
      refine iteF ?_
      have hpos : posO (cs.getD mv.pl none) = true := by
        cases e : cs.getD mv.pl none with
        | none => rfl
        | some c =>
          have h0 := nnO nn hf.pl e
          have : c ≠ 0 := fun z => by rw [e, z] at e0; cases e0
          exact decide_eq_true (by omega)
      replace q2 := q2 hpos
      clear q1 cw e0 hpos
      refine ⟨fun σ' H' => σ' = [some (.ref a), some (.ref b), some (.ref l), none] ∧ Same (Ho l H1) (Ho l H') ∧ Same H H' ∧ H' l = some (.lst ((chgO cs (some mv.pl, -1)).map oV)), ?_, ?_⟩
      · refine ⟨_, rfl, _, rfl, _, _, _, _, rfl, rfl, hb1, atI_nat (j := 1) rfl, _, _, _, _, rfl, rfl, sq el, ac, rfl, _, rfl, ?_⟩
        rw [oV_non]
        cases e : cs.getD mv.pl none with
        | none => exact iteF ⟨rfl, Same.refl _, s1, by show H1 l = some (.lst ((bumpO cs mv.pl (-1)).map oV)); rw [bumpO_none hf.pl e]; exact el⟩
        | some c =>
          refine iteT ?_
          rw [e] at ac
          refine ⟨_, rfl, _, rfl, _, _, _, _, rfl, rfl, hb1, atI_nat (j := 1) rfl, _, _, _, _, rfl, rfl, sq el, ac, _, _, rfl, rfl, _, rfl, _, rfl, _, _, _, _, rfl, rfl, hb1, atI_nat (j := 1) rfl, _, _, _, _, rfl, rfl, el, ixN_nat (by rw [List.length_map]; exact hf.pl), ?_⟩
          rw [set_oV]
          refine ⟨rfl, ho_mut, Same.mut s1 nl, ?_⟩
          show _ = some (HO.lst ((bumpO cs mv.pl (-1)).map oV))
          unfold bumpO
          rw [e]
          exact upd_same
      rintro σ' H2 ⟨rfl, sh2, sm2, el2⟩
      have ne : ∀ {t : Addr} {u : HO}, H1 t = some u → t ≠ l → H2 t = some u := fun h hn => ho_out _ _ (sh2 _ _ (by unfold Ho; rw [if_neg hn]; exact h))
      have hb2 := Same.seqT sm2 hb
      have ln2 : (chgO cs (some mv.pl, -1)).length = cs.length := chgO_len _ _
      have aft : mv.aftW cs = [(some mv.np, 1), (mv.sd, 1)].foldl chgO (chgO cs (some mv.pl, -1)) := rfl
      rw [aft] at q2
      generalize chgO cs (some mv.pl, -1) = c2 at el2 ln2 q2
      clear ac nn aft ne sh2
      refine ⟨_, rfl, _, _, _, _, rfl, rfl, hb2, atI_nat (j := 3) rfl, _, rfl, _, _, _, _, rfl, rfl, hb2, atI_nat (j := 4) rfl, szc 2, fun t nt => ?_⟩
      have et : (upd H2 t (.lst [nV mv.np, sdV mv.sd])) t = some (.lst [nV mv.np, sdV mv.sd]) := upd_same
      have tl : t ≠ l := fun e => by rw [e, el2] at nt; cases nt
      have el3 := (same_new (o := HO.lst [nV mv.np, sdV mv.sd]) nt) _ _ el2
      have sm3 := sm2.trans (same_new (o := HO.lst [nV mv.np, sdV mv.sd]) nt)
      generalize upd H2 t (.lst [nV mv.np, sdV mv.sd]) = H3 at et el3 sm3 ⊢
      have tAt : ∀ (i : Nat) (x : V), [nV mv.np, sdV mv.sd][i]? = some x → ∃ o : Option Nat, x = sdV o ∧ [(some mv.np, (1 : Int)), (mv.sd, 1)][i]? = some (o, 1) ∧ ∀ k, o = some k → k < cs.length := fun i x h => by
        match i, h with
        | 0, h => cases h; exact ⟨some mv.np, rfl, rfl, fun k e => by cases e; exact hf.np⟩
        | 1, h => cases h; exact ⟨mv.sd, rfl, rfl, hf.sd⟩
      refine ⟨t, rfl, ⟨_, sq et⟩, for_list (xs := [nV mv.np, sdV mv.sd]) (fun i σ' H' => ∃ y3 : Option V, σ' = [some (.ref a), some (.ref b), some (.ref l), y3] ∧ Same (Ho l H3) (Ho l H') ∧ Same H H' ∧ H' l = some (.lst ((([(some mv.np, (1 : Int)), (mv.sd, 1)].take i).foldl chgO c2).map oV))) ⟨none, rfl, Same.refl _, sm3, el3⟩ ?_ ?_ ?_⟩
      · rintro i σ' H' _ ⟨y3, rfl, sh, _, _⟩
        refine sq (ho_out _ _ (sh _ _ ?_))
        unfold Ho
        rw [if_neg tl]
        exact et
      · rintro i x σ' H' hx ⟨y3, rfl, sh, sm, eL⟩
        obtain ⟨o, rfl, hs, ho⟩ := tAt i x hx
        rw [take_snoc hs, List.foldl_append]
        have ln : (([(some mv.np, (1 : Int)), (mv.sd, 1)].take i).foldl chgO c2).length = cs.length := (chgs_len _ _).trans ln2
        generalize ([(some mv.np, (1 : Int)), (mv.sd, 1)].take i).foldl chgO c2 = c1 at eL ln ⊢
        dsimp only [gName]
        refine ⟨_, rfl, rfl, _, rfl, ?_⟩
        cases o with
        | none => exact iteF (iteF ⟨_, rfl, sh, sm, eL⟩)
        | some k =>
          have hk : k < c1.length := by rw [ln]; exact ho k rfl
          have ak := at_gdO (ds := c1) (i := (k : Int)) rfl hk
          refine iteT ⟨_, rfl, _, rfl, _, _, _, _, rfl, rfl, sq eL, ak, rfl, _, rfl, ?_⟩
          rw [oV_non]
          cases e : c1.getD k none with
          | none => exact iteF ⟨_, rfl, sh, sm, by show H' l = some (.lst ((bumpO c1 k 1).map oV)); rw [bumpO_none hk e]; exact eL⟩
          | some c =>
            refine iteT ?_
            rw [e] at ak
            refine ⟨_, rfl, _, rfl, _, _, _, _, rfl, rfl, sq eL, ak, _, _, rfl, rfl, _, rfl, _, rfl, _, _, _, _, rfl, rfl, eL, ixN_nat (by rw [List.length_map]; exact hk), ?_⟩
            rw [set_oV]
            refine ⟨_, rfl, sh.trans ho_mut, Same.mut sm nl, ?_⟩
            show _ = some (HO.lst ((bumpO c1 k 1).map oV))
            unfold bumpO
            rw [e]
            exact upd_same
      · rintro σ' H' ⟨y3, rfl, sh, sm, eL⟩
        refine ⟨_, rfl, _, _, _, _, rfl, rfl, Same.seqT sm hb, atI_nat (j := 2) rfl, _, rfl, szc 2, fun p np => ?_⟩
        have pl : p ≠ l := fun e => by rw [e, eL] at np; cases np
        exact q2 _ p (sm.trans (same_new np)) ⟨l, sm.free np, nl, Ne.symm pl, upd_same, by rw [upd_ne (Ne.symm pl)]; exact eL⟩
  · rw [decide_eq_false est]
    exact iteT (q1 (canW_no est) _ s1)
end
section
variable {P : Program} {w : World} {K : PySem.W.Frag} {mg : Str → Option Value} {base : Heap}
abbrev Wn := Int × List (Option Int)
def wD (r : Wn) : PyData := wsitD r.1 r.2
def WOk (S : Nat) (N : Nat) (top : Nat) (r : Wn) : Prop := r.2.length = N ∧ 0 ≤ r.1 ∧ r.1 < (S : Int) ∧ ∀ c ∈ r.2, ∀ i, c = some i → 0 ≤ i ∧ i ≤ (top : Int)
end
section
variable {P : Program} {w : World} {K : PySem.W.Frag} {mg : Str → Option Value} {base : Heap}
theorem filter_snoc {α : Type} {f : α → Bool} {xs : List α} {i : Nat} {x : α} (h : xs[i]? = some x) : (xs.take (i + 1)).filter f = (xs.take i).filter f ++ (if f x then [x] else []) := by
  rw [take_snoc h, List.filter_append]
  congr 1
  rw [List.filter_cons]
  rfl
/-- a comprehension that keeps those of a list of data for which a test holds -/
theorem lc_filt {α : Type} {fD : α → PyData} {j : Nat} {tt : TT} {vs : List Nat} {σ : L2.St} {H1 : Hp} {D a : Addr} {xs : List V} {as : List α} {Qd : Hp → Prop} (p : α → Bool) (nD : H1 D = none) (ha : SqL K H1 a xs) (hd : DpAll K H1 xs (as.map fD)) (hb : as.length ≤ 90000) (hw : ∀ x, wipe ((wipe σ vs).set j x) vs = wipe σ vs) (hj : ∀ x, ((wipe σ vs).set j (some x))[j]? = some (some x))
    (ht : ∀ (i : Nat) (x : α) (u : V) (H : Hp) (Q : Bool → Hp → Prop), as[i]? = some x → Dp K H u (fD x) → Same H1 H → (∀ H4, Same H H4 → Q (p x) H4) → tt ((wipe σ vs).set j (some u)) H Q)
    (hq : ∀ (H : Hp) (ys : List V), Same H1 H → H D = some (.lst ys) → DpAll K H1 ys ((as.filter p).map fD) → Qd H) :
    ∃ W : Nat → Nat → Hp → Prop, (∃ m, W 0 m (upd H1 D (.lst []))) ∧ ∀ i m H, W i m H →
      ((Itl K a).stop i H ∧ Qd H) ∨ ((Itl K a).go i H ∧ ∃ Nx : Hp → Prop, (∀ H', Nx H' → ∃ m', m' < m ∧ W (i + 1) m' H') ∧ ∀ x H', (Itl K a).yld i H x H' → gName j x (wipe σ vs) H' fun σ2 H2 => wipe σ2 vs = wipe σ vs ∧ tt σ2 H2 fun b H3 =>
        if b = true then tVar j σ2 H3 fun y H4 => ∃ acc, H4 D = some (.lst acc) ∧ acc.length < sizeLine ∧ Nx (upd H4 D (.lst (acc ++ [y]))) else Nx H3) := by
  have xl := dpa_map_len hd
  refine lc_list (xs := xs) (fun i H' => Same H1 H' ∧ ∃ ys, H' D = some (.lst ys) ∧ DpAll K H1 ys (((as.take i).filter p).map fD)) ⟨same_new nD, [], upd_same, .nil⟩ (fun _ H' _ h => h.1.seq ha) ?_ ?_
  · rintro i u H' hu ⟨sm, ys, eD, dy⟩
    obtain ⟨x, hx, du⟩ := dpa_map_at hd hu
    have lt := (List.getElem?_eq_some_iff.mp hx).1
    have yl := dpa_map_len dy
    refine ⟨hw _, ht i x u H' _ hx (dp_mono sm du) sm fun H4 s4 => ?_⟩
    rw [filter_snoc hx]
    cases hp : p x with
    | false =>
      refine iteF ⟨sm.trans s4, ys, s4 _ _ eD, ?_⟩
      rw [if_neg (by decide), List.append_nil]
      exact dy
    | true =>
      refine iteT ⟨u, hj u, ys, s4 _ _ eD, ?_, Same.mut (sm.trans s4) nD, ys ++ [u], upd_same, ?_⟩
      · rw [yl]
        have := List.length_filter_le p (as.take i)
        rw [List.length_take] at this
        exact szl (by omega)
      · rw [if_pos rfl, List.map_append]
        exact dpa_app dy (.cons du .nil)
  · rintro H ⟨sm, ys, eD, dy⟩
    rw [xl, List.take_length] at dy
    exact hq H ys sm eD dy
end
/-! ### closed lists of wide situations -/
def cvd (rs : List Wn) (x : Wn) : Bool := rs.any fun r => covW r.1 r.2 x.1 x.2
def begW (M : MT) : Wn := ((M.sst : Int), (M.cnts.map some).set M.crew none)
def succW (M : MT) (r : Wn) : List Wn := (M.moves.filter fun m => m.canW r.1 r.2).map fun m => ((m.ns : Int), m.aftW r.2)
def closedB (M : MT) (rs : List Wn) : Bool := cvd rs (begW M) && rs.all fun r => (succW M r).all (cvd rs)
theorem begW_len (M : MT) : (begW M).2.length = M.cnts.length := by
  show ((M.cnts.map some).set M.crew none).length = _
  rw [List.length_set, List.length_map]
theorem cvd_snoc {rs : List Wn} {i : Nat} {r x : Wn} (h : rs[i]? = some r) : cvd (rs.take (i + 1)) x = (cvd (rs.take i) x || covW r.1 r.2 x.1 x.2) := by
  unfold cvd
  rw [take_snoc h, List.any_append]
  simp
theorem cvd_at {rs : List Wn} {i : Nat} {r x : Wn} (h : rs[i]? = some r) (e : covW r.1 r.2 x.1 x.2 = true) : cvd rs x = true := List.any_eq_true.mpr ⟨r, List.mem_of_getElem? h, e⟩
section
variable {P : Program} {w : World} {K : PySem.W.Frag} {mg : Str → Option Value} {base : Heap}
theorem map_oV_some (cs : List Int) : (cs.map some).map oV = cs.map V.int := by rw [List.map_map]; rfl
abbrev s_is_covered : Stmt := topS 12
theorem sc_is_covered : FnScope ["situation", "wides", "wide"] ["situation", "wides"] (defScope s_is_covered) := ⟨rfl, rfl, rfl, by decide +kernel, rfl, by decide +kernel, by decide +kernel⟩
-- is_covered slots: situation=0 wides=1 wide=2 globals: wide_covers
def spIsCov (K : PySem.W.Frag) : Sp := fun vs H Q _ => ∃ (x : V) (a : Addr) (s : Int) (cs : List (Option Int)) (xs : List V) (rs : List Wn), vs = [x, .ref a] ∧ WSit K H x s cs ∧ SqL K H a xs ∧ DpAll K H xs (rs.map wD) ∧ (∀ r ∈ rs, r.2.length = cs.length) ∧ ∀ H', Same H H' → Q (.bl (cvd rs (s, cs))) H'
theorem fd_is_covered {f : Addr} {fd : FuncData} (F : Fun K "is_covered" "is_covered" s_is_covered f fd) (m : mg "is_covered" = some (.ref f)) (D_wide_covers : Fd P w K mg base "wide_covers" ["first", "second"] 1 (spWCov K)) : Fd P w K mg base "is_covered" ["situation", "wides"] 2 (spIsCov K) := by
  refine ⟨f, fd, F.ok sc_is_covered (fun vs H Q E h => ?_) (fun cdv A outer s H vs Q E hr h => ?_), m, F.kp, F.binds (ps := ["situation", "wides"]) fun _ _ _ _ _ _ us hl => match us, hl with | [_, _], _ => rfl⟩
  · obtain ⟨x, a, s, cs, xs, rs, rfl, _⟩ := h
    rfl
  obtain ⟨x, a, s, cs, xs, rs, rfl, hx, ha, hd, hl, q⟩ := h
  refine ⟨_, (pss_cons (ps_for PassesOwn.never rfl (piL K (pv 1)) (pg_name (i := 2) sc_is_covered.nd rfl (Or.inl rfl))
 (pss_one (ps_if (pt_val (pe_fn D_wide_covers (hr.mono (by decide)) rfl (pa_cons (pv 2) (pa_cons (pv 0) pa_nil))))
 (pss_one (ps_ret pe_bl))
 pss_nil)))
 (pss_one (ps_ret pe_bl))), ?_⟩
  have xl := dpa_map_len hd
  refine ⟨_, rfl, a, rfl, ⟨_, ha⟩, for_list (xs := xs) (fun i σ' H' => ∃ y2 : Option V, σ' = [some x, some (.ref a), y2] ∧ Same H H' ∧ cvd (rs.take i) (s, cs) = false) ⟨none, rfl, Same.refl _, rfl⟩ ?_ ?_ ?_⟩
  · rintro i σ' H' _ ⟨y2, rfl, sm, _⟩
    exact sm.seq ha
  · rintro i u σ' H' hu ⟨y2, rfl, sm, g⟩
    obtain ⟨r, hr', du⟩ := dpa_map_at hd hu
    refine ⟨_, rfl, _, rfl, u, x, r.1, s, r.2, cs, rfl, dp_wsit (dp_mono sm du), Same.wsit sm hx, hl r (List.mem_of_getElem? hr'), fun H2 s2 => ⟨_, rfl, ?_⟩⟩
    have sm2 := sm.trans s2
    cases c : covW r.1 r.2 s cs with
    | true =>
      have q' := q _ sm2
      rw [cvd_at (x := (s, cs)) hr' c] at q'
      exact iteT q'
    | false => exact iteF ⟨_, rfl, sm2, by rw [cvd_snoc hr', g, show covW r.1 r.2 (s, cs).1 (s, cs).2 = false from c]; rfl⟩
  · rintro σ' H' ⟨y2, rfl, sm, g⟩
    rw [xl, List.take_length] at g
    have q' := q _ sm
    rw [g] at q'
    exact q'
abbrev s_beginning : Stmt := topS 15
theorem sc_beginning : FnScope ["machine", "state", "counts"] ["machine"] (defScope s_beginning) := ⟨rfl, rfl, rfl, by decide +kernel, rfl, by decide +kernel, by decide +kernel⟩
-- beginning slots: machine=0 state=1 counts=2 globals: start_with
def spBegin (K : PySem.W.Frag) : Sp := fun vs H Q _ => ∃ (v : V) (M : MT), vs = [v] ∧ Dp K H v M.data ∧ M.crew < M.cnts.length ∧ ∀ H' p, Same H H' → NewW H H' p (begW M).1 (begW M).2 → Q (.ref p) H'
theorem fd_beginning {f : Addr} {fd : FuncData} (F : Fun K "beginning" "beginning" s_beginning f fd) (m : mg "beginning" = some (.ref f)) (D_start_with : Fd P w K mg base "start_with" ["machine", "crew"] 1 (spStart K)) : Fd P w K mg base "beginning" ["machine"] 2 (spBegin K) := by
  refine ⟨f, fd, F.ok sc_beginning (fun vs H Q E h => ?_) (fun cdv A outer s H vs Q E hr h => ?_), m, F.kp, F.binds (ps := ["machine"]) fun _ _ _ _ _ _ us hl => match us, hl with | [_], _ => rfl⟩
  · obtain ⟨v, M, rfl, _⟩ := h
    rfl
  obtain ⟨v, M, rfl, hd, hc, q⟩ := h
  obtain ⟨am, sv, ma, xm, rfl, ham, _, _, _⟩ := dp_mt hd
  refine ⟨_, (pss_cons (ps_asg (pe_fn D_start_with (hr.mono (by decide)) rfl (pa_cons (pv 0) (pa_cons pe_int pa_nil))) (pg_tup rfl (pgs_cons (pg_name (i := 1) sc_beginning.nd rfl (Or.inl rfl)) (pgs_cons (pg_name (i := 2) sc_beginning.nd rfl (Or.inl rfl)) pgs_nil))))
 (pss_cons (ps_asg pe_non (pg_sub (pv 2) (pe_ix (ixT K) (pv 0) pe_int (fun _ _ => rfl)) set_list))
 (pss_one (ps_ret (pe_tup (pa_cons (pv 1) (pa_cons (pv 2) pa_nil))))))), ?_⟩
  refine ⟨_, rfl, _, M, 0, rfl, hd, Int.le_refl _, hc, fun H1 p s1 nw => ?_⟩
  obtain ⟨ca, n1, n2, n3, e1, e2⟩ := nw
  refine ⟨p, _, rfl, st e1, rfl, _, _, rfl, _, _, rfl, rfl, ?_⟩
  dsimp only [gName]
  have hb : bump M.cnts M.crew 0 = M.cnts := by
    unfold bump
    rw [Int.add_zero]
    refine List.ext_getElem? fun i => ?_
    rw [List.getElem?_set]
    split
    · rename_i e
      subst e
      rw [gd hc]
    · rfl
  rw [hb, ← map_oV_some] at e2
  refine ⟨_, rfl, _, rfl, _, _, _, _, rfl, rfl, Same.seqT s1 ham, atI_nat (j := 3) rfl, ca, _, _, M.crew, rfl, rfl, e2, ixN_nat (by rw [List.length_map, List.length_map]; exact hc), ?_⟩
  rw [show V.non = oV none from rfl, ← List.map_set]
  have s2 : Same H (upd H1 ca (.lst (((M.cnts.map some).set M.crew none).map oV))) := Same.mut s1 n2
  refine ⟨_, rfl, _, rfl, szc 2, fun t nt => ?_⟩
  have tc : t ≠ ca := fun e => by rw [e, upd_same] at nt; cases nt
  exact q _ t (s2.trans (same_new nt)) ⟨ca, s2.free nt, n2, Ne.symm tc, upd_same, by rw [upd_ne (Ne.symm tc)]; exact upd_same⟩
abbrev s_successors : Stmt := topS 16
theorem sc_successors : FnScope ["machine", "situation", "move"] ["machine", "situation"] (defScope s_successors) := ⟨rfl, rfl, rfl, by decide +kernel, rfl, by decide +kernel, by decide +kernel⟩
-- successors slots: machine=0 situation=1(cell) move=2(None) globals: 
def spSucc (K : PySem.W.Frag) : Sp := fun vs H Q _ => ∃ (v x : V) (M : MT) (s : Int) (cs : List (Option Int)) (S : Nat), vs = [v, x] ∧ Dp K H v M.data ∧ WSit K H x s cs ∧ (∀ m ∈ M.moves, m.Fit S cs.length) ∧ M.moves.length ≤ 90000 ∧
  ∀ (H' : Hp) (p : Addr) (xs : List V), Same H H' → H p = none → H' p = some (.lst xs) → DpAll K (Ho p H') xs ((succW M (s, cs)).map wD) → Q (.ref p) H'
theorem fd_successors {f : Addr} {fd : FuncData} (F : Fun K "successors" "successors" s_successors f fd) (m : mg "successors" = some (.ref f)) (D_can_take_wide : Fd P w K mg base "can_take_wide" ["situation", "move"] 1 (spCanW K)) (D_taken_wide : Fd P w K mg base "taken_wide" ["situation", "move"] 1 (spTakenW K)) : Fd P w K mg base "successors" ["machine", "situation"] 2 (spSucc K) := by
  refine ⟨f, fd, F.ok sc_successors (fun vs H Q E h => ?_) (fun cdv A outer s H vs Q E hr h => ?_), m, F.kp, F.binds (ps := ["machine", "situation"]) fun _ _ _ _ _ _ us hl => match us, hl with | [_, _], _ => rfl⟩
  · obtain ⟨v, x, M, s, cs, S, rfl, _⟩ := h
    rfl
  obtain ⟨v, x, M, s, cs, S, rfl, hd, hx, hf, hb, q⟩ := h
  obtain ⟨am, sv, ma, xm, rfl, ham, _, hma, hxm⟩ := dp_mt hd
  have xl := dpa_map_len hxm
  refine ⟨_, (pss_one (ps_ret (pe_lc (own := [("move", 2)]) (g := gName 2) (by rfl) sc_successors.nd (piL K (pe_ix (ixT K) (pv 0) pe_int (fun _ _ => rfl))) (blkOk_by (own := [("move", 2)]) (N := ["machine", "situation", "move"]) (sc := (defScope s_successors)) (by decide +kernel)) (fun _ _ _ _ _ => (pg_name (i := 2) sc_successors.nd rfl (Or.inl rfl))) (fun _ _ _ _ _ => (pts_one (pt_val (pe_fn D_can_take_wide (hr.mono (by decide)) rfl (pa_cons (pv 1) (pa_cons (pv 2) pa_nil)))))) (fun _ _ _ _ _ => (pe_fn D_taken_wide (hr.mono (by decide)) rfl (pa_cons (pv 1) (pa_cons (pv 2) pa_nil))))))), ?_⟩
  refine ⟨_, rfl, _, _, _, _, rfl, rfl, ham, atI_nat (j := 4) rfl, ma, rfl, ⟨_, hma⟩, fun D nD => lc_list (xs := xm) (fun i H' => Same H H' ∧ ∃ ys, H' D = some (.lst ys) ∧ DpAll K (Ho D H') ys ((((M.moves.take i).filter fun m => m.canW s cs).map fun m => ((m.ns : Int), m.aftW cs)).map wD)) ⟨same_new nD, [], upd_same, .nil⟩ (fun _ H' _ h => h.1.seq hma) ?_ ?_⟩
  · rintro i u H' hu ⟨sm, ys, eD, dy⟩
    obtain ⟨mv, hmv, du⟩ := dpa_map_at hxm hu
    have fit := hf mv (List.mem_of_getElem? hmv)
    have yl := dpa_len dy
    rw [filter_snoc hmv]
    refine ⟨rfl, _, rfl, _, rfl, x, u, s, cs, mv, rfl, Same.wsit sm hx, dp_mono sm du, fit.pl, _, rfl, ?_⟩
    cases hc : mv.canW s cs with
    | false =>
      refine iteF ⟨sm, ys, eD, ?_⟩
      rw [if_neg (by decide), List.append_nil]
      exact dy
    | true =>
      refine iteT ⟨_, rfl, _, rfl, x, u, s, cs, mv, S, rfl, Same.wsit sm hx, dp_mono sm du, fit, fun H2 p s2 nw => ?_⟩
      obtain ⟨ca, n1, n2, n3, e1, e2⟩ := nw
      have eD2 := s2 _ _ eD
      have pD : p ≠ D := fun e => by rw [e, eD] at n1; cases n1
      have cD : ca ≠ D := fun e => by rw [e, eD] at n2; cases n2
      have lt := (List.getElem?_eq_some_iff.mp hmv).1
      refine ⟨ys, eD2, ?_, Same.mut (sm.trans s2) nD, ys ++ [.ref p], upd_same, ?_⟩
      · rw [yl, List.length_map, List.length_map]
        have := List.length_filter_le (fun m => m.canW s cs) (M.moves.take i)
        rw [List.length_take] at this
        exact szl (by omega)
      · rw [if_pos rfl, List.map_append, List.map_append]
        refine dpa_app (dpAll_mono ((ho_same s2).trans ho_mut) dy) (.cons (dp_mono ho_mut (wsit_dp ⟨p, ca, rfl, st ?_, sq ?_⟩)) .nil)
        · unfold Ho; rw [if_neg pD]; exact e1
        · unfold Ho; rw [if_neg cD]; exact e2
  rintro H' ⟨sm, ys, eD, dy⟩
  rw [xl, List.take_length] at dy
  exact q _ D ys sm nD eD dy
abbrev s_refuse_shifts : Stmt := topS 19
theorem sc_refuse_shifts : FnScope ["machine", "move"] ["machine"] (defScope s_refuse_shifts) := ⟨rfl, rfl, rfl, by decide +kernel, rfl, by decide +kernel, by decide +kernel⟩
-- refuse_shifts slots: machine=0 move=1 globals: NotPossible
def spRefSh (K : PySem.W.Frag) : Sp := fun vs H Q _ => ∃ (v : V) (M : MT), vs = [v] ∧ Dp K H v M.data ∧ (∀ m ∈ M.moves, m.sh = []) ∧ Q .non H
theorem fd_refuse_shifts {f : Addr} {fd : FuncData} (F : Fun K "refuse_shifts" "refuse_shifts" s_refuse_shifts f fd) (m : mg "refuse_shifts" = some (.ref f)) : Fd P w K mg base "refuse_shifts" ["machine"] 1 (spRefSh K) := by
  refine ⟨f, fd, F.ok sc_refuse_shifts (fun vs H Q E h => ?_) (fun cdv A outer s H vs Q E hr h => ?_), m, F.kp, F.binds (ps := ["machine"]) fun _ _ _ _ _ _ us hl => match us, hl with | [_], _ => rfl⟩
  · obtain ⟨v, M, rfl, _⟩ := h
    rfl
  obtain ⟨v, M, rfl, hd, hsh, q⟩ := h
  obtain ⟨am, sv, ma, xm, rfl, ham, _, hma, hxm⟩ := dp_mt hd
  refine ⟨_, (pss_one (ps_for PassesOwn.never rfl (piL K (pe_ix (ixT K) (pv 0) pe_int (fun _ _ => rfl))) (pg_name (i := 1) sc_refuse_shifts.nd rfl (Or.inl rfl))
 (pss_one (ps_if (ptTru K (pe_ix (ixT K) (pv 1) pe_int (fun _ _ => rfl)) (by intro _; rfl))
 (pss_one ps_never)
 pss_nil)))), ?_⟩
  refine ⟨_, rfl, _, _, _, _, rfl, rfl, ham, atI_nat (j := 4) rfl, ma, rfl, ⟨_, hma⟩, for_list (xs := xm) (fun i σ' H' => ∃ y1 : Option V, σ' = [some (.ref am), y1] ∧ H' = H) ⟨none, rfl, rfl⟩ ?_ ?_ ?_⟩
  · rintro i σ' H' _ ⟨y1, rfl, rfl⟩
    exact hma
  · rintro i u σ' H' hu ⟨y1, rfl, rfl⟩
    obtain ⟨mv, hmv, du⟩ := dpa_map_at hxm hu
    obtain ⟨b, sa, xs, rfl, hb, hsa, hxs⟩ := dp_mv du
    rw [hsh mv (List.mem_of_getElem? hmv)] at hxs
    obtain rfl := dpa_nil hxs
    exact ⟨_, rfl, _, _, _, _, rfl, rfl, hb, atI_nat (j := 5) rfl, false, .inl ⟨[], hsa, rfl⟩, iteF ⟨_, rfl, rfl⟩⟩
  · rintro σ' H' ⟨y1, rfl, rfl⟩
    exact q
/-- .. where a move has shifts -/
def spRefShX (K : PySem.W.Frag) (CN : Addr) : Sp := fun vs H Q E => ∃ (v : V) (M : MT), vs = [v] ∧ Dp K H v M.data ∧ (∃ m ∈ M.moves, m.sh ≠ []) ∧ E (.ref CN) none H
theorem fdX_refuse_shifts {CN : Addr} {f : Addr} {fd : FuncData} (F : Fun K "refuse_shifts" "refuse_shifts" s_refuse_shifts f fd) (m : mg "refuse_shifts" = some (.ref f)) (XN : ExcX K mg "NotPossible" CN) : FdX P w K mg base "refuse_shifts" ["machine"] 1 (spRefShX K CN) := by
  refine ⟨f, fd, F.okX sc_refuse_shifts (fun vs H Q E h => ?_) (fun cdv A outer s H vs Q E hr h => ?_), m, F.kp, F.binds (ps := ["machine"]) fun _ _ _ _ _ _ us hl => match us, hl with | [_], _ => rfl⟩
  · obtain ⟨v, M, rfl, _⟩ := h
    rfl
  obtain ⟨v, M, rfl, hd, ⟨mv, hmem, hne⟩, q⟩ := h
  obtain ⟨am, sv, ma, xm, rfl, ham, _, hma, hxm⟩ := dp_mt hd
  have xl := dpa_map_len hxm
  refine ⟨_, (pss_one (ps_for (passes_of rfl) rfl (piL K (pe_ix (ixT K) (pv 0) pe_int (fun _ _ => rfl))) (pg_name (i := 1) sc_refuse_shifts.nd rfl (Or.inl rfl))
   (pss_one (ps_if (ptTru K (pe_ix (ixT K) (pv 1) pe_int (fun _ _ => rfl)) (by intro _; rfl))
   (pss_one (ps_raise (W := fun cls d _ H => E cls d H) rfl (takes_of rfl rfl rfl rfl) (pmk_own PySem.F.excBase_ValueError XN.exc XN.gC XN.kC (raises_own XN.sub XN.ty) rfl)))
   pss_nil)))), ?_⟩
  refine ⟨_, rfl, _, _, _, _, rfl, rfl, ham, atI_nat (j := 4) rfl, ma, rfl, ⟨_, hma⟩, for_list (xs := xm) (fun i σ' H' => ∃ y1 : Option V, σ' = [some (.ref am), y1] ∧ H' = H ∧ ∀ m ∈ M.moves.take i, m.sh = []) ⟨none, rfl, rfl, fun m h => by rw [List.take_zero] at h; cases h⟩ ?_ ?_ ?_⟩
  · rintro i σ' H' _ ⟨y1, rfl, rfl, _⟩
    exact hma
  · rintro i u σ' H' hu ⟨y1, rfl, rfl, g⟩
    obtain ⟨mv, hmv, du⟩ := dpa_map_at hxm hu
    obtain ⟨b, sa, xs, rfl, hb, hsa, hxs⟩ := dp_mv du
    refine ⟨_, rfl, _, _, _, _, rfl, rfl, hb, atI_nat (j := 5) rfl, !xs.isEmpty, .inl ⟨xs, hsa, rfl⟩, ?_⟩
    cases xs with
    | nil =>
      refine iteF ⟨_, rfl, rfl, fun m h => ?_⟩
      rw [take_snoc hmv] at h
      rcases List.mem_append.mp h with h | h
      · exact g m h
      · rw [List.mem_singleton.mp h]
        have := dpa_map_len hxs
        exact List.length_eq_zero_iff.mp this.symm
    | cons z zs => exact iteT q
  · rintro σ' H' ⟨y1, rfl, rfl, g⟩
    rw [xl, List.take_length] at g
    exact absurd (g mv hmem) hne
abbrev s_is_closed : Stmt := topS 10
theorem sc_is_closed : FnScope ["machine", "chosen", "situation", "other"] ["machine", "chosen"] (defScope s_is_closed) := ⟨rfl, rfl, rfl, by decide +kernel, rfl, by decide +kernel, by decide +kernel⟩
-- is_closed slots: machine=0 chosen=1 situation=2 other=3 globals: refuse_shifts is_covered beginning successors
def spIsClosed (K : PySem.W.Frag) : Sp := fun vs H Q _ => ∃ (v : V) (a : Addr) (M : MT) (xs : List V) (rs : List Wn) (N : Nat), vs = [v, .ref a] ∧ Dp K H v M.data ∧ SqL K H a xs ∧ DpAll K H xs (rs.map wD) ∧ (∀ m ∈ M.moves, m.sh = []) ∧ (∀ m ∈ M.moves, m.Fit M.states N) ∧ M.cnts.length = N ∧ M.crew < N ∧ M.moves.length ≤ 1000 ∧ (∀ r ∈ rs, r.2.length = N) ∧ ∀ H', Same H H' → Q (.bl (closedB M rs)) H'
theorem all_take {α : Type} {xs : List α} {p : α → Bool} {i : Nat} {x : α} (h : xs[i]? = some x) : (xs.take (i + 1)).all p = ((xs.take i).all p && p x) := by
  rw [take_snoc h, List.all_append]
  simp
theorem all_no {α : Type} {xs : List α} {p : α → Bool} {i : Nat} {x : α} (h : xs[i]? = some x) (e : p x = false) : xs.all p = false := by
  rw [List.all_eq_false]
  exact ⟨x, List.mem_of_getElem? h, by rw [e]; decide⟩
theorem fd_is_closed {f : Addr} {fd : FuncData} (F : Fun K "is_closed" "is_closed" s_is_closed f fd) (m : mg "is_closed" = some (.ref f)) (D_refuse_shifts : Fd P w K mg base "refuse_shifts" ["machine"] 1 (spRefSh K)) (D_is_covered : Fd P w K mg base "is_covered" ["situation", "wides"] 2 (spIsCov K)) (D_beginning : Fd P w K mg base "beginning" ["machine"] 2 (spBegin K)) (D_successors : Fd P w K mg base "successors" ["machine", "situation"] 2 (spSucc K)) : Fd P w K mg base "is_closed" ["machine", "chosen"] 3 (spIsClosed K) := by
  refine ⟨f, fd, F.ok sc_is_closed (fun vs H Q E h => ?_) (fun cdv A outer s H vs Q E hr h => ?_), m, F.kp, F.binds (ps := ["machine", "chosen"]) fun _ _ _ _ _ _ us hl => match us, hl with | [_, _], _ => rfl⟩
  · obtain ⟨v, a, M, xs, rs, N, rfl, _⟩ := h
    rfl
  obtain ⟨v, a, M, xs, rs, N, rfl, hd, ha, hx, hsh, hf, hcl, hcr, hml, hl, q⟩ := h
  have xl := dpa_map_len hx
  refine ⟨_, (pss_cons (ps_expr (pe_fn D_refuse_shifts (hr.mono (by decide)) rfl (pa_cons (pv 0) pa_nil)))
 (pss_cons (ps_if (pt_not (pt_val (pe_fn D_is_covered (hr.mono (by decide)) rfl (pa_cons (pe_fn D_beginning (hr.mono (by decide)) rfl (pa_cons (pv 0) pa_nil)) (pa_cons (pv 1) pa_nil)))))
 (pss_one (ps_ret pe_bl))
 pss_nil)
 (pss_cons (ps_for PassesOwn.never rfl (piL K (pv 1)) (pg_name (i := 2) sc_is_closed.nd rfl (Or.inl rfl))
 (pss_one (ps_for PassesOwn.never rfl (piL K (pe_fn D_successors (hr.mono (by decide)) rfl (pa_cons (pv 0) (pa_cons (pv 2) pa_nil)))) (pg_name (i := 3) sc_is_closed.nd rfl (Or.inl rfl))
 (pss_one (ps_if (pt_not (pt_val (pe_fn D_is_covered (hr.mono (by decide)) rfl (pa_cons (pv 3) (pa_cons (pv 1) pa_nil)))))
 (pss_one (ps_ret pe_bl))
 pss_nil)))))
 (pss_one (ps_ret pe_bl))))), ?_⟩
  refine ⟨_, rfl, v, M, rfl, hd, hsh, ?_⟩
  refine ⟨_, rfl, v, M, rfl, hd, by omega, fun H1 p s1 nw => ⟨_, rfl, .ref p, a, (begW M).1, (begW M).2, xs, rs, rfl, nw.sit, s1.seq ha, dpAll_mono s1 hx, fun r hr => by rw [begW_len, hl r hr, hcl], fun H2 s2 => ⟨_, rfl, ?_⟩⟩⟩
  have s12 := s1.trans s2
  unfold closedB at q
  cases e0 : cvd rs (begW M) with
  | false =>
    have q' := q _ s12
    rw [e0] at q'
    exact iteTx rfl q'
  | true =>
    rw [e0, Bool.true_and] at q
    refine iteFx rfl ?_
    refine ⟨_, rfl, a, rfl, ⟨_, s12.seq ha⟩, for_list (xs := xs) (fun i σ' H' => ∃ y2 y3 : Option V, σ' = [some v, some (.ref a), y2, y3] ∧ Same H H' ∧ ((rs.take i).all fun r => (succW M r).all (cvd rs)) = true) ⟨none, none, rfl, s12, rfl⟩ ?_ ?_ ?_⟩
    · rintro i σ' H' _ ⟨y2, y3, rfl, sm, _⟩
      exact sm.seq ha
    · rintro i u σ' H' hu ⟨y2, y3, rfl, sm, g⟩
      obtain ⟨r, hr', du⟩ := dpa_map_at hx hu
      have lr := hl r (List.mem_of_getElem? hr')
      refine ⟨_, rfl, _, rfl, v, u, M, r.1, r.2, M.states, rfl, dp_mono sm hd, dp_wsit (dp_mono sm du), (by rw [lr]; exact hf), by omega, fun H3 D ys s3 nD eD dy => ?_⟩
      have dy' := dpAll_mono ho_out dy
      have yl := dpa_map_len dy'
      have sm3 := sm.trans s3
      refine ⟨D, rfl, ⟨_, sq eD⟩, for_list (xs := ys) (fun j σ' H' => ∃ y3 : Option V, σ' = [some v, some (.ref a), some u, y3] ∧ Same H3 H' ∧ ((succW M r).take j).all (cvd rs) = true) ⟨_, rfl, Same.refl _, rfl⟩ ?_ ?_ ?_⟩
      · rintro j σ' H' _ ⟨y3, rfl, sj, _⟩
        exact sj.seq (sq eD)
      · rintro j u2 σ' H' hu2 ⟨y3, rfl, sj, g2⟩
        obtain ⟨r2, hr2, du2⟩ := dpa_map_at dy' hu2
        have lr2 : r2.2.length = N := by
          obtain ⟨mv, _, e⟩ := List.mem_map.mp (List.mem_of_getElem? hr2)
          rw [← e]
          show (mv.aftW r.2).length = N
          rw [aftW_len, lr]
        have sm4 := sm3.trans sj
        refine ⟨_, rfl, _, rfl, u2, a, r2.1, r2.2, xs, rs, rfl, dp_wsit (dp_mono sj du2), sm4.seq ha, dpAll_mono sm4 hx, fun r hr => by rw [lr2, hl r hr], fun H5 s5 => ⟨_, rfl, ?_⟩⟩
        cases e : cvd rs r2 with
        | true => exact iteFx rfl ⟨_, rfl, sj.trans s5, by rw [all_take hr2, g2, e]; rfl⟩
        | false =>
          have q' := q _ (sm4.trans s5)
          rw [all_no hr' (all_no hr2 e)] at q'
          exact iteTx rfl q'
      · rintro σ' H' ⟨y3, rfl, sj, g2⟩
        rw [yl, List.take_length] at g2
        exact ⟨_, _, rfl, sm3.trans sj, by rw [all_take hr', g, g2]; rfl⟩
    · rintro σ' H' ⟨y2, y3, rfl, sm, g⟩
      rw [xl, List.take_length] at g
      have q' := q _ sm
      rw [g] at q'
      exact q'
def spIsClosedX (K : PySem.W.Frag) (CN : Addr) : Sp := fun vs H Q E => ∃ (v x : V) (M : MT), vs = [v, x] ∧ Dp K H v M.data ∧ (∃ m ∈ M.moves, m.sh ≠ []) ∧ E (.ref CN) none H
theorem fdX_is_closed {CN : Addr} {f : Addr} {fd : FuncData} (F : Fun K "is_closed" "is_closed" s_is_closed f fd) (m : mg "is_closed" = some (.ref f)) (DX_refuse_shifts : FdX P w K mg base "refuse_shifts" ["machine"] 1 (spRefShX K CN)) : FdX P w K mg base "is_closed" ["machine", "chosen"] 2 (spIsClosedX K CN) := by
  refine ⟨f, fd, F.okX sc_is_closed (fun vs H Q E h => ?_) (fun cdv A outer s H vs Q E hr h => ?_), m, F.kp, F.binds (ps := ["machine", "chosen"]) fun _ _ _ _ _ _ us hl => match us, hl with | [_, _], _ => rfl⟩
  · obtain ⟨v, x, M, rfl, _⟩ := h
    rfl
  obtain ⟨v, x, M, rfl, hd, hn, q⟩ := h
  refine ⟨_, (pss_cons (ps_expr (pe_fnX (W := fun cls d _ H => E cls d H) DX_refuse_shifts (hr.mono (by decide)) rfl (takes_of rfl rfl rfl rfl) (pa_cons (pv 0) pa_nil))) (PSs.nox (pss_cons ps_never (pss_cons ps_never (pss_one ps_never))))), ?_⟩
  exact ⟨_, rfl, v, M, rfl, hd, hn, q⟩
end
/-! ### machines of the laws of stage 3 -/
structure MT.OkG (M : MT) (P L : Nat) : Prop where
  s1 : 1 ≤ M.states
  s2 : M.states ≤ 3
  p1 : 1 ≤ M.places
  p2 : M.places ≤ P
  ss : M.sst < M.states
  cl : M.cnts.length = M.places
  cb : ∀ c ∈ M.cnts, 0 ≤ c ∧ c < 3
  cr : M.crew < M.places
  m1 : 1 ≤ M.moves.length
  ml : M.moves.length ≤ L
  fit : ∀ m ∈ M.moves, m.Fit M.states M.places
  nd : M.moves.Nodup
section
variable {P : Program} {w : World} {K : PySem.W.Frag} {mg : Str → Option Value} {base : Heap}
theorem nD_nc {n m : Nat} (h : n < 100) : NcD (nD n) 1 m := NcD.int (by omega)
theorem mv0_nc {m : MvT} {S P : Nat} (h : m.Fit S P) (h0 : m.sh = []) (hS : S ≤ 100) (hP : P ≤ 100) : NcD m.data 7 3 := by
  have b : NcD (sdD m.sd) 1 2 := by
    have := h.sd
    cases e : m.sd with
    | none => exact ⟨rfl, Nat.le_refl _, Nat.zero_le _⟩
    | some d => exact nD_nc (by have := this d e; omega)
  have h1 := h.st
  have h2 := h.pl
  have h3 := h.ns
  have h4 := h.np
  unfold MvT.data
  rw [h0]
  exact (NcL.tup (m := 2) (.cons (nD_nc (by omega)) (.cons (nD_nc (by omega)) (.cons (nD_nc (by omega)) (.cons (nD_nc (by omega)) (.cons b (.cons (NcL.lst (ds := []) (c := 0) (m := 1) .nil) (.nil (c := 0))))))))).mono (by omega) (Nat.le_refl _)
theorem mvs0_nc {S P : Nat} (hS : S ≤ 100) (hP : P ≤ 100) : ∀ {ms : List MvT}, (∀ m ∈ ms, m.Fit S P ∧ m.sh = []) → NcL (ms.map MvT.data) (7 * ms.length) 3
  | [], _ => .nil
  | m :: r, h => by
    obtain ⟨h1, h2⟩ := h m List.mem_cons_self
    exact (NcL.cons (mv0_nc h1 h2 hS hP) (mvs0_nc hS hP fun x hx => h x (List.mem_cons_of_mem _ hx))).mono (by rw [List.length_cons]; omega) (Nat.le_refl _)
theorem intsG_nc {m : Nat} : ∀ {ns : List Int}, (∀ n ∈ ns, n.natAbs < 10 ^ 7) → NcL (ns.map PyData.int) ns.length m
  | [], _ => .nil
  | n :: ns, h => by
    have := NcL.cons (NcD.int (m := m) (h n List.mem_cons_self)) (intsG_nc (m := m) fun x hx => h x (List.mem_cons_of_mem _ hx))
    exact this.mono (by rw [List.length_cons]; omega) (Nat.le_refl _)
theorem mt0_nc {M : MT} {P L : Nat} (h : M.OkG P L) (h6 : ∀ m ∈ M.moves, m.sh = []) (hP : P ≤ 50) : NcD M.data (7 * L + P + 20) 5 := by
  have a := mvs0_nc (S := M.states) (P := M.places) (by have := h.s2; omega) (by have := h.p2; omega) (ms := M.moves) fun m hm => ⟨h.fit m hm, h6 m hm⟩
  have b : NcD (sitD (M.sst : Int) M.cnts) (M.cnts.length + 3) 2 := (NcL.tup (m := 1) (.cons (.int (by have := h.ss; have := h.s2; omega)) (.cons (NcL.lst (intsG_nc (m := 0) (fun n hn => by have := h.cb n hn; omega))) (.nil (c := 0))))).mono (by omega) (Nat.le_refl _)
  have h1 := h.ml
  have h2 := h.cl
  have h3 := h.p2
  have h4 := h.s2
  have h5 := h.cr
  exact (NcL.tup (m := 4) (.cons (nD_nc (by omega)) (.cons (nD_nc (by omega)) (.cons (b.mono (Nat.le_refl _) (by decide)) (.cons (nD_nc (by omega)) (.cons (NcL.lst a) (.nil (c := 0)))))))).mono (by omega) (Nat.le_refl _)
theorem nat_of {z : Int} (h : 0 ≤ z) : ∃ n : Nat, z = (n : Int) := ⟨z.toNat, (Int.toNat_of_nonneg h).symm⟩
theorem eqv_anyG {ds : List PyData} {d : PyData} (h : (ds.any fun z => PyData.eqv z d) = false) (e : PyData.eqv d d = true) : d ∉ ds := fun hm => by
  have : (ds.any fun z => PyData.eqv z d) = true := List.any_eq_true.mpr ⟨d, hm, e⟩
  rw [this] at h
  cases h
end
section
variable {P : Program} {w : World} {K : PySem.W.Frag} {mg : Str → Option Value} {base : Heap}
abbrev s_law_machine : Stmt := topS 23
theorem sc_law_machine : FnScope ["first", "second", "sizes", "states", "places", "draws", "moves", "k", "draw", "other", "started", "move", "counts"] ["first", "second"] (defScope s_law_machine) := ⟨rfl, rfl, rfl, by decide +kernel, rfl, by decide +kernel, by decide +kernel⟩
-- _law_machine slots: first=0 second=1 sizes=2 states=3 places=4 draws=5 moves=6 k=7 draw=8 other=9 started=10 move=11 counts=12 globals: _law_digits range
def spWMach (K : PySem.W.Frag) : Sp := fun vs H Q _ => ∃ (c1 c2 : Int), vs = [.int c1, .int c2] ∧ 0 ≤ c1 ∧ 0 ≤ c2 ∧
  ∀ H' v (M : MT), Same H H' → Dp K H' v M.data → M.OkG 8 8 → (∀ m ∈ M.moves, m.sh = []) → Q v H'
set_option maxHeartbeats 4000000 in
theorem fd_law_machine {f : Addr} {fd : FuncData} (F : Fun K "_law_machine" "_law_machine" s_law_machine f fd) (m : mg "_law_machine" = some (.ref f)) (B : Bt mg) (D_law_digits : Fd P w K mg base "_law_digits" ["cell", "base", "most"] 1 (spDigits K)) : Fd P w K mg base "_law_machine" ["first", "second"] 2 (spWMach K) := by
  refine ⟨f, fd, F.ok sc_law_machine (fun vs H Q E h => ?_) (fun cdv A outer s H vs Q E hr h => ?_), m, F.kp, F.binds (ps := ["first", "second"]) fun _ _ _ _ _ _ us hl => match us, hl with | [_, _], _ => rfl⟩
  · obtain ⟨c1, c2, rfl, _⟩ := h
    rfl
  obtain ⟨c1, c2, rfl, hc1, hc2, q⟩ := h
  refine ⟨_, (pss_cons (ps_set (i := 2) sc_law_machine.nd rfl (Or.inl rfl) (pe_fn D_law_digits (hr.mono (by decide)) rfl (pa_cons (pv 0) (pa_cons pe_int (pa_cons pe_int pa_nil)))))
 (pss_cons (ps_set (i := 3) sc_law_machine.nd rfl (Or.inl rfl) (pe_op op_add pe_int (pe_op op_mod (pe_ix (ixL K) (pv 2) pe_int (fun _ _ => rfl)) pe_int)))
 (pss_cons (ps_set (i := 4) sc_law_machine.nd rfl (Or.inl rfl) (pe_op op_add pe_int (pe_op op_mod (pe_ix (ixL K) (pv 2) pe_int (fun _ _ => rfl)) pe_int)))
 (C8.pss_cut (ps_if (pt_cmpR op_eq (pe_op op_mod (pe_op op_fdiv (pe_ix (ixL K) (pv 2) pe_int (fun _ _ => rfl)) pe_int) pe_int) pe_int (nomark _))
 (pss_one (ps_set (i := 4) sc_law_machine.nd rfl (Or.inl rfl) (pe_op op_add pe_int (pe_op op_mod (pe_ix (ixL K) (pv 2) pe_int (fun _ _ => rfl)) pe_int))))
 pss_nil)
 (pss_cons (ps_set (i := 5) sc_law_machine.nd rfl (Or.inl rfl) (pe_fn D_law_digits (hr.mono (by decide)) rfl (pa_cons (pv 1) (pa_cons pe_int (pa_cons pe_int pa_nil)))))
 (pss_cons (ps_set (i := 6) sc_law_machine.nd rfl (Or.inl rfl) (pe_lst pa_nil))
 (pss_cons (ps_for PassesOwn.never rfl (pi_range1 rfl B.range (pa_cons (pe_op op_add pe_int (pe_op op_mod (pe_ix (ixL K) (pv 2) pe_int (fun _ _ => rfl)) pe_int)) pa_nil)) (pg_name (i := 7) sc_law_machine.nd rfl (Or.inl rfl))
 (pss_cons (ps_set (i := 8) sc_law_machine.nd rfl (Or.inl rfl) (pe_ix (ixL K) (pv 5) (pe_op op_mul pe_int (pv 7)) (fun _ _ => rfl)))
 (pss_cons (ps_set (i := 9) sc_law_machine.nd rfl (Or.inl rfl) (pe_ix (ixL K) (pv 5) (pe_op op_add (pe_op op_mul pe_int (pv 7)) pe_int) (fun _ _ => rfl)))
 (pss_cons (ps_set (i := 10) sc_law_machine.nd rfl (Or.inl rfl) pe_non)
 (C8.pss_cut (ps_if (pt_cmpR op_eq (pe_op op_mod (pv 9) pe_int) pe_int (nomark _))
 (pss_one (ps_set (i := 10) sc_law_machine.nd rfl (Or.inl rfl) (pe_op op_mod (pe_op op_fdiv (pv 9) pe_int) (pv 4))))
 pss_nil)
 (pss_cons (ps_set (i := 11) sc_law_machine.nd rfl (Or.inl rfl) (pe_tup (pa_cons (pe_op op_mod (pv 8) (pv 3)) (pa_cons (pe_op op_mod (pe_op op_fdiv (pv 8) pe_int) (pv 4)) (pa_cons (pe_op op_mod (pe_op op_fdiv (pv 8) pe_int) (pv 3)) (pa_cons (pe_op op_mod (pe_op op_fdiv (pv 8) pe_int) (pv 4)) (pa_cons (pv 10) (pa_cons (pe_lst pa_nil) pa_nil))))))))
 (pss_one (ps_if (pt_cmpR (opNotInD K (hu65 hr)) (pv 11) (pv 6) (by rfl))
 (pss_one (ps_expr (peBm K PySem.F.plainAttrs_list PySem.F.slot_list_append PySem.F.type_list_append mt_append (pv 6) (pa_cons (pv 11) pa_nil))))
 pss_nil))))))))
 (pss_cons (ps_set (i := 12) sc_law_machine.nd rfl (Or.inl rfl) (pe_op op_rep (pe_lst (pa_cons pe_int pa_nil)) (pv 4)))
 (pss_cons (ps_asg (pe_op op_mod (pe_op op_fdiv (pe_ix (ixL K) (pv 2) pe_int (fun _ _ => rfl)) pe_int) pe_int) (pg_sub (pv 12) (pe_op op_mod (pe_ix (ixL K) (pv 2) pe_int (fun _ _ => rfl)) (pv 4)) set_list))
 (pss_one (ps_ret (pe_tup (pa_cons (pv 3) (pa_cons (pv 4) (pa_cons (pe_tup (pa_cons (pe_op op_mod (pe_ix (ixL K) (pv 2) pe_int (fun _ _ => rfl)) (pv 3)) (pa_cons (pv 12) pa_nil))) (pa_cons (pe_op op_mod (pe_ix (ixL K) (pv 2) pe_int (fun _ _ => rfl)) (pv 4)) (pa_cons (pv 6) pa_nil))))))))))))))))), ?_⟩
  refine ⟨_, rfl, c1, 2520, 8, rfl, hc1, by decide, by decide, by decide, fun H1 pd ds s1 npd ed ld hd => ?_⟩
  dsimp only [gName]
  have sd := sq (K := K) ed
  have d0 : ∀ {i : Nat}, i < 8 → 0 ≤ ds.getD i 0 := fun h => (hd _ (gd_mem (by omega))).1
  obtain ⟨S, eS⟩ := nat_of (show (0 : Int) ≤ 1 + ds.getD 0 0 % 3 by have := mod_in (ds.getD 0 0) (show (0 : Int) < 3 by decide); omega)
  have hS : 1 ≤ S ∧ S ≤ 3 := by have := mod_in (ds.getD 0 0) (show (0 : Int) < 3 by decide); omega
  refine ⟨_, rfl, _, _, _, _, rfl, rfl, sd, at_gd (j := 0) rfl (by omega), _, _, rfl, rfl, (by show (0 : Int) < 3; decide), _, _, rfl, rfl, ?_⟩
  dsimp only [gName]
  rw [eS]
  refine ⟨_, rfl, _, _, _, _, rfl, rfl, sd, at_gd (j := 1) rfl (by omega), _, _, rfl, rfl, (by show (0 : Int) < 4; decide), _, _, rfl, rfl, ?_⟩
  dsimp only [gName]
  have m1 := mod_in (ds.getD 1 0) (show (0 : Int) < 4 by decide)
  refine ⟨fun σ' H' => ∃ N : Nat, 1 ≤ N ∧ N ≤ 8 ∧ σ' = [some (.int c1), some (.int c2), some (.ref pd), some (nV S), some (nV N), none, none, none, none, none, none, none, none] ∧ H' = H1, ?_, ?_⟩
  · refine ⟨_, rfl, _, _, _, _, rfl, rfl, sd, at_gd (j := 1) rfl (by omega), _, _, rfl, rfl, ⟨by decide, by decide⟩, _, _, rfl, rfl, (by show (0 : Int) < 4; decide), rfl, _, rfl, ite2 (fun e => ?_) (fun e => ?_)⟩
    · obtain ⟨N, eN⟩ := nat_of (show (0 : Int) ≤ 5 + ds.getD 1 0 % 4 by omega)
      refine ⟨_, rfl, _, _, _, _, rfl, rfl, sd, at_gd (j := 1) rfl (by omega), _, _, rfl, rfl, (by show (0 : Int) < 4; decide), _, _, rfl, rfl, ?_⟩
      dsimp only [gName]
      rw [eN]
      exact ⟨N, by omega, by omega, rfl, rfl⟩
    · obtain ⟨N, eN⟩ := nat_of (show (0 : Int) ≤ 1 + ds.getD 1 0 % 4 by omega)
      rw [eN]
      exact ⟨N, by omega, by omega, rfl, rfl⟩
  rintro σ' H1' ⟨N, n1, n8, rfl, rfl⟩
  refine ⟨_, rfl, c2, 27720, 16, rfl, hc2, by decide, by decide, by decide, fun H2 pe es s2 npe ee le he => ?_⟩
  have e0 : ∀ {i : Nat}, i < 16 → 0 ≤ es.getD i 0 := fun h => (he _ (gd_mem (by omega))).1
  have sd2 := s2.seq sd
  have s02 := s1.trans s2
  dsimp only [gName]
  refine ⟨sz (by decide), fun o no => ?_⟩
  dsimp only [gName]
  have m2 := mod_in (ds.getD 2 0) (show (0 : Int) < 8 by decide)
  obtain ⟨n, en⟩ := nat_of (show (0 : Int) ≤ 1 + ds.getD 2 0 % 8 by omega)
  have s2o := same_new (o := HO.lst []) no
  refine ⟨_, rfl, _, _, _, _, rfl, rfl, s2o.seq sd2, at_gd (j := 2) rfl (by omega), _, _, rfl, rfl, (by show (0 : Int) < 8; decide), _, _, rfl, rfl, ?_⟩
  have hn : 1 ≤ n ∧ n ≤ 8 := by omega
  have see := sq (K := K) ee
  refine ⟨n, congrArg (fun z => [V.int z]) en, by omega, by omega, for_range (lo := 0) (n := n) (fun i σ' H' => ∃ (y7 y8 y9 y10 y11 : Option V) (ms : List MvT) (xs : List V), σ' = [some (.int c1), some (.int c2), some (.ref pd), some (nV S), some (nV N), some (.ref pe), some (.ref o), y7, y8, y9, y10, y11, none] ∧ Same H2 H' ∧ H' o = some (.lst xs) ∧ ms.length ≤ i ∧ (0 < i → 1 ≤ ms.length) ∧ DpAll K (Ho o H') xs (ms.map MvT.data) ∧ (∀ m ∈ ms, m.Fit S N ∧ m.sh = []) ∧ ms.Nodup) ?_ ?_ ?_⟩
  · exact ⟨_, _, _, _, _, [], [], rfl, s2o, upd_same, Nat.le_refl _, (fun h => absurd h (by decide)), .nil, (fun m hm => by cases hm), .nil⟩
  · rintro i σ' H' hi ⟨y7, y8, y9, y10, y11, ms, xs, rfl, s3, eo, ml, mp, dms, fit, nd⟩
    have x0 : (2 : Int) * (0 + (i : Int)) = ((2 * i : Nat) : Int) := by omega
    have x1 : (2 : Int) * (0 + (i : Int)) + 1 = ((2 * i + 1 : Nat) : Int) := by omega
    have xl := dpa_map_len dms
    dsimp only [gName]
    refine ⟨_, rfl, _, rfl, _, _, rfl, rfl, .inl ⟨by decide, by decide⟩, _, _, _, _, rfl, rfl, s3.seq see, at_gd x0 (by omega), ?_⟩
    dsimp only [gName]
    refine ⟨_, rfl, _, rfl, _, _, rfl, rfl, .inl ⟨by decide, by decide⟩, _, _, rfl, rfl, _, _, _, _, rfl, rfl, s3.seq see, at_gd x1 (by omega), ?_⟩
    dsimp only [gName]
    have a0 := e0 (i := 2 * i) (by omega)
    have b0 := e0 (i := 2 * i + 1) (by omega)
    generalize es.getD (2 * i) 0 = A at a0 ⊢
    generalize es.getD (2 * i + 1) 0 = Bz at b0 ⊢
    refine ⟨fun σ' H4 => ∃ sd : Option Nat, (∀ d, sd = some d → d < N) ∧ σ' = [some (.int c1), some (.int c2), some (.ref pd), some (nV S), some (nV N), some (.ref pe), some (.ref o), some (.int (0 + (i : Int))), some (.int A), some (.int Bz), some (sdV sd), y11, none] ∧ H4 = H', ?_, ?_⟩
    · refine ⟨_, rfl, _, _, rfl, rfl, (by show (0 : Int) < 6; decide), rfl, _, rfl, ite2 (fun e => ?_) (fun e => ?_)⟩
      · have md := mod_in (Bz / 6) (show (0 : Int) < (N : Int) by omega)
        obtain ⟨k, ek⟩ := nat_of md.1
        refine ⟨_, rfl, _, _, rfl, rfl, ⟨by decide, by decide⟩, _, rfl, _, _, rfl, rfl, (show (0 : Int) < (N : Int) by omega), ?_⟩
        dsimp only [gName]
        rw [ek]
        exact ⟨some k, fun d hd => by cases hd; omega, rfl, rfl⟩
      · exact ⟨none, fun d hd => (by cases hd), rfl, rfl⟩
    rintro σ' H3 ⟨sd', hsd, rfl, rfl⟩
    have ps : (0 : Int) < (S : Int) := by omega
    have pn : (0 : Int) < (N : Int) := by omega
    have q0 := mod_in A ps
    have q1 := mod_in (A / 3) pn
    have q2 := mod_in (A / 12) ps
    have q3 := mod_in (A / 36) pn
    obtain ⟨k0, e0⟩ := nat_of q0.1
    obtain ⟨k1, e1⟩ := nat_of q1.1
    obtain ⟨k2, e2⟩ := nat_of q2.1
    obtain ⟨k3, e3⟩ := nat_of q3.1
    refine ⟨_, rfl, _, rfl, _, _, rfl, rfl, ps, ?_⟩
    refine ⟨_, rfl, _, _, rfl, rfl, ⟨by decide, by decide⟩, _, rfl, _, _, rfl, rfl, pn, ?_⟩
    refine ⟨_, rfl, _, _, rfl, rfl, ⟨by decide, by decide⟩, _, rfl, _, _, rfl, rfl, ps, ?_⟩
    refine ⟨_, rfl, _, _, rfl, rfl, ⟨by decide, by decide⟩, _, rfl, _, _, rfl, rfl, pn, ?_⟩
    refine ⟨_, rfl, sz (by decide), fun l nl => ⟨szc 6, fun t nt => ?_⟩⟩
    dsimp only [gName]
    rw [e0, e1, e2, e3]
    have s4 := same_new (o := HO.lst []) nl
    have eo4 := s4 _ _ eo
    have fitm : (MvT.mk k0 k1 k2 k3 sd' []).Fit S N := ⟨(by show k0 < S; omega), (by show k1 < N; omega), (by show k2 < S; omega), (by show k3 < N; omega), hsd, ⟨.nil, fun p hp => (by cases hp), fun p hp => (by cases hp), fun p hp => (by cases hp)⟩⟩
    have dl : Dp K (Ho o (upd H3 l (.lst []))) (.ref l) (.list ([].map shD)) := dpo_newL eo nl .nil
    have dt : Dp K (Ho o (upd (upd H3 l (.lst [])) t (.tup [nV k0, nV k1, nV k2, nV k3, sdV sd', .ref l]))) (.ref t) (MvT.mk k0 k1 k2 k3 sd' []).data := dpo_newT eo4 nt (.cons (.int _) (.cons (.int _) (.cons (.int _) (.cons (.int _) (.cons (sd_dp _) (.cons dl .nil))))))
    have s5 := same_new (o := HO.tup [nV k0, nV k1, nV k2, nV k3, sdV sd', .ref l]) nt
    have eo5 := s5 _ _ eo4
    have dms5 := dpAll_mono ((ho_same s4).trans (ho_same s5)) dms
    have s35 := s3.trans (s4.trans s5)
    generalize upd (upd H3 l (.lst [])) t (.tup [nV k0, nV k1, nV k2, nV k3, sdV sd', .ref l]) = H5 at dt eo5 dms5 s35 ⊢
    have nc1 := mv0_nc fitm rfl (by omega) (by omega)
    have ncl := NcL.lst (mvs0_nc (S := S) (P := N) (by omega) (by omega) (ms := ms) fit)
    refine ⟨_, rfl, _, rfl, _, _, dp_mono ho_out dt, .lst (sq eo5) (dpAll_mono ho_out dms5), nc1.shaped (by decide), ncl.shaped (by decide), _, rfl, ?_⟩
    cases hany : ((ms.map MvT.data).any fun z => PyData.eqv z (MvT.mk k0 k1 k2 k3 sd' []).data) with
    | true =>
      refine iteF ⟨_, _, _, _, _, ms, xs, rfl, s35, eo5, by omega, fun _ => ?_, dms5, fit, nd⟩
      cases ms with
      | nil => cases hany
      | cons a r => exact Nat.succ_le_succ (Nat.zero_le _)
    | false =>
      refine iteT ⟨_, rfl, .inl ⟨rfl, _, sq eo5⟩, _, rfl, o, _, _, rfl, rfl, eo5, szl (by omega), ?_⟩
      have hni : MvT.mk k0 k1 k2 k3 sd' [] ∉ ms := fun hm => eqv_anyG hany nc1.eqv (List.mem_map_of_mem hm)
      refine ⟨_, _, _, _, _, ms ++ [MvT.mk k0 k1 k2 k3 sd' []], xs ++ [.ref t], rfl, Same.mut s35 no, upd_same, by rw [List.length_append, List.length_singleton]; omega, fun _ => by rw [List.length_append, List.length_singleton]; omega, ?_, ?_, ?_⟩
      · rw [List.map_append]
        exact dpa_app (dpAll_mono ho_mut dms5) (.cons (dp_mono ho_mut dt) .nil)
      · intro x hx
        rcases List.mem_append.mp hx with hx | hx
        · exact fit x hx
        · rw [List.mem_singleton.mp hx]; exact ⟨fitm, rfl⟩
      · refine List.nodup_append.mpr ⟨nd, List.pairwise_singleton _ _, fun x hx y hy e => ?_⟩
        rw [List.mem_singleton.mp hy] at e
        rw [e] at hx
        exact hni hx
  · rintro σ' H3 ⟨y7, y8, y9, y10, y11, ms, xs, rfl, s3, eo, ml, mp, dms, fit, nd⟩
    have ps : (0 : Int) < (S : Int) := by omega
    have pn : (0 : Int) < (N : Int) := by omega
    obtain ⟨k3, e3⟩ := nat_of (mod_in (ds.getD 3 0) pn).1
    obtain ⟨k4, e4⟩ := nat_of (mod_in (ds.getD 4 0) ps).1
    obtain ⟨k5, e5⟩ := nat_of (mod_in (ds.getD 5 0) pn).1
    have b3 := mod_in (ds.getD 3 0) pn
    have b4 := mod_in (ds.getD 4 0) ps
    have b5 := mod_in (ds.getD 5 0) pn
    have v3 := mod_in (ds.getD 3 0 / 4) (show (0 : Int) < 3 by decide)
    refine ⟨szc 1, fun p2 n2 => ⟨_, rfl, p2, _, _, rfl, rfl, upd_same, by omega, by omega, sz (by show 1 * N ≤ _; omega), fun p3 n3 => ?_⟩⟩
    dsimp only [gName]
    rw [rep_one, show ((N : Int)).toNat = N from rfl, rep_map]
    have s4 := (same_new (o := HO.lst [V.int 0]) n2).trans (same_new (o := HO.lst ((List.replicate N (0 : Int)).map V.int)) n3)
    have e43 : (upd (upd H3 p2 (.lst [.int 0])) p3 (.lst ((List.replicate N (0 : Int)).map V.int))) p3 = some (.lst ((List.replicate N (0 : Int)).map V.int)) := upd_same
    have n33 : H3 p3 = none := (same_new n2).free n3
    generalize upd (upd H3 p2 (.lst [.int 0])) p3 (.lst ((List.replicate N (0 : Int)).map V.int)) = H4 at s4 e43 ⊢
    have sd4 := (s3.trans s4).seq sd2
    refine ⟨_, rfl, _, _, _, _, rfl, rfl, sd4, at_gd (j := 3) rfl (by omega), _, _, rfl, rfl, ⟨by decide, by decide⟩, _, _, rfl, rfl, (by show (0 : Int) < 3; decide), _, rfl, _, rfl, _, _, _, _, rfl, rfl, sd4, at_gd (j := 3) rfl (by omega), _, rfl, _, _, rfl, rfl, pn, p3, _, _, k3, rfl, rfl, e43, ?_, ?_⟩
    · rw [e3]
      exact ixN_nat (by rw [List.length_map, List.length_replicate]; omega)
    rw [set_int]
    have s5 : Same H3 (upd H4 p3 (.lst (((List.replicate N (0 : Int)).set k3 (ds.getD 3 0 / 4 % 3)).map V.int))) := Same.mut s4 n33
    have e5c : (upd H4 p3 (.lst (((List.replicate N (0 : Int)).set k3 (ds.getD 3 0 / 4 % 3)).map V.int))) p3 = some (.lst (((List.replicate N (0 : Int)).set k3 (ds.getD 3 0 / 4 % 3)).map V.int)) := upd_same
    have lc : ((List.replicate N (0 : Int)).set k3 (ds.getD 3 0 / 4 % 3)).length = N := by rw [List.length_set, List.length_replicate]
    have hc : ∀ c ∈ (List.replicate N (0 : Int)).set k3 (ds.getD 3 0 / 4 % 3), 0 ≤ c ∧ c < 3 := fun c hc => by
      rcases List.mem_or_eq_of_mem_set hc with h | rfl
      · rw [List.eq_of_mem_replicate h]; decide
      · exact v3
    generalize (List.replicate N (0 : Int)).set k3 (ds.getD 3 0 / 4 % 3) = cs at s5 e5c lc hc ⊢
    generalize upd H4 p3 (.lst (cs.map V.int)) = H5 at s5 e5c ⊢
    have sd5 := (s3.trans s5).seq sd2
    refine ⟨_, rfl, _, rfl, _, rfl, _, _, _, _, rfl, rfl, sd5, at_gd (j := 4) rfl (by omega), _, rfl, _, _, rfl, rfl, ps, _, rfl, szc 2, fun t1 nt1 => ?_⟩
    have s6 := same_new (o := HO.tup [V.int (ds.getD 4 0 % (S : Int)), .ref p3]) nt1
    refine ⟨_, rfl, _, _, _, _, rfl, rfl, s6.seq sd5, at_gd (j := 5) rfl (by omega), _, rfl, _, _, rfl, rfl, pn, _, rfl, szc 5, fun t2 nt2 => ?_⟩
    dsimp only at nt2 ⊢
    rw [e4] at s6 nt2 ⊢
    rw [e5]
    have s7 := same_new (o := HO.tup [nV S, nV N, .ref t1, nV k5, .ref o]) nt2
    have sit : Sit K (upd (upd H5 t1 (.tup [.int (k4 : Int), .ref p3])) t2 (.tup [nV S, nV N, .ref t1, nV k5, .ref o])) (.ref t1) (k4 : Int) cs := ⟨t1, p3, rfl, st (s7 _ _ upd_same), sq (s7 _ _ (s6 _ _ e5c))⟩
    have s57 := s5.trans (s6.trans s7)
    refine q _ _ (MT.mk S N k4 cs k5 ms) (s02.trans (s3.trans s57)) (.tup (st upd_same) (.cons (.int _) (.cons (.int _) (.cons (sit_dp sit) (.cons (.int _) (.cons (.lst (sq (s57 _ _ eo)) (dpAll_mono (ho_out.trans s57) dms)) .nil)))))) ?_ ?_
    · refine ⟨hS.1, hS.2, n1, n8, (by show k4 < S; omega), lc, hc, (by show k5 < N; omega), mp (by omega), (by show ms.length ≤ 8; omega), fun m hm => (fit m hm).1, nd⟩
    · exact fun m hm => (fit m hm).2
end
/-! ### bounds of counts after a move -/
def Bd (B : Int) (cs : List (Option Int)) : Prop := ∀ c ∈ cs, ∀ i, c = some i → -B ≤ i ∧ i ≤ B
theorem Bd.mono {B C : Int} {cs : List (Option Int)} (h : Bd B cs) (hB : B ≤ C) : Bd C cs := fun c hc i e => by have := h c hc i e; omega
theorem Bd.chg {B : Int} {cs : List (Option Int)} (hB : 0 ≤ B) (h : Bd B cs) {p : Option Nat × Int} (hp : -1 ≤ p.2 ∧ p.2 ≤ 1) : Bd (B + 1) (chgO cs p) := by
  unfold chgO
  split
  · exact h.mono (by omega)
  · rename_i k _
    unfold bumpO
    intro c hc i e
    rcases List.mem_or_eq_of_mem_set hc with hc | rfl
    · have := h c hc i e; omega
    · cases e0 : cs.getD k none with
      | none => rw [e0] at e; cases e
      | some j =>
        rw [e0] at e
        have e1 : j + p.2 = i := Option.some.inj e
        by_cases hk : k < cs.length
        · have := h _ (gdO_mem hk) j e0
          omega
        · rw [List.getD_eq_getElem?_getD, List.getElem?_eq_none (by omega)] at e0
          cases e0
theorem Bd.aft {B : Int} {cs : List (Option Int)} (hB : 0 ≤ B) (h : Bd B cs) (m : MvT) : Bd (B + 3) (m.aftW cs) := by
  have a := h.chg hB (p := (some m.pl, -1)) ⟨by show (-1 : Int) ≤ -1; decide, by show (-1 : Int) ≤ 1; decide⟩
  have b := a.chg (by omega) (p := (some m.np, 1)) ⟨by show (-1 : Int) ≤ 1; decide, by show (1 : Int) ≤ 1; decide⟩
  have c := b.chg (by omega) (p := (m.sd, 1)) ⟨by show (-1 : Int) ≤ 1; decide, by show (1 : Int) ≤ 1; decide⟩
  exact c.mono (by omega)
theorem os_ncB {B : Int} (hB : B < 10 ^ 6) {m : Nat} : ∀ {ns : List (Option Int)}, Bd B ns → NcL (ns.map oD) ns.length m
  | [], _ => NcL.nil
  | n :: ns, h => by
    have := NcL.cons (m := m) (c1 := 1) (d := oD n) (by
      cases n with
      | none => exact ⟨rfl, Nat.le_refl _, Nat.zero_le _⟩
      | some i => exact NcD.int (by have := h _ List.mem_cons_self i rfl; omega)) (os_ncB hB fun x hx => h x (List.mem_cons_of_mem _ hx))
    rw [List.length_cons, Nat.add_comm]
    exact this
theorem wsit_ncB {B : Int} (hB : B < 10 ^ 6) {m : Nat} {s : Int} {ns : List (Option Int)} (hs : s.natAbs < 1000) (h : Bd B ns) : NcD (wsitD s ns) (ns.length + 3) (m + 2) := by
  have := ((NcL.cons (NcD.int (i := s) (m := m + 1) (by omega)) (NcL.cons (os_ncB (m := m) hB h).lst (NcL.nil (c := 0))))).tup
  exact this.mono (by omega) (Nat.le_refl _)
theorem rows_nc {S N top : Nat} (hS : S ≤ 100) (ht : top ≤ 50) : ∀ {rs : List Wn}, (∀ r ∈ rs, WOk S N top r) → NcL (rs.map wD) ((N + 3) * rs.length) 2
  | [], _ => NcL.nil
  | r :: rs, h => by
    obtain ⟨h1, h2, h3, h4⟩ := h r List.mem_cons_self
    have a : NcD (wD r) (N + 3) 2 := by
      have := wsit_ncB (B := 50) (m := 0) (s := r.1) (ns := r.2) (by decide) (by omega) (fun c hc i e => by have := h4 c hc i e; omega)
      rw [h1] at this
      exact this
    exact (NcL.cons a (rows_nc hS ht fun x hx => h x (List.mem_cons_of_mem _ hx))).mono (by rw [List.length_cons, Nat.mul_succ]; omega) (Nat.le_refl _)
/-! ### the search forwards, by the definition -/
def moreO : Option Int → Option Int → Bool
  | none, none => false
  | none, some _ => true
  | some _, none => false
  | some a, some b => decide (a > b)
def ltO : List (Option Int) → List (Option Int) → Bool
  | a :: as, b :: bs => if a = b then ltO as bs else moreO b a
  | _, _ => false
def lessW (s : Int) (ms : List (Option Int)) (t : Int) (ns : List (Option Int)) : Bool := if s = t then ltO ms ns else decide (s < t)
theorem ltO_self : ∀ ms : List (Option Int), ltO ms ms = false
  | [] => rfl
  | a :: as => by
    unfold ltO
    rw [if_pos rfl]
    exact ltO_self as
theorem ltO_pre {ms ns : List (Option Int)} {u v : Option Int} : ∀ {i : Nat}, ms.take i = ns.take i → ms[i]? = some u → ns[i]? = some v → u ≠ v → ltO ms ns = moreO v u := by
  induction ms generalizing ns with
  | nil => intro i _ h; simp at h
  | cons a ms ih =>
    intro i e h1 h2 ne
    cases ns with
    | nil => simp at h2
    | cons b ns =>
      cases i with
      | zero =>
        cases h1
        cases h2
        unfold ltO
        rw [if_neg ne]
      | succ i =>
        obtain ⟨e1, e2⟩ := List.cons.inj e
        unfold ltO
        rw [if_pos e1]
        exact ih e2 h1 h2 ne
def widenL (wd os : List (Option Int)) : List (Option Int) := (List.range wd.length).map fun k => if moreO (wd.getD k none) (os.getD k none) = true then none else wd.getD k none
def widen1 (s : Int) (wd : List (Option Int)) (o : Wn) : List (Option Int) := if covW s wd o.1 o.2 = true then widenL wd o.2 else wd
def widen (s : Int) (wd : List (Option Int)) (anc : List Wn) : List (Option Int) := anc.foldl (widen1 s) wd
theorem widenL_len (wd os : List (Option Int)) : (widenL wd os).length = wd.length := by
  unfold widenL
  rw [List.length_map, List.length_range]
theorem widen1_len (s : Int) (wd : List (Option Int)) (o : Wn) : (widen1 s wd o).length = wd.length := by
  unfold widen1
  split
  · exact widenL_len _ _
  · rfl
theorem widen_len (s : Int) : ∀ (anc : List Wn) (wd : List (Option Int)), (widen s wd anc).length = wd.length
  | [], _ => rfl
  | o :: r, wd => (widen_len s r (widen1 s wd o)).trans (widen1_len s wd o)
abbrev Qi := Wn × List Wn
def expl1 (M : MT) (q : Qi) (rest : List Qi) (e : List Wn) : List Qi × List Wn :=
  if cvd e q.1 = true then (rest, e) else (rest ++ (succW M (q.1.1, widen q.1.1 q.1.2 q.2)).map (fun f => (f, q.2 ++ [(q.1.1, widen q.1.1 q.1.2 q.2)])), e ++ [(q.1.1, widen q.1.1 q.1.2 q.2)])
def exStep (M : MT) : List Qi × List Wn → List Qi × List Wn
  | ([], e) => ([], e)
  | (q :: r, e) => expl1 M q r e
def exIter (M : MT) : Nat → List Qi × List Wn
  | 0 => ([(begW M, [])], [])
  | n + 1 => exStep M (exIter M n)
/-- what the search holds: counts from 0 to B -/
def WB (S N : Nat) (B : Int) (r : Wn) : Prop := r.2.length = N ∧ 0 ≤ r.1 ∧ r.1 < (S : Int) ∧ ∀ c ∈ r.2, ∀ i, c = some i → 0 ≤ i ∧ i ≤ B
theorem WB.mono {S N : Nat} {B C : Int} {r : Wn} (h : WB S N B r) (hB : B ≤ C) : WB S N C r := ⟨h.1, h.2.1, h.2.2.1, fun c hc i e => by have := h.2.2.2 c hc i e; omega⟩
theorem WB.widen1 {S N : Nat} {B : Int} {s : Int} {wd : List (Option Int)} {o : Wn} (h : WB S N B (s, wd)) : WB S N B (s, widen1 s wd o) := by
  refine ⟨(widen1_len s wd o).trans h.1, h.2.1, h.2.2.1, fun c hc i e => ?_⟩
  change c ∈ My.widen1 s wd o at hc
  unfold My.widen1 at hc
  split at hc
  · unfold widenL at hc
    obtain ⟨k, hk, rfl⟩ := List.mem_map.mp hc
    split at e
    · cases e
    · exact h.2.2.2 _ (gdO_mem (List.mem_range.mp hk)) i e
  · exact h.2.2.2 c hc i e
theorem WB.widen {S N : Nat} {B : Int} {s : Int} : ∀ {anc : List Wn} {wd : List (Option Int)}, WB S N B (s, wd) → WB S N B (s, widen s wd anc)
  | [], _, h => h
  | _ :: r, _, h => WB.widen (anc := r) h.widen1
theorem nn_chg {cs : List (Option Int)} {p : Option Nat × Int} (hp : 0 ≤ p.2) (h : ∀ c ∈ cs, ∀ i, c = some i → 0 ≤ i) : ∀ c ∈ chgO cs p, ∀ i, c = some i → 0 ≤ i := by
  unfold chgO
  split
  · exact h
  · rename_i k _
    unfold bumpO
    intro c hc i e
    rcases List.mem_or_eq_of_mem_set hc with hc | rfl
    · exact h c hc i e
    · cases e0 : cs.getD k none with
      | none => rw [e0] at e; cases e
      | some j =>
        rw [e0] at e
        have e1 : j + p.2 = i := Option.some.inj e
        by_cases hk : k < cs.length
        · have := h _ (gdO_mem hk) j e0
          omega
        · rw [List.getD_eq_getElem?_getD, List.getElem?_eq_none (by omega)] at e0
          cases e0
theorem nn_aft {m : MvT} {s : Int} {cs : List (Option Int)} (hc : m.canW s cs = true) (h : ∀ c ∈ cs, ∀ i, c = some i → 0 ≤ i) : ∀ c ∈ m.aftW cs, ∀ i, c = some i → 0 ≤ i := by
  have h1 : ∀ c ∈ chgO cs (some m.pl, -1), ∀ i, c = some i → 0 ≤ i := by
    intro c hc' i e
    change c ∈ bumpO cs m.pl (-1) at hc'
    unfold bumpO at hc'
    rcases List.mem_or_eq_of_mem_set hc' with hm | rfl
    · exact h c hm i e
    · unfold MvT.canW at hc
      rw [Bool.and_eq_true] at hc
      cases e0 : cs.getD m.pl none with
      | none => rw [e0] at e; cases e
      | some j =>
        rw [e0] at e hc
        have := of_decide_eq_true hc.2
        have e1 : j + -1 = i := Option.some.inj e
        omega
  exact nn_chg (p := (m.sd, 1)) (by show (0 : Int) ≤ 1; decide) (nn_chg (p := (some m.np, 1)) (by show (0 : Int) ≤ 1; decide) h1)
theorem WB.succ {M : MT} {S N : Nat} {B : Int} (hB : 0 ≤ B) (hf : ∀ m ∈ M.moves, m.Fit S N) {r f : Wn} (h : WB S N B r) (hm : f ∈ succW M r) : WB S N (B + 3) f := by
  unfold succW at hm
  obtain ⟨m, hm2, rfl⟩ := List.mem_map.mp hm
  obtain ⟨h1, h2⟩ := List.mem_filter.mp hm2
  have fit := hf m h1
  have nn := nn_aft h2 fun c hc i e => (h.2.2.2 c hc i e).1
  have bd := Bd.aft hB (cs := r.2) (fun c hc i e => by have := h.2.2.2 c hc i e; omega) m
  refine ⟨(aftW_len m r.2).trans h.1, by show (0 : Int) ≤ (m.ns : Int); omega, by show (m.ns : Int) < (S : Int); have := fit.ns; omega, fun c hc i e => ⟨nn c hc i e, (bd c hc i e).2⟩⟩
theorem succW_len (M : MT) (r : Wn) : (succW M r).length ≤ M.moves.length := by
  unfold succW
  rw [List.length_map]
  exact List.length_filter_le _ _
/-- what a state of the search keeps -/
structure ExOk (M : MT) (S N L : Nat) (B : Int) (qs : List Qi) (es : List Wn) : Prop where
  qb : ∀ q ∈ qs, WB S N (B + 3 * (es.length : Int)) q.1 ∧ ∀ a ∈ q.2, WB S N (B + 3 * (es.length : Int)) a
  eb : ∀ r ∈ es, WB S N (B + 3 * (es.length : Int)) r
  ql : qs.length ≤ 1 + L * es.length
  ne : es = [] → qs ≠ []
  al : ∀ q ∈ qs, q.2.length ≤ es.length
theorem ExOk.step {M : MT} {S N L : Nat} {B : Int} {q : Qi} {rest : List Qi} {es : List Wn} (hB : 0 ≤ B) (hf : ∀ m ∈ M.moves, m.Fit S N) (hL : M.moves.length ≤ L) (h : ExOk M S N L B (q :: rest) es) : ExOk M S N L B (expl1 M q rest es).1 (expl1 M q rest es).2 := by
  have hq := h.qb q List.mem_cons_self
  have hl := h.ql
  unfold expl1
  split
  · rename_i hc
    refine ⟨fun x hx => h.qb x (List.mem_cons_of_mem _ hx), h.eb, ?_, fun e => ?_, fun x hx => h.al x (List.mem_cons_of_mem _ hx)⟩
    · have : (q :: rest).length = rest.length + 1 := rfl
      show rest.length ≤ 1 + L * es.length
      omega
    · rw [show es = [] from e] at hc
      cases hc
  · have e1 : ((es ++ [(q.1.1, widen q.1.1 q.1.2 q.2)]).length : Int) = (es.length : Int) + 1 := by rw [List.length_append]; rfl
    have wq : WB S N (B + 3 * (es.length : Int)) (q.1.1, widen q.1.1 q.1.2 q.2) := WB.widen hq.1
    refine ⟨?_, ?_, ?_, fun e => ?_, ?_⟩
    · show ∀ x ∈ rest ++ _, _
      intro x hx
      rw [e1]
      rcases List.mem_append.mp hx with hx | hx
      · have := h.qb x (List.mem_cons_of_mem _ hx)
        exact ⟨this.1.mono (by omega), fun a ha => (this.2 a ha).mono (by omega)⟩
      · obtain ⟨f, hf', rfl⟩ := List.mem_map.mp hx
        refine ⟨(wq.succ (by omega) hf hf').mono (by omega), fun a ha => ?_⟩
        rcases List.mem_append.mp ha with ha | ha
        · exact (hq.2 a ha).mono (by omega)
        · rw [List.mem_singleton.mp ha]; exact wq.mono (by omega)
    · show ∀ x ∈ es ++ _, _
      intro x hx
      rw [e1]
      rcases List.mem_append.mp hx with hx | hx
      · exact (h.eb x hx).mono (by omega)
      · rw [List.mem_singleton.mp hx]; exact wq.mono (by omega)
    · show (rest ++ _).length ≤ 1 + L * (es ++ _).length
      rw [List.length_append, List.length_map, List.length_append]
      have := succW_len M (q.1.1, widen q.1.1 q.1.2 q.2)
      have : (q :: rest).length = rest.length + 1 := rfl
      show _ ≤ 1 + L * (es.length + 1)
      rw [Nat.mul_add, Nat.mul_one]
      omega
    · show _
      exact absurd e (by show es ++ [_] ≠ []; simp)
    · show ∀ x ∈ rest ++ _, _
      intro x hx
      show _ ≤ (es ++ _).length
      rw [List.length_append]
      rcases List.mem_append.mp hx with hx | hx
      · have := h.al x (List.mem_cons_of_mem _ hx)
        omega
      · obtain ⟨f, hf', rfl⟩ := List.mem_map.mp hx
        show (q.2 ++ _).length ≤ _
        rw [List.length_append]
        have := h.al q List.mem_cons_self
        show q.2.length + 1 ≤ es.length + 1
        omega
theorem cut_dropG (xs : List V) (n : Nat) : cutV xs (some (n : Int)) none = xs.drop n := by
  unfold cutV
  rw [HT.sIx_nat, show HT.sIx xs.length xs.length none = xs.length from rfl]
  rcases Nat.le_total n xs.length with h | h
  · rw [Nat.min_eq_left h, List.take_of_length_le (by rw [List.length_drop]; exact Nat.le_refl _)]
  · rw [Nat.min_eq_right h, Nat.sub_self, List.take_zero, List.drop_of_length_le h]
theorem cut_takeG (xs : List V) (n : Nat) : cutV xs none (some (n : Int)) = xs.take n := by
  unfold cutV
  rw [HT.sIx_none, HT.sIx_nat xs.length xs.length n]
  show List.take (min n xs.length - 0) (List.drop 0 xs) = _
  rw [List.drop_zero, Nat.sub_zero]
  rcases Nat.le_total n xs.length with h | h
  · rw [Nat.min_eq_left h]
  · rw [Nat.min_eq_right h, List.take_of_length_le (Nat.le_refl _), List.take_of_length_le h]
theorem dpa_dropG {K : PySem.W.Frag} {H : Hp} : ∀ {xs : List V} {ds : List PyData} (k : Nat), DpAll K H xs ds → DpAll K H (xs.drop k) (ds.drop k)
  | _, _, 0, h => h
  | _, _, _ + 1, .nil => .nil
  | _, _, k + 1, .cons _ t => dpa_dropG k t
theorem dpa_takeG {K : PySem.W.Frag} {H : Hp} : ∀ {xs : List V} {ds : List PyData} (k : Nat), DpAll K H xs ds → DpAll K H (xs.take k) (ds.take k)
  | _, _, 0, _ => by rw [List.take_zero, List.take_zero]; exact .nil
  | _, _, _ + 1, .nil => .nil
  | _, _, k + 1, .cons a t => .cons a (dpa_takeG k t)
section
variable {P : Program} {w : World} {K : PySem.W.Frag} {mg : Str → Option Value} {base : Heap}
end
section
variable {P : Program} {w : World} {K : PySem.W.Frag} {mg : Str → Option Value} {base : Heap}
def qiD (q : Qi) : PyData := .list [wD q.1, .list (q.2.map wD)]
theorem filter_cvd (es : List Wn) (x : Wn) : ((es.filter fun r => covW r.1 r.2 x.1 x.2).length = 0) ↔ cvd es x = false := by
  rw [List.length_eq_zero_iff, List.filter_eq_nil_iff]
  unfold cvd
  rw [List.any_eq_false]
/-- what a state of the search is in the heap -/
structure ExAt (K : PySem.W.Frag) (M : MT) (o qa : Addr) (H0 H' : Hp) (qs : List Qi) (es : List Wn) (xs ys : List V) : Prop where
  sm : Same H0 H'
  eq : H' qa = some (.lst xs)
  qo : qa ≠ o
  dq : DpAll K (Ho o H') xs (qs.map qiD)
  eo : H' o = some (.lst ys)
  de : DpAll K (Ho o H') ys (es.map wD)
end
theorem os_eqv_iff : ∀ {as bs : List (Option Int)}, PyData.eqvAll (as.map oD) (bs.map oD) = true → as = bs
  | [], [], _ => rfl
  | [], _ :: _, h => by cases h
  | _ :: _, [], h => by cases h
  | a :: as, b :: bs, h => by
    have h' : (PyData.eqv (oD a) (oD b) && PyData.eqvAll (as.map oD) (bs.map oD)) = true := h
    rw [Bool.and_eq_true] at h'
    have e1 : a = b := by
      cases a with
      | none =>
        cases b with
        | none => rfl
        | some b => cases h'.1
      | some a =>
        cases b with
        | none => cases h'.1
        | some b => exact congrArg some (of_decide_eq_true h'.1)
    rw [e1, os_eqv_iff h'.2]
theorem wD_eqv_iff {a b : Wn} (h : PyData.eqv (wD a) (wD b) = true) : a = b := by
  obtain ⟨s, ms⟩ := a
  obtain ⟨t, ns⟩ := b
  have h' : (decide (s = t) && (PyData.eqvAll (ms.map oD) (ns.map oD) && true)) = true := h
  rw [Bool.and_true, Bool.and_eq_true] at h'
  rw [of_decide_eq_true h'.1, os_eqv_iff h'.2]
theorem wD_nc {S N : Nat} {B : Int} (hS : S ≤ 900) (hB : B < 10 ^ 6) {r : Wn} (h : WB S N B r) : NcD (wD r) (N + 3) 2 := by
  have := wsit_ncB (B := B) (m := 0) (s := r.1) (ns := r.2) hB (by have := h.2.1; have := h.2.2.1; omega) (fun c hc i e => by have := h.2.2.2 c hc i e; omega)
  rw [h.1] at this
  exact this
theorem eqv_wD {S N : Nat} {B : Int} (hS : S ≤ 900) (hB : B < 10 ^ 6) {a b : Wn} (h : WB S N B b) : PyData.eqv (wD a) (wD b) = decide (a = b) := by
  by_cases e : a = b
  · rw [e, decide_eq_true rfl]
    exact (wD_nc hS hB h).eqv
  · rw [decide_eq_false e]
    cases z : PyData.eqv (wD a) (wD b) with
    | true => exact absurd (wD_eqv_iff z) e
    | false => rfl
def aboveW (row o : Wn) : Bool := decide (o ≠ row) && covW o.1 o.2 row.1 row.2
def covIns (cover : List Wn) (row : Wn) : List Wn := cover.take (cover.filter fun o => lessW o.1 o.2 row.1 row.2).length ++ [row] ++ cover.drop (cover.filter fun o => lessW o.1 o.2 row.1 row.2).length
def covStep (es cover : List Wn) (row : Wn) : List Wn := if (es.filter (aboveW row)).length = 0 ∧ row ∉ cover then covIns cover row else cover
def coverL (es : List Wn) : List Wn := es.foldl (covStep es) []
theorem covIns_mem {cover : List Wn} {row x : Wn} : x ∈ covIns cover row ↔ x = row ∨ x ∈ cover := by
  unfold covIns
  generalize (cover.filter fun o => lessW o.1 o.2 row.1 row.2).length = k
  rw [List.append_assoc, List.mem_append, List.singleton_append, List.mem_cons]
  constructor
  · rintro (h | h | h)
    · exact .inr (List.mem_of_mem_take h)
    · exact .inl h
    · exact .inr (List.mem_of_mem_drop h)
  · rintro (h | h)
    · exact .inr (.inl h)
    · rw [← List.take_append_drop k cover] at h
      rcases List.mem_append.mp h with h | h
      · exact .inl h
      · exact .inr (.inr h)
theorem covIns_len (cover : List Wn) (row : Wn) : (covIns cover row).length = cover.length + 1 := by
  unfold covIns
  generalize (cover.filter fun o => lessW o.1 o.2 row.1 row.2).length = k
  rw [List.length_append, List.length_append, List.length_take, List.length_drop]
  show min k cover.length + 1 + (cover.length - k) = _
  omega
theorem covSteps_sub (es : List Wn) : ∀ (rs cover : List Wn), (∀ x ∈ cover, x ∈ es) → (∀ x ∈ rs, x ∈ es) → ∀ x ∈ rs.foldl (covStep es) cover, x ∈ es
  | [], _, h, _ => h
  | r :: rs, cover, h, h2 => covSteps_sub es rs _ (by
      unfold covStep
      split
      · intro x hx
        rcases covIns_mem.mp hx with rfl | hx
        · exact h2 _ List.mem_cons_self
        · exact h x hx
      · exact h) fun x hx => h2 x (List.mem_cons_of_mem _ hx)
theorem coverL_sub (es : List Wn) : ∀ x ∈ coverL es, x ∈ es := covSteps_sub es es [] (fun x hx => nomatch hx) fun _ h => h
theorem covSteps_len (es : List Wn) : ∀ (rs cover : List Wn), (rs.foldl (covStep es) cover).length ≤ cover.length + rs.length
  | [], _ => Nat.le_refl _
  | r :: rs, cover => by
    refine Nat.le_trans (covSteps_len es rs (covStep es cover r)) ?_
    have : (covStep es cover r).length ≤ cover.length + 1 := by
      unfold covStep
      split
      · exact Nat.le_of_eq (covIns_len _ _)
      · omega
    show _ ≤ cover.length + (rs.length + 1)
    omega
theorem coverL_len (es : List Wn) : (coverL es).length ≤ es.length := by
  have := covSteps_len es es []
  show (es.foldl (covStep es) []).length ≤ _
  rw [List.length_nil, Nat.zero_add] at this
  exact this
/-- covering is an order -/
theorem geO_tr {a b c : Option Int} (h1 : geO a b = true) (h2 : geO b c = true) : geO a c = true := by
  cases a with
  | none => rfl
  | some a =>
    cases b with
    | none => cases h1
    | some b =>
      cases c with
      | none => cases h2
      | some c =>
        have := of_decide_eq_true h1
        have := of_decide_eq_true h2
        exact decide_eq_true (by omega)
theorem geO_anti {a b : Option Int} (h1 : geO a b = true) (h2 : geO b a = true) : a = b := by
  cases a with
  | none => cases b with
    | none => rfl
    | some b => cases h2
  | some a => cases b with
    | none => cases h1
    | some b =>
      have := of_decide_eq_true h1
      have := of_decide_eq_true h2
      rw [show a = b by omega]
theorem geW_tr : ∀ {as bs cs : List (Option Int)}, as.length = bs.length → bs.length = cs.length → geW as bs = true → geW bs cs = true → geW as cs = true
  | [], _, _, _, _, _, _ => rfl
  | _ :: _, [], _, h, _, _, _ => nomatch h
  | _ :: _, _ :: _, [], _, h, _, _ => nomatch h
  | a :: as, b :: bs, c :: cs, h1, h2, h3, h4 => by
    have h3' : (geO a b && geW as bs) = true := h3
    have h4' : (geO b c && geW bs cs) = true := h4
    rw [Bool.and_eq_true] at h3' h4'
    show (geO a c && geW as cs) = true
    rw [geO_tr h3'.1 h4'.1, geW_tr (Nat.succ.inj h1) (Nat.succ.inj h2) h3'.2 h4'.2]
    rfl
theorem geW_anti : ∀ {as bs : List (Option Int)}, as.length = bs.length → geW as bs = true → geW bs as = true → as = bs
  | [], [], _, _, _ => rfl
  | [], _ :: _, h, _, _ => nomatch h
  | _ :: _, [], h, _, _ => nomatch h
  | a :: as, b :: bs, h, h1, h2 => by
    have h1' : (geO a b && geW as bs) = true := h1
    have h2' : (geO b a && geW bs as) = true := h2
    rw [Bool.and_eq_true] at h1' h2'
    rw [geO_anti h1'.1 h2'.1, geW_anti (Nat.succ.inj h) h1'.2 h2'.2]
theorem covW_tr {a b c : Wn} (l1 : a.2.length = b.2.length) (l2 : b.2.length = c.2.length) (h1 : covW a.1 a.2 b.1 b.2 = true) (h2 : covW b.1 b.2 c.1 c.2 = true) : covW a.1 a.2 c.1 c.2 = true := by
  unfold covW at *
  rw [Bool.and_eq_true] at *
  exact ⟨decide_eq_true ((of_decide_eq_true h1.1).trans (of_decide_eq_true h2.1)), geW_tr l1 l2 h1.2 h2.2⟩
theorem covW_anti {a b : Wn} (l1 : a.2.length = b.2.length) (h1 : covW a.1 a.2 b.1 b.2 = true) (h2 : covW b.1 b.2 a.1 a.2 = true) : a = b := by
  unfold covW at *
  rw [Bool.and_eq_true] at *
  exact Prod.ext (of_decide_eq_true h1.1) (geW_anti l1 h1.2 h2.2)
/-- a greatest one -/
theorem greatest {n : Nat} {es : List Wn} (hl : ∀ r ∈ es, r.2.length = n) : ∀ (rs : List Wn), (∀ r ∈ rs, r ∈ es) → rs ≠ [] → ∃ g ∈ rs, ∀ o ∈ rs, covW o.1 o.2 g.1 g.2 = true → o = g
  | [], _, h => absurd rfl h
  | [r], _, _ => ⟨r, List.mem_cons_self, fun o ho _ => List.mem_singleton.mp ho⟩
  | r :: s :: rs, hs, _ => by
    obtain ⟨g, hg, mx⟩ := greatest hl (s :: rs) (fun x hx => hs x (List.mem_cons_of_mem _ hx)) (by simp)
    have lr := hl r (hs r List.mem_cons_self)
    have lg := hl g (hs g (List.mem_cons_of_mem _ hg))
    cases hc : covW r.1 r.2 g.1 g.2 with
    | true =>
      refine ⟨r, List.mem_cons_self, fun o ho h => ?_⟩
      rcases List.mem_cons.mp ho with rfl | ho
      · rfl
      · have lo := hl o (hs o (List.mem_cons_of_mem _ ho))
        have e := mx o ho (covW_tr (by rw [lo, lr]) (by rw [lr, lg]) h hc)
        subst e
        exact covW_anti (by rw [lo, lr]) h hc
    | false =>
      refine ⟨g, List.mem_cons_of_mem _ hg, fun o ho h => ?_⟩
      rcases List.mem_cons.mp ho with rfl | ho
      · rw [hc] at h; cases h
      · exact mx o ho h
theorem covSteps_keep (es : List Wn) : ∀ (rs cover : List Wn), cover ≠ [] → rs.foldl (covStep es) cover ≠ []
  | [], _, h => h
  | r :: rs, cover, h => covSteps_keep es rs _ (by
      unfold covStep
      split
      · intro e
        have := covIns_len cover r
        rw [e] at this
        cases this
      · exact h)
theorem covSteps_ne (es : List Wn) {g : Wn} (hg : (es.filter (aboveW g)).length = 0) : ∀ (rs cover : List Wn), g ∈ rs → rs.foldl (covStep es) cover ≠ []
  | r :: rs, cover, h => by
    rcases List.mem_cons.mp h with rfl | h
    · refine covSteps_keep es rs _ ?_
      unfold covStep
      by_cases hm : g ∈ cover
      · rw [if_neg (fun z => z.2 hm)]
        intro e
        rw [e] at hm
        cases hm
      · rw [if_pos ⟨hg, hm⟩]
        intro e
        have := covIns_len cover g
        rw [e] at this
        cases this
    · exact covSteps_ne es hg rs _ h
theorem coverL_ne {n : Nat} {es : List Wn} (hl : ∀ r ∈ es, r.2.length = n) (h : es ≠ []) : coverL es ≠ [] := by
  obtain ⟨g, hg, mx⟩ := greatest hl es (fun _ h => h) h
  refine covSteps_ne es (g := g) ?_ es [] hg
  rw [List.length_eq_zero_iff, List.filter_eq_nil_iff]
  intro o ho z
  unfold aboveW at z
  rw [Bool.and_eq_true] at z
  exact (of_decide_eq_true z.1) (mx o ho z.2)
theorem foldl_snoc {α β : Type} {f : β → α → β} {b : β} {xs : List α} {i : Nat} {x : α} (h : xs[i]? = some x) : (xs.take (i + 1)).foldl f b = f ((xs.take i).foldl f b) x := by
  rw [take_snoc h, List.foldl_append]
  rfl
theorem dpa_ins {K : PySem.W.Frag} {H : Hp} {xs : List V} {rs : List Wn} {u : V} {r : Wn} (k : Nat) (h : DpAll K H xs (rs.map wD)) (hu : Dp K H u (wD r)) : DpAll K H (xs.take k ++ [u] ++ xs.drop k) ((rs.take k ++ [r] ++ rs.drop k).map wD) := by
  rw [List.map_append, List.map_append, List.map_take, List.map_drop]
  exact dpa_app (dpa_app (dpa_takeG k h) (.cons hu .nil)) (dpa_dropG k h)
section
variable {P : Program} {w : World} {K : PySem.W.Frag} {mg : Str → Option Value} {base : Heap}
end
/-! ### widened, rank_of_wide -/
def wideO : Option Int → Option Int → Option Int
  | some a, some b => if a > b then none else some a
  | _, _ => none
theorem wideO_more {u v : Option Int} (h : geO u v = true) : (if moreO u v = true then none else u) = wideO u v := by
  cases u with
  | none => cases v <;> rfl
  | some a =>
    cases v with
    | none => cases h
    | some b =>
      show (if decide (a > b) = true then none else some a) = if a > b then none else some a
      by_cases c : a > b
      · rw [if_pos c, if_pos (decide_eq_true c)]
      · rw [if_neg c, if_neg (by rw [decide_eq_false c]; decide)]
theorem geW_at : ∀ {ms ns : List (Option Int)} {i : Nat} {u v : Option Int}, geW ms ns = true → ms[i]? = some u → ns[i]? = some v → geO u v = true
  | [], _, _, _, _, _, h, _ => nomatch h
  | _ :: _, [], _, _, _, _, _, h => nomatch h
  | m :: ms, n :: ns, 0, _, _, g, h1, h2 => by
    cases h1; cases h2
    exact (Bool.and_eq_true_iff.mp g).1
  | m :: ms, n :: ns, i + 1, _, _, g, h1, h2 => geW_at (Bool.and_eq_true_iff.mp g).2 h1 h2
theorem widenL_eq {ms ns : List (Option Int)} (hl : ms.length = ns.length) (g : geW ms ns = true) : widenL ms ns = (List.range ms.length).map fun k => wideO (ms.getD k none) (ns.getD k none) := by
  unfold widenL
  refine List.map_congr_left fun k hk => ?_
  have hk := List.mem_range.mp hk
  exact wideO_more (geW_at g (gdO hk) (gdO (by omega)))
section
variable {P : Program} {w : World} {K : PySem.W.Frag} {mg : Str → Option Value} {base : Heap}
abbrev s_widened : Stmt := topS 13
theorem sc_widened : FnScope ["situation", "ancestor", "counts", "count", "before", "grows"] ["situation", "ancestor"] (defScope s_widened) := ⟨rfl, rfl, rfl, by decide +kernel, rfl, by decide +kernel, by decide +kernel⟩
-- widened slots: situation=0 ancestor=1 counts=2 count=3 before=4 grows=5 globals: zip
def spWidened (K : PySem.W.Frag) : Sp := fun vs H Q _ => ∃ (x y : V) (s t : Int) (ms ns : List (Option Int)), vs = [x, y] ∧ WSit K H x s ms ∧ WSit K H y t ns ∧ ms.length = ns.length ∧ ms.length ≤ 90000 ∧ geW ms ns = true ∧ ∀ H' p, Same H H' → NewW H H' p s (widenL ms ns) → Q (.ref p) H'
set_option maxHeartbeats 2000000 in
theorem fd_widened {f : Addr} {fd : FuncData} (F : Fun K "widened" "widened" s_widened f fd) (m : mg "widened" = some (.ref f)) (B : Bt mg) : Fd P w K mg base "widened" ["situation", "ancestor"] 1 (spWidened K) := by
  refine ⟨f, fd, F.ok sc_widened (fun vs H Q E h => ?_) (fun cdv A outer s H vs Q E hr h => ?_), m, F.kp, F.binds (ps := ["situation", "ancestor"]) fun _ _ _ _ _ _ us hl => match us, hl with | [_, _], _ => rfl⟩
  · obtain ⟨x, y, s, t, ms, ns, rfl, _⟩ := h
    rfl
  obtain ⟨x, y, s, t, ms, ns, rfl, ⟨a, ca, rfl, ha, hca⟩, ⟨b, cb, rfl, hb, hcb⟩, hl, h9, g, q⟩ := h
  refine ⟨_, (pss_cons (ps_set (i := 2) sc_widened.nd rfl (Or.inl rfl) (pe_lst pa_nil))
 (pss_cons (ps_for PassesOwn.never rfl (pi_zip (by rfl) B.zip (pa_cons (pe_ix (ixT K) (pv 0) pe_int (fun _ _ => rfl)) (pa_cons (pe_ix (ixT K) (pv 1) pe_int (fun _ _ => rfl)) pa_nil))) (pg_tup rfl (pgs_cons (pg_name (i := 3) sc_widened.nd rfl (Or.inl rfl)) (pgs_cons (pg_name (i := 4) sc_widened.nd rfl (Or.inl rfl)) pgs_nil)))
 (pss_cons (ps_set (i := 5) sc_widened.nd rfl (Or.inl rfl) (pe_and (pe_cmpR op_notN (pv 3) pe_non (nomark _)) (pe_one (pe_cmpR op_gt (pv 3) (pv 4) (nomark _)))))
 (pss_one (ps_expr (peBm K PySem.F.plainAttrs_list PySem.F.slot_list_append PySem.F.type_list_append mt_append (pv 2) (pa_cons (pe_ifExp (pt_val (pv 5)) pe_non (pv 3)) pa_nil))))))
 (pss_one (ps_ret (pe_tup (pa_cons (pe_ix (ixT K) (pv 0) pe_int (fun _ _ => rfl)) (pa_cons (pv 2) pa_nil))))))), ?_⟩
  refine ⟨szc 0, fun o no => ?_⟩
  dsimp only [gName]
  have so := same_new (o := HO.lst []) no
  refine ⟨_, rfl, _, _, _, _, rfl, rfl, Same.seqT so ha, atI_nat (j := 1) rfl, _, rfl, _, _, _, _, rfl, rfl, Same.seqT so hb, atI_nat (j := 1) rfl, ?_⟩
  refine ⟨_, _, _, _, rfl, so.seq hca, so.seq hcb, RZ.for_zipL (xs := ms.map oV) (ys := ns.map oV) (by rw [List.length_map, List.length_map]; exact hl) (fun i σ' H' => ∃ y3 y4 y5 : Option V, σ' = [some (.ref a), some (.ref b), some (.ref o), y3, y4, y5] ∧ Same H H' ∧ H' o = some (.lst (((List.range i).map fun k => wideO (ms.getD k none) (ns.getD k none)).map oV))) ⟨none, none, none, rfl, so, upd_same⟩ ?_ ?_ ?_⟩
  · rintro i σ' H' ⟨y3, y4, y5, rfl, sm, _⟩
    exact ⟨sm.seq hca, sm.seq hcb⟩
  · rintro i x y T σ' H' hx hy ⟨y3, y4, y5, rfl, sm, eo⟩ nT
    obtain ⟨u, hu, rfl⟩ := get_map_inv hx
    obtain ⟨v, hv, rfl⟩ := get_map_inv hy
    have gd1 : ms.getD i none = u := by rw [List.getD_eq_getElem?_getD, hu]; rfl
    have gd2 : ns.getD i none = v := by rw [List.getD_eq_getElem?_getD, hv]; rfl
    have il : i < ms.length := (List.getElem?_eq_some_iff.mp hu).1
    have ge := geW_at g hu hv
    have sT := same_new (o := HO.tup [oV u, oV v]) nT
    have eo2 := sT _ _ eo
    have s2 := sm.trans sT
    refine ⟨_, _, rfl, .inl (.inl upd_same), rfl, _, _, rfl, _, _, rfl, rfl, ?_⟩
    generalize upd H' T (.tup [oV u, oV v]) = H2 at eo2 s2 ⊢
    have fin : ∀ z : V, z = oV (wideO u v) → ∀ bb : Bool, ∃ y3 y4 y5 : Option V, [some (V.ref a), some (.ref b), some (.ref o), some (oV u), some (oV v), some (.bl bb)] = [some (.ref a), some (.ref b), some (.ref o), y3, y4, y5] ∧ Same H (upd H2 o (.lst (((List.range i).map fun k => wideO (ms.getD k none) (ns.getD k none)).map oV ++ [z]))) ∧ (upd H2 o (.lst (((List.range i).map fun k => wideO (ms.getD k none) (ns.getD k none)).map oV ++ [z]))) o = some (.lst (((List.range (i + 1)).map fun k => wideO (ms.getD k none) (ns.getD k none)).map oV)) := fun z ez bb => by
      refine ⟨_, _, _, rfl, Same.mut s2 no, ?_⟩
      rw [upd_same, List.range_succ, List.map_append, List.map_append, ez]
      show some (HO.lst (_ ++ [oV (wideO u v)])) = some (HO.lst (_ ++ [oV (wideO (ms.getD i none) (ns.getD i none))]))
      rw [gd1, gd2]
    have zl : (((List.range i).map fun k => wideO (ms.getD k none) (ns.getD k none)).map oV).length < sizeLine := by rw [List.length_map, List.length_map, List.length_range]; exact szl (by omega)
    refine ⟨_, rfl, rfl, ?_⟩
    rw [oV_non]
    cases u with
    | none => exact ⟨_, rfl, iteFx rfl ⟨_, rfl, .inl ⟨rfl, _, sq eo2⟩, _, rfl, _, rfl, iteFx rfl ⟨_, rfl, o, _, _, rfl, rfl, eo2, zl, fin .non (by cases v <;> rfl) false⟩⟩⟩
    | some m =>
      cases v with
      | none => cases ge
      | some n =>
        refine ⟨_, rfl, iteTx rfl ⟨_, rfl, _, rfl, _, _, rfl, rfl, _, rfl, .inl ⟨rfl, _, sq eo2⟩, _, rfl, _, rfl, ?_⟩⟩
        by_cases c : n < m
        · exact iteTx (decide_eq_true c) ⟨o, _, _, rfl, rfl, eo2, zl, fin .non (by show V.non = oV (if m > n then none else some m); rw [if_pos c]; rfl) _⟩
        · exact iteFx (decide_eq_false c) ⟨_, rfl, o, _, _, rfl, rfl, eo2, zl, fin (oV (some m)) (by show oV (some m) = oV (if m > n then none else some m); rw [if_neg c]) _⟩
  · rintro σ' H' ⟨y3, y4, y5, rfl, sm, eo⟩
    rw [List.length_map, ← widenL_eq hl g] at eo
    refine ⟨_, rfl, _, _, _, _, rfl, rfl, Same.seqT sm ha, atI_nat (j := 0) rfl, _, rfl, szc 2, fun p np => ?_⟩
    have sp := same_new (o := HO.tup [V.int s, V.ref o]) np
    have po : o ≠ p := fun z => by rw [← z, eo] at np; cases np
    exact q _ p (sm.trans sp) ⟨o, sm.free np, no, po, upd_same, sp _ _ eo⟩
end
/-! ### deques -/
def DqV (n : Int) (us : List Value) : Array Value := #[Value.none, rawInt n] ++ us.toArray
theorem dqv_size (n : Int) (us : List Value) : (DqV n us).size = us.length + 2 := by
  unfold DqV
  rw [Array.size_append, List.size_toArray]
  show 2 + us.length = _
  omega
theorem dqv_items (n : Int) (us : List Value) : (DqV n us).extract 2 (DqV n us).size = us.toArray := by
  rw [dqv_size]
  unfold DqV
  apply Array.ext'
  simp [Array.toList_extract, List.extract_eq_take_drop]
theorem dqv_0 (n : Int) (us : List Value) : (DqV n us)[0]? = some Value.none := by
  unfold DqV
  simp
theorem dqv_1 (n : Int) (us : List Value) : (DqV n us)[1]? = some (rawInt n) := by
  unfold DqV
  simp
theorem dqv_nil : DqV 0 [] = dq0 := by
  unfold DqV
  exact dq0_app
section
variable {prog : Program} {w : World} {A : Around} {E : Value → Shared → Prop} {s : Shared} {a : Addr} {n : Int} {us us' : List Value}
theorem dq_change {f : Array Value → Array Value} {Q : Unit → Shared → Prop} (hg : s.heap.get? a = some (recObj "collections.deque" (DqV n us))) (hf : f us.toArray = us'.toArray) (hz : us'.length ≤ sizeLine)
    (h : ∀ h', h'.get? a = some (recObj "collections.deque" (DqV (n + 1) us')) → Heap.SameBut a s.heap h' → Q () { s with heap := h' }) : wpAny (model prog w) A (Builtin.Deque.change (.ref a) f) Q E s := by
  unfold Builtin.Deque.change
  show wpAny _ _ (Builtin.Deque.state (.ref a) >>= fun k => updateFields a fun vs => #[vs.getD 0 .none, rawInt (if true = true then k + 1 else k)] ++ f (vs.extract 2 vs.size)) _ _ _
  refine wpAny_bind ?_
  unfold Builtin.Deque.state
  refine wpAny_bind (wpAny_field hg rfl (dqv_1 n us) ?_)
  refine wpAny_pure ?_
  have e : (#[(DqV n us).getD 0 .none, rawInt (if true = true then n + 1 else n)] ++ f ((DqV n us).extract 2 (DqV n us).size)) = DqV (n + 1) us' := by
    rw [dqv_items, hf, if_pos rfl, Array.getD_eq_getD_getElem?, dqv_0]
    rfl
  refine wpAny_updateFields hg rfl (h _ ?_ (Heap.SameBut.update ..)) (by rw [e, dqv_size]; omega)
  have := Heap.get?_update_self (Obj.mapFields fun vs => #[vs.getD 0 .none, rawInt (if true = true then n + 1 else n)] ++ f (vs.extract 2 vs.size)) hg rfl
  rw [this]
  show some (recObj "collections.deque" (#[(DqV n us).getD 0 .none, rawInt (if true = true then n + 1 else n)] ++ f ((DqV n us).extract 2 (DqV n us).size))) = _
  rw [e]
end
theorem dq_plainAttrs : PlainAttrs "collections.deque" :=
  ⟨⟨"collections.deque.__getattribute__", by rw [typeLookup_type, builtinLookup_eq_fast]; kernel_rfl, by decide +kernel⟩, by rw [typeLookup_type, builtinLookup_eq_fast]; kernel_rfl⟩
theorem dq_slot_append : Slot "collections.deque" "append" "collections.deque.append" :=
  .of (owner := "collections.deque") (n := "append") (by rw [typeLookup_type, builtinLookup_eq_fast]; kernel_rfl) (by decide +kernel) (by decide +kernel) (by decide +kernel)
    (by first | exact .inl (by decide +kernel) | exact .inr (by decide +kernel)) (by rw [isSubtype_type]; kernel_rfl)
theorem dq_slot_popleft : Slot "collections.deque" "popleft" "collections.deque.popleft" :=
  .of (owner := "collections.deque") (n := "popleft") (by rw [typeLookup_type, builtinLookup_eq_fast]; kernel_rfl) (by decide +kernel) (by decide +kernel) (by decide +kernel)
    (by first | exact .inl (by decide +kernel) | exact .inr (by decide +kernel)) (by rw [isSubtype_type]; kernel_rfl)
theorem dq_type_append : typeOf (.builtin "collections.deque.append") = pure (.type "method_descriptor") := by show builtinType _ = _; rw [builtinType_eq_fast]; kernel_rfl
theorem dq_type_popleft : typeOf (.builtin "collections.deque.popleft") = pure (.type "method_descriptor") := by show builtinType _ = _; rw [builtinType_eq_fast]; kernel_rfl
theorem dq_entry_append : entryFor table "collections.deque.append" = some Builtin.«collections.deque.append» := entryFor_of_tree (by kernel_rfl)
theorem dq_entry_popleft : entryFor table "collections.deque.popleft" = some Builtin.«collections.deque.popleft» := entryFor_of_tree (by kernel_rfl)
theorem dq_args_append (a b : Value) : argsOk "collections.deque.append" ⟨[a, b], []⟩ := by unfold argsOk; kernel_rfl
theorem dq_args_popleft (a : Value) : argsOk "collections.deque.popleft" ⟨[a], []⟩ := by unfold argsOk; kernel_rfl
section
variable {prog : Program} {w : World} {A : Around} {E : Value → Shared → Prop} {s : Shared} {a : Addr} {n : Int} {us : List Value} {u : Value}
theorem dq_maxlen {Q : Option Nat → Shared → Prop} (hg : s.heap.get? a = some (recObj "collections.deque" (DqV n us))) (h : Q none s) : wpAny (model prog w) A (Builtin.Deque.maxlen (.ref a)) Q E s := by
  unfold Builtin.Deque.maxlen
  exact wpAny_bind (wpAny_field hg rfl (dqv_0 n us) (wpAny_pure h))
theorem dq_append {Q : Value → Shared → Prop} (hg : s.heap.get? a = some (recObj "collections.deque" (DqV n us))) (hz : us.length < sizeLine)
    (h : ∀ h', h'.get? a = some (recObj "collections.deque" (DqV (n + 1) (us ++ [u]))) → Heap.SameBut a s.heap h' → Q .none { s with heap := h' }) :
    wpAny (model prog w) A (call (.builtin "collections.deque.append") [.ref a, u]) Q E s := by
  refine wpAny_call_entry dq_slot_append ⟨_, hg, rfl⟩ dq_entry_append ?_ (dq_args_append _ _)
  unfold Builtin.«collections.deque.append»
  show wpAny _ _ (Builtin.Deque.pushRight (.ref a) u >>= fun _ => ret .none) _ _ _
  refine wpAny_bind ?_
  unfold Builtin.Deque.pushRight
  refine wpAny_bind (dq_change (us' := us ++ [u]) hg (by simp) (by rw [List.length_append, List.length_singleton]; omega) fun h' g' sb => ?_)
  refine wpAny_bind (dq_maxlen g' ?_)
  exact wpAny_pure (wpAny_pure ⟨_, rfl, h h' g' sb⟩)
theorem dq_popleft {Q : Value → Shared → Prop} (hg : s.heap.get? a = some (recObj "collections.deque" (DqV n (u :: us)))) (hz : us.length < sizeLine)
    (h : ∀ h', h'.get? a = some (recObj "collections.deque" (DqV (n + 1) us)) → Heap.SameBut a s.heap h' → Q u { s with heap := h' }) :
    wpAny (model prog w) A (call (.builtin "collections.deque.popleft") [.ref a]) Q E s := by
  refine wpAny_call_entry dq_slot_popleft ⟨_, hg, rfl⟩ dq_entry_popleft ?_ (dq_args_popleft _)
  unfold Builtin.«collections.deque.popleft»
  show wpAny _ _ (Builtin.Deque.items (.ref a) >>= fun xs => _) _ _ _
  refine wpAny_bind ?_
  unfold Builtin.Deque.items
  refine wpAny_bind (wpAny_fieldsOf hg rfl (wpAny_pure ?_))
  rw [dqv_items]
  show wpAny _ _ (Builtin.Deque.change (.ref a) (·.eraseIdxIfInBounds 0) >>= fun _ => ret u) _ _ _
  refine wpAny_bind (dq_change (us' := us) hg (by simp) (by omega) fun h' g' sb => ?_)
  exact wpAny_pure ⟨_, rfl, h h' g' sb⟩
end
section
variable {prog : Program} {w : World} {A : Around} {E : Value → Shared → Prop} {s : Shared} {n : Int} {us : List Value}
theorem dq_truthyN {l : Addr} {Q : Bool → Shared → Prop} (hl : s.heap.get? l = some (recObj "collections.deque" (DqV n us))) (hz : us.length ≤ sizeLine)
    (h : Q (decide (us.length ≠ 0)) { s with toks := s.toks + 1 + 1 }) : wpAny (model prog w) A (truthy (.ref l)) Q E s := by
  have hT : s.TypeIs (.ref l) "collections.deque" := ⟨_, hl, rfl⟩
  have hz63 : (us.length : Int) < 2 ^ 63 := by
    have : sizeLine ≤ 2 ^ 62 := by decide
    omega
  have key : wpAny (model prog w) A (runValue (.builtin "len" ⟨[.ref l], []⟩)) (fun r s' => r = .int (us.length : Int) (s.toks + 1) ∧ Q (decide (us.length ≠ 0)) s') E s := by
    refine wpAny_runValue (codeAny_builtin entry_len ?_)
    rw [Around.under_plainId plain_len _]
    refine wpAny_mono (Q := fun fin s' => ∃ r, fin = .done (.ret r) ∧ r = .int (us.length : Int) (s.toks + 1) ∧ Q (decide (us.length ≠ 0)) s') ?_ (fun fin s' h' => by obtain ⟨r, rfl, hq⟩ := h'; exact hq) fun _ _ e => e
    unfold Builtin.«len»
    refine wpAny_bind (m := oneArg "len" _) (wpAny_pure ?_)
    refine wpAny_bind (m := callSpecial? (.ref l) (Str.ofString "__len__")) (wpAny_callSpecial?_slot (name := Str.ofString "__len__") hT F.dq_slot_len
      (wpAny_call_entry F.dq_slot_len hT F.dq_entry_len ?_ (F.dq_args_len _)))
    show wpAny _ _ (Builtin.Deque.size (.ref l) >>= fun k => retInt k) _ _ s
    unfold Builtin.Deque.size
    refine wpAny_bind (wpAny_bind (wpAny_fieldsOf hl rfl (wpAny_pure ?_)))
    rw [dqv_size]
    show wpAny _ _ (retInt ((us.length + 2 - 2 : Nat) : Int)) _ _ _
    rw [Nat.add_sub_cancel]
    refine wpAny_bind (wpAny_mkInt (wpAny_pure ⟨_, rfl, ?_⟩))
    refine wpAny_bind (wpAny_holding (wpAny_pure ?_))
    refine wpAny_bind (wpAny_letGo ?_)
    show wpAny _ _ (if (us.length : Int) < 0 then _ else _) _ _ _
    rw [if_neg (by omega)]
    show wpAny _ _ (if (us.length : Int) ≥ 2 ^ 63 then _ else _) _ _ _
    rw [if_neg (by omega)]
    exact wpAny_bind (wpAny_mkInt (wpAny_pure ⟨_, rfl, rfl, h⟩))
  have fin : ((us.length : Int) != 0) = decide (us.length ≠ 0) := by
    rw [Bool.eq_iff_iff, bne_iff_ne, decide_eq_true_iff]
    omega
  unfold truthy
  first
    | refine wpAny_bind (wpAny_callSpecial?_none (name := Str.ofString "__bool__") hT F.dq_noBool ?_)
    | refine wpAny_bind (wpAny_pure (wpAny_bind (wpAny_callSpecial?_none (name := Str.ofString "__bool__") hT F.dq_noBool ?_)))
  first
    | refine wpAny_bind (wpAny_specialOf (name := Str.ofString "__len__") hT F.dq_slot_len.lookup ?_)
    | refine wpAny_bind (wpAny_pure (wpAny_bind (wpAny_specialOf (name := Str.ofString "__len__") hT F.dq_slot_len.lookup ?_)))
  refine wpAny_bind (wpAny_mono key (fun r s' h' => by
    obtain ⟨rfl, hq⟩ := h'
    refine wpAny_pure ?_
    show Q ((us.length : Int) != 0) s'
    rw [fin]
    exact hq) fun _ _ e => e)
end
/-- a deque of values -/
def DqO (a : Addr) (xs : List V) : HO := .ext fun h => xs.length ≤ sizeLine ∧ ∃ (n : Int) (us : List Value), Vals xs us ∧ h.get? a = some (recObj "collections.deque" (DqV n us))
theorem dqO_ok {P : Program} {w : World} {H : Hp} {h : Heap} {a : Addr} {xs : List V} {n : Int} {us : List Value} (hz : xs.length ≤ sizeLine) (r : Vals xs us) (e : h.get? a = some (recObj "collections.deque" (DqV n us))) : ObjOk P w H h a (DqO a xs) :=
  ⟨⟨hz, n, us, r, e⟩, ⟨_, e⟩, fun _ _ p k => by obtain ⟨hz, n, us, r, e⟩ := p; exact ⟨hz, n, us, r, k _ e⟩⟩
section
variable {X : Cx} {pins : List (Addr × Obj)} {σ : L2.St} {H : Hp} {s : Shared} {a : Addr} {xs ys : List V} {n : Int} {us us' : List Value}
theorem inv_dqO (I : Inv X pins σ H s) (e : H a = some (DqO a xs)) : xs.length ≤ sizeLine ∧ ∃ (n : Int) (us : List Value), Vals xs us ∧ s.heap.get? a = some (recObj "collections.deque" (DqV n us)) := (I.hok a _ e).1
theorem inv_dqW {h' : Heap} {t' : Nat} (I : Inv X pins σ H s) (e : H a = some (DqO a xs)) (k : ∀ b u, b ≠ a → s.heap.get? b = some u → h'.get? b = some u) (hz : ys.length ≤ sizeLine) (r : Vals ys us') (new : h'.get? a = some (recObj "collections.deque" (DqV n us'))) :
    Inv X pins σ (upd H a (DqO a ys)) { s with heap := h', toks := t' } :=
  I.write (by rw [e]; exact True.intro) (.inl rfl) k ⟨_, new⟩ (dqO_ok hz r new)
theorem call_dequeN : CallR X (.type "collections.deque") (fun xs H Q => xs = [] ∧ ∀ q, H q = none → Q (.ref q) (upd H q (DqO q []))) := by
  intro pins s σ H xs us Q I r h
  obtain ⟨rfl, q⟩ := h
  cases r
  refine dq_call0 fun h' hg k => ⟨.ref s.heap.objs.size, _, I.laid k (Nat.le_refl _) (dqO_ok (n := 0) (us := []) (by decide) .nil (by rw [dqv_nil]; exact hg)), rfl, q _ (I.hok.fresh (Nat.le_refl _))⟩
def rDqApp : V → List V → Hp → VK → Prop := fun x vs H Q => ∃ l xs y, x = .ref l ∧ vs = [y] ∧ H l = some (DqO l xs) ∧ xs.length < sizeLine ∧ Q .non (upd H l (DqO l (xs ++ [y])))
theorem mt_dqapp : MtR X "collections.deque.append" rDqApp := by
  intro pins s σ H x vs v us Q I rx rv h
  obtain ⟨l, xs, y, rfl, rfl, hH, hz, q⟩ := h
  cases rx
  obtain ⟨u, rfl, ru⟩ := rv.one
  obtain ⟨_, n, its, r, e⟩ := (inv_dqO I hH)
  refine dq_append e (by rw [← r.length]; exact hz) fun h' g' sb => ?_
  exact ⟨.non, _, inv_dqW (t' := s.toks) I hH (fun b o hb ho => (sb.2 b hb).trans ho) (by rw [List.length_append, List.length_singleton]; omega) (r.append (.cons ru .nil)) g', rfl, q⟩
def rDqPop : V → List V → Hp → VK → Prop := fun x vs H Q => ∃ l y xs, x = .ref l ∧ vs = [] ∧ H l = some (DqO l (y :: xs)) ∧ Q y (upd H l (DqO l xs))
theorem mt_dqpop : MtR X "collections.deque.popleft" rDqPop := by
  intro pins s σ H x vs v us Q I rx rv h
  obtain ⟨l, y, xs, rfl, rfl, hH, q⟩ := h
  cases rx
  cases rv
  obtain ⟨hz, n, its, r, e⟩ := (inv_dqO I hH)
  cases r with
  | @cons _ u _ its ru r =>
    rw [List.length_cons] at hz
    refine dq_popleft e (by rw [← r.length]; omega) fun h' g' sb => ?_
    exact ⟨y, _, inv_dqW (t' := s.toks) I hH (fun b o hb ho => (sb.2 b hb).trans ho) (by omega) r g', ru, q⟩
theorem tru_dqN : TruR X (fun x H Q => ∃ a xs, x = .ref a ∧ H a = some (DqO a xs) ∧ Q (decide (xs.length ≠ 0)) H) := by
  intro pins s σ H x v Q I rx h
  obtain ⟨a, xs, rfl, e, q⟩ := h
  cases rx
  obtain ⟨hz, n, its, r, e⟩ := (inv_dqO I e)
  exact dq_truthyN e (by rw [← r.length]; exact hz) ⟨H, I.tok _, by rw [← r.length]; exact q⟩
/-- a method of a deque -/
def tDqM (r : V → List V → Hp → VK → Prop) (to : TE) (t : TA) : TE := fun σ H Q => to σ H fun x H1 => (∃ d xs, x = .ref d ∧ H1 d = some (DqO d xs)) ∧ t σ H1 fun vs H2 => r x vs H2 Q
theorem dq_is {x : V} {v : Value} (I : Inv X pins σ H s) (r : RelV x v) (h : ∃ d xs, x = .ref d ∧ H d = some (DqO d xs)) : s.TypeIs v "collections.deque" ∧ ∀ a, v = .ref a → ∃ ob, s.heap.get? a = some ob ∧ ob.dict = none := by
  obtain ⟨d, xs, rfl, e⟩ := h
  cases r
  obtain ⟨_, n, its, _, e⟩ := (inv_dqO I e)
  exact ⟨⟨_, e, rfl⟩, fun a ea => by cases ea; exact ⟨_, e, rfl⟩⟩
theorem pe_dqm {name id : String} {r : V → List V → Hp → VK → Prop} {to : TE} {t : TA} {o e : Expr} {es : List Expr} {apos cpos : Pos} (sl : Slot "collections.deque" name id) (ty : typeOf (.builtin id) = pure (.type "method_descriptor")) (hm : MtR X id r) (ho : PE X o to) (ha : PA X (e :: es) t)
    (b0 : attributeBase o name X.env (eval o X.env) = eval o X.env := by rfl)
    (b1 : ((backTo cpos (starEach (e :: es) X.env)).all (fun x => !x.1) && (backToKw cpos (keywordEach [] X.env)).all (fun x => x.1.isSome) && decide ((e :: es).length + ([] : List Keyword).length + (if ([] : List Keyword).isEmpty then 0 else 1) < 30)) = true := by rfl)
    (b2 : (apos.endLine == cpos.line) = true := by rfl) (b3 : starEach (e :: es) X.env = (false, eval e X.env) :: starEach es X.env := by rfl) (b4 : (backTo cpos (starEach es X.env)).any (·.1) = false := by rfl) :
    PE X (.Call (.Attribute o name apos) (e :: es) [] cpos) (tDqM r to t) :=
  ⟨fun pins s σ H Q I h => wpAny_Call_method_late b0 b1 b2 rfl (thn (ho.run pins s σ H _ I h) fun v s1 q => by
    obtain ⟨x, H1, I1, r1, td, q1⟩ := q
    obtain ⟨t1, t2⟩ := dq_is I1 r1 td
    have args := ha.run cpos pins s1 σ H1 _ I1 q1
    rw [b3] at args
    refine ⟨"collections.deque", id, dq_plainAttrs, sl, ty, t1, t2, ?_⟩
    rw [b3]
    refine Calls.callWith_builtin (by show (false || (backTo cpos (starEach es X.env)).any (·.1)) = false; rw [b4]; rfl) (Calls.evalArgs_plain (thn args fun us s2 z => ?_))
    obtain ⟨vs, H2, I2, r2, q2⟩ := z
    exact hm pins s2 σ H2 x vs v us Q I2 r1 r2 q2)⟩
theorem pe_dqm0 {name id : String} {r : V → List V → Hp → VK → Prop} {to : TE} {o : Expr} {apos cpos : Pos} (sl : Slot "collections.deque" name id) (ty : typeOf (.builtin id) = pure (.type "method_descriptor")) (hm : MtR X id r) (ho : PE X o to)
    (b0 : attributeBase o name X.env (eval o X.env) = eval o X.env := by rfl) (b2 : (apos.endLine == cpos.line) = true := by rfl) :
    PE X (.Call (.Attribute o name apos) [] [] cpos) (tDqM r to tNil) := by
  refine ⟨fun pins s σ H Q I h => ?_⟩
  refine wpAny_Call_method0_late b0 b2 (thn (ho.run pins s σ H _ I h) fun v s1 ⟨x, H1, I1, r1, td, q1⟩ => ?_)
  obtain ⟨t1, t2⟩ := dq_is I1 r1 td
  exact ⟨"collections.deque", id, dq_plainAttrs, sl, ty, t1, t2, Calls.callWith_builtin rfl (PySem.evalArgs_none (hm pins s1 σ H1 x [] v [] Q I1 r1 .nil q1))⟩
end
/-! ### sorted(xs, key=f) with a def of the module -/
section
open PySem.W PySem.Calls
section
variable {prog : Program} {w : World} {A : Around} {E : Value → Shared → Prop} {s : Shared} {a c0 : Addr} {vs : List Value} {keys : Array Value} {e e1 : Nat} {P : PySem.Fin → Shared → Prop}
/-- c0 is emptied, then a is filled -/
def Fill (a c0 : Addr) (out : List Value) (h h' : Heap) : Prop := ∃ g c d, Heap.SameBut c0 h g ∧ g.get? c0 = some (seqObj "list" (List.toArray []) d) ∧ Heap.SameBut a g h' ∧ h'.get? a = some (seqObj "list" out.toArray c)
theorem tailK {st : SortSt} {out : List Value} (hk : s.heap.get? c0 = some (seqObj "list" keys e)) (hA : s.heap.get? a = some (seqObj "list" #[] e1)) (ne : c0 ≠ a) (kz : keys.size ≤ sizeLine) (oz : out.length ≤ sizeLine) (fl : failedOf st = none) (eo : (arrOf st).map (·.2) = out.toArray)
    (fin : ∀ h' tk, Fill a c0 out s.heap h' → P (.done (.ret .none)) { s with heap := h', toks := tk }) : wpAny (model prog w) A (ksk_tail a false e1 (.ref c0) st) P E s := by
  let g1 := s.heap.update c0 (Obj.mapSeq fun _ => (#[] : Array Value))
  have u1 : Heap.SameBut c0 s.heap g1 := Heap.SameBut.update s.heap c0 (Obj.mapSeq fun _ => (#[] : Array Value))
  have a1 : g1.get? a = some (seqObj "list" #[] e1) := (u1.2 a ne.symm).trans hA
  obtain ⟨d, k1⟩ : ∃ d, g1.get? c0 = some (seqObj "list" #[] d) := ⟨_, get?_update_seq hk fun _ => #[]⟩
  let g2 := g1.update a (Obj.mapSeq fun _ => out.toArray)
  have u2 : Heap.SameBut a g1 g2 := Heap.SameBut.update g1 a (Obj.mapSeq fun _ => out.toArray)
  obtain ⟨c, a2⟩ : ∃ c, g2.get? a = some (seqObj "list" out.toArray c) := ⟨_, get?_update_seq a1 fun _ => out.toArray⟩
  have all := fun tk => fin g2 tk ⟨g1, c, d, u1, k1, u2, a2⟩
  unfold ksk_tail
  dsimp only
  rw [eo]
  refine wpAny_bind (listUpdate_at hk rfl ?_ kz (Nat.zero_le _))
  refine wpAny_bind (wpAny_letGo (wpAny_bind (seqEpoch_at a1 rfl ?_)))
  refine wpAny_bind (listUpdate_at a1 rfl ?_ (Nat.zero_le _) (by show out.toArray.size ≤ _; rw [List.size_toArray]; omega))
  rw [fl]
  simp only [bne_self_eq_false, Bool.false_eq_true, if_false]
  exact wpAny_pure (all _)
theorem endK {κ : PyProof.Rows.KeyKind} (hk : s.heap.get? c0 = some (seqObj "list" keys e)) (hA : s.heap.get? a = some (seqObj "list" #[] e1)) (ne : c0 ≠ a) (S : SortsAt prog w A s κ keys.toList) (sz : keys.size = vs.length) (vz : vs.length ≤ sizeLine)
    (fin : ∀ h' tk, Fill a c0 (sortVals κ false keys.toList vs) s.heap h' → P (.done (.ret .none)) { s with heap := h', toks := tk }) : wpAny (model prog w) A (ksk_end a false vs.toArray e1 (.ref c0) keys) P E s := by
  have kz : keys.size ≤ sizeLine := by omega
  have oz : (sortVals κ false keys.toList vs).length ≤ sizeLine := by rw [sortVals_length false (by rw [Array.length_toList]; exact sz)]; exact vz
  have KO : PyProof.Rows.KeysOf κ (keys.zip vs.toArray) := keysOf_zip S.keys
  have zs : (keys.zip vs.toArray).size = vs.length := by rw [Array.size_zip, sz, List.size_toArray, Nat.min_self]
  have res : ∀ st' : SortSt, (arrOf st').Perm (keys.zip vs.toArray) → SortedToK κ (arrOf st') (keys.zip vs.toArray).size → Stable κ (arrOf st') (keys.zip vs.toArray) → (arrOf st').map (·.2) = (sortVals κ false keys.toList vs).toArray := fun st' p1 p2 p3 => by
    have q := congrArg List.toArray (sort_out (rev := false) (keys := keys) (items := vs.toArray) (xs := arrOf st') (κ := κ) KO p1 p2 p3)
    rw [Array.toArray_toList] at q
    exact q
  obtain ⟨kd, s1, s2⟩ := S.kind
  unfold ksk_end
  dsimp only
  simp only [Bool.false_eq_true, if_false]
  rcases Nat.lt_or_ge vs.length 2 with lt | ge
  · rw [if_pos (by rw [List.size_toArray]; exact lt), if_pos (by rw [List.size_toArray]; exact lt)]
    refine wpAny_bind (wpAny_pure ?_)
    rw [StateT.run_pure]
    refine wpAny_bind (wpAny_pure ?_)
    refine tailK (st := SortSt.mk' general' (keys.zip vs.toArray) #[] 7 none) hk hA ne kz oz rfl (res _ (Array.Perm.refl _) (fun i j h1 h2 => ?_) (Stable.refl _)) fin
    obtain rfl : i = j := by omega
    exact KeyOrd.kle_refl _
  · rw [if_neg (by rw [List.size_toArray]; omega), if_neg (by rw [List.size_toArray]; omega)]
    refine wpAny_bind (s2 (by rw [Array.length_toList]; omega) _ ?_)
    refine wpAny_bind (wpAny_mono (H.wpS_sortRunsSt (κ := κ) (kd := kd) (a₀ := keys.zip vs.toArray) (st := SortSt.mk' kd (keys.zip vs.toArray) #[] 7 none)
      (Q := fun _ st' => failedOf st' = none ∧ (arrOf st').map (·.2) = (sortVals κ false keys.toList vs).toArray) s1 KO ⟨Array.Perm.refl _, rfl, rfl⟩ rfl (Stable.refl _) (by rw [zs]; omega) fun st' q1 q2 q3 q4 => ⟨q2, res st' q1 q3 q4⟩) ?_ fun _ _ q => q)
    rintro ⟨⟨⟩, st'⟩ s' ⟨rfl, q1, q2⟩
    dsimp only at q1 q2 ⊢
    exact tailK hk hA ne kz oz q1 q2 fin
end
section
variable {X : Cx} {pins : List (Addr × Obj)} {σ : L2.St} {H : Hp} {s : Shared}
/-- a promise kept runs under any surroundings -/
theorem run_at {A' : Around} {k : Nat} {f : Addr} {fd : FuncData} {ps : List Str} {sp : Sp} {us : List Value} {vs : List V} {Q : VK} (F : FnOk X.prog X.w X.K X.mg X.base CX0 k f fd ps sp) (hr : Room k A') (en : Env0 X.prog X.w X.K X.mg X.base A' X.stack s H) (hb : Binds X.K fd ps []) (I : Inv X pins σ H s) (r : Vals vs us) (h : sp vs H Q E0) :
    wpAny (model X.prog X.w) A' (call (.ref f) us) (EP X pins σ Q) (fun _ _ => False) s := by
  have hl : us.length = ps.length := by rw [← r.length]; exact F.len _ _ _ _ h
  have b := hb s us I.kIn (by rw [List.append_nil]; exact hl)
  rw [List.append_nil] at b
  refine wpAny_call (codeAny_mono (F.run A' X.stack s H ⟨us, []⟩ us vs Q E0 hr en b r h) fun r s' hq => ?_)
  cases r with
  | error e => exact False.elim hq
  | ok fl =>
    cases fl with
    | ret u => exact I.after hq
    | next => exact False.elim hq
    | brk => exact False.elim hq
    | cont => exact False.elim hq
theorem each_pair {β : Type} {R : Value → β → Prop} : ∀ {xs : List V} {us : List Value} {bs : List β}, Vals xs us → xs.length = bs.length → (∀ x b u, (x, b) ∈ xs.zip bs → RelV x u → R u b) → EachIs R us bs
  | [], _, [], .nil, _, _ => .nil
  | _ :: _, _, b :: bs, .cons r t, h, q => .cons (q _ _ _ (by rw [List.zip_cons_cons]; exact List.mem_cons_self) r) (each_pair t (Nat.succ.inj h) fun x b u m r => q x b u (by rw [List.zip_cons_cons]; exact List.mem_cons_of_mem _ m) r)
/-- an object that stands to the letter -/
def LsO (a : Addr) (ob : Obj) : HO := .ext fun h => h.get? a = some ob
theorem lsO_at {a : Addr} {ob : Obj} (I : Inv X pins σ H s) (e : H a = some (LsO a ob)) : s.heap.get? a = some ob := (I.hok a _ e).1
theorem lsO_ok {P : Program} {w : World} {H : Hp} {h : Heap} {a : Addr} {ob : Obj} (e : h.get? a = some ob) : ObjOk P w H h a (LsO a ob) := ⟨e, ⟨_, e⟩, fun _ _ p k => k _ p⟩
/-- behind the sort: the two lists in the tracked heap -/
theorem inv_fill {a c0 : Addr} {out : List Value} {ys ks : List V} {ob : Obj} {h' : Heap} {t' : Nat} (I : Inv X pins σ H s) (ha : H a = some (LsO a ob)) (hc : H c0 = some (.lst ks)) (ne : c0 ≠ a) (oz : ys.length ≤ sizeLine) (r : Vals ys out) (fl : Fill a c0 out s.heap h') : Inv X pins σ (upd (upd H c0 (.lst [])) a (.lst ys)) { s with heap := h', toks := t' } := by
  obtain ⟨g, c, d, u1, k1, u2, k2⟩ := fl
  have I1 : Inv X pins σ (upd H c0 (.lst [])) { s with heap := g, toks := t' } := I.write (x := c0) (e := c0) (by rw [hc]; exact True.intro) (.inl rfl) (fun b o hb q => (u1.2 b hb).trans q) ⟨_, k1⟩ ⟨Nat.zero_le _, [], d, .nil, k1⟩
  exact I1.write (x := a) (e := a) (by rw [upd_ne ne.symm, ha]; exact True.intro) (.inl rfl) (fun b o hb q => (u2.2 b hb).trans q) ⟨_, k2⟩ ⟨oz, out, c, r, k2⟩
end
section
variable {X : Cx} {pins : List (Addr × Obj)} {σ : L2.St} {H Hb : Hp} {s : Shared} {β : Type} {key : β → PyData} {xs : List V} {us : List Value} {bs : List β} {a c0 : Addr} {A' : Around} {fv : Value} {P : PySem.Fin → Shared → Prop} {E : Value → Shared → Prop}
/-- one key -/
def TurnK (X : Cx) (pins : List (Addr × Obj)) (σ : L2.St) (Hb : Hp) (A' : Around) (fv : Value) (key : β → PyData) (xs : List V) (bs : List β) : Prop :=
  ∀ x b, (x, b) ∈ xs.zip bs → ∀ (H1 : Hp) (s1 : Shared) (u : Value), Same Hb H1 → Inv X pins σ H1 s1 → RelV x u → wpAny (model X.prog X.w) A' (call fv [u]) (EP X pins σ fun v H2 => Same H1 H2 ∧ Dp X.K (Nw H1 H2) v (key b)) (fun _ _ => False) s1
theorem vals_at : ∀ {xs : List V} {us : List Value} {j : Nat} {u : Value}, Vals xs us → us[j]? = some u → ∃ x, xs[j]? = some x ∧ RelV x u
  | _ :: _, _ :: _, 0, _, .cons r _, h => ⟨_, rfl, by cases h; exact r⟩
  | _ :: xs, _ :: us, j + 1, u, .cons _ t, h => vals_at (xs := xs) (us := us) (j := j) (u := u) t h
  | [], [], _, _, .nil, h => nomatch h
theorem dpa_snocK {K : PySem.W.Frag} {H : Hp} {ks : List V} {ds : List PyData} {v : V} {d : PyData} (h : DpAll K H ks ds) (hv : Dp K H v d) : DpAll K H (ks ++ [v]) (ds ++ [d]) := dpa_app h (.cons hv .nil)
theorem dpa_zip {K : PySem.W.Frag} {H : Hp} : ∀ {ks : List V} {ds : List PyData} {v : V} {d : PyData}, DpAll K H ks ds → (v, d) ∈ ks.zip ds → Dp K H v d
  | _, _, _, _, .nil, m => nomatch m
  | _, _, _, _, .cons h t, m => by
    rw [List.zip_cons_cons] at m
    rcases List.mem_cons.mp m with e | m
    · cases e; exact h
    · exact dpa_zip t m
theorem each_vals {β : Type} {T : V → β → Prop} : ∀ {us : List Value} {bs : List β}, EachIs (fun u b => ∃ x, RelV x u ∧ T x b) us bs → ∃ xs, Vals xs us ∧ Paired T xs bs
  | _, _, .nil => ⟨[], .nil, .nil⟩
  | _, _, .cons ⟨x, h1, h2⟩ t => by
    obtain ⟨xs, q1, q2⟩ := each_vals t
    exact ⟨x :: xs, .cons h1 q1, .cons h2 q2⟩
set_option maxHeartbeats 1000000 in
theorem restK {e1 : Nat} (I : Inv X pins σ H s) (sb : Same Hb H) (na : Hb a = none) (nc : Hb c0 = none) (hA : H a = some (LsO a (seqObj "list" #[] e1))) (hC : H c0 = some (.lst [])) (ne : c0 ≠ a) (r : Vals xs us) (hl : xs.length = bs.length) (hz : bs.length ≤ 90000)
    (hal : AllAlike (bs.map key)) (hk : PySem.W.Sortable (bs.map key)) (hu : ∀ d ∈ bs.map key, A'.units + d.depth < cLine) (turn : TurnK X pins σ Hb A' fv key xs bs)
    (fin : ∀ (s' : Shared) (H' : Hp) (ys : List V), Inv X pins σ (upd H' a (.lst ys)) s' → Same Hb H' → Paired (fun y c => (y, c) ∈ xs.zip bs) ys (bs.mergeSort (dataLe false key)) → P (.done (.ret .none)) s') :
    wpAny (model X.prog X.w) A' (ksk_rest a fv false us.toArray e1 (.ref c0)) P E s := by
  have ul := r.length
  have lim : sizeLine = 16777216 := by decide
  unfold ksk_rest
  refine wpAny_bind (wpAny_rule ?_)
  first
    | rw [List.forIn_toArray]
    | (rw [← Array.forIn_toList]; simp only [List.toList_toArray])
  refine wpAny_bind (ksk_fold (fun i s' => ∃ H1 ks, Inv X pins σ H1 s' ∧ Same Hb H1 ∧ Dm H H1 ∧ H1 a = some (LsO a (seqObj "list" #[] e1)) ∧ H1 c0 = some (.lst ks) ∧ DpAll X.K (Nw H H1) ks ((bs.take i).map key)) us 0 s ⟨H, [], I, sb, fun _ h => h, hA, hC, .nil⟩ ?_ ?_)
  · rintro j u s' hu' ⟨H1, ks, I1, s1, dm, a1, c1, dk⟩
    simp only [Nat.zero_add] at dk ⊢
    obtain ⟨x, hx, rx⟩ := vals_at r hu'
    have jx : j < xs.length := (List.getElem?_eq_some_iff.mp hx).1
    obtain ⟨b, hb⟩ : ∃ b, bs[j]? = some b := ⟨_, List.getElem?_eq_getElem (by omega)⟩
    have mem : (x, b) ∈ xs.zip bs := List.mem_of_getElem? (i := j) (by rw [List.getElem?_zip_eq_some]; exact ⟨hx, hb⟩)
    have kl : ks.length = j := by
      have := dpa_len dk
      rw [List.length_map, List.length_take] at this
      omega
    refine wpAny_bind (wpAny_attempt (wpAny_mono (turn x b mem H1 s' u s1 I1 rx) (fun v s2 he => ?_) fun _ _ h => h.elim))
    obtain ⟨v', H2, I2, rv, s12, dv⟩ := he
    dsimp only
    have c2 := s12 _ _ c1
    have a2 := s12 _ _ a1
    obtain ⟨z, its, n, rk, _, e2⟩ := I2.lstM c2
    have i16 : its.length ≤ 90000 := by
      have := rk.length
      omega
    refine wpAny_bind (listUpdate_at e2 rfl ?_ (by rw [List.size_toArray]; omega) (by rw [Array.size_push, List.size_toArray]; omega))
    have I3 := I2.lset (its' := its ++ [v]) (f := (·.push v)) (t' := s2.toks) c2 e2 (by simp) (rk.append (.cons rv .nil)) (by rw [List.length_append, List.length_singleton]; omega)
    have d2 : DpAll X.K (Nw H H2) ks ((bs.take j).map key) := dpAll_mono (nw_mono (Same.refl _) s12) dk
    have d3 := dpa_snocK d2 (dp_mono (nw_mono2 dm (Same.refl _)) dv)
    have et : (bs.take (j + 1)).map key = (bs.take j).map key ++ [key b] := by rw [take_snoc hb, List.map_append]; rfl
    refine wpAny_pure ⟨rfl, upd H2 c0 (.lst (ks ++ [v'])), ks ++ [v'], I3, Same.mut (s1.trans s12) nc, fun x hx => ?_, by rw [upd_ne ne.symm]; exact a2, upd_same, ?_⟩
    · by_cases z : x = c0
      · rw [z, upd_same] at hx; cases hx
      · rw [upd_ne z] at hx
        exact dm x (s12.free hx)
    · rw [et]
      exact dpAll_mono (nw_upd hC) d3
  · rintro s' ⟨H1, ks, I1, s1, dm, a1, c1, dk⟩
    have e3 : bs.take (0 + us.length) = bs := List.take_of_length_le (by omega)
    rw [e3] at dk
    obtain ⟨z, its, n, rk, hkl, e2⟩ := I1.lstM c1
    refine wpAny_bind (listItems_at e2 rfl ?_)
    have each : EachIs (fun v d => ∃ as, Reads s'.heap v d as) its.toArray.toList (bs.map key) := by
      rw [List.toList_toArray]
      exact each_pair rk (dpa_len dk) fun y d u m ru => ⟨_, (Dp.reads I1 d y u (dp_mono nw_same (dpa_zip dk m)) ru).choose_spec⟩
    have sz : its.toArray.size = us.length := by
      rw [List.size_toArray]
      have := dpa_len dk
      rw [List.length_map] at this
      omega
    have ea := lsO_at I1 a1
    refine endK e2 ea ne (SortsAt.data (s := s') each hal hk hu) sz (by omega) fun h' tk fl => ?_
    obtain ⟨ys, ry, py⟩ := each_vals (keyedOut_each (rev := false) key ⟨s'.heap, its.toArray.toList, hal, rfl, each⟩ (each_pair (R := fun u b => ∃ x, RelV x u ∧ (x, b) ∈ xs.zip bs) r hl fun x b u m ru => ⟨x, ru, m⟩))
    have yl : ys.length ≤ sizeLine := by
      have := Paired.length py
      rw [List.length_mergeSort] at this
      omega
    exact fin _ _ ys (inv_fill (t' := tk) I1 a1 c1 ne yl ry fl) (Same.mut s1 nc) py
end
/-- sorted(xs, key=f), f a def of the module: xs stand for bs -/
def rSortK (K : PySem.W.Frag) (β : Type) (ff : Addr) (sp : Sp) : List V → List V → Hp → VK → Prop := fun vs zs H Q => ∃ (l : Addr) (xs : List V) (bs : List β) (key : β → PyData), vs = [.ref l] ∧ zs = [.ref ff] ∧ SqL K H l xs ∧ xs.length = bs.length ∧ bs.length ≤ 90000 ∧ AllAlike (bs.map key) ∧ PySem.W.Sortable (bs.map key) ∧ (∀ d ∈ bs.map key, d.depth ≤ 10) ∧
  (∀ x b, (x, b) ∈ xs.zip bs → ∀ (H1 : Hp) (Q' : VK), Same H H1 → (∀ H2 v, Same H1 H2 → Dp K (Nw H1 H2) v (key b) → Q' v H2) → sp [x] H1 Q' E0) ∧
  ∀ H' p ys, Same H H' → H p = none → H' p = some (.lst ys) → Paired (fun y c => (y, c) ∈ xs.zip bs) ys (bs.mergeSort (dataLe false key)) → Q (.ref p) H'
section
variable {X : Cx}
theorem cr_sortK {β : Type} {k : Nat} {ff : Addr} {fd : FuncData} {ps : List Str} {sp : Sp} (F : FnOk X.prog X.w X.K X.mg X.base CX0 k ff fd ps sp) (hr : Room (k + 2) X.A) (hb : Binds X.K fd ps []) : CallRK X (.builtin "sorted") [Str.ofString "key"] (rSortK X.K β ff sp) := by
  intro pins s σ H vs zs us ws Q I r rz h
  obtain ⟨l, xs, bs, key, rfl, rfl, hs, hl, hz, hal, hk, hd, hsp, q⟩ := h
  obtain ⟨u, rfl, ru⟩ := r.one
  obtain ⟨f', rfl, rf⟩ := rz.one
  cases ru
  cases rf
  obtain ⟨its, rv, ht, iz⟩ := I.list hs
  have il := rv.length
  have lim : sizeLine = 16777216 := by decide
  refine sorted_of_sort (vs := its) ht.isList (by omega) (ksk_s1 _ _) (fun _ => ksk_l1 _ _) fun E' => ?_
  show wpAny _ _ (Builtin.«list.sort» ⟨[.ref (s.heap.objs.size + 1)], [(Str.ofString "key", .ref ff)]⟩) _ _ _
  rw [ksk_t1]
  generalize ha : s.heap.objs.size + 1 = a
  have hA0 : (copyHeap s.heap its).get? a = some (seqObj "list" its.toArray 0) := by rw [← ha]; exact copyHeap_at s.heap its
  obtain ⟨e1, hA1⟩ : ∃ e1, ((copyHeap s.heap its).update a (Obj.mapSeq fun _ => (#[] : Array Value))).get? a = some (seqObj "list" #[] e1) := ⟨_, get?_update_seq hA0 fun _ => #[]⟩
  have k1 : ∀ b u, s.heap.get? b = some u → ((copyHeap s.heap its).update a (Obj.mapSeq fun _ => (#[] : Array Value))).get? b = some u := fun b u e => by
    have lt := Heap.lt_size e
    exact ((Heap.SameBut.update (copyHeap s.heap its) a (Obj.mapSeq fun _ => (#[] : Array Value))).2 b (fun z => absurd lt (by rw [z, ← ha]; exact Nat.not_lt.mpr (Nat.le_succ _)))).trans (copyHeap_old e)
  have la : s.heap.objs.size ≤ a := by rw [← ha]; exact Nat.le_succ _
  have na : H a = none := I.hok.fresh la
  have I1 : Inv X pins σ (upd H a (LsO a (seqObj "list" #[] e1))) { s with heap := (copyHeap s.heap its).update a (Obj.mapSeq fun _ => (#[] : Array Value)), toks := s.toks } := I.laid k1 la (lsO_ok hA1)
  unfold ksk_tree
  refine wpAny_bind (listItems_at hA0 rfl ?_)
  refine wpAny_bind (listUpdate_at hA0 rfl ?_ (by rw [List.size_toArray]; omega) (Nat.zero_le _))
  refine wpAny_bind (seqEpoch_at hA1 rfl ?_)
  refine wpAny_bind (wpAny_newTuple ?_ (by show its.length ≤ _; omega))
  refine wpAny_bind (wpAny_newList ?_ (Nat.zero_le _))
  refine wpAny_holding ?_
  have I2 := I1.kept (h' := ((copyHeap s.heap its).update a (Obj.mapSeq fun _ => (#[] : Array Value))).push { cls := .type "tuple", data := .seq its.toArray.toList.toArray }) (t' := s.toks) fun _ _ e => Heap.get?_push_of_some _ e
  have I3 := I2.lnew (its := []) (ys := []) (t' := s.toks) .nil (Nat.zero_le _)
  have fr := I2.fresh
  generalize hc : (((copyHeap s.heap its).update a (Obj.mapSeq fun _ => (#[] : Array Value))).push { cls := .type "tuple", data := .seq its.toArray.toList.toArray }).objs.size = c0 at I3 fr
  have nca : c0 ≠ a := fun z => by
    rw [z, upd_same] at fr
    cases fr
  have nc : H c0 = none := by
    rw [upd_ne nca] at fr
    exact fr
  have sb : Same H (upd (upd H a (LsO a (seqObj "list" #[] e1))) c0 (.lst [])) := (same_new na).trans (same_new fr)
  refine restK (Hb := H) (c0 := c0) (a := a) (key := key) (bs := bs) (xs := xs) I3 sb na nc (by rw [upd_ne nca.symm, upd_same]) upd_same nca rv hl hz hal hk (fun d m => ?_) (fun x b m H1 s1 u sH I4 ru => ?_) fun s' H' ys I4 sH py => ?_
  · have := hd d m
    have := hr.un
    show X.A.units + 1 + 1 + d.depth < _
    omega
  · exact run_at F hr.in1.in1 I4.env0.in1.in1 hb I4 (.cons ru .nil) (hsp x b m H1 _ sH fun H2 v q1 q2 => ⟨q1, q2⟩)
  · exact ⟨rfl, .ref a, _, I4, rfl, q _ a ys (Same.mut sH na) na upd_same py⟩
end
end
/-! ### d.get(k, x), the keys numbers or texts -/
def rGetD : V → List V → Hp → VK → Prop := fun x xs H Q => ∃ (a : Addr) (kvs : List (L2.Key × V)) (k : L2.Key) (d : V), x = .ref a ∧ xs = [kV k, d] ∧ H a = some (.dK kvs) ∧ (∀ v, valV kvs k = some v → Q v H) ∧ (valV kvs k = none → Q d H)
theorem mt_getD {X : Cx} : MtR X "dict.get" rGetD := by
  intro pins s σ H x xs v us Q I rx rxs h
  obtain ⟨a, kvs, k, d, rfl, rfl, ha, q1, q2⟩ := h
  cases rx
  obtain ⟨u1, u2, rfl, r1, r2⟩ := vals2 rxs
  obtain ⟨z, hd, vs, rel, dd⟩ := dk_of I.hok ha
  refine call_meetsIn PySem.F.slot_dict_get dd.typeIs PySem.F.entry_dict_get (PySem.F.args_dict_get_3 _ _ _) (meets_dict_get_default (mixKind X.prog X.w) (k := k) a (kV_is r1) hd u2) ⟨_, Heap.DictOf.mapOf dd, ?_⟩
  have r := rel.val k
  show EP X pins σ Q ((valueAt vs k).getD u2) _
  cases e1 : valV kvs k with
  | none =>
    rw [e1] at r
    cases e2 : valueAt vs k with
    | none => exact ⟨d, H, I.tok _, r2, q2 e1⟩
    | some u => rw [e2] at r; exact (show False from r).elim
  | some v =>
    rw [e1] at r
    cases e2 : valueAt vs k with
    | none => rw [e2] at r; exact (show False from r).elim
    | some u =>
      rw [e2] at r
      exact ⟨v, H, I.tok _, r, q1 v e1⟩
/-! ### what wide situations are sorted by -/
def rkO : Option Int → PyData
  | some c => .tuple [.int 0, .int c]
  | none => .tuple [.int 1, .int 0]
def rkD (r : Wn) : PyData := .tuple [.int r.1, .list (r.2.map rkO)]
def rkV : Option Int → List V
  | some c => [.int 0, .int c]
  | none => [.int 1, .int 0]
section
variable {P : Program} {w : World} {K : PySem.W.Frag} {mg : Str → Option Value} {base : Heap}
theorem rkV_dp {H : Hp} {t : Addr} {o : Option Int} (h : H t = some (.tup (rkV o))) : Dp K H (.ref t) (rkO o) := by
  cases o with
  | none => exact .tup (st h) (.cons (.int _) (.cons (.int _) .nil))
  | some c => exact .tup (st h) (.cons (.int _) (.cons (.int _) .nil))
abbrev s_rank_of_wide : Stmt := topS 14
theorem sc_rank_of_wide : FnScope ["situation", "ranks", "count"] ["situation"] (defScope s_rank_of_wide) := ⟨rfl, rfl, rfl, by decide +kernel, rfl, by decide +kernel, by decide +kernel⟩
-- rank_of_wide slots: situation=0 ranks=1 count=2(None) globals: 
def spRank (K : PySem.W.Frag) : Sp := fun vs H Q _ => ∃ (x : V) (s : Int) (cs : List (Option Int)), vs = [x] ∧ WSit K H x s cs ∧ cs.length ≤ 90000 ∧ ∀ H' p, Same H H' → Dp K (Nw H H') (.ref p) (rkD (s, cs)) → Q (.ref p) H'
set_option maxHeartbeats 2000000 in
theorem fd_rank_of_wide {f : Addr} {fd : FuncData} (F : Fun K "rank_of_wide" "rank_of_wide" s_rank_of_wide f fd) (m : mg "rank_of_wide" = some (.ref f)) : Fd P w K mg base "rank_of_wide" ["situation"] 1 (spRank K) := by
  refine ⟨f, fd, F.ok sc_rank_of_wide (fun vs H Q E h => ?_) (fun cdv A outer s H vs Q E hr h => ?_), m, F.kp, F.binds (ps := ["situation"]) fun _ _ _ _ _ _ us hl => match us, hl with | [_], _ => rfl⟩
  · obtain ⟨x, s, cs, rfl, _⟩ := h
    rfl
  obtain ⟨x, s, cs, rfl, ⟨a, ca, rfl, ha, hca⟩, h9, q⟩ := h
  refine ⟨_, (pss_cons (ps_setLc (i := 1) (own := [("count", 2)]) (g := gName 2) (by rfl) sc_rank_of_wide.nd rfl rfl (sw_true rfl rfl rfl (by decide +kernel)) (piL K (pe_ix (ixT K) (pv 0) pe_int (fun _ _ => rfl))) (blkOk_by (own := [("count", 2)]) (N := ["situation", "ranks", "count"]) (sc := (defScope s_rank_of_wide)) (by decide +kernel)) (fun _ _ _ _ _ => (pg_name (i := 2) sc_rank_of_wide.nd rfl (Or.inl rfl))) (fun _ _ _ _ _ => pts_nil) (fun _ _ _ _ _ => (pe_ifExp (pt_cmpR op_notN (pv 2) pe_non (nomark _)) (pe_tup (pa_cons pe_int (pa_cons (pv 2) pa_nil))) (pe_tup (pa_cons pe_int (pa_cons pe_int pa_nil))))))
 (pss_one (ps_ret (pe_tup (pa_cons (pe_ix (ixT K) (pv 0) pe_int (fun _ _ => rfl)) (pa_cons (pv 1) pa_nil)))))), ?_⟩
  refine ⟨_, rfl, _, _, _, _, rfl, rfl, ha, atI_nat (j := 1) rfl, ca, rfl, ⟨_, hca⟩, fun D nD => lc_list (xs := cs.map oV) (fun i H' => Same H H' ∧ ∃ vs, H' D = some (.lst vs) ∧ DpAll K (Nw (upd H D (.lst [])) H') vs ((cs.take i).map rkO)) ⟨same_new nD, [], upd_same, .nil⟩ (fun _ H' _ h => h.1.seq hca) ?_ ?_⟩
  · rintro i u H' hu ⟨sm, vs, eD, dv⟩
    obtain ⟨c, hc, rfl⟩ := get_map_inv hu
    have il : i < cs.length := (List.getElem?_eq_some_iff.mp hc).1
    have vl : vs.length ≤ 90000 := by
      have := dpa_len dv
      rw [List.length_map, List.length_take] at this
      omega
    have et : (cs.take (i + 1)).map rkO = (cs.take i).map rkO ++ [rkO c] := by rw [take_snoc hc, List.map_append]; rfl
    refine ⟨rfl, ?_⟩
    have fin : ∀ t, H' t = none → ∃ acc, (upd H' t (.tup (rkV c))) D = some (.lst acc) ∧ acc.length < sizeLine ∧ Same H (upd (upd H' t (.tup (rkV c))) D (.lst (acc ++ [.ref t]))) ∧ ∃ vs, (upd (upd H' t (.tup (rkV c))) D (.lst (acc ++ [.ref t]))) D = some (.lst vs) ∧ DpAll K (Nw (upd H D (.lst [])) (upd (upd H' t (.tup (rkV c))) D (.lst (acc ++ [.ref t])))) vs ((cs.take (i + 1)).map rkO) := fun t nt => by
      have sT := same_new (o := HO.tup (rkV c)) nt
      have tD : t ≠ D := fun z => by rw [z, eD] at nt; cases nt
      have nH : upd H D (.lst []) t = none := by rw [upd_ne tD]; exact sm.free nt
      refine ⟨vs, sT _ _ eD, szl (by omega), Same.mut (sm.trans sT) nD, _, upd_same, ?_⟩
      rw [et]
      refine dpa_app (dpAll_mono ((nw_mono (Same.refl _) sT).trans (nw_upd upd_same)) dv) (.cons (rkV_dp ?_) .nil)
      rw [nw_at nH, upd_ne tD, upd_same]
    cases c with
    | none => exact ⟨_, rfl, rfl, _, rfl, iteFx rfl ⟨szc 2, fun t nt => fin t nt⟩⟩
    | some c => exact ⟨_, rfl, rfl, _, rfl, iteTx rfl ⟨_, rfl, szc 2, fun t nt => fin t nt⟩⟩
  · rintro H' ⟨sm, vs, eD, dv⟩
    rw [List.length_map, List.take_length] at dv
    dsimp only [gName]
    refine ⟨_, rfl, _, _, _, _, rfl, rfl, Same.seqT sm ha, atI_nat (j := 0) rfl, _, rfl, szc 2, fun p np => ?_⟩
    have sp := same_new (o := HO.tup [V.int s, V.ref D]) np
    refine q _ p (sm.trans sp) (.tup (st (by rw [nw_at (sm.free np), upd_same])) (.cons (.int _) (.cons (.lst (sq (by rw [nw_at nD]; exact sp _ _ eD)) (dpAll_mono (nw_mono (same_new nD) sp) dv)) .nil)))
end
/-! ### the floor: paths of numbers -/
abbrev Prs := List (Int × Int)
def flatP : Prs → List Int
  | [] => []
  | x :: r => x.1 :: x.2 :: flatP r
theorem flatP_app : ∀ a b : Prs, flatP (a ++ b) = flatP a ++ flatP b
  | [], _ => rfl
  | x :: r, b => by
    show x.1 :: x.2 :: flatP (r ++ b) = _
    rw [flatP_app r b]
    rfl
theorem flatP_len : ∀ a : Prs, (flatP a).length = 2 * a.length
  | [] => rfl
  | x :: r => by
    show (flatP r).length + 1 + 1 = 2 * (r.length + 1)
    rw [flatP_len r]
    omega
theorem flatP_pre : ∀ {a b : Prs} {t : List Int}, flatP b = flatP a ++ t → ∃ c, b = a ++ c
  | [], b, _, _ => ⟨b, rfl⟩
  | x :: r, [], t, h => by cases h
  | x :: r, y :: b, t, h => by
    have h : y.1 :: y.2 :: flatP b = x.1 :: x.2 :: (flatP r ++ t) := h
    injection h with h1 h
    injection h with h2 h
    obtain ⟨c, e⟩ := flatP_pre h
    exact ⟨c, by rw [e, show y = x from Prod.ext h1 h2]; rfl⟩
/-- pairs that meet needs, in order -/
def SubP : Prs → Prs → Prop
  | [], ks => ks = []
  | x :: r, ks => ks = [] ∨ (∃ n k', ks = (x.1, n) :: k' ∧ n ≤ x.2 ∧ SubP r k') ∨ SubP r ks
theorem subP_nil : ∀ a : Prs, SubP a []
  | [] => rfl
  | _ :: _ => .inl rfl
theorem subP_self : ∀ a : Prs, SubP a a
  | [] => rfl
  | x :: r => .inr (.inl ⟨x.2, r, rfl, Int.le_refl _, subP_self r⟩)
theorem subP_app : ∀ {a b c : Prs}, SubP a (b ++ c) → SubP a b
  | [], b, c, h => (List.append_eq_nil_iff.mp h).1
  | x :: r, b, c, h => by
    rcases h with h | ⟨n, k', e, hn, h⟩ | h
    · exact .inl (List.append_eq_nil_iff.mp h).1
    · cases b with
      | nil => exact .inl rfl
      | cons y b =>
        injection e with e1 e2
        subst e1
        rw [← e2] at h
        exact .inr (.inl ⟨n, b, rfl, hn, subP_app h⟩)
    · exact .inr (.inr (subP_app h))
theorem subP_take (a : Prs) (j : Nat) : SubP a (a.take j) := subP_app (c := a.drop j) (by rw [List.take_append_drop]; exact subP_self a)
/-- a tree of dicts: where the dict at the end of a path stands -/
abbrev Tri := List Int → Option Addr
def EndF (F : Tri) (p : List Int) : Prop := F p ≠ none ∧ ∀ k, F (p ++ [k]) = none
def MtT (F : Tri) : Prs → List Int → Prop
  | [], _ => False
  | x :: r, p => (∃ n, n ≤ x.2 ∧ F (p ++ [x.1, n]) ≠ none ∧ (EndF F (p ++ [x.1, n]) ∨ MtT F r (p ++ [x.1, n]))) ∨ MtT F r p
structure WfT (F : Tri) : Prop where
  root : F [] ≠ none
  clo : ∀ p k, F (p ++ [k]) ≠ none → F p ≠ none
  inj : ∀ p q a, F p = some a → F q = some a → p = q
theorem WfT.clo2 {F : Tri} (h : WfT F) : ∀ (t p : List Int), F (p ++ t) ≠ none → F p ≠ none
  | [], p, e => by rw [List.append_nil] at e; exact e
  | k :: t, p, e => by
    refine h.clo p k (h.clo2 t (p ++ [k]) ?_)
    rw [List.append_assoc]
    exact e
theorem WfT.pre {F : Tri} (h : WfT F) {p q : List Int} (hp : p <+: q) (e : F q ≠ none) : F p ≠ none := by
  obtain ⟨t, rfl⟩ := hp
  exact h.clo2 t p e
theorem mt_iff {F : Tri} (w : WfT F) : ∀ (ps : Prs) (p : List Int), (EndF F p ∨ MtT F ps p) ↔ ∃ ks, EndF F (p ++ flatP ks) ∧ SubP ps ks
  | [], p => by
    constructor
    · rintro (h | h)
      · exact ⟨[], by rw [show flatP [] = [] from rfl, List.append_nil]; exact h, rfl⟩
      · exact h.elim
    · rintro ⟨ks, h, hs⟩
      obtain rfl : ks = [] := hs
      rw [show flatP [] = [] from rfl, List.append_nil] at h
      exact .inl h
  | x :: r, p => by
    constructor
    · rintro (h | ⟨n, hn, _, h⟩ | h)
      · exact ⟨[], by rw [show flatP [] = [] from rfl, List.append_nil]; exact h, .inl rfl⟩
      · obtain ⟨ks, h1, h2⟩ := (mt_iff w r (p ++ [x.1, n])).mp h
        refine ⟨(x.1, n) :: ks, ?_, .inr (.inl ⟨n, ks, rfl, hn, h2⟩)⟩
        rw [List.append_assoc] at h1
        exact h1
      · obtain ⟨ks, h1, h2⟩ := (mt_iff w r p).mp (.inr h)
        exact ⟨ks, h1, .inr (.inr h2)⟩
    · rintro ⟨ks, h, hs⟩
      rcases hs with rfl | ⟨n, k', rfl, hn, hs⟩ | hs
      · rw [show flatP [] = [] from rfl, List.append_nil] at h
        exact .inl h
      · have e : p ++ flatP ((x.1, n) :: k') = (p ++ [x.1, n]) ++ flatP k' := by
          rw [List.append_assoc]
          rfl
        rw [e] at h
        exact .inr (.inl ⟨n, hn, w.clo2 _ _ h.1, (mt_iff w r _).mpr ⟨k', h, hs⟩⟩)
      · rcases (mt_iff w r p).mpr ⟨ks, h, hs⟩ with h | h
        · exact .inl h
        · exact .inr (.inr h)
/-- a packed situation that is above something that is kept -/
def Und (F : Tri) (x : Int × Prs) : Prop := F [x.1] ≠ none ∧ (EndF F [x.1] ∨ MtT F x.2 [x.1])
theorem und_iff {F : Tri} (w : WfT F) (x : Int × Prs) : Und F x ↔ ∃ ks, EndF F (x.1 :: flatP ks) ∧ SubP x.2 ks := by
  have h := mt_iff w x.2 [x.1]
  constructor
  · rintro ⟨_, u⟩
    exact h.mp u
  · intro u
    refine ⟨?_, h.mpr u⟩
    obtain ⟨ks, e, _⟩ := u
    exact w.clo2 (flatP ks) [x.1] e.1
/-! ### keeping one more -/
def addF (F : Tri) (p : List Int) (a : Addr) : Tri := fun q => if q = p then some a else F q
def finF (F : Tri) (p : List Int) (a : Addr) : Tri := fun q => if q = p then some a else if p <+: q then none else F q
theorem snoc_ne {p : List Int} {k : Int} : p ++ [k] ≠ p := fun e => by
  have := congrArg List.length e
  rw [List.length_append] at this
  simp at this
theorem snoc_inj {p q : List Int} {k j : Int} (e : p ++ [k] = q ++ [j]) : p = q ∧ k = j := by
  obtain ⟨h1, h2⟩ := List.append_inj' e rfl
  injection h2 with h2
  exact ⟨h1, h2⟩
theorem snoc_nil {p : List Int} {k : Int} : p ++ [k] ≠ [] := by simp
theorem WfT.add {F : Tri} (w : WfT F) {p : List Int} {k : Int} {a : Addr} (hp : F p ≠ none) (hn : ∀ q, F q ≠ some a) : WfT (addF F (p ++ [k]) a) := by
  refine ⟨?_, fun q j h => ?_, fun q r b h1 h2 => ?_⟩
  · unfold addF
    rw [if_neg fun e => snoc_nil e.symm]
    exact w.root
  · unfold addF at h ⊢
    by_cases e : q = p ++ [k]
    · rw [if_pos e]
      exact fun z => nomatch z
    · rw [if_neg e]
      by_cases e2 : q ++ [j] = p ++ [k]
      · rw [(snoc_inj e2).1]
        exact hp
      · rw [if_neg e2] at h
        exact w.clo q j h
  · unfold addF at h1 h2
    by_cases e : q = p ++ [k]
    · by_cases e2 : r = p ++ [k]
      · rw [e, e2]
      · rw [if_pos e] at h1
        rw [if_neg e2] at h2
        cases h1
        exact absurd h2 (hn r)
    · by_cases e2 : r = p ++ [k]
      · rw [if_pos e2] at h2
        rw [if_neg e] at h1
        cases h2
        exact absurd h1 (hn q)
      · rw [if_neg e] at h1
        rw [if_neg e2] at h2
        exact w.inj q r b h1 h2
theorem pre_snoc {p q : List Int} {k : Int} (h : p <+: q ++ [k]) : p = q ++ [k] ∨ p <+: q := by
  rcases List.prefix_concat_iff.mp (by simpa using h) with h | h
  · exact .inl (by simpa using h)
  · exact .inr h
theorem WfT.fin {F : Tri} (w : WfT F) {p : List Int} {k : Int} {a : Addr} (hp : F p ≠ none) (hn : ∀ q, F q ≠ some a) : WfT (finF F (p ++ [k]) a) := by
  refine ⟨?_, fun q j h => ?_, fun q r b h1 h2 => ?_⟩
  · unfold finF
    rw [if_neg fun e => snoc_nil e.symm, if_neg fun e => snoc_nil (List.prefix_nil.mp e)]
    exact w.root
  · unfold finF at h ⊢
    by_cases e : q = p ++ [k]
    · rw [if_pos e]
      exact fun z => nomatch z
    · rw [if_neg e]
      by_cases e2 : q ++ [j] = p ++ [k]
      · obtain ⟨rfl, rfl⟩ := snoc_inj e2
        rw [if_neg fun z => by have := z.length_le; rw [List.length_append, List.length_singleton] at this; omega]
        exact hp
      · rw [if_neg e2] at h
        by_cases e3 : p ++ [k] <+: q
        · rw [if_pos (e3.trans (List.prefix_append _ _))] at h
          exact absurd rfl h
        · rw [if_neg e3]
          by_cases e4 : p ++ [k] <+: q ++ [j]
          · rw [if_pos e4] at h
            exact absurd rfl h
          · rw [if_neg e4] at h
            exact w.clo q j h
  · have out : ∀ {x : List Int} {b : Addr}, finF F (p ++ [k]) a x = some b → (x = p ++ [k] ∧ b = a) ∨ (x ≠ p ++ [k] ∧ F x = some b) := fun {x b} h => by
      unfold finF at h
      by_cases e : x = p ++ [k]
      · rw [if_pos e] at h
        cases h
        exact .inl ⟨e, rfl⟩
      · rw [if_neg e] at h
        by_cases e3 : p ++ [k] <+: x
        · rw [if_pos e3] at h
          cases h
        · rw [if_neg e3] at h
          exact .inr ⟨e, h⟩
    rcases out h1 with ⟨z1, z2⟩ | ⟨z1, z2⟩
    · rcases out h2 with ⟨y1, y2⟩ | ⟨y1, y2⟩
      · rw [z1, y1]
      · rw [z2] at y2
        exact absurd y2 (hn r)
    · rcases out h2 with ⟨y1, y2⟩ | ⟨y1, y2⟩
      · rw [y2] at z2
        exact absurd z2 (hn q)
      · exact w.inj q r b z2 y2
/-- what holds while a way is laid: nothing but the way is new -/
structure Way (F G : Tri) (h : List Int) : Prop where
  wf : WfT G
  old : ∀ q, F q ≠ none → G q = F q
  new : ∀ q, G q ≠ none → F q ≠ none ∨ q <+: h
  at' : G h ≠ none
theorem odd_ne {s s' : Int} {ks js : Prs} {k : Int} : s :: flatP ks ≠ (s' :: flatP js) ++ [k] := fun e => by
  have := congrArg List.length e
  rw [List.length_append, List.length_cons, List.length_cons, flatP_len, flatP_len] at this
  simp at this
  omega
theorem end_fin {F G : Tri} {h : List Int} {k s : Int} {prs : Prs} {a : Addr} (wf : WfT F) (w : Way F G h) (e : h ++ [k] = s :: flatP prs) (nu : ¬ Und F (s, prs)) (s' : Int) (ks : Prs) :
    EndF (finF G (h ++ [k]) a) (s' :: flatP ks) ↔ (s' :: flatP ks = s :: flatP prs ∨ (EndF F (s' :: flatP ks) ∧ ¬ s :: flatP prs <+: s' :: flatP ks)) := by
  have odd : ∀ j, (s' :: flatP ks) ++ [j] ≠ h ++ [k] := fun j z => by
    rw [e] at z
    exact odd_ne z.symm
  rw [← e]
  by_cases e1 : s' :: flatP ks = h ++ [k]
  · refine ⟨fun _ => .inl e1, fun _ => ⟨?_, fun j => ?_⟩⟩
    · unfold finF
      rw [if_pos e1]
      exact fun z => nomatch z
    · unfold finF
      rw [if_neg (odd j), if_pos (by rw [e1]; exact List.prefix_append _ _)]
  · by_cases e2 : h ++ [k] <+: s' :: flatP ks
    · constructor
      · rintro ⟨h1, _⟩
        unfold finF at h1
        rw [if_neg e1, if_pos e2] at h1
        exact absurd rfl h1
      · rintro (z | ⟨_, z⟩)
        · exact absurd z e1
        · exact absurd e2 z
    · have at1 : finF G (h ++ [k]) a (s' :: flatP ks) = G (s' :: flatP ks) := by
        unfold finF
        rw [if_neg e1, if_neg e2]
      have at2 : ∀ j, finF G (h ++ [k]) a ((s' :: flatP ks) ++ [j]) = G ((s' :: flatP ks) ++ [j]) := fun j => by
        unfold finF
        rw [if_neg (odd j), if_neg fun z => ?_]
        rcases pre_snoc z with z | z
        · exact odd j z.symm
        · exact e2 z
      have pfx : s' :: flatP ks <+: h → ∃ j, (s' :: flatP ks) ++ [j] <+: h := fun ⟨t, ht⟩ => by
        cases t with
        | nil =>
          rw [List.append_nil] at ht
          rw [← ht] at e
          exact absurd e.symm odd_ne
        | cons j t => exact ⟨j, t, by rw [← ht, List.append_assoc]; rfl⟩
      constructor
      · rintro ⟨h1, h2⟩
        rw [at1] at h1
        refine .inr ⟨?_, e2⟩
        rcases w.new _ h1 with h3 | h3
        · refine ⟨h3, fun j => ?_⟩
          have h4 := h2 j
          rw [at2] at h4
          cases h5 : F ((s' :: flatP ks) ++ [j]) with
          | none => rfl
          | some b =>
            have := w.old _ (show F ((s' :: flatP ks) ++ [j]) ≠ none by rw [h5]; exact fun z => nomatch z)
            rw [h4, h5] at this
            cases this
        · obtain ⟨j, hj⟩ := pfx h3
          have h4 := h2 j
          rw [at2] at h4
          exact absurd h4 (w.wf.pre hj w.at')
      · rintro (z | ⟨⟨h1, h2⟩, _⟩)
        · exact absurd z e1
        · refine ⟨by rw [at1, w.old _ h1]; exact h1, fun j => ?_⟩
          rw [at2]
          cases h5 : G ((s' :: flatP ks) ++ [j]) with
          | none => rfl
          | some b =>
            exfalso
            rcases w.new _ (show G ((s' :: flatP ks) ++ [j]) ≠ none by rw [h5]; exact fun z => nomatch z) with h6 | h6
            · exact h6 (h2 j)
            · refine nu ((und_iff wf _).mpr ?_)
              obtain ⟨t, ht⟩ := ((List.prefix_append _ [j]).trans h6).trans (List.prefix_append h [k])
              rw [e] at ht
              injection ht with hs ht
              obtain ⟨c, hc⟩ := flatP_pre ht.symm
              refine ⟨ks, ?_, subP_app (c := c) (by rw [← hc]; exact subP_self _)⟩
              rw [← hs]
              exact ⟨h1, h2⟩
theorem und_fin {F G : Tri} {h : List Int} {k s : Int} {prs : Prs} {a : Addr} (wf : WfT F) (w : Way F G h) (hn : ∀ q, G q ≠ some a) (e : h ++ [k] = s :: flatP prs) (nu : ¬ Und F (s, prs)) (x : Int × Prs) :
    Und (finF G (h ++ [k]) a) x ↔ Und F x ∨ (x.1 = s ∧ SubP x.2 prs) := by
  rw [und_iff (w.wf.fin w.at' hn), und_iff wf]
  constructor
  · rintro ⟨ks, h1, h2⟩
    rcases (end_fin wf w e nu x.1 ks).mp h1 with h3 | ⟨h3, _⟩
    · injection h3 with h4 h5
      obtain ⟨c, rfl⟩ := flatP_pre (a := prs) (b := ks) (t := []) (by rw [h5, List.append_nil])
      exact .inr ⟨h4, subP_app h2⟩
    · exact .inl ⟨ks, h3, h2⟩
  · rintro (⟨ks, h1, h2⟩ | ⟨h1, h2⟩)
    · by_cases h3 : s :: flatP prs <+: x.1 :: flatP ks
      · obtain ⟨t, ht⟩ := h3
        injection ht with hs ht
        obtain ⟨c, rfl⟩ := flatP_pre ht.symm
        exact ⟨prs, (end_fin wf w e nu x.1 prs).mpr (.inl (by rw [hs])), subP_app h2⟩
      · exact ⟨ks, (end_fin wf w e nu x.1 ks).mpr (.inr ⟨h1, h3⟩), h2⟩
    · exact ⟨prs, (end_fin wf w e nu x.1 prs).mpr (.inl (by rw [h1])), h2⟩
/-! ### the packed form -/
def pkL : Nat → List Int → Prs
  | _, [] => []
  | n, c :: r => if 0 < c then ((n : Int), c) :: pkL (n + 1) r else pkL (n + 1) r
theorem pkL_cons (n : Nat) (c : Int) (r : List Int) : pkL n (c :: r) = if 0 < c then ((n : Int), c) :: pkL (n + 1) r else pkL (n + 1) r := rfl
theorem pkL_ge : ∀ (n : Nat) (cs : List Int) (x : Int × Int), x ∈ pkL n cs → (n : Int) ≤ x.1
  | _, [], _, h => by cases h
  | n, c :: r, x, h => by
    unfold pkL at h
    by_cases hc : 0 < c
    · rw [if_pos hc] at h
      rcases List.mem_cons.mp h with rfl | h
      · exact Int.le_refl _
      · have := pkL_ge (n + 1) r x h
        omega
    · rw [if_neg hc] at h
      have := pkL_ge (n + 1) r x h
      omega
theorem subP_mem : ∀ {a ks : Prs}, SubP a ks → ∀ x ∈ ks, ∃ y ∈ a, y.1 = x.1
  | [], ks, h, x, hx => by
    obtain rfl : ks = [] := h
    cases hx
  | y :: r, ks, h, x, hx => by
    rcases h with rfl | ⟨n, k', rfl, _, h⟩ | h
    · cases hx
    · rcases List.mem_cons.mp hx with rfl | hx
      · exact ⟨y, List.mem_cons_self, rfl⟩
      · obtain ⟨z, hz, e⟩ := subP_mem h x hx
        exact ⟨z, List.mem_cons_of_mem _ hz, e⟩
    · obtain ⟨z, hz, e⟩ := subP_mem h x hx
      exact ⟨z, List.mem_cons_of_mem _ hz, e⟩
theorem subP_pk : ∀ (n : Nat) (xs ys : List Int), xs.length = ys.length → (∀ x ∈ xs, 0 ≤ x) → (∀ y ∈ ys, 0 ≤ y) → (SubP (pkL n xs) (pkL n ys) ↔ geAll xs ys = true)
  | n, [], [], _, _, _ => ⟨fun _ => rfl, fun _ => rfl⟩
  | n, [], y :: ys, h, _, _ => by cases h
  | n, x :: xs, [], h, _, _ => by cases h
  | n, x :: xs, y :: ys, h, hx, hy => by
    have ih := subP_pk (n + 1) xs ys (Nat.succ.inj h) (fun z hz => hx z (List.mem_cons_of_mem _ hz)) (fun z hz => hy z (List.mem_cons_of_mem _ hz))
    have x0 := hx x List.mem_cons_self
    have y0 := hy y List.mem_cons_self
    have no : ∀ (c : Int) (k' : Prs), ¬ SubP (pkL (n + 1) xs) (((n : Int), c) :: k') := fun c k' z => by
      obtain ⟨w, hw, e⟩ := subP_mem z _ List.mem_cons_self
      have := pkL_ge (n + 1) xs w hw
      have e : w.1 = (n : Int) := e
      omega
    rw [show (geAll (x :: xs) (y :: ys) = true) ↔ (y ≤ x ∧ geAll xs ys = true) by rw [show geAll (x :: xs) (y :: ys) = (decide (y ≤ x) && geAll xs ys) from rfl, Bool.and_eq_true, decide_eq_true_iff], ← ih, pkL_cons, pkL_cons]
    by_cases py : 0 < y
    · rw [if_pos py]
      by_cases px : 0 < x
      · rw [if_pos px]
        constructor
        · rintro (z | ⟨m, k', z, hm, hs⟩ | z)
          · cases z
          · injection z with z1 z2
            injection z1 with _ z1
            subst z1 z2
            exact ⟨hm, hs⟩
          · exact absurd z (no _ _)
        · rintro ⟨h1, h2⟩
          exact .inr (.inl ⟨y, _, rfl, h1, h2⟩)
      · rw [if_neg px]
        exact ⟨fun z => absurd z (no _ _), fun z => absurd z.1 (by omega)⟩
    · rw [if_neg py]
      have ey : y ≤ x := by omega
      by_cases px : 0 < x
      · rw [if_pos px]
        constructor
        · rintro (z | ⟨m, k', z, _, _⟩ | z)
          · rw [z]
            exact ⟨ey, subP_nil _⟩
          · have : (((n : Int), m) : Int × Int) ∈ pkL (n + 1) ys := by rw [z]; exact List.mem_cons_self
            have := pkL_ge (n + 1) ys _ this
            simp at this
            omega
          · exact ⟨ey, z⟩
        · rintro ⟨_, z⟩
          exact .inr (.inr z)
      · rw [if_neg px]
        exact ⟨fun z => ⟨ey, z⟩, fun z => z.2⟩
theorem pkL_inj : ∀ (n : Nat) (xs ys : List Int), xs.length = ys.length → (∀ x ∈ xs, 0 ≤ x) → (∀ y ∈ ys, 0 ≤ y) → pkL n xs = pkL n ys → xs = ys := fun n xs ys hl hx hy e => by
  have h1 := (subP_pk n xs ys hl hx hy).mp (by rw [e]; exact subP_self _)
  have h2 := (subP_pk n ys xs hl.symm hy hx).mp (by rw [e]; exact subP_self _)
  clear e hx hy
  induction xs generalizing ys with
  | nil => cases ys with | nil => rfl | cons y ys => cases hl
  | cons x xs ih => cases ys with
    | nil => cases hl
    | cons y ys =>
      have h1 : (decide (y ≤ x) && geAll xs ys) = true := h1
      have h2 : (decide (x ≤ y) && geAll ys xs) = true := h2
      rw [Bool.and_eq_true, decide_eq_true_iff] at h1 h2
      obtain ⟨a1, b1⟩ := h1
      obtain ⟨a2, b2⟩ := h2
      rw [ih ys (Nat.succ.inj hl) b1 b2, show x = y by omega]
/-! ### d.setdefault(k, x), the keys numbers or texts -/
def rSetDef : V → List V → Hp → VK → Prop := fun x xs H Q => ∃ (a : Addr) (kvs : List (L2.Key × V)) (k : L2.Key) (d : V), x = .ref a ∧ xs = [kV k, d] ∧ H a = some (.dK kvs) ∧ kvs.length < sizeLine ∧
  (∀ v, valV kvs k = some v → Q v H) ∧ (valV kvs k = none → Q d (upd H a (.dK (kvs ++ [(k, d)]))))
theorem mt_setdef {X : Cx} : MtR X "dict.setdefault" rSetDef := by
  intro pins s σ H x xs v us Q I rx rxs h
  obtain ⟨a, kvs, k, d, rfl, rfl, ha, hl, q1, q2⟩ := h
  cases rx
  obtain ⟨u1, u2, rfl, r1, r2⟩ := vals2 rxs
  obtain ⟨z, hd, vs, rel, dd⟩ := dk_of I.hok ha
  refine call_meetsIn PySem.F.slot_dict_setdefault dd.typeIs PySem.F.entry_dict_setdefault (PySem.F.args_dict_setdefault_3 _ _ _) (kt_meets_setdefault (mixKind X.prog X.w) (k := k) a (kV_is r1) hd u2)
    ⟨vs, dd, by rw [← rel.length]; exact z, fun v hv => ?_, fun hn h' dd' hs => ?_⟩
  · have r := rel.val k
    rw [hv] at r
    show EP X pins σ Q v _
    cases ev : valV kvs k with
    | none =>
      rw [ev] at r
      exact (show False from r).elim
    | some v0 =>
      rw [ev] at r
      exact ⟨v0, H, I.tok _, r, q1 v0 ev⟩
  · have r := rel.val k
    rw [hn] at r
    have ev : valV kvs k = none := by
      cases ev : valV kvs k with
      | none => rfl
      | some v0 =>
        rw [ev] at r
        exact (show False from r).elim
    have rr := rel.put k (y := d) (u := u2) r2
    rw [putK_new d ev] at rr
    have he : ∃ q, h'.get? a = some q := let ⟨q, _, _, hq, _⟩ := dd'; ⟨q, hq⟩
    have I2 : Inv X pins σ (upd H a (.dK (kvs ++ [(k, d)]))) { s with heap := h', toks := s.toks + 1 } :=
      d_write I (by rw [ha]; exact True.intro) hs he (dk_new (by rw [List.length_append, List.length_singleton]; omega) hd rr dd')
    show EP X pins σ Q u2 _
    exact ⟨d, _, I2, r2, q2 ev⟩
theorem valV_mem {κ : Type} [DecidableEq κ] {k : κ} {v : V} : ∀ {kvs : List (κ × V)}, valV kvs k = some v → (k, v) ∈ kvs
  | [], h => nomatch h
  | p :: r, h => by
    by_cases e : p.1 = k
    · rw [valV_pos e] at h
      cases h
      rw [← e]
      exact List.mem_cons_self
    · rw [valV_neg e] at h
      exact List.mem_cons_of_mem _ (valV_mem h)
theorem mem_valV {κ : Type} [DecidableEq κ] {k : κ} {v : V} : ∀ {kvs : List (κ × V)}, (kvs.map (·.1)).Nodup → (k, v) ∈ kvs → valV kvs k = some v
  | [], _, h => by cases h
  | p :: r, hn, h => by
    obtain ⟨h1, h2⟩ := List.nodup_cons.mp hn
    rcases List.mem_cons.mp h with e | h
    · rw [← e]
      exact valV_pos rfl
    · have e : ¬ p.1 = k := fun z => h1 (by show p.1 ∈ _; rw [z]; exact List.mem_map.mpr ⟨_, h, rfl⟩)
      rw [valV_neg e]
      exact mem_valV h2 h
/-- the items of a locked dict, each in a new pair -/
theorem for_items {d : Addr} {o : Obj} {kvs : List (L2.Key × V)} {g : TG} {tb : TS} {D : Ends} {σ : L2.St} {H : Hp} (Pv : Nat → L2.St → Hp → Prop) (h0 : Pv 0 σ H) (hl : ∀ i σ H, i ≤ kvs.length → Pv i σ H → H d = some (.frz o (.dK kvs)))
    (hs : ∀ i k v T σ H, kvs[i]? = some (k, v) → Pv i σ H → H T = none → g (.ref T) σ (upd H T (.tup [kV k, v])) fun σ2 H2 => tb { D with nx := Pv (i + 1), ct := Pv (i + 1), bk := D.nx } σ2 H2) (hd : ∀ σ H, Pv kvs.length σ H → D.nx σ H) :
    ∃ W : Nat → Nat → L2.St → Hp → Prop, (∃ m, W 0 m σ H) ∧ ∀ i m σ H, W i m σ H →
      ((Iti d o kvs).stop i H ∧ D.nx σ H) ∨ ((Iti d o kvs).go i H ∧ ∃ N : L2.St → Hp → Prop, (∀ σ' H', N σ' H' → ∃ m', m' < m ∧ W (i + 1) m' σ' H') ∧ ∀ x H', (Iti d o kvs).yld i H x H' → g x σ H' fun σ2 H2 => tb { D with nx := N, ct := N, bk := D.nx } σ2 H2) := by
  refine ⟨fun i m σ H => m = kvs.length - i ∧ i ≤ kvs.length ∧ Pv i σ H, ⟨kvs.length, by simp, Nat.zero_le _, h0⟩, ?_⟩
  rintro i m σ H ⟨rfl, hi, p⟩
  have q := hl i σ H hi p
  by_cases hlt : i < kvs.length
  · refine .inr ⟨⟨q, hlt⟩, Pv (i + 1), fun σ' H' p' => ⟨kvs.length - (i + 1), by omega, rfl, hlt, p'⟩, fun x H' y => ?_⟩
    obtain ⟨T, k, v, e1, rfl, nT, rfl⟩ := y
    exact hs i k v T σ H e1 p nT
  · have e : i = kvs.length := by omega
    subst e
    exact .inl ⟨⟨q, Nat.le_refl _⟩, hd σ H p⟩
theorem same_unlock {H H1 H2 : Hp} {b : Addr} {od : Obj} {u : HO} (s1 : Same H H1) (e : H1 b = some u) (s2 : Same (upd H1 b (.frz od u)) H2) : Same H (upd H2 b u) := fun c o h => by
  by_cases z : c = b
  · subst z
    rw [upd_same]
    exact (e.symm.trans (s1 _ _ h))
  · rw [upd_ne z]
    refine s2 _ _ ?_
    rw [upd_ne z]
    exact s1 _ _ h
theorem drop_hd {α : Type} {l : List α} {i : Nat} {x : α} (h : l[i]? = some x) : l.drop i = x :: l.drop (i + 1) := by
  obtain ⟨lt, e⟩ := List.getElem?_eq_some_iff.mp h
  rw [List.drop_eq_getElem_cons lt, e]
/-- lists and tuples stand as before -/
def MuO : HO → Prop
  | .dK _ => True
  | .ins _ _ _ => True
  | .ext _ => True
  | .frz _ u => MuO u
  | _ => False
def SameQ (H H' : Hp) : Prop := ∀ a o, H a = some o → ¬ MuO o → H' a = some o
theorem SameQ.rd {H H' : Hp} {a : Addr} {u : HO} (e : SameQ H H') (hu : ¬ MuO u) (h : Rd H a u) : Rd H' a u := by
  rcases h with h | ⟨o, h⟩
  · exact .inl (e _ _ h hu)
  · exact .inr ⟨o, e _ _ h hu⟩
theorem SameQ.sqL {K : PySem.W.Frag} {H H' : Hp} {a : Addr} {xs : List V} (e : SameQ H H') (h : SqL K H a xs) : SqL K H' a xs := by
  rcases h with h | h
  · exact .inl (e.rd (fun z => z) h)
  · exact .inr h
theorem SameQ.sqT {K : PySem.W.Frag} {H H' : Hp} {a : Addr} {xs : List V} (e : SameQ H H') (h : SqT K H a xs) : SqT K H' a xs := by
  rcases h with h | h
  · exact .inl (e.rd (fun z => z) h)
  · exact .inr h
mutual
theorem dp_monoQ {K : PySem.W.Frag} {H H' : Hp} (e : SameQ H H') : ∀ {v : V} {d : PyData}, Dp K H v d → Dp K H' v d
  | _, .none, .non => .non
  | _, .bool _, .bl b => .bl b
  | _, .int _, .int i => .int i
  | _, .str _, .str x => .str x
  | _, .list _, .lst h a => .lst (e.sqL h) (dpAll_monoQ e a)
  | _, .tuple _, .tup h a => .tup (e.sqT h) (dpAll_monoQ e a)
theorem dpAll_monoQ {K : PySem.W.Frag} {H H' : Hp} (e : SameQ H H') : ∀ {vs : List V} {ds : List PyData}, DpAll K H vs ds → DpAll K H' vs ds
  | _, [], .nil => .nil
  | _, _ :: _, .cons h t => .cons (dp_monoQ e h) (dpAll_monoQ e t)
end
theorem same_lockQ {H H1 H3 : Hp} {b : Addr} {od : Obj} {kvs : List (L2.Key × V)} (s1 : Same H H1) (e : H1 b = some (.dK kvs)) (s3 : Same (upd H1 b (.frz od (.dK kvs))) H3) : SameQ H H3 := fun a o h hne => by
  have h1 := s1 _ _ h
  refine s3 _ _ ?_
  rw [upd_ne fun z => ?_]
  · exact h1
  · rw [z, e] at h1
    cases h1
    exact hne trivial
theorem put_quiet {H : Hp} {c : Addr} {u o : HO} (e : H c = some u) (m : MuO u) : SameQ H (upd H c o) := fun a v h hv => by
  rw [upd_ne fun z => ?_]
  · exact h
  · rw [z, e] at h
    cases h
    exact hv m
/-! ### the dicts of a tree -/
def CellF (F : Tri) (q : List Int) (n : Nat) (kvs : List (L2.Key × V)) : Prop :=
  (kvs.map (·.1)).Nodup ∧ kvs.length ≤ n ∧ (∀ kv ∈ kvs, ∃ k b, kv = (Sum.inl k, V.ref b) ∧ F (q ++ [k]) = some b) ∧ ∀ k b, F (q ++ [k]) = some b → (Sum.inl k, V.ref b) ∈ kvs
def TriU (H : Hp) (F : Tri) (p : List Int) (n : Nat) : Prop := ∀ q a, p <+: q → F q = some a → ∃ kvs, H a = some (.dK kvs) ∧ CellF F q n kvs
theorem CellF.val {F : Tri} {q : List Int} {n : Nat} {kvs : List (L2.Key × V)} (h : CellF F q n kvs) (k : Int) : valV kvs (Sum.inl k) = (F (q ++ [k])).map V.ref := by
  obtain ⟨h1, _, h3, h4⟩ := h
  cases e : F (q ++ [k]) with
  | some b => exact mem_valV h1 (h4 k b e)
  | none =>
    cases e2 : valV kvs (Sum.inl k) with
    | none => rfl
    | some v =>
      obtain ⟨k2, b, e3, e4⟩ := h3 _ (valV_mem e2)
      injection e3 with e3 _
      injection e3 with e3
      rw [← e3, e] at e4
      cases e4
theorem CellF.empty {F : Tri} {q : List Int} {n : Nat} {kvs : List (L2.Key × V)} (h : CellF F q n kvs) {a : Addr} (ha : F q = some a) : (kvs.isEmpty = true) ↔ EndF F q := by
  obtain ⟨_, _, h3, h4⟩ := h
  constructor
  · intro e
    refine ⟨(by rw [ha]; exact fun z => (nomatch z)), fun k => ?_⟩
    cases e2 : F (q ++ [k]) with
    | none => rfl
    | some b =>
      have := h4 k b e2
      rw [List.isEmpty_iff.mp e] at this
      cases this
  · rintro ⟨_, e⟩
    cases kvs with
    | nil => rfl
    | cons kv r =>
      obtain ⟨k, b, _, e2⟩ := h3 kv List.mem_cons_self
      rw [e k] at e2
      cases e2
theorem TriU.mono {H H' : Hp} {F : Tri} {p : List Int} {n : Nat} (s : Same H H') (h : TriU H F p n) : TriU H' F p n := fun q a hq e => by
  obtain ⟨kvs, h1, h2⟩ := h q a hq e
  exact ⟨kvs, s _ _ h1, h2⟩
theorem TriU.sub {H : Hp} {F : Tri} {p p' : List Int} {n : Nat} (s : p <+: p') (h : TriU H F p n) : TriU H F p' n := fun q a hq e => h q a (s.trans hq) e
theorem ap2 (p : List Int) (a b : Int) : (p ++ [a]) ++ [b] = p ++ [a, b] := by rw [List.append_assoc]; rfl
section
variable {P : Program} {w : World} {K : PySem.W.Frag} {mg : Str → Option Value} {base : Heap}
end
/-! ### methods of a class -/
structure Md (P : Program) (w : World) (K : PySem.W.Frag) (mg : Str → Option Value) (base : Heap) (C : Addr) (x : Str) (ps : List Str) (k : Nat) (sp : Sp) : Prop where
  ex : ∃ (f : Addr) (fd : FuncData), FnOk P w K mg base CX0 k f fd ps sp ∧ Meth K C x f ∧ Binds K fd ps []
theorem pe_md {X : Cx} {C : Addr} {m : Str} {ps : List Str} {k : Nat} {sp : Sp} {E : Expr} {t : TE} (M : Md X.prog X.w X.K X.mg X.base C m ps k sp) (h : ∀ (f : Addr) (fd : FuncData), FnOk X.prog X.w X.K X.mg X.base CX0 k f fd ps sp → Meth X.K C m f → Binds X.K fd ps [] → PE X E t) : PE X E t := by
  obtain ⟨f, fd, G, hm, b⟩ := M.ex
  exact h f fd G hm b
structure Mkr (P : Program) (w : World) (K : PySem.W.Frag) (mg : Str → Option Value) (base : Heap) (C : Addr) (ps : List Str) (k : Nat) (sp : Sp) : Prop where
  ex : ∃ (f : Addr) (fd : FuncData), FnOk P w K mg base CX0 k f fd ps sp ∧ Mk K C f ∧ Binds K fd ps []
theorem pe_mkr {X : Cx} {C : Addr} {ps : List Str} {k : Nat} {sp : Sp} {E : Expr} {t : TE} (M : Mkr X.prog X.w X.K X.mg X.base C ps k sp) (h : ∀ (f : Addr) (fd : FuncData), FnOk X.prog X.w X.K X.mg X.base CX0 k f fd ps sp → Mk X.K C f → Binds X.K fd ps [] → PE X E t) : PE X E t := by
  obtain ⟨f, fd, G, mk, b⟩ := M.ex
  exact h f fd G mk b
/-! ### a dict whose keys are nested tuples, each value True -/
def ndx (ks : List (NestedKey × Addr)) : List (NestedKey × Addr × Value) := ks.map fun x => (x.1, x.2, Value.bool true)
def ndP (P : Program) (w : World) (a : Addr) (ks : List (NestedKey × Addr)) (h : Heap) : Prop := ∃ o es ep, h.get? a = some o ∧ o.ExactDict ∧ o.data = .dict es ep ∧ es.toList = (ndx ks).map (entryOfKey (nestedKind P w)) ∧ ((ndx ks).map (·.1)).Nodup ∧ ks.length ≤ sizeLine ∧ (a == sysModules) = false
def NDo (P : Program) (w : World) (a : Addr) (ks : List (NestedKey × Addr)) : HO := .ext (ndP P w a ks)
/-- the keys stand -/
def NKs (K : PySem.W.Frag) (H : Hp) (ks : List (NestedKey × Addr)) : Prop := ∀ x ∈ ks, Dp K H (.ref x.2) x.1.data ∧ x.1.depth ≤ 8
theorem NKs.mono {K : PySem.W.Frag} {H H' : Hp} {ks : List (NestedKey × Addr)} (s : Same H H') (h : NKs K H ks) : NKs K H' ks := fun x hx => ⟨dp_mono s (h x hx).1, (h x hx).2⟩
theorem NKs.monoQ {K : PySem.W.Frag} {H H' : Hp} {ks : List (NestedKey × Addr)} (s : SameQ H H') (h : NKs K H ks) : NKs K H' ks := fun x hx => ⟨dp_monoQ s (h x hx).1, (h x hx).2⟩
mutual
theorem dp_keyT {K : PySem.W.Frag} {H H' : Hp} (e : ∀ a xs, H a = some (.tup xs) → H' a = some (.tup xs)) (e2 : ∀ a o xs, H a = some (.frz o (.tup xs)) → H' a = some (.frz o (.tup xs))) : ∀ (k : NestedKey) (v : V), Dp K H v k.data → Dp K H' v k.data
  | .none, v, h => by
    have h : Dp K H v PyData.none := h
    cases h
    exact .non
  | .num i, v, h => by
    rw [dp_int (show Dp K H v (.int i) from h)]
    exact .int i
  | .text x, v, h => by
    have h : Dp K H v (PyData.str x) := h
    cases h
    exact .str x
  | .tup ks, v, h => by
    obtain ⟨a, xs, rfl, h1, h2⟩ := dp_tup (show Dp K H v (.tuple (NestedKey.datas ks)) from h)
    refine .tup ?_ (dpa_keyT e e2 ks xs h2)
    rcases h1 with (h1 | ⟨o, h1⟩) | h1
    · exact .inl (.inl (e _ _ h1))
    · exact .inl (.inr ⟨o, e2 _ _ _ h1⟩)
    · exact .inr h1
theorem dpa_keyT {K : PySem.W.Frag} {H H' : Hp} (e : ∀ a xs, H a = some (.tup xs) → H' a = some (.tup xs)) (e2 : ∀ a o xs, H a = some (.frz o (.tup xs)) → H' a = some (.frz o (.tup xs))) : ∀ (ks : List NestedKey) (vs : List V), DpAll K H vs (NestedKey.datas ks) → DpAll K H' vs (NestedKey.datas ks)
  | [], vs, h => by
    rw [dpa_nil (show DpAll K H vs [] from h)]
    exact .nil
  | k :: ks, vs, h => by
    obtain ⟨v, t, rfl, h1, h2⟩ := dpa_cons (show DpAll K H vs (k.data :: NestedKey.datas ks) from h)
    exact .cons (dp_keyT e e2 k v h1) (dpa_keyT e e2 ks t h2)
end
theorem NKs.putL {K : PySem.W.Frag} {H : Hp} {c : Addr} {xs : List V} {o : HO} {ks : List (NestedKey × Addr)} (h : NKs K H ks) (e : H c = some (.lst xs)) : NKs K (upd H c o) ks := fun x hx =>
  ⟨dp_keyT (fun a ys h1 => by rw [upd_ne fun z => by rw [z, e] at h1; cases h1]; exact h1) (fun a o ys h1 => by rw [upd_ne fun z => by rw [z, e] at h1; cases h1]; exact h1) x.1 _ (h x hx).1, (h x hx).2⟩
theorem ndo_ok {P : Program} {w : World} {H : Hp} {h : Heap} {a : Addr} {ks : List (NestedKey × Addr)} (e : ndP P w a ks h) : ObjOk P w H h a (NDo P w a ks) := by
  refine ⟨e, ?_, fun h1 h2 x k => ?_⟩
  · obtain ⟨o, _, _, ho, _⟩ := e
    exact ⟨o, ho⟩
  · obtain ⟨o, es, ep, ho, r⟩ := x
    exact ⟨o, es, ep, k o ho, r⟩
section
variable {X : Cx} {pins : List (Addr × Obj)} {σ : L2.St} {H : Hp} {s : Shared}
mutual
theorem dp_nested (I : Inv X pins σ H s) : ∀ (k : NestedKey) (v : V) (u : Value), Dp X.K H v k.data → RelV v u → NestedIs s.heap k u
  | .none, v, u, h, r => by
    have h : Dp X.K H v PyData.none := h
    cases h
    cases (show u = Value.none from r)
    exact .none
  | .num i, v, u, h, r => by
    rw [dp_int (show Dp X.K H v (.int i) from h)] at r
    obtain ⟨t, rfl⟩ := (show ∃ t, u = Value.int i t from r)
    exact .int i t
  | .text x, v, u, h, r => by
    have h : Dp X.K H v (PyData.str x) := h
    cases h
    obtain ⟨t, rfl⟩ := (show ∃ t, u = Value.str x t from r)
    exact .text x t
  | .tup ks, v, u, h, r => by
    obtain ⟨a, xs, rfl, h1, h2⟩ := dp_tup (show Dp X.K H v (.tuple (NestedKey.datas ks)) from h)
    cases (show u = Value.ref a from r)
    obtain ⟨its, rv, ⟨o, h3, h4, n, h5⟩, _⟩ := I.tuple h1
    exact .tup h3 h4 h5 (dpa_nested I ks xs its h2 rv)
theorem dpa_nested (I : Inv X pins σ H s) : ∀ (ks : List NestedKey) (vs : List V) (us : List Value), DpAll X.K H vs (NestedKey.datas ks) → Vals vs us → NestedAll s.heap ks us
  | [], vs, us, h, r => by
    rw [dpa_nil (show DpAll X.K H vs [] from h)] at r
    cases r
    exact .nil
  | k :: ks, vs, us, h, r => by
    obtain ⟨v, t, rfl, h1, h2⟩ := dpa_cons (show DpAll X.K H vs (k.data :: NestedKey.datas ks) from h)
    cases r with
    | cons r1 r2 => exact .cons (dp_nested I k v _ h1 r1) (dpa_nested I ks t _ h2 r2)
end
theorem nd_dict {a : Addr} {ks : List (NestedKey × Addr)} (I : Inv X pins σ H s) (h : ObjOk X.prog X.w H s.heap a (NDo X.prog X.w a ks)) (hk : NKs X.K H ks) : s.heap.DictOfH (nestedKind X.prog X.w) a (ndx ks) := by
  obtain ⟨⟨o, es, ep, ho, h2, h3, h4, h5, _⟩, _⟩ := h
  refine ⟨o, es, ep, ho, h2, h3, h4, fun x hx => ?_, h5⟩
  obtain ⟨y, hy, rfl⟩ := List.mem_map.mp hx
  exact ⟨dp_nested I y.1 _ _ (hk y hy).1 rfl, (hk y hy).2⟩
theorem atKey_ndx {ks : List (NestedKey × Addr)} {k : NestedKey} : (atKey (ndx ks) k).isSome = (ks.map (·.1)).any (fun x => decide (x = k)) := by
  unfold atKey ndx
  rw [Option.isSome_map, List.isSome_find?, List.any_map, List.any_map]
  rfl
/-- is it there? -/
def rNotInN (P : Program) (w : World) (K : PySem.W.Frag) : R2 := fun x y H Q => ∃ (b d : Addr) (k : NestedKey) (ks : List (NestedKey × Addr)), x = .ref b ∧ y = .ref d ∧ H d = some (NDo P w d ks) ∧ NKs K H ks ∧ Dp K H (.ref b) k.data ∧ k.depth ≤ 8 ∧ Q (.bl (!(ks.map (·.1)).any (fun x => decide (x = k)))) H
theorem op_notInN (K : PySem.W.Frag) (hu : X.A.units + 64 < cLine) (h : X.K = K := by rfl) : OpR X (compareOp .NotIn) (rNotInN X.prog X.w K) := by
  subst h
  intro pins s σ H x y v u Q I rx ry h
  obtain ⟨b, d, k, ks, rfl, rfl, ed, hk, db, dk, q⟩ := h
  cases rx
  cases ry
  have ok := I.hok d _ ed
  have dd := nd_dict I ok hk
  obtain ⟨⟨_, _, _, _, _, _, _, _, _, low⟩, _⟩ := ok
  refine wpAny_notIn_heap (knd := nestedKind X.prog X.w) (show X.A.units + 1 + 8 < cLine by omega) ⟨dp_nested I k _ _ db rfl, dk⟩ low dd ?_
  rw [atKey_ndx]
  exact ⟨.bl _, H, I.tok _, rfl, q⟩
theorem ndx_snoc {ks : List (NestedKey × Addr)} {k : NestedKey} {b : Addr} : ndx (ks ++ [(k, b)]) = ndx ks ++ [(k, b, Value.bool true)] := by
  unfold ndx
  rw [List.map_append]
  rfl
/-- d[k] = True, the key new -/
def rSetN (P : Program) (w : World) (K : PySem.W.Frag) : TSet := fun o i v H Q => ∃ (b d : Addr) (k : NestedKey) (ks : List (NestedKey × Addr)), o = .ref d ∧ i = .ref b ∧ v = .bl true ∧ H d = some (NDo P w d ks) ∧ NKs K H ks ∧ Dp K H (.ref b) k.data ∧ k.depth ≤ 8 ∧ k ∉ ks.map (·.1) ∧ ks.length < sizeLine ∧ Q (upd H d (NDo P w d (ks ++ [(k, b)])))
theorem set_nd (K : PySem.W.Frag) (hu : X.A.units + 64 < cLine) (h : X.K = K := by rfl) : PSet X (rSetN X.prog X.w K) := by
  subst h
  intro pins s σ H o i v ov iv u Q I ro ri rv h
  obtain ⟨b, d, k, ks, rfl, rfl, rfl, ed, hk, db, dk, nk, hl, q⟩ := h
  cases ro
  cases ri
  cases rv
  have ok := I.hok d _ ed
  have dd := nd_dict I ok hk
  obtain ⟨⟨_, _, _, _, _, _, _, _, _, low⟩, _⟩ := ok
  have an : atKey (ndx ks) k = none := by
    cases e : atKey (ndx ks) k with
    | none => rfl
    | some p =>
      have z := atKey_ndx (ks := ks) (k := k)
      rw [e] at z
      obtain ⟨y, hy, e2⟩ := List.any_eq_true.mp z.symm
      rw [of_decide_eq_true e2] at hy
      exact absurd hy nk
  refine wpAny_setItem_heap (knd := nestedKind X.prog X.w) (hsz := by unfold ndx; rw [List.length_map]; omega) (show X.A.units + 1 + 8 < cLine by omega) ⟨dp_nested I k _ _ db rfl, dk⟩ dd fun h' dd' hs => ?_
  rw [storedH_new an, ← ndx_snoc] at dd'
  obtain ⟨o2, es, ep, h1, h2, h3, h4, _, h5⟩ := dd'
  exact ⟨_, d_write I (by rw [ed]; exact True.intro) hs ⟨o2, h1⟩ (ndo_ok ⟨o2, es, ep, h1, h2, h3, h4, h5, by rw [List.length_append, List.length_singleton]; omega, low⟩), q⟩
/-- a new one -/
def tDNewN (P : Program) (w : World) : TE := fun _ H Q => ∀ p, H p = none → Q (.ref p) (upd H p (NDo P w p []))
theorem pe_dnewN {pos : Pos} : PE X (.Dict [] [] pos) (tDNewN X.prog X.w) := ⟨fun pins s σ H Q I h =>
  wpAny_Dict_empty ⟨.ref s.heap.objs.size, _, I.laid (a := s.heap.objs.size) (o := NDo X.prog X.w s.heap.objs.size []) (t' := s.toks) (fun _ _ q => Heap.get?_push_of_some _ q) (Nat.le_refl _)
    (ndo_ok ⟨_, #[], 0, Heap.get?_push_size _ rfl, ⟨rfl, rfl, rfl⟩, rfl, rfl, List.nodup_nil, Nat.zero_le _, beq_eq_false_iff_ne.mpr (Ne.symm (Nat.ne_of_lt I.big))⟩), rfl, h _ (I.hok.fresh (Nat.le_refl _))⟩⟩
theorem Inv.frzN {d : Addr} {o : Obj} {ks : List (NestedKey × Addr)} (I : Inv X pins σ H s) (h : H d = some (.frz o (NDo X.prog X.w d ks))) :
    (d == sysModules) = false ∧ s.heap.get? d = some o ∧ o.ExactDict ∧ ∃ (es : Array DictEntry) (ep : Nat), o.data = .dict es ep ∧ es.size = ks.length ∧
      ∀ (i : Nat) (k : NestedKey) (b : Addr), ks[i]? = some (k, b) → ∃ en : DictEntry, es[i]? = some en ∧ en.key = .ref b := by
  obtain ⟨hd, ⟨o2, es, ep, h1, h2, h3, h4, _, _, low⟩, _⟩ := I.hok d _ h
  rw [hd] at h1
  cases h1
  refine ⟨low, hd, h2, es, ep, h3, ?_, fun i k b e => ?_⟩
  · rw [size_of_entries h4]
    exact List.length_map _
  · have q := entry_at h4 i
    have e2 : (ndx ks)[i]? = some (k, b, Value.bool true) := by
      unfold ndx
      rw [List.getElem?_map, e]
      rfl
    rw [e2] at q
    exact ⟨_, q, rfl⟩
end
/-- the keys of the locked dict, in their order -/
def ItN (P : Program) (w : World) (d : Addr) (o : Obj) (ks : List (NestedKey × Addr)) : It :=
  ⟨fun i H => H d = some (.frz o (NDo P w d ks)) ∧ i < ks.length, fun i H x H' => H' = H ∧ ∃ k b, ks[i]? = some (k, b) ∧ x = .ref b, fun i H => H d = some (.frz o (NDo P w d ks)) ∧ ks.length ≤ i⟩
theorem turn_keysN {P : Program} {w : World} {K : PySem.W.Frag} {tg : Expr} {d : Addr} {o : Obj} {es : Array DictEntry} {ep : Nat} {ks : List (NestedKey × Addr)} (it : Addr) (hod : o.data = .dict es ep) : Turn P w K tg (ItN P w d o ks) [it] it (fun i h => h.IsKeyIter it d i ks.length ep) where
  mem := by simp
  obj := fun i h st b hb => by
    have e : b = it := by simpa using hb
    subst e
    obtain ⟨oi, e, c, dd⟩ := st
    exact ⟨oi, e, fun v z => by rw [dd] at z; cases z⟩
  keep := fun i h h' st k => st.at fun oi e => k it (by simp) oi e
  item := by
    intro X hP hw hK hc i pins s σ H E I hf st hg
    subst hP hw hK
    obtain ⟨hd, hi⟩ := hg
    obtain ⟨f0, f1, f2, f3, f4, f5⟩ := hf it (by simp)
    obtain ⟨hs, hgd, hx, es', ep', hdt, hsz, ent⟩ := Inv.frzN I hd
    obtain ⟨rfl, rfl⟩ := dict_ep hod hdt
    obtain ⟨⟨k, b⟩, hkv⟩ : ∃ p, ks[i]? = some p := ⟨ks[i], List.getElem?_eq_getElem hi⟩
    obtain ⟨en, hen, hkey⟩ := ent i k b hkv
    refine next_key_item st hgd hdt hsz hen fun h' st' sb => ?_
    have I1 : Inv X pins σ H { s with heap := h' } := I.turned (t' := s.toks) (fun b ob hb e => (sb.2 b hb).trans e) f0 f1 f3 f4 f5
    obtain ⟨oi, e, c, dd⟩ := id st'
    exact ⟨en.key, rfl, go_of (s := { s with heap := h' }) e c dd (by decide) ⟨.ref b, H, I1, hkey, ⟨rfl, k, b, hkv, rfl⟩, st', fun b hb => (hf b hb).1⟩⟩
  done := by
    intro X hP hw hK hc i pins s σ H E I hf st hg
    subst hP hw hK
    obtain ⟨hd, hi⟩ := hg
    obtain ⟨f0, f1, f2, f3, f4, f5⟩ := hf it (by simp)
    obtain ⟨hs, hgd, hx, es', ep', hdt, hsz, ent⟩ := Inv.frzN I hd
    obtain ⟨rfl, rfl⟩ := dict_ep hod hdt
    exact next_key_end (I.ok.hd hc) st hgd hdt hsz hi fun h' eb => ⟨rfl, I.turned (t' := s.toks) (fun b ob hb e => eb b ob hb e) f0 f1 f3 f4 f5⟩
  self := fun A i s Q E st h => by
    refine wpAny_pyIter_slot st.typeIs PySem.F.slot_dict_keyiterator_iter (wpAny_call_entry PySem.F.slot_dict_keyiterator_iter st.typeIs PySem.F.entry_dict_keyiterator_iter ?_ (PySem.F.args_dict_keyiterator_iter_1 _))
    show wpAny _ _ (ret (.ref it)) _ _ s
    exact wpAny_pure ⟨_, rfl, "dict_keyiterator", _, st.typeIs, PySem.F.slot_dict_keyiterator_next.lookup, h⟩
def iKeysN (P : Program) (w : World) (td : TE) : TI := fun σ H R => td σ H fun x H1 => ∃ d o ks, x = .ref d ∧ H1 d = some (.frz o (NDo P w d ks)) ∧ R (ItN P w d o ks) H1
theorem pi_keysN {X : Cx} {tg e : Expr} {td : TE} (he : PE X e td) : PI X tg e (iKeysN X.prog X.w td) := by
  refine ⟨fun pins s σ H R I h => ?_⟩
  refine thn (he.run pins s σ H _ I h) fun u s1 ⟨x, H1, I1, rx, d, o, ks, ex, hd, q⟩ => ?_
  subst ex
  obtain rfl : u = Value.ref d := rx
  obtain ⟨hs, hgd, hx, es, ep, hdt, hsz, ent⟩ := Inv.frzN I1 hd
  refine iter_keys hs hgd hx hdt (pi_one (tk := s1.toks) I1 _ (turn_keysN _ hdt) ⟨_, Heap.get?_push_size _ rfl, rfl, ?_⟩ q)
  rw [hsz] <;> rfl
theorem for_keysN {P : Program} {w : World} {d : Addr} {o : Obj} {ks : List (NestedKey × Addr)} {g : TG} {tb : TS} {D : Ends} {σ : L2.St} {H : Hp} (Pv : Nat → L2.St → Hp → Prop) (h0 : Pv 0 σ H) (hl : ∀ i σ H, i ≤ ks.length → Pv i σ H → H d = some (.frz o (NDo P w d ks)))
    (hs : ∀ i k b σ H, ks[i]? = some (k, b) → Pv i σ H → g (.ref b) σ H fun σ2 H2 => tb { D with nx := Pv (i + 1), ct := Pv (i + 1), bk := D.nx } σ2 H2) (hd : ∀ σ H, Pv ks.length σ H → D.nx σ H) :
    ∃ W : Nat → Nat → L2.St → Hp → Prop, (∃ m, W 0 m σ H) ∧ ∀ i m σ H, W i m σ H →
      ((ItN P w d o ks).stop i H ∧ D.nx σ H) ∨ ((ItN P w d o ks).go i H ∧ ∃ N : L2.St → Hp → Prop, (∀ σ' H', N σ' H' → ∃ m', m' < m ∧ W (i + 1) m' σ' H') ∧ ∀ x H', (ItN P w d o ks).yld i H x H' → g x σ H' fun σ2 H2 => tb { D with nx := N, ct := N, bk := D.nx } σ2 H2) := by
  refine ⟨fun i m σ H => m = ks.length - i ∧ i ≤ ks.length ∧ Pv i σ H, ⟨ks.length, by simp, Nat.zero_le _, h0⟩, ?_⟩
  rintro i m σ H ⟨rfl, hi, p⟩
  have q := hl i σ H hi p
  by_cases hlt : i < ks.length
  · refine .inr ⟨⟨q, hlt⟩, Pv (i + 1), fun σ' H' p' => ⟨ks.length - (i + 1), by omega, rfl, hlt, p'⟩, fun x H' y => ?_⟩
    obtain ⟨rfl, k, b, e1, rfl⟩ := y
    exact hs i k b σ _ e1 p
  · have e : i = ks.length := by omega
    subst e
    exact .inl ⟨⟨q, Nat.le_refl _⟩, hd σ H p⟩
/-! ### one dict of lists -/
def oneM (M : Int → Option Addr) : Tri := fun q => match q with
  | [t] => M t
  | _ => none
theorem sdef_mono {x : V} {vs : List V} {H : Hp} {Q Q' : VK} (h : rSetDef x vs H Q) (m : ∀ v H', Q v H' → Q' v H') : rSetDef x vs H Q' := by
  obtain ⟨a, kvs, k, d, e1, e2, e3, e4, h1, h2⟩ := h
  exact ⟨a, kvs, k, d, e1, e2, e3, e4, fun v hv => m _ _ (h1 v hv), fun hv => m _ _ (h2 hv)⟩
/-! ### the explored wide situations: Explorer -/
structure TxtE (K : PySem.W.Frag) (mg : Str → Option Value) (C : Addr) : Prop where
  cl : Cls K C
  nE : NoAttr K C "explored"
  nP : NoAttr K C "parents"
  nB : NoAttr K C "by_state"
  nA : NoAttr K C "asked"
  mgC : mg "Explorer" = some (.ref C)
structure EFld (es : List (Str × V)) (la pa bd ad : Addr) : Prop where
  explored : es.lookup ("explored" : Str) = some (.ref la)
  parents : es.lookup ("parents" : Str) = some (.ref pa)
  by_state : es.lookup ("by_state" : Str) = some (.ref bd)
  asked : es.lookup ("asked" : Str) = some (.ref ad)
  len : es.length ≤ 4
  no : ∀ m : Str, m ≠ "explored" → m ≠ "parents" → m ≠ "by_state" → m ≠ "asked" → es.lookup m = none
def pnV : Option Nat → V
  | none => .non
  | some n => nV n
/-- a wide situation and the list of its counts -/
def WAt (H : Hp) (v : V) (r : Wn) (c : Addr) : Prop := ∃ a, v = .ref a ∧ H a = some (.tup [.int r.1, .ref c]) ∧ H c = some (.lst (r.2.map oV))
theorem WAt.mono {H H' : Hp} {v : V} {r : Wn} {c : Addr} (s : Same H H') (h : WAt H v r c) : WAt H' v r c := by
  obtain ⟨a, e, h1, h2⟩ := h
  exact ⟨a, e, s _ _ h1, s _ _ h2⟩
theorem WAt.sit {K : PySem.W.Frag} {H : Hp} {v : V} {r : Wn} {c : Addr} (h : WAt H v r c) : WSit K H v r.1 r.2 := by
  obtain ⟨a, rfl, h1, h2⟩ := h
  exact ⟨a, c, rfl, st h1, sq h2⟩
/-- the heap without some objects -/
noncomputable def Vo (O : Addr → Prop) (H : Hp) : Hp := fun a => @ite _ (O a) (Classical.propDecidable _) none (H a)
theorem vo_iff {O : Addr → Prop} {H : Hp} {a : Addr} {o : HO} : Vo O H a = some o ↔ ¬ O a ∧ H a = some o := by
  unfold Vo
  by_cases h : O a
  · rw [if_pos h]
    exact ⟨fun z => (nomatch z), fun z => absurd h z.1⟩
  · rw [if_neg h]
    exact ⟨fun z => ⟨h, z⟩, fun z => z.2⟩
theorem vo_out {O : Addr → Prop} {H : Hp} : Same (Vo O H) H := fun _ _ h => (vo_iff.mp h).2
/-- all but one's own objects stand -/
def FrW (O : Addr → Prop) (H H' : Hp) : Prop := ∀ a o, ¬ O a → H a = some o → H' a = some o
theorem FrW.vo {O O' : Addr → Prop} {H H' : Hp} (f : FrW O H H') (n : ∀ a, O' a → O a ∨ H a = none) : Same (Vo O H) (Vo O' H') := fun a o h => by
  obtain ⟨h1, h2⟩ := vo_iff.mp h
  exact vo_iff.mpr ⟨(fun z => (n a z).elim h1 fun y => by rw [y] at h2; cases h2), f a o h1 h2⟩
/-- what an Explorer owns: its lists and dicts, and a list for each state -/
def OwnE (g la pa bd ad : Addr) (M : Int → Option Addr) : Addr → Prop := fun a => a = g ∨ a = la ∨ a = pa ∨ a = bd ∨ a = ad ∨ ∃ t, M t = some a
def oK : Option Int → NestedKey
  | none => .none
  | some i => .num i
def keyW (r : Wn) : NestedKey := .tup [.num r.1, .tup (r.2.map oK)]
structure ExpAt (P : Program) (w : World) (K : PySem.W.Frag) (C : Addr) (H : Hp) (g la pa bd ad : Addr) (M : Int → Option Addr) (N : Nat) (es : List Wn) (cs : List Addr) (ps : List (Option Nat)) (ks : List (NestedKey × Addr)) (xs : List V) : Prop where
  ob : ∃ dx fs, H g = some (.ins C dx fs) ∧ EFld fs la pa bd ad
  df : g ≠ la ∧ g ≠ pa ∧ g ≠ bd ∧ g ≠ ad ∧ la ≠ pa ∧ la ≠ bd ∧ la ≠ ad ∧ pa ≠ bd ∧ pa ≠ ad ∧ bd ≠ ad
  ex : H la = some (.lst xs)
  xl : xs.length = es.length
  cl : cs.length = es.length
  at' : ∀ (i : Nat) (v : V) (r : Wn) (c : Addr), xs[i]? = some v → es[i]? = some r → cs[i]? = some c → WAt (Vo (OwnE g la pa bd ad M) H) v r c
  cd : cs.Nodup
  ln : ∀ r ∈ es, r.2.length = N
  par : H pa = some (.lst (ps.map pnV))
  pl : ps.length = es.length
  low : ∀ (i j : Nat), ps[i]? = some (some j) → j < i
  dict : ∃ kvs, H bd = some (.dK kvs) ∧ kvs.length ≤ es.length ∧ ∀ t : Int, valV kvs (Sum.inl t) = (M t).map V.ref
  lists : ∀ t a, M t = some a → H a = some (.lst (((xs.zip es).filter fun z => decide (z.2.1 = t)).map (·.1)))
  inj : ∀ t t' a, M t = some a → M t' = some a → t = t'
  own : ∀ t a, M t = some a → a ≠ g ∧ a ≠ la ∧ a ≠ pa ∧ a ≠ bd ∧ a ≠ ad
  has : ∀ r ∈ es, M r.1 ≠ none
  ask : H ad = some (NDo P w ad ks)
  keys : NKs K (Vo (OwnE g la pa bd ad M) H) ks
theorem peBm0E {X : Cx} {T name id : String} {r : V → List V → Hp → VK → Prop} {to : TE} {o : Expr} {apos cpos : Pos} (K : PySem.W.Frag) (pa : PlainAttrs T) (slot : Slot T name id) (hty : typeOf (.builtin id) = pure (.type "method_descriptor")) (hm : MtR X id r) (ho : PE X o to) (h : X.K = K := by rfl)
    (hbase : attributeBase o name X.env (eval o X.env) = eval o X.env := by rfl) (hline : (apos.endLine == cpos.line) = true := by rfl) : PE X (.Call (.Attribute o name apos) [] [] cpos) (tBM0 K T r to) := h ▸ pe_bm0 pa slot hty hm ho hbase hline
/-- the indexes from the first ancestor on -/
def ancI (ps : List (Option Nat)) : Nat → Option Nat → List Nat
  | 0, _ => []
  | _ + 1, none => []
  | n + 1, some i => ancI ps n (ps.getD i none) ++ [i]
theorem ancI_more {ps : List (Option Nat)} (low : ∀ (i j : Nat), ps[i]? = some (some j) → j < i) : ∀ (n m : Nat) (p : Option Nat), (∀ i, p = some i → i < n ∧ i < m) → ancI ps n p = ancI ps m p
  | 0, 0, _, _ => rfl
  | 0, m + 1, p, h => by
    cases p with
    | none => rfl
    | some i => have := (h i rfl).1; omega
  | n + 1, 0, p, h => by
    cases p with
    | none => rfl
    | some i => have := (h i rfl).2; omega
  | n + 1, m + 1, p, h => by
    cases p with
    | none => rfl
    | some i =>
      show ancI ps n (ps.getD i none) ++ [i] = ancI ps m (ps.getD i none) ++ [i]
      rw [ancI_more low n m _ fun j e => by
        have hi := h i rfl
        have : j < i := by
          refine low i j ?_
          rw [List.getD_eq_getElem?_getD] at e
          cases e2 : ps[i]? with
          | none => rw [e2] at e; cases e
          | some q => rw [e2] at e; rw [show q = some j from e]
        omega]
section
variable {P : Program} {w : World} {K : PySem.W.Frag} {mg : Str → Option Value} {base : Heap}
abbrev s_Explorer_ancestors : Stmt := inClass (topS 11) 3
theorem sc_Explorer_ancestors : FnScope ["self", "parent", "chain", "at"] ["self", "parent"] (defScope s_Explorer_ancestors) := ⟨rfl, rfl, rfl, by decide +kernel, rfl, by decide +kernel, by decide +kernel⟩
-- Explorer.ancestors slots: self=0 parent=1 chain=2 at=3 globals: 
def spAnc (P : Program) (w : World) (K : PySem.W.Frag) (C : Addr) : Sp := fun vs H Q _ => ∃ (g la pa bd ad : Addr) (M : Int → Option Addr) (N : Nat) (es : List Wn) (cs : List Addr) (ps : List (Option Nat)) (ks : List (NestedKey × Addr)) (xs : List V) (p : Option Nat), vs = [.ref g, pnV p] ∧ ExpAt P w K C H g la pa bd ad M N es cs ps ks xs ∧ es.length ≤ 90000 ∧ (∀ i, p = some i → i < es.length) ∧
  ∀ H' D, Same H H' → H D = none → H' D = some (.lst ((ancI ps es.length p).map fun i => xs.getD i .non)) → Q (.ref D) H'
set_option maxHeartbeats 2000000 in
theorem md_ancestors {f C : Addr} {fd : FuncData} (F : Fun K "ancestors" "Explorer.ancestors" s_Explorer_ancestors f fd) (T : TxtE K mg C) (mm : Meth K C "ancestors" f) : Md P w K mg base C "ancestors" ["self", "parent"] 1 (spAnc P w K C) := by
  refine ⟨f, fd, F.ok sc_Explorer_ancestors (fun vs H Q E h => ?_) (fun cdv A outer s H vs Q E hr h => ?_), mm, F.binds (ps := ["self", "parent"]) fun _ _ _ _ _ _ us hl => match us, hl with | [_, _], _ => rfl⟩
  · obtain ⟨_, _, _, _, _, _, _, _, _, _, _, _, _, rfl, _⟩ := h
    rfl
  obtain ⟨g, la, pa, bd, ad, M, N, es, cs, ps, ks, xs, p, rfl, X, hz, hp, q⟩ := h
  obtain ⟨dx, fs, hg, fld⟩ := X.ob
  refine ⟨_, (pss_cons (ps_set (i := 2) sc_Explorer_ancestors.nd rfl (Or.inl rfl) (pe_lst pa_nil))
 (pss_cons (ps_set (i := 3) sc_Explorer_ancestors.nd rfl (Or.inl rfl) (pv 1))
 (pss_cons (ps_while PassesOwn.never (pt_cmpR op_notN (pv 3) pe_non (nomark _))
 (pss_cons (ps_expr (peBm K PySem.F.plainAttrs_list PySem.F.slot_list_append PySem.F.type_list_append mt_append (pv 2) (pa_cons (pe_ix (ixL K) (pe_fld (pv 0) rfl) (pv 3) (fun _ _ => rfl)) pa_nil)))
 (pss_one (ps_set (i := 3) sc_Explorer_ancestors.nd rfl (Or.inl rfl) (pe_ix (ixL K) (pe_fld (pv 0) rfl) (pv 3) (fun _ _ => rfl))))))
 (pss_cons (ps_expr (peBm0E K PySem.F.plainAttrs_list PySem.F.slot_list_reverse PySem.F.type_list_reverse mt_reverse (pv 2)))
 (pss_one (ps_ret (pv 2))))))), ?_⟩
  refine ⟨szc 0, fun D nD => ?_⟩
  dsimp only [gName]
  have sD := same_new (o := HO.lst []) nD
  refine ⟨_, rfl, ?_⟩
  dsimp only [gName]
  refine ⟨fun m σ' H' => ∃ (at' : Option Nat) (acc : List Nat), σ' = [some (.ref g), some (pnV p), some (.ref D), some (pnV at')] ∧ Same H H' ∧ H' D = some (.lst (acc.map fun i => xs.getD i .non)) ∧ (∀ i, at' = some i → i < m) ∧ (∀ i, at' = some i → i < es.length) ∧ ancI ps m at' ++ acc.reverse = ancI ps es.length p ∧ acc.length + m ≤ es.length, ⟨es.length, p, [], rfl, sD, upd_same, hp, hp, by rw [List.reverse_nil, List.append_nil], by show 0 + es.length ≤ _; omega⟩, ?_⟩
  rintro m σ' H1 ⟨at', acc, rfl, s1, eD, hm, hl, ea, hacc⟩
  have hg1 := s1 _ _ hg
  have eL := s1 _ _ X.ex
  have eP := s1 _ _ X.par
  cases at' with
  | none =>
    refine ⟨_, rfl, rfl, _, rfl, iteFx rfl ?_⟩
    have em : acc.reverse = ancI ps es.length p := by
      rw [← ea]
      cases m <;> rfl
    refine ⟨_, rfl, .inl ⟨rfl, _, sq eD⟩, D, _, rfl, rfl, eD, ?_⟩
    refine ⟨_, rfl, q _ D (Same.mut s1 nD) nD ?_⟩
    rw [upd_same, ← em, List.map_reverse]
  | some i =>
    have im := hm i rfl
    have il := hl i rfl
    obtain ⟨m, rfl⟩ : ∃ m', m = m' + 1 := ⟨m - 1, by omega⟩
    obtain ⟨v, hv⟩ : ∃ v, xs[i]? = some v := ⟨_, List.getElem?_eq_getElem (by rw [X.xl]; exact il)⟩
    obtain ⟨j, hj⟩ : ∃ j, ps[i]? = some j := ⟨_, List.getElem?_eq_getElem (by rw [X.pl]; exact il)⟩
    have jd : ps.getD i none = j := by rw [List.getD_eq_getElem?_getD, hj]; rfl
    have vd : xs.getD i .non = v := by rw [List.getD_eq_getElem?_getD, hv]; rfl
    have jl : ∀ k, j = some k → k < i := fun k e => X.low i k (by rw [hj, e])
    refine ⟨_, rfl, rfl, _, rfl, iteTx rfl ⟨fun σ' H' => ∃ (at' : Option Nat) (acc : List Nat), σ' = [some (.ref g), some (pnV p), some (.ref D), some (pnV at')] ∧ Same H H' ∧ H' D = some (.lst (acc.map fun i => xs.getD i .non)) ∧ (∀ i, at' = some i → i < m) ∧ (∀ i, at' = some i → i < es.length) ∧ ancI ps m at' ++ acc.reverse = ancI ps es.length p ∧ acc.length + m ≤ es.length, fun σ' H' h => ⟨m, Nat.lt_succ_self m, h⟩, ?_⟩⟩
    refine ⟨_, rfl, .inl ⟨rfl, _, sq eD⟩, _, rfl, g, C, dx, fs, _, rfl, hg1, T.cl, T.nE, fld.explored, _, rfl, _, _, _, _, rfl, rfl, sq eL, at_n (j := i) rfl hv, D, _, _, rfl, rfl, eD, by rw [List.length_map]; exact szl (by omega), ?_⟩
    have s2 : Same H (upd H1 D (.lst ((acc.map fun i => xs.getD i .non) ++ [v]))) := Same.mut s1 nD
    have e2 : (upd H1 D (.lst ((acc.map fun i => xs.getD i .non) ++ [v]))) D = some (.lst ((acc ++ [i]).map fun i => xs.getD i .non)) := by rw [upd_same, List.map_append, List.map_singleton, vd]
    generalize upd H1 D (.lst ((acc.map fun i => xs.getD i .non) ++ [v])) = H2 at s2 e2 ⊢
    refine ⟨_, rfl, g, C, dx, fs, _, rfl, s2 _ _ hg, T.cl, T.nP, fld.parents, _, rfl, _, _, _, _, rfl, rfl, sq (s2 _ _ X.par), at_n (j := i) rfl (by rw [List.getElem?_map, hj]; rfl), ?_⟩
    refine ⟨j, acc ++ [i], rfl, s2, e2, fun k e => by have := jl k e; omega, fun k e => by have := jl k e; omega, ?_, by rw [List.length_append, List.length_singleton]; omega⟩
    rw [← ea]
    show _ = (ancI ps m (ps.getD i none) ++ [i]) ++ acc.reverse
    rw [jd, List.reverse_append, List.append_assoc]
    rfl
end
/-! ### Explorer.knows -/
section
variable {X : Cx} {pins : List (Addr × Obj)} {σ : L2.St} {H : Hp} {s : Shared}
/-- is it there? -/
def rInNN (P : Program) (w : World) (K : PySem.W.Frag) : R2 := fun x y H Q => ∃ (b d : Addr) (k : NestedKey) (ks : List (NestedKey × Addr)), x = .ref b ∧ y = .ref d ∧ H d = some (NDo P w d ks) ∧ NKs K H ks ∧ Dp K H (.ref b) k.data ∧ k.depth ≤ 8 ∧ Q (.bl ((ks.map (·.1)).any (fun x => decide (x = k)))) H
theorem op_inNN (K : PySem.W.Frag) (hu : X.A.units + 64 < cLine) (h : X.K = K := by rfl) : OpR X (compareOp .In) (rInNN X.prog X.w K) := by
  subst h
  intro pins s σ H x y v u Q I rx ry h
  obtain ⟨b, d, k, ks, rfl, rfl, ed, hk, db, dk, q⟩ := h
  cases rx
  cases ry
  have ok := I.hok d _ ed
  have dd := nd_dict I ok hk
  obtain ⟨⟨_, _, _, _, _, _, _, _, _, low⟩, _⟩ := ok
  refine wpAny_in_heap (knd := nestedKind X.prog X.w) (show X.A.units + 1 + 8 < cLine by omega) ⟨dp_nested I k _ _ db rfl, dk⟩ low dd ?_
  rw [atKey_ndx]
  exact ⟨.bl _, H, I.tok _, rfl, q⟩
end
theorem lt9 {n : Nat} (h : n ≤ 9000000) : n < sizeLine := Nat.lt_of_le_of_lt h (by decide)
theorem oK_inj : ∀ {x y : Option Int}, oK x = oK y → x = y
  | none, none, _ => rfl
  | some i, some j, h => by rw [show i = j from NestedKey.num.inj h]
theorem oKs_inj : ∀ {xs ys : List (Option Int)}, xs.map oK = ys.map oK → xs = ys
  | [], [], _ => rfl
  | x :: xs, y :: ys, h => by
    obtain ⟨h1, h2⟩ := List.cons.inj h
    rw [oK_inj h1, oKs_inj h2]
theorem keyW_inj {r t : Wn} (h : keyW r = keyW t) : r = t := by
  obtain ⟨h1, h2⟩ := List.cons.inj (NestedKey.tup.inj h)
  obtain ⟨h2, _⟩ := List.cons.inj h2
  exact Prod.ext (NestedKey.num.inj h1) (oKs_inj (NestedKey.tup.inj h2))
theorem dpa_oK {K : PySem.W.Frag} {H : Hp} : ∀ cs : List (Option Int), DpAll K H (cs.map oV) (NestedKey.datas (cs.map oK))
  | [] => .nil
  | none :: cs => .cons .non (dpa_oK cs)
  | some i :: cs => .cons (.int i) (dpa_oK cs)
theorem dep_oK : ∀ cs : List (Option Int), NestedKey.depthAll (cs.map oK) = 0
  | [] => rfl
  | none :: cs => by
    show max 0 (NestedKey.depthAll (cs.map oK)) = 0
    rw [dep_oK cs]
    rfl
  | some i :: cs => by
    show max 0 (NestedKey.depthAll (cs.map oK)) = 0
    rw [dep_oK cs]
    rfl
theorem keyW_dep (r : Wn) : (keyW r).depth ≤ 8 := by
  show max 0 (max (NestedKey.depthAll (r.2.map oK) + 1) 0) + 1 ≤ 8
  rw [dep_oK]
  decide
theorem keyW_dp {K : PySem.W.Frag} {H : Hp} {t t1 : Addr} {r : Wn} (h : H t = some (.tup [.int r.1, .ref t1])) (h1 : H t1 = some (.tup (r.2.map oV))) : Dp K H (.ref t) (keyW r).data :=
  .tup (st h) (.cons (.int _) (.cons (.tup (st h1) (dpa_oK r.2)) .nil))
theorem cvd_state (es : List Wn) (s : Int) (cs : List (Option Int)) : cvd (es.filter fun r => decide (r.1 = s)) (s, cs) = cvd es (s, cs) := by
  unfold cvd
  induction es with
  | nil => rfl
  | cons r es ih =>
    rw [List.filter_cons, List.any_cons]
    by_cases h : r.1 = s
    · rw [if_pos (decide_eq_true h), List.any_cons, ih]
    · rw [if_neg (by rw [decide_eq_false h]; decide), ih]
      have : covW r.1 r.2 (s, cs).1 (s, cs).2 = false := by
        unfold covW
        rw [decide_eq_false h]
        rfl
      rw [this, Bool.false_or]
theorem zip_filt {α β : Type} (p : β → Bool) : ∀ {xs : List α} {es : List β}, xs.length = es.length → ((xs.zip es).filter fun z => p z.2).map (·.2) = es.filter p
  | [], [], _ => rfl
  | x :: xs, e :: es, h => by
    rw [List.zip_cons_cons, List.filter_cons, List.filter_cons]
    have ih := zip_filt p (xs := xs) (es := es) (Nat.succ.inj h)
    by_cases c : p e = true
    · rw [if_pos c, if_pos c, List.map_cons, ih]
    · rw [if_neg c, if_neg c, ih]
section
variable {P : Program} {w : World} {K : PySem.W.Frag} {mg : Str → Option Value} {base : Heap}
variable {C g la pa bd ad : Addr} {M : Int → Option Addr} {N : Nat} {es : List Wn} {cs : List Addr} {ps : List (Option Nat)} {ks ks' : List (NestedKey × Addr)} {xs : List V} {H H' : Hp}
/-- only the questions asked have changed -/
theorem ExpAt.asked (X : ExpAt P w K C H g la pa bd ad M N es cs ps ks xs) (f : ∀ a o, a ≠ ad → H a = some o → H' a = some o) (e : H' ad = some (NDo P w ad ks')) (k : NKs K (Vo (OwnE g la pa bd ad M) H') ks') : ExpAt P w K C H' g la pa bd ad M N es cs ps ks' xs := by
  obtain ⟨dx, fs, hg, fld⟩ := X.ob
  obtain ⟨d1, d2, d3, d4, d5, d6, d7, d8, d9, d10⟩ := X.df
  have sv : Same (Vo (OwnE g la pa bd ad M) H) (Vo (OwnE g la pa bd ad M) H') := FrW.vo (fun a o n h => f a o (fun z => n (.inr (.inr (.inr (.inr (.inl z)))))) h) fun a h => .inl h
  exact ⟨⟨dx, fs, f _ _ d4 hg, fld⟩, X.df, f _ _ d7 X.ex, X.xl, X.cl, fun i v r c h1 h2 h3 => (X.at' i v r c h1 h2 h3).mono sv, X.cd, X.ln, f _ _ d9 X.par, X.pl, X.low, let ⟨kvs, h1, h2, h3⟩ := X.dict; ⟨kvs, f _ _ d10 h1, h2, h3⟩, fun t a h => f _ _ (X.own t a h).2.2.2.2 (X.lists t a h), X.inj, X.own, X.has, e, k⟩
theorem ExpAt.dps (X : ExpAt P w K C H g la pa bd ad M N es cs ps ks xs) (t : Int) : DpAll K H (((xs.zip es).filter fun z => decide (z.2.1 = t)).map (·.1)) ((es.filter fun r => decide (r.1 = t)).map wD) := by
  have all : ∀ z ∈ xs.zip es, Dp K H z.1 (wD z.2) := fun z hz => by
    obtain ⟨i, hi⟩ := List.getElem?_of_mem hz
    obtain ⟨h1, h2⟩ := List.getElem?_zip_eq_some.mp hi
    have il := (List.getElem?_eq_some_iff.mp h2).1
    obtain ⟨c, hc⟩ : ∃ c, cs[i]? = some c := ⟨_, List.getElem?_eq_getElem (by rw [X.cl]; exact il)⟩
    exact wsit_dp ((X.at' i z.1 z.2 c h1 h2 hc).mono vo_out).sit
  rw [← zip_filt (fun r : Wn => decide (r.1 = t)) X.xl]
  have go : ∀ (zs : List (V × Wn)), (∀ z ∈ zs, Dp K H z.1 (wD z.2)) → DpAll K H (zs.map (·.1)) ((zs.map (·.2)).map wD) := fun zs => by
    induction zs with
    | nil => exact fun _ => .nil
    | cons z zs ih => exact fun h => .cons (h z List.mem_cons_self) (ih fun y hy => h y (List.mem_cons_of_mem _ hy))
  exact go _ fun z hz => all z (List.mem_filter.mp hz).1
theorem ExpAt.own_in (X : ExpAt P w K C H g la pa bd ad M N es cs ps ks xs) {a : Addr} (h : OwnE g la pa bd ad M a) : ∃ o, H a = some o := by
  obtain ⟨dx, fs, hg, _⟩ := X.ob
  obtain ⟨kvs, hbd, _⟩ := X.dict
  rcases h with rfl | rfl | rfl | rfl | rfl | ⟨t, ht⟩
  · exact ⟨_, hg⟩
  · exact ⟨_, X.ex⟩
  · exact ⟨_, X.par⟩
  · exact ⟨_, hbd⟩
  · exact ⟨_, X.ask⟩
  · exact ⟨_, X.lists t a ht⟩
abbrev s_Explorer_knows : Stmt := inClass (topS 11) 1
theorem sc_Explorer_knows : FnScope ["self", "situation", "key"] ["self", "situation"] (defScope s_Explorer_knows) := ⟨rfl, rfl, rfl, by decide +kernel, rfl, by decide +kernel, by decide +kernel⟩
-- Explorer.knows slots: self=0 situation=1 key=2 globals: tuple is_covered
def spKnows (P : Program) (w : World) (K : PySem.W.Frag) (C : Addr) : Sp := fun vs H Q _ => ∃ (g la pa bd ad : Addr) (M : Int → Option Addr) (N : Nat) (es : List Wn) (cs : List Addr) (ps : List (Option Nat)) (ks : List (NestedKey × Addr)) (xs : List V) (x : V) (r : Wn), vs = [.ref g, x] ∧ ExpAt P w K C H g la pa bd ad M N es cs ps ks xs ∧ WSit K H x r.1 r.2 ∧ r.2.length = N ∧ ks.length ≤ 9000000 ∧ (∀ t, keyW t ∈ ks.map (·.1) → cvd es t = true) ∧
  ∀ H' ks', (∀ a o, a ≠ ad → H a = some o → H' a = some o) → ExpAt P w K C H' g la pa bd ad M N es cs ps ks' xs → ks'.length ≤ ks.length + 1 → (∀ t, keyW t ∈ ks'.map (·.1) → keyW t ∈ ks.map (·.1) ∨ t = r) → Q (.bl (cvd es r)) H'
set_option maxHeartbeats 2000000 in
theorem md_knows {f : Addr} {fd : FuncData} (F : Fun K "knows" "Explorer.knows" s_Explorer_knows f fd) (T : TxtE K mg C) (mm : Meth K C "knows" f) (B : Bt mg) (D_is_covered : Fd P w K mg base "is_covered" ["situation", "wides"] 2 (spIsCov K)) : Md P w K mg base C "knows" ["self", "situation"] 3 (spKnows P w K C) := by
  refine ⟨f, fd, F.ok sc_Explorer_knows (fun vs H Q E h => ?_) (fun cdv A outer s H vs Q E hr h => ?_), mm, F.binds (ps := ["self", "situation"]) fun _ _ _ _ _ _ us hl => match us, hl with | [_, _], _ => rfl⟩
  · obtain ⟨_, _, _, _, _, _, _, _, _, _, _, _, _, _, rfl, _⟩ := h
    rfl
  obtain ⟨g, la, pa, bd, ad, M, N, es, cs, ps, ks, xs, x, r, rfl, X, hx, rl, kl, ak, q⟩ := h
  obtain ⟨dx, fs, hg, fld⟩ := X.ob
  obtain ⟨a, ca, rfl, ha, hca⟩ := hx
  refine ⟨_, (pss_cons (ps_set (i := 2) sc_Explorer_knows.nd rfl (Or.inl rfl) (pe_tup (pa_cons (pe_ix (ixT K) (pv 1) pe_int (fun _ _ => rfl)) (pa_cons (pe_callTy call_tuple_of (by rfl) B.tuple (by decide +kernel) (pa_cons (pe_ix (ixT K) (pv 1) pe_int (fun _ _ => rfl)) pa_nil)) pa_nil))))
 (pss_cons (ps_if (pt_cmpR (op_inNN K hr.units) (pv 2) (pe_fld (pv 0) rfl) (by rfl))
 (pss_one (ps_ret pe_bl))
 pss_nil)
 (pss_cons (ps_asg pe_bl (pg_sub (pe_fld (pv 0) rfl) (pv 2) (set_nd K hr.units)))
 (pss_one (ps_ret (pe_fn D_is_covered (hr.mono (by decide)) rfl (pa_cons (pv 1) (pa_cons (peBm K PySem.F.plainAttrs_dict PySem.F.slot_dict_get PySem.F.type_dict_get mt_getD (pe_fld (pv 0) rfl) (pa_cons (pe_ix (ixT K) (pv 1) pe_int (fun _ _ => rfl)) (pa_cons (pe_lst pa_nil) pa_nil))) pa_nil)))))))), ?_⟩
  refine ⟨_, rfl, _, _, _, _, rfl, rfl, ha, atI_nat (j := 0) rfl, _, rfl, _, _, _, _, rfl, rfl, ha, atI_nat (j := 1) rfl, ca, _, rfl, .inl ⟨hca, fun t1 n1 => ?_⟩⟩
  have s1 := same_new (o := HO.tup (r.2.map oV)) n1
  have e1 : (upd H t1 (.tup (r.2.map oV))) t1 = some (.tup (r.2.map oV)) := upd_same
  generalize upd H t1 (.tup (r.2.map oV)) = H1 at s1 e1 ⊢
  refine ⟨szc 2, fun t nt => ?_⟩
  dsimp only [gName]
  have s2 := s1.trans (same_new (o := HO.tup [V.int r.1, V.ref t1]) nt)
  have et : (upd H1 t (.tup [V.int r.1, V.ref t1])) t = some (.tup [V.int r.1, V.ref t1]) := upd_same
  have et1 : (upd H1 t (.tup [V.int r.1, V.ref t1])) t1 = some (.tup (r.2.map oV)) := (same_new nt) _ _ e1
  have tH : H t = none := s1.free nt
  generalize upd H1 t (.tup [V.int r.1, V.ref t1]) = H2 at s2 et et1 ⊢
  have X2 : ExpAt P w K C H2 g la pa bd ad M N es cs ps ks xs := X.asked (fun a o _ h => s2 _ _ h) (s2 _ _ X.ask) (X.keys.mono (FrW.vo (fun a o _ h => s2 _ _ h) fun a h => .inl h))
  have kd : Dp K H2 (.ref t) (keyW r).data := keyW_dp et et1
  refine ⟨_, rfl, _, rfl, g, C, dx, fs, _, rfl, s2 _ _ hg, T.cl, T.nA, fld.asked, t, ad, keyW r, ks, rfl, rfl, X2.ask, X2.keys.mono vo_out, kd, keyW_dep r, ?_⟩
  have s2' : ∀ a o, a ≠ ad → H a = some o → H2 a = some o := fun a o _ h => s2 _ _ h
  refine ⟨_, rfl, ?_⟩
  cases hany : (ks.map (·.1)).any (fun x => decide (x = keyW r)) with
  | true =>
    refine iteTx rfl ?_
    obtain ⟨k, hk, e⟩ := List.any_eq_true.mp hany
    have cr := ak r (by rw [← of_decide_eq_true e]; exact hk)
    have := q H2 ks s2' X2 (by omega) fun t h => .inl h
    rw [cr] at this
    exact this
  | false =>
    have nin : keyW r ∉ ks.map (·.1) := fun h => by
      have : (ks.map (·.1)).any (fun x => decide (x = keyW r)) = true := List.any_eq_true.mpr ⟨_, h, decide_eq_true rfl⟩
      rw [hany] at this
      cases this
    refine iteFx rfl ⟨_, rfl, g, C, dx, fs, _, rfl, s2 _ _ hg, T.cl, T.nA, fld.asked, _, rfl, t, ad, keyW r, ks, rfl, rfl, rfl, X2.ask, X2.keys.mono vo_out, kd, keyW_dep r, nin, lt9 kl, ?_⟩
    have f3 : ∀ a o, a ≠ ad → H2 a = some o → (upd H2 ad (NDo P w ad (ks ++ [(keyW r, t)]))) a = some o := fun a o n h => by rw [upd_ne n]; exact h
    have nO : ¬ OwnE g la pa bd ad M t := fun h => by
      obtain ⟨o, ho⟩ := X.own_in h
      rw [tH] at ho
      cases ho
    have nO1 : ¬ OwnE g la pa bd ad M t1 := fun h => by
      obtain ⟨o, ho⟩ := X.own_in h
      rw [n1] at ho
      cases ho
    have sv : Same (Vo (OwnE g la pa bd ad M) H2) (Vo (OwnE g la pa bd ad M) (upd H2 ad (NDo P w ad (ks ++ [(keyW r, t)])))) := FrW.vo (fun a o n h => f3 a o (fun z => n (.inr (.inr (.inr (.inr (.inl z)))))) h) fun a h => .inl h
    have X3 : ExpAt P w K C (upd H2 ad (NDo P w ad (ks ++ [(keyW r, t)]))) g la pa bd ad M N es cs ps (ks ++ [(keyW r, t)]) xs := X2.asked f3 upd_same fun y hy => by
      rcases List.mem_append.mp hy with hy | hy
      · exact X2.keys.mono sv y hy
      · rw [List.mem_singleton.mp hy]
        exact ⟨keyW_dp (sv _ _ (vo_iff.mpr ⟨nO, et⟩)) (sv _ _ (vo_iff.mpr ⟨nO1, et1⟩)), keyW_dep r⟩
    have f03 : ∀ a o, a ≠ ad → H a = some o → (upd H2 ad (NDo P w ad (ks ++ [(keyW r, t)]))) a = some o := fun a o n h => f3 a o n (s2 _ _ h)
    obtain ⟨dx3, fs3, hg3, fld3⟩ := X3.ob
    obtain ⟨kvs, hbd, _, hv⟩ := X3.dict
    refine ⟨_, rfl, _, rfl, g, C, dx3, fs3, _, rfl, hg3, T.cl, T.nB, fld3.by_state, ?_⟩
    refine ⟨.inr (.inr (.inl ⟨rfl, .inl ⟨kvs, hbd⟩⟩)), ?_⟩
    have ha3 := Same.seqT (K := K) (H := H) (H' := H2) s2 ha
    have quiet : SameQ H2 (upd H2 ad (NDo P w ad (ks ++ [(keyW r, t)]))) := put_quiet X2.ask True.intro
    have go : ∀ (H4 : Hp) (l : Addr) (ys : List V) (rs : List Wn), (∀ b o, (upd H2 ad (NDo P w ad (ks ++ [(keyW r, t)]))) b = some o → H4 b = some o) → H4 l = some (.lst ys) → (ExpAt P w K C H4 g la pa bd ad M N es cs ps (ks ++ [(keyW r, t)]) xs → DpAll K H4 ys (rs.map wD)) → (∀ y ∈ rs, y.2.length = r.2.length) → cvd rs r = cvd es r → spIsCov K ([V.ref a, .ref l] ++ []) H4 Q E0 := fun H4 l ys rs s4 el dl ll ec => by
      have X4 : ExpAt P w K C H4 g la pa bd ad M N es cs ps (ks ++ [(keyW r, t)]) xs := X3.asked (fun b o _ h => s4 b o h) (s4 _ _ X3.ask) (X3.keys.mono (FrW.vo (fun b o _ h => s4 b o h) fun b h => .inl h))
      refine ⟨.ref a, l, r.1, r.2, ys, rs, rfl, ?_, sq el, dl X4, ll, fun H5 s5 => ?_⟩
      · exact ⟨a, ca, rfl, Same.seqT s4 (quiet.sqT ha3), (show Same _ H4 from s4).seq (quiet.sqL (s2.seq hca))⟩
      · show Q (.bl (cvd rs r)) H5
        rw [ec]
        exact q H5 (ks ++ [(keyW r, t)]) (fun b o n h => s5 _ _ (s4 _ _ (f03 b o n h))) (X4.asked (fun b o _ h => s5 _ _ h) (s5 _ _ X4.ask) (X4.keys.mono (FrW.vo (fun b o _ h => s5 _ _ h) fun b h => .inl h))) (by rw [List.length_append, List.length_singleton]; omega) fun z hz => by
          rw [List.map_append] at hz
          rcases List.mem_append.mp hz with hz | hz
          · exact .inl hz
          · exact .inr (keyW_inj (List.mem_singleton.mp hz))
    refine ⟨_, rfl, _, _, _, _, rfl, rfl, quiet.sqT ha3, atI_nat (j := 0) rfl, szc 0, fun l0 n0 => ?_⟩
    have s4 : ∀ b o, (upd H2 ad (NDo P w ad (ks ++ [(keyW r, t)]))) b = some o → (upd (upd H2 ad (NDo P w ad (ks ++ [(keyW r, t)]))) l0 (.lst [])) b = some o := same_new n0
    have hv' := hv r.1
    refine ⟨bd, kvs, Sum.inl r.1, .ref l0, rfl, rfl, s4 _ _ hbd, fun v hvv => ?_, fun hn => ?_⟩
    · rw [hv'] at hvv
      cases eM : M r.1 with
      | none => rw [eM] at hvv; cases hvv
      | some b =>
        rw [eM] at hvv
        cases hvv
        exact go _ b _ (es.filter fun e => decide (e.1 = r.1)) s4 (s4 _ _ (X3.lists r.1 b eM)) (fun X4 => X4.dps r.1) (fun y hy => (X.ln y (List.mem_filter.mp hy).1).trans rl.symm) (cvd_state es r.1 r.2)
    · have eM : M r.1 = none := by
        rw [hv'] at hn
        cases eM : M r.1 with
        | none => rfl
        | some b => rw [eM] at hn; cases hn
      refine go _ l0 [] [] s4 upd_same (fun _ => .nil) (fun y hy => nomatch hy) ?_
      have nil : es.filter (fun e => decide (e.1 = r.1)) = [] := List.filter_eq_nil_iff.mpr fun e he z => X.has e he (by rw [of_decide_eq_true z]; exact eM)
      have := cvd_state es r.1 r.2
      rw [nil] at this
      exact this
end
/-! ### Explorer.enter -/
theorem widen_snoc (s : Int) (anc : List Wn) (o : Wn) (wd : List (Option Int)) : widen s wd (anc ++ [o]) = widen1 s (widen s wd anc) o := by
  unfold widen
  rw [List.foldl_append]
  rfl
theorem zip_snocL {α β : Type} : ∀ {xs : List α} {es : List β} (v : α) (e : β), xs.length = es.length → (xs ++ [v]).zip (es ++ [e]) = xs.zip es ++ [(v, e)]
  | [], [], _, _, _ => rfl
  | x :: xs, y :: es, v, e, h => congrArg ((x, y) :: ·) (zip_snocL v e (Nat.succ.inj h))
section
variable {P : Program} {w : World} {K : PySem.W.Frag} {mg : Str → Option Value} {base : Heap}
variable {C g la pa bd ad : Addr} {M M' : Int → Option Addr} {N : Nat} {es : List Wn} {cs : List Addr} {ps : List (Option Nat)} {ks : List (NestedKey × Addr)} {xs : List V} {H H' : Hp} {v : V} {e : Wn} {c : Addr} {p : Option Nat}
/-- the list of a state when one more is entered -/
abbrev stL (xs : List V) (es : List Wn) (t : Int) : List V := ((xs.zip es).filter fun z => decide (z.2.1 = t)).map (·.1)
theorem stL_snoc (hl : xs.length = es.length) (t : Int) : stL (xs ++ [v]) (es ++ [e]) t = stL xs es t ++ (if e.1 = t then [v] else []) := by
  unfold stL
  rw [zip_snocL v e hl, List.filter_append, List.map_append]
  congr 1
  rw [List.filter_cons]
  by_cases h : e.1 = t
  · rw [if_pos h, if_pos (decide_eq_true h)]
    rfl
  · rw [if_neg h, if_neg (by rw [decide_eq_false h]; decide)]
    rfl
theorem ExpAt.grow (X : ExpAt P w K C H g la pa bd ad M N es cs ps ks xs) (hv : WAt (Vo (OwnE g la pa bd ad M) H) v e c) (nc : c ∉ cs) (el : e.2.length = N) (pl : ∀ i, p = some i → i < es.length)
    (f : ∀ b o, ¬ OwnE g la pa bd ad M b → H b = some o → H' b = some o) (fg : H' g = H g) (fa : H' ad = H ad) (fl : H' la = some (.lst (xs ++ [v]))) (fp : H' pa = some (.lst ((ps ++ [p]).map pnV)))
    (fd : ∃ kvs, H' bd = some (.dK kvs) ∧ kvs.length ≤ (es ++ [e]).length ∧ ∀ t : Int, valV kvs (Sum.inl t) = (M' t).map V.ref) (ls : ∀ t a, M' t = some a → H' a = some (.lst (stL (xs ++ [v]) (es ++ [e]) t))) (inj : ∀ t t' a, M' t = some a → M' t' = some a → t = t')
    (own : ∀ t a, M' t = some a → a ≠ g ∧ a ≠ la ∧ a ≠ pa ∧ a ≠ bd ∧ a ≠ ad) (sub : ∀ t a, M t = some a → M' t = some a) (new : ∀ t a, M' t = some a → M t = some a ∨ H a = none) (has : M' e.1 ≠ none) :
    ExpAt P w K C H' g la pa bd ad M' N (es ++ [e]) (cs ++ [c]) (ps ++ [p]) ks (xs ++ [v]) := by
  obtain ⟨dx, fs, hg, fld⟩ := X.ob
  have sv : Same (Vo (OwnE g la pa bd ad M) H) (Vo (OwnE g la pa bd ad M') H') := FrW.vo f fun a h => by
    rcases h with h | h | h | h | h | ⟨t, ht⟩
    · exact .inl (.inl h)
    · exact .inl (.inr (.inl h))
    · exact .inl (.inr (.inr (.inl h)))
    · exact .inl (.inr (.inr (.inr (.inl h))))
    · exact .inl (.inr (.inr (.inr (.inr (.inl h)))))
    · exact (new t a ht).elim (fun z => .inl (.inr (.inr (.inr (.inr (.inr ⟨t, z⟩)))))) .inr
  refine ⟨⟨dx, fs, by rw [fg]; exact hg, fld⟩, X.df, fl, by rw [List.length_append, List.length_append, X.xl]; rfl, by rw [List.length_append, List.length_append, X.cl]; rfl, fun i u r d h1 h2 h3 => ?_, ?_, fun r hr => ?_, fp, by rw [List.length_append, List.length_append, X.pl]; rfl, fun i j h => ?_, fd, ls, inj, own, fun r hr => ?_, by rw [fa]; exact X.ask, X.keys.mono sv⟩
  · by_cases l : i < es.length
    · rw [List.getElem?_append_left (by rw [X.xl]; exact l)] at h1
      rw [List.getElem?_append_left l] at h2
      rw [List.getElem?_append_left (by rw [X.cl]; exact l)] at h3
      exact (X.at' i u r d h1 h2 h3).mono sv
    · have i0 : i = es.length := by
        have := (List.getElem?_eq_some_iff.mp h2).1
        rw [List.length_append, List.length_singleton] at this
        omega
      subst i0
      rw [← X.xl, List.getElem?_append_right (Nat.le_refl _), Nat.sub_self] at h1
      rw [List.getElem?_append_right (Nat.le_refl _), Nat.sub_self] at h2
      rw [← X.cl, List.getElem?_append_right (Nat.le_refl _), Nat.sub_self] at h3
      cases h1
      cases h2
      cases h3
      exact hv.mono sv
  · refine List.nodup_append.mpr ⟨X.cd, List.nodup_cons.mpr ⟨fun z => (nomatch z), List.nodup_nil⟩, fun a ha b hb z => ?_⟩
    rw [List.mem_singleton.mp hb] at z
    rw [z] at ha
    exact nc ha
  · rcases List.mem_append.mp hr with hr | hr
    · exact X.ln r hr
    · rw [List.mem_singleton.mp hr]; exact el
  · by_cases l : i < ps.length
    · rw [List.getElem?_append_left l] at h
      exact X.low i j h
    · have i0 : i = ps.length := by
        have := (List.getElem?_eq_some_iff.mp h).1
        rw [List.length_append, List.length_singleton] at this
        omega
      subst i0
      rw [List.getElem?_append_right (Nat.le_refl _), Nat.sub_self] at h
      have h : p = some j := Option.some.inj h
      rw [X.pl]
      exact pl j h
  · rcases List.mem_append.mp hr with hr | hr
    · intro z
      have := X.has r hr
      cases eM : M r.1 with
      | none => exact this eM
      | some a => rw [sub _ a eM] at z; cases z
    · rw [List.mem_singleton.mp hr]; exact has
end
section
variable {P : Program} {w : World} {K : PySem.W.Frag} {mg : Str → Option Value} {base : Heap}
variable {C : Addr}
theorem ancI_lt {ps : List (Option Nat)} {L : Nat} (low : ∀ (i j : Nat), ps[i]? = some (some j) → j < i) : ∀ (n : Nat) (p : Option Nat), (∀ i, p = some i → i < L) → ∀ i ∈ ancI ps n p, i < L
  | 0, _, _, _, h => nomatch h
  | _ + 1, none, _, _, h => nomatch h
  | n + 1, some i, hp, k, h => by
    rcases List.mem_append.mp h with h | h
    · refine ancI_lt low n _ (fun j e => ?_) k h
      have : j < i := by
        refine low i j ?_
        rw [List.getD_eq_getElem?_getD] at e
        cases e2 : ps[i]? with
        | none => rw [e2] at e; cases e
        | some q => rw [e2] at e; rw [show q = some j from e]
      have := hp i rfl
      omega
    · rw [List.mem_singleton.mp h]
      exact hp i rfl
abbrev ancW (es : List Wn) (ps : List (Option Nat)) (p : Option Nat) : List Wn := (ancI ps es.length p).map fun i => es.getD i (0, [])
abbrev s_Explorer_enter : Stmt := inClass (topS 11) 2
theorem sc_Explorer_enter : FnScope ["self", "situation", "parent", "wide", "ancestor"] ["self", "situation", "parent"] (defScope s_Explorer_enter) := ⟨rfl, rfl, rfl, by decide +kernel, rfl, by decide +kernel, by decide +kernel⟩
-- Explorer.enter slots: self=0 situation=1 parent=2 wide=3 ancestor=4 globals: wide_covers widened
def spEnter (P : Program) (w : World) (K : PySem.W.Frag) (C : Addr) : Sp := fun vs H Q _ => ∃ (g la pa bd ad : Addr) (M : Int → Option Addr) (N : Nat) (es : List Wn) (cs : List Addr) (ps : List (Option Nat)) (ks : List (NestedKey × Addr)) (xs : List V) (x : V) (r : Wn) (c : Addr) (p : Option Nat), vs = [.ref g, x, pnV p] ∧ ExpAt P w K C H g la pa bd ad M N es cs ps ks xs ∧ WAt (Vo (OwnE g la pa bd ad M) H) x r c ∧ c ∉ cs ∧ r.2.length = N ∧ N ≤ 90000 ∧ es.length ≤ 80000 ∧ (∀ i, p = some i → i < es.length) ∧
  ∀ H' v c' M', (∀ b o, ¬ OwnE g la pa bd ad M b → H b = some o → H' b = some o) → (c' = c ∨ H c' = none) → (∀ t a, M' t = some a → M t = some a ∨ H a = none) → ExpAt P w K C H' g la pa bd ad M' N (es ++ [(r.1, widen r.1 r.2 (ancW es ps p))]) (cs ++ [c']) (ps ++ [p]) ks (xs ++ [v]) → Q v H'
set_option maxHeartbeats 4000000 in
theorem md_enter {f : Addr} {fd : FuncData} (F : Fun K "enter" "Explorer.enter" s_Explorer_enter f fd) (T : TxtE K mg C) (mm : Meth K C "enter" f) (M_ancestors : Md P w K mg base C "ancestors" ["self", "parent"] 1 (spAnc P w K C)) (D_wide_covers : Fd P w K mg base "wide_covers" ["first", "second"] 1 (spWCov K)) (D_widened : Fd P w K mg base "widened" ["situation", "ancestor"] 1 (spWidened K)) : Md P w K mg base C "enter" ["self", "situation", "parent"] 3 (spEnter P w K C) := by
  refine ⟨f, fd, F.ok sc_Explorer_enter (fun vs H Q E h => ?_) (fun cdv A outer s H vs Q E hr h => ?_), mm, F.binds (ps := ["self", "situation", "parent"]) fun _ _ _ _ _ _ us hl => match us, hl with | [_, _, _], _ => rfl⟩
  · obtain ⟨_, _, _, _, _, _, _, _, _, _, _, _, _, _, _, _, rfl, _⟩ := h
    rfl
  obtain ⟨g, la, pa, bd, ad, M, N, es, cs, ps, ks, xs, x, r, c, p, rfl, X, hx, nc, rl, hN, hz, hp, q⟩ := h
  obtain ⟨dx, fs, hg, fld⟩ := X.ob
  have freshO : ∀ b, H b = none → ¬ OwnE g la pa bd ad M b := fun b nb h => by
    obtain ⟨o, ho⟩ := X.own_in h
    rw [nb] at ho
    cases ho
  refine ⟨_, (pss_cons (ps_set (i := 3) sc_Explorer_enter.nd rfl (Or.inl rfl) (pv 1))
 (pss_cons (ps_for PassesOwn.never rfl (piL K (pe_md M_ancestors fun _ _ G hm b => pe_meth (pv 0) T.cl hm G (hr.mono (by decide)) b .nil pass0 (pa_cons (pv 2) pa_nil))) (pg_name (i := 4) sc_Explorer_enter.nd rfl (Or.inl rfl))
 (pss_one (ps_if (pt_val (pe_fn D_wide_covers (hr.mono (by decide)) rfl (pa_cons (pv 3) (pa_cons (pv 4) pa_nil))))
 (pss_one (ps_set (i := 3) sc_Explorer_enter.nd rfl (Or.inl rfl) (pe_fn D_widened (hr.mono (by decide)) rfl (pa_cons (pv 3) (pa_cons (pv 4) pa_nil)))))
 pss_nil)))
 (pss_cons (ps_expr (peBm K PySem.F.plainAttrs_list PySem.F.slot_list_append PySem.F.type_list_append mt_append (pe_fld (pv 0) rfl) (pa_cons (pv 3) pa_nil)))
 (pss_cons (ps_expr (peBm K PySem.F.plainAttrs_list PySem.F.slot_list_append PySem.F.type_list_append mt_append (pe_fld (pv 0) rfl) (pa_cons (pv 2) pa_nil)))
 (pss_cons (ps_expr (peBm K PySem.F.plainAttrs_list PySem.F.slot_list_append PySem.F.type_list_append mt_append (peBm K PySem.F.plainAttrs_dict PySem.F.slot_dict_setdefault PySem.F.type_dict_setdefault mt_setdef (pe_fld (pv 0) rfl) (pa_cons (pe_ix (ixT K) (pv 3) pe_int (fun _ _ => rfl)) (pa_cons (pe_lst pa_nil) pa_nil))) (pa_cons (pv 3) pa_nil)))
 (pss_one (ps_ret (pv 3)))))))), ?_⟩
  refine ⟨_, rfl, ?_⟩
  dsimp only [gName]
  have lt := ancI_lt (L := es.length) X.low es.length p hp
  refine ⟨_, rfl, g, dx, fs, rfl, hg, fld.no _ (by decide) (by decide) (by decide) (by decide), _, rfl, g, la, pa, bd, ad, M, N, es, cs, ps, ks, xs, p, rfl, X, by omega, hp, fun H1 D s1 nD eD => ?_⟩
  refine ⟨D, rfl, ⟨_, sq eD⟩, for_list (xs := (ancI ps es.length p).map fun i => xs.getD i .non) (fun i σ' H' => ∃ (y4 : Option V) (v : V) (c' : Addr), σ' = [some (.ref g), some x, some (pnV p), some v, y4] ∧ Same H1 H' ∧ WAt (Vo (OwnE g la pa bd ad M) H') v (r.1, widen r.1 r.2 ((ancW es ps p).take i)) c' ∧ (c' = c ∨ H c' = none)) ⟨none, x, c, rfl, Same.refl _, hx.mono (FrW.vo (fun b o _ h => s1 b o h) fun b h => .inl h), .inl rfl⟩ ?_ ?_ ?_⟩
  · rintro i σ' H' _ ⟨y4, v, c', rfl, sm, _⟩
    exact sq (sm _ _ eD)
  · rintro i u σ' H2 hu ⟨y4, v, c', rfl, s2, wv, hc'⟩
    obtain ⟨k, hk, rfl⟩ := get_map_inv hu
    have kl := lt k (List.mem_of_getElem? hk)
    obtain ⟨e, he⟩ : ∃ e, es[k]? = some e := ⟨_, List.getElem?_eq_getElem kl⟩
    obtain ⟨y, hy⟩ : ∃ y, xs[k]? = some y := ⟨_, List.getElem?_eq_getElem (by rw [X.xl]; exact kl)⟩
    obtain ⟨d, hd⟩ : ∃ d, cs[k]? = some d := ⟨_, List.getElem?_eq_getElem (by rw [X.cl]; exact kl)⟩
    have yd : xs.getD k .non = y := by rw [List.getD_eq_getElem?_getD, hy]; rfl
    have s12 := s1.trans s2
    have wa := ((X.at' k y e d hy he hd).mono vo_out).mono s12
    have at2 : (ancW es ps p)[i]? = some e := by
      unfold ancW
      rw [List.getElem?_map, hk]
      show some (es.getD k (0, [])) = some e
      rw [List.getD_eq_getElem?_getD, he]
      rfl
    have wt : widen r.1 r.2 ((ancW es ps p).take (i + 1)) = widen1 r.1 (widen r.1 r.2 ((ancW es ps p).take i)) e := by rw [take_snoc at2, widen_snoc]
    have wl : (widen r.1 r.2 ((ancW es ps p).take i)).length = N := (widen_len _ _ _).trans rl
    generalize widen r.1 r.2 ((ancW es ps p).take i) = wd at wv wt wl
    have ln := X.ln e (List.mem_of_getElem? he)
    dsimp only [gName]
    rw [yd]
    refine ⟨_, rfl, _, rfl, v, y, r.1, e.1, wd, e.2, rfl, (wv.mono vo_out).sit, wa.sit, wl.trans ln.symm, fun H3 s3 => ?_⟩
    have vm : ∀ {G : Hp}, Same H2 G → Same (Vo (OwnE g la pa bd ad M) H2) (Vo (OwnE g la pa bd ad M) G) := fun {G} sg => FrW.vo (fun b o _ h => sg b o h) fun b h => .inl h
    refine ⟨_, rfl, ?_⟩
    cases hcv : covW r.1 wd e.1 e.2 with
    | false =>
      have w1 : widen1 r.1 wd e = wd := if_neg (by rw [hcv]; decide)
      exact iteFx rfl ⟨_, v, c', rfl, s2.trans s3, by rw [wt, w1]; exact wv.mono (vm s3), hc'⟩
    | true =>
      have w1 : widen1 r.1 wd e = widenL wd e.2 := if_pos hcv
      have ge : geW wd e.2 = true := (Bool.and_eq_true_iff.mp hcv).2
      refine iteTx rfl ⟨_, rfl, _, rfl, v, y, r.1, e.1, wd, e.2, rfl, ((wv.mono vo_out).mono s3).sit, (wa.mono s3).sit, wl.trans ln.symm, by omega, ge, fun H4 b s4 nw => ?_⟩
      obtain ⟨ca, n1, n2, n3, n4, n5⟩ := nw
      have s14 := s12.trans s3
      refine ⟨_, .ref b, ca, rfl, (s2.trans s3).trans s4, ?_, .inr (s14.free n2)⟩
      rw [wt, w1]
      exact ⟨b, rfl, vo_iff.mpr ⟨freshO b (s14.free n1), n4⟩, vo_iff.mpr ⟨freshO ca (s14.free n2), n5⟩⟩
  rintro σ' H2 ⟨y4, v, c', rfl, s2, wv, hc'⟩
  have al : (ancW es ps p).take ((ancI ps es.length p).map fun i => xs.getD i V.non).length = ancW es ps p := by
    unfold ancW
    rw [List.length_map, ← List.length_map (f := fun i => es.getD i ((0 : Int), ([] : List (Option Int)))), List.take_length]
  rw [al] at wv
  have s12 := s1.trans s2
  have X2 : ExpAt P w K C H2 g la pa bd ad M N es cs ps ks xs := X.asked (fun b o _ h => s12 _ _ h) (s12 _ _ X.ask) (X.keys.mono (FrW.vo (fun b o _ h => s12 b o h) fun b h => .inl h))
  have nc' : c' ∉ cs := fun h => by
    rcases hc' with rfl | hc'
    · exact nc h
    · obtain ⟨i, hi⟩ := List.getElem?_of_mem h
      have il := (List.getElem?_eq_some_iff.mp hi).1
      obtain ⟨u, hu⟩ : ∃ u, xs[i]? = some u := ⟨_, List.getElem?_eq_getElem (by rw [X.xl, ← X.cl]; exact il)⟩
      obtain ⟨e, he⟩ : ∃ e, es[i]? = some e := ⟨_, List.getElem?_eq_getElem (by rw [← X.cl]; exact il)⟩
      obtain ⟨_, _, _, h2⟩ := X.at' i u e c' hu he hi
      rw [(vo_iff.mp h2).2] at hc'
      cases hc'
  have Wl : (widen r.1 r.2 (ancW es ps p)).length = N := (widen_len _ _ _).trans rl
  generalize widen r.1 r.2 (ancW es ps p) = W at wv Wl q
  obtain ⟨aw, rfl, w1, w2⟩ := wv
  have wv : WAt (Vo (OwnE g la pa bd ad M) H2) (.ref aw) (r.1, W) c' := ⟨aw, rfl, w1, w2⟩
  obtain ⟨d1, d2, d3, d4, d5, d6, d7, d8, d9, d10⟩ := X.df
  obtain ⟨kvs, hbd, kl, hv⟩ := X2.dict
  obtain ⟨nOw, tw⟩ := vo_iff.mp w1
  have hg2 := s12 _ _ hg
  have xl := X.xl
  have pl := X.pl
  refine ⟨_, rfl, g, C, dx, fs, _, rfl, hg2, T.cl, T.nE, fld.explored, .inl ⟨rfl, _, sq X2.ex⟩, _, rfl, la, _, _, rfl, rfl, X2.ex, szl (by omega), ?_⟩
  refine ⟨_, rfl, g, C, dx, fs, _, rfl, by rw [upd_ne d1]; exact hg2, T.cl, T.nP, fld.parents, .inl ⟨rfl, _, sq (by rw [upd_ne d5.symm]; exact X2.par)⟩, _, rfl, pa, _, _, rfl, rfl, by rw [upd_ne d5.symm]; exact X2.par, by rw [List.length_map]; exact szl (by omega), ?_⟩
  have hL : (upd (upd H2 la (.lst (xs ++ [.ref aw]))) pa (.lst (ps.map pnV ++ [pnV p]))) la = some (.lst (xs ++ [.ref aw])) := by rw [upd_ne d5, upd_same]
  have hP : (upd (upd H2 la (.lst (xs ++ [.ref aw]))) pa (.lst (ps.map pnV ++ [pnV p]))) pa = some (.lst ((ps ++ [p]).map pnV)) := by rw [upd_same, List.map_append]; rfl
  have e3 : ∀ b, b ≠ la → b ≠ pa → (upd (upd H2 la (.lst (xs ++ [.ref aw]))) pa (.lst (ps.map pnV ++ [pnV p]))) b = H2 b := fun b h1 h2 => by rw [upd_ne h2, upd_ne h1]
  generalize upd (upd H2 la (.lst (xs ++ [.ref aw]))) pa (.lst (ps.map pnV ++ [pnV p])) = H3 at hL hP e3 ⊢
  have awl : aw ≠ la := fun z => nOw (.inr (.inl z))
  have awp : aw ≠ pa := fun z => nOw (.inr (.inr (.inl z)))
  have hg3 : H3 g = some (.ins C dx fs) := by rw [e3 g d1 d2]; exact hg2
  have hbd3 : H3 bd = some (.dK kvs) := by rw [e3 bd d6.symm d8.symm]; exact hbd
  have haw3 : H3 aw = some (.tup [.int r.1, .ref c']) := by rw [e3 aw awl awp]; exact tw
  refine ⟨_, rfl, g, C, dx, fs, _, rfl, hg3, T.cl, T.nB, fld.by_state, .inr (.inr (.inl ⟨rfl, .inl ⟨kvs, hbd3⟩⟩)), _, rfl, _, _, _, _, rfl, rfl, st haw3, atI_nat (j := 0) rfl, szc 0, fun nl nnl => ?_⟩
  have ndl : ∀ {b : Addr} {o : HO}, H3 b = some o → b ≠ nl := fun {b o} h z => by rw [z, nnl] at h; cases h
  have nl2 : H2 nl = none := by
    have h1 : nl ≠ la := (ndl hL).symm
    have h2 : nl ≠ pa := (ndl hP).symm
    rw [← e3 nl h1 h2]
    exact nnl
  have nl0 : H nl = none := s12.free nl2
  have fr : ∀ (M' : Int → Option Addr) (H' : Hp), (∀ b o, ¬ OwnE g la pa bd ad M b → H2 b = some o → H' b = some o) → (∀ t a, M' t = some a → M t = some a ∨ H2 a = none) → ExpAt P w K C H' g la pa bd ad M' N (es ++ [(r.1, W)]) (cs ++ [c']) (ps ++ [p]) ks (xs ++ [.ref aw]) → Q (.ref aw) H' := fun M' H' f new Y => q H' (.ref aw) c' M' (fun b o n h => f b o n (s12 _ _ h)) hc' (fun t a h => (new t a h).imp id fun z => s12.free z) Y
  have hv1 := hv r.1
  refine ⟨bd, kvs, Sum.inl r.1, .ref nl, rfl, rfl, by rw [upd_ne (ndl hbd3)]; exact hbd3, Nat.lt_of_le_of_lt kl (szl (by omega)), fun vv hvv => ?_, fun hn => ?_⟩
  · rw [hv1] at hvv
    cases eM : M r.1 with
    | none => rw [eM] at hvv; cases hvv
    | some b =>
      rw [eM] at hvv
      cases hvv
      obtain ⟨b1, b2, b3, b4, b5⟩ := X.own r.1 b eM
      have hb3 : H3 b = some (.lst (stL xs es r.1)) := by rw [e3 b b2 b3]; exact X2.lists r.1 b eM
      have hb4 : (upd H3 nl (.lst [])) b = some (.lst (stL xs es r.1)) := by rw [upd_ne (ndl hb3)]; exact hb3
      have sl : (stL xs es r.1).length ≤ es.length := by
        unfold stL
        rw [List.length_map]
        refine Nat.le_trans (List.length_filter_le _ _) ?_
        rw [List.length_zip, xl, Nat.min_self]
        exact Nat.le_refl _
      refine ⟨.inl ⟨rfl, _, sq hb4⟩, _, rfl, b, _, _, rfl, rfl, hb4, szl (by omega), _, rfl, ?_⟩
      have keep : ∀ y, y ≠ la → y ≠ pa → y ≠ nl → y ≠ b → (upd (upd H3 nl (.lst [])) b (.lst (stL xs es r.1 ++ [.ref aw]))) y = H2 y := fun y h1 h2 h3 h4 => by rw [upd_ne h4, upd_ne h3, e3 y h1 h2]
      refine fr M _ (fun y o n h => ?_) (fun t a h => .inl h) (X2.grow wv nc' Wl hp (fun y o n h => ?_) ?_ ?_ ?_ ?_ ⟨kvs, ?_, by rw [List.length_append]; omega, hv⟩ (fun t a h => ?_) X.inj X.own (fun t a h => h) (fun t a h => .inl h) (by show M r.1 ≠ none; rw [eM]; exact fun z => nomatch z))
      · rw [keep y (fun z => n (.inr (.inl z))) (fun z => n (.inr (.inr (.inl z)))) (fun z => by rw [z, nl2] at h; cases h) (fun z => n (.inr (.inr (.inr (.inr (.inr ⟨r.1, by rw [z]; exact eM⟩))))))]; exact h
      · rw [keep y (fun z => n (.inr (.inl z))) (fun z => n (.inr (.inr (.inl z)))) (fun z => by rw [z, nl2] at h; cases h) (fun z => n (.inr (.inr (.inr (.inr (.inr ⟨r.1, by rw [z]; exact eM⟩))))))]; exact h
      · exact keep g d1 d2 (ndl hg3) b1.symm
      · refine keep ad d7.symm d9.symm (fun z => ?_) b5.symm
        have := X2.ask
        rw [z, nl2] at this
        cases this
      · rw [upd_ne b2.symm, upd_ne (ndl hL)]; exact hL
      · rw [upd_ne b3.symm, upd_ne (ndl hP)]; exact hP
      · rw [upd_ne b4.symm, upd_ne (ndl hbd3)]; exact hbd3
      · rw [stL_snoc xl]
        by_cases z : a = b
        · have tr : t = r.1 := X.inj t r.1 b (by rw [← z]; exact h) eM
          rw [z, upd_same, if_pos tr.symm, tr]
        · have ht := X.own t a h
          have ht2 := X2.lists t a h
          rw [keep a ht.2.1 ht.2.2.1 (fun y => by rw [y, nl2] at ht2; cases ht2) z, if_neg fun y => z (by have y : r.1 = t := y; rw [← y, eM] at h; exact (Option.some.inj h).symm), List.append_nil]
          exact ht2
  · have eM : M r.1 = none := by
      rw [hv1] at hn
      cases eM : M r.1 with
      | none => rfl
      | some b => rw [eM] at hn; cases hn
    have nbd : bd ≠ nl := ndl hbd3
    have h5 : (upd (upd H3 nl (.lst [])) bd (.dK (kvs ++ [(Sum.inl r.1, V.ref nl)]))) nl = some (.lst []) := by rw [upd_ne nbd.symm, upd_same]
    refine ⟨.inl ⟨rfl, _, sq h5⟩, _, rfl, nl, _, _, rfl, rfl, h5, szl (by decide), _, rfl, ?_⟩
    have keep : ∀ y, y ≠ la → y ≠ pa → y ≠ nl → y ≠ bd → (upd (upd (upd H3 nl (.lst [])) bd (.dK (kvs ++ [(Sum.inl r.1, V.ref nl)]))) nl (.lst ([] ++ [.ref aw]))) y = H2 y := fun y h1 h2 h3 h4 => by rw [upd_ne h3, upd_ne h4, upd_ne h3, e3 y h1 h2]
    have nilL : stL xs es r.1 = [] := by
      unfold stL
      rw [List.filter_eq_nil_iff.mpr fun z hz e => ?_]
      · rfl
      · have he : z.2 ∈ es := (List.of_mem_zip hz).2
        exact X.has z.2 he (by rw [of_decide_eq_true e]; exact eM)
    have M1 : ∀ t a, (if t = r.1 then some nl else M t) = some a → (t = r.1 ∧ a = nl) ∨ (t ≠ r.1 ∧ M t = some a) := fun t a h => by
      by_cases z : t = r.1
      · rw [if_pos z] at h
        exact .inl ⟨z, (Option.some.inj h).symm⟩
      · rw [if_neg z] at h
        exact .inr ⟨z, h⟩
    have nMl : ∀ t a, M t = some a → a ≠ nl := fun t a h z => by
      have := X2.lists t a h
      rw [z, nl2] at this
      cases this
    have fkeep : ∀ y o, ¬ OwnE g la pa bd ad M y → H2 y = some o → (upd (upd (upd H3 nl (.lst [])) bd (.dK (kvs ++ [(Sum.inl r.1, V.ref nl)]))) nl (.lst ([] ++ [.ref aw]))) y = some o := fun y o n h => by
      rw [keep y (fun z => n (.inr (.inl z))) (fun z => n (.inr (.inr (.inl z)))) (fun z => by rw [z, nl2] at h; cases h) (fun z => n (.inr (.inr (.inr (.inl z)))))]
      exact h
    have nwM : ∀ t a, (if t = r.1 then some nl else M t) = some a → M t = some a ∨ H2 a = none := fun t a h => (M1 t a h).elim (fun z => .inr (by rw [z.2]; exact nl2)) fun z => .inl z.2
    refine fr (fun t => if t = r.1 then some nl else M t) _ fkeep nwM (X2.grow wv nc' Wl hp fkeep ?_ ?_ ?_ ?_ ⟨kvs ++ [(Sum.inl r.1, V.ref nl)], ?_, by rw [List.length_append, List.length_append]; exact Nat.add_le_add_right kl 1, fun t => ?_⟩ (fun t a h => ?_) (fun t t' a h h' => ?_) (fun t a h => ?_) (fun t a h => ?_) nwM ?_)
    · exact keep g d1 d2 (ndl hg3) d3
    · refine keep ad d7.symm d9.symm (fun z => ?_) d10.symm
      have := X2.ask
      rw [z, nl2] at this
      cases this
    · rw [upd_ne (ndl hL), upd_ne d6, upd_ne (ndl hL)]; exact hL
    · rw [upd_ne (ndl hP), upd_ne d8, upd_ne (ndl hP)]; exact hP
    · rw [upd_ne nbd, upd_same]
    · rw [valV_snoc _ _ _ _ hn]
      show _ = (if t = r.1 then some nl else M t).map V.ref
      by_cases z : t = r.1
      · rw [if_pos z, if_pos (by rw [z])]
        rfl
      · rw [if_neg z, if_neg fun y => z (Sum.inl.inj y)]
        exact hv t
    · rcases M1 t a h with ⟨z1, z2⟩ | ⟨z1, z2⟩
      · rw [stL_snoc xl, z1, z2, upd_same, nilL, if_pos rfl]
      · have ht := X.own t a z2
        rw [stL_snoc xl, keep a ht.2.1 ht.2.2.1 (nMl t a z2) ht.2.2.2.1, if_neg fun y => z1 y.symm, List.append_nil]
        exact X2.lists t a z2
    · rcases M1 t a h with ⟨z1, z2⟩ | ⟨z1, z2⟩
      · rcases M1 t' a h' with ⟨y1, y2⟩ | ⟨y1, y2⟩
        · rw [z1, y1]
        · exact absurd z2 (nMl t' a y2)
      · rcases M1 t' a h' with ⟨y1, y2⟩ | ⟨y1, y2⟩
        · exact absurd y2 (nMl t a z2)
        · exact X.inj t t' a z2 y2
    · rcases M1 t a h with ⟨z1, z2⟩ | ⟨z1, z2⟩
      · rw [z2]
        refine ⟨(ndl hg3).symm, (ndl hL).symm, (ndl hP).symm, nbd.symm, fun z => ?_⟩
        have := X2.ask
        rw [← z, nl2] at this
        cases this
      · exact X.own t a z2
    · show (if t = r.1 then some nl else M t) = some a
      rw [if_neg fun z => by rw [z, eM] at h; cases h]
      exact h
    · show (if r.1 = r.1 then some nl else M r.1) ≠ none
      rw [if_pos rfl]
      exact fun z => nomatch z
end
/-! ### Explorer.__init__ -/
theorem putF_one {f : Str} {v : V} {n : Nat} : ∀ {fs : List (Str × V)}, fs.length ≤ n → (putF f v fs).length ≤ n + 1
  | [], _ => Nat.le_add_left 1 n
  | (g, x) :: r, h => by
    rw [List.length_cons] at h
    show (if g = f then (g, v) :: r else (g, x) :: putF f v r).length ≤ n + 1
    split
    · rw [List.length_cons]; omega
    · rw [List.length_cons]
      obtain ⟨m, rfl⟩ : ∃ m, n = m + 1 := ⟨n - 1, by omega⟩
      exact Nat.succ_le_succ (putF_one (n := m) (fs := r) (by omega))
theorem EFld.start (la pa bd ad : Addr) : EFld (putF "asked" (.ref ad) (putF "by_state" (.ref bd) (putF "parents" (.ref pa) (putF "explored" (.ref la) [])))) la pa bd ad := by
  refine ⟨?_, ?_, ?_, ?_, ?_, fun m h1 h2 h3 h4 => ?_⟩
  · rw [lookup_putF, if_neg (by decide +kernel), lookup_putF, if_neg (by decide +kernel), lookup_putF, if_neg (by decide +kernel), lookup_putF, if_pos rfl]
  · rw [lookup_putF, if_neg (by decide +kernel), lookup_putF, if_neg (by decide +kernel), lookup_putF, if_pos rfl]
  · rw [lookup_putF, if_neg (by decide +kernel), lookup_putF, if_pos rfl]
  · rw [lookup_putF, if_pos rfl]
  · exact putF_one (putF_one (putF_one (putF_one (Nat.le_refl 0))))
  · rw [lookup_putF, if_neg (by exact h4), lookup_putF, if_neg (by exact h3), lookup_putF, if_neg (by exact h2), lookup_putF, if_neg (by exact h1)]
    rfl
section
variable {P : Program} {w : World} {K : PySem.W.Frag} {mg : Str → Option Value} {base : Heap}
variable {C : Addr}
abbrev s_Explorer_init : Stmt := inClass (topS 11) 0
theorem sc_Explorer_init : FnScope ["self"] ["self"] (defScope s_Explorer_init) := ⟨rfl, rfl, rfl, by decide +kernel, rfl, by decide +kernel, by decide +kernel⟩
-- Explorer.__init__ slots: self=0 globals: 
def spEInit (P : Program) (w : World) (K : PySem.W.Frag) (C : Addr) : Sp := fun vs H Q _ => ∃ (g dx : Addr), vs = [.ref g] ∧ H g = some (.ins C dx []) ∧
  ∀ H' la pa bd ad, (∀ b o, b ≠ g → H b = some o → H' b = some o) → H la = none → H pa = none → H bd = none → H ad = none → (∀ N, ExpAt P w K C H' g la pa bd ad (fun _ => none) N [] [] [] [] []) → Q .non H'
theorem fd_Explorer_init {f : Addr} {fd : FuncData} (F : Fun K "__init__" "Explorer.__init__" s_Explorer_init f fd) (T : TxtE K mg C) : FnOk P w K mg base CX0 1 f fd ["self"] (spEInit P w K C) := by
  refine F.ok sc_Explorer_init (fun vs H Q E h => ?_) (fun cdv A outer s H vs Q E hr h => ?_)
  · obtain ⟨g, dx, rfl, _⟩ := h
    rfl
  obtain ⟨g, dx, rfl, hg, q⟩ := h
  refine ⟨_, (pss_cons (ps_fld (pv 0) (pe_lst pa_nil) rfl)
 (pss_cons (ps_fld (pv 0) (pe_lst pa_nil) rfl)
 (pss_cons (ps_fld (pv 0) pe_dnewK rfl)
 (pss_one (ps_fld (pv 0) pe_dnewN rfl))))), ?_⟩
  refine ⟨szc 0, fun la n1 => ?_⟩
  have g1 : g ≠ la := fun z => by rw [z, n1] at hg; cases hg
  refine ⟨_, rfl, g, C, dx, _, rfl, by rw [upd_ne g1]; exact hg, T.cl, T.nE, by decide, ?_⟩
  refine ⟨szc 0, fun pa n2 => ?_⟩
  have a1 : (upd (upd H la (.lst [])) g (.ins C dx (putF "explored" (.ref la) []))) la = some (.lst []) := by rw [upd_ne g1.symm, upd_same]
  have b1 : (upd (upd H la (.lst [])) g (.ins C dx (putF "explored" (.ref la) []))) g = some (.ins C dx (putF "explored" (.ref la) [])) := upd_same
  have k1 : ∀ b o, b ≠ g → H b = some o → (upd (upd H la (.lst [])) g (.ins C dx (putF "explored" (.ref la) []))) b = some o := fun b o hb h => by rw [upd_ne hb]; exact same_new n1 _ _ h
  have z1 : ∀ b, (upd (upd H la (.lst [])) g (.ins C dx (putF "explored" (.ref la) []))) b = none → H b = none := fun b h => by
    by_cases e : b = g
    · rw [e, upd_same] at h; cases h
    · rw [upd_ne e] at h
      exact (same_new n1).free h
  generalize upd (upd H la (.lst [])) g (.ins C dx (putF "explored" (.ref la) [])) = H1 at a1 b1 k1 z1 n2 ⊢
  have p1 : pa ≠ la := fun z => by rw [z, a1] at n2; cases n2
  have g2 : g ≠ pa := fun z => by rw [← z, b1] at n2; cases n2
  refine ⟨_, rfl, g, C, dx, _, rfl, by rw [upd_ne g2]; exact b1, T.cl, T.nP, Nat.lt_of_le_of_lt (putF_one (Nat.le_refl 0)) (by decide), ?_⟩
  refine fun bd n3 => ?_
  have a2 : (upd (upd H1 pa (.lst [])) g (.ins C dx (putF "parents" (.ref pa) (putF "explored" (.ref la) [])))) la = some (.lst []) := by rw [upd_ne g1.symm, upd_ne p1.symm, a1]
  have c2 : (upd (upd H1 pa (.lst [])) g (.ins C dx (putF "parents" (.ref pa) (putF "explored" (.ref la) [])))) pa = some (.lst []) := by rw [upd_ne g2.symm, upd_same]
  have b2 : (upd (upd H1 pa (.lst [])) g (.ins C dx (putF "parents" (.ref pa) (putF "explored" (.ref la) [])))) g = some (.ins C dx (putF "parents" (.ref pa) (putF "explored" (.ref la) []))) := upd_same
  have k2 : ∀ b o, b ≠ g → H b = some o → (upd (upd H1 pa (.lst [])) g (.ins C dx (putF "parents" (.ref pa) (putF "explored" (.ref la) [])))) b = some o := fun b o hb h => by rw [upd_ne hb]; exact same_new n2 _ _ (k1 b o hb h)
  have z2 : ∀ b, (upd (upd H1 pa (.lst [])) g (.ins C dx (putF "parents" (.ref pa) (putF "explored" (.ref la) [])))) b = none → H b = none := fun b h => by
    by_cases e : b = g
    · rw [e, upd_same] at h; cases h
    · rw [upd_ne e] at h
      exact z1 b ((same_new n2).free h)
  generalize upd (upd H1 pa (.lst [])) g (.ins C dx (putF "parents" (.ref pa) (putF "explored" (.ref la) []))) = H2 at a2 b2 c2 k2 z2 n3 ⊢
  have d1 : bd ≠ la := fun z => by rw [z, a2] at n3; cases n3
  have d2 : bd ≠ pa := fun z => by rw [z, c2] at n3; cases n3
  have g3 : g ≠ bd := fun z => by rw [← z, b2] at n3; cases n3
  refine ⟨_, rfl, g, C, dx, _, rfl, by rw [upd_ne g3]; exact b2, T.cl, T.nB, Nat.lt_of_le_of_lt (putF_one (putF_one (Nat.le_refl 0))) (by decide), ?_⟩
  have a3 : (upd (upd H2 bd (.dK [])) g (.ins C dx (putF "by_state" (.ref bd) (putF "parents" (.ref pa) (putF "explored" (.ref la) []))))) la = some (.lst []) := by rw [upd_ne g1.symm, upd_ne d1.symm, a2]
  have c3 : (upd (upd H2 bd (.dK [])) g (.ins C dx (putF "by_state" (.ref bd) (putF "parents" (.ref pa) (putF "explored" (.ref la) []))))) pa = some (.lst []) := by rw [upd_ne g2.symm, upd_ne d2.symm, c2]
  have e3 : (upd (upd H2 bd (.dK [])) g (.ins C dx (putF "by_state" (.ref bd) (putF "parents" (.ref pa) (putF "explored" (.ref la) []))))) bd = some (.dK []) := by rw [upd_ne g3.symm, upd_same]
  have b3 : (upd (upd H2 bd (.dK [])) g (.ins C dx (putF "by_state" (.ref bd) (putF "parents" (.ref pa) (putF "explored" (.ref la) []))))) g = some (.ins C dx (putF "by_state" (.ref bd) (putF "parents" (.ref pa) (putF "explored" (.ref la) [])))) := upd_same
  have k3 : ∀ b o, b ≠ g → H b = some o → (upd (upd H2 bd (.dK [])) g (.ins C dx (putF "by_state" (.ref bd) (putF "parents" (.ref pa) (putF "explored" (.ref la) []))))) b = some o := fun b o hb h => by rw [upd_ne hb]; exact same_new n3 _ _ (k2 b o hb h)
  have z3 : ∀ b, (upd (upd H2 bd (.dK [])) g (.ins C dx (putF "by_state" (.ref bd) (putF "parents" (.ref pa) (putF "explored" (.ref la) []))))) b = none → H b = none := fun b h => by
    by_cases e : b = g
    · rw [e, upd_same] at h; cases h
    · rw [upd_ne e] at h
      exact z2 b ((same_new n3).free h)
  refine fun ad n4 => ?_
  generalize upd (upd H2 bd (.dK [])) g (.ins C dx (putF "by_state" (.ref bd) (putF "parents" (.ref pa) (putF "explored" (.ref la) [])))) = H3 at a3 b3 c3 e3 k3 z3 n4 ⊢
  have q1 : ad ≠ la := fun z => by rw [z, a3] at n4; cases n4
  have q2 : ad ≠ pa := fun z => by rw [z, c3] at n4; cases n4
  have q3 : ad ≠ bd := fun z => by rw [z, e3] at n4; cases n4
  have g4 : g ≠ ad := fun z => by rw [← z, b3] at n4; cases n4
  refine ⟨_, rfl, g, C, dx, _, rfl, by rw [upd_ne g4]; exact b3, T.cl, T.nA, Nat.lt_of_le_of_lt (putF_one (putF_one (putF_one (Nat.le_refl 0)))) (by decide), ?_⟩
  refine q _ la pa bd ad (fun b o hb h => by rw [upd_ne hb]; exact same_new n4 _ _ (k3 b o hb h)) n1 (z1 pa n2) (z2 bd n3) (z3 ad n4) fun N => ?_
  refine ⟨⟨dx, _, upd_same, EFld.start la pa bd ad⟩, ⟨g1, g2, g3, g4, p1.symm, d1.symm, q1.symm, d2.symm, q2.symm, q3.symm⟩, ?_, rfl, rfl, fun i v r c h => ?_, List.nodup_nil, fun r h => (nomatch h), ?_, rfl, fun i j h => ?_, ⟨[], ?_, Nat.le_refl 0, fun t => rfl⟩, fun t a h => (nomatch h), fun t t' a h => (nomatch h), fun t a h => (nomatch h), fun r h => (nomatch h), ?_, fun x h => nomatch h⟩
  · rw [upd_ne g1.symm, upd_ne q1.symm]; exact a3
  · simp at h
  · rw [upd_ne g2.symm, upd_ne q2.symm]; exact c3
  · simp at h
  · rw [upd_ne g3.symm, upd_ne q3.symm]; exact e3
  · rw [upd_ne g4.symm]; exact upd_same
theorem mkr_Explorer {f : Addr} {fd : FuncData} (F : Fun K "__init__" "Explorer.__init__" s_Explorer_init f fd) (T : TxtE K mg C) (mk : Mk K C f) : Mkr P w K mg base C ["self"] 1 (spEInit P w K C) :=
  ⟨f, fd, fd_Explorer_init F T, mk, F.binds (ps := ["self"]) fun _ _ _ _ _ _ us hl => match us, hl with | [_], _ => rfl⟩
end
/-! ### Explorer.cover -/
section
variable {X : Cx}
def rSortK0 (K : PySem.W.Frag) (β : Type) (sp : Sp) : List V → Hp → VK → Prop := fun vs H Q => ∃ (l : Addr) (xs : List V) (bs : List β) (key : β → PyData), vs = [.ref l] ∧ SqL K H l xs ∧ xs.length = bs.length ∧ bs.length ≤ 90000 ∧ PySem.W.AllAlike (bs.map key) ∧ PySem.W.Sortable (bs.map key) ∧ (∀ d ∈ bs.map key, d.depth ≤ 10) ∧
  (∀ x b, (x, b) ∈ xs.zip bs → ∀ (H1 : Hp) (Q' : VK), Same H H1 → (∀ H2 v, Same H1 H2 → Dp K (Nw H1 H2) v (key b) → Q' v H2) → sp [x] H1 Q' E0) ∧
  ∀ H' p ys, Same H H' → H p = none → H' p = some (.lst ys) → Paired (fun y c => (y, c) ∈ xs.zip bs) ys (bs.mergeSort (PySem.W.dataLe false key)) → Q (.ref p) H'
theorem sortK0 {K : PySem.W.Frag} {β : Type} {ff : Addr} {sp : Sp} {vs : List V} {H : Hp} {Q : VK} : rSortK0 K β sp vs H Q = rSortK K β ff sp vs [.ref ff] H Q := propext ⟨fun ⟨l, xs, bs, key, a, b⟩ => ⟨l, xs, bs, key, a, rfl, b⟩, fun ⟨l, xs, bs, key, a, _, b⟩ => ⟨l, xs, bs, key, a, b⟩⟩
def tSortK (K : PySem.W.Frag) (β : Type) (sp : Sp) (t : TA) : TE := fun σ H Q => t σ H fun vs H1 => rSortK0 K β sp vs H1 Q
theorem pe_sortK {β : Type} {k : Nat} {y : Str} {ps : List Str} {sp : Sp} {e : Expr} {t : TA} {p p2 p3 pos : Pos} (D : Fd X.prog X.w X.K X.mg X.base y ps k sp) (hr : Room (k + 2) X.A) (hg : Gl X (Str.ofString "sorted")) (hm : X.mg (Str.ofString "sorted") = none) (hv : bootBuiltins (Str.ofString "sorted") = some (.builtin "sorted")) (hy : Gl X y) (ha : PA X [e] t) (hd : (y == ("__debug__" : Str)) = false := by decide)
    (he : backTo pos (starEach [e] X.env) = (false, eval e X.env) :: backTo pos (starEach [] X.env) := by rfl) (hpl : (backTo pos (starEach [e] X.env)).any (·.1) = false := by rfl)
    (hall : (backToKw pos (keywordEach [⟨some (Str.ofString "key"), .Name y p2, p3⟩] X.env)).all (·.1.isSome) = true := by rfl) (hnone : (backToKw pos (keywordEach [⟨some (Str.ofString "key"), .Name y p2, p3⟩] X.env)).any (·.1.isNone) = false := by rfl) (hks : (backToKw pos (keywordEach [⟨some (Str.ofString "key"), .Name y p2, p3⟩] X.env)).filterMap (·.1) = [Str.ofString "key"] := by rfl) :
    PE X (.Call (.Name (Str.ofString "sorted") p) [e] [⟨some (Str.ofString "key"), .Name y p2, p3⟩] pos) (tSortK X.K β sp t) := by
  obtain ⟨f, fd, F, hm2, kp, b⟩ := D.ex
  have main := pe_callBK (X := X) (p := p) (pos := pos) (kws := [⟨some (Str.ofString "key"), .Name y p2, p3⟩]) (cr_sortK (β := β) F hr b) hg hm hv ha (pk_cons (pe_glob hy hm2 (show RelV (.ref f) (.ref f) from rfl) hd) pk_nil) (by decide) (by decide) he hpl hall hnone hks
  refine ⟨fun pins s σ H Q I h => main.run pins s σ H Q I ?_⟩
  show t σ H fun vs H1 => rSortK X.K β f sp vs [.ref f] H1 Q
  have e : (fun (vs : List V) (H1 : Hp) => rSortK X.K β f sp vs [.ref f] H1 Q) = fun vs H1 => rSortK0 X.K β sp vs H1 Q := funext fun vs => funext fun H1 => sortK0.symm
  rw [e]
  exact h
end
/-- a loop over the numbered items of a list -/
theorem for_enumL {K : PySem.W.Frag} {a : Addr} {xs : List V} {g : TG} {tb : TS} {D : Ends} {σ : L2.St} {H : Hp} (Pv : Nat → L2.St → Hp → Prop) (h0 : Pv 0 σ H) (hq : ∀ i σ H, Pv i σ H → SqL K H a xs)
    (hs : ∀ (i : Nat) (x : V) (T : Addr) (σ : L2.St) (H : Hp), xs[i]? = some x → Pv i σ H → H T = none → g (.ref T) σ (upd H T (.tup [.int (i : Nat), x])) fun σ2 H2 => tb { D with nx := Pv (i + 1), ct := Pv (i + 1), bk := D.nx } σ2 H2) (hd : ∀ σ H, Pv xs.length σ H → D.nx σ H) :
    ∃ W : Nat → Nat → L2.St → Hp → Prop, (∃ m, W 0 m σ H) ∧ ∀ i m σ H, W i m σ H →
      ((Ite K a).stop i H ∧ D.nx σ H) ∨ ((Ite K a).go i H ∧ ∃ N : L2.St → Hp → Prop, (∀ σ' H', N σ' H' → ∃ m', m' < m ∧ W (i + 1) m' σ' H') ∧ ∀ v H', (Ite K a).yld i H v H' → g v σ H' fun σ2 H2 => tb { D with nx := N, ct := N, bk := D.nx } σ2 H2) := by
  refine ⟨fun i m σ H => m + i = xs.length ∧ Pv i σ H, ⟨xs.length, rfl, h0⟩, fun i m σ H ⟨e, p⟩ => ?_⟩
  have q := hq i σ H p
  cases hx : xs[i]? with
  | none =>
    have l := List.getElem?_eq_none_iff.mp hx
    obtain rfl : i = xs.length := by omega
    exact .inl ⟨⟨xs, q, Nat.le_refl _⟩, hd σ H p⟩
  | some x =>
    have l := (List.getElem?_eq_some_iff.mp hx).1
    refine .inr ⟨⟨xs, x, q, hx⟩, Pv (i + 1), fun σ' H' p' => ⟨m - 1, by omega, by omega, p'⟩, fun v H' y => ?_⟩
    obtain ⟨T, x', rfl, nT, rfl, f⟩ := y
    obtain rfl : x' = x := Option.some.inj ((f xs q).symm.trans hx)
    exact hs i x' T σ H hx p nT
section
variable {P : Program} {w : World} {K : PySem.W.Frag} {mg : Str → Option Value} {base : Heap}
variable {C : Addr}
/-- the explored ones that no later one covers -/
abbrev grB (es : List Wn) (i : Nat) : Bool := !cvd (es.drop (i + 1)) (es.getD i (0, []))
abbrev grI (es : List Wn) (n : Nat) : List Nat := (List.range n).filter (grB es)
theorem grI_succ (es : List Wn) (n : Nat) : grI es (n + 1) = grI es n ++ (if grB es n = true then [n] else []) := by
  unfold grI
  rw [List.range_succ, List.filter_append]
  congr 1
  rw [List.filter_cons]
  rfl
section
open PySem.W
theorem rk_al1 (x y : Option Int) : alike (rkO x) (rkO y) = true := by
  cases x <;> cases y <;> simp [rkO, alike, alikeAll]
theorem rk_al : ∀ (a b : List (Option Int)), alikeAll (a.map rkO) (b.map rkO) = true
  | [], _ => by simp [alikeAll]
  | _ :: _, [] => by simp [alikeAll]
  | x :: xs, y :: ys => by
    show alikeAll (rkO x :: xs.map rkO) (rkO y :: ys.map rkO) = true
    rw [alikeAll, rk_al xs ys, rk_al1]
    rfl
theorem rkD_alike (a b : Wn) : alike (rkD a) (rkD b) = true := by
  simp [rkD, alike, alikeAll, rk_al]
end
theorem rk_dep : ∀ a : List (Option Int), PyData.depthAll (a.map rkO) ≤ 1
  | [] => by simp [PyData.depthAll]
  | none :: a => by
    have := rk_dep a
    show max 1 (PyData.depthAll (a.map rkO)) ≤ 1
    omega
  | some i :: a => by
    have := rk_dep a
    show max 1 (PyData.depthAll (a.map rkO)) ≤ 1
    omega
theorem rkD_dep (a : Wn) : (rkD a).depth ≤ 10 := by
  have := rk_dep a.2
  show max 0 (max (PyData.depthAll (a.2.map rkO) + 1) 0) + 1 ≤ 10
  omega
theorem dpa_ix {K : PySem.W.Frag} {H : Hp} : ∀ {xs : List V} {es : List Wn}, xs.length = es.length → (∀ (i : Nat) (v : V) (r : Wn), xs[i]? = some v → es[i]? = some r → Dp K H v (wD r)) → DpAll K H xs (es.map wD)
  | [], [], _, _ => .nil
  | x :: xs, e :: es, h, f => .cons (f 0 x e rfl rfl) (dpa_ix (xs := xs) (es := es) (Nat.succ.inj h) fun i v r h1 h2 => f (i + 1) v r h1 h2)
theorem cut_dropE (xs : List V) (n : Nat) : cutV xs (some (((n : Nat) : Int) + 1)) none = xs.drop (n + 1) := by
  have e : ((n : Nat) : Int) + 1 = ((n + 1 : Nat) : Int) := rfl
  unfold cutV
  rw [e, HT.sIx_nat]
  show List.take (xs.length - min (n + 1) xs.length) (List.drop (min (n + 1) xs.length) xs) = _
  rcases Nat.le_total (n + 1) xs.length with h | h
  · rw [Nat.min_eq_left h, List.take_of_length_le (by rw [List.length_drop]; exact Nat.le_refl _)]
  · rw [Nat.min_eq_right h, List.drop_length, List.drop_eq_nil_of_le h, List.take_nil]
abbrev s_Explorer_cover : Stmt := inClass (topS 11) 4
theorem sc_Explorer_cover : FnScope ["self", "greatest", "at", "wide"] ["self"] (defScope s_Explorer_cover) := ⟨rfl, rfl, rfl, by decide +kernel, rfl, by decide +kernel, by decide +kernel⟩
-- Explorer.cover slots: self=0 greatest=1 at=2 wide=3 globals: enumerate is_covered sorted rank_of_wide
def spCover (P : Program) (w : World) (K : PySem.W.Frag) (C : Addr) : Sp := fun vs H Q _ => ∃ (g la pa bd ad : Addr) (M : Int → Option Addr) (N : Nat) (es : List Wn) (cs : List Addr) (ps : List (Option Nat)) (ks : List (NestedKey × Addr)) (xs : List V), vs = [.ref g] ∧ ExpAt P w K C H g la pa bd ad M N es cs ps ks xs ∧ es.length ≤ 80000 ∧ N ≤ 80000 ∧
  ∀ H' D ys, Same H H' → H D = none → H' D = some (.lst ys) → Paired (fun y z => (y, z) ∈ ((grI es es.length).map fun i => xs.getD i .non).zip ((grI es es.length).map fun i => (es.getD i (0, []), cs.getD i 0))) ys (((grI es es.length).map fun i => (es.getD i (0, []), cs.getD i 0)).mergeSort (PySem.W.dataLe false fun z => rkD z.1)) → Q (.ref D) H'
set_option maxHeartbeats 4000000 in
theorem md_cover {f : Addr} {fd : FuncData} (F : Fun K "cover" "Explorer.cover" s_Explorer_cover f fd) (T : TxtE K mg C) (mm : Meth K C "cover" f) (B : Bt mg) (D_is_covered : Fd P w K mg base "is_covered" ["situation", "wides"] 2 (spIsCov K)) (D_rank_of_wide : Fd P w K mg base "rank_of_wide" ["situation"] 1 (spRank K)) : Md P w K mg base C "cover" ["self"] 4 (spCover P w K C) := by
  refine ⟨f, fd, F.ok sc_Explorer_cover (fun vs H Q E h => ?_) (fun cdv A outer s H vs Q E hr h => ?_), mm, F.binds (ps := ["self"]) fun _ _ _ _ _ _ us hl => match us, hl with | [_], _ => rfl⟩
  · obtain ⟨_, _, _, _, _, _, _, _, _, _, _, _, rfl, _⟩ := h
    rfl
  obtain ⟨g, la, pa, bd, ad, M, N, es, cs, ps, ks, xs, rfl, X, hz, hN, q⟩ := h
  obtain ⟨dx, fs, hg, fld⟩ := X.ob
  refine ⟨_, (pss_cons (ps_set (i := 1) sc_Explorer_cover.nd rfl (Or.inl rfl) (pe_lst pa_nil))
 (pss_cons (ps_for PassesOwn.never rfl (pi_enum (by rfl) B.enumerate (pa_cons (pe_fld (pv 0) rfl) pa_nil)) (pg_tup rfl (pgs_cons (pg_name (i := 2) sc_Explorer_cover.nd rfl (Or.inl rfl)) (pgs_cons (pg_name (i := 3) sc_Explorer_cover.nd rfl (Or.inl rfl)) pgs_nil)))
 (pss_one (ps_if (pt_not (pt_val (pe_fn D_is_covered (hr.mono (by decide)) rfl (pa_cons (pv 3) (pa_cons (pe_slice (slL K) (pe_fld (pv 0) rfl) (po_some (pe_op op_add (pv 2) pe_int)) po_none) pa_nil)))))
 (pss_one (ps_expr (peBm K PySem.F.plainAttrs_list PySem.F.slot_list_append PySem.F.type_list_append mt_append (pv 1) (pa_cons (pv 3) pa_nil))))
 pss_nil)))
 (pss_one (ps_ret ((pe_sortK (β := Wn × Addr) D_rank_of_wide (hr.mono (by decide)) (by rfl) B.sorted (by decide +kernel) (by rfl) (pa_cons (pv 1) pa_nil))))))), ?_⟩
  refine ⟨szc 0, fun o no => ?_⟩
  dsimp only [gName]
  have so := same_new (o := HO.lst []) no
  refine ⟨_, rfl, g, C, dx, fs, _, rfl, so _ _ hg, T.cl, T.nE, fld.explored, la, xs, rfl, sq (so _ _ X.ex), for_enumL (xs := xs) (fun i σ' H' => ∃ (y2 y3 : Option V), σ' = [some (.ref g), some (.ref o), y2, y3] ∧ Same H H' ∧ H' o = some (.lst ((grI es i).map fun i => xs.getD i .non))) ⟨none, none, rfl, so, upd_same⟩ ?_ ?_ ?_⟩
  · rintro i σ' H' ⟨y2, y3, rfl, sm, _⟩
    exact sq (sm _ _ X.ex)
  · rintro i x t σ' H1 hx ⟨y2, y3, rfl, s1, eo⟩ nt
    have il : i < es.length := by rw [← X.xl]; exact (List.getElem?_eq_some_iff.mp hx).1
    obtain ⟨e, he⟩ : ∃ e, es[i]? = some e := ⟨_, List.getElem?_eq_getElem il⟩
    obtain ⟨c, hc⟩ : ∃ c, cs[i]? = some c := ⟨_, List.getElem?_eq_getElem (by rw [X.cl]; exact il)⟩
    have sT := s1.trans (same_new (o := HO.tup [V.int (i : Nat), x]) nt)
    have eo2 := same_new (o := HO.tup [V.int (i : Nat), x]) nt _ _ eo
    refine ⟨_, _, rfl, .inl (.inl upd_same), rfl, _, _, rfl, _, _, rfl, rfl, ?_⟩
    generalize upd H1 t (.tup [V.int (i : Nat), x]) = H2 at sT eo2 ⊢
    have gd : es.getD i (0, []) = e := by rw [List.getD_eq_getElem?_getD, he]; rfl
    have gx : xs.getD i .non = x := by rw [List.getD_eq_getElem?_getD, hx]; rfl
    have wx := ((X.at' i x e c hx he hc).mono vo_out).mono sT
    refine ⟨_, rfl, _, rfl, g, C, dx, fs, _, rfl, sT _ _ hg, T.cl, T.nE, fld.explored, _, rfl, _, _, rfl, rfl, _, rfl, la, xs, rfl, sq (sT _ _ X.ex), fun D2 n2 => ?_⟩
    have s2 := same_new (o := HO.lst (cutV xs (some ((i : Nat) + 1)) none)) n2
    have e2 : (upd H2 D2 (.lst (cutV xs (some ((i : Nat) + 1)) none))) D2 = some (.lst (xs.drop (i + 1))) := by rw [upd_same, cut_dropE]
    have dl : DpAll K (upd H2 D2 (.lst (cutV xs (some ((i : Nat) + 1)) none))) (xs.drop (i + 1)) ((es.drop (i + 1)).map wD) := dpa_ix (by rw [List.length_drop, List.length_drop, X.xl]) fun j v r h1 h2 => by
      rw [List.getElem?_drop] at h1 h2
      obtain ⟨c', hc'⟩ : ∃ c', cs[i + 1 + j]? = some c' := ⟨_, List.getElem?_eq_getElem (by rw [X.cl]; exact (List.getElem?_eq_some_iff.mp h2).1)⟩
      exact wsit_dp ((((X.at' _ v r c' h1 h2 hc').mono vo_out).mono sT).mono s2).sit
    refine ⟨x, D2, e.1, e.2, _, es.drop (i + 1), rfl, (wx.mono s2).sit, sq e2, dl, fun r hr => (X.ln r (List.mem_of_mem_drop hr)).trans (X.ln e (List.mem_of_getElem? he)).symm, fun H3 s3 => ?_⟩
    have s13 := (sT.trans s2).trans s3
    have eo3 := s3 _ _ (s2 _ _ eo2)
    have gb : grB es i = !cvd (es.drop (i + 1)) (e.1, e.2) := by show (!cvd (es.drop (i + 1)) (es.getD i (0, []))) = _; rw [gd]
    refine ⟨_, rfl, ?_⟩
    cases hcv : cvd (es.drop (i + 1)) (e.1, e.2) with
    | true =>
      rw [hcv] at gb
      refine iteFx rfl ⟨_, _, rfl, s13, ?_⟩
      rw [grI_succ, gb, if_neg (by decide), List.append_nil]
      exact eo3
    | false =>
      rw [hcv] at gb
      have gl : (grI es i).length ≤ i := by
        have := List.length_filter_le (grB es) (List.range i)
        rw [List.length_range] at this
        exact this
      have hnb : (!false) = true := rfl
      refine iteTx rfl ⟨_, rfl, .inl ⟨rfl, _, sq eo3⟩, _, rfl, o, _, _, rfl, rfl, eo3, by rw [List.length_map]; exact szl (by omega), _, _, rfl, Same.mut s13 no, ?_⟩
      rw [upd_same, grI_succ, gb, if_pos hnb, List.map_append]
      show some (HO.lst (_ ++ [x])) = some (HO.lst (_ ++ [xs.getD i .non]))
      rw [gx]
  rintro σ' H1 ⟨y2, y3, rfl, s1, eo⟩
  rw [X.xl] at eo
  have gl : (grI es es.length).length ≤ es.length := by
    have := List.length_filter_le (grB es) (List.range es.length)
    rw [List.length_range] at this
    exact this
  have gm : ∀ i ∈ grI es es.length, i < es.length := fun i hi => List.mem_range.mp (List.mem_filter.mp hi).1
  refine ⟨_, rfl, o, _, (grI es es.length).map fun i => (es.getD i (0, []), cs.getD i 0), fun z => rkD z.1, rfl, sq eo, by rw [List.length_map, List.length_map], by rw [List.length_map]; omega, .of fun a b => rkD_alike a.1 b.1, .tuples fun b => ⟨_, _, rfl⟩, fun d hd => ?_, fun x b hxb H2 Q' s2 hq => ?_, fun H2 p ys s2 n2 e2 py => q H2 p ys (s1.trans s2) (s1.free n2) e2 py⟩
  · obtain ⟨b, _, rfl⟩ := List.mem_map.mp hd
    exact rkD_dep b.1
  · obtain ⟨j, hj⟩ := List.getElem?_of_mem hxb
    obtain ⟨h1, h2⟩ := List.getElem?_zip_eq_some.mp hj
    rw [List.getElem?_map] at h1 h2
    cases hk : (grI es es.length)[j]? with
    | none => rw [hk] at h1; cases h1
    | some i =>
      rw [hk] at h1 h2
      have il := gm i (List.mem_of_getElem? hk)
      obtain ⟨e, he⟩ : ∃ e, es[i]? = some e := ⟨_, List.getElem?_eq_getElem il⟩
      obtain ⟨u, hu⟩ : ∃ u, xs[i]? = some u := ⟨_, List.getElem?_eq_getElem (by rw [X.xl]; exact il)⟩
      obtain ⟨c, hc⟩ : ∃ c, cs[i]? = some c := ⟨_, List.getElem?_eq_getElem (by rw [X.cl]; exact il)⟩
      have ge : es.getD i (0, []) = e := by rw [List.getD_eq_getElem?_getD, he]; rfl
      have gu : xs.getD i .non = u := by rw [List.getD_eq_getElem?_getD, hu]; rfl
      have ex : u = x := by rw [← gu]; exact Option.some.inj h1
      have eb : b.1 = e := by rw [← ge]; exact (congrArg Prod.fst (Option.some.inj h2)).symm
      subst ex
      have wx := (((X.at' i u e c hu he hc).mono vo_out).mono s1).mono s2
      refine ⟨u, e.1, e.2, rfl, wx.sit, by rw [X.ln e (List.mem_of_getElem? he)]; omega, fun H3 p s3 dp => hq H3 _ s3 ?_⟩
      show Dp K (Nw H2 H3) (.ref p) (rkD b.1)
      rw [eb]
      exact dp
end
/-! ### what is explored never covers what comes later -/
theorem geW_of : ∀ {a b : List (Option Int)}, (∀ (i : Nat) (u v : Option Int), a[i]? = some u → b[i]? = some v → geO u v = true) → geW a b = true
  | [], [], _ => rfl
  | [], _ :: _, _ => rfl
  | _ :: _, [], _ => rfl
  | x :: a, y :: b, h => Bool.and_eq_true_iff.mpr ⟨h 0 x y rfl rfl, geW_of fun i u v h1 h2 => h (i + 1) u v h1 h2⟩
theorem widenL_up (wd os : List (Option Int)) : geW (widenL wd os) wd = true := geW_of fun i u v h1 h2 => by
  unfold widenL at h1
  rw [List.getElem?_map] at h1
  have il := (List.getElem?_eq_some_iff.mp h2).1
  rw [List.getElem?_range il] at h1
  have h1 : (if moreO (wd.getD i none) (os.getD i none) = true then none else wd.getD i none) = u := Option.some.inj h1
  have e : wd.getD i none = v := by rw [List.getD_eq_getElem?_getD, h2]; rfl
  rw [e] at h1
  rw [← h1]
  split
  · rfl
  · exact geO_refl v
theorem widen_up (s : Int) : ∀ (anc : List Wn) (wd : List (Option Int)), geW (widen s wd anc) wd = true
  | [], wd => geW_refl wd
  | o :: r, wd => by
    have ih := widen_up s r (widen1 s wd o)
    have h : geW (widen1 s wd o) wd = true := by
      unfold widen1
      split
      · exact widenL_up _ _
      · exact geW_refl wd
    exact geW_tr ((widen_len s r _).trans rfl) (widen1_len s wd o) ih h
/-- earlier ones do not cover later ones -/
def AntiE (es : List Wn) : Prop := ∀ (i j : Nat) (a b : Wn), i < j → es[i]? = some a → es[j]? = some b → covW a.1 a.2 b.1 b.2 = false
theorem AntiE.enter {es : List Wn} {r : Wn} {anc : List Wn} {N : Nat} (h : AntiE es) (ln : ∀ e ∈ es, e.2.length = N) (rl : r.2.length = N) (nc : cvd es r = false) : AntiE (es ++ [(r.1, widen r.1 r.2 anc)]) := by
  intro i j a b l h1 h2
  by_cases jl : j < es.length
  · rw [List.getElem?_append_left jl] at h2
    rw [List.getElem?_append_left (by omega)] at h1
    exact h i j a b l h1 h2
  · have j0 : j = es.length := by
      have := (List.getElem?_eq_some_iff.mp h2).1
      rw [List.length_append, List.length_singleton] at this
      omega
    subst j0
    rw [List.getElem?_append_left l] at h1
    rw [List.getElem?_append_right (Nat.le_refl _), Nat.sub_self] at h2
    cases h2
    cases c : covW a.1 a.2 r.1 (widen r.1 r.2 anc) with
    | false => rfl
    | true =>
      obtain ⟨c1, c2⟩ := Bool.and_eq_true_iff.mp c
      have am := List.mem_of_getElem? h1
      have g := geW_tr ((ln a am).trans (rl.symm.trans (widen_len r.1 anc r.2).symm)) (widen_len r.1 anc r.2) c2 (widen_up r.1 anc r.2)
      have : cvd es r = true := List.any_eq_true.mpr ⟨a, am, Bool.and_eq_true_iff.mpr ⟨c1, g⟩⟩
      rw [nc] at this
      cases this
theorem AntiE.inj {es : List Wn} (h : AntiE es) {i j : Nat} {a : Wn} (h1 : es[i]? = some a) (h2 : es[j]? = some a) : i = j := by
  rcases Nat.lt_trichotomy i j with l | l | l
  · have := h i j a a l h1 h2
    rw [covW_refl] at this
    cases this
  · exact l
  · have := h j i a a l h2 h1
    rw [covW_refl] at this
    cases this
/-- those that no later one covers are those that no other one covers -/
theorem AntiE.gr {es : List Wn} (h : AntiE es) {i : Nat} {e : Wn} (he : es[i]? = some e) : grB es i = true ↔ ∀ b ∈ es, covW b.1 b.2 e.1 e.2 = true → b = e := by
  have gd : es.getD i (0, []) = e := by rw [List.getD_eq_getElem?_getD, he]; rfl
  show (!cvd (es.drop (i + 1)) (es.getD i (0, []))) = true ↔ _
  rw [gd, Bool.not_eq_true']
  constructor
  · intro c b hb cb
    obtain ⟨j, hj⟩ := List.getElem?_of_mem hb
    rcases Nat.lt_trichotomy j i with l | l | l
    · rw [h j i b e l hj he] at cb
      cases cb
    · subst l
      exact Option.some.inj (hj.symm.trans he)
    · have : cvd (es.drop (i + 1)) e = true := List.any_eq_true.mpr ⟨b, List.mem_of_getElem? (i := j - (i + 1)) (by rw [List.getElem?_drop, show i + 1 + (j - (i + 1)) = j by omega]; exact hj), cb⟩
      rw [c] at this
      cases this
  · intro all
    cases c : cvd (es.drop (i + 1)) e with
    | false => rfl
    | true =>
      obtain ⟨b, hb, cb⟩ := List.any_eq_true.mp c
      obtain ⟨j, hj⟩ := List.getElem?_of_mem hb
      rw [List.getElem?_drop] at hj
      have be := all b (List.mem_of_getElem? hj) cb
      rw [be] at hj
      have := h.inj he hj
      omega
/-! ### ancestors stay -/
theorem ancI_app {ps : List (Option Nat)} {p' : Option Nat} (low : ∀ (i j : Nat), ps[i]? = some (some j) → j < i) : ∀ (n : Nat) (q : Option Nat), (∀ i, q = some i → i < ps.length) → ancI (ps ++ [p']) n q = ancI ps n q
  | 0, _, _ => rfl
  | _ + 1, none, _ => rfl
  | n + 1, some i, h => by
    have il := h i rfl
    have e : (ps ++ [p']).getD i none = ps.getD i none := by rw [List.getD_eq_getElem?_getD, List.getD_eq_getElem?_getD, List.getElem?_append_left il]
    show ancI (ps ++ [p']) n ((ps ++ [p']).getD i none) ++ [i] = ancI ps n (ps.getD i none) ++ [i]
    rw [e, ancI_app low n _ fun j ej => by
      have : j < i := by
        refine low i j ?_
        rw [List.getD_eq_getElem?_getD] at ej
        cases e2 : ps[i]? with
        | none => rw [e2] at ej; cases ej
        | some q => rw [e2] at ej; rw [show q = some j from ej]
      omega]
theorem map_getE {es : List Wn} {W : Wn} : ∀ {l : List Nat}, (∀ i ∈ l, i < es.length) → l.map (fun i => (es ++ [W]).getD i (0, [])) = l.map fun i => es.getD i (0, [])
  | [], _ => rfl
  | i :: l, h => by
    rw [List.map_cons, List.map_cons, map_getE fun k hk => h k (List.mem_cons_of_mem _ hk), List.getD_eq_getElem?_getD, List.getD_eq_getElem?_getD, List.getElem?_append_left (h i List.mem_cons_self)]
/-- the ancestors of one that stands -/
theorem ancW_stay {es : List Wn} {ps : List (Option Nat)} {W : Wn} {p' q : Option Nat} (pl : ps.length = es.length) (low : ∀ (i j : Nat), ps[i]? = some (some j) → j < i) (hq : ∀ i, q = some i → i < es.length) : ancW (es ++ [W]) (ps ++ [p']) q = ancW es ps q := by
  have e1 : ancI (ps ++ [p']) (es ++ [W]).length q = ancI ps es.length q := by
    rw [ancI_app low _ q fun i e => by rw [pl]; exact hq i e]
    exact ancI_more low _ _ q fun i e => ⟨by have := hq i e; rw [List.length_append]; omega, hq i e⟩
  unfold ancW
  rw [e1]
  exact map_getE (ancI_lt low es.length q hq)
/-- the ancestors of what comes next -/
theorem ancW_next {es : List Wn} {ps : List (Option Nat)} {W : Wn} {p : Option Nat} (pl : ps.length = es.length) (low : ∀ (i j : Nat), ps[i]? = some (some j) → j < i) (hp : ∀ i, p = some i → i < es.length) : ancW (es ++ [W]) (ps ++ [p]) (some es.length) = ancW es ps p ++ [W] := by
  have g : (ps ++ [p]).getD es.length none = p := by rw [← pl, List.getD_eq_getElem?_getD, List.getElem?_append_right (Nat.le_refl _), Nat.sub_self]; rfl
  have e1 : ancI (ps ++ [p]) (es ++ [W]).length (some es.length) = ancI ps es.length p ++ [es.length] := by
    rw [List.length_append]
    show ancI (ps ++ [p]) es.length ((ps ++ [p]).getD es.length none) ++ [es.length] = _
    rw [g, ancI_app low _ p fun i e => by rw [pl]; exact hp i e]
  unfold ancW
  rw [e1, List.map_append, map_getE (ancI_lt low es.length p hp)]
  show _ ++ [(es ++ [W]).getD es.length (0, [])] = _
  rw [List.getD_eq_getElem?_getD, List.getElem?_append_right (Nat.le_refl _), Nat.sub_self]
  rfl
/-! ### the order of the cover -/
theorem rkO_eqv (a b : Option Int) : PyData.eqv (rkO a) (rkO b) = decide (a = b) := by
  cases a with
  | none =>
    cases b with
    | none => simp [rkO, PyData.eqv, PyData.eqvAll]
    | some b => simp [rkO, PyData.eqv, PyData.eqvAll]
  | some a =>
    cases b with
    | none => simp [rkO, PyData.eqv, PyData.eqvAll]
    | some b =>
      rw [Bool.eq_iff_iff]
      simp [rkO, PyData.eqv, PyData.eqvAll]
theorem ltO_cons (a b : Option Int) (as bs : List (Option Int)) : ltO (a :: as) (b :: bs) = if a = b then ltO as bs else moreO b a := by rw [ltO]
theorem rkO_lt {a b : Option Int} (h : a ≠ b) : PySem.W.dataLt (rkO a) (rkO b) = moreO b a := by
  cases a with
  | none =>
    cases b with
    | none => exact absurd rfl h
    | some b =>
      show PySem.W.dataLt (.tuple [.int 1, .int 0]) (.tuple [.int 0, .int b]) = false
      rw [PySem.W.dataLt_ii]
      simp
  | some a =>
    cases b with
    | none =>
      show PySem.W.dataLt (.tuple [.int 0, .int a]) (.tuple [.int 1, .int 0]) = true
      rw [PySem.W.dataLt_ii]
      simp
    | some b =>
      show PySem.W.dataLt (.tuple [.int 0, .int a]) (.tuple [.int 0, .int b]) = decide (b > a)
      rw [PySem.W.dataLt_ii]
      simp
theorem ltO_rk : ∀ {as bs : List (Option Int)}, as.length = bs.length → PySem.W.rowLt (as.map rkO) (bs.map rkO) = ltO as bs
  | [], [], _ => PyProof.Rows.lex_irrefl _
  | [], _ :: _, h => by cases h
  | _ :: _, [], h => by cases h
  | a :: as, b :: bs, h => by
    have ih := ltO_rk (as := as) (bs := bs) (Nat.succ.inj h)
    unfold PySem.W.rowLt at ih ⊢
    rw [List.map_cons, List.map_cons, PySem.W.dataLt_cons (rk_al1 a b), ih, rkO_eqv, ltO_cons]
    by_cases e : a = b
    · rw [if_pos (decide_eq_true e), if_pos e]
    · rw [if_neg (by rw [decide_eq_false e]; decide), if_neg e, rkO_lt e]
theorem rks_eqv : ∀ {as bs : List (Option Int)}, PyData.eqvAll (as.map rkO) (bs.map rkO) = true → as = bs
  | [], [], _ => rfl
  | [], _ :: _, h => by cases h
  | _ :: _, [], h => by cases h
  | a :: as, b :: bs, h => by
    have h' : (PyData.eqv (rkO a) (rkO b) && PyData.eqvAll (as.map rkO) (bs.map rkO)) = true := h
    rw [Bool.and_eq_true, rkO_eqv] at h'
    rw [of_decide_eq_true h'.1, rks_eqv h'.2]
theorem rkD_lt {a b : Wn} (h : a.2.length = b.2.length) : PySem.W.dataLt (rkD a) (rkD b) = lessW a.1 a.2 b.1 b.2 := by
  unfold rkD lessW
  rw [PySem.W.dataLt_pair (by simp [PySem.W.alike]) (by simp [PySem.W.alike, rk_al]), PySem.W.dataLt_int]
  have e1 : PyData.eqv (.int a.1) (.int b.1) = decide (a.1 = b.1) := by
    rw [Bool.eq_iff_iff]
    simp [PyData.eqv]
  rw [e1]
  by_cases e : a.1 = b.1
  · rw [if_pos (decide_eq_true e), if_pos e]
    split
    · rename_i z
      have z : PyData.eqvAll (a.2.map rkO) (b.2.map rkO) = true := z
      rw [rks_eqv z, ltO_self]
    · exact (PySem.W.dataLt_list _ _).trans (ltO_rk h)
  · rw [if_neg (by rw [decide_eq_false e]; decide), if_neg e]
theorem moreO_asym {a b : Option Int} (h : moreO a b = true) : moreO b a = false := by
  cases a <;> cases b <;> simp_all [moreO]
  omega
theorem moreO_tri {a b : Option Int} (h : a ≠ b) : moreO a b = true ∨ moreO b a = true := by
  cases a <;> cases b <;> simp_all [moreO]
  omega
theorem moreO_tr {a b c : Option Int} (h : moreO a b = true) (h' : moreO b c = true) : moreO a c = true := by
  cases a <;> cases b <;> cases c <;> simp_all [moreO]
  omega
theorem ltO_asym : ∀ {as bs : List (Option Int)}, ltO as bs = true → ltO bs as = false
  | [], _, h => by cases h
  | _ :: _, [], h => by cases h
  | a :: as, b :: bs, h => by
    rw [ltO_cons] at h ⊢
    by_cases e : a = b
    · rw [if_pos e] at h
      rw [if_pos e.symm]
      exact ltO_asym h
    · rw [if_neg e] at h
      rw [if_neg fun z => e z.symm]
      exact moreO_asym h
theorem ltO_tri : ∀ {as bs : List (Option Int)}, as.length = bs.length → as ≠ bs → ltO as bs = true ∨ ltO bs as = true
  | [], [], _, h => absurd rfl h
  | [], _ :: _, h, _ => by cases h
  | _ :: _, [], h, _ => by cases h
  | a :: as, b :: bs, hl, h => by
    rw [ltO_cons, ltO_cons]
    by_cases e : a = b
    · rw [if_pos e, if_pos e.symm]
      exact ltO_tri (Nat.succ.inj hl) fun z => h (by rw [e, z])
    · rw [if_neg e, if_neg fun z => e z.symm]
      exact (moreO_tri e).symm
theorem ltO_tr : ∀ {as bs cs : List (Option Int)}, ltO as bs = true → ltO bs cs = true → ltO as cs = true
  | [], _, _, h, _ => by cases h
  | _ :: _, [], _, h, _ => by cases h
  | _ :: _, _ :: _, [], _, h => by cases h
  | a :: as, b :: bs, c :: cs, h1, h2 => by
    rw [ltO_cons] at h1 h2 ⊢
    by_cases e1 : a = b
    · subst e1
      rw [if_pos rfl] at h1
      by_cases e2 : a = c
      · rw [if_pos e2] at h2 ⊢
        exact ltO_tr h1 h2
      · rw [if_neg e2] at h2 ⊢
        exact h2
    · rw [if_neg e1] at h1
      by_cases e2 : b = c
      · subst e2
        rw [if_neg e1]
        exact h1
      · rw [if_neg e2] at h2
        have m := moreO_tr h2 h1
        by_cases e3 : a = c
        · rw [e3] at m
          have := moreO_asym m
          rw [m] at this
          cases this
        · rw [if_neg e3]
          exact m
abbrev lessP (a b : Wn) : Bool := lessW a.1 a.2 b.1 b.2
theorem lessP_asym {a b : Wn} (h : lessP a b = true) : lessP b a = false := by
  unfold lessP lessW at h ⊢
  by_cases e : a.1 = b.1
  · rw [if_pos e] at h
    rw [if_pos e.symm]
    exact ltO_asym h
  · rw [if_neg e] at h
    rw [if_neg fun z => e z.symm]
    have := of_decide_eq_true h
    exact decide_eq_false (by omega)
theorem lessP_tri {a b : Wn} (hl : a.2.length = b.2.length) (h : a ≠ b) : lessP a b = true ∨ lessP b a = true := by
  unfold lessP lessW
  by_cases e : a.1 = b.1
  · rw [if_pos e, if_pos e.symm]
    exact ltO_tri hl fun z => h (Prod.ext e z)
  · rw [if_neg e, if_neg fun z => e z.symm]
    have : a.1 < b.1 ∨ b.1 < a.1 := by omega
    exact this.imp decide_eq_true decide_eq_true
theorem lessP_tr {a b c : Wn} (h1 : lessP a b = true) (h2 : lessP b c = true) : lessP a c = true := by
  unfold lessP lessW at h1 h2 ⊢
  by_cases e1 : a.1 = b.1
  · rw [if_pos e1] at h1
    by_cases e2 : b.1 = c.1
    · rw [if_pos e2] at h2
      rw [if_pos (e1.trans e2)]
      exact ltO_tr h1 h2
    · rw [if_neg e2] at h2
      rw [if_neg (by rw [e1]; exact e2), e1]
      exact h2
  · rw [if_neg e1] at h1
    have h1 := of_decide_eq_true h1
    by_cases e2 : b.1 = c.1
    · rw [if_neg (by omega)]
      exact decide_eq_true (by omega)
    · rw [if_neg e2] at h2
      have h2 := of_decide_eq_true h2
      rw [if_neg (by omega)]
      exact decide_eq_true (by omega)
theorem lessP_irr (a : Wn) : lessP a a = false := by
  unfold lessP lessW
  rw [if_pos rfl]
  exact ltO_self _
/-- in a sorted list those before a row are a beginning -/
theorem cut_less {row : Wn} : ∀ {l : List Wn}, l.Pairwise (fun a b => lessP a b = true) → (∀ x ∈ l.take (l.filter fun o => lessP o row).length, lessP x row = true) ∧ ∀ x ∈ l.drop (l.filter fun o => lessP o row).length, lessP x row = false
  | [], _ => ⟨fun _ h => (nomatch h), fun _ h => nomatch h⟩
  | y :: l, h => by
    obtain ⟨h1, h2⟩ := List.pairwise_cons.mp h
    obtain ⟨i1, i2⟩ := cut_less (row := row) h2
    rw [List.filter_cons]
    cases c : lessP y row with
    | true =>
      rw [if_pos rfl, List.length_cons, List.take_succ_cons, List.drop_succ_cons]
      refine ⟨fun x hx => ?_, i2⟩
      rcases List.mem_cons.mp hx with rfl | hx
      · exact c
      · exact i1 x hx
    | false =>
      have no : ∀ x ∈ l, lessP x row = false := fun x hx => by
        cases c2 : lessP x row with
        | false => rfl
        | true => rw [lessP_tr (h1 x hx) c2] at c; cases c
      rw [if_neg (by decide), show l.filter (fun o => lessP o row) = [] from List.filter_eq_nil_iff.mpr fun x hx e => by rw [no x hx] at e; cases e]
      refine ⟨fun x hx => (nomatch hx), fun x hx => ?_⟩
      have hx : x ∈ y :: l := hx
      rcases List.mem_cons.mp hx with rfl | hx
      · exact c
      · exact no x hx
theorem covIns_sorted {n : Nat} {cover : List Wn} {row : Wn} (hl : ∀ r ∈ cover, r.2.length = n) (rl : row.2.length = n) (nin : row ∉ cover) (h : cover.Pairwise (fun a b => lessP a b = true)) : (covIns cover row).Pairwise (fun a b => lessP a b = true) := by
  obtain ⟨i1, i2⟩ := cut_less (row := row) h
  unfold covIns
  show (cover.take (cover.filter fun o => lessP o row).length ++ [row] ++ cover.drop (cover.filter fun o => lessP o row).length).Pairwise _
  generalize hk : (cover.filter fun o => lessP o row).length = k at i1 i2
  have hsp : (cover.take k ++ cover.drop k).Pairwise (fun a b => lessP a b = true) := by rw [List.take_append_drop]; exact h
  obtain ⟨p1, p2, p3⟩ := List.pairwise_append.mp hsp
  have gt : ∀ x ∈ cover.drop k, lessP row x = true := fun x hx => by
    have xm := List.mem_of_mem_drop hx
    rcases lessP_tri (a := row) (b := x) (rl.trans (hl x xm).symm) (fun z => nin (by rw [z]; exact xm)) with c | c
    · exact c
    · rw [i2 x hx] at c; cases c
  refine List.pairwise_append.mpr ⟨List.pairwise_append.mpr ⟨p1, List.pairwise_singleton _ _, fun a ha b hb => ?_⟩, p2, fun a ha b hb => ?_⟩
  · rw [List.mem_singleton.mp hb]; exact i1 a ha
  · rcases List.mem_append.mp ha with ha | ha
    · exact p3 a ha b hb
    · rw [List.mem_singleton.mp ha]; exact gt b hb
theorem covSteps_sorted {n : Nat} (es : List Wn) : ∀ (rs cover : List Wn), (∀ r ∈ cover, r.2.length = n) → (∀ r ∈ rs, r.2.length = n) → cover.Pairwise (fun a b => lessP a b = true) → (rs.foldl (covStep es) cover).Pairwise (fun a b => lessP a b = true)
  | [], _, _, _, h => h
  | r :: rs, cover, hl, hr, h => by
    refine covSteps_sorted es rs (covStep es cover r) ?_ (fun x hx => hr x (List.mem_cons_of_mem _ hx)) ?_
    · unfold covStep
      split
      · intro x hx
        rcases covIns_mem.mp hx with rfl | hx
        · exact hr _ List.mem_cons_self
        · exact hl x hx
      · exact hl
    · unfold covStep
      split
      · rename_i c
        exact covIns_sorted hl (hr r List.mem_cons_self) c.2 h
      · exact h
theorem covSteps_mem (es : List Wn) : ∀ (rs cover : List Wn) (x : Wn), x ∈ rs.foldl (covStep es) cover ↔ x ∈ cover ∨ (x ∈ rs ∧ (es.filter (aboveW x)).length = 0)
  | [], cover, x => ⟨.inl, fun h => h.elim id fun z => nomatch z.1⟩
  | r :: rs, cover, x => by
    have ih := covSteps_mem es rs (covStep es cover r) x
    show x ∈ rs.foldl (covStep es) (covStep es cover r) ↔ _
    rw [ih]
    unfold covStep
    constructor
    · rintro (h | h)
      · split at h
        · rename_i c
          rcases covIns_mem.mp h with rfl | h
          · exact .inr ⟨List.mem_cons_self, c.1⟩
          · exact .inl h
        · exact .inl h
      · exact .inr ⟨List.mem_cons_of_mem _ h.1, h.2⟩
    · rintro (h | ⟨h, h0⟩)
      · refine .inl ?_
        split
        · exact covIns_mem.mpr (.inr h)
        · exact h
      · rcases List.mem_cons.mp h with rfl | h
        · refine .inl ?_
          split
          · exact covIns_mem.mpr (.inl rfl)
          · rename_i c
            by_cases z : x ∈ cover
            · exact z
            · exact absurd ⟨h0, z⟩ c
        · exact .inr ⟨h, h0⟩
theorem coverL_mem (es : List Wn) (x : Wn) : x ∈ coverL es ↔ x ∈ es ∧ (es.filter (aboveW x)).length = 0 := by
  unfold coverL
  rw [covSteps_mem]
  exact ⟨fun h => h.elim (fun z => nomatch z) id, .inr⟩
theorem coverL_sorted {n : Nat} {es : List Wn} (hl : ∀ r ∈ es, r.2.length = n) : (coverL es).Pairwise (fun a b => lessP a b = true) := covSteps_sorted es es [] (fun _ h => nomatch h) hl .nil
theorem above_none {es : List Wn} {x : Wn} : (es.filter (aboveW x)).length = 0 ↔ ∀ b ∈ es, covW b.1 b.2 x.1 x.2 = true → b = x := by
  rw [List.length_eq_zero_iff, List.filter_eq_nil_iff]
  unfold aboveW
  constructor
  · intro h b hb c
    by_cases e : b = x
    · exact e
    · exact absurd (Bool.and_eq_true_iff.mpr ⟨decide_eq_true e, c⟩) (h b hb)
  · intro h b hb c
    obtain ⟨c1, c2⟩ := Bool.and_eq_true_iff.mp c
    exact of_decide_eq_true c1 (h b hb c2)
/-- the explored ones that no later one covers, in ascending order, are the law's cover -/
theorem cover_sorted {n : Nat} {es : List Wn} (an : AntiE es) (hl : ∀ r ∈ es, r.2.length = n) {cs : List Addr} {zs : List (Wn × Addr)} (h : zs = ((grI es es.length).map fun i => (es.getD i (0, []), cs.getD i 0)).mergeSort (PySem.W.dataLe false fun z => rkD z.1)) : zs.map (·.1) = coverL es := by
  have pm : zs.Perm ((grI es es.length).map fun i => (es.getD i (0, []), cs.getD i 0)) := by rw [h]; exact List.mergeSort_perm _ _
  have pw : zs.Pairwise (fun x y => PySem.W.dataLe false (fun z : Wn × Addr => rkD z.1) x y = true) := by
    rw [h]
    exact PySem.W.sort_pairwise (PySem.W.sortLe_total (PyProof.Rows.listOrd PyProof.Rows.itemOrd) false fun p : Wn × Addr => PySem.W.keyToks (rkD p.1)) _
  have pm1 : (zs.map (·.1)).Perm ((grI es es.length).map fun i => es.getD i (0, [])) := by
    have := pm.map (·.1)
    rw [List.map_map] at this
    exact this
  have gm : ∀ i ∈ grI es es.length, i < es.length ∧ grB es i = true := fun i hi => by
    obtain ⟨h1, h2⟩ := List.mem_filter.mp hi
    exact ⟨List.mem_range.mp h1, h2⟩
  have gd : ∀ {i : Nat}, i < es.length → es[i]? = some (es.getD i (0, [])) := fun {i} hi => by
    rw [List.getD_eq_getElem?_getD, List.getElem?_eq_getElem hi]
    rfl
  have mm : ∀ x, x ∈ (grI es es.length).map (fun i => es.getD i (0, [])) ↔ x ∈ coverL es := fun x => by
    rw [coverL_mem, above_none]
    constructor
    · intro hx
      obtain ⟨i, hi, rfl⟩ := List.mem_map.mp hx
      obtain ⟨il, ig⟩ := gm i hi
      exact ⟨List.mem_of_getElem? (gd il), (an.gr (gd il)).mp ig⟩
    · rintro ⟨hx, hm⟩
      obtain ⟨i, hi⟩ := List.getElem?_of_mem hx
      have il := (List.getElem?_eq_some_iff.mp hi).1
      have e : es.getD i (0, []) = x := by rw [List.getD_eq_getElem?_getD, hi]; rfl
      exact List.mem_map.mpr ⟨i, List.mem_filter.mpr ⟨List.mem_range.mpr il, (an.gr hi).mpr hm⟩, e⟩
  have nd1 : ((grI es es.length).map fun i => es.getD i ((0 : Int), ([] : List (Option Int)))).Nodup := by
    refine List.pairwise_map.mpr ?_
    refine List.Pairwise.imp_of_mem (R := fun a b => a ≠ b) (fun {a b} ha hb ne e => ne ?_) (List.nodup_range.filter _)
    exact an.inj (gd (gm a ha).1) (by rw [e]; exact gd (gm b hb).1)
  have sl := coverL_sorted hl
  have nd2 : (coverL es).Nodup := sl.imp fun {a b} h e => by rw [e, lessP_irr] at h; cases h
  have pm2 : ((grI es es.length).map fun i => es.getD i ((0 : Int), ([] : List (Option Int)))).Perm (coverL es) := (List.perm_ext_iff_of_nodup nd1 nd2).mpr mm
  have pm3 := pm1.trans pm2
  have len : ∀ x ∈ coverL es, x.2.length = n := fun x hx => hl x ((coverL_mem es x).mp hx).1
  refine List.Perm.eq_of_pairwise (le := fun a b => lessP b a = false) (fun a b ha hb h1 h2 => ?_) ?_ (sl.imp fun h => lessP_asym h) pm3
  · by_cases e : a = b
    · exact e
    · rcases lessP_tri ((len a (pm3.mem_iff.mp ha)).trans (len b hb).symm) e with c | c
      · rw [h2] at c; cases c
      · rw [h1] at c; cases c
  · refine List.pairwise_map.mpr (List.Pairwise.imp_of_mem (fun {a b} ha hb h => ?_) pw)
    have la := len a.1 (pm3.mem_iff.mp (List.mem_map_of_mem ha))
    have lb := len b.1 (pm3.mem_iff.mp (List.mem_map_of_mem hb))
    have h : (!PySem.W.dataLt (rkD b.1) (rkD a.1)) = true := h
    rw [Bool.not_eq_true', rkD_lt (lb.trans la.symm)] at h
    exact h
/-! ### successors: the lists of counts are different new objects -/
theorem pd_app {α β : Type} {R : α → β → Prop} {xs us : List α} {ys ws : List β} (h1 : Paired R xs ys) (h2 : Paired R us ws) : Paired R (xs ++ us) (ys ++ ws) := by
  induction h1 with
  | nil => exact h2
  | cons r _ ih => exact .cons r ih
theorem pd_memR {α β : Type} {R : α → β → Prop} : ∀ {xs : List α} {ys : List β}, Paired R xs ys → ∀ b ∈ ys, ∃ a ∈ xs, R a b
  | _, _, .nil, _, h => nomatch h
  | _, _, .cons r p, b, h => by
    rcases List.mem_cons.mp h with rfl | h
    · exact ⟨_, List.mem_cons_self, r⟩
    · obtain ⟨a, h1, h2⟩ := pd_memR p b h
      exact ⟨a, List.mem_cons_of_mem _ h1, h2⟩
theorem pd_map {α β : Type} {F G : α → β → Prop} {xs : List α} {ys : List β} (h : Paired F xs ys) (f : ∀ a b, F a b → G a b) : Paired G xs ys := by
  induction h with
  | nil => exact .nil
  | cons r _ ih => exact .cons (f _ _ r) ih
section
variable {P : Program} {w : World} {K : PySem.W.Frag} {mg : Str → Option Value} {base : Heap}
def spSuccN (K : PySem.W.Frag) : Sp := fun vs H Q _ => ∃ (v x : V) (M : MT) (s : Int) (cs : List (Option Int)) (S : Nat), vs = [v, x] ∧ Dp K H v M.data ∧ WSit K H x s cs ∧ (∀ m ∈ M.moves, m.Fit S cs.length) ∧ M.moves.length ≤ 90000 ∧
  ∀ (H' : Hp) (p : Addr) (xs : List V) (zs : List (Wn × Addr)), Same H H' → H p = none → H' p = some (.lst xs) → zs.map (·.1) = succW M (s, cs) → Paired (fun v z => WAt (Ho p H') v z.1 z.2 ∧ H z.2 = none) xs zs → (zs.map (·.2)).Nodup → Q (.ref p) H'
set_option maxHeartbeats 2000000 in
theorem fd_successorsN {f : Addr} {fd : FuncData} (F : Fun K "successors" "successors" s_successors f fd) (m : mg "successors" = some (.ref f)) (D_can_take_wide : Fd P w K mg base "can_take_wide" ["situation", "move"] 1 (spCanW K)) (D_taken_wide : Fd P w K mg base "taken_wide" ["situation", "move"] 1 (spTakenW K)) : Fd P w K mg base "successors" ["machine", "situation"] 2 (spSuccN K) := by
  refine ⟨f, fd, F.ok sc_successors (fun vs H Q E h => ?_) (fun cdv A outer s H vs Q E hr h => ?_), m, F.kp, F.binds (ps := ["machine", "situation"]) fun _ _ _ _ _ _ us hl => match us, hl with | [_, _], _ => rfl⟩
  · obtain ⟨v, x, M, s, cs, S, rfl, _⟩ := h
    rfl
  obtain ⟨v, x, M, s, cs, S, rfl, hd, hx, hf, hb, q⟩ := h
  obtain ⟨am, sv, ma, xm, rfl, ham, _, hma, hxm⟩ := dp_mt hd
  have xl := dpa_map_len hxm
  refine ⟨_, (pss_one (ps_ret (pe_lc (own := [("move", 2)]) (g := gName 2) (by rfl) sc_successors.nd (piL K (pe_ix (ixT K) (pv 0) pe_int (fun _ _ => rfl))) (blkOk_by (own := [("move", 2)]) (N := ["machine", "situation", "move"]) (sc := (defScope s_successors)) (by decide +kernel)) (fun _ _ _ _ _ => (pg_name (i := 2) sc_successors.nd rfl (Or.inl rfl))) (fun _ _ _ _ _ => (pts_one (pt_val (pe_fn D_can_take_wide (hr.mono (by decide)) rfl (pa_cons (pv 1) (pa_cons (pv 2) pa_nil)))))) (fun _ _ _ _ _ => (pe_fn D_taken_wide (hr.mono (by decide)) rfl (pa_cons (pv 1) (pa_cons (pv 2) pa_nil))))))), ?_⟩
  refine ⟨_, rfl, _, _, _, _, rfl, rfl, ham, atI_nat (j := 4) rfl, ma, rfl, ⟨_, hma⟩, fun D nD => lc_list (xs := xm) (fun i H' => Same H H' ∧ ∃ (ys : List V) (zs : List (Wn × Addr)), H' D = some (.lst ys) ∧ zs.map (·.1) = ((M.moves.take i).filter fun m => m.canW s cs).map (fun m => ((m.ns : Int), m.aftW cs)) ∧ Paired (fun v z => WAt (Ho D H') v z.1 z.2 ∧ H z.2 = none) ys zs ∧ (zs.map (·.2)).Nodup) ⟨same_new nD, [], [], upd_same, rfl, .nil, .nil⟩ (fun _ H' _ h => h.1.seq hma) ?_ ?_⟩
  · rintro i u H' hu ⟨sm, ys, zs, eD, ez, py, nz⟩
    obtain ⟨mv, hmv, du⟩ := dpa_map_at hxm hu
    have fit := hf mv (List.mem_of_getElem? hmv)
    have yl := py.length
    have zl : zs.length = ((M.moves.take i).filter fun m => m.canW s cs).length := by rw [← List.length_map (f := fun m : MvT => ((m.ns : Int), m.aftW cs)), ← ez, List.length_map]
    rw [filter_snoc hmv]
    refine ⟨rfl, _, rfl, _, rfl, x, u, s, cs, mv, rfl, Same.wsit sm hx, dp_mono sm du, fit.pl, _, rfl, ?_⟩
    cases hc : mv.canW s cs with
    | false =>
      refine iteF ⟨sm, ys, zs, eD, ?_, py, nz⟩
      rw [if_neg (by decide), List.append_nil]
      exact ez
    | true =>
      refine iteT ⟨_, rfl, _, rfl, x, u, s, cs, mv, S, rfl, Same.wsit sm hx, dp_mono sm du, fit, fun H2 p s2 nw => ?_⟩
      obtain ⟨ca, n1, n2, n3, e1, e2⟩ := nw
      have eD2 := s2 _ _ eD
      have pD : p ≠ D := fun e => by rw [e, eD] at n1; cases n1
      have cD : ca ≠ D := fun e => by rw [e, eD] at n2; cases n2
      have lt := (List.getElem?_eq_some_iff.mp hmv).1
      have sh : Same (Ho D H') (Ho D (upd H2 D (.lst (ys ++ [.ref p])))) := (ho_same s2).trans ho_mut
      refine ⟨ys, eD2, ?_, Same.mut (sm.trans s2) nD, ys ++ [.ref p], zs ++ [(((mv.ns : Int), mv.aftW cs), ca)], upd_same, ?_, pd_app (pd_map py fun v z h => ⟨h.1.mono sh, h.2⟩) (.cons ⟨⟨p, rfl, ho_mut _ _ ?_, ho_mut _ _ ?_⟩, sm.free n2⟩ .nil), ?_⟩
      · rw [yl, zl]
        have := List.length_filter_le (fun m => m.canW s cs) (M.moves.take i)
        rw [List.length_take] at this
        exact szl (by omega)
      · rw [if_pos rfl, List.map_append, List.map_append, ez]
        rfl
      · unfold Ho; rw [if_neg pD]; exact e1
      · unfold Ho; rw [if_neg cD]; exact e2
      · rw [List.map_append]
        refine List.nodup_append.mpr ⟨nz, List.nodup_cons.mpr ⟨fun z => (nomatch z), List.nodup_nil⟩, fun a ha b hb z => ?_⟩
        have hb : b = ca := List.mem_singleton.mp hb
        obtain ⟨y, hy, rfl⟩ := List.mem_map.mp ha
        obtain ⟨v, _, ⟨_, _, _, h2⟩, _⟩ := pd_memR py y hy
        have := ho_out _ _ h2
        rw [z, hb, n2] at this
        cases this
  rintro H' ⟨sm, ys, zs, eD, ez, py, nz⟩
  rw [xl, List.take_length] at ez
  exact q _ D ys zs sm nD eD ez py nz
end
/-! ### what the search forwards holds -/
abbrev Itm := Wn × Addr × Option Nat
/-- an item of the queue: the wide situation, its counts, its parent -/
def ItAt (H : Hp) (t : V) (z : Itm) : Prop := ∃ a x, t = .ref a ∧ H a = some (.tup [x, pnV z.2.2]) ∧ WAt H x z.1 z.2.1
theorem ItAt.mono {H H' : Hp} {t : V} {z : Itm} (s : Same H H') (h : ItAt H t z) : ItAt H' t z := by
  obtain ⟨a, x, e, h1, h2⟩ := h
  exact ⟨a, x, e, s _ _ h1, h2.mono s⟩
abbrev qOf (es : List Wn) (ps : List (Option Nat)) (z : Itm) : Qi := (z.1, ancW es ps z.2.2)
abbrev OwD (g la pa bd ad dq : Addr) (Mm : Int → Option Addr) : Addr → Prop := fun a => OwnE g la pa bd ad Mm a ∨ a = dq
theorem WAt.mq {H H' : Hp} {v : V} {r : Wn} {c : Addr} (s : SameQ H H') (h : WAt H v r c) : WAt H' v r c := by
  obtain ⟨a, e, h1, h2⟩ := h
  exact ⟨a, e, s _ _ h1 (fun z => z), s _ _ h2 (fun z => z)⟩
section
variable {P : Program} {w : World} {K : PySem.W.Frag}
variable {C g la pa bd ad dq : Addr} {Mm : Int → Option Addr} {N : Nat} {es : List Wn} {cs : List Addr} {ps : List (Option Nat)} {ks : List (NestedKey × Addr)} {xs : List V} {H H' H0 : Hp}
theorem ExpAt.to (X : ExpAt P w K C H g la pa bd ad Mm N es cs ps ks xs) (s : Same H H') : ExpAt P w K C H' g la pa bd ad Mm N es cs ps ks xs := X.asked (fun a o _ h => s a o h) (s _ _ X.ask) (X.keys.mono (FrW.vo (fun a o _ h => s a o h) fun a h => .inl h))
/-- an object that is not the explorer's own changes -/
theorem ExpAt.putD {u o : HO} (X : ExpAt P w K C H g la pa bd ad Mm N es cs ps ks xs) (e : H dq = some u) (mu : MuO u) (n : ¬ OwnE g la pa bd ad Mm dq) : ExpAt P w K C (upd H dq o) g la pa bd ad Mm N es cs ps ks xs := by
  have ow : ∀ a, OwnE g la pa bd ad Mm a → upd H dq o a = H a := fun a h => upd_ne fun z => n (by rw [← z]; exact h)
  have sq : SameQ (Vo (OwnE g la pa bd ad Mm) H) (Vo (OwnE g la pa bd ad Mm) (upd H dq o)) := fun a v h hv => by
    obtain ⟨h1, h2⟩ := vo_iff.mp h
    exact vo_iff.mpr ⟨h1, put_quiet e mu a v h2 hv⟩
  obtain ⟨dx, fs, hg, fld⟩ := X.ob
  exact ⟨⟨dx, fs, by rw [ow g (.inl rfl)]; exact hg, fld⟩, X.df, by rw [ow la (.inr (.inl rfl))]; exact X.ex, X.xl, X.cl, fun i v r c h1 h2 h3 => (X.at' i v r c h1 h2 h3).mq sq, X.cd, X.ln, by rw [ow pa (.inr (.inr (.inl rfl)))]; exact X.par, X.pl, X.low,
    let ⟨kvs, h1, h2, h3⟩ := X.dict; ⟨kvs, by rw [ow bd (.inr (.inr (.inr (.inl rfl))))]; exact h1, h2, h3⟩, fun t a h => by rw [ow a (.inr (.inr (.inr (.inr (.inr ⟨t, h⟩)))))]; exact X.lists t a h, X.inj, X.own, X.has, by rw [ow ad (.inr (.inr (.inr (.inr (.inl rfl)))))]; exact X.ask, X.keys.monoQ sq⟩
/-- what stands in the heap while the search runs -/
structure SrAt (P : Program) (w : World) (K : PySem.W.Frag) (C : Addr) (H0 H : Hp) (g la pa bd ad dq : Addr) (Mm : Int → Option Addr) (N : Nat) (es : List Wn) (cs : List Addr) (ps : List (Option Nat)) (ks : List (NestedKey × Addr)) (xs ts : List V) (its : List Itm) : Prop where
  X : ExpAt P w K C H g la pa bd ad Mm N es cs ps ks xs
  sm : Same H0 H
  dqe : H dq = some (DqO dq ts)
  dqn : ¬ OwnE g la pa bd ad Mm dq
  it : Paired (ItAt (Vo (OwD g la pa bd ad dq Mm) H)) ts its
  nd : (cs ++ its.map (·.2.1)).Nodup
  fr : ∀ c ∈ cs ++ its.map (·.2.1), H0 c = none
  ow : ∀ a, OwD g la pa bd ad dq Mm a → H0 a = none
  pb : ∀ z ∈ its, z.1.2.length = N ∧ ∀ i, z.2.2 = some i → i < es.length
theorem OwD.vo {O' : Addr → Prop} (f : ∀ a o, ¬ OwD g la pa bd ad dq Mm a → H a = some o → H' a = some o) (n : ∀ a, O' a → OwD g la pa bd ad dq Mm a ∨ H a = none) : Same (Vo (OwD g la pa bd ad dq Mm) H) (Vo O' H') := FrW.vo f n
/-- everything that stood stands -/
theorem SrAt.to {ts : List V} {its : List Itm} (S : SrAt P w K C H0 H g la pa bd ad dq Mm N es cs ps ks xs ts its) (s : Same H H') : SrAt P w K C H0 H' g la pa bd ad dq Mm N es cs ps ks xs ts its :=
  ⟨S.X.to s, S.sm.trans s, s _ _ S.dqe, S.dqn, pd_map S.it fun _ _ h => h.mono (OwD.vo (fun a o _ h => s a o h) fun _ h => .inl h), S.nd, S.fr, S.ow, S.pb⟩
theorem SrAt.dqf {ts : List V} {its : List Itm} (S : SrAt P w K C H0 H g la pa bd ad dq Mm N es cs ps ks xs ts its) : Same H0 (upd H dq (DqO dq ts)) := Same.mut S.sm (S.ow dq (.inr rfl))
/-- the first item leaves the queue -/
theorem SrAt.pop {t : V} {ts : List V} {z : Itm} {its : List Itm} (S : SrAt P w K C H0 H g la pa bd ad dq Mm N es cs ps ks xs (t :: ts) (z :: its)) : SrAt P w K C H0 (upd H dq (DqO dq ts)) g la pa bd ad dq Mm N es cs ps ks xs ts its ∧ ItAt (Vo (OwD g la pa bd ad dq Mm) (upd H dq (DqO dq ts))) t z := by
  have sv : Same (Vo (OwD g la pa bd ad dq Mm) H) (Vo (OwD g la pa bd ad dq Mm) (upd H dq (DqO dq ts))) := OwD.vo (fun a o n h => by rw [upd_ne fun z => n (.inr z)]; exact h) fun _ h => .inl h
  cases S.it with
  | cons h p =>
    refine ⟨⟨S.X.putD S.dqe True.intro S.dqn, Same.mut S.sm (S.ow dq (.inr rfl)), upd_same, S.dqn, pd_map p fun _ _ h => h.mono sv, ?_, fun c hc => S.fr c ?_, S.ow, fun y hy => S.pb y (List.mem_cons_of_mem _ hy)⟩, h.mono sv⟩
    · refine S.nd.sublist ?_
      exact List.Sublist.append_left (by rw [List.map_cons]; exact List.sublist_cons_self _ _) _
    · rcases List.mem_append.mp hc with h | h
      · exact List.mem_append_left _ h
      · exact List.mem_append_right _ (by rw [List.map_cons]; exact List.mem_cons_of_mem _ h)
/-- one more item at the end -/
theorem SrAt.push {t : V} {ts : List V} {z : Itm} {its : List Itm} (S : SrAt P w K C H0 H g la pa bd ad dq Mm N es cs ps ks xs ts its) (h : ItAt (Vo (OwD g la pa bd ad dq Mm) H) t z) (nc : z.2.1 ∉ cs ++ its.map (·.2.1)) (f0 : H0 z.2.1 = none) (pb : z.1.2.length = N ∧ ∀ i, z.2.2 = some i → i < es.length) : SrAt P w K C H0 (upd H dq (DqO dq (ts ++ [t]))) g la pa bd ad dq Mm N es cs ps ks xs (ts ++ [t]) (its ++ [z]) := by
  have sv : Same (Vo (OwD g la pa bd ad dq Mm) H) (Vo (OwD g la pa bd ad dq Mm) (upd H dq (DqO dq (ts ++ [t])))) := OwD.vo (fun a o n h => by rw [upd_ne fun z => n (.inr z)]; exact h) fun _ h => .inl h
  refine ⟨S.X.putD S.dqe True.intro S.dqn, Same.mut S.sm (S.ow dq (.inr rfl)), upd_same, S.dqn, pd_app (pd_map S.it fun _ _ h => h.mono sv) (.cons (h.mono sv) .nil), ?_, fun c hc => ?_, S.ow, fun y hy => ?_⟩
  · rw [List.map_append, ← List.append_assoc]
    refine List.nodup_append.mpr ⟨S.nd, List.nodup_cons.mpr ⟨fun z => (nomatch z), List.nodup_nil⟩, fun a ha b hb e => ?_⟩
    have hb : b = z.2.1 := List.mem_singleton.mp hb
    exact nc (by rw [← hb, ← e]; exact ha)
  · rw [List.map_append, ← List.append_assoc] at hc
    rcases List.mem_append.mp hc with hc | hc
    · exact S.fr c hc
    · have hc : c = z.2.1 := List.mem_singleton.mp hc
      rw [hc]; exact f0
  · rcases List.mem_append.mp hy with hy | hy
    · exact S.pb y hy
    · rw [List.mem_singleton.mp hy]; exact pb
/-- the questions asked have changed -/
theorem SrAt.know {ts : List V} {its : List Itm} {ks' : List (NestedKey × Addr)} (S : SrAt P w K C H0 H g la pa bd ad dq Mm N es cs ps ks xs ts its) (f : ∀ a o, a ≠ ad → H a = some o → H' a = some o) (X : ExpAt P w K C H' g la pa bd ad Mm N es cs ps ks' xs) : SrAt P w K C H0 H' g la pa bd ad dq Mm N es cs ps ks' xs ts its ∧ Same (Vo (OwD g la pa bd ad dq Mm) H) (Vo (OwD g la pa bd ad dq Mm) H') := by
  have hd : dq ≠ ad := fun z => S.dqn (by rw [z]; exact .inr (.inr (.inr (.inr (.inl rfl)))))
  have sv : Same (Vo (OwD g la pa bd ad dq Mm) H) (Vo (OwD g la pa bd ad dq Mm) H') := OwD.vo (fun a o n h => f a o (fun z => n (.inl (.inr (.inr (.inr (.inr (.inl z))))))) h) fun _ h => .inl h
  have sm : Same H0 H' := fun a o h => f a o (fun z => by rw [z, S.ow ad (.inl (.inr (.inr (.inr (.inr (.inl rfl))))))] at h; cases h) (S.sm _ _ h)
  exact ⟨⟨X, sm, f _ _ hd S.dqe, S.dqn, pd_map S.it fun _ _ h => h.mono sv, S.nd, S.fr, S.ow, S.pb⟩, sv⟩
/-- one more is explored -/
theorem SrAt.enter {ts : List V} {its : List Itm} {M' : Int → Option Addr} {c c' : Addr} {p : Option Nat} {v : V} {W : Wn} (S : SrAt P w K C H0 H g la pa bd ad dq Mm N es cs ps ks xs ts its) (nd : (cs ++ [c] ++ its.map (·.2.1)).Nodup) (f0 : H0 c = none) (f : ∀ b o, ¬ OwnE g la pa bd ad Mm b → H b = some o → H' b = some o)
    (hc : c' = c ∨ H c' = none) (new : ∀ t a, M' t = some a → Mm t = some a ∨ H a = none) (X : ExpAt P w K C H' g la pa bd ad M' N (es ++ [W]) (cs ++ [c']) (ps ++ [p]) ks (xs ++ [v])) : SrAt P w K C H0 H' g la pa bd ad dq M' N (es ++ [W]) (cs ++ [c']) (ps ++ [p]) ks (xs ++ [v]) ts its := by
  have o2 : ∀ a, OwnE g la pa bd ad M' a → OwnE g la pa bd ad Mm a ∨ H a = none := fun a h => by
    rcases h with h | h | h | h | h | ⟨t, ht⟩
    · exact .inl (.inl h)
    · exact .inl (.inr (.inl h))
    · exact .inl (.inr (.inr (.inl h)))
    · exact .inl (.inr (.inr (.inr (.inl h))))
    · exact .inl (.inr (.inr (.inr (.inr (.inl h)))))
    · exact (new t a ht).elim (fun z => .inl (.inr (.inr (.inr (.inr (.inr ⟨t, z⟩)))))) .inr
  have sv : Same (Vo (OwD g la pa bd ad dq Mm) H) (Vo (OwD g la pa bd ad dq M') H') := OwD.vo (fun a o n h => f a o (fun z => n (.inl z)) h) fun a h => h.elim (fun z => (o2 a z).imp .inl id) fun z => .inl (.inr z)
  have dn : ¬ OwnE g la pa bd ad M' dq := fun h => (o2 dq h).elim S.dqn fun z => by rw [S.dqe] at z; cases z
  have sm : Same H0 H' := fun a o h => f a o (fun z => by rw [S.ow a (.inl z)] at h; cases h) (S.sm _ _ h)
  have itm : ∀ d ∈ its.map (·.2.1), H d ≠ none := fun d hd z => by
    obtain ⟨y, hy, rfl⟩ := List.mem_map.mp hd
    obtain ⟨t, _, a, x, _, _, b, _, _, h2⟩ := pd_memR S.it y hy
    rw [(vo_iff.mp h2).2] at z
    cases z
  have cm : ∀ d ∈ cs, H d ≠ none := fun d hd z => by
    obtain ⟨i, hi⟩ := List.getElem?_of_mem hd
    have il := (List.getElem?_eq_some_iff.mp hi).1
    obtain ⟨u, hu⟩ : ∃ u, xs[i]? = some u := ⟨_, List.getElem?_eq_getElem (by rw [S.X.xl, ← S.X.cl]; exact il)⟩
    obtain ⟨e, he⟩ : ∃ e, es[i]? = some e := ⟨_, List.getElem?_eq_getElem (by rw [← S.X.cl]; exact il)⟩
    obtain ⟨_, _, _, h2⟩ := S.X.at' i u e d hu he hi
    rw [(vo_iff.mp h2).2] at z
    cases z
  refine ⟨X, sm, f _ _ S.dqn S.dqe, dn, pd_map S.it fun _ _ h => h.mono sv, ?_, fun d hd => ?_, fun a h => ?_, fun y hy => ⟨(S.pb y hy).1, fun i e => by
    have := (S.pb y hy).2 i e
    rw [List.length_append]
    omega⟩⟩
  · rcases hc with rfl | hc
    · exact nd
    · obtain ⟨n1, n2, n3⟩ := List.nodup_append.mp S.nd
      refine List.nodup_append.mpr ⟨List.nodup_append.mpr ⟨n1, List.nodup_cons.mpr ⟨fun z => (nomatch z), List.nodup_nil⟩, fun a ha b hb e => ?_⟩, n2, fun a ha b hb e => ?_⟩
      · rw [List.mem_singleton.mp hb] at e
        exact cm a ha (by rw [e]; exact hc)
      · rcases List.mem_append.mp ha with ha | ha
        · exact n3 a ha b hb e
        · rw [List.mem_singleton.mp ha] at e
          exact itm b hb (by rw [← e]; exact hc)
  · rcases List.mem_append.mp hd with hd | hd
    · rcases List.mem_append.mp hd with hd | hd
      · exact S.fr d (List.mem_append_left _ hd)
      · rw [List.mem_singleton.mp hd]
        rcases hc with rfl | hc
        · exact f0
        · exact S.sm.free hc
    · exact S.fr d (List.mem_append_right _ hd)
  · rcases h with h | h
    · rcases o2 a h with h | h
      · exact S.ow a (.inl h)
      · exact S.sm.free h
    · exact S.ow a (.inr h)
end
/-- what a told cover is: the wide situations and the lists of their counts, which are different new objects -/
structure CovN (H0 H : Hp) (D : Addr) (ys : List V) (zs : List (Wn × Addr)) : Prop where
  at' : Paired (fun y z => WAt (Ho D H) y z.1 z.2) ys zs
  nd : (zs.map (·.2)).Nodup
  new : ∀ z ∈ zs, H0 z.2 = none
/-- a tuple is none of the search's own objects -/
theorem SrAt.tupO {P : Program} {w : World} {K : PySem.W.Frag} {C : Addr} {H0 H : Hp} {g la pa bd ad dq : Addr} {Mm : Int → Option Addr} {N : Nat} {es : List Wn} {cs : List Addr} {ps : List (Option Nat)} {ks : List (NestedKey × Addr)} {xs ts : List V} {its : List Itm} {a : Addr} {l : List V}
    (S : SrAt P w K C H0 H g la pa bd ad dq Mm N es cs ps ks xs ts its) (h : H a = some (.tup l)) : ¬ OwD g la pa bd ad dq Mm a := fun z => by
  obtain ⟨dx, fs, hg, _⟩ := S.X.ob
  obtain ⟨kvs, hbd, _⟩ := S.X.dict
  rcases z with z | rfl
  · rcases z with rfl | rfl | rfl | rfl | rfl | ⟨t, ht⟩
    · rw [hg] at h; cases h
    · rw [S.X.ex] at h; cases h
    · rw [S.X.par] at h; cases h
    · rw [hbd] at h; cases h
    · rw [S.X.ask] at h; cases h
    · rw [S.X.lists t a ht] at h; cases h
  · rw [S.dqe] at h; cases h
theorem SrAt.outO {P : Program} {w : World} {K : PySem.W.Frag} {C : Addr} {H0 H : Hp} {g la pa bd ad dq : Addr} {Mm : Int → Option Addr} {N : Nat} {es : List Wn} {cs : List Addr} {ps : List (Option Nat)} {ks : List (NestedKey × Addr)} {xs ts : List V} {its : List Itm} {a : Addr}
    (S : SrAt P w K C H0 H g la pa bd ad dq Mm N es cs ps ks xs ts its) (h : H a = none) : ¬ OwD g la pa bd ad dq Mm a := fun z => by
  rcases z with z | rfl
  · obtain ⟨o, ho⟩ := S.X.own_in z
    rw [h] at ho
    cases ho
  · rw [S.dqe] at h; cases h
theorem SrAt.some_ {P : Program} {w : World} {K : PySem.W.Frag} {C : Addr} {H0 H : Hp} {g la pa bd ad dq : Addr} {Mm : Int → Option Addr} {N : Nat} {es : List Wn} {cs : List Addr} {ps : List (Option Nat)} {ks : List (NestedKey × Addr)} {xs ts : List V} {its : List Itm} {d : Addr}
    (S : SrAt P w K C H0 H g la pa bd ad dq Mm N es cs ps ks xs ts its) (hd : d ∈ cs ++ its.map (·.2.1)) : H d ≠ none := fun z => by
  rcases List.mem_append.mp hd with hd | hd
  · obtain ⟨i, hi⟩ := List.getElem?_of_mem hd
    have il := (List.getElem?_eq_some_iff.mp hi).1
    obtain ⟨u, hu⟩ : ∃ u, xs[i]? = some u := ⟨_, List.getElem?_eq_getElem (by rw [S.X.xl, ← S.X.cl]; exact il)⟩
    obtain ⟨e, he⟩ : ∃ e, es[i]? = some e := ⟨_, List.getElem?_eq_getElem (by rw [← S.X.cl]; exact il)⟩
    obtain ⟨_, _, _, h2⟩ := S.X.at' i u e d hu he hi
    rw [(vo_iff.mp h2).2] at z
    cases z
  · obtain ⟨y, hy, rfl⟩ := List.mem_map.mp hd
    obtain ⟨t, _, a, x, _, _, b, _, _, h2⟩ := pd_memR S.it y hy
    rw [(vo_iff.mp h2).2] at z
    cases z
/-- a turn of the search -/
def ExInv (P : Program) (w : World) (K : PySem.W.Frag) (C : Addr) (M : MT) (H0 : Hp) (v : V) (g la pa bd ad dq : Addr) (N L fuel : Nat) : Nat → L2.St → Hp → Prop := fun mm σ' H' => ∃ (Mm : Int → Option Addr) (n : Nat) (es : List Wn) (cs : List Addr) (ps : List (Option Nat)) (ks : List (NestedKey × Addr)) (xs ts : List V) (its : List Itm) (y4 y5 y6 y7 y8 : Option V), mm = (fuel - es.length) * (L + 1) + its.length ∧ σ' = [some v, some (nV fuel), some (.ref g), some (.ref dq), y4, y5, y6, y7, y8] ∧ SrAt P w K C H0 H' g la pa bd ad dq Mm N es cs ps ks xs ts its ∧
  AntiE es ∧ exIter M n = (its.map (qOf es ps), es) ∧ (∀ t, keyW t ∈ ks.map (·.1) → cvd es t = true) ∧ ks.length + its.length ≤ 1 + L * es.length ∧ es.length ≤ fuel
theorem cvd_more {es : List Wn} {r : Wn} (W : Wn) (h : cvd es r = true) : cvd (es ++ [W]) r = true := by
  unfold cvd at h ⊢
  rw [List.any_append, h]
  rfl
theorem cvd_last {es : List Wn} {r W : Wn} (h : covW W.1 W.2 r.1 r.2 = true) : cvd (es ++ [W]) r = true := by
  unfold cvd
  rw [List.any_append, List.any_cons, h]
  simp
theorem widen_covW (r : Wn) (anc : List Wn) : covW r.1 (widen r.1 r.2 anc) r.1 r.2 = true := Bool.and_eq_true_iff.mpr ⟨decide_eq_true rfl, widen_up r.1 anc r.2⟩
theorem exStep_at {M : MT} {n : Nat} {q : Qi} {r : List Qi} {es : List Wn} (h : exIter M n = (q :: r, es)) : exIter M (n + 1) = expl1 M q r es := by
  show exStep M (exIter M n) = _
  rw [h]
  rfl
/-- the cover that is told -/
theorem cov_told {P : Program} {w : World} {K : PySem.W.Frag} {C : Addr} {H0 H H2 : Hp} {g la pa bd ad dq : Addr} {Mm : Int → Option Addr} {N : Nat} {es : List Wn} {cs : List Addr} {ps : List (Option Nat)} {ks : List (NestedKey × Addr)} {xs ts ys : List V} {its : List Itm} {D : Addr}
    (S : SrAt P w K C H0 H g la pa bd ad dq Mm N es cs ps ks xs ts its) (s2 : Same H H2) (nD : H D = none) (py : Paired (fun y z => (y, z) ∈ ((grI es es.length).map fun i => xs.getD i .non).zip ((grI es es.length).map fun i => (es.getD i (0, []), cs.getD i 0))) ys (((grI es es.length).map fun i => (es.getD i (0, []), cs.getD i 0)).mergeSort (PySem.W.dataLe false fun z => rkD z.1))) :
    CovN H0 H2 D ys (((grI es es.length).map fun i => (es.getD i (0, []), cs.getD i 0)).mergeSort (PySem.W.dataLe false fun z => rkD z.1)) := by
  have pm := List.mergeSort_perm ((grI es es.length).map fun i => (es.getD i ((0 : Int), ([] : List (Option Int))), cs.getD i 0)) (PySem.W.dataLe false fun z => rkD z.1)
  have gm : ∀ i ∈ grI es es.length, i < es.length := fun i hi => List.mem_range.mp (List.mem_filter.mp hi).1
  have cget : ∀ i, i < es.length → cs[i]? = some (cs.getD i 0) := fun i hi => by
    rw [List.getD_eq_getElem?_getD, List.getElem?_eq_getElem (by rw [S.X.cl]; exact hi)]
    rfl
  refine ⟨pd_map py fun y z h => ?_, ?_, fun z hz => ?_⟩
  · obtain ⟨j, hj⟩ := List.getElem?_of_mem h
    obtain ⟨h1, h2⟩ := List.getElem?_zip_eq_some.mp hj
    rw [List.getElem?_map] at h1 h2
    cases hk : (grI es es.length)[j]? with
    | none => rw [hk] at h1; cases h1
    | some i =>
      rw [hk] at h1 h2
      have il := gm i (List.mem_of_getElem? hk)
      have h1 : xs.getD i .non = y := Option.some.inj h1
      have h2 : (es.getD i (0, []), cs.getD i 0) = z := Option.some.inj h2
      rw [← h1, ← h2]
      have wa := S.X.at' i (xs.getD i .non) (es.getD i (0, [])) (cs.getD i 0) (by rw [List.getD_eq_getElem?_getD, List.getElem?_eq_getElem (by rw [S.X.xl]; exact il)]; rfl) (by rw [List.getD_eq_getElem?_getD, List.getElem?_eq_getElem il]; rfl) (cget i il)
      refine (wa.mono vo_out).mono fun a o h => ?_
      unfold Ho
      rw [if_neg fun z => by rw [z, nD] at h; cases h]
      exact s2 _ _ h
  · refine ((pm.map (·.2)).nodup_iff).mpr ?_
    rw [List.map_map]
    refine List.pairwise_map.mpr ?_
    refine List.Pairwise.imp_of_mem (R := fun a b => a ≠ b) (fun {a b} ha hb ne e => ne ?_) (List.nodup_range.filter _)
    have e : cs.getD a 0 = cs.getD b 0 := e
    have ca := cget a (gm a ha)
    have cb := cget b (gm b hb)
    rw [e] at ca
    exact (List.getElem?_inj (by rw [S.X.cl]; exact gm a ha) S.X.cd).mp (ca.trans cb.symm)
  · obtain ⟨i, hi, rfl⟩ := List.mem_map.mp (pm.mem_iff.mp hz)
    exact S.fr _ (List.mem_append_left _ (List.mem_of_getElem? (cget i (gm i hi))))
/-! ### explore -/
section
variable {P : Program} {w : World} {K : PySem.W.Frag} {mg : Str → Option Value} {base : Heap}
def spExplore (K : PySem.W.Frag) : Sp := fun vs H Q _ => ∃ (v : V) (M : MT) (N L fuel : Nat), vs = [v, nV fuel] ∧ Dp K H v M.data ∧ (∀ m ∈ M.moves, m.sh = []) ∧ (∀ m ∈ M.moves, m.Fit M.states N) ∧ M.cnts.length = N ∧ M.crew < N ∧ M.moves.length ≤ L ∧ L ≤ 90000 ∧ N ≤ 80000 ∧ fuel ≤ 80000 ∧ 1 + L * (fuel + 1) ≤ 9000000 ∧
  ∀ (H' : Hp) (u : V), Same H H' → ((∃ n qs es, u = .non ∧ exIter M n = (qs, es) ∧ fuel < es.length) ∨ ∃ (D : Addr) (ys : List V) (zs : List (Wn × Addr)) (n : Nat) (es : List Wn), u = .ref D ∧ H D = none ∧ H' D = some (.lst ys) ∧ CovN H H' D ys zs ∧ zs.map (·.1) = coverL es ∧ exIter M n = ([], es) ∧ es.length ≤ fuel) → Q u H'
abbrev s_explore : Stmt := topS 9
theorem sc_explore : FnScope ["machine", "fuel", "explorer", "queue", "situation", "parent", "wide", "at", "other"] ["machine", "fuel"] (defScope s_explore) := ⟨rfl, rfl, rfl, by decide +kernel, rfl, by decide +kernel, by decide +kernel⟩
-- explore slots: machine=0 fuel=1 explorer=2 queue=3 situation=4 parent=5 wide=6 at=7 other=8 globals: OutOfRange refuse_shifts Explorer deque beginning len successors
set_option maxHeartbeats 4000000 in
theorem ok_explore {f C : Addr} {fd : FuncData} (F : Fun K "explore" "explore" s_explore f fd) (B : Bt mg) (TE : TxtE K mg C) (mdq : mg "deque" = some (.type "collections.deque")) (D_refuse_shifts : Fd P w K mg base "refuse_shifts" ["machine"] 1 (spRefSh K)) (I_Explorer : Mkr P w K mg base C ["self"] 1 (spEInit P w K C)) (D_beginning : Fd P w K mg base "beginning" ["machine"] 2 (spBegin K))
    (M_knows : Md P w K mg base C "knows" ["self", "situation"] 3 (spKnows P w K C)) (M_enter : Md P w K mg base C "enter" ["self", "situation", "parent"] 3 (spEnter P w K C)) (D_successors : Fd P w K mg base "successors" ["machine", "situation"] 2 (spSuccN K)) (M_cover : Md P w K mg base C "cover" ["self"] 4 (spCover P w K C)) :
    FnOk P w K mg base CX0 6 f fd ["machine", "fuel"] (spExplore K) := by
  refine F.ok sc_explore (fun vs H Q E h => ?_) (fun cdv A outer s H vs Q E hr h => ?_)
  · obtain ⟨v, M, N, L, fuel, rfl, _⟩ := h
    rfl
  obtain ⟨v, M, N, L, fuel, rfl, hd, hsh, hfit, hcl, hcr, hmL, hL, hN, hfu, hbig, q⟩ := h
  refine ⟨_, (pss_cons (ps_if (pt_cmpR op_lt (pv 1) pe_int (nomark _))
 (pss_one ps_never)
 pss_nil)
 (pss_cons (ps_expr (pe_fn D_refuse_shifts (hr.mono (by decide)) rfl (pa_cons (pv 0) pa_nil)))
 (pss_cons (ps_set (i := 2) sc_explore.nd rfl (Or.inl rfl) (pe_mkr I_Explorer fun _ _ G mk b => pe_make0 mk G (hr.mono (by decide)) (by rfl) TE.mgC b .nil pass0))
 (pss_cons (ps_set (i := 3) sc_explore.nd rfl (Or.inl rfl) (pe_callGT0 call_dequeN (by rfl) mdq))
 (pss_cons (ps_expr (pe_dqm dq_slot_append dq_type_append mt_dqapp (pv 3) (pa_cons (pe_tup (pa_cons (pe_fn D_beginning (hr.mono (by decide)) rfl (pa_cons (pv 0) pa_nil)) (pa_cons pe_non pa_nil))) pa_nil)))
 (pss_cons (ps_while PassesOwn.never (pt_truthR (pv 3) tru_dqN (by intro _; rfl))
 (pss_cons (ps_asg (pe_dqm0 dq_slot_popleft dq_type_popleft mt_dqpop (pv 3)) (pg_tup rfl (pgs_cons (pg_name (i := 4) sc_explore.nd rfl (Or.inl rfl)) (pgs_cons (pg_name (i := 5) sc_explore.nd rfl (Or.inl rfl)) pgs_nil))))
 (pss_one (ps_if (pt_not (pt_val (pe_md M_knows fun _ _ G hm b => pe_meth (pv 2) TE.cl hm G (hr.mono (by decide)) b .nil pass0 (pa_cons (pv 4) pa_nil))))
 (pss_cons (ps_if (pt_cmpR op_eq (pe_callB (cLen K) (by rfl) B.len PySem.boot_len (pa_cons (pe_fld (pv 2) rfl) pa_nil)) (pv 1) (nomark _))
 (pss_one (ps_ret pe_non))
 pss_nil)
 (pss_cons (ps_set (i := 6) sc_explore.nd rfl (Or.inl rfl) (pe_md M_enter fun _ _ G hm b => pe_meth (pv 2) TE.cl hm G (hr.mono (by decide)) b .nil pass0 (pa_cons (pv 4) (pa_cons (pv 5) pa_nil))))
 (pss_cons (ps_set (i := 7) sc_explore.nd rfl (Or.inl rfl) (pe_op op_sub (pe_callB (cLen K) (by rfl) B.len PySem.boot_len (pa_cons (pe_fld (pv 2) rfl) pa_nil)) pe_int))
 (pss_one (ps_for PassesOwn.never rfl (piL K (pe_fn D_successors (hr.mono (by decide)) rfl (pa_cons (pv 0) (pa_cons (pv 6) pa_nil)))) (pg_name (i := 8) sc_explore.nd rfl (Or.inl rfl))
 (pss_one (ps_expr (pe_dqm dq_slot_append dq_type_append mt_dqapp (pv 3) (pa_cons (pe_tup (pa_cons (pv 8) (pa_cons (pv 7) pa_nil))) pa_nil)))))))))
 pss_nil))))
 (pss_one (ps_ret (pe_md M_cover fun _ _ G hm b => pe_meth0 (pv 2) TE.cl hm G (hr.mono (by decide)) b .nil pass0))))))))), ?_⟩
  refine ⟨_, rfl, (fuel : Int), 0, rfl, rfl, _, rfl, iteFx (decide_eq_false (by omega)) ?_⟩
  refine ⟨_, rfl, v, M, rfl, hd, hsh, ?_⟩
  refine fun g dx ng ndx gdx => ⟨g, dx, rfl, upd_same, fun H1 la pa bd ad f1 nla npa nbd nad X1 => ⟨rfl, ?_⟩⟩
  dsimp only [gName]
  have s1 : Same H H1 := fun a o h => by
    have ag : a ≠ g := fun z => by rw [z, ng] at h; cases h
    have ad' : a ≠ dx := fun z => by rw [z, ndx] at h; cases h
    exact f1 a o ag (by rw [upd_ne ag, upd_ne ad']; exact h)
  have nH : ∀ {b : Addr}, (upd (upd H dx (.own g)) g (.ins C dx [])) b = none → H b = none := fun {b} h => by
    by_cases e : b = g
    · rw [e]; exact ng
    · rw [upd_ne e] at h
      by_cases e2 : b = dx
      · rw [e2]; exact ndx
      · rw [upd_ne e2] at h; exact h
  have X1 := X1 N
  refine ⟨rfl, fun dq ndq => ?_⟩
  dsimp only [gName]
  have s2 := same_new (o := DqO dq []) ndq
  have edq : (upd H1 dq (DqO dq [])) dq = some (DqO dq []) := upd_same
  have X2 := X1.to s2
  have own0 : ∀ a, OwD g la pa bd ad dq (fun _ => none) a → H a = none := fun a h => by
    rcases h with h | rfl
    · rcases h with rfl | rfl | rfl | rfl | rfl | ⟨t, ht⟩
      · exact ng
      · exact nH nla
      · exact nH npa
      · exact nH nbd
      · exact nH nad
      · cases ht
    · exact s1.free ndq
  have dqn : ¬ OwnE g la pa bd ad (fun _ => none) dq := fun h => by
    obtain ⟨o, ho⟩ := X1.own_in h
    rw [ndq] at ho
    cases ho
  have s02 := s1.trans s2
  generalize upd H1 dq (DqO dq []) = H2 at edq X2 s02 ⊢
  refine ⟨_, rfl, ⟨dq, [], rfl, edq⟩, _, rfl, v, M, rfl, dp_mono s02 hd, by omega, fun H3 p s3 nw => ⟨szc 2, fun t nt => ?_⟩⟩
  obtain ⟨ca, n1, n2, n3, e1, e2⟩ := nw
  have s03 := s02.trans s3
  have s4 := same_new (o := HO.tup [V.ref p, V.non]) nt
  have et : (upd H3 t (.tup [V.ref p, V.non])) t = some (.tup [V.ref p, V.non]) := upd_same
  have pO : ¬ OwD g la pa bd ad dq (fun _ => none) p := fun h => by
    rcases h with h | h
    · obtain ⟨o, ho⟩ := X2.own_in h
      rw [n1] at ho
      cases ho
    · rw [h, edq] at n1; cases n1
  have cO : ¬ OwD g la pa bd ad dq (fun _ => none) ca := fun h => by
    rcases h with h | h
    · obtain ⟨o, ho⟩ := X2.own_in h
      rw [n2] at ho
      cases ho
    · rw [h, edq] at n2; cases n2
  have tO : ¬ OwD g la pa bd ad dq (fun _ => none) t := fun h => by
    rcases h with h | h
    · obtain ⟨o, ho⟩ := X2.own_in h
      rw [s3.free nt] at ho
      cases ho
    · rw [h, s3 _ _ edq] at nt; cases nt
  have S0 : SrAt P w K C H (upd H3 t (.tup [V.ref p, V.non])) g la pa bd ad dq (fun _ => none) N [] [] [] [] [] [] [] :=
    ⟨X2.to (s3.trans s4), s03.trans s4, s4 _ _ (s3 _ _ edq), dqn, .nil, .nil, fun c hc => (nomatch hc), own0, fun z hz => nomatch hz⟩
  have I0 : ItAt (Vo (OwD g la pa bd ad dq (fun _ => none)) (upd H3 t (.tup [V.ref p, V.non]))) (.ref t) (begW M, ca, none) :=
    ⟨t, .ref p, rfl, vo_iff.mpr ⟨tO, et⟩, p, rfl, vo_iff.mpr ⟨pO, s4 _ _ e1⟩, vo_iff.mpr ⟨cO, s4 _ _ e2⟩⟩
  have S1 := S0.push I0 (fun h => nomatch h) (s02.free n2) ⟨by rw [begW_len]; exact hcl, fun i e => nomatch e⟩
  refine ⟨dq, [], .ref t, rfl, rfl, S0.dqe, szl (by decide), ?_⟩
  rw [List.nil_append] at S1 ⊢
  generalize upd (upd H3 t (.tup [V.ref p, V.non])) dq (DqO dq [V.ref t]) = H4 at S1 ⊢
  refine ⟨ExInv P w K C M H v g la pa bd ad dq N L fuel, ?_, ?_⟩
  · exact ⟨_, _, 0, [], [], [], [], [], _, _, none, none, none, none, none, rfl, rfl, S1, fun i j a b l h => (by simp at h), rfl, fun t h => (nomatch h), Nat.le_refl _, Nat.zero_le _⟩
  clear S1 I0 S0 et s4 e1 e2 n1 n2 n3 nt s03 s3 edq X2 own0 dqn s02 s2 ndq X1 s1 nH f1 nla npa nbd nad pO cO tO
  rintro mm σ' H1 ⟨Mm, n, es, cs, ps, ks, xs, ts, its, y4, y5, y6, y7, y8, rfl, rfl, S, an, md, ak, kl, el⟩
  obtain ⟨dx, fs, hg, fld⟩ := S.X.ob
  cases ts with
  | nil =>
    have it0 : its = [] := by
      cases S.it
      rfl
    subst it0
    refine ⟨_, rfl, dq, [], rfl, S.dqe, iteFx rfl ?_⟩
    refine ⟨_, rfl, g, dx, fs, rfl, hg, fld.no _ (by decide) (by decide) (by decide) (by decide), g, la, pa, bd, ad, Mm, N, es, cs, ps, ks, xs, rfl, S.X, by omega, hN, fun H2 D ys s2 nD eD py => ?_⟩
    exact q H2 (.ref D) (S.sm.trans s2) (.inr ⟨D, ys, _, n, es, rfl, S.sm.free nD, eD, cov_told S s2 nD py, cover_sorted an S.X.ln rfl, md, el⟩)
  | cons t ts =>
    obtain ⟨z, its, rfl⟩ : ∃ z its', its = z :: its' := by
      cases S.it
      exact ⟨_, _, rfl⟩
    obtain ⟨r, c, pr⟩ := z
    obtain ⟨S1, ta, x, rfl, et, wx⟩ := S.pop
    have rl := (S.pb _ List.mem_cons_self).1
    have pl := (S.pb _ List.mem_cons_self).2
    have nd0 := S.nd
    have f0 := S.fr c (List.mem_append_right _ List.mem_cons_self)
    have il : (( (r, c, pr) : Itm) :: its).length = its.length + 1 := rfl
    rw [il] at kl ⊢
    refine ⟨_, rfl, dq, .ref ta :: ts, rfl, S.dqe, iteTx rfl ⟨fun σ' H' => ∃ m', m' < (fuel - es.length) * (L + 1) + (its.length + 1) ∧ ExInv P w K C M H v g la pa bd ad dq N L fuel m' σ' H', fun σ' H' h => h, ?_⟩⟩
    have nxt := exStep_at md
    refine ⟨_, rfl, ⟨dq, _, rfl, S.dqe⟩, dq, .ref ta, ts, rfl, rfl, S.dqe, ?_⟩
    clear md
    generalize upd H1 dq (DqO dq ts) = H2 at S1 et wx ⊢
    have et2 := (vo_iff.mp et).2
    refine ⟨ta, _, rfl, st et2, rfl, _, _, rfl, _, _, rfl, rfl, ?_⟩
    dsimp only at et wx et2 rl pl f0
    have vs : ∀ {G : Hp}, Same (Vo (OwD g la pa bd ad dq Mm) G) (Vo (OwnE g la pa bd ad Mm) G) := fun {G} a o h => by
      obtain ⟨h1, h2⟩ := vo_iff.mp h
      exact vo_iff.mpr ⟨fun z => h1 (.inl z), h2⟩
    obtain ⟨dx2, fs2, hg2, fld2⟩ := S1.X.ob
    refine ⟨_, rfl, g, dx2, fs2, rfl, hg2, fld2.no _ (by decide) (by decide) (by decide) (by decide), _, rfl, g, la, pa, bd, ad, Mm, N, es, cs, ps, ks, xs, x, r, rfl, S1.X, (wx.mono vo_out).sit, rl, ?_, ak, fun H3 ks' f3 X3 kl3 kk3 => ⟨_, rfl, ?_⟩⟩
    · have := Nat.mul_le_mul_left L el
      rw [Nat.mul_add] at hbig
      omega
    obtain ⟨S3, sv3⟩ := S1.know f3 X3
    cases hcv : cvd es r with
    | true =>
      refine iteFx rfl ⟨(fuel - es.length) * (L + 1) + its.length, Nat.add_lt_add_left (Nat.lt_succ_self _) _, Mm, n + 1, es, cs, ps, ks', xs, ts, its, _, _, _, _, _, rfl, rfl, S3, an, nxt.trans (if_pos hcv), fun t h => (kk3 t h).elim (ak t) fun e => by rw [e]; exact hcv, by omega, el⟩
    | false =>
      refine iteTx rfl ?_
      obtain ⟨dx3, fs3, hg3, fld3⟩ := X3.ob
      have nxt := nxt.trans (if_neg (by rw [show cvd es (qOf es ps (r, c, pr)).1 = false from hcv]; decide))
      have xl := S3.X.xl
      refine ⟨_, rfl, g, C, dx3, fs3, _, rfl, hg3, TE.cl, TE.nE, fld3.explored, la, xs, rfl, .inl (sq X3.ex), _, rfl, rfl, _, rfl, ?_⟩
      rw [int_eqE]
      refine ite2 (fun e => ?_) (fun e => ?_)
      · have e := of_decide_eq_true e
        exact q H3 .non S3.sm (.inl ⟨n + 1, _, _, rfl, nxt, by rw [List.length_append]; show fuel < es.length + 1; omega⟩)
      have e : ¬ ((xs.length : Int) = (fuel : Int)) := fun z => e (decide_eq_true z)
      have efu : es.length + 1 ≤ fuel := by omega
      obtain ⟨nc1, nc2, nc3⟩ := List.nodup_append.mp nd0
      have nc : c ∉ cs := fun h => nc3 c h c List.mem_cons_self rfl
      refine ⟨_, rfl, g, dx3, fs3, rfl, hg3, fld3.no _ (by decide) (by decide) (by decide) (by decide), _, rfl, _, rfl, g, la, pa, bd, ad, Mm, N, es, cs, ps, ks', xs, x, r, c, pr, rfl, X3, (wx.mono sv3).mono vs, nc, rl, by omega, by omega, pl, fun H4 v4 c' M' f4 hc4 new4 X4 => ?_⟩
      have S4 := S3.enter (c := c) (by rw [List.append_assoc]; exact nd0) f0 f4 hc4 new4 X4
      have an4 := an.enter (anc := ancW es ps pr) S3.X.ln rl hcv
      have st4 : ∀ q : Option Nat, (∀ i, q = some i → i < es.length) → ancW (es ++ [(r.1, widen r.1 r.2 (ancW es ps pr))]) (ps ++ [pr]) q = ancW es ps q := fun q hq => ancW_stay S3.X.pl S3.X.low hq
      have ne4 : ancW (es ++ [(r.1, widen r.1 r.2 (ancW es ps pr))]) (ps ++ [pr]) (some es.length) = ancW es ps pr ++ [(r.1, widen r.1 r.2 (ancW es ps pr))] := ancW_next S3.X.pl S3.X.low pl
      have co4 := widen_covW r (ancW es ps pr)
      have Wl : (widen r.1 r.2 (ancW es ps pr)).length = N := (widen_len _ _ _).trans rl
      have nxt4 : exIter M (n + 1) = ((its.map (qOf es ps)) ++ (succW M (r.1, widen r.1 r.2 (ancW es ps pr))).map (fun f => (f, ancW es ps pr ++ [(r.1, widen r.1 r.2 (ancW es ps pr))])), es ++ [(r.1, widen r.1 r.2 (ancW es ps pr))]) := nxt
      clear nxt
      generalize widen r.1 r.2 (ancW es ps pr) = W at X4 S4 an4 st4 ne4 co4 Wl nxt4
      have hl4 : (es ++ [(r.1, W)]).length = es.length + 1 := by rw [List.length_append]; rfl
      have wv := S4.X.at' es.length v4 (r.1, W) c' (by rw [← xl, List.getElem?_append_right (Nat.le_refl _), Nat.sub_self]; rfl) (by rw [List.getElem?_append_right (Nat.le_refl _), Nat.sub_self]; rfl) (by rw [← S3.X.cl, List.getElem?_append_right (Nat.le_refl _), Nat.sub_self]; rfl)
      obtain ⟨dx4, fs4, hg4, fld4⟩ := S4.X.ob
      refine ⟨_, rfl, g, C, dx4, fs4, _, rfl, hg4, TE.cl, TE.nE, fld4.explored, la, _, rfl, .inl (sq S4.X.ex), _, _, rfl, rfl, ?_⟩
      dsimp only [gName]
      have eat : V.int (((xs ++ [v4]).length : Nat) - 1 : Int) = nV es.length := by
        rw [List.length_append, xl]
        show V.int (((es.length + 1 : Nat) : Int) - 1) = V.int (es.length : Int)
        congr 1
        omega
      refine ⟨_, rfl, _, rfl, v, v4, M, r.1, W, M.states, rfl, dp_mono S4.sm hd, (wv.mono vo_out).sit, (by rw [Wl]; exact hfit), by omega, fun H5 D ys zs s5 nD eD ez py nz => ?_⟩
      have S5 := S4.to s5
      have yl := py.length
      have zl : zs.length ≤ L := by
        have := congrArg List.length ez
        rw [List.length_map] at this
        rw [this]
        exact Nat.le_trans (succW_len M _) hmL
      have big : its.length + L ≤ 9000000 := by
        have := Nat.mul_le_mul_left L efu
        have h2 : L * (es.length + 1) = L * es.length + L := Nat.mul_succ _ _
        rw [Nat.mul_add] at hbig
        omega
      refine ⟨D, rfl, ⟨_, sq eD⟩, for_list (xs := ys) (fun j σ' H' => ∃ (y8 : Option V) (ts2 : List V), σ' = [some v, some (nV fuel), some (.ref g), some (.ref dq), some x, some (pnV pr), some v4, some (nV es.length), y8] ∧ SrAt P w K C H H' g la pa bd ad dq M' N (es ++ [(r.1, W)]) (cs ++ [c']) (ps ++ [pr]) ks' (xs ++ [v4]) ts2 (its ++ (zs.take j).map fun z => ((z.1, z.2, some es.length) : Itm)) ∧ ∀ a o, a ≠ dq → H5 a = some o → H' a = some o) ⟨y8, ts, by rw [eat]; rfl, by rw [List.take_zero, List.map_nil, List.append_nil]; exact S5, fun a o _ h => h⟩ ?_ ?_ ?_⟩
      · rintro j σ' H' _ ⟨y8, ts2, rfl, S6, f6⟩
        exact sq (f6 _ _ (fun z => by rw [z, S4.dqe] at nD; cases nD) eD)
      · rintro j u σ' H' hu ⟨y8, ts2, rfl, S6, f6⟩
        obtain ⟨z, hz, wz, nz0⟩ := paired_get py hu
        have zj := (List.getElem?_eq_some_iff.mp hz).1
        have tl := S6.it.length
        rw [List.length_append, List.length_map, List.length_take] at tl
        dsimp only [gName]
        refine ⟨_, rfl, ⟨dq, _, rfl, S6.dqe⟩, _, rfl, _, rfl, szc 2, fun t nt => ⟨dq, ts2, .ref t, rfl, rfl, (same_new nt) _ _ S6.dqe, lt9 (by omega), ?_⟩⟩
        have s7 := same_new (o := HO.tup [u, nV es.length]) nt
        have et7 : (upd H' t (.tup [u, nV es.length])) t = some (.tup [u, nV es.length]) := upd_same
        have S7 := S6.to s7
        have tO := S6.outO nt
        obtain ⟨ua, rfl, eu, ec⟩ := wz
        have duq : ua ≠ dq := fun y => by
          have := ho_out _ _ eu
          rw [y, S5.dqe] at this
          cases this
        have dcq : z.2 ≠ dq := fun y => by rw [y, S4.dqe] at nz0; cases nz0
        have eu6 := f6 _ _ duq (ho_out _ _ eu)
        have ec6 := f6 _ _ dcq (ho_out _ _ ec)
        have cO : ¬ OwD g la pa bd ad dq M' z.2 := S4.outO nz0
        have I7 : ItAt (Vo (OwD g la pa bd ad dq M') (upd H' t (.tup [.ref ua, nV es.length]))) (.ref t) (z.1, z.2, some es.length) := ⟨t, .ref ua, rfl, vo_iff.mpr ⟨tO, et7⟩, ua, rfl, vo_iff.mpr ⟨S6.tupO eu6, s7 _ _ eu6⟩, vo_iff.mpr ⟨cO, s7 _ _ ec6⟩⟩
        have S8 := S7.push I7 (fun hm => ?_) (S4.sm.free nz0) ⟨?_, fun i e => ?_⟩
        · rw [List.append_assoc, ← List.map_singleton (f := fun z : Wn × Addr => ((z.1, z.2, some es.length) : Itm)), ← List.map_append, ← take_snoc hz] at S8
          exact ⟨_, _, rfl, S8, fun a o n h => by rw [upd_ne n]; exact s7 _ _ (f6 a o n h)⟩
        · rw [List.map_append, List.map_map, ← List.append_assoc] at hm
          rcases List.mem_append.mp hm with hm | hm
          · exact S4.some_ hm nz0
          · obtain ⟨y, hy, ey⟩ := List.mem_map.mp hm
            obtain ⟨k, hk⟩ := List.getElem?_of_mem hy
            have kj : k < j := by
              have := (List.getElem?_eq_some_iff.mp hk).1
              rw [List.length_take] at this
              omega
            rw [List.getElem?_take_of_lt kj] at hk
            have e1 : (zs.map (·.2))[k]? = some z.2 := by rw [List.getElem?_map, hk]; exact congrArg some ey
            have e2 : (zs.map (·.2))[j]? = some z.2 := by rw [List.getElem?_map, hz]; rfl
            have := (List.getElem?_inj (by rw [List.length_map]; omega) nz).mp (e1.trans e2.symm)
            omega
        · have := List.mem_of_getElem? hz
          have hm : z.1 ∈ succW M (r.1, W) := by rw [← ez]; exact List.mem_map_of_mem this
          obtain ⟨mv, _, e⟩ := List.mem_map.mp hm
          rw [← e]
          show (mv.aftW W).length = N
          rw [aftW_len, Wl]
        · have : es.length = i := Option.some.inj e
          rw [hl4]
          omega
      rintro σ' H' ⟨y8, ts2, rfl, S6, f6⟩
      rw [yl, List.take_length] at S6
      have hL1 : L * (es ++ [(r.1, W)]).length = L * es.length + L := by rw [hl4]; exact Nat.mul_succ _ _
      refine ⟨(fuel - (es ++ [(r.1, W)]).length) * (L + 1) + (its ++ zs.map fun z => ((z.1, z.2, some es.length) : Itm)).length, ?_, M', n + 1, _, _, _, ks', _, ts2, _, _, _, _, _, _, rfl, rfl, S6, an4, ?_, fun t h => ?_, ?_, by rw [hl4]; exact efu⟩
      · rw [hl4, List.length_append, List.length_map]
        obtain ⟨d, hd'⟩ : ∃ d, fuel - es.length = d + 1 := ⟨fuel - es.length - 1, by omega⟩
        have e2 : fuel - (es.length + 1) = d := by omega
        rw [hd', e2, Nat.succ_mul]
        omega
      · rw [nxt4, ← ez, List.map_map, List.map_append, List.map_map]
        refine Prod.ext ?_ rfl
        show _ ++ _ = _ ++ _
        congr 1
        · refine List.map_congr_left fun z hz => ?_
          show (z.1, ancW es ps z.2.2) = (z.1, ancW (es ++ [(r.1, W)]) (ps ++ [pr]) z.2.2)
          rw [st4 z.2.2 (S1.pb z hz).2]
        · refine List.map_congr_left fun z hz => ?_
          show (z.1, _) = (z.1, ancW (es ++ [(r.1, W)]) (ps ++ [pr]) (some es.length))
          rw [ne4]
      · rcases kk3 t h with h | h
        · exact cvd_more _ (ak t h)
        · rw [h]; exact cvd_last co4
      · rw [List.length_append, List.length_map, hL1]
        omega
end
/-! ### calls with keywords -/
abbrev catG : List Value → List Value → List Value := fun us ws => us ++ ws
abbrev catV : List V → List V → List V := fun us ws => us ++ ws
theorem vals_app {vs zs : List V} {us ws : List Value} (h1 : Vals vs us) (h2 : Vals zs ws) : Vals (catV vs zs) (catG us ws) := by
  show Vals (vs ++ zs) (us ++ ws)
  induction h1 with
  | nil => exact h2
  | cons r _ ih => exact .cons r ih
structure FdK (P : Program) (w : World) (K : PySem.W.Frag) (mg : Str → Option Value) (base : Heap) (x : Str) (ps : List Str) (n : Nat) (ks : List Str) (k : Nat) (sp : Sp) : Prop where
  ex : ∃ (f : Addr) (fd : FuncData), FnOk P w K mg base CX0 k f fd ps sp ∧ mg x = some (.ref f) ∧ PySem.W.keepIn K (.ref f) = true ∧ KBn K fd ps n ks catG catV
theorem Fun.kbinds {K : PySem.W.Frag} {x qual : Str} {st : Stmt} {f : Addr} {fd : FuncData} {ps ks : List Str} {n : Nat} (F : Fun K x qual st f fd)
    (h : ∀ (kV doc pm : Value) (an : Option Addr) (cdv ct : Value) (us ws : List Value), us.length = n → ws.length = ks.length → bindArgs (PySem.W.fnOf x qual (defArgs st) (defBody st) (defScope st) Value.none kV doc pm an cdv ct) { pos := us, kw := ks.zip ws } = pure (ps.zip (us ++ ws))) : KBn K fd ps n ks catG catV := by
  obtain ⟨oc, od, kV, doc, pm, an, cdv, ct, osl, rfl, lk, hcd⟩ := F.ex
  exact ⟨fun s us ws _ h1 h2 => .of_eq (h kV doc pm an cdv ct us ws h1 h2), vals_app⟩
theorem pe_fnK {X : Cx} {x : Str} {ps ks : List Str} {n k : Nat} {sp : Sp} {e : Expr} {es : List Expr} {kws : List Keyword} {t tk : TA} {p pos : Pos} (F : FdK X.prog X.w X.K X.mg X.base x ps n ks k sp) (hr : Room k X.A) (hg : Gl X x) (ha : PA X (e :: es) t) (hk : PK X kws tk)
    (h1 : ((backToKw pos (keywordEach kws X.env)).all fun x => x.1.isSome) = true := by rfl) (h2 : List.filterMap (fun x => x.1) (backToKw pos (keywordEach kws X.env)) = ks := by rfl) (hdb : (x == ("__debug__" : Str)) = false := by decide)
    (he : starEach (e :: es) X.env = (false, eval e X.env) :: starEach es X.env := by rfl) (hs : (((backTo pos (starEach (e :: es) X.env)).any fun x => x.1) || (backToKw pos (keywordEach kws X.env)).any fun x => x.1.isNone) = false := by rfl) :
    PE X (.Call (.Name x p) (e :: es) kws pos) (tCallN n ks.length sp catV E0 t tk) := by
  obtain ⟨f, fd, G, m, kp, b⟩ := F.ex
  exact pe_callN G hr hg m kp b pass0 ha hk h1 h2 hdb he hs
structure FdXK (P : Program) (w : World) (K : PySem.W.Frag) (mg : Str → Option Value) (base : Heap) (x : Str) (ps : List Str) (n : Nat) (ks : List Str) (k : Nat) (sp : Sp) : Prop where
  ex : ∃ (f : Addr) (fd : FuncData), FnOk P w K mg base (L2.CX P w) k f fd ps sp ∧ mg x = some (.ref f) ∧ PySem.W.keepIn K (.ref f) = true ∧ KBn K fd ps n ks catG catV
def tCallNS (n m : Nat) (sp : Sp) (E : L2.St → XK) (t tk : TA) : TE := fun σ H Q => t σ H fun vs H1 => tk σ H1 fun zs H2 => vs.length = n ∧ zs.length = m ∧ sp (catV vs zs) H2 Q (E σ)
theorem run_fnNS {X : Cx} {CX : CXT} {k n : Nat} {f : Addr} {fd : FuncData} {ps ks : List Str} {sp : Sp} {E : L2.St → XK} {pins : List (Addr × Obj)} {σ : L2.St} {H : Hp} {s : Shared} {Q : VK} {us ws : List Value} {vs zs : List V}
    (F : FnOk X.prog X.w X.K X.mg X.base CX k f fd ps sp) (hr : Room k X.A) (hb : KBn X.K fd ps n ks catG catV) (hx : PassesAt CX X σ (E σ)) (I : L2.Inv X pins σ H s) (r : Vals vs us) (rz : Vals zs ws) (l1 : vs.length = n) (l2 : zs.length = ks.length) (h : sp (catV vs zs) H Q (E σ)) :
    wpAny (model X.prog X.w) X.A (call (Value.ref f) us (ks.zip ws)) (EP X pins σ Q) X.xe s := by
  have r2 := hb.rel r rz
  refine wpAny_call (codeAny_mono (F.run X.A X.stack s H { pos := us, kw := ks.zip ws } (us ++ ws) (catV vs zs) Q (E σ) hr (Inv.env0 I) (hb.to s us ws (Inv.kIn I) ((Vals.length r).symm.trans l1) ((Vals.length rz).symm.trans l2)) r2 h) fun r s' hq => ?_)
  cases r with
  | error e => exact hx pins H s e s' I hq
  | ok fl =>
    cases fl with
    | ret u => exact Inv.after I hq
    | _ => exact hq.elim
theorem pe_fnXK {X : Cx} {x : Str} {ps ks : List Str} {n k : Nat} {sp : Sp} {e : Expr} {es : List Expr} {kws : List Keyword} {t tk : TA} {p pos : Pos} {W : WX} (F : FdXK X.prog X.w X.K X.mg X.base x ps n ks k sp) (hr : Room k X.A) (hg : Gl X x) (tks : Takes X W) (ha : PA X (e :: es) t) (hkw : PK X kws tk)
    (hall : ((backToKw pos (keywordEach kws X.env)).all fun x => x.1.isSome) = true := by rfl) (hks : List.filterMap (fun x => x.1) (backToKw pos (keywordEach kws X.env)) = ks := by rfl) (hdb : (x == ("__debug__" : Str)) = false := by decide)
    (he : starEach (e :: es) X.env = (false, eval e X.env) :: starEach es X.env := by rfl) (hpl : (((backTo pos (starEach (e :: es) X.env)).any fun x => x.1) || (backToKw pos (keywordEach kws X.env)).any fun x => x.1.isNone) = false := by rfl) :
    PE X (.Call (.Name x p) (e :: es) kws pos) (tCallNS n ks.length sp (WE W) t tk) := by
  obtain ⟨f, fd, G, m, kp, b⟩ := F.ex
  refine ⟨fun pins s σ H Q I h => wpAny_Call_Name_kw (ld_glob I hg m (PySem.W.callWith_KW I.ok.mod.kin kp hall (thn (ha.run pos pins s σ H _ I h) fun us s1 x => ?_) hpl he) hdb)⟩
  obtain ⟨vs, H1, I1, r, q⟩ := x
  refine thn (hkw.run pos pins s1 σ H1 _ I1 q) fun ws s2 x => ?_
  obtain ⟨zs, H2, I2, rz, l1, l2, q2⟩ := x
  refine ⟨Inv.kIn I2, ?_⟩
  rw [hks]
  exact run_fnNS G hr b (passAt tks σ) I2 r rz l1 l2 q2
/-! ### explore: with a keyword; what it refuses -/
section
variable {P : Program} {w : World} {K : PySem.W.Frag} {mg : Str → Option Value} {base : Heap} {C CO CN : Addr}
theorem fd_explore {f : Addr} {fd : FuncData} (F : Fun K "explore" "explore" s_explore f fd) (m : mg "explore" = some (.ref f)) (B : Bt mg) (TE : TxtE K mg C) (mdq : mg "deque" = some (.type "collections.deque")) (D_refuse_shifts : Fd P w K mg base "refuse_shifts" ["machine"] 1 (spRefSh K)) (I_Explorer : Mkr P w K mg base C ["self"] 1 (spEInit P w K C)) (D_beginning : Fd P w K mg base "beginning" ["machine"] 2 (spBegin K))
    (M_knows : Md P w K mg base C "knows" ["self", "situation"] 3 (spKnows P w K C)) (M_enter : Md P w K mg base C "enter" ["self", "situation", "parent"] 3 (spEnter P w K C)) (D_successors : Fd P w K mg base "successors" ["machine", "situation"] 2 (spSuccN K)) (M_cover : Md P w K mg base C "cover" ["self"] 4 (spCover P w K C)) :
    FdK P w K mg base "explore" ["machine", "fuel"] 1 ["fuel"] 6 (spExplore K) :=
  ⟨f, fd, ok_explore F B TE mdq D_refuse_shifts I_Explorer D_beginning M_knows M_enter D_successors M_cover, m, F.kp, Fun.kbinds F fun _ _ _ _ _ _ us ws h1 h2 => match us, ws, h1, h2 with | [_], [_], _, _ => rfl⟩
def spExplX (K : PySem.W.Frag) (CO CN : Addr) : Sp := fun vs H Q E => ∃ (v : V) (z : Int), vs = [v, .int z] ∧ ((z < 0 ∧ E (.ref CO) none H) ∨ (0 ≤ z ∧ ∃ M : MT, Dp K H v M.data ∧ (∃ m ∈ M.moves, m.sh ≠ []) ∧ E (.ref CN) none H))
theorem fdXK_explore {f : Addr} {fd : FuncData} (F : Fun K "explore" "explore" s_explore f fd) (m : mg "explore" = some (.ref f)) (XO : ExcX K mg "OutOfRange" CO) (DX_refuse_shifts : FdX P w K mg base "refuse_shifts" ["machine"] 1 (spRefShX K CN)) : FdXK P w K mg base "explore" ["machine", "fuel"] 1 ["fuel"] 6 (spExplX K CO CN) := by
  refine ⟨f, fd, F.okX sc_explore (fun vs H Q E h => ?_) (fun cdv A outer s H vs Q E hr h => ?_), m, F.kp, Fun.kbinds F fun _ _ _ _ _ _ us ws h1 h2 => match us, ws, h1, h2 with | [_], [_], _, _ => rfl⟩
  · obtain ⟨v, z, rfl, _⟩ := h
    rfl
  obtain ⟨v, z, rfl, h⟩ := h
  refine ⟨_, (pss_cons (ps_if (pt_cmpR op_lt (pv 1) pe_int (nomark _)) (pss_one (ps_raise (W := fun cls d _ H => E cls d H) rfl (takes_of rfl rfl rfl rfl) (pmk_own PySem.F.excBase_ValueError XO.exc XO.gC XO.kC (raises_own XO.sub XO.ty) rfl))) pss_nil)
    (pss_cons (ps_expr (pe_fnX (W := fun cls d _ H => E cls d H) DX_refuse_shifts (hr.mono (by decide)) rfl (takes_of rfl rfl rfl rfl) (pa_cons (pv 0) pa_nil))) (PSs.nox (pss_cons ps_never (pss_cons ps_never (pss_cons ps_never (pss_cons ps_never (pss_one ps_never)))))))), ?_⟩
  refine ⟨_, rfl, z, 0, rfl, rfl, _, rfl, ?_⟩
  rcases h with ⟨hz, q⟩ | ⟨hz, M, hd, hx, q⟩
  · exact iteTx (decide_eq_true hz) q
  · exact iteFx (decide_eq_false (by omega)) ⟨_, rfl, v, M, rfl, hd, hx, q⟩
end
/-! ### sorted of situations -/
def encS (p : V × Int × List Int) : PyData := sitD p.2.1 p.2.2
abbrev leS : V × Int × List Int → V × Int × List Int → Bool := PySem.W.dataLe false encS
def rSortS (K : PySem.W.Frag) : List V → Hp → VK → Prop := fun vs H Q => ∃ (a : Addr) (ps : List (V × Int × List Int)), vs = [.ref a] ∧ SqL K H a (ps.map (·.1)) ∧ (∀ p ∈ ps, Sit K H p.1 p.2.1 p.2.2) ∧ ∀ q, H q = none → Q (.ref q) (upd H q (.lst ((ps.mergeSort leS).map (·.1))))
theorem each_of_vals {H : Heap} : ∀ {ps : List (V × Int × List Int)} {us : List Value}, (∀ p ∈ ps, ∀ u, RelV p.1 u → ∃ as, Reads H u (encS p) as) → Vals (ps.map (·.1)) us → PySem.W.EachIs (fun v (p : V × Int × List Int) => RelV p.1 v) us ps ∧ PySem.W.EachIs (fun v p => ∃ as, Reads H v (encS p) as) us ps
  | [], us, _, h => by cases h; exact ⟨.nil, .nil⟩
  | p :: ps, us, hr, h => by
    cases h with
    | cons h t =>
      obtain ⟨e1, e2⟩ := each_of_vals (fun q hq => hr q (List.mem_cons_of_mem _ hq)) t
      exact ⟨.cons h e1, .cons (hr p List.mem_cons_self _ h) e2⟩
theorem vals_of_each : ∀ {ps : List (V × Int × List Int)} {us : List Value}, PySem.W.EachIs (fun v (p : V × Int × List Int) => RelV p.1 v) us ps → Vals (ps.map (·.1)) us
  | [], _, h => by cases h; exact .nil
  | p :: ps, _, h => by
    cases h with
    | cons h t => exact .cons h (vals_of_each t)
theorem alike_sits (p q : V × Int × List Int) : PySem.W.alike (encS p) (encS q) = true := by
  have h := PySem.W.alike_ints p.2.2 q.2.2
  simp [encS, sitD, PySem.W.alike, PySem.W.alikeAll, h]
theorem depth_sit (s : Int) (ns : List Int) : PyData.depth (sitD s ns) = 2 := by
  have h := PySem.W.depth_ints ns
  show max 0 (max (PyData.depthAll (ns.map PyData.int) + 1) 0) + 1 = 2
  rw [h]
  rfl
theorem cSortS {X : Cx} (K : PySem.W.Frag) (hu : X.A.units + 64 < cLine) (hK : X.K = K := by rfl) : CallR X (.builtin "sorted") (rSortS K) := by
  subst hK
  intro pins s σ H vs us Q I r h
  obtain ⟨a, ps, rfl, hs, hd, q⟩ := h
  obtain ⟨u, rfl, rx⟩ := vals1 r
  cases rx
  obtain ⟨its, rv, pl, hz⟩ := I.list hs
  have hlen := rv.length
  rw [List.length_map] at hlen hz
  obtain ⟨e, er⟩ := each_of_vals (H := s.heap) (fun p hp u hu => Dp.reads I (encS p) p.1 u (sit_dp (hd p hp)) hu) rv
  refine PySem.W.sorted_data (R := fun v (p : V × Int × List Int) => RelV p.1 v) (enc := encS) (bs := ps) pl.isList e er (PySem.W.AllAlike.of alike_sits) (PySem.W.Sortable.tuples fun p => ⟨_, _, rfl⟩) hz (fun p _ => ?_) fun out ho eo => ?_
  · rw [show PyData.depth (encS p) = 2 from depth_sit _ _]
    omega
  · obtain ⟨n, hn⟩ := sortedAll_at s.heap its out.toArray
    have hm : (ps.mergeSort leS).length = ps.length := List.length_mergeSort ps
    refine ⟨.ref _, upd H _ (.lst ((ps.mergeSort leS).map (·.1))), I.laid (t' := s.toks) (fun b o e => sortedAll_old e) (Nat.le_succ _) ⟨?_, out, n, vals_of_each eo, hn⟩, rfl, q _ (I.hok.fresh (Nat.le_succ _))⟩
    rw [List.length_map, hm]
    exact hz
/-! ### the order of situations -/
abbrev Sn := Int × List Int
def sD (b : Sn) : PyData := sitD b.1 b.2
def ltL : List Int → List Int → Bool
  | a :: as, b :: bs => if a = b then ltL as bs else decide (a < b)
  | _, _ => false
def ltS (p q : Sn) : Bool := if p.1 = q.1 then ltL p.2 q.2 else decide (p.1 < q.1)
def covS (p q : Sn) : Bool := covB p.1 p.2 q.1 q.2
theorem ltL_core : ∀ {as bs : List Int}, as.length = bs.length → ltL as bs = decide (as < bs)
  | [], [], _ => by simp [ltL]
  | [], _ :: _, h => by cases h
  | _ :: _, [], h => by cases h
  | a :: as, b :: bs, h => by
    unfold ltL
    by_cases e : a = b
    · rw [if_pos e, ltL_core (Nat.succ.inj h)]
      simp [e, List.cons_lt_cons_iff]
    · rw [if_neg e]
      simp [e, List.cons_lt_cons_iff]
theorem ltL_irr : ∀ as : List Int, ltL as as = false
  | [] => rfl
  | a :: as => by unfold ltL; rw [if_pos rfl]; exact ltL_irr as
theorem ltL_tr : ∀ {as bs cs : List Int}, ltL as bs = true → ltL bs cs = true → ltL as cs = true
  | [], _, _, h, _ => by cases h
  | _ :: _, [], _, h, _ => by cases h
  | _ :: _, _ :: _, [], _, h => by cases h
  | a :: as, b :: bs, c :: cs, h1, h2 => by
    unfold ltL at h1 h2 ⊢
    by_cases e1 : a = b
    · subst e1
      rw [if_pos rfl] at h1
      by_cases e2 : a = c
      · rw [if_pos e2] at h2 ⊢
        exact ltL_tr h1 h2
      · rw [if_neg e2] at h2 ⊢
        exact h2
    · rw [if_neg e1] at h1
      have h1 := of_decide_eq_true h1
      by_cases e2 : b = c
      · subst e2
        rw [if_neg e1]
        exact decide_eq_true h1
      · rw [if_neg e2] at h2
        have h2 := of_decide_eq_true h2
        rw [if_neg (by omega)]
        exact decide_eq_true (by omega)
theorem ltL_tot : ∀ {as bs : List Int}, as.length = bs.length → ltL as bs = false → ltL bs as = false → as = bs
  | [], [], _, _, _ => rfl
  | [], _ :: _, h, _, _ => by cases h
  | _ :: _, [], h, _, _ => by cases h
  | a :: as, b :: bs, h, h1, h2 => by
    unfold ltL at h1 h2
    by_cases e : a = b
    · subst e
      rw [if_pos rfl] at h1 h2
      rw [ltL_tot (Nat.succ.inj h) h1 h2]
    · rw [if_neg e] at h1
      rw [if_neg (Ne.symm e)] at h2
      have h1 := of_decide_eq_false h1
      have h2 := of_decide_eq_false h2
      omega
theorem geAll_lt : ∀ {as bs : List Int}, geAll as bs = true → ltL as bs = false
  | [], _, _ => rfl
  | _ :: _, [], _ => rfl
  | a :: as, b :: bs, h => by
    have h : (decide (b ≤ a) && geAll as bs) = true := h
    rw [Bool.and_eq_true, decide_eq_true_eq] at h
    unfold ltL
    by_cases e : a = b
    · rw [if_pos e]; exact geAll_lt h.2
    · rw [if_neg e]; exact decide_eq_false (by omega)
theorem geAll_tr : ∀ {as bs cs : List Int}, as.length = bs.length → bs.length = cs.length → geAll as bs = true → geAll bs cs = true → geAll as cs = true
  | [], [], [], _, _, _, _ => rfl
  | [], [], _ :: _, _, h, _, _ => by cases h
  | [], _ :: _, _, h, _, _, _ => by cases h
  | _ :: _, [], _, h, _, _, _ => by cases h
  | _ :: _, _ :: _, [], _, h, _, _ => by cases h
  | a :: as, b :: bs, c :: cs, l1, l2, h1, h2 => by
    have h1 : (decide (b ≤ a) && geAll as bs) = true := h1
    have h2 : (decide (c ≤ b) && geAll bs cs) = true := h2
    rw [Bool.and_eq_true, decide_eq_true_eq] at h1 h2
    show (decide (c ≤ a) && geAll as cs) = true
    rw [geAll_tr (Nat.succ.inj l1) (Nat.succ.inj l2) h1.2 h2.2, decide_eq_true (by omega)]
    rfl
theorem covS_refl (p : Sn) : covS p p = true := covB_refl _ _
theorem covS_iff {p q : Sn} : covS p q = true ↔ p.1 = q.1 ∧ geAll p.2 q.2 = true := by
  show (decide (p.1 = q.1) && geAll p.2 q.2) = true ↔ _
  rw [Bool.and_eq_true, decide_eq_true_eq]
theorem covS_tr {p q r : Sn} (l1 : p.2.length = q.2.length) (l2 : q.2.length = r.2.length) (h1 : covS p q = true) (h2 : covS q r = true) : covS p r = true := by
  obtain ⟨a1, a2⟩ := covS_iff.mp h1
  obtain ⟨b1, b2⟩ := covS_iff.mp h2
  exact covS_iff.mpr ⟨a1.trans b1, geAll_tr l1 l2 a2 b2⟩
theorem covS_lt {p q : Sn} (h : covS p q = true) : ltS p q = false := by
  obtain ⟨a1, a2⟩ := covS_iff.mp h
  unfold ltS
  rw [if_pos a1]
  exact geAll_lt a2
theorem ltS_irr (p : Sn) : ltS p p = false := covS_lt (covS_refl p)
theorem ltS_tr {p q r : Sn} (h1 : ltS p q = true) (h2 : ltS q r = true) : ltS p r = true := by
  unfold ltS at h1 h2 ⊢
  by_cases e1 : p.1 = q.1
  · rw [if_pos e1] at h1
    rw [e1]
    by_cases e2 : q.1 = r.1
    · rw [if_pos e2] at h2 ⊢
      exact ltL_tr h1 h2
    · rw [if_neg e2] at h2 ⊢
      exact h2
  · rw [if_neg e1] at h1
    have h1 := of_decide_eq_true h1
    by_cases e2 : q.1 = r.1
    · rw [← e2, if_neg e1]
      exact decide_eq_true h1
    · rw [if_neg e2] at h2
      have h2 := of_decide_eq_true h2
      rw [if_neg (by omega)]
      exact decide_eq_true (by omega)
theorem ltS_tot {p q : Sn} (l : p.2.length = q.2.length) (h1 : ltS p q = false) (h2 : ltS q p = false) : p = q := by
  unfold ltS at h1 h2
  by_cases e : p.1 = q.1
  · rw [if_pos e] at h1
    rw [if_pos e.symm] at h2
    exact Prod.ext e (ltL_tot l h1 h2)
  · rw [if_neg e] at h1
    rw [if_neg (Ne.symm e)] at h2
    have h1 := of_decide_eq_false h1
    have h2 := of_decide_eq_false h2
    omega
theorem covS_anti {p q : Sn} (l : p.2.length = q.2.length) (h1 : covS p q = true) (h2 : covS q p = true) : p = q := ltS_tot l (covS_lt h1) (covS_lt h2)
theorem eqv_ints_iff : ∀ {as bs : List Int}, PyData.eqvAll (as.map PyData.int) (bs.map PyData.int) = true → as = bs
  | [], [], _ => rfl
  | [], _ :: _, h => by simp [PyData.eqvAll] at h
  | _ :: _, [], h => by simp [PyData.eqvAll] at h
  | a :: as, b :: bs, h => by
    simp only [List.map_cons, PyData.eqvAll, PyData.eqv, Bool.and_eq_true, beq_iff_eq] at h
    rw [h.1, eqv_ints_iff h.2]
theorem leS_lt {p q : V × Int × List Int} (l : p.2.2.length = q.2.2.length) (h : leS p q = true) : ltS q.2 p.2 = false := by
  have h : (!PySem.W.dataLt (encS q) (encS p)) = true := h
  rw [Bool.not_eq_true'] at h
  unfold encS sitD at h
  rw [PySem.W.dataLt_pair (by simp [PySem.W.alike]) (by simp [PySem.W.alike, PySem.W.alike_ints]), PySem.W.dataLt_int, PySem.W.dataLt_list] at h
  unfold ltS
  by_cases e : q.2.1 = p.2.1
  · rw [if_pos (by simp [PyData.eqv, e])] at h
    rw [if_pos e]
    by_cases e2 : q.2.2 = p.2.2
    · rw [e2]; exact ltL_irr _
    · rw [if_neg (fun z => e2 (eqv_ints_iff (by simpa [PyData.eqv] using z)))] at h
      have h3 : PySem.W.rowLt (q.2.2.map PyData.int) (p.2.2.map PyData.int) = false := h
      rw [PySem.W.dataLt_ints] at h3
      rw [ltL_core l.symm]
      exact h3
  · rw [if_neg (by simp [PyData.eqv, e])] at h
    rw [if_neg e]
    exact h
/-! ### drawn rows, each with a list of its own -/
section
variable {P : Program} {w : World} {K : PySem.W.Frag} {mg : Str → Option Value} {base : Heap}
/-- the rows at t i with their counts at c i, no two of one list -/
structure Rws (G : Hp) (xs : List V) (bs : List Sp2) (t c : Nat → Addr) : Prop where
  len : xs.length = bs.length
  at' : ∀ i, i < bs.length → xs[i]? = some (.ref (t i))
  tup : ∀ i b, bs[i]? = some b → G (t i) = some (.tup [.int b.1, .ref (c i)])
  cnt : ∀ i b, bs[i]? = some b → G (c i) = some (.lst (b.2.map V.int))
  inj : ∀ i j, i < bs.length → j < bs.length → c i = c j → i = j
theorem Rws.nil {G : Hp} : Rws G [] [] (fun _ => 0) (fun _ => 0) := ⟨rfl, fun i h => absurd h (Nat.not_lt_zero _), fun i b h => by simp at h, fun i b h => by simp at h, fun i j h => absurd h (Nat.not_lt_zero _)⟩
theorem Rws.mono {G G' : Hp} {xs : List V} {bs : List Sp2} {t c : Nat → Addr} (h : Rws G xs bs t c) (s : Same G G') : Rws G' xs bs t c := ⟨h.len, h.at', fun i b e => s _ _ (h.tup i b e), fun i b e => s _ _ (h.cnt i b e), h.inj⟩
theorem Rws.snoc {G : Hp} {xs : List V} {bs : List Sp2} {t c : Nat → Addr} (h : Rws G xs bs t c) {T C : Addr} {b : Sp2} (hT : G T = some (.tup [.int b.1, .ref C])) (hC : G C = some (.lst (b.2.map V.int))) (hn : ∀ i, i < bs.length → c i ≠ C) :
    Rws G (xs ++ [.ref T]) (bs ++ [b]) (fun i => if i = bs.length then T else t i) (fun i => if i = bs.length then C else c i) := by
  have get : ∀ i b', (bs ++ [b])[i]? = some b' → (i = bs.length ∧ b' = b) ∨ (i < bs.length ∧ bs[i]? = some b') := fun i b' e => by
    rcases Nat.lt_trichotomy i bs.length with hlt | rfl | hgt
    · rw [List.getElem?_append_left hlt] at e; exact .inr ⟨hlt, e⟩
    · rw [List.getElem?_append_right (Nat.le_refl _), Nat.sub_self] at e; cases e; exact .inl ⟨rfl, rfl⟩
    · rw [List.getElem?_eq_none (by rw [List.length_append]; show bs.length + 1 ≤ i; omega)] at e; cases e
  refine ⟨by rw [List.length_append, List.length_append, h.len]; rfl, fun i hi => ?_, fun i b' e => ?_, fun i b' e => ?_, fun i j hi hj e => ?_⟩
  · rw [List.length_append] at hi
    by_cases e : i = bs.length
    · try dsimp only
      rw [if_pos e, e, ← h.len, List.getElem?_append_right (Nat.le_refl _), Nat.sub_self]
      rfl
    · have hl : i < bs.length := by have : i < bs.length + 1 := hi; omega
      try dsimp only
      rw [if_neg e, List.getElem?_append_left (by rw [h.len]; exact hl)]
      exact h.at' i hl
  · try dsimp only
    rcases get i b' e with ⟨rfl, rfl⟩ | ⟨hl, e'⟩
    · rw [if_pos rfl, if_pos rfl]; exact hT
    · rw [if_neg (by omega), if_neg (by omega)]; exact h.tup i b' e'
  · try dsimp only
    rcases get i b' e with ⟨rfl, rfl⟩ | ⟨hl, e'⟩
    · rw [if_pos rfl]; exact hC
    · rw [if_neg (by omega)]; exact h.cnt i b' e'
  · rw [List.length_append] at hi hj
    have hi' : i < bs.length + 1 := hi
    have hj' : j < bs.length + 1 := hj
    try dsimp only at e
    split at e
    · split at e
      · omega
      · exact absurd e.symm (hn j (by omega))
    · split at e
      · exact absurd e (hn i (by omega))
      · exact h.inj i j (by omega) (by omega) e
theorem Rws.dpa {G : Hp} : ∀ {bs : List Sp2} {xs : List V} {t c : Nat → Addr}, Rws G xs bs t c → DpAll K G xs (bs.map fun b => sitD b.1 b.2)
  | [], xs, t, c, h => by
    obtain rfl : xs = [] := List.length_eq_zero_iff.mp h.len
    exact .nil
  | b :: bs, xs, t, c, h => by
    cases xs with
    | nil => have := h.len; cases this
    | cons x xs =>
      have e0 := h.at' 0 (by show 0 < bs.length + 1; omega)
      have e0' : x = .ref (t 0) := Option.some.inj e0
      subst e0'
      refine .cons (sit_dp ⟨t 0, c 0, rfl, st (h.tup 0 b rfl), sq (h.cnt 0 b rfl)⟩) (Rws.dpa (t := fun i => t (i + 1)) (c := fun i => c (i + 1)) ⟨Nat.succ.inj h.len, fun i hi => h.at' (i + 1) (Nat.succ_lt_succ hi), fun i b' e => h.tup (i + 1) b' e, fun i b' e => h.cnt (i + 1) b' e, fun i j hi hj e => ?_⟩)
      have := h.inj (i + 1) (j + 1) (Nat.succ_lt_succ hi) (Nat.succ_lt_succ hj) e
      omega
def RowOk (S N : Nat) (top : Int) (b : Sp2) : Prop := b.2.length = N ∧ 0 ≤ b.1 ∧ b.1 < (S : Int) ∧ ∀ c ∈ b.2, 0 ≤ c ∧ c ≤ top
abbrev s_law_some : Stmt := topS 30
theorem sc_law_some : FnScope ["cell", "states", "places", "many", "most", "draws", "rows", "k", "part", "j"] ["cell", "states", "places", "many", "most"] (defScope s_law_some) := ⟨rfl, rfl, rfl, by decide +kernel, rfl, by decide +kernel, by decide +kernel⟩
-- _law_some slots: cell=0 states=1 places=2 many=3 most=4(cell) draws=5 rows=6 k=7 part=8(cell) j=9(None) globals: _law_digits range
def spSomeD (K : PySem.W.Frag) : Sp := fun vs H Q _ => ∃ (c : Int) (S N m top : Nat), vs = [.int c, nV S, nV N, nV m, nV top] ∧ 0 ≤ c ∧ 0 < S ∧ N ≤ 50 ∧ m ≤ 50 ∧
  ∀ (H' : Hp) (p : Addr) (xs : List V) (bs : List Sp2) (t c : Nat → Addr), Same H H' → H p = none → H' p = some (.lst xs) → Rws (Ho p H') xs bs t c → (∀ i, i < bs.length → H (c i) = none) → bs.length = m → (∀ b ∈ bs, RowOk S N top b) → Q (.ref p) H'
set_option maxHeartbeats 2000000 in
theorem fd_law_some {f : Addr} {fd : FuncData} (F : Fun K "_law_some" "_law_some" s_law_some f fd) (m : mg "_law_some" = some (.ref f)) (B : Bt mg) (D_law_digits : Fd P w K mg base "_law_digits" ["cell", "base", "most"] 1 (spDigits K)) : Fd P w K mg base "_law_some" ["cell", "states", "places", "many", "most"] 2 (spSomeD K) := by
  refine ⟨f, fd, F.ok sc_law_some (fun vs H Q E h => ?_) (fun cdv A outer s H vs Q E hr h => ?_), m, F.kp, F.binds (ps := ["cell", "states", "places", "many", "most"]) fun _ _ _ _ _ _ us hl => match us, hl with | [_, _, _, _, _], _ => rfl⟩
  · obtain ⟨c, S, N, m, top, rfl, _⟩ := h
    rfl
  obtain ⟨c, S, N, m, top, rfl, hc, hS, hN, hm, q⟩ := h
  refine ⟨_, (pss_cons (ps_set (i := 5) sc_law_some.nd rfl (Or.inl rfl) (pe_fn D_law_digits (hr.mono (by decide)) rfl (pa_cons (pv 0) (pa_cons pe_int (pa_cons (pe_op op_mul (pv 3) (pe_op op_add (pv 2) pe_int)) pa_nil)))))
 (pss_cons (ps_set (i := 6) sc_law_some.nd rfl (Or.inl rfl) (pe_lst pa_nil))
 (pss_cons (ps_for PassesOwn.never rfl (pi_range1 rfl B.range (pa_cons (pv 3) pa_nil)) (pg_name (i := 7) sc_law_some.nd rfl (Or.inl rfl))
 (pss_cons (ps_set (i := 8) sc_law_some.nd rfl (Or.inr rfl) (pe_slice (slL K) (pv 5) (po_some (pe_op op_mul (pv 7) (pe_op op_add (pv 2) pe_int))) (po_some (pe_op op_mul (pe_op op_add (pv 7) pe_int) (pe_op op_add (pv 2) pe_int)))))
 (pss_one (ps_expr (peBm K PySem.F.plainAttrs_list PySem.F.slot_list_append PySem.F.type_list_append mt_append (pv 6) (pa_cons (pe_tup (pa_cons (pe_op op_mod (pe_ix (ixL K) (pv 8) (pv 2) (fun _ _ => rfl)) (pv 1)) (pa_cons (pe_lc (own := [("j", 9)]) (g := gName 9) (by rfl) sc_law_some.nd (pi_range1 rfl B.range (pa_cons (pv 2) pa_nil)) (blkOk_by (own := [("j", 9)]) (N := ["cell", "states", "places", "many", "most", "draws", "rows", "k", "part", "j"]) (sc := (defScope s_law_some)) (by decide +kernel)) (fun _ _ _ _ _ => (pg_name (i := 9) sc_law_some.nd rfl (Or.inl rfl))) (fun _ _ _ _ _ => pts_nil) (fun _ _ _ _ _ => (pe_op op_fdiv (pe_op op_mod (pe_ix (ixL K) (pv 8) (pv 9) (fun _ _ => rfl)) (pe_op op_add (pv 4) pe_int)) (pe_op op_add pe_int (pe_op op_mod (pe_op op_fdiv (pe_ix (ixL K) (pv 8) (pv 9) (fun _ _ => rfl)) pe_int) pe_int))))) pa_nil))) pa_nil))))))
 (pss_one (ps_ret (pv 6)))))), ?_⟩
  have emul : (m : Int) * ((N : Int) + 1) = ((m * (N + 1) : Nat) : Int) := by push_cast; rfl
  have bmul : m * (N + 1) ≤ 50 * 51 := Nat.mul_le_mul hm (by omega)
  refine ⟨_, rfl, _, rfl, _, rfl, _, _, rfl, rfl, _, _, rfl, rfl, .inl ⟨by omega, by omega⟩, c, 27720, m * (N + 1), congrArg (fun z => [V.int c, V.int 27720, V.int z]) emul, hc, by decide, by decide, by omega, ?_⟩
  intro Hd pd ds s1 npd epd ld hd
  dsimp only [gName]
  refine ⟨sz (by decide), fun o no => ?_⟩
  dsimp only [gName]
  have pdo : pd ≠ o := fun e => by rw [e, no] at epd; cases epd
  have epd' : Ho o (upd Hd o (.lst [])) pd = some (.lst (ds.map V.int)) := by unfold Ho; rw [if_neg pdo, upd_ne pdo]; exact epd
  refine ⟨_, rfl, m, rfl, by omega, by omega, for_range (lo := 0) (n := m) (fun i σ' H' => ∃ (y7 y8 : Option V) (xs : List V) (bs : List Sp2) (t c' : Nat → Addr), σ' = [some (.int c), some (nV S), some (nV N), some (nV m), some (nV top), some (.ref pd), some (.ref o), y7, y8, none] ∧ Same Hd H' ∧ Same (Ho o (upd Hd o (.lst []))) (Ho o H') ∧ H' o = some (.lst xs) ∧ Rws (Ho o H') xs bs t c' ∧ (∀ i, i < bs.length → Hd (c' i) = none) ∧ bs.length = i ∧ ∀ b ∈ bs, RowOk S N top b) ⟨none, none, [], [], _, _, rfl, same_new no, Same.refl _, upd_same, .nil, (fun i h => absurd h (Nat.not_lt_zero _)), rfl, fun b hb => nomatch hb⟩ ?_ ?_⟩
  · rintro k σ' H' hk ⟨y7, y8, xs, bs, t, c', rfl, sx, sh, eo, rw', fr, bl, ok⟩
    have hz : (0 : Int) + (k : Int) = (k : Int) := by omega
    have e1 : ((0 : Int) + (k : Int)) * ((N : Int) + 1) = ((k * (N + 1) : Nat) : Int) := by rw [hz]; push_cast; rfl
    have e2 : ((0 : Int) + (k : Int) + 1) * ((N : Int) + 1) = ((k * (N + 1) + (N + 1) : Nat) : Int) := by rw [hz]; push_cast; rw [Int.add_mul, Int.one_mul]
    have b2 : k * (N + 1) + (N + 1) ≤ ds.length := by
      rw [ld, ← Nat.succ_mul]
      exact Nat.mul_le_mul_right _ hk
    have epk := ho_out _ _ (sh _ _ epd')
    dsimp only [gName]
    refine ⟨_, rfl, _, rfl, _, rfl, _, _, rfl, rfl, _, _, rfl, rfl, .inl ⟨by omega, by omega⟩, _, rfl, _, rfl, _, _, rfl, rfl, _, rfl, _, _, rfl, rfl, _, _, rfl, rfl, .inl ⟨by omega, by omega⟩, _, rfl, pd, _, rfl, sq epk, fun q1 m1 => ?_⟩
    dsimp only [gName]
    have ec := cut_ints (ds := ds) b2 e1 e2
    have lps : ((ds.drop (k * (N + 1))).take (N + 1)).length = N + 1 := by rw [List.length_take, List.length_drop]; omega
    have hps : ∀ d ∈ (ds.drop (k * (N + 1))).take (N + 1), 0 ≤ d := fun d h => (hd d (List.mem_of_mem_drop (List.mem_of_mem_take h))).1
    have ep1 : (upd H' q1 (.lst (cutV (ds.map V.int) (some (((0 : Int) + (k : Int)) * ((N : Int) + 1))) (some (((0 : Int) + (k : Int) + 1) * ((N : Int) + 1)))))) q1 = some (.lst (((ds.drop (k * (N + 1))).take (N + 1)).map V.int)) := by rw [upd_same, ec]
    have s12 : Same H' (upd H' q1 (.lst (cutV (ds.map V.int) (some (((0 : Int) + (k : Int)) * ((N : Int) + 1))) (some (((0 : Int) + (k : Int) + 1) * ((N : Int) + 1)))))) := same_new m1
    generalize upd H' q1 (.lst (cutV (ds.map V.int) (some (((0 : Int) + (k : Int)) * ((N : Int) + 1))) (some (((0 : Int) + (k : Int) + 1) * ((N : Int) + 1))))) = H2 at ep1 s12 ⊢
    generalize (ds.drop (k * (N + 1))).take (N + 1) = ps at lps hps ep1
    have eo2 := s12 _ _ eo
    refine ⟨_, rfl, .inl ⟨rfl, xs, sq eo2⟩, ?_⟩
    refine ⟨_, rfl, _, rfl, _, _, _, _, rfl, rfl, sq ep1, at_gd (j := N) rfl (by omega), _, rfl, _, _, rfl, rfl, (show (0 : Int) < (S : Int) by omega), ?_⟩
    have tp : (0 : Int) < (top : Int) + 1 := by omega
    refine ⟨_, rfl, N, rfl, by omega, by omega, fun D nD => ?_⟩
    refine lc_valR (K := K) (n := N) (by omega) nD (fun j => V.int (ps.getD j 0 % ((top : Int) + 1) / (1 + ps.getD j 0 / 100 % 2))) (fun _ => rfl) (fun j Hx Q' hj sj q' => ?_) fun H3 s3 e3 => ?_
    · have hz : (0 : Int) + (j : Int) = (j : Int) := by omega
      have m2 := mod_in (ps.getD j 0 / 100) (show (0 : Int) < 2 by decide)
      refine ⟨_, rfl, _, rfl, _, _, _, _, rfl, rfl, sj.seq (sq ep1), at_gd hz (by omega), _, rfl, _, _, rfl, rfl, _, _, rfl, rfl, tp, ?_⟩
      exact ⟨_, rfl, _, rfl, _, _, _, _, rfl, rfl, sj.seq (sq ep1), at_gd hz (by omega), _, _, rfl, rfl, ⟨by decide, by decide⟩, _, _, rfl, rfl, (by show (0 : Int) < 2; decide), _, _, rfl, rfl, _, _, rfl, rfl, ⟨by omega, by omega⟩, q' _ (Same.refl _)⟩
    replace e3 : H3 D = some (.lst (((List.range N).map fun j => ps.getD j 0 % ((top : Int) + 1) / (1 + ps.getD j 0 / 100 % 2)).map V.int)) := by
      rw [List.map_map]
      exact e3
    have lcs : ((List.range N).map fun j => ps.getD j 0 % ((top : Int) + 1) / (1 + ps.getD j 0 / 100 % 2)).length = N := by rw [List.length_map, List.length_range]
    have hcs : ∀ z ∈ (List.range N).map fun j => ps.getD j 0 % ((top : Int) + 1) / (1 + ps.getD j 0 / 100 % 2), 0 ≤ z ∧ z ≤ (top : Int) := fun z hz => by
      obtain ⟨j, _, rfl⟩ := List.mem_map.mp hz
      have m1 := mod_in (ps.getD j 0) tp
      have m2 := mod_in (ps.getD j 0 / 100) (show (0 : Int) < 2 by decide)
      have d0 : (0 : Int) ≤ 1 + ps.getD j 0 / 100 % 2 := by omega
      exact ⟨Int.ediv_nonneg m1.1 d0, Int.le_trans (Int.ediv_le_self _ m1.1) (by omega)⟩
    generalize ((List.range N).map fun j => ps.getD j 0 % ((top : Int) + 1) / (1 + ps.getD j 0 / 100 % 2)) = cs at e3 lcs hcs
    have nD' : H' D = none := s12.free nD
    refine ⟨szc 2, fun t' nt => ?_⟩
    have eo3 := s3 _ _ eo2
    have xl := rw'.len
    refine ⟨o, xs, _, rfl, rfl, (same_new nt) _ _ eo3, szl (by omega), ?_⟩
    have sx3 := s12.trans (s3.trans (same_new (o := HO.tup [V.int (ps.getD N 0 % (S : Int)), V.ref D]) nt))
    have tD : t' ≠ D := fun e => by rw [e, e3] at nt; cases nt
    have to' : t' ≠ o := fun e => by rw [e, eo3] at nt; cases nt
    have Do : D ≠ o := fun e => by rw [e, eo] at nD'; cases nD'
    have ms := mod_in (ps.getD N 0) (show (0 : Int) < (S : Int) by omega)
    have shx : Same (Ho o H') (Ho o (upd (upd H3 t' (.tup [V.int (ps.getD N 0 % (S : Int)), V.ref D])) o (.lst (xs ++ [.ref t'])))) := (ho_same sx3).trans ho_mut
    refine ⟨_, _, xs ++ [.ref t'], bs ++ [(ps.getD N 0 % (S : Int), cs)], _, _, rfl, Same.mut (sx.trans sx3) no, sh.trans shx, upd_same, (rw'.mono shx).snoc (T := t') (C := D) (b := (ps.getD N 0 % (S : Int), cs)) ?_ ?_ (fun i hi e => ?_), ?_, by rw [List.length_append, bl]; rfl, ?_⟩
    · unfold Ho
      rw [if_neg to', upd_ne to']
      exact upd_same
    · unfold Ho
      rw [if_neg Do, upd_ne Do, upd_ne (Ne.symm tD)]
      exact e3
    · have := rw'.cnt i _ (List.getElem?_eq_getElem hi)
      rw [e] at this
      have := ho_out _ _ this
      rw [nD'] at this
      cases this
    · intro i hi
      rw [List.length_append] at hi
      try dsimp only
      split
      · exact sx.free nD'
      · exact fr i (by have : i < bs.length + 1 := hi; omega)
    · intro b hb
      rcases List.mem_append.mp hb with h | h
      · exact ok b h
      · rw [List.mem_singleton.mp h]; exact ⟨lcs, ms.1, ms.2, hcs⟩
  · rintro σ' H' ⟨y7, y8, xs, bs, t, c', rfl, sx, sh, eo, rw', fr, bl, ok⟩
    refine ⟨_, rfl, q H' o xs bs t c' (s1.trans sx) (s1.free no) eo rw' (fun i hi => s1.free (fr i hi)) bl ok⟩
end
section
variable {P : Program} {w : World} {K : PySem.W.Frag} {mg : Str → Option Value} {base : Heap}
abbrev s_law_covers : Stmt := topS 29
theorem sc_law_covers : FnScope ["first", "second", "k"] ["first", "second"] (defScope s_law_covers) := ⟨rfl, rfl, rfl, by decide +kernel, rfl, by decide +kernel, by decide +kernel⟩
-- _law_covers slots: first=0 second=1 k=2 globals: range len
def spLCov (K : PySem.W.Frag) : Sp := fun vs H Q _ => ∃ (x y : V) (s t : Int) (ms ns : List Int), vs = [x, y] ∧ Sit K H x s ms ∧ Sit K H y t ns ∧ ms.length = ns.length ∧ ns.length ≤ 1000 ∧ Q (.bl (covB s ms t ns)) H
theorem fd_law_covers {f : Addr} {fd : FuncData} (F : Fun K "_law_covers" "_law_covers" s_law_covers f fd) (m : mg "_law_covers" = some (.ref f)) (B : Bt mg) : Fd P w K mg base "_law_covers" ["first", "second"] 1 (spLCov K) := by
  refine ⟨f, fd, F.ok sc_law_covers (fun vs H Q E h => ?_) (fun cdv A outer s H vs Q E hr h => ?_), m, F.kp, F.binds (ps := ["first", "second"]) fun _ _ _ _ _ _ us hl => match us, hl with | [_, _], _ => rfl⟩
  · obtain ⟨x, y, s, t, ms, ns, rfl, _⟩ := h
    rfl
  obtain ⟨x, y, s, t, ms, ns, rfl, ⟨a, ca, rfl, ha, hca⟩, ⟨b, cb, rfl, hb, hcb⟩, hl, hn, q⟩ := h
  refine ⟨_, (pss_cons (ps_if (pt_cmpR op_ne (pe_ix (ixT K) (pv 0) pe_int (fun _ _ => rfl)) (pe_ix (ixT K) (pv 1) pe_int (fun _ _ => rfl)) (nomark _))
 (pss_one (ps_ret pe_bl))
 pss_nil)
 (pss_cons (ps_for PassesOwn.never rfl (pi_range1 rfl B.range (pa_cons (pe_callB (cLen K) (by rfl) B.len PySem.boot_len (pa_cons (pe_ix (ixT K) (pv 1) pe_int (fun _ _ => rfl)) pa_nil)) pa_nil)) (pg_name (i := 2) sc_law_covers.nd rfl (Or.inl rfl))
 (pss_one (ps_if (pt_cmpR op_lt (pe_ix (ixL K) (pe_ix (ixT K) (pv 0) pe_int (fun _ _ => rfl)) (pv 2) (fun _ _ => rfl)) (pe_ix (ixL K) (pe_ix (ixT K) (pv 1) pe_int (fun _ _ => rfl)) (pv 2) (fun _ _ => rfl)) (nomark _))
 (pss_one (ps_ret pe_bl))
 pss_nil)))
 (pss_one (ps_ret pe_bl)))), ?_⟩
  refine ⟨_, rfl, _, _, _, _, rfl, rfl, ha, atI_nat (j := 0) rfl, _, rfl, _, _, _, _, rfl, rfl, hb, atI_nat (j := 0) rfl, rfl, _, rfl, ?_⟩
  by_cases est : s = t
  · subst est
    rw [show (!decide (V.int s = V.int s)) = false by rw [decide_eq_true rfl]; rfl]
    refine iteF ?_
    have ll : (ns.map V.int).length = ns.length := List.length_map _
    refine ⟨_, rfl, _, _, _, _, rfl, rfl, hb, atI_nat (j := 1) rfl, cb, _, rfl, .inl hcb, _, rfl, by rw [ll]; omega, by rw [ll]; omega, for_range (lo := 0) (n := (ns.map V.int).length) (fun i σ' H' => ∃ y2 : Option V, σ' = [some (.ref a), some (.ref b), y2] ∧ H' = H ∧ geAll (ms.take i) (ns.take i) = true) ⟨none, rfl, rfl, rfl⟩ ?_ ?_⟩
    · rintro i σ' H' hi ⟨y2, rfl, rfl, g⟩
      rw [ll] at hi
      have hz : (0 : Int) + (i : Int) = (i : Int) := by omega
      have hu : ms[i]? = some (ms.getD i 0) := gd (by omega)
      have hv : ns[i]? = some (ns.getD i 0) := gd hi
      refine ⟨_, rfl, _, _, _, _, rfl, rfl, ha, atI_nat (j := 1) rfl, _, rfl, _, _, _, _, rfl, rfl, hca, at_gd hz (by omega), _, rfl, _, _, _, _, rfl, rfl, hb, atI_nat (j := 1) rfl, _, rfl, _, _, _, _, rfl, rfl, hcb, at_gd hz hi, _, _, rfl, rfl, _, rfl, ite2 (fun e => ?_) (fun e => ?_)⟩
      · have e1 := of_decide_eq_true e
        have e2 : covB s ms s ns = false := by
          unfold covB
          rw [geAll_false (i := i + 1), Bool.and_false]
          rw [geAll_take hu hv, decide_eq_false (show ¬ ns.getD i 0 ≤ ms.getD i 0 by omega), Bool.and_false]
        rw [← e2]
        exact q
      · have e1 : ¬ ms.getD i 0 < ns.getD i 0 := fun z => e (decide_eq_true z)
        exact ⟨_, rfl, rfl, by rw [geAll_take hu hv, g, decide_eq_true (show ns.getD i 0 ≤ ms.getD i 0 by omega)]; rfl⟩
    · rintro σ' H' ⟨y2, rfl, rfl, g⟩
      rw [ll] at g
      have e2 : covB s ms s ns = true := by
        unfold covB
        rw [← hl, List.take_length, hl, List.take_length] at g
        rw [g, decide_eq_true (show s = s from rfl)]
        rfl
      rw [← e2]
      exact q
  · rw [show (!decide (V.int s = V.int t)) = true by rw [decide_eq_false (fun z => est (by cases z; rfl))]; rfl]
    refine iteT ?_
    rw [← show covB s ms t ns = false by unfold covB; rw [decide_eq_false est]; rfl]
    exact q
end
section
variable {P : Program} {w : World} {K : PySem.W.Frag} {mg : Str → Option Value} {base : Heap}
abbrev s_law_after : Stmt := topS 25
theorem sc_law_after : FnScope ["situation", "move", "counts", "pair"] ["situation", "move"] (defScope s_law_after) := ⟨rfl, rfl, rfl, by decide +kernel, rfl, by decide +kernel, by decide +kernel⟩
-- _law_after slots: situation=0 move=1 counts=2 pair=3 globals: list
/-- the situation after a move, or None -/
def spLA2 (K : PySem.W.Frag) : Sp := fun vs H Q _ => ∃ (x y : V) (s : Int) (cs : List Int) (m : MvT) (S : Nat), vs = [x, y] ∧ Sit K H x s cs ∧ Dp K H y m.data ∧ m.Fit S cs.length ∧ (∀ c ∈ cs, 0 ≤ c) ∧
  ∀ H' v, Same H H' → ((m.can s cs = false ∧ v = .non) ∨ (m.can s cs = true ∧ ∃ p, v = .ref p ∧ NewSit H H' p m.ns (m.aft cs))) → Q v H'
set_option maxHeartbeats 4000000 in
theorem fd_law_after {f : Addr} {fd : FuncData} (F : Fun K "_law_after" "_law_after" s_law_after f fd) (m : mg "_law_after" = some (.ref f)) (B : Bt mg) : Fd P w K mg base "_law_after" ["situation", "move"] 1 (spLA2 K) := by
  refine ⟨f, fd, F.ok sc_law_after (fun vs H Q E h => ?_) (fun cdv A outer s H vs Q E hr h => ?_), m, F.kp, F.binds (ps := ["situation", "move"]) fun _ _ _ _ _ _ us hl => match us, hl with | [_, _], _ => rfl⟩
  · obtain ⟨x, y, s, cs, m, S, rfl, _⟩ := h
    rfl
  obtain ⟨x, y, s, cs, mv, S, rfl, ⟨a, ca, rfl, ha, hca⟩, dy, hf, c0, q⟩ := h
  obtain ⟨b, sa, xs, rfl, hb, hsa, hxs⟩ := dp_mv dy
  have xl := dpa_map_len hxs
  have hpl := hf.pl
  refine ⟨_, (pss_cons (ps_set (i := 2) sc_law_after.nd rfl (Or.inl rfl) (pe_callTy (cList K) (by rfl) B.list (by decide +kernel) (pa_cons (pe_ix (ixT K) (pv 0) pe_int (fun _ _ => rfl)) pa_nil)))
 (pss_cons (ps_if (PW.pt (pw_or (pt_cmpR op_ne (pe_ix (ixT K) (pv 0) pe_int (fun _ _ => rfl)) (pe_ix (ixT K) (pv 1) pe_int (fun _ _ => rfl)) (nomark _)) (pw_or1 (pt_cmpR op_eq (pe_ix (ixL K) (pv 2) (pe_ix (ixT K) (pv 1) pe_int (fun _ _ => rfl)) (fun _ _ => rfl)) pe_int (nomark _)))))
 (pss_one (ps_ret pe_non))
 pss_nil)
 (pss_cons (ps_asg (pe_op op_sub (pe_ix (ixL K) (pv 2) (pe_ix (ixT K) (pv 1) pe_int (fun _ _ => rfl)) (fun _ _ => rfl)) pe_int) (pg_sub (pv 2) (pe_ix (ixT K) (pv 1) pe_int (fun _ _ => rfl)) set_list))
 (pss_cons (ps_for PassesOwn.never rfl (piL K (pe_ix (ixT K) (pv 1) pe_int (fun _ _ => rfl))) (pg_name (i := 3) sc_law_after.nd rfl (Or.inl rfl))
 (pss_cons (ps_asg (pe_op op_add (pe_ix (ixL K) (pv 2) (pe_ix (ixT K) (pv 3) pe_int (fun _ _ => rfl)) (fun _ _ => rfl)) (pe_ix (ixL K) (pv 2) (pe_ix (ixT K) (pv 3) pe_int (fun _ _ => rfl)) (fun _ _ => rfl))) (pg_sub (pv 2) (pe_ix (ixT K) (pv 3) pe_int (fun _ _ => rfl)) set_list))
 (pss_one (ps_asg pe_int (pg_sub (pv 2) (pe_ix (ixT K) (pv 3) pe_int (fun _ _ => rfl)) set_list)))))
 (pss_cons (ps_asg (pe_op op_add (pe_ix (ixL K) (pv 2) (pe_ix (ixT K) (pv 1) pe_int (fun _ _ => rfl)) (fun _ _ => rfl)) pe_int) (pg_sub (pv 2) (pe_ix (ixT K) (pv 1) pe_int (fun _ _ => rfl)) set_list))
 (C8.pss_cut (ps_if (pt_cmpR op_notN (pe_ix (ixT K) (pv 1) pe_int (fun _ _ => rfl)) pe_non (nomark _))
 (pss_one (ps_asg (pe_op op_add (pe_ix (ixL K) (pv 2) (pe_ix (ixT K) (pv 1) pe_int (fun _ _ => rfl)) (fun _ _ => rfl)) pe_int) (pg_sub (pv 2) (pe_ix (ixT K) (pv 1) pe_int (fun _ _ => rfl)) set_list)))
 pss_nil)
 (pss_one (ps_ret (pe_tup (pa_cons (pe_ix (ixT K) (pv 1) pe_int (fun _ _ => rfl)) (pa_cons (pv 2) pa_nil))))))))))), ?_⟩
  refine ⟨_, rfl, _, _, _, _, rfl, rfl, ha, atI_nat (j := 1) rfl, ca, _, rfl, .inl hca, fun l nl => ?_⟩
  dsimp only [gName]
  have s0 := same_new (o := HO.lst (cs.map V.int)) nl
  have el0 : (upd H l (.lst (cs.map V.int))) l = some (.lst (cs.map V.int)) := upd_same
  have ha0 := Same.seqT s0 ha
  have hb0 := Same.seqT s0 hb
  have hmut : ∀ o : HO, Same H (upd (upd H l (.lst (cs.map V.int))) l o) := fun o => Same.mut s0 nl
  refine ⟨_, rfl, _, _, _, _, rfl, rfl, ha0, atI_nat (j := 0) rfl, _, rfl, _, _, _, _, rfl, rfl, hb0, atI_nat (j := 0) rfl, rfl, _, rfl, ?_⟩
  rw [int_eqE]
  by_cases hst : s = (mv.st : Int)
  · refine iteFx (by rw [decide_eq_true hst]; rfl) ?_
    refine ⟨_, rfl, _, rfl, _, _, _, _, rfl, rfl, hb0, atI_nat (j := 1) rfl, _, _, _, _, rfl, rfl, sq el0, at_gd rfl hpl, rfl, _, rfl, ?_⟩
    rw [int_eqE]
    by_cases hz : cs.getD mv.pl 0 = 0
    · refine iteTx (decide_eq_true hz) ?_
      refine q _ .non s0 (.inl ⟨?_, rfl⟩)
      unfold MvT.can
      rw [decide_eq_false (show ¬ 0 < cs.getD mv.pl 0 by omega), Bool.and_false]
    have hcan : mv.can s cs = true := by
      have := c0 _ (gd_mem hpl)
      unfold MvT.can
      rw [decide_eq_true hst.symm, decide_eq_true (show 0 < cs.getD mv.pl 0 by omega)]
      rfl
    refine iteFx (decide_eq_false hz) ?_
    refine ⟨_, rfl, _, rfl, _, _, _, _, rfl, rfl, hb0, atI_nat (j := 1) rfl, _, _, _, _, rfl, rfl, sq el0, at_gd rfl hpl, _, _, rfl, rfl, _, rfl, _, rfl, _, _, _, _, rfl, rfl, hb0, atI_nat (j := 1) rfl, l, _, _, _, rfl, rfl, el0, ixN_nat (by rw [List.length_map]; exact hpl), ?_⟩
    rw [set_int]
    have s1 := hmut (.lst ((cs.set mv.pl (cs.getD mv.pl 0 - 1)).map V.int))
    have el1 : (upd (upd H l (.lst (cs.map V.int))) l (.lst ((cs.set mv.pl (cs.getD mv.pl 0 - 1)).map V.int))) l = some (.lst ((bump cs mv.pl (-1)).map V.int)) := upd_same
    generalize upd (upd H l (.lst (cs.map V.int))) l (.lst ((cs.set mv.pl (cs.getD mv.pl 0 - 1)).map V.int)) = H1 at s1 el1 ⊢
    refine ⟨_, rfl, _, _, _, _, rfl, rfl, Same.seqT s1 hb, atI_nat (j := 5) rfl, sa, rfl, ⟨_, s1.seq hsa⟩, for_list (xs := xs) (fun j σ' H' => ∃ y3 : Option V, σ' = [some (.ref a), some (.ref b), some (.ref l), y3] ∧ Same H H' ∧ H' l = some (.lst ((shiftAll (mv.sh.take j) (bump cs mv.pl (-1))).map V.int))) ⟨none, rfl, s1, el1⟩ ?_ ?_ ?_⟩
    · rintro j σ' H' _ ⟨y3, rfl, sm, _⟩
      exact sm.seq hsa
    · rintro j x σ' H' hx ⟨y3, rfl, sm, el⟩
      obtain ⟨p, hp, dx⟩ := dpa_map_at hxs hx
      obtain ⟨t, rfl, ht0⟩ := dp_sh dx
      have ht := Same.seqT sm ht0
      have p1 := hf.sh.fst p (List.mem_of_getElem? hp)
      have p2 := hf.sh.snd p (List.mem_of_getElem? hp)
      have ln : (shiftAll (mv.sh.take j) (bump cs mv.pl (-1))).length = cs.length := by rw [shiftAll_len, bump_len]
      rw [take_snoc hp, shiftAll_snoc]
      generalize shiftAll (mv.sh.take j) (bump cs mv.pl (-1)) = c1 at el ln ⊢
      dsimp only [gName]
      refine ⟨_, rfl, _, rfl, _, _, _, _, rfl, rfl, ht, atI_nat (j := 1) rfl, _, _, _, _, rfl, rfl, sq el, at_gd rfl (by omega), _, rfl, _, rfl, _, _, _, _, rfl, rfl, ht, atI_nat (j := 0) rfl, _, _, _, _, rfl, rfl, sq el, at_gd rfl (by omega), _, _, rfl, rfl, _, rfl, _, rfl, _, _, _, _, rfl, rfl, ht, atI_nat (j := 1) rfl, l, _, _, _, rfl, rfl, el, ixN_nat (by rw [List.length_map]; omega), ?_⟩
      rw [set_int]
      have s2 : ∀ o, Same H (upd H' l o) := fun o => Same.mut sm nl
      refine ⟨_, rfl, _, rfl, _, _, _, _, rfl, rfl, Same.seqT (s2 _) ht0, atI_nat (j := 0) rfl, l, _, _, _, rfl, rfl, upd_same, ixN_nat (by rw [List.length_map, List.length_set]; omega), ?_⟩
      rw [set_int]
      exact ⟨_, rfl, Same.mut (s2 _) nl, upd_same⟩
    · rintro σ' H' ⟨y3, rfl, sm, el⟩
      rw [List.take_of_length_le (by omega)] at el
      have ln : (mv.mid cs).length = cs.length := mid_len mv cs
      change H' l = some (.lst ((mv.mid cs).map V.int)) at el
      have hb1 := Same.seqT sm hb
      refine ⟨_, rfl, _, rfl, _, _, _, _, rfl, rfl, hb1, atI_nat (j := 3) rfl, _, _, _, _, rfl, rfl, sq el, at_gd rfl (by rw [ln]; exact hf.np), _, _, rfl, rfl, _, rfl, _, rfl, _, _, _, _, rfl, rfl, hb1, atI_nat (j := 3) rfl, l, _, _, _, rfl, rfl, el, ixN_nat (by rw [List.length_map, ln]; exact hf.np), ?_⟩
      rw [set_int]
      have s2 : ∀ o, Same H (upd H' l o) := fun o => Same.mut sm nl
      refine ⟨fun σ' H' => σ' = [some (.ref a), some (.ref b), some (.ref l), y3] ∧ Same H H' ∧ H' l = some (.lst ((mv.aft cs).map V.int)), ?_, ?_⟩
      · refine ⟨_, rfl, _, _, _, _, rfl, rfl, Same.seqT (s2 _) hb, atI_nat (j := 4) rfl, rfl, _, rfl, ?_⟩
        have hsd := hf.sd
        unfold MvT.aft
        cases esd : mv.sd with
        | none => exact iteF ⟨rfl, Same.mut sm nl, upd_same⟩
        | some d =>
          have hd := hsd d esd
          rw [esd] at hb
          refine iteT ?_
          refine ⟨_, rfl, _, rfl, _, _, _, _, rfl, rfl, Same.seqT (s2 _) hb, atI_nat (j := 4) rfl, _, _, _, _, rfl, rfl, sq upd_same, at_gd rfl (by rw [List.length_set, ln]; exact hd), _, _, rfl, rfl, _, rfl, _, rfl, _, _, _, _, rfl, rfl, Same.seqT (s2 _) hb, atI_nat (j := 4) rfl, l, _, _, _, rfl, rfl, upd_same, ixN_nat (by rw [List.length_map, List.length_set, ln]; exact hd), ?_⟩
          rw [set_int]
          exact ⟨rfl, Same.mut (Same.mut sm nl) nl, upd_same⟩
      · rintro σ' H2 ⟨rfl, sm2, el2⟩
        refine ⟨_, rfl, _, _, _, _, rfl, rfl, Same.seqT sm2 hb, atI_nat (j := 2) rfl, _, rfl, szc 2, fun p np => ?_⟩
        have pl : p ≠ l := fun e => by rw [e, el2] at np; cases np
        exact q _ _ (sm2.trans (same_new np)) (.inr ⟨hcan, p, rfl, l, sm2.free np, nl, Ne.symm pl, upd_same, by rw [upd_ne (Ne.symm pl)]; exact el2⟩)
  · refine iteTx (by rw [decide_eq_false hst]; rfl) (iteTx rfl ?_)
    refine q _ .non s0 (.inl ⟨?_, rfl⟩)
    unfold MvT.can
    rw [decide_eq_false (fun z => hst z.symm), Bool.false_and]
end
section
variable {P : Program} {w : World} {K : PySem.W.Frag} {mg : Str → Option Value} {base : Heap}
abbrev s_law_start : Stmt := topS 26
theorem sc_law_start : FnScope ["machine", "crew", "counts"] ["machine", "crew"] (defScope s_law_start) := ⟨rfl, rfl, rfl, by decide +kernel, rfl, by decide +kernel, by decide +kernel⟩
-- _law_start slots: machine=0 crew=1 counts=2 globals: list
def spLStart (K : PySem.W.Frag) : Sp := fun vs H Q _ => ∃ (x : V) (M : MT) (z : Int), vs = [x, .int z] ∧ Dp K H x M.data ∧ M.crew < M.cnts.length ∧ ∀ H' p, Same H H' → NewSit H H' p M.sst (bump M.cnts M.crew z) → Q (.ref p) H'
theorem fd_law_start {f : Addr} {fd : FuncData} (F : Fun K "_law_start" "_law_start" s_law_start f fd) (m : mg "_law_start" = some (.ref f)) (B : Bt mg) : Fd P w K mg base "_law_start" ["machine", "crew"] 1 (spLStart K) := by
  refine ⟨f, fd, F.ok sc_law_start (fun vs H Q E h => ?_) (fun cdv A outer s H vs Q E hr h => ?_), m, F.kp, F.binds (ps := ["machine", "crew"]) fun _ _ _ _ _ _ us hl => match us, hl with | [_, _], _ => rfl⟩
  · obtain ⟨x, M, z, rfl, _⟩ := h
    rfl
  obtain ⟨x, M, z, rfl, hd, hc, q⟩ := h
  obtain ⟨am, sv, ma, xm, rfl, ham, ⟨b, cb, rfl, hb, hcb⟩, _, _⟩ := dp_mt hd
  refine ⟨_, (pss_cons (ps_set (i := 2) sc_law_start.nd rfl (Or.inl rfl) (pe_callTy (cList K) (by rfl) B.list (by decide +kernel) (pa_cons (pe_ix (ixT K) (pe_ix (ixT K) (pv 0) pe_int (fun _ _ => rfl)) pe_int (fun _ _ => rfl)) pa_nil)))
 (pss_cons (ps_asg (pe_op op_add (pe_ix (ixL K) (pv 2) (pe_ix (ixT K) (pv 0) pe_int (fun _ _ => rfl)) (fun _ _ => rfl)) (pv 1)) (pg_sub (pv 2) (pe_ix (ixT K) (pv 0) pe_int (fun _ _ => rfl)) set_list))
 (pss_one (ps_ret (pe_tup (pa_cons (pe_ix (ixT K) (pe_ix (ixT K) (pv 0) pe_int (fun _ _ => rfl)) pe_int (fun _ _ => rfl)) (pa_cons (pv 2) pa_nil))))))), ?_⟩
  refine ⟨_, rfl, _, _, _, _, rfl, rfl, ham, atI_nat (j := 2) rfl, _, _, _, _, rfl, rfl, hb, atI_nat (j := 1) rfl, cb, _, rfl, .inl hcb, fun l nl => ?_⟩
  dsimp only [gName]
  have s1 := same_new (o := HO.lst (M.cnts.map V.int)) nl
  have ham1 := Same.seqT s1 ham
  refine ⟨_, rfl, _, rfl, _, _, _, _, rfl, rfl, ham1, atI_nat (j := 3) rfl, _, _, _, _, rfl, rfl, sq upd_same, at_gd rfl hc, _, rfl, _, _, rfl, rfl, _, rfl, _, rfl, _, _, _, _, rfl, rfl, ham1, atI_nat (j := 3) rfl, l, _, _, M.crew, rfl, rfl, upd_same, ixN_nat (by rw [List.length_map]; exact hc), ?_⟩
  rw [set_int]
  have s2 : Same H (upd (upd H l (.lst (M.cnts.map V.int))) l (.lst ((M.cnts.set M.crew (M.cnts.getD M.crew 0 + z)).map V.int))) := Same.mut s1 nl
  refine ⟨_, rfl, _, _, _, _, rfl, rfl, Same.seqT s2 ham, atI_nat (j := 2) rfl, _, _, _, _, rfl, rfl, Same.seqT s2 hb, atI_nat (j := 0) rfl, _, rfl, szc 2, fun p np => ?_⟩
  have pl : p ≠ l := fun e => by rw [e, upd_same] at np; cases np
  exact q _ p (s2.trans (same_new np)) ⟨l, s2.free np, nl, Ne.symm pl, upd_same, by rw [upd_ne (Ne.symm pl), upd_same]; rfl⟩
end
section
variable {P : Program} {w : World} {K : PySem.W.Frag} {mg : Str → Option Value} {base : Heap} {CO CN : Addr}
theorem all_app_map {M : MT} {rs : List Wn} {f : Wn → Bool} : (([begW M] ++ rs.flatMap (succW M)).all f) = (f (begW M) && rs.all fun r => (succW M r).all f) := by
  rw [List.all_append, List.all_flatMap]
  simp
theorem fm_snocW {M : MT} {rs : List Wn} {i : Nat} {r : Wn} (h : rs[i]? = some r) : (rs.take (i + 1)).flatMap (succW M) = (rs.take i).flatMap (succW M) ++ succW M r := by
  rw [take_snoc h, List.flatMap_append]
  simp
abbrev s_law_closed : Stmt := topS 27
theorem sc_law_closed : FnScope ["machine", "members", "counts", "needed", "element", "move", "fresh", "row"] ["machine", "members"] (defScope s_law_closed) := ⟨rfl, rfl, rfl, by decide +kernel, rfl, by decide +kernel, by decide +kernel⟩
-- _law_closed slots: machine=0 members=1 counts=2 needed=3 element=4 move=5 fresh=6 row=7(cell) globals: list _law_wide_after len
def spLClosed (K : PySem.W.Frag) : Sp := fun vs H Q _ => ∃ (v : V) (a : Addr) (M : MT) (xs : List V) (rs : List Wn) (S N : Nat) (B : Int), vs = [v, .ref a] ∧ Dp K H v M.data ∧ SqL K H a xs ∧ DpAll K H xs (rs.map wD) ∧ (∀ m ∈ M.moves, m.Fit S N) ∧ M.cnts.length = N ∧ M.crew < N ∧ N ≤ 900 ∧ M.moves.length ≤ 100 ∧ rs.length ≤ 100 ∧ (∀ r ∈ rs, WB S N B r) ∧ ∀ H', Same H H' → Q (.bl (closedB M rs)) H'
set_option maxHeartbeats 2000000 in
theorem fd_law_closed {f : Addr} {fd : FuncData} (F : Fun K "_law_closed" "_law_closed" s_law_closed f fd) (m : mg "_law_closed" = some (.ref f)) (B : Bt mg) (D_law_wide_after : Fd P w K mg base "_law_wide_after" ["situation", "move"] 1 (spLWA K)) (D_law_wide_covers : Fd P w K mg base "_law_wide_covers" ["first", "second"] 1 (spLWCov K)) : Fd P w K mg base "_law_closed" ["machine", "members"] 2 (spLClosed K) := by
  refine ⟨f, fd, F.ok sc_law_closed (fun vs H Q E h => ?_) (fun cdv A outer s H vs Q E hr h => ?_), m, F.kp, F.binds (ps := ["machine", "members"]) fun _ _ _ _ _ _ us hl => match us, hl with | [_, _], _ => rfl⟩
  · obtain ⟨v, a, M, xs, rs, S, N, B, rfl, _⟩ := h
    rfl
  obtain ⟨v, a, M, xs, rs, S, N, Bz, rfl, hd, ha, hx, hf, hcl, hcr, hN, hml, hrl, hw, q⟩ := h
  obtain ⟨am, sv, ma, xm, rfl, ham, ⟨b, cb, rfl, hb, hcb⟩, hma, hxm⟩ := dp_mt hd
  have xml := dpa_map_len hxm
  have xl := dpa_map_len hx
  refine ⟨_, (pss_cons (ps_set (i := 2) sc_law_closed.nd rfl (Or.inl rfl) (pe_callTy (cList K) (by rfl) B.list (by decide +kernel) (pa_cons (pe_ix (ixT K) (pe_ix (ixT K) (pv 0) pe_int (fun _ _ => rfl)) pe_int (fun _ _ => rfl)) pa_nil)))
 (pss_cons (ps_asg pe_non (pg_sub (pv 2) (pe_ix (ixT K) (pv 0) pe_int (fun _ _ => rfl)) set_list))
 (pss_cons (ps_set (i := 3) sc_law_closed.nd rfl (Or.inl rfl) (pe_lst (pa_cons (pe_tup (pa_cons (pe_ix (ixT K) (pe_ix (ixT K) (pv 0) pe_int (fun _ _ => rfl)) pe_int (fun _ _ => rfl)) (pa_cons (pv 2) pa_nil))) pa_nil)))
 (pss_cons (ps_for PassesOwn.never rfl (piL K (pv 1)) (pg_name (i := 4) sc_law_closed.nd rfl (Or.inl rfl))
 (pss_one (ps_for PassesOwn.never rfl (piL K (pe_ix (ixT K) (pv 0) pe_int (fun _ _ => rfl))) (pg_name (i := 5) sc_law_closed.nd rfl (Or.inl rfl))
 (pss_cons (ps_set (i := 6) sc_law_closed.nd rfl (Or.inl rfl) (pe_fn D_law_wide_after (hr.mono (by decide)) rfl (pa_cons (pv 4) (pa_cons (pv 5) pa_nil))))
 (pss_one (ps_if (pt_cmpR op_notN (pv 6) pe_non (nomark _))
 (pss_one (ps_expr (peBm K PySem.F.plainAttrs_list PySem.F.slot_list_append PySem.F.type_list_append mt_append (pv 3) (pa_cons (pv 6) pa_nil))))
 pss_nil))))))
 (pss_cons (ps_for PassesOwn.never rfl (piL K (pv 3)) (pg_name (i := 7) sc_law_closed.nd rfl (Or.inr rfl))
 (pss_one (ps_if (pt_cmpR op_eq (pe_callB (cLen K) (by rfl) B.len PySem.boot_len (pa_cons (pe_lc (own := [("element", 4)]) (g := gName 4) (by rfl) sc_law_closed.nd (piL K (pv 1)) (blkOk_by (own := [("element", 4)]) (N := ["machine", "members", "counts", "needed", "element", "move", "fresh", "row"]) (sc := (defScope s_law_closed)) (by decide +kernel)) (fun _ _ _ _ _ => (pg_name (i := 4) sc_law_closed.nd rfl (Or.inl rfl))) (fun _ _ _ _ _ => (pts_one (pt_val (pe_fn D_law_wide_covers (hr.mono (by decide)) rfl (pa_cons (pv 4) (pa_cons (pv 7) pa_nil)))))) (fun _ _ _ _ _ => (pv 4))) pa_nil)) pe_int (nomark _))
 (pss_one (ps_ret pe_bl))
 pss_nil)))
 (pss_one (ps_ret pe_bl))))))), ?_⟩
  refine ⟨_, rfl, _, _, _, _, rfl, rfl, ham, atI_nat (j := 2) rfl, _, _, _, _, rfl, rfl, hb, atI_nat (j := 1) rfl, cb, _, rfl, .inl hcb, fun ca nca => ?_⟩
  dsimp only [gName]
  have s1 := same_new (o := HO.lst (M.cnts.map V.int)) nca
  rw [← map_oV_some]
  rw [← map_oV_some] at s1
  refine ⟨_, rfl, _, rfl, _, _, _, _, rfl, rfl, Same.seqT s1 ham, atI_nat (j := 3) rfl, ca, _, _, M.crew, rfl, rfl, upd_same, ixN_nat (by rw [List.length_map, List.length_map]; omega), ?_⟩
  rw [show V.non = oV none from rfl, ← List.map_set]
  have s2 : Same H (upd (upd H ca (.lst ((M.cnts.map some).map oV))) ca (.lst (((M.cnts.map some).set M.crew none).map oV))) := Same.mut s1 nca
  have e2 : (upd (upd H ca (.lst ((M.cnts.map some).map oV))) ca (.lst (((M.cnts.map some).set M.crew none).map oV))) ca = some (.lst (((M.cnts.map some).set M.crew none).map oV)) := upd_same
  generalize upd (upd H ca (.lst ((M.cnts.map some).map oV))) ca (.lst (((M.cnts.map some).set M.crew none).map oV)) = H2 at s2 e2 ⊢
  refine ⟨_, rfl, _, _, _, _, rfl, rfl, Same.seqT s2 ham, atI_nat (j := 2) rfl, _, _, _, _, rfl, rfl, Same.seqT s2 hb, atI_nat (j := 0) rfl, _, rfl, szc 2, fun t1 nt1 => ⟨szc 1, fun o no => ?_⟩⟩
  dsimp only [gName]
  have s23 := (same_new (o := HO.tup [nV M.sst, .ref ca]) nt1).trans (same_new (o := HO.lst [.ref t1]) no)
  have eo3 : (upd (upd H2 t1 (.tup [nV M.sst, .ref ca])) o (.lst [.ref t1])) o = some (.lst [.ref t1]) := upd_same
  have t1o : t1 ≠ o := fun e => by rw [← e, upd_same] at no; cases no
  have cao : ca ≠ o := fun e => by rw [← e, (same_new nt1) _ _ e2] at no; cases no
  have d3 : DpAll K (Ho o (upd (upd H2 t1 (.tup [nV M.sst, .ref ca])) o (.lst [.ref t1]))) [.ref t1] ([begW M].map wD) := by
    refine .cons (wsit_dp ⟨t1, ca, rfl, st ?_, sq ?_⟩) .nil
    · unfold Ho; rw [if_neg t1o]; exact (same_new no) _ _ upd_same
    · unfold Ho; rw [if_neg cao]; exact s23 _ _ e2
  have s03 := s2.trans s23
  have noH : H o = none := s2.free ((same_new nt1).free no)
  generalize upd (upd H2 t1 (.tup [nV M.sst, .ref ca])) o (.lst [.ref t1]) = H3 at s23 eo3 d3 s03 ⊢
  refine ⟨_, rfl, a, rfl, ⟨_, s03.seq ha⟩, for_list (xs := xs) (fun i σ' H' => ∃ (ys : List V) (y4 y5 y6 : Option V), σ' = [some (.ref am), some (.ref a), some (.ref ca), some (.ref o), y4, y5, y6, none] ∧ Same H H' ∧ H' o = some (.lst ys) ∧ DpAll K (Ho o H') ys (([begW M] ++ (rs.take i).flatMap (succW M)).map wD) ∧ ys.length ≤ 1 + 100 * i) ⟨[.ref t1], none, none, none, rfl, s03, eo3, d3, Nat.le_refl _⟩ ?_ ?_ ?_⟩
  · rintro i σ' H' _ ⟨ys, y4, y5, y6, rfl, sm, _⟩
    exact sm.seq ha
  · rintro i u σ' H' hu ⟨ys, y4, y5, y6, rfl, sm, eo, dy, yb⟩
    obtain ⟨r, hr', du⟩ := dpa_map_at hx hu
    have okr := hw r (List.mem_of_getElem? hr')
    have ilt := (List.getElem?_eq_some_iff.mp hr').1
    rw [fm_snocW hr', ← List.append_assoc]
    generalize [begW M] ++ (rs.take i).flatMap (succW M) = acc at dy ⊢
    dsimp only [gName]
    refine ⟨_, rfl, _, _, _, _, rfl, rfl, Same.seqT sm ham, atI_nat (j := 4) rfl, ma, rfl, ⟨_, sm.seq hma⟩, for_list (xs := xm) (fun j σ' H' => ∃ (ys : List V) (y5 y6 : Option V), σ' = [some (.ref am), some (.ref a), some (.ref ca), some (.ref o), some u, y5, y6, none] ∧ Same H H' ∧ H' o = some (.lst ys) ∧ DpAll K (Ho o H') ys ((acc ++ (((M.moves.take j).filter fun m => m.canW r.1 r.2).map fun m => ((m.ns : Int), m.aftW r.2))).map wD) ∧ ys.length ≤ 1 + 100 * i + j) ⟨ys, _, _, rfl, sm, eo, by rw [List.take_zero]; show DpAll K _ _ ((acc ++ []).map wD); rw [List.append_nil]; exact dy, yb⟩ ?_ ?_ ?_⟩
    · rintro j σ' H' _ ⟨ys, y5, y6, rfl, sj, _⟩
      exact sj.seq hma
    · rintro j um σ' H4 hum ⟨ys, y5, y6, rfl, sj, eo4, dy4, yb4⟩
      obtain ⟨mv, hmv, dum⟩ := dpa_map_at hxm hum
      have fit := hf mv (List.mem_of_getElem? hmv)
      have jlt := (List.getElem?_eq_some_iff.mp hmv).1
      rw [filter_snoc hmv]
      dsimp only [gName]
      refine ⟨_, rfl, _, rfl, u, um, r.1, r.2, mv, S, rfl, dp_wsit (dp_mono sj du), dp_mono sj dum, (by rw [okr.1]; exact fit), fun c hc i e => (okr.2.2.2 c hc i e).1, fun hc H5 s5 => ?_, fun hc H5 p s5 nw => ?_⟩
      · dsimp only [gName]
        refine ⟨_, rfl, rfl, _, rfl, iteFx rfl ⟨ys, _, _, rfl, sj.trans s5, s5 _ _ eo4, ?_, by omega⟩⟩
        rw [hc, if_neg (by decide), List.append_nil]
        exact dpAll_mono (ho_same s5) dy4
      · dsimp only [gName]
        obtain ⟨c5, n5, n5c, n5d, e5, e5c⟩ := nw
        have eo5 := s5 _ _ eo4
        have po : p ≠ o := fun e => by rw [e, eo4] at n5; cases n5
        have co : c5 ≠ o := fun e => by rw [e, eo4] at n5c; cases n5c
        refine ⟨_, rfl, rfl, _, rfl, iteTx rfl ⟨_, rfl, .inl ⟨rfl, ys, sq eo5⟩, _, rfl, o, ys, _, rfl, rfl, eo5, szl (by omega), ys ++ [.ref p], _, _, rfl, Same.mut (sj.trans s5) noH, upd_same, ?_, by rw [List.length_append]; show ys.length + 1 ≤ _; omega⟩⟩
        rw [hc, if_pos rfl]
        have esn : acc ++ ((((M.moves.take j).filter fun m => m.canW r.1 r.2) ++ [mv]).map fun m => ((m.ns : Int), m.aftW r.2)) = (acc ++ (((M.moves.take j).filter fun m => m.canW r.1 r.2).map fun m => ((m.ns : Int), m.aftW r.2))) ++ [((mv.ns : Int), mv.aftW r.2)] := by
          rw [List.map_append, ← List.append_assoc]
          rfl
        rw [esn, List.map_append]
        refine dpa_app (dpAll_mono ((ho_same s5).trans ho_mut) dy4) (.cons (dp_mono ho_mut (wsit_dp ⟨p, c5, rfl, st ?_, sq ?_⟩)) .nil)
        · unfold Ho; rw [if_neg po]; exact e5
        · unfold Ho; rw [if_neg co]; exact e5c
    · rintro σ' H4 ⟨ys, y5, y6, rfl, sj, eo4, dy4, yb4⟩
      rw [xml, List.take_length] at dy4
      exact ⟨ys, _, _, _, rfl, sj, eo4, dy4, by omega⟩
  · rintro σ' H' ⟨ys, y4, y5, y6, rfl, sm, eo, dy, yb⟩
    rw [xl, List.take_length] at dy
    have dy' := dpAll_mono ho_out dy
    have yl := dpa_map_len dy'
    have hlen : ∀ r ∈ [begW M] ++ rs.flatMap (succW M), r.2.length = N := fun r hr => by
      rcases List.mem_append.mp hr with h | h
      · rw [List.mem_singleton.mp h, begW_len]; exact hcl
      · obtain ⟨r0, h0, h1⟩ := List.mem_flatMap.mp h
        obtain ⟨mv, _, rfl⟩ := List.mem_map.mp h1
        exact (aftW_len mv r0.2).trans (hw r0 h0).1
    have fin : closedB M rs = ([begW M] ++ rs.flatMap (succW M)).all (cvd rs) := by rw [all_app_map]; rfl
    rw [fin] at q
    generalize [begW M] ++ rs.flatMap (succW M) = need at dy' yl hlen q
    refine ⟨_, rfl, o, rfl, ⟨_, sq eo⟩, for_list (xs := ys) (fun j σ' H2 => ∃ (y4 y7 : Option V), σ' = [some (.ref am), some (.ref a), some (.ref ca), some (.ref o), y4, y5, y6, y7] ∧ Same H' H2 ∧ (need.take j).all (cvd rs) = true) ⟨_, _, rfl, Same.refl _, rfl⟩ ?_ ?_ ?_⟩
    · rintro j σ' H2 _ ⟨y4, y7, rfl, sj, _⟩
      exact sj.seq (sq eo)
    · rintro j u σ' H4 hu ⟨y4, y7, rfl, sj, g⟩
      obtain ⟨x, hxj, du⟩ := dpa_map_at dy' hu
      have lx := hlen x (List.mem_of_getElem? hxj)
      have smj := sm.trans sj
      dsimp only [gName]
      refine ⟨_, rfl, a, rfl, ⟨_, smj.seq ha⟩, fun D nD => ?_⟩
      refine lc_filt (K := K) (fD := wD) (p := fun r => covW r.1 r.2 x.1 x.2) nD (smj.seq ha) (dpAll_mono smj hx) (by omega) (fun _ => rfl) (fun _ => rfl) (fun k r ur Hx Q' hr' dur sx q' => ?_) fun H5 zs s5 e5 d5 => ?_
      · have okr := hw r (List.mem_of_getElem? hr')
        exact ⟨_, rfl, _, rfl, ur, u, r.1, x.1, r.2, x.2, rfl, dp_wsit dur, dp_wsit (dp_mono (sj.trans sx) du), by rw [okr.1, lx], by rw [lx]; omega, ⟨_, rfl, q' _ (Same.refl _)⟩⟩
      have zl := dpa_map_len d5
      refine ⟨D, _, rfl, .inl (sq e5), rfl, _, rfl, ?_⟩
      rw [int_eqE, zl]
      cases hc : cvd rs x with
      | false =>
        have h0 := (filter_cvd rs x).mpr hc
        have q' := q _ (smj.trans s5)
        rw [all_no hxj hc] at q'
        exact iteTx (decide_eq_true (by omega)) q'
      | true =>
        have h0 : (rs.filter fun r => covW r.1 r.2 x.1 x.2).length ≠ 0 := fun z => by rw [(filter_cvd rs x).mp z] at hc; cases hc
        exact iteFx (decide_eq_false (by omega)) ⟨_, _, rfl, sj.trans s5, by rw [all_take hxj, g, hc]; rfl⟩
    · rintro σ' H4 ⟨y4, y7, rfl, sj, g⟩
      rw [yl, List.take_length] at g
      have q' := q _ (sm.trans sj)
      rw [g] at q'
      exact q'
end
/-! ### the search has one end -/
theorem exIter_len {M : MT} (n : Nat) : (exIter M n).2.length ≤ (exIter M (n + 1)).2.length := by
  show _ ≤ (exStep M (exIter M n)).2.length
  generalize exIter M n = z
  obtain ⟨qs, es⟩ := z
  cases qs with
  | nil => exact Nat.le_refl _
  | cons q r =>
    show es.length ≤ (expl1 M q r es).2.length
    unfold expl1
    split
    · exact Nat.le_refl _
    · rw [List.length_append]; omega
theorem exIter_mono {M : MT} {n : Nat} : ∀ m : Nat, n ≤ m → (exIter M n).2.length ≤ (exIter M m).2.length
  | 0, h => by
    obtain rfl : n = 0 := by omega
    exact Nat.le_refl _
  | m + 1, h => by
    by_cases e : n = m + 1
    · rw [e]; exact Nat.le_refl _
    · exact Nat.le_trans (exIter_mono m (by omega)) (exIter_len m)
theorem exIter_stop {M : MT} {n : Nat} {es : List Wn} (h : exIter M n = ([], es)) : ∀ m : Nat, n ≤ m → exIter M m = ([], es)
  | 0, hm => by
    obtain rfl : n = 0 := by omega
    exact h
  | m + 1, hm => by
    by_cases e : n = m + 1
    · rw [← e]; exact h
    · show exStep M (exIter M m) = _
      rw [exIter_stop h m (by omega)]
      rfl
theorem exIter_one {M : MT} {n m : Nat} {es es' : List Wn} (h : exIter M n = ([], es)) (h' : exIter M m = ([], es')) : es = es' := by
  rcases Nat.le_total n m with l | l
  · have := exIter_stop h m l
    rw [h'] at this
    exact (congrArg Prod.snd this).symm
  · have := exIter_stop h' n l
    rw [h] at this
    exact congrArg Prod.snd this
theorem exIter_no {M : MT} {n m fuel : Nat} {es es' : List Wn} {qs : List Qi} (h : exIter M n = ([], es)) (h' : exIter M m = (qs, es')) (l1 : es.length ≤ fuel) (l2 : fuel < es'.length) : False := by
  have e1 : (exIter M n).2.length = es.length := by rw [h]
  have e2 : (exIter M m).2.length = es'.length := by rw [h']
  rcases Nat.le_total n m with l | l
  · have := exIter_stop h m l
    rw [h'] at this
    have : es' = es := congrArg Prod.snd this
    rw [this] at l2
    omega
  · have := exIter_mono (M := M) n l
    omega
/-! ### what is told, as data -/
def rowsC (rs : List Wn) : PyData := .list (rs.map wD)
theorem pd_dpa {K : PySem.W.Frag} {H : Hp} : ∀ {ys : List V} {zs : List (Wn × Addr)}, Paired (fun y z => WAt H y z.1 z.2) ys zs → DpAll K H ys ((zs.map (·.1)).map wD)
  | _, _, .nil => .nil
  | _, _, .cons r p => .cons (wsit_dp r.sit) (pd_dpa p)
theorem CovN.dp {K : PySem.W.Frag} {H0 H : Hp} {D : Addr} {ys : List V} {zs : List (Wn × Addr)} (c : CovN H0 H D ys zs) (e : H D = some (.lst ys)) : Dp K H (.ref D) (rowsC (zs.map (·.1))) := .lst (sq e) (dpAll_mono ho_out (pd_dpa c.at'))
theorem rowsC_nc {S N : Nat} {B : Int} (hS : S ≤ 900) (hB : B < 10 ^ 6) {rs : List Wn} (h : ∀ r ∈ rs, WB S N B r) : NcD (rowsC rs) ((N + 3) * rs.length + 1) 3 := by
  have gen : ∀ {rs : List Wn}, (∀ x ∈ rs, WB S N B x) → NcL (rs.map wD) ((N + 3) * rs.length) 2 := fun {rs} => by
    induction rs with
    | nil => intro _; exact .nil
    | cons r rs ih =>
      intro h
      exact (NcL.cons (wD_nc hS hB (h r List.mem_cons_self)) (ih fun x hx => h x (List.mem_cons_of_mem _ hx))).mono (by rw [List.length_cons, Nat.mul_succ]; omega) (Nat.le_refl _)
  exact (gen h).lst
/-- rows picked out of a list of rows -/
theorem pd_pick {K : PySem.W.Frag} {H : Hp} {xs : List V} {es : List Wn} (d : DpAll K H xs (es.map wD)) : ∀ {ys : List V} {rs : List Wn}, Paired (fun y r => (y, r) ∈ xs.zip es) ys rs → DpAll K H ys (rs.map wD)
  | _, _, .nil => .nil
  | _, _, .cons r p => .cons (by
      obtain ⟨j, hj⟩ := List.getElem?_of_mem r
      obtain ⟨h1, h2⟩ := List.getElem?_zip_eq_some.mp hj
      obtain ⟨r', hr', dr⟩ := dpa_map_at d h1
      rw [hr'] at h2
      have e := Option.some.inj h2
      dsimp only at e
      rw [← e]
      exact dr) (pd_pick d p)
theorem pd_mapM {α β : Type} {F G : α → β → Prop} : ∀ {xs : List α} {ys : List β}, Paired F xs ys → (∀ a b, b ∈ ys → F a b → G a b) → Paired G xs ys
  | _, _, .nil, _ => .nil
  | _, _, .cons r p, f => .cons (f _ _ List.mem_cons_self r) (pd_mapM p fun a b h => f a b (List.mem_cons_of_mem _ h))
/-! ### the cover is closed and never left -/
theorem exIter_lens {M : MT} {N : Nat} (hc : M.cnts.length = N) : ∀ (n : Nat) (qs : List Qi) (es : List Wn), exIter M n = (qs, es) → (∀ q ∈ qs, q.1.2.length = N) ∧ ∀ r ∈ es, r.2.length = N
  | 0, qs, es, h => by
    obtain ⟨rfl, rfl⟩ := Prod.mk.inj h
    refine ⟨fun q hq => ?_, fun r hr => nomatch hr⟩
    rw [List.mem_singleton.mp hq]
    exact (begW_len M).trans hc
  | n + 1, qs, es, h => by
    cases hz : exIter M n with
    | mk qs0 es0 =>
    obtain ⟨i1, i2⟩ := exIter_lens hc n qs0 es0 hz
    have h : exStep M (exIter M n) = (qs, es) := h
    rw [hz] at h
    cases qs0 with
    | nil =>
      obtain ⟨rfl, rfl⟩ := Prod.mk.inj (show (([] : List Qi), es0) = (qs, es) from h)
      exact ⟨i1, i2⟩
    | cons q rest =>
      have h : expl1 M q rest es0 = (qs, es) := h
      have hq := i1 q List.mem_cons_self
      unfold expl1 at h
      split at h
      · obtain ⟨rfl, rfl⟩ := Prod.mk.inj h
        exact ⟨fun x hx => i1 x (List.mem_cons_of_mem _ hx), i2⟩
      · obtain ⟨rfl, rfl⟩ := Prod.mk.inj h
        refine ⟨fun x hx => ?_, fun x hx => ?_⟩
        · rcases List.mem_append.mp hx with hx | hx
          · exact i1 x (List.mem_cons_of_mem _ hx)
          · obtain ⟨f, hf, rfl⟩ := List.mem_map.mp hx
            obtain ⟨m, _, rfl⟩ := List.mem_map.mp hf
            show (m.aftW _).length = N
            rw [aftW_len, widen_len]
            exact hq
        · rcases List.mem_append.mp hx with hx | hx
          · exact i2 x hx
          · rw [List.mem_singleton.mp hx]
            exact (widen_len _ _ _).trans hq
theorem exIter_cl {M : MT} : ∀ (n : Nat) (qs : List Qi) (es : List Wn), exIter M n = (qs, es) → (cvd es (begW M) = true ∨ ∃ q ∈ qs, q.1 = begW M) ∧ ∀ r ∈ es, ∀ f ∈ succW M r, cvd es f = true ∨ ∃ q ∈ qs, q.1 = f
  | 0, qs, es, h => by
    obtain ⟨rfl, rfl⟩ := Prod.mk.inj h
    exact ⟨.inr ⟨_, List.mem_cons_self, rfl⟩, fun r hr => nomatch hr⟩
  | n + 1, qs, es, h => by
    cases hz : exIter M n with
    | mk qs0 es0 =>
    obtain ⟨i1, i2⟩ := exIter_cl n qs0 es0 hz
    have h : exStep M (exIter M n) = (qs, es) := h
    rw [hz] at h
    cases qs0 with
    | nil =>
      obtain ⟨rfl, rfl⟩ := Prod.mk.inj (show (([] : List Qi), es0) = (qs, es) from h)
      exact ⟨i1, i2⟩
    | cons q rest =>
      have h : expl1 M q rest es0 = (qs, es) := h
      unfold expl1 at h
      split at h
      · rename_i hc
        obtain ⟨rfl, rfl⟩ := Prod.mk.inj h
        have go : ∀ f : Wn, (cvd es0 f = true ∨ ∃ x ∈ q :: rest, x.1 = f) → cvd es0 f = true ∨ ∃ x ∈ rest, x.1 = f := fun f hf => by
          rcases hf with hf | ⟨x, hx, rfl⟩
          · exact .inl hf
          · rcases List.mem_cons.mp hx with rfl | hx
            · exact .inl hc
            · exact .inr ⟨x, hx, rfl⟩
        exact ⟨go _ i1, fun r hr f hf => go f (i2 r hr f hf)⟩
      · obtain ⟨rfl, rfl⟩ := Prod.mk.inj h
        have co := widen_covW q.1 q.2
        generalize widen q.1.1 q.1.2 q.2 = W at co
        have go : ∀ f : Wn, (cvd es0 f = true ∨ ∃ x ∈ q :: rest, x.1 = f) → cvd (es0 ++ [(q.1.1, W)]) f = true ∨ ∃ x ∈ rest ++ (succW M (q.1.1, W)).map (fun f => (f, q.2 ++ [(q.1.1, W)])), x.1 = f := fun f hf => by
          rcases hf with hf | ⟨x, hx, rfl⟩
          · exact .inl (cvd_more _ hf)
          · rcases List.mem_cons.mp hx with rfl | hx
            · exact .inl (cvd_last co)
            · exact .inr ⟨x, List.mem_append_left _ hx, rfl⟩
        refine ⟨go _ i1, fun r hr f hf => ?_⟩
        rcases List.mem_append.mp hr with hr | hr
        · exact go f (i2 r hr f hf)
        · rw [List.mem_singleton.mp hr] at hf
          exact .inr ⟨_, List.mem_append_right _ (List.mem_map_of_mem hf), rfl⟩
/-- each explored one is covered by one of the cover -/
theorem cover_of {N : Nat} {es : List Wn} (hl : ∀ r ∈ es, r.2.length = N) {e : Wn} (he : e ∈ es) : ∃ g ∈ coverL es, covW g.1 g.2 e.1 e.2 = true := by
  obtain ⟨g, hg, mx⟩ := greatest hl (es.filter fun o => covW o.1 o.2 e.1 e.2) (fun r hr => (List.mem_filter.mp hr).1) (fun z => by
    have : e ∈ es.filter fun o => covW o.1 o.2 e.1 e.2 := List.mem_filter.mpr ⟨he, covW_refl e.1 e.2⟩
    rw [z] at this
    cases this)
  obtain ⟨g1, g2⟩ := List.mem_filter.mp hg
  refine ⟨g, (coverL_mem es g).mpr ⟨g1, above_none.mpr fun o ho c => ?_⟩, g2⟩
  exact mx o (List.mem_filter.mpr ⟨ho, covW_tr ((hl o ho).trans (hl g g1).symm) ((hl g g1).trans (hl e he).symm) c g2⟩) c
theorem cvd_cover {N : Nat} {es : List Wn} (hl : ∀ r ∈ es, r.2.length = N) {x : Wn} (lx : x.2.length = N) (h : cvd es x = true) : cvd (coverL es) x = true := by
  obtain ⟨e, he, c⟩ := List.any_eq_true.mp h
  obtain ⟨g, hg, c2⟩ := cover_of hl he
  exact List.any_eq_true.mpr ⟨g, hg, covW_tr ((hl g (coverL_sub es g hg)).trans (hl e he).symm) ((hl e he).trans lx.symm) c2 c⟩
theorem cover_closed {M : MT} {N n : Nat} {es : List Wn} (hc : M.cnts.length = N) (h : exIter M n = ([], es)) : closedB M (coverL es) = true := by
  obtain ⟨_, hl⟩ := exIter_lens hc n [] es h
  obtain ⟨i1, i2⟩ := exIter_cl n [] es h
  unfold closedB
  refine Bool.and_eq_true_iff.mpr ⟨cvd_cover hl ((begW_len M).trans hc) (i1.elim id fun ⟨_, hq, _⟩ => nomatch hq), List.all_eq_true.mpr fun r hr => List.all_eq_true.mpr fun f hf => ?_⟩
  have hr := coverL_sub es r hr
  refine cvd_cover hl ?_ ((i2 r hr f hf).elim id fun ⟨_, hq, _⟩ => nomatch hq)
  obtain ⟨m, _, rfl⟩ := List.mem_map.mp hf
  exact (aftW_len m r.2).trans (hl r hr)
/-! ### situations of threads under wide ones -/
abbrev soL (xs : List Int) : List (Option Int) := xs.map some
theorem soL_get {xs : List Int} {k : Nat} (h : k < xs.length) : (soL xs).getD k none = some (xs.getD k 0) := by
  rw [List.getD_eq_getElem?_getD, List.getElem?_map, List.getElem?_eq_getElem h, List.getD_eq_getElem?_getD, List.getElem?_eq_getElem h]
  rfl
theorem bumpO_soL {xs : List Int} {k : Nat} (h : k < xs.length) (z : Int) : bumpO (soL xs) k z = soL (bump xs k z) := by
  unfold bumpO bump
  rw [soL_get h]
  show (xs.map some).set k (some (xs.getD k 0 + z)) = (xs.set k (xs.getD k 0 + z)).map some
  rw [List.map_set]
theorem aftW_soL {m : MvT} {xs : List Int} {S : Nat} (hs : m.sh = []) (f : m.Fit S xs.length) : m.aftW (soL xs) = soL (m.aft xs) := by
  have l1 : (bump xs m.pl (-1)).length = xs.length := List.length_set
  have l2 : (bump (bump xs m.pl (-1)) m.np 1).length = xs.length := List.length_set.trans l1
  have hm : m.mid xs = bump xs m.pl (-1) := by unfold MvT.mid; rw [hs]; rfl
  unfold MvT.aftW MvT.stepsW MvT.aft
  rw [hm]
  show chgO (bumpO (bumpO (soL xs) m.pl (-1)) m.np 1) (m.sd, 1) = _
  rw [bumpO_soL f.pl, bumpO_soL (by rw [l1]; exact f.np)]
  unfold chgO
  cases e : m.sd with
  | none => rfl
  | some d => exact bumpO_soL (by rw [l2]; exact f.sd d e) 1
theorem geO_map {u v : Option Int} (z : Int) (h : geO u v = true) : geO (u.map (· + z)) (v.map (· + z)) = true := by
  cases u with
  | none => rfl
  | some a =>
    cases v with
    | none => cases h
    | some b =>
      have := of_decide_eq_true h
      exact decide_eq_true (by show b + z ≤ a + z; omega)
theorem geW_bumpO {a b : List (Option Int)} (hl : a.length = b.length) (h : geW a b = true) (k : Nat) (z : Int) : geW (bumpO a k z) (bumpO b k z) = true := geW_of fun i u v h1 h2 => by
  unfold bumpO at h1 h2
  rw [List.getElem?_set] at h1 h2
  by_cases e : k = i
  · rw [if_pos e] at h1 h2
    by_cases l : k < a.length
    · rw [if_pos l] at h1
      rw [if_pos (by omega)] at h2
      rw [← Option.some.inj h1, ← Option.some.inj h2]
      exact geO_map z (geW_at h (gdO l) (gdO (by omega)))
    · rw [if_neg l] at h1; cases h1
  · rw [if_neg e] at h1 h2
    exact geW_at h h1 h2
theorem geW_chgO {a b : List (Option Int)} (hl : a.length = b.length) (h : geW a b = true) (p : Option Nat × Int) : geW (chgO a p) (chgO b p) = true := by
  unfold chgO
  split
  · exact h
  · exact geW_bumpO hl h _ _
theorem geW_aftW {a b : List (Option Int)} (hl : a.length = b.length) (h : geW a b = true) (m : MvT) : geW (m.aftW a) (m.aftW b) = true := by
  have h1 := geW_chgO hl h (some m.pl, -1)
  have h2 := geW_chgO ((chgO_len _ _).trans (hl.trans (chgO_len _ _).symm)) h1 (some m.np, 1)
  exact geW_chgO ((chgO_len _ _).trans ((chgO_len _ _).trans (hl.trans ((chgO_len _ _).symm.trans (chgO_len _ _).symm)))) h2 (m.sd, 1)
/-- a situation of threads is covered -/
abbrev rcv (rs : List Wn) (x : Sn) : Bool := cvd rs (x.1, soL x.2)
theorem rcv_start {M : MT} {N : Nat} {rs : List Wn} (hc : M.cnts.length = N) (hcr : M.crew < N) (hl : ∀ r ∈ rs, r.2.length = N) (h : closedB M rs = true) (c : Int) : rcv rs ((M.sst : Int), bump M.cnts M.crew c) = true := by
  obtain ⟨h1, _⟩ := Bool.and_eq_true_iff.mp h
  obtain ⟨r, hr, cr⟩ := List.any_eq_true.mp h1
  have lb : (bump M.cnts M.crew c).length = N := List.length_set.trans hc
  refine List.any_eq_true.mpr ⟨r, hr, covW_tr (b := begW M) ((hl r hr).trans ((begW_len M).trans hc).symm) (((begW_len M).trans hc).trans (by rw [List.length_map, lb])) cr (Bool.and_eq_true_iff.mpr ⟨decide_eq_true rfl, geW_of fun i u v h1 h2 => ?_⟩)⟩
  have h1 : ((M.cnts.map some).set M.crew none)[i]? = some u := h1
  have h2 : ((bump M.cnts M.crew c).map some)[i]? = some v := h2
  unfold bump at h2
  rw [List.map_set, List.getElem?_set] at h2
  rw [List.getElem?_set] at h1
  by_cases e : M.crew = i
  · rw [if_pos e, if_pos (by rw [List.length_map, hc]; omega)] at h1
    rw [← Option.some.inj h1]
    rfl
  · rw [if_neg e] at h1 h2
    rw [h1] at h2
    rw [Option.some.inj h2]
    exact geO_refl _
theorem rcv_after {M : MT} {N S : Nat} {rs : List Wn} (hf : ∀ m ∈ M.moves, m.Fit S N) (hs : ∀ m ∈ M.moves, m.sh = []) (hl : ∀ r ∈ rs, r.2.length = N) (h : closedB M rs = true) {x : Sn} (lx : x.2.length = N) (hx : rcv rs x = true) {m : MvT} (hm : m ∈ M.moves) (hcan : m.can x.1 x.2 = true) : rcv rs ((m.ns : Int), m.aft x.2) = true := by
  obtain ⟨_, h2⟩ := Bool.and_eq_true_iff.mp h
  obtain ⟨r, hr, cr⟩ := List.any_eq_true.mp hx
  obtain ⟨c1, c2⟩ := Bool.and_eq_true_iff.mp cr
  have c1 : r.1 = x.1 := of_decide_eq_true c1
  have lr := hl r hr
  have fit := hf m hm
  have ls : (soL x.2).length = N := (List.length_map _).trans lx
  obtain ⟨k1, k2⟩ := Bool.and_eq_true_iff.mp hcan
  have k1 := of_decide_eq_true k1
  have k2 := of_decide_eq_true k2
  have cw : m.canW r.1 r.2 = true := by
    refine Bool.and_eq_true_iff.mpr ⟨decide_eq_true (by rw [c1]; exact k1), ?_⟩
    have g := geW_at c2 (gdO (ds := r.2) (i := m.pl) (by rw [lr]; exact fit.pl)) (gdO (ds := soL x.2) (i := m.pl) (by rw [ls]; exact fit.pl))
    rw [soL_get (by rw [lx]; exact fit.pl)] at g
    cases e : r.2.getD m.pl none with
    | none => rfl
    | some z =>
      rw [e] at g
      have := of_decide_eq_true g
      exact decide_eq_true (by omega)
  have sm : ((m.ns : Int), m.aftW r.2) ∈ succW M r := List.mem_map.mpr ⟨m, List.mem_filter.mpr ⟨hm, cw⟩, rfl⟩
  obtain ⟨g, hg, cg⟩ := List.any_eq_true.mp (List.all_eq_true.mp (List.all_eq_true.mp h2 r hr) _ sm)
  have ga : geW (m.aftW r.2) (soL (m.aft x.2)) = true := by
    rw [← aftW_soL (hs m hm) (by rw [lx]; exact fit)]
    exact geW_aftW (lr.trans ls.symm) c2 m
  have la : (soL (m.aft x.2)).length = N := by rw [← aftW_soL (hs m hm) (by rw [lx]; exact fit), aftW_len, ls]
  exact List.any_eq_true.mpr ⟨g, hg, covW_tr (b := ((m.ns : Int), m.aftW r.2)) ((hl g hg).trans ((aftW_len m r.2).trans lr).symm) (((aftW_len m r.2).trans lr).trans la.symm) cg (Bool.and_eq_true_iff.mpr ⟨decide_eq_true rfl, ga⟩)⟩
theorem geA_iff : ∀ {ms ns : List Int}, ms.length = ns.length → (geAll ms ns = true ↔ ∀ i, i < ns.length → ns.getD i 0 ≤ ms.getD i 0)
  | [], [], _ => ⟨fun _ i h => absurd h (Nat.not_lt_zero _), fun _ => rfl⟩
  | m :: ms, n :: ns, h => by
    have ih := geA_iff (ms := ms) (ns := ns) (Nat.succ.inj h)
    show (decide (n ≤ m) && geAll ms ns) = true ↔ _
    rw [Bool.and_eq_true, decide_eq_true_eq, ih]
    constructor
    · rintro ⟨h1, h2⟩ i hi
      cases i with
      | zero => exact h1
      | succ i => exact h2 i (Nat.lt_of_succ_lt_succ hi)
    · intro h
      exact ⟨h 0 (Nat.succ_pos _), fun i hi => h (i + 1) (Nat.succ_lt_succ hi)⟩
theorem covS_soL {x y : Sn} (h : covS x y = true) (hl : x.2.length = y.2.length) : covW x.1 (soL x.2) y.1 (soL y.2) = true := by
  obtain ⟨h1, h2⟩ := Bool.and_eq_true_iff.mp (show (decide (x.1 = y.1) && geAll x.2 y.2) = true from h)
  refine Bool.and_eq_true_iff.mpr ⟨h1, geW_of fun i u v h3 h4 => ?_⟩
  rw [List.getElem?_map] at h3 h4
  obtain ⟨a, ha, rfl⟩ := Option.map_eq_some_iff.mp h3
  obtain ⟨b, hb, rfl⟩ := Option.map_eq_some_iff.mp h4
  have := (geA_iff hl).mp h2 i (List.getElem?_eq_some_iff.mp hb).1
  rw [List.getD_eq_getElem?_getD, List.getD_eq_getElem?_getD, ha, hb] at this
  exact decide_eq_true this
/-- what covers a situation covers what lies below it -/
theorem rcv_down {N : Nat} {rs : List Wn} (hl : ∀ r ∈ rs, r.2.length = N) {x y : Sn} (lx : x.2.length = N) (ly : y.2.length = N) (h : rcv rs x = true) (c : covS x y = true) : rcv rs y = true := by
  obtain ⟨r, hr, cr⟩ := List.any_eq_true.mp h
  exact List.any_eq_true.mpr ⟨r, hr, covW_tr ((hl r hr).trans (by rw [List.length_map, lx])) (by rw [List.length_map, List.length_map, lx, ly]) cr (covS_soL c (lx.trans ly.symm))⟩
/-- a row of the cover is covered by itself alone -/
theorem cover_once {N : Nat} {es : List Wn} (hl : ∀ r ∈ es, r.2.length = N) {x : Wn} (hx : x ∈ coverL es) : ((coverL es).filter fun o => covW o.1 o.2 x.1 x.2).length = 1 := by
  have nd : (coverL es).Nodup := (coverL_sorted hl).imp fun {a b} h e => by rw [e, lessP_irr] at h; cases h
  have ab := above_none.mp ((coverL_mem es x).mp hx).2
  have go : ∀ l : List Wn, l.Nodup → (∀ o ∈ l, o ∈ es) → x ∈ l → (l.filter fun o => covW o.1 o.2 x.1 x.2).length = 1 := fun l => by
    induction l with
    | nil => intro _ _ h; cases h
    | cons o l ih =>
      intro nd hs hm
      obtain ⟨n1, n2⟩ := List.nodup_cons.mp nd
      rw [List.filter_cons]
      by_cases e : o = x
      · subst e
        rw [if_pos (covW_refl _ _), List.length_cons, show l.filter (fun p => covW p.1 p.2 o.1 o.2) = [] from List.filter_eq_nil_iff.mpr fun p hp c => n1 (by rw [← ab p (hs p (List.mem_cons_of_mem _ hp)) c]; exact hp)]
        rfl
      · rw [if_neg fun c => e (ab o (hs o List.mem_cons_self) c)]
        exact ih n2 (fun p hp => hs p (List.mem_cons_of_mem _ hp)) (List.mem_of_ne_of_mem (fun z => e z.symm) hm)
  exact go _ nd (coverL_sub es) hx
theorem canW_soL {m : MvT} {xs : List Int} {s : Int} (h : m.pl < xs.length) : m.canW s (soL xs) = m.can s xs := by
  unfold MvT.canW MvT.can
  rw [soL_get h]
  rfl
theorem aft_nnW {m : MvT} {S : Nat} {s : Int} {xs : List Int} (hs : m.sh = []) (f : m.Fit S xs.length) (hc : m.can s xs = true) (h : ∀ c ∈ xs, 0 ≤ c) : ∀ c ∈ m.aft xs, 0 ≤ c := fun c hm => by
  have := nn_aft (m := m) (s := s) (cs := soL xs) (by rw [canW_soL f.pl]; exact hc) (fun c hc i e => by
    obtain ⟨z, hz, rfl⟩ := List.mem_map.mp hc
    rw [← Option.some.inj e]
    exact h z hz)
  rw [aftW_soL hs f] at this
  exact this (some c) (List.mem_map_of_mem hm) c rfl
theorem aft_lenW {m : MvT} {S : Nat} {xs : List Int} (hs : m.sh = []) (f : m.Fit S xs.length) : (m.aft xs).length = xs.length := by
  have := congrArg List.length (aftW_soL hs f)
  rw [aftW_len, List.length_map, List.length_map] at this
  exact this.symm
theorem sit_w {K : PySem.W.Frag} {H : Hp} {v : V} {s : Int} {cs : List Int} (h : Sit K H v s cs) : WSit K H v s (soL cs) := by
  obtain ⟨a, ca, rfl, h1, h2⟩ := h
  exact ⟨a, ca, rfl, h1, by rw [map_oV_some]; exact h2⟩
theorem exIter_ok {M : MT} {S N L : Nat} (hf : ∀ m ∈ M.moves, m.Fit S N) (hL : M.moves.length ≤ L) (hb : WB S N 2 (begW M)) : ∀ (n : Nat) (qs : List Qi) (es : List Wn), exIter M n = (qs, es) → ExOk M S N L 2 qs es
  | 0, qs, es, h => by
    obtain ⟨rfl, rfl⟩ := Prod.mk.inj h
    refine ⟨fun q hq => ?_, fun r hr => (nomatch hr), Nat.le_refl _, fun _ z => (nomatch z), fun q hq => ?_⟩
    · rw [List.mem_singleton.mp hq]
      exact ⟨hb.mono (by show (2 : Int) ≤ 2 + 3 * 0; omega), fun a ha => nomatch ha⟩
    · rw [List.mem_singleton.mp hq]
      exact Nat.le_refl _
  | n + 1, qs, es, h => by
    cases hz : exIter M n with
    | mk qs0 es0 =>
    have ih := exIter_ok hf hL hb n qs0 es0 hz
    have h : exStep M (exIter M n) = (qs, es) := h
    rw [hz] at h
    cases qs0 with
    | nil =>
      obtain ⟨rfl, rfl⟩ := Prod.mk.inj (show (([] : List Qi), es0) = (qs, es) from h)
      exact ih
    | cons q rest =>
      have h : expl1 M q rest es0 = (qs, es) := h
      have := ih.step (by decide) hf hL
      rw [h] at this
      exact this
theorem begW_ok {M : MT} {P L : Nat} (ok : M.OkG P L) : WB M.states M.places 2 (begW M) := by
  refine ⟨by rw [begW_len]; exact ok.cl, by show (0 : Int) ≤ (M.sst : Int); omega, by show (M.sst : Int) < (M.states : Int); have := ok.ss; omega, fun c hc i e => ?_⟩
  change c ∈ (M.cnts.map some).set M.crew none at hc
  rcases List.mem_or_eq_of_mem_set hc with hm | rfl
  · obtain ⟨z, hz, rfl⟩ := List.mem_map.mp hm
    cases e
    have := ok.cb i hz
    omega
  · cases e
theorem hoA {a c : Addr} {H : Hp} {o : HO} (n : c ≠ a) (h : H c = some o) : Ho a H c = some o := by
  unfold Ho
  rw [if_neg n]
  exact h
section
variable {P : Program} {w : World} {K : PySem.W.Frag} {mg : Str → Option Value} {base : Heap}
abbrev s_law : Stmt := topS 31
theorem sc_law : FnScope ["script", "machine", "cover", "row", "other", "outside", "situation", "k", "draws", "draw", "possible", "move"] ["script"] (defScope s_law) := ⟨rfl, rfl, rfl, by decide +kernel, rfl, by decide +kernel, by decide +kernel⟩
-- law slots: script=0 machine=1 cover=2 row=3(cell) other=4 outside=5 situation=6(cell) k=7 draws=8 draw=9 possible=10 move=11(None) globals: _law_machine _law_cell explore is_closed _law_closed len _law_some range _law_digits _law_start _law_covers _law_after
def spLaw (K : PySem.W.Frag) : Sp := fun vs H Q _ => ∃ (a : Addr) (ns : List Int), vs = [.ref a] ∧ SqL K H a (ns.map V.int) ∧ ns.length ≤ 63 ∧ ∀ H', Q (.bl true) H'
set_option maxHeartbeats 4000000 in
theorem fd_law {f : Addr} {fd : FuncData} (F : Fun K "law" "law" s_law f fd) (m : mg "law" = some (.ref f)) (bind : ∀ (s : Shared) (v : Value), BindsTo s fd ⟨[v], []⟩ [("script", v)]) (B : Bt mg)
    (D_law_cell : Fd P w K mg base "_law_cell" ["script", "k"] 1 (spCellP K)) (D_law_digits : Fd P w K mg base "_law_digits" ["cell", "base", "most"] 1 (spDigits K)) (D_law_machine : Fd P w K mg base "_law_machine" ["first", "second"] 2 (spWMach K)) (D_law_wide_covers : Fd P w K mg base "_law_wide_covers" ["first", "second"] 1 (spLWCov K))
    (D_law_closed : Fd P w K mg base "_law_closed" ["machine", "members"] 2 (spLClosed K)) (D_is_closed : Fd P w K mg base "is_closed" ["machine", "chosen"] 3 (spIsClosed K)) (D_law_some : Fd P w K mg base "_law_some" ["cell", "states", "places", "many", "most"] 2 (spSomeD K)) (D_law_start : Fd P w K mg base "_law_start" ["machine", "crew"] 1 (spLStart K)) (D_law_covers : Fd P w K mg base "_law_covers" ["first", "second"] 1 (spLCov K)) (D_law_after : Fd P w K mg base "_law_after" ["situation", "move"] 1 (spLA2 K))
    (D_explore : FdK P w K mg base "explore" ["machine", "fuel"] 1 ["fuel"] 6 (spExplore K)) :
    TopOk P w K mg base f (spLaw K) := by
  refine top_ok (k := 8) F sc_law (by refine ⟨rfl, ?_, ?_⟩ <;> decide +kernel) bind fun cdv s H a Q hr h => ?_
  obtain ⟨a1, ns, ea, hs, hl, q⟩ := h
  cases ea
  refine ⟨_, (pss_cons (ps_set (i := 1) sc_law.nd rfl (Or.inl rfl) (pe_fn D_law_machine (hr.mono (by decide)) rfl (pa_cons (pe_fn D_law_cell (hr.mono (by decide)) rfl (pa_cons (pv 0) (pa_cons pe_int pa_nil))) (pa_cons (pe_fn D_law_cell (hr.mono (by decide)) rfl (pa_cons (pv 0) (pa_cons pe_int pa_nil))) pa_nil))))
 (pss_cons (ps_set (i := 2) sc_law.nd rfl (Or.inl rfl) (pe_fnK D_explore (hr.mono (by decide)) rfl (pa_cons (pv 1) pa_nil) (pk_cons pe_int pk_nil)))
 (pss_cons (ps_if (pt_cmpR op_isN (pv 2) pe_non (nomark _))
 (pss_one (ps_ret pe_bl))
 pss_nil)
 (pss_cons (ps_if (PW.pt (pw_or (pt_not (pt_val (pe_fn D_is_closed (hr.mono (by decide)) rfl (pa_cons (pv 1) (pa_cons (pv 2) pa_nil))))) (pw_or1 (pt_not (pt_val (pe_fn D_law_closed (hr.mono (by decide)) rfl (pa_cons (pv 1) (pa_cons (pv 2) pa_nil))))))))
 (pss_one (ps_ret pe_bl))
 pss_nil)
 (pss_cons (ps_for PassesOwn.never rfl (piL K (pv 2)) (pg_name (i := 3) sc_law.nd rfl (Or.inr rfl))
 (pss_one (ps_if (pt_cmpR op_ne (pe_callB (cLen K) (by rfl) B.len PySem.boot_len (pa_cons (pe_lc (own := [("other", 4)]) (g := gName 4) (by rfl) sc_law.nd (piL K (pv 2)) (blkOk_by (own := [("other", 4)]) (N := ["script", "machine", "cover", "row", "other", "outside", "situation", "k", "draws", "draw", "possible", "move"]) (sc := (defScope s_law)) (by decide +kernel)) (fun _ _ _ _ _ => (pg_name (i := 4) sc_law.nd rfl (Or.inl rfl))) (fun _ _ _ _ _ => (pts_one (pt_val (pe_fn D_law_wide_covers (hr.mono (by decide)) rfl (pa_cons (pv 4) (pa_cons (pv 3) pa_nil)))))) (fun _ _ _ _ _ => (pv 4))) pa_nil)) pe_int (nomark _))
 (pss_one (ps_ret pe_bl))
 pss_nil)))
 (pss_cons (ps_set (i := 5) sc_law.nd rfl (Or.inl rfl) (pe_lst pa_nil))
 (pss_cons (ps_for PassesOwn.never rfl (piL K (pe_fn D_law_some (hr.mono (by decide)) rfl (pa_cons (pe_fn D_law_cell (hr.mono (by decide)) rfl (pa_cons (pv 0) (pa_cons pe_int pa_nil))) (pa_cons (pe_ix (ixT K) (pv 1) pe_int (fun _ _ => rfl)) (pa_cons (pe_ix (ixT K) (pv 1) pe_int (fun _ _ => rfl)) (pa_cons pe_int (pa_cons pe_int pa_nil))))))) (pg_name (i := 6) sc_law.nd rfl (Or.inr rfl))
 (pss_one (ps_if (pt_cmpR op_eq (pe_callB (cLen K) (by rfl) B.len PySem.boot_len (pa_cons (pe_lc (own := [("row", 3)]) (g := gName 3) (by rfl) sc_law.nd (piL K (pv 2)) (blkOk_by (own := [("row", 3)]) (N := ["script", "machine", "cover", "row", "other", "outside", "situation", "k", "draws", "draw", "possible", "move"]) (sc := (defScope s_law)) (by decide +kernel)) (fun _ _ _ _ _ => (pg_name (i := 3) sc_law.nd rfl (Or.inl rfl))) (fun _ _ _ _ _ => (pts_one (pt_val (pe_fn D_law_wide_covers (hr.mono (by decide)) rfl (pa_cons (pv 3) (pa_cons (pv 6) pa_nil)))))) (fun _ _ _ _ _ => (pv 3))) pa_nil)) pe_int (nomark _))
 (pss_one (ps_expr (peBm K PySem.F.plainAttrs_list PySem.F.slot_list_append PySem.F.type_list_append mt_append (pv 5) (pa_cons (pv 6) pa_nil))))
 pss_nil)))
 (pss_cons (ps_for PassesOwn.never rfl (pi_range1 rfl B.range (pa_cons pe_int pa_nil)) (pg_name (i := 7) sc_law.nd rfl (Or.inl rfl))
 (pss_cons (ps_set (i := 8) sc_law.nd rfl (Or.inl rfl) (pe_fn D_law_digits (hr.mono (by decide)) rfl (pa_cons (pe_op op_add (pe_fn D_law_cell (hr.mono (by decide)) rfl (pa_cons (pv 0) (pa_cons (pe_op op_add pe_int (pv 7)) pa_nil))) (pv 7)) (pa_cons pe_int (pa_cons pe_int pa_nil)))))
 (pss_cons (ps_set (i := 6) sc_law.nd rfl (Or.inr rfl) (pe_fn D_law_start (hr.mono (by decide)) rfl (pa_cons (pv 1) (pa_cons (pe_ix (ixL K) (pe_lst (pa_cons (pe_op op_mod (pe_ix (ixL K) (pv 8) pe_int (fun _ _ => rfl)) pe_int) (pa_cons (pe_op op_mod (pe_ix (ixL K) (pv 8) pe_int (fun _ _ => rfl)) pe_int) pa_nil))) (pe_op op_mod (pe_op op_fdiv (pe_ix (ixL K) (pv 8) pe_int (fun _ _ => rfl)) pe_int) pe_int) (fun _ _ => rfl)) pa_nil))))
 (pss_one (ps_for PassesOwn.never rfl (piL K (pv 8)) (pg_name (i := 9) sc_law.nd rfl (Or.inl rfl))
 (pss_cons (ps_if (pt_cmpR op_eq (pe_callB (cLen K) (by rfl) B.len PySem.boot_len (pa_cons (pe_lc (own := [("row", 3)]) (g := gName 3) (by rfl) sc_law.nd (piL K (pv 2)) (blkOk_by (own := [("row", 3)]) (N := ["script", "machine", "cover", "row", "other", "outside", "situation", "k", "draws", "draw", "possible", "move"]) (sc := (defScope s_law)) (by decide +kernel)) (fun _ _ _ _ _ => (pg_name (i := 3) sc_law.nd rfl (Or.inl rfl))) (fun _ _ _ _ _ => (pts_one (pt_val (pe_fn D_law_wide_covers (hr.mono (by decide)) rfl (pa_cons (pv 3) (pa_cons (pv 6) pa_nil)))))) (fun _ _ _ _ _ => (pv 3))) pa_nil)) pe_int (nomark _))
 (pss_one (ps_ret pe_bl))
 pss_nil)
 (pss_cons (ps_for PassesOwn.never rfl (piL K (pv 5)) (pg_name (i := 4) sc_law.nd rfl (Or.inl rfl))
 (pss_one (ps_if (pt_val (pe_fn D_law_covers (hr.mono (by decide)) rfl (pa_cons (pv 6) (pa_cons (pv 4) pa_nil))))
 (pss_one (ps_ret pe_bl))
 pss_nil)))
 (pss_cons (ps_setLc (i := 10) (own := [("move", 11)]) (g := gName 11) (by rfl) sc_law.nd rfl rfl (sw_true rfl rfl rfl (by decide +kernel)) (piL K (pe_ix (ixT K) (pv 1) pe_int (fun _ _ => rfl))) (blkOk_by (own := [("move", 11)]) (N := ["script", "machine", "cover", "row", "other", "outside", "situation", "k", "draws", "draw", "possible", "move"]) (sc := (defScope s_law)) (by decide +kernel)) (fun _ _ _ _ _ => (pg_name (i := 11) sc_law.nd rfl (Or.inl rfl))) (fun _ _ _ _ _ => (pts_one (pt_cmpR op_notN (pe_fn D_law_after (hr.mono (by decide)) rfl (pa_cons (pv 6) (pa_cons (pv 11) pa_nil))) pe_non (nomark _)))) (fun _ _ _ _ _ => (pv 11)))
 (pss_cons (ps_if (pt_cmpR op_eq (pe_callB (cLen K) (by rfl) B.len PySem.boot_len (pa_cons (pv 10) pa_nil)) pe_int (nomark _))
 (pss_one ps_break)
 pss_nil)
 (pss_one (ps_set (i := 6) sc_law.nd rfl (Or.inr rfl) (pe_fn D_law_after (hr.mono (by decide)) rfl (pa_cons (pv 6) (pa_cons (pe_ix (ixL K) (pv 10) (pe_op op_mod (pe_op op_fdiv (pv 9) pe_int) (pe_callB (cLen K) (by rfl) B.len PySem.boot_len (pa_cons (pv 10) pa_nil))) (fun _ _ => rfl)) pa_nil))))))))))))))
 (pss_one (ps_ret pe_bl)))))))))), ?_⟩
  refine ⟨_, rfl, a, ns, 0, rfl, hs, fun z0 hz0 => ⟨_, rfl, a, ns, 1, rfl, hs, fun z1 hz1 => ⟨z0, z1, rfl, hz0, hz1, fun H1 v M s1 dM ok sh0 => ?_⟩⟩⟩
  dsimp only [gName]
  have p2 := ok.p2
  have s2' := ok.s2
  have s1' := ok.s1
  have p1' := ok.p1
  have hml := ok.ml
  have fitM : ∀ m ∈ M.moves, m.Fit M.states M.places := ok.fit
  obtain ⟨am, sv, ma, xm, rfl, ham, hsit, hma, hxm⟩ := dp_mt dM
  have xml := dpa_map_len hxm
  refine ⟨_, rfl, rfl, rfl, .ref am, M, M.places, 8, 60, rfl, dM, sh0, fitM, ok.cl, ok.cr, hml, by decide, by omega, by decide, by decide, fun H2 u2 s2 h2 => ?_⟩
  dsimp only [gName]
  rcases h2 with ⟨n, qs, es, rfl, hn, hlt⟩ | ⟨D, ys, zs, n, es, rfl, nD, eD, cv, ez, hn, hl2⟩
  · exact ⟨_, rfl, rfl, _, rfl, iteTx (decide_eq_true rfl) (q _)⟩
  have nonR : ∀ z : Addr, decide (V.ref z = V.non) = false := fun z => decide_eq_false fun h => nomatch h
  refine ⟨_, rfl, rfl, _, rfl, iteFx (nonR D) ?_⟩
  have dY : DpAll K H2 ys ((coverL es).map wD) := by
    have := pd_dpa (K := K) cv.at'
    rw [ez] at this
    exact dpAll_mono ho_out this
  obtain ⟨_, lE⟩ := exIter_lens ok.cl n [] es hn
  have lC : ∀ r ∈ coverL es, r.2.length = M.places := fun r hr => lE r (coverL_sub es r hr)
  have clo := cover_closed ok.cl hn
  have once := fun x hx => cover_once lE (x := x) hx
  have ylen := dpa_map_len dY
  have cl60 : (coverL es).length ≤ 60 := Nat.le_trans (coverL_len es) hl2
  have wb : ∀ r ∈ coverL es, WB M.states M.places (2 + 3 * (es.length : Int)) r := fun r hr => (exIter_ok fitM hml (begW_ok ok) n [] es hn).eb r (coverL_sub es r hr)
  clear cv ez hn lE
  generalize coverL es = rs at dY lC clo once ylen cl60 wb
  have dM2 := dp_mono s2 dM
  refine ⟨_, rfl, _, rfl, .ref am, D, M, ys, rs, M.places, rfl, dM2, sq eD, dY, sh0, fitM, ok.cl, ok.cr, by omega, lC, fun H3 s3 => ⟨_, rfl, ?_⟩⟩
  rw [clo]
  refine iteF ⟨_, rfl, _, rfl, .ref am, D, M, ys, rs, M.states, M.places, 2 + 3 * (es.length : Int), rfl, dp_mono s3 dM2, sq (s3 _ _ eD), dpAll_mono s3 dY, fitM, ok.cl, ok.cr, by omega, by omega, by omega, wb, fun H4 s4 => ⟨_, rfl, ?_⟩⟩
  rw [clo]
  refine iteF ?_
  have s14 := (s2.trans s3).trans s4
  have s24 := s3.trans s4
  have eD4 := s24 _ _ eD
  have dY4 := dpAll_mono s24 dY
  have dM4 := dp_mono s14 dM
  have hs4 := (s1.trans s14).seq hs
  have ham4 := Same.seqT s14 ham
  have hma4 := s14.seq hma
  have hxm4 := dpAll_mono s14 hxm
  clear s14 s24 s4 s3 s2 eD dM2 dM dY ham hma hxm
  refine ⟨_, rfl, D, rfl, ⟨_, sq eD4⟩, for_list (xs := ys) (fun i σ' H' => ∃ y3 : Option V, σ' = [some (.ref a), some (.ref am), some (.ref D), y3, none, none, none, none, none, none, none, none] ∧ Same H4 H') ⟨_, rfl, Same.refl _⟩ ?_ ?_ ?_⟩
  · rintro i σ' H' _ ⟨y3, rfl, sm⟩
    exact sq (sm _ _ eD4)
  · rintro i u σ' H' hu ⟨y3, rfl, sm⟩
    obtain ⟨x, hx, du⟩ := dpa_map_at dY4 hu
    have xm' := List.mem_of_getElem? hx
    dsimp only [gName]
    refine ⟨_, rfl, D, rfl, ⟨_, sq (sm _ _ eD4)⟩, fun D2 nD2 => ?_⟩
    refine lc_filt (K := K) (fD := wD) (p := fun r => covW r.1 r.2 x.1 x.2) nD2 (sq (sm _ _ eD4)) (dpAll_mono sm dY4) (by omega) (fun _ => rfl) (fun _ => rfl) (fun k r ur Hx Q' hr' dur sx q' => ?_) fun H5 zs5 s5 e5 d5 => ?_
    · exact ⟨_, rfl, _, rfl, ur, u, r.1, x.1, r.2, x.2, rfl, dp_wsit dur, dp_wsit (dp_mono (sm.trans sx) du), by rw [lC r (List.mem_of_getElem? hr'), lC x xm'], by rw [lC x xm']; omega, ⟨_, rfl, q' _ (Same.refl _)⟩⟩
    have zl := dpa_map_len d5
    refine ⟨D2, _, rfl, .inl (sq e5), rfl, _, rfl, ?_⟩
    rw [int_eqE, zl, once x xm']
    exact iteFx (by decide) ⟨_, rfl, sm.trans s5⟩
  rintro σ' H5 ⟨y3, rfl, s45⟩
  refine ⟨szc 0, fun o no => ?_⟩
  dsimp only [gName]
  have s46 := s45.trans (same_new (o := HO.lst []) no)
  have eo6 : (upd H5 o (.lst [])) o = some (.lst []) := upd_same
  have hoH : ∀ {b : Addr} {u : HO}, H5 b = some u → b ≠ o := fun {b u} h z => by rw [z, no] at h; cases h
  have s5' := same_new (o := HO.lst []) no
  refine ⟨_, rfl, a, ns, 2, rfl, s46.seq hs4, fun z2 hz2 => ⟨_, rfl, _, _, _, _, rfl, rfl, Same.seqT s46 ham4, atI_nat (j := 0) rfl, _, rfl, _, _, _, _, rfl, rfl, Same.seqT s46 ham4, atI_nat (j := 1) rfl, z2, M.states, M.places, 8, 3, rfl, hz2, ok.s1, by omega, by decide, fun H6 pS xS bS tS cS s6 npS ePS rw6 cS0 lS okS => ?_⟩⟩
  have s56 := s5'.trans s6
  have eo := s6 _ _ eo6
  have r6 := rw6.mono ho_out
  have pSo : pS ≠ o := fun z => by rw [z, eo6] at npS; cases npS
  have sitS : ∀ i b, bS[i]? = some b → xS[i]? = some (.ref (tS i)) ∧ H6 (tS i) = some (.tup [.int b.1, .ref (cS i)]) ∧ H6 (cS i) = some (.lst (b.2.map V.int)) ∧ tS i ≠ o ∧ cS i ≠ o := fun i b hb => by
    have il := (List.getElem?_eq_some_iff.mp hb).1
    refine ⟨r6.at' i il, r6.tup i b hb, r6.cnt i b hb, fun z => ?_, fun z => ?_⟩
    · have := r6.tup i b hb
      rw [z, eo] at this
      cases this
    · have := cS0 i il
      rw [z, eo6] at this
      cases this
  refine ⟨pS, rfl, ⟨_, sq ePS⟩, ?_⟩
  refine for_list (xs := xS) (fun i σ' H' => ∃ (y3 y6 : Option V) (os : List V), σ' = [some (.ref a), some (.ref am), some (.ref D), y3, none, some (.ref o), y6, none, none, none, none, none] ∧ (∀ b u, b ≠ o → H6 b = some u → H' b = some u) ∧ H' o = some (.lst os) ∧ os.length ≤ i ∧ ∀ y ∈ os, ∃ b : Sn, Sit K (Ho o H') y b.1 b.2 ∧ b.2.length = M.places ∧ rcv rs b = false) ⟨y3, none, [], rfl, fun b u _ h => h, eo, Nat.le_refl _, fun y hy => nomatch hy⟩ ?_ ?_ ?_
  · rintro i σ' H' _ ⟨y3, y6, os, rfl, fr, eo', lo, ho⟩
    exact sq (fr _ _ pSo ePS)
  · rintro i u σ' H' hu ⟨y3, y6, os, rfl, fr, eo', lo, ho⟩
    have il := (List.getElem?_eq_some_iff.mp hu).1
    obtain ⟨b, hb⟩ : ∃ b, bS[i]? = some b := ⟨_, List.getElem?_eq_getElem (by rw [← r6.len]; exact il)⟩
    obtain ⟨hx, ht, hc, nt, ncc⟩ := sitS i b hb
    obtain rfl : u = .ref (tS i) := Option.some.inj (hu.symm.trans hx)
    obtain ⟨lb, b0, b1, bc⟩ := okS b (List.mem_of_getElem? hb)
    have fr5 : Same H5 H' := fun b u h => fr b u (hoH h) (s56 _ _ h)
    have s4' : Same H4 H' := s45.trans fr5
    have sitU : Sit K H' (.ref (tS i)) b.1 b.2 := ⟨_, _, rfl, st (fr _ _ nt ht), sq (fr _ _ ncc hc)⟩
    dsimp only [gName]
    refine ⟨_, rfl, D, rfl, ⟨_, sq (s4' _ _ eD4)⟩, fun D2 nD2 => ?_⟩
    refine lc_filt (K := K) (fD := wD) (p := fun r => covW r.1 r.2 b.1 (soL b.2)) nD2 (sq (s4' _ _ eD4)) (dpAll_mono s4' dY4) (by omega) (fun _ => rfl) (fun _ => rfl) (fun k r ur Hx Q' hr' dur sx q' => ?_) fun H7 zs7 s7 e7 d7 => ?_
    · exact ⟨_, rfl, _, rfl, ur, .ref (tS i), r.1, b.1, r.2, soL b.2, rfl, dp_wsit dur, Same.wsit sx (sit_w sitU), by rw [lC r (List.mem_of_getElem? hr'), List.length_map, lb], by rw [List.length_map, lb]; omega, ⟨_, rfl, q' _ (Same.refl _)⟩⟩
    have zl := dpa_map_len d7
    have fr7 : ∀ b u, b ≠ o → H6 b = some u → H7 b = some u := fun b u n h => s7 _ _ (fr b u n h)
    have eo7 := s7 _ _ eo'
    have ho7 : ∀ y ∈ os, ∃ b : Sn, Sit K (Ho o H7) y b.1 b.2 ∧ b.2.length = M.places ∧ rcv rs b = false := fun y hy => by
      obtain ⟨b, h1, h2⟩ := ho y hy
      exact ⟨b, Same.sit (ho_same s7) h1, h2⟩
    refine ⟨D2, _, rfl, .inl (sq e7), rfl, _, rfl, ?_⟩
    rw [int_eqE, zl]
    cases hr : rcv rs b with
    | false =>
      have f0 : (rs.filter fun r => covW r.1 r.2 b.1 (soL b.2)).length = 0 := (filter_cvd rs (b.1, soL b.2)).mpr hr
      have xl8 := r6.len
      refine iteTx (decide_eq_true (by omega)) ⟨_, rfl, .inl ⟨rfl, _, sq eo7⟩, _, rfl, o, _, _, rfl, rfl, eo7, szl (by omega), ?_⟩
      refine ⟨_, _, os ++ [.ref (tS i)], rfl, fun b u n h => by rw [upd_ne n]; exact fr7 b u n h, upd_same, by rw [List.length_append]; exact Nat.succ_le_succ lo, fun y hy => ?_⟩
      rcases List.mem_append.mp hy with hy | hy
      · obtain ⟨b, h1, h2⟩ := ho7 y hy
        exact ⟨b, Same.sit ho_mut h1, h2⟩
      · rw [List.mem_singleton.mp hy]
        exact ⟨b, ⟨_, _, rfl, st (ho_mut _ _ (hoA nt (fr7 _ _ nt ht))), sq (ho_mut _ _ (hoA ncc (fr7 _ _ ncc hc)))⟩, lb, hr⟩
    | true =>
      have f0 : (rs.filter fun r => covW r.1 r.2 b.1 (soL b.2)).length ≠ 0 := fun z => by
        have := (filter_cvd rs (b.1, soL b.2)).mp z
        rw [show cvd rs (b.1, soL b.2) = true from hr] at this
        cases this
      exact iteFx (decide_eq_false (by omega)) ⟨_, _, os, rfl, fr7, eo7, by omega, ho7⟩
  rintro σ' H7 ⟨y3, y6, os, rfl, fr, eo7, lo, ho⟩
  have s57 : Same H5 H7 := fun b u h => fr b u (hoH h) (s56 _ _ h)
  have s47 := s45.trans s57
  have lo8 : os.length ≤ 8 := by have := r6.len; omega
  have ho : ∀ y ∈ os, ∃ b : Sn, Sit K H7 y b.1 b.2 ∧ b.2.length = M.places ∧ rcv rs b = false := fun y hy => by
    obtain ⟨b, h1, h2⟩ := ho y hy
    exact ⟨b, Same.sit ho_out h1, h2⟩
  have eD7 := s47 _ _ eD4
  have dY7 := dpAll_mono s47 dY4
  have dM7 := dp_mono s47 dM4
  have hs7 := s47.seq hs4
  have ham7 := Same.seqT s47 ham4
  have hma7 := s47.seq hma4
  have hxm7 := dpAll_mono s47 hxm4
  clear fr s57 s47 eD4 dY4 dM4 hs4 ham4 hma4 hxm4 sitS r6 rw6 cS0 okS ePS npS s56 eo s6 s5' eo6 s46 hoH
  have nnB : ∀ {k : Nat}, k < M.cnts.length → 0 ≤ M.cnts.getD k 0 := fun {k} hk => (ok.cb _ (gd_mem hk)).1
  have hcr : M.crew < M.cnts.length := by rw [ok.cl]; exact ok.cr
  refine ⟨3, rfl, by decide, by decide, for_range (lo := 0) (n := 3) (fun k σ' H' => ∃ (y3 y4 y6 y7 y8 y9 y10 : Option V), σ' = [some (.ref a), some (.ref am), some (.ref D), y3, y4, some (.ref o), y6, y7, y8, y9, y10, none] ∧ Same H7 H') ⟨_, _, _, _, _, _, _, rfl, Same.refl _⟩ ?_ ?_⟩
  · rintro k σ' H8 hk ⟨y3, y4, y6, y7, y8, y9, y10, rfl, s78⟩
    have hs8 := s78.seq hs7
    refine ⟨_, rfl, _, rfl, _, _, rfl, rfl, a, ns, 3 + k, congrArg (fun z => [V.ref a, V.int z]) (by omega), hs8, fun z hz => ⟨_, rfl, _, _, rfl, rfl, z + (0 + (k : Int)), 27720, 41, rfl, by omega, by decide, by decide, by decide, fun H9 pd ds s9 npd ed ld hd => ?_⟩⟩
    dsimp only [gName]
    have sd9 : SqL K H9 pd (ds.map V.int) := sq ed
    have d0 := (hd _ (gd_mem (i := 0) (by omega))).1
    have m4 := mod_in (ds.getD 0 0) (show (0 : Int) < 4 by decide)
    have m51 := mod_in (ds.getD 0 0) (show (0 : Int) < 51 by decide)
    have m2 := mod_in (ds.getD 0 0 / 51) (show (0 : Int) < 2 by decide)
    obtain ⟨zc, z0', hat⟩ : ∃ zc : Int, 0 ≤ zc ∧ atI [V.int (ds.getD 0 0 % 4), .int (ds.getD 0 0 % 51)] (ds.getD 0 0 / 51 % 2) = some (.int zc) := by
      rcases (show ds.getD 0 0 / 51 % 2 = 0 ∨ ds.getD 0 0 / 51 % 2 = 1 by omega) with e | e
      · exact ⟨_, m4.1, by rw [e]; exact atI_nat (j := 0) rfl⟩
      · exact ⟨_, m51.1, by rw [e]; exact atI_nat (j := 1) rfl⟩
    refine ⟨_, rfl, _, rfl, _, _, _, _, rfl, rfl, sd9, at_gd (j := 0) rfl (by omega), _, _, rfl, rfl, (by show (0 : Int) < 4; decide), _, rfl, _, _, _, _, rfl, rfl, sd9, at_gd (j := 0) rfl (by omega), _, _, rfl, rfl, (by show (0 : Int) < 51; decide), szc 2, fun l nl => ?_⟩
    have sl := same_new (o := HO.lst [V.int (ds.getD 0 0 % 4), .int (ds.getD 0 0 % 51)]) nl
    refine ⟨_, rfl, _, _, _, _, rfl, rfl, sl.seq sd9, at_gd (j := 0) rfl (by omega), _, _, rfl, rfl, ⟨by decide, by decide⟩, _, _, rfl, rfl, (by show (0 : Int) < 2; decide), _, _, _, _, rfl, rfl, sq upd_same, hat, ?_⟩
    have s9l := s9.trans sl
    generalize upd H9 l (.lst [V.int (ds.getD 0 0 % 4), .int (ds.getD 0 0 % 51)]) = HL at sl s9l ⊢
    refine ⟨.ref am, M, zc, rfl, dp_mono (s78.trans s9l) dM7, hcr, fun HA p sA nw => ?_⟩
    have s7A := (s78.trans s9l).trans sA
    have sdA := (sl.trans sA).seq sd9
    have lst : (bump M.cnts M.crew zc).length = M.places := List.length_set.trans ok.cl
    have nst : ∀ c ∈ bump M.cnts M.crew zc, 0 ≤ c := fun c hc => by
      rcases List.mem_or_eq_of_mem_set hc with h | rfl
      · exact (ok.cb c h).1
      · have := nnB hcr
        omega
    have rst := rcv_start ok.cl ok.cr lC clo zc
    have sitA : Sit K HA (.ref p) (M.sst : Int) (bump M.cnts M.crew zc) := nw.sit
    have dd : ∀ d ∈ ds, 0 ≤ d := fun d h => (hd d h).1
    generalize hc0 : (((M.sst : Int), bump M.cnts M.crew zc) : Sn) = c0 at rst
    have sitA : Sit K HA (.ref p) c0.1 c0.2 := by rw [← hc0]; exact sitA
    have lst : c0.2.length = M.places := by rw [← hc0]; exact lst
    have nst : ∀ z ∈ c0.2, 0 ≤ z := by rw [← hc0]; exact nst
    clear hc0
    refine ⟨_, rfl, pd, rfl, ⟨_, sdA⟩, ?_⟩
    refine for_list (xs := ds.map V.int) (fun i σ' H' => ∃ (y3 y4 y9 y10 : Option V) (x : V) (c : Sn), σ' = [some (.ref a), some (.ref am), some (.ref D), y3, y4, some (.ref o), some x, some (V.int (0 + (k : Int))), some (.ref pd), y9, y10, none] ∧ Same HA H' ∧ Sit K H' x c.1 c.2 ∧ c.2.length = M.places ∧ (∀ z ∈ c.2, 0 ≤ z) ∧ rcv rs c = true) ⟨y3, y4, y9, y10, .ref p, c0, rfl, Same.refl _, sitA, lst, nst, rst⟩ ?_ ?_ ?_
    · rintro i σ' H' _ ⟨y3, y4, y9, y10, x, c, rfl, sm, _⟩
      exact sm.seq sdA
    · rintro i u σ' HB hu ⟨y3, y4, y9, y10, x, c, rfl, sm, sitx, lc, nc, rc⟩
      obtain ⟨d, hdi, rfl⟩ := get_map_inv hu
      have dn := dd d (List.mem_of_getElem? hdi)
      have s7B := s7A.trans sm
      refine ⟨_, rfl, D, rfl, ⟨_, sq (s7B _ _ eD7)⟩, fun D2 nD2 => ?_⟩
      refine lc_filt (K := K) (fD := wD) (p := fun r => covW r.1 r.2 c.1 (soL c.2)) nD2 (sq (s7B _ _ eD7)) (dpAll_mono s7B dY7) (by omega) (fun _ => rfl) (fun _ => rfl) (fun k r ur Hx Q' hr' dur sx q' => ?_) fun HC zsC sC eC dC => ?_
      · exact ⟨_, rfl, _, rfl, ur, x, r.1, c.1, r.2, soL c.2, rfl, dp_wsit dur, Same.wsit sx (sit_w sitx), by rw [lC r (List.mem_of_getElem? hr'), List.length_map, lc], by rw [List.length_map, lc]; omega, ⟨_, rfl, q' _ (Same.refl _)⟩⟩
      have zl := dpa_map_len dC
      have f0 : (rs.filter fun r => covW r.1 r.2 c.1 (soL c.2)).length ≠ 0 := fun z => by
        have := (filter_cvd rs (c.1, soL c.2)).mp z
        rw [show cvd rs (c.1, soL c.2) = true from rc] at this
        cases this
      refine ⟨D2, _, rfl, .inl (sq eC), rfl, _, rfl, ?_⟩
      rw [int_eqE, zl]
      refine iteFx (decide_eq_false (by omega)) ?_
      have s7C := s7B.trans sC
      have sitC := Same.sit sC sitx
      refine ⟨_, rfl, o, rfl, ⟨_, sq (s7C _ _ eo7)⟩, ?_⟩
      refine for_list (xs := os) (fun j σ' H' => ∃ y4 : Option V, σ' = [some (.ref a), some (.ref am), some (.ref D), y3, y4, some (.ref o), some x, some (V.int (0 + (k : Int))), some (.ref pd), some (.int d), y10, none] ∧ Same HC H') ⟨_, rfl, Same.refl _⟩ ?_ ?_ ?_
      · rintro j σ' H' _ ⟨y4, rfl, sj⟩
        exact sq (sj _ _ (s7C _ _ eo7))
      · rintro j y σ' H' hy ⟨y4, rfl, sj⟩
        obtain ⟨b, sb, lb, rb⟩ := ho y (List.mem_of_getElem? hy)
        have no' : covB c.1 c.2 b.1 b.2 = false := by
          cases e : covB c.1 c.2 b.1 b.2 with
          | false => rfl
          | true => rw [rcv_down lC lc lb rc e] at rb; cases rb
        refine ⟨_, rfl, _, rfl, x, y, c.1, b.1, c.2, b.2, rfl, Same.sit sj sitC, Same.sit (s7C.trans sj) sb, by rw [lc, lb], by rw [lb]; omega, ⟨_, rfl, iteFx no' ⟨_, rfl, sj⟩⟩⟩
      rintro σ' HE ⟨y4, rfl, sj⟩
      have s7E := s7C.trans sj
      have sitE := Same.sit sj sitC
      have fitc : ∀ m ∈ M.moves, m.Fit M.states c.2.length := by rw [lc]; exact fitM
      refine ⟨_, rfl, _, _, _, _, rfl, rfl, Same.seqT s7E ham7, atI_nat (j := 4) rfl, ma, rfl, ⟨_, s7E.seq hma7⟩, fun D3 nD3 => ?_⟩
      refine lc_filt (K := K) (fD := MvT.data) (p := fun m : MvT => m.can c.1 c.2) nD3 (s7E.seq hma7) (dpAll_mono s7E hxm7) (by omega) (fun _ => rfl) (fun _ => rfl) (fun i m ur Hx Q' hm' dur sx q' => ?_) fun HF zsF sF eF dF => ?_
      · refine ⟨_, rfl, _, rfl, x, ur, c.1, c.2, m, M.states, rfl, Same.sit sx sitE, dur, fitc m (List.mem_of_getElem? hm'), nc, fun Hy v sy hv => ?_⟩
        have q2 := q' Hy sy
        rcases hv with ⟨h1, rfl⟩ | ⟨h1, p2, rfl, _⟩
        · rw [h1] at q2
          refine ⟨rfl, _, rfl, ?_⟩
          rw [decide_eq_true (rfl : V.non = V.non)]
          exact q2
        · rw [h1] at q2
          refine ⟨rfl, _, rfl, ?_⟩
          rw [nonR p2]
          exact q2
      have fl := dpa_map_len dF
      refine ⟨_, rfl, D3, _, rfl, .inl (sq eF), rfl, _, rfl, ?_⟩
      rw [int_eqE]
      have s7F := s7E.trans sF
      refine ite2 (fun e => ?_) (fun e => ?_)
      · exact ⟨_, _, _, _, _, _, _, rfl, s78.trans ((s9l.trans sA).trans ((sm.trans sC).trans (sj.trans sF)))⟩
      have e : ¬ (((zsF.length : Nat) : Int) = 0) := fun z => e (decide_eq_true z)
      have pos : (0 : Int) < ((zsF.length : Nat) : Int) := by omega
      have mj := mod_in (d / 4) pos
      obtain ⟨j, ej⟩ : ∃ j : Nat, d / 4 % ((zsF.length : Nat) : Int) = (j : Int) := ⟨_, (Int.toNat_of_nonneg mj.1).symm⟩
      have jl : j < zsF.length := by omega
      obtain ⟨uj, huj⟩ : ∃ u, zsF[j]? = some u := ⟨_, List.getElem?_eq_getElem jl⟩
      obtain ⟨mv, hmv, dmv⟩ := dpa_map_at dF huj
      obtain ⟨mm, mcan⟩ := List.mem_filter.mp (List.mem_of_getElem? hmv)
      refine ⟨_, rfl, _, rfl, _, rfl, _, _, rfl, rfl, ⟨by decide, by decide⟩, _, rfl, D3, _, rfl, .inl (sq eF), _, _, rfl, rfl, pos, _, _, _, _, rfl, rfl, sq eF, at_n ej huj, x, uj, c.1, c.2, mv, M.states, rfl, Same.sit sF sitE, dp_mono sF dmv, fitc mv mm, nc, fun HG v sG hv => ?_⟩
      rcases hv with ⟨h1, _⟩ | ⟨h1, p2, rfl, nw2⟩
      · rw [h1] at mcan; cases mcan
      have shm := sh0 mv mm
      refine ⟨_, _, _, _, .ref p2, ((mv.ns : Int), mv.aft c.2), rfl, (sm.trans sC).trans (sj.trans (sF.trans sG)), nw2.sit, (aft_lenW shm (fitc mv mm)).trans lc, aft_nnW shm (fitc mv mm) h1 nc, rcv_after fitM sh0 lC clo lc rc mm h1⟩
    rintro σ' HB ⟨y3, y4, y9, y10, x, c, rfl, sm, _⟩
    exact ⟨_, _, _, _, _, _, _, rfl, s78.trans ((s9l.trans sA).trans sm)⟩
  rintro σ' H8 ⟨y3, y4, y6, y7, y8, y9, y10, rfl, s78⟩
  exact q _
end
theorem all_mk {l : PySem.W.OpenLaw} {w : World} {K : PySem.W.Frag} {h : Heap} {mg : Str → Option Value} {fa f1 f2 f3 f4 f5 f6 f7 f8 f9 f10 f11 f12 f13 f14 f15 f16 f17 f18 f19 f20 f21 f22 f23 : Addr} (X : K.In h) (G : h.Ns mainGlobals mg) (hfa : mg "law" = some (.ref fa))
    {od1 an1 od2 an2 od3 an3 od4 an4 od5 an5 od6 an6 od7 an7 od8 an8 od9 an9 od10 an10 od11 an11 od12 an12 od13 an13 od14 an14 od15 an15 od16 an16 od17 an17 od18 an18 od19 an19 od20 an20 od21 an21 od22 an22 od23 an23 : Option Addr} {sl1 sl2 sl3 sl4 sl5 sl6 sl7 sl8 sl9 sl10 sl11 sl12 sl13 sl14 sl15 sl16 sl17 sl18 sl19 sl20 sl21 sl22 sl23 : Array (Option Value)} {oc1 kV1 dc1 pm1 cd1 ct1 oc2 kV2 dc2 pm2 cd2 ct2 oc3 kV3 dc3 pm3 cd3 ct3 oc4 kV4 dc4 pm4 cd4 ct4 oc5 kV5 dc5 pm5 cd5 ct5 oc6 kV6 dc6 pm6 cd6 ct6 oc7 kV7 dc7 pm7 cd7 ct7 oc8 kV8 dc8 pm8 cd8 ct8 oc9 kV9 dc9 pm9 cd9 ct9 oc10 kV10 dc10 pm10 cd10 ct10 oc11 kV11 dc11 pm11 cd11 ct11 oc12 kV12 dc12 pm12 cd12 ct12 oc13 kV13 dc13 pm13 cd13 ct13 oc14 kV14 dc14 pm14 cd14 ct14 oc15 kV15 dc15 pm15 cd15 ct15 oc16 kV16 dc16 pm16 cd16 ct16 oc17 kV17 dc17 pm17 cd17 ct17 oc18 kV18 dc18 pm18 cd18 ct18 oc19 kV19 dc19 pm19 cd19 ct19 oc20 kV20 dc20 pm20 cd20 ct20 oc21 kV21 dc21 pm21 cd21 ct21 oc22 kV22 dc22 pm22 cd22 ct22 oc23 kV23 dc23 pm23 cd23 ct23 : Value}
    (a1 : PySem.W.nsIn K mainGlobals "start_with" = some (some (.ref f1))) (l1 : K.lookup f1 = some ⟨oc1, od1, .func (PySem.W.fnOf "start_with" "start_with" (defArgs s_start_with) (defBody s_start_with) (defScope s_start_with) .none kV1 dc1 pm1 an1 cd1 ct1), sl1⟩) (c1 : PySem.W.codeIn K cd1 "start_with" = true) (k1 : PySem.W.keepIn K (.ref f1) = true)
    (a2 : PySem.W.nsIn K mainGlobals "wide_covers" = some (some (.ref f2))) (l2 : K.lookup f2 = some ⟨oc2, od2, .func (PySem.W.fnOf "wide_covers" "wide_covers" (defArgs s_wide_covers) (defBody s_wide_covers) (defScope s_wide_covers) .none kV2 dc2 pm2 an2 cd2 ct2), sl2⟩) (c2 : PySem.W.codeIn K cd2 "wide_covers" = true) (k2 : PySem.W.keepIn K (.ref f2) = true)
    (a3 : PySem.W.nsIn K mainGlobals "is_covered" = some (some (.ref f3))) (l3 : K.lookup f3 = some ⟨oc3, od3, .func (PySem.W.fnOf "is_covered" "is_covered" (defArgs s_is_covered) (defBody s_is_covered) (defScope s_is_covered) .none kV3 dc3 pm3 an3 cd3 ct3), sl3⟩) (c3 : PySem.W.codeIn K cd3 "is_covered" = true) (k3 : PySem.W.keepIn K (.ref f3) = true)
    (a4 : PySem.W.nsIn K mainGlobals "beginning" = some (some (.ref f4))) (l4 : K.lookup f4 = some ⟨oc4, od4, .func (PySem.W.fnOf "beginning" "beginning" (defArgs s_beginning) (defBody s_beginning) (defScope s_beginning) .none kV4 dc4 pm4 an4 cd4 ct4), sl4⟩) (c4 : PySem.W.codeIn K cd4 "beginning" = true) (k4 : PySem.W.keepIn K (.ref f4) = true)
    (a5 : PySem.W.nsIn K mainGlobals "can_take_wide" = some (some (.ref f5))) (l5 : K.lookup f5 = some ⟨oc5, od5, .func (PySem.W.fnOf "can_take_wide" "can_take_wide" (defArgs s_can_take_wide) (defBody s_can_take_wide) (defScope s_can_take_wide) .none kV5 dc5 pm5 an5 cd5 ct5), sl5⟩) (c5 : PySem.W.codeIn K cd5 "can_take_wide" = true) (k5 : PySem.W.keepIn K (.ref f5) = true)
    (a6 : PySem.W.nsIn K mainGlobals "taken_wide" = some (some (.ref f6))) (l6 : K.lookup f6 = some ⟨oc6, od6, .func (PySem.W.fnOf "taken_wide" "taken_wide" (defArgs s_taken_wide) (defBody s_taken_wide) (defScope s_taken_wide) .none kV6 dc6 pm6 an6 cd6 ct6), sl6⟩) (c6 : PySem.W.codeIn K cd6 "taken_wide" = true) (k6 : PySem.W.keepIn K (.ref f6) = true)
    (a7 : PySem.W.nsIn K mainGlobals "successors" = some (some (.ref f7))) (l7 : K.lookup f7 = some ⟨oc7, od7, .func (PySem.W.fnOf "successors" "successors" (defArgs s_successors) (defBody s_successors) (defScope s_successors) .none kV7 dc7 pm7 an7 cd7 ct7), sl7⟩) (c7 : PySem.W.codeIn K cd7 "successors" = true) (k7 : PySem.W.keepIn K (.ref f7) = true)
    (a8 : PySem.W.nsIn K mainGlobals "refuse_shifts" = some (some (.ref f8))) (l8 : K.lookup f8 = some ⟨oc8, od8, .func (PySem.W.fnOf "refuse_shifts" "refuse_shifts" (defArgs s_refuse_shifts) (defBody s_refuse_shifts) (defScope s_refuse_shifts) .none kV8 dc8 pm8 an8 cd8 ct8), sl8⟩) (c8 : PySem.W.codeIn K cd8 "refuse_shifts" = true) (k8 : PySem.W.keepIn K (.ref f8) = true)
    (a9 : PySem.W.nsIn K mainGlobals "is_closed" = some (some (.ref f9))) (l9 : K.lookup f9 = some ⟨oc9, od9, .func (PySem.W.fnOf "is_closed" "is_closed" (defArgs s_is_closed) (defBody s_is_closed) (defScope s_is_closed) .none kV9 dc9 pm9 an9 cd9 ct9), sl9⟩) (c9 : PySem.W.codeIn K cd9 "is_closed" = true) (k9 : PySem.W.keepIn K (.ref f9) = true)
    (a10 : PySem.W.nsIn K mainGlobals "widened" = some (some (.ref f10))) (l10 : K.lookup f10 = some ⟨oc10, od10, .func (PySem.W.fnOf "widened" "widened" (defArgs s_widened) (defBody s_widened) (defScope s_widened) .none kV10 dc10 pm10 an10 cd10 ct10), sl10⟩) (c10 : PySem.W.codeIn K cd10 "widened" = true) (k10 : PySem.W.keepIn K (.ref f10) = true)
    (a11 : PySem.W.nsIn K mainGlobals "rank_of_wide" = some (some (.ref f11))) (l11 : K.lookup f11 = some ⟨oc11, od11, .func (PySem.W.fnOf "rank_of_wide" "rank_of_wide" (defArgs s_rank_of_wide) (defBody s_rank_of_wide) (defScope s_rank_of_wide) .none kV11 dc11 pm11 an11 cd11 ct11), sl11⟩) (c11 : PySem.W.codeIn K cd11 "rank_of_wide" = true) (k11 : PySem.W.keepIn K (.ref f11) = true)
    (a12 : PySem.W.nsIn K mainGlobals "explore" = some (some (.ref f12))) (l12 : K.lookup f12 = some ⟨oc12, od12, .func (PySem.W.fnOf "explore" "explore" (defArgs s_explore) (defBody s_explore) (defScope s_explore) .none kV12 dc12 pm12 an12 cd12 ct12), sl12⟩) (c12 : PySem.W.codeIn K cd12 "explore" = true) (k12 : PySem.W.keepIn K (.ref f12) = true)
    (a13 : PySem.W.nsIn K mainGlobals "_law_cell" = some (some (.ref f13))) (l13 : K.lookup f13 = some ⟨oc13, od13, .func (PySem.W.fnOf "_law_cell" "_law_cell" (defArgs s_law_cell) (defBody s_law_cell) (defScope s_law_cell) .none kV13 dc13 pm13 an13 cd13 ct13), sl13⟩) (c13 : PySem.W.codeIn K cd13 "_law_cell" = true) (k13 : PySem.W.keepIn K (.ref f13) = true)
    (a14 : PySem.W.nsIn K mainGlobals "_law_digits" = some (some (.ref f14))) (l14 : K.lookup f14 = some ⟨oc14, od14, .func (PySem.W.fnOf "_law_digits" "_law_digits" (defArgs s_law_digits) (defBody s_law_digits) (defScope s_law_digits) .none kV14 dc14 pm14 an14 cd14 ct14), sl14⟩) (c14 : PySem.W.codeIn K cd14 "_law_digits" = true) (k14 : PySem.W.keepIn K (.ref f14) = true)
    (a15 : PySem.W.nsIn K mainGlobals "_law_machine" = some (some (.ref f15))) (l15 : K.lookup f15 = some ⟨oc15, od15, .func (PySem.W.fnOf "_law_machine" "_law_machine" (defArgs s_law_machine) (defBody s_law_machine) (defScope s_law_machine) .none kV15 dc15 pm15 an15 cd15 ct15), sl15⟩) (c15 : PySem.W.codeIn K cd15 "_law_machine" = true) (k15 : PySem.W.keepIn K (.ref f15) = true)
    (a16 : PySem.W.nsIn K mainGlobals "_law_wide_covers" = some (some (.ref f16))) (l16 : K.lookup f16 = some ⟨oc16, od16, .func (PySem.W.fnOf "_law_wide_covers" "_law_wide_covers" (defArgs s_law_wide_covers) (defBody s_law_wide_covers) (defScope s_law_wide_covers) .none kV16 dc16 pm16 an16 cd16 ct16), sl16⟩) (c16 : PySem.W.codeIn K cd16 "_law_wide_covers" = true) (k16 : PySem.W.keepIn K (.ref f16) = true)
    (a17 : PySem.W.nsIn K mainGlobals "_law_after" = some (some (.ref f17))) (l17 : K.lookup f17 = some ⟨oc17, od17, .func (PySem.W.fnOf "_law_after" "_law_after" (defArgs s_law_after) (defBody s_law_after) (defScope s_law_after) .none kV17 dc17 pm17 an17 cd17 ct17), sl17⟩) (c17 : PySem.W.codeIn K cd17 "_law_after" = true) (k17 : PySem.W.keepIn K (.ref f17) = true)
    (a18 : PySem.W.nsIn K mainGlobals "_law_start" = some (some (.ref f18))) (l18 : K.lookup f18 = some ⟨oc18, od18, .func (PySem.W.fnOf "_law_start" "_law_start" (defArgs s_law_start) (defBody s_law_start) (defScope s_law_start) .none kV18 dc18 pm18 an18 cd18 ct18), sl18⟩) (c18 : PySem.W.codeIn K cd18 "_law_start" = true) (k18 : PySem.W.keepIn K (.ref f18) = true)
    (a19 : PySem.W.nsIn K mainGlobals "_law_wide_after" = some (some (.ref f19))) (l19 : K.lookup f19 = some ⟨oc19, od19, .func (PySem.W.fnOf "_law_wide_after" "_law_wide_after" (defArgs s_law_wide_after) (defBody s_law_wide_after) (defScope s_law_wide_after) .none kV19 dc19 pm19 an19 cd19 ct19), sl19⟩) (c19 : PySem.W.codeIn K cd19 "_law_wide_after" = true) (k19 : PySem.W.keepIn K (.ref f19) = true)
    (a20 : PySem.W.nsIn K mainGlobals "_law_closed" = some (some (.ref f20))) (l20 : K.lookup f20 = some ⟨oc20, od20, .func (PySem.W.fnOf "_law_closed" "_law_closed" (defArgs s_law_closed) (defBody s_law_closed) (defScope s_law_closed) .none kV20 dc20 pm20 an20 cd20 ct20), sl20⟩) (c20 : PySem.W.codeIn K cd20 "_law_closed" = true) (k20 : PySem.W.keepIn K (.ref f20) = true)
    (a21 : PySem.W.nsIn K mainGlobals "_law_covers" = some (some (.ref f21))) (l21 : K.lookup f21 = some ⟨oc21, od21, .func (PySem.W.fnOf "_law_covers" "_law_covers" (defArgs s_law_covers) (defBody s_law_covers) (defScope s_law_covers) .none kV21 dc21 pm21 an21 cd21 ct21), sl21⟩) (c21 : PySem.W.codeIn K cd21 "_law_covers" = true) (k21 : PySem.W.keepIn K (.ref f21) = true)
    (a22 : PySem.W.nsIn K mainGlobals "_law_some" = some (some (.ref f22))) (l22 : K.lookup f22 = some ⟨oc22, od22, .func (PySem.W.fnOf "_law_some" "_law_some" (defArgs s_law_some) (defBody s_law_some) (defScope s_law_some) .none kV22 dc22 pm22 an22 cd22 ct22), sl22⟩) (c22 : PySem.W.codeIn K cd22 "_law_some" = true) (k22 : PySem.W.keepIn K (.ref f22) = true)
    (a23 : PySem.W.nsIn K mainGlobals "law" = some (some (.ref f23))) (l23 : K.lookup f23 = some ⟨oc23, od23, .func (PySem.W.fnOf "law" "law" (defArgs s_law) (defBody s_law) (defScope s_law) .none kV23 dc23 pm23 an23 cd23 ct23), sl23⟩) (c23 : PySem.W.codeIn K cd23 "law" = true) (k23 : PySem.W.keepIn K (.ref f23) = true)
    (tg_deque : PySem.W.nsIn K mainGlobals "deque" = some (some (.type "collections.deque")))
    {Q0 m0 m1 m2 m3 m4 : Addr} {odm0 anm0 odm1 anm1 odm2 anm2 odm3 anm3 odm4 anm4 : Option Addr} {slm0 slm1 slm2 slm3 slm4 : Array (Option Value)} {ocm0 kVm0 dcm0 pmm0 cdm0 ctm0 ocm1 kVm1 dcm1 pmm1 cdm1 ctm1 ocm2 kVm2 dcm2 pmm2 cdm2 ctm2 ocm3 kVm3 dcm3 pmm3 cdm3 ctm3 ocm4 kVm4 dcm4 pmm4 cdm4 ctm4 : Value}
    (qg0 : PySem.W.nsIn K mainGlobals "Explorer" = some (some (.ref Q0))) (qp0 : PySem.W.plainGet K Q0 Str.empty = true) (qh0 : PySem.W.hasDictIn K Q0 = true) (qo0 : PySem.W.plainOver K Q0 = true) (qs0 : PySem.W.findIn K (.ref Q0) "__setattr__" = some (some (.builtin "object.__setattr__"))) (qm0 : PySem.W.makesIn K Q0 = true) (qk0 : PySem.W.keepIn K (.ref Q0) = true)
    (qa0_explored : PySem.W.findIn K (.ref Q0) "explored" = some none) (qa0_parents : PySem.W.findIn K (.ref Q0) "parents" = some none) (qa0_by_state : PySem.W.findIn K (.ref Q0) "by_state" = some none) (qa0_asked : PySem.W.findIn K (.ref Q0) "asked" = some none)
    (fim0 : PySem.W.findIn K (.ref Q0) "__init__" = some (some (.ref m0))) (ism0 : PySem.W.isFn K (.ref m0) = true) (lom0 : K.lookup m0 = some ⟨ocm0, odm0, .func (PySem.W.fnOf "__init__" "Explorer.__init__" (defArgs s_Explorer_init) (defBody s_Explorer_init) (defScope s_Explorer_init) .none kVm0 dcm0 pmm0 anm0 cdm0 ctm0), slm0⟩) (com0 : PySem.W.codeIn K cdm0 "Explorer.__init__" = true) (kem0 : PySem.W.keepIn K (.ref m0) = true)
    (fim1 : PySem.W.findIn K (.ref Q0) "knows" = some (some (.ref m1))) (ism1 : PySem.W.isFn K (.ref m1) = true) (lom1 : K.lookup m1 = some ⟨ocm1, odm1, .func (PySem.W.fnOf "knows" "Explorer.knows" (defArgs s_Explorer_knows) (defBody s_Explorer_knows) (defScope s_Explorer_knows) .none kVm1 dcm1 pmm1 anm1 cdm1 ctm1), slm1⟩) (com1 : PySem.W.codeIn K cdm1 "Explorer.knows" = true) (kem1 : PySem.W.keepIn K (.ref m1) = true)
    (fim2 : PySem.W.findIn K (.ref Q0) "enter" = some (some (.ref m2))) (ism2 : PySem.W.isFn K (.ref m2) = true) (lom2 : K.lookup m2 = some ⟨ocm2, odm2, .func (PySem.W.fnOf "enter" "Explorer.enter" (defArgs s_Explorer_enter) (defBody s_Explorer_enter) (defScope s_Explorer_enter) .none kVm2 dcm2 pmm2 anm2 cdm2 ctm2), slm2⟩) (com2 : PySem.W.codeIn K cdm2 "Explorer.enter" = true) (kem2 : PySem.W.keepIn K (.ref m2) = true)
    (fim3 : PySem.W.findIn K (.ref Q0) "ancestors" = some (some (.ref m3))) (ism3 : PySem.W.isFn K (.ref m3) = true) (lom3 : K.lookup m3 = some ⟨ocm3, odm3, .func (PySem.W.fnOf "ancestors" "Explorer.ancestors" (defArgs s_Explorer_ancestors) (defBody s_Explorer_ancestors) (defScope s_Explorer_ancestors) .none kVm3 dcm3 pmm3 anm3 cdm3 ctm3), slm3⟩) (com3 : PySem.W.codeIn K cdm3 "Explorer.ancestors" = true) (kem3 : PySem.W.keepIn K (.ref m3) = true)
    (fim4 : PySem.W.findIn K (.ref Q0) "cover" = some (some (.ref m4))) (ism4 : PySem.W.isFn K (.ref m4) = true) (lom4 : K.lookup m4 = some ⟨ocm4, odm4, .func (PySem.W.fnOf "cover" "Explorer.cover" (defArgs s_Explorer_cover) (defBody s_Explorer_cover) (defScope s_Explorer_cover) .none kVm4 dcm4 pmm4 anm4 cdm4 ctm4), slm4⟩) (com4 : PySem.W.codeIn K cdm4 "Explorer.cover" = true) (kem4 : PySem.W.keepIn K (.ref m4) = true)
    (z_len : PySem.W.nsIn K mainGlobals "len" = some none) (z_int : PySem.W.nsIn K mainGlobals "int" = some none) (z_abs : PySem.W.nsIn K mainGlobals "abs" = some none) (z_range : PySem.W.nsIn K mainGlobals "range" = some none) (z_min : PySem.W.nsIn K mainGlobals "min" = some none) (z_str : PySem.W.nsIn K mainGlobals "str" = some none) (z_isinstance : PySem.W.nsIn K mainGlobals "isinstance" = some none) (z_bool : PySem.W.nsIn K mainGlobals "bool" = some none) (z_dict : PySem.W.nsIn K mainGlobals "dict" = some none) (z_sum : PySem.W.nsIn K mainGlobals "sum" = some none) (z_list : PySem.W.nsIn K mainGlobals "list" = some none) (z_tuple : PySem.W.nsIn K mainGlobals "tuple" = some none) (z_repr : PySem.W.nsIn K mainGlobals "repr" = some none) (z_sorted : PySem.W.nsIn K mainGlobals "sorted" = some none) (z_enumerate : PySem.W.nsIn K mainGlobals "enumerate" = some none) (z_zip : PySem.W.nsIn K mainGlobals "zip" = some none) (z_all : PySem.W.nsIn K mainGlobals "all" = some none) (z_max : PySem.W.nsIn K mainGlobals "max" = some none) (z_set : PySem.W.nsIn K mainGlobals "set" = some none) (z_ValueError : PySem.W.nsIn K mainGlobals "ValueError" = some none) (z_any : PySem.W.nsIn K mainGlobals "any" = some none) (z_reversed : PySem.W.nsIn K mainGlobals "reversed" = some none) :
    ∀ base : Heap, K.In base → base.Ns mainGlobals mg → TopOk l.prog w K mg base fa (spLaw K) := by
  have e := hfa.symm.trans (PySem.W.mg_of X G a23)
  cases e
  have F1 := fun_mk (st := s_start_with) l1 c1 k1
  have F2 := fun_mk (st := s_wide_covers) l2 c2 k2
  have F3 := fun_mk (st := s_is_covered) l3 c3 k3
  have F4 := fun_mk (st := s_beginning) l4 c4 k4
  have F5 := fun_mk (st := s_can_take_wide) l5 c5 k5
  have F6 := fun_mk (st := s_taken_wide) l6 c6 k6
  have F7 := fun_mk (st := s_successors) l7 c7 k7
  have F8 := fun_mk (st := s_refuse_shifts) l8 c8 k8
  have F9 := fun_mk (st := s_is_closed) l9 c9 k9
  have F10 := fun_mk (st := s_widened) l10 c10 k10
  have F11 := fun_mk (st := s_rank_of_wide) l11 c11 k11
  have F12 := fun_mk (st := s_explore) l12 c12 k12
  have F13 := fun_mk (st := s_law_cell) l13 c13 k13
  have F14 := fun_mk (st := s_law_digits) l14 c14 k14
  have F15 := fun_mk (st := s_law_machine) l15 c15 k15
  have F16 := fun_mk (st := s_law_wide_covers) l16 c16 k16
  have F17 := fun_mk (st := s_law_after) l17 c17 k17
  have F18 := fun_mk (st := s_law_start) l18 c18 k18
  have F19 := fun_mk (st := s_law_wide_after) l19 c19 k19
  have F20 := fun_mk (st := s_law_closed) l20 c20 k20
  have F21 := fun_mk (st := s_law_covers) l21 c21 k21
  have F22 := fun_mk (st := s_law_some) l22 c22 k22
  have F23 := fun_mk (st := s_law) l23 c23 k23
  have B : Bt mg := { len := PySem.W.mg_none_of X G z_len, int := PySem.W.mg_none_of X G z_int, abs := PySem.W.mg_none_of X G z_abs, range := PySem.W.mg_none_of X G z_range, min := PySem.W.mg_none_of X G z_min, str := PySem.W.mg_none_of X G z_str, isinstance := PySem.W.mg_none_of X G z_isinstance, bool := PySem.W.mg_none_of X G z_bool, dict := PySem.W.mg_none_of X G z_dict, sum := PySem.W.mg_none_of X G z_sum, list := PySem.W.mg_none_of X G z_list, tuple := PySem.W.mg_none_of X G z_tuple, repr := PySem.W.mg_none_of X G z_repr, sorted := PySem.W.mg_none_of X G z_sorted, enumerate := PySem.W.mg_none_of X G z_enumerate, zip := PySem.W.mg_none_of X G z_zip, all := PySem.W.mg_none_of X G z_all, max := PySem.W.mg_none_of X G z_max, set := PySem.W.mg_none_of X G z_set, ValueError := PySem.W.mg_none_of X G z_ValueError, any := PySem.W.mg_none_of X G z_any, reversed := PySem.W.mg_none_of X G z_reversed }
  have mT_deque := PySem.W.mg_of X G tg_deque
  have T0 : TxtE K mg Q0 := ⟨⟨qp0, qh0, qo0, qs0⟩, qa0_explored, qa0_parents, qa0_by_state, qa0_asked, PySem.W.mg_of X G qg0⟩
  have F_m0 := fun_mk (st := s_Explorer_init) lom0 com0 kem0
  have F_m1 := fun_mk (st := s_Explorer_knows) lom1 com1 kem1
  have F_m2 := fun_mk (st := s_Explorer_enter) lom2 com2 kem2
  have F_m3 := fun_mk (st := s_Explorer_ancestors) lom3 com3 kem3
  have F_m4 := fun_mk (st := s_Explorer_cover) lom4 com4 kem4
  intro base _ _
  have D_start_with := fd_start_with (P := l.prog) (w := w) (base := base) F1 (PySem.W.mg_of X G a1) B
  have D_wide_covers := fd_wide_covers (P := l.prog) (w := w) (base := base) F2 (PySem.W.mg_of X G a2) B
  have D_is_covered := fd_is_covered (P := l.prog) (w := w) (base := base) F3 (PySem.W.mg_of X G a3) D_wide_covers
  have D_beginning := fd_beginning (P := l.prog) (w := w) (base := base) F4 (PySem.W.mg_of X G a4) D_start_with
  have D_can_take_wide := fd_can_take_wide (P := l.prog) (w := w) (base := base) F5 (PySem.W.mg_of X G a5) B
  have D_taken_wide := fd_taken_wide (P := l.prog) (w := w) (base := base) F6 (PySem.W.mg_of X G a6) B
  have D_successors := fd_successors (P := l.prog) (w := w) (base := base) F7 (PySem.W.mg_of X G a7) D_can_take_wide D_taken_wide
  have D_succN := fd_successorsN (P := l.prog) (w := w) (mg := mg) (base := base) F7 (PySem.W.mg_of X G a7) D_can_take_wide D_taken_wide
  have D_refuse_shifts := fd_refuse_shifts (P := l.prog) (w := w) (base := base) F8 (PySem.W.mg_of X G a8) 
  have D_is_closed := fd_is_closed (P := l.prog) (w := w) (base := base) F9 (PySem.W.mg_of X G a9) D_refuse_shifts D_is_covered D_beginning D_successors
  have D_widened := fd_widened (P := l.prog) (w := w) (base := base) F10 (PySem.W.mg_of X G a10) B
  have D_rank_of_wide := fd_rank_of_wide (P := l.prog) (w := w) (base := base) F11 (PySem.W.mg_of X G a11) 
  have M_ancestors := md_ancestors (P := l.prog) (w := w) (mg := mg) (base := base) F_m3 T0 ⟨fim3, ism3, kem3⟩
  have M_knows := md_knows (P := l.prog) (w := w) (mg := mg) (base := base) F_m1 T0 ⟨fim1, ism1, kem1⟩ B D_is_covered
  have M_enter := md_enter (P := l.prog) (w := w) (mg := mg) (base := base) F_m2 T0 ⟨fim2, ism2, kem2⟩ M_ancestors D_wide_covers D_widened
  have M_cover := md_cover (P := l.prog) (w := w) (mg := mg) (base := base) F_m4 T0 ⟨fim4, ism4, kem4⟩ B D_is_covered D_rank_of_wide
  have I_Explorer := mkr_Explorer (P := l.prog) (w := w) (mg := mg) (base := base) F_m0 T0 ⟨qm0, fim0, ism0, qk0⟩
  have D_explore := fd_explore (P := l.prog) (w := w) (base := base) F12 (PySem.W.mg_of X G a12) B T0 mT_deque D_refuse_shifts I_Explorer D_beginning M_knows M_enter D_succN M_cover
  have D_law_cell := fd_law_cell (P := l.prog) (w := w) (base := base) F13 (PySem.W.mg_of X G a13) B
  have D_law_digits := fd_law_digits (P := l.prog) (w := w) (base := base) F14 (PySem.W.mg_of X G a14) B
  have D_law_machine := fd_law_machine (P := l.prog) (w := w) (base := base) F15 (PySem.W.mg_of X G a15) B D_law_digits
  have D_law_wide_covers := fd_law_wide_covers (P := l.prog) (w := w) (base := base) F16 (PySem.W.mg_of X G a16) B
  have D_law_after := fd_law_after (P := l.prog) (w := w) (base := base) F17 (PySem.W.mg_of X G a17) B
  have D_law_start := fd_law_start (P := l.prog) (w := w) (base := base) F18 (PySem.W.mg_of X G a18) B
  have D_law_wide_after := fd_law_wide_after (P := l.prog) (w := w) (base := base) F19 (PySem.W.mg_of X G a19) B
  have D_law_closed := fd_law_closed (P := l.prog) (w := w) (base := base) F20 (PySem.W.mg_of X G a20) B D_law_wide_after D_law_wide_covers
  have D_law_covers := fd_law_covers (P := l.prog) (w := w) (base := base) F21 (PySem.W.mg_of X G a21) B
  have D_law_some := fd_law_some (P := l.prog) (w := w) (base := base) F22 (PySem.W.mg_of X G a22) B D_law_digits
  exact fd_law F23 (PySem.W.mg_of X G a23) (fun s v => .of_eq rfl) B D_law_cell D_law_digits D_law_machine D_law_wide_covers D_law_closed D_is_closed D_law_some D_law_start D_law_covers D_law_after D_explore
end My
open PySem PySem.W PyProof.Rows
set_option maxRecDepth 100000 in
set_option maxHeartbeats 0 in
theorem PySem.Challenge.cw_legion_k54_whole_cover_is_never_left_holds : PySem.Challenge.rw_legion_k54_whole_cover_is_never_left.Holds := by
  w_on; o_law; k_head; (case hw => w_witness2)
  k_fill
  refine My.walk_top (l := PySem.Challenge.rw_legion_k54_whole_cover_is_never_left) (n := 63) (sp := fun w => My.spLaw _) rfl (by decide) rfl (fun w h Y => PySem.W.kIn_of Y) ?F (fun _ _ a ns hl hS => ⟨a, ns, rfl, hS, hl, fun _ => rfl⟩)
  case F =>
    intro w mg fa h KX G hmg
    refine' My.all_mk KX G hmg ?a1 ?l1 ?c1 ?k1 ?a2 ?l2 ?c2 ?k2 ?a3 ?l3 ?c3 ?k3 ?a4 ?l4 ?c4 ?k4 ?a5 ?l5 ?c5 ?k5 ?a6 ?l6 ?c6 ?k6 ?a7 ?l7 ?c7 ?k7 ?a8 ?l8 ?c8 ?k8 ?a9 ?l9 ?c9 ?k9 ?a10 ?l10 ?c10 ?k10 ?a11 ?l11 ?c11 ?k11 ?a12 ?l12 ?c12 ?k12 ?a13 ?l13 ?c13 ?k13 ?a14 ?l14 ?c14 ?k14 ?a15 ?l15 ?c15 ?k15 ?a16 ?l16 ?c16 ?k16 ?a17 ?l17 ?c17 ?k17 ?a18 ?l18 ?c18 ?k18 ?a19 ?l19 ?c19 ?k19 ?a20 ?l20 ?c20 ?k20 ?a21 ?l21 ?c21 ?k21 ?a22 ?l22 ?c22 ?k22 ?a23 ?l23 ?c23 ?k23 ?tg_deque ?qg0 ?qp0 ?qh0 ?qo0 ?qs0 ?qm0 ?qk0 ?qa0_explored ?qa0_parents ?qa0_by_state ?qa0_asked ?fim0 ?ism0 ?lom0 ?com0 ?kem0 ?fim1 ?ism1 ?lom1 ?com1 ?kem1 ?fim2 ?ism2 ?lom2 ?com2 ?kem2 ?fim3 ?ism3 ?lom3 ?com3 ?kem3 ?fim4 ?ism4 ?lom4 ?com4 ?kem4 ?z_len ?z_int ?z_abs ?z_range ?z_min ?z_str ?z_isinstance ?z_bool ?z_dict ?z_sum ?z_list ?z_tuple ?z_repr ?z_sorted ?z_enumerate ?z_zip ?z_all ?z_max ?z_set ?z_ValueError ?z_any ?z_reversed
    (case tg_deque => k_is)
    (case qg0 => k_is)
    (case qp0 => k_is)
    (case qh0 => k_is)
    (case qo0 => k_is)
    (case qs0 => k_is)
    (case qm0 => k_is)
    (case qk0 => k_is)
    (case qa0_explored => k_is)
    (case qa0_parents => k_is)
    (case qa0_by_state => k_is)
    (case qa0_asked => k_is)
    (case fim0 => k_is)
    (case ism0 => k_is)
    (case lom0 => k_is)
    (case com0 => k_is)
    (case kem0 => k_is)
    (case fim1 => k_is)
    (case ism1 => k_is)
    (case lom1 => k_is)
    (case com1 => k_is)
    (case kem1 => k_is)
    (case fim2 => k_is)
    (case ism2 => k_is)
    (case lom2 => k_is)
    (case com2 => k_is)
    (case kem2 => k_is)
    (case fim3 => k_is)
    (case ism3 => k_is)
    (case lom3 => k_is)
    (case com3 => k_is)
    (case kem3 => k_is)
    (case fim4 => k_is)
    (case ism4 => k_is)
    (case lom4 => k_is)
    (case com4 => k_is)
    (case kem4 => k_is)
    (case a1 => k_is); (case l1 => k_is); (case c1 => k_is); (case k1 => k_is)
    (case a2 => k_is); (case l2 => k_is); (case c2 => k_is); (case k2 => k_is)
    (case a3 => k_is); (case l3 => k_is); (case c3 => k_is); (case k3 => k_is)
    (case a4 => k_is); (case l4 => k_is); (case c4 => k_is); (case k4 => k_is)
    (case a5 => k_is); (case l5 => k_is); (case c5 => k_is); (case k5 => k_is)
    (case a6 => k_is); (case l6 => k_is); (case c6 => k_is); (case k6 => k_is)
    (case a7 => k_is); (case l7 => k_is); (case c7 => k_is); (case k7 => k_is)
    (case a8 => k_is); (case l8 => k_is); (case c8 => k_is); (case k8 => k_is)
    (case a9 => k_is); (case l9 => k_is); (case c9 => k_is); (case k9 => k_is)
    (case a10 => k_is); (case l10 => k_is); (case c10 => k_is); (case k10 => k_is)
    (case a11 => k_is); (case l11 => k_is); (case c11 => k_is); (case k11 => k_is)
    (case a12 => k_is); (case l12 => k_is); (case c12 => k_is); (case k12 => k_is)
    (case a13 => k_is); (case l13 => k_is); (case c13 => k_is); (case k13 => k_is)
    (case a14 => k_is); (case l14 => k_is); (case c14 => k_is); (case k14 => k_is)
    (case a15 => k_is); (case l15 => k_is); (case c15 => k_is); (case k15 => k_is)
    (case a16 => k_is); (case l16 => k_is); (case c16 => k_is); (case k16 => k_is)
    (case a17 => k_is); (case l17 => k_is); (case c17 => k_is); (case k17 => k_is)
    (case a18 => k_is); (case l18 => k_is); (case c18 => k_is); (case k18 => k_is)
    (case a19 => k_is); (case l19 => k_is); (case c19 => k_is); (case k19 => k_is)
    (case a20 => k_is); (case l20 => k_is); (case c20 => k_is); (case k20 => k_is)
    (case a21 => k_is); (case l21 => k_is); (case c21 => k_is); (case k21 => k_is)
    (case a22 => k_is); (case l22 => k_is); (case c22 => k_is); (case k22 => k_is)
    (case a23 => k_is); (case l23 => k_is); (case c23 => k_is); (case k23 => k_is)
    (case z_len => k_is); (case z_int => k_is); (case z_abs => k_is); (case z_range => k_is); (case z_min => k_is); (case z_str => k_is); (case z_isinstance => k_is); (case z_bool => k_is); (case z_dict => k_is); (case z_sum => k_is); (case z_list => k_is); (case z_tuple => k_is); (case z_repr => k_is); (case z_sorted => k_is); (case z_enumerate => k_is); (case z_zip => k_is); (case z_all => k_is); (case z_max => k_is); (case z_set => k_is); (case z_ValueError => k_is); (case z_any => k_is); (case z_reversed => k_is)
