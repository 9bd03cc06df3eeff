import PyProof.Rows.All
import Wide.All
import OpenK.AllK
import Wide.FinOn
import PyProof.Rows.SeqMore
import HandS.ForMost
import HandS.Exc
import HandS.TryOnly
import HandS.ExcOwn
import HandS.WordsExc
import HandS.IsInst
import HandS.Wide
import HandS.TupAny
import HandS.Flow
import HandS.FStr
import HandS.NoneIn
import HandS.SortKw
import HandS.Codes
import HandS.Steps
import HandS.DictComp
import HandS.WordsDict
import HandS.More
import HandS.Walk
import HandS.Star
import HandS.Deep
import HandS.ExcIs
import HandS.Zip
import HandS.GenList
import HandS.GenCall
import HandS.TryMany
import KE.SortData
import KE.KMinKey
import KE.KeyNested
import HandS.DictTup
import HandS.TupLen
import HandS.Defaults
import PySem.Challenge.RW_legion_k49_small_machines_are_decided
set_option Elab.async false
set_option linter.all false
set_option maxRecDepth 100000
namespace My
open PySem PySem.Spec PyProof.Rows L2
/-! ### lists that are read only, joined -/
def rCatS (K : PySem.W.Frag) : R2 := fun x y H Q => ∃ l b xs zs, x = .ref l ∧ y = .ref b ∧ SqL K H l xs ∧ SqL K H b zs ∧ xs.length + zs.length ≤ sizeLine ∧ ∀ p, H p = none → Q (.ref p) (upd H p (.lst (xs ++ zs)))
theorem op_catS {X : Cx} : OpR X (binaryOp .Add) (rCatS X.K) := by
  intro pins s σ H x y v u Q I rx ry h
  obtain ⟨l, b, xs, zs, rfl, rfl, hH, hB, hz, q⟩ := h
  cases rx
  cases ry
  obtain ⟨its, r, pl, z⟩ := I.list hH
  obtain ⟨its2, r2, pl2, z2⟩ := I.list hB
  have hl := r.length
  have hl2 := r2.length
  obtain ⟨⟨cls, dd, data, sl⟩, ho, hc, n, hd⟩ := pl.isList
  obtain ⟨⟨cls2, dd2, data2, sl2⟩, ho2, hc2, n2, hd2⟩ := pl2.isList
  simp only at hc hd hc2 hd2
  subst hc hd hc2 hd2
  have ea : its.toArray ++ its2.toArray = (its ++ its2).toArray := by simp
  refine concat_meets ⟨_, ho, rfl⟩ ⟨_, ho2, rfl⟩ noFill_list_add seq_list_add PySem.F.slot_list_add PySem.F.entry_list_add (PySem.F.args_list_add_2 _ _) (list_addW l b its.toArray its2.toArray n n2 dd dd2 sl sl2 (by rw [List.size_toArray, List.size_toArray]; omega)) ⟨ho, ho2, ?_⟩
  rw [ea]
  exact ⟨.ref _, _, I.lnew (t' := s.toks) (r.append r2) (by rw [List.length_append]; omega), rfl, q _ I.fresh⟩
/-- is True, is False, of anything -/
def rIsBl : R2 := fun x y H Q => ∃ b, y = .bl b ∧ Q (.bl (decide (x = .bl b))) H
theorem op_isBv {X : Cx} : OpR X (compareOp .Is) rIsBl := by
  intro pins s σ H x y v u Q I rx ry h
  obtain ⟨b, rfl, q⟩ := h
  cases (show u = Value.bool b from ry)
  have go : ∀ v : Value, plainIs v (.bool b) = true → (v == Value.bool b) = decide (x = .bl b) → wpAny (model X.prog X.w) X.A (compareOp .Is v (.bool b)) (EP X pins σ Q) X.xe s := fun v hp e =>
    wpAny_is_plain hp (by rw [e]; exact ⟨.bl _, H, I, rfl, q⟩)
  cases x with
  | bl c =>
    cases (show v = Value.bool c from rx)
    refine go _ rfl ?_
    cases b <;> cases c <;> rfl
  | non => cases (show v = Value.none from rx); exact go _ rfl rfl
  | int i => obtain ⟨t, rfl⟩ := (show ∃ t, v = Value.int i t from rx); exact go _ rfl rfl
  | str i => obtain ⟨t, rfl⟩ := (show ∃ t, v = Value.str i t from rx); exact go _ rfl rfl
  | byt i => obtain ⟨t, rfl⟩ := (show ∃ t, v = Value.bytes i t from rx); exact go _ rfl rfl
  | flt i => obtain ⟨t, rfl⟩ := (show ∃ t, v = Value.float i t from rx); exact go _ rfl rfl
  | ref a => cases (show v = Value.ref a from rx); exact go _ rfl rfl
  | ty a => cases (show v = Value.type a from rx); exact go _ rfl rfl
/-! ### rules with the written part named -/
section
variable {X : Cx} (K : PySem.W.Frag)
theorem ixL (h : X.K = K := by rfl) : IxR X (rIxL K) := h ▸ ix_list
theorem ixT (h : X.K = K := by rfl) : IxR X (rIxT K) := h ▸ ix_tup
theorem ixQ (h : X.K = K := by rfl) : IxR X (rIx K) := h ▸ ix_seq
theorem opIn (h : X.K = K := by rfl) : OpR X (compareOp .In) (rIn K false) := h ▸ op_in_seq
theorem opNotIn (h : X.K = K := by rfl) : OpR X (compareOp .NotIn) (rIn K true) := h ▸ op_notIn_seq
theorem opCat (h : X.K = K := by rfl) : OpR X (binaryOp .Add) (rCatS K) := h ▸ op_catS
theorem opCatT (h : X.K = K := by rfl) : OpR X (binaryOp .Add) (rCatA K) := h ▸ op_catA
theorem opEqD (hu : X.A.units + 64 < cLine) (h : X.K = K := by rfl) : OpR X (compareOp .Eq) (rEqD K) := h ▸ op_eqD hu
theorem opNeD (hu : X.A.units + 64 < cLine) (h : X.K = K := by rfl) : OpR X (compareOp .NotEq) (rNeD K) := h ▸ op_neD hu
theorem slL (h : X.K = K := by rfl) : SlR X (rSlL K) := h ▸ sl_list
theorem slT (h : X.K = K := by rfl) : SlR X (rSlT K) := h ▸ sl_tup
def rLenQ (K : PySem.W.Frag) : List V → Hp → VK → Prop := fun xs H Q => ∃ p ys, xs = [.ref p] ∧ (SqL K H p ys ∨ SqT K H p ys) ∧ Q (.int ys.length) H
theorem cLen (h : X.K = K := by rfl) : CallR X (.builtin "len") (rLenQ K) := h ▸ call_len_seq
def rListQ (K : PySem.W.Frag) : List V → Hp → VK → Prop := fun xs H Q => ∃ p ys, xs = [.ref p] ∧ (SqL K H p ys ∨ SqT K H p ys) ∧ ∀ l, H l = none → Q (.ref l) (upd H l (.lst ys))
theorem cList (h : X.K = K := by rfl) : CallR X (.type "list") (rListQ K) := h ▸ call_list_of
theorem cSum (hc : X.calm = true) (h : X.K = K := by rfl) : CallR X (.builtin "sum") (rSum K) := h ▸ cr_sum hc
theorem cAll (hc : X.calm = true) (h : X.K = K := by rfl) : CallR X (.builtin "all") (rAll K) := h ▸ cr_all hc
theorem cAny (hc : X.calm = true) (h : X.K = K := by rfl) : CallR X (.builtin "any") (rAny K) := h ▸ cr_any hc
theorem cIsi (h : X.K = K := by rfl) : CallR X (.builtin "isinstance") (rIsi K) := h ▸ call_isi
theorem peBm {T name id : String} {r : V → List V → Hp → VK → Prop} {to : TE} {t : TA} {o e : Expr} {es : List Expr} {apos cpos : Pos} (pa : PlainAttrs T) (slot : Slot T name id) (hty : typeOf (.builtin id) = pure (.type "method_descriptor")) (hm : MtR X id r) (ho : PE X o to) (ha : PA X (e :: es) t) (h : X.K = K := by rfl)
    (hbase : attributeBase o name X.env (eval o X.env) = eval o X.env := by rfl)
    (hfew : ((backTo cpos (starEach (e :: es) X.env)).all (fun x => !x.1) && (backToKw cpos (keywordEach [] X.env)).all (fun x => x.1.isSome)
      && decide ((e :: es).length + ([] : List Keyword).length + (if ([] : List Keyword).isEmpty then 0 else 1) < 30)) = true := by rfl)
    (hline : (apos.endLine == cpos.line) = true := by rfl) (hs : starEach (e :: es) X.env = (false, eval e X.env) :: starEach es X.env := by rfl) (hplain : (backTo cpos (starEach es X.env)).any (·.1) = false := by rfl) :
    PE X (.Call (.Attribute o name apos) (e :: es) [] cpos) (tBM K T r to t) := h ▸ pe_bm pa slot hty hm ho ha hbase hfew hline hs hplain
def tTruK (K : PySem.W.Frag) (ta : TE) : TT := fun σ H Q => ta σ H fun x H' => ∃ k, TruV K x H' k ∧ Q k H'
theorem ptTru {a : Expr} {ta : TE} (ha : PE X a ta) (he : ∀ whole, isTrue a X.env whole = (do let v ← whole; standAt a.pos; holding [v] (truthy v))) (h : X.K = K := by rfl) : PT X a (tTruK K ta) := h ▸ pt_truth ha he
theorem piL {tg l : Expr} {tl : TE} (hl : PE X l tl) (h : X.K = K := by rfl) : PI X tg l (iList K tl) := h ▸ pi_list hl
theorem piT {tg l : Expr} {tl : TE} (hl : PE X l tl) (h : X.K = K := by rfl) : PI X tg l (iTup K tl) := h ▸ pi_tup hl
end
/-! ### a def that is known -/
structure Fd (P : Program) (w : World) (K : PySem.W.Frag) (mg : Str → Option Value) (base : Heap) (x : Str) (ps : List Str) (k : Nat) (sp : Sp) : Prop where
  ex : ∃ (f : Addr) (fd : FuncData), FnOk P w K mg base CX0 k f fd ps sp ∧ mg x = some (.ref f) ∧ PySem.W.keepIn K (.ref f) = true ∧ Binds K fd ps []
theorem pe_fn {X : Cx} {x : Str} {ps : List Str} {k : Nat} {sp : Sp} {e : Expr} {es : List Expr} {t : TA} {p pos : Pos} (F : Fd X.prog X.w X.K X.mg X.base x ps k sp) (hr : Room k X.A) (hg : Gl X x) (ha : PA X (e :: es) t)
    (hdb : (x == ("__debug__" : Str)) = false := by decide) (he : starEach (e :: es) X.env = (false, eval e X.env) :: starEach es X.env := by rfl) (hpl : (backTo pos (starEach es X.env)).any (·.1) = false := by rfl) :
    PE X (.Call (.Name x p) (e :: es) [] pos) (tCall sp [] E0 t) := by
  obtain ⟨f, fd, G, m, kp, b⟩ := F.ex
  exact pe_call G hr hg m kp b .nil pass0 ha hdb he hpl
/-- the built-ins stand as they were -/
structure Bt (mg : Str → Option Value) : Prop where
  len : mg "len" = none
  int : mg "int" = none
  abs : mg "abs" = none
  range : mg "range" = none
  min : mg "min" = none
  str : mg "str" = none
  isinstance : mg "isinstance" = none
  bool : mg "bool" = none
  sum : mg "sum" = none
  list : mg "list" = none
  tuple : mg "tuple" = none
  repr : mg "repr" = none
  sorted : mg "sorted" = none
  enumerate : mg "enumerate" = none
  zip : mg "zip" = none
  all : mg "all" = none
  dict : mg "dict" = none
  max : mg "max" = none
  set : mg "set" = none
  ValueError : mg "ValueError" = none
  any : mg "any" = none
  reversed : mg "reversed" = none
/-! ### heaps -/
theorem same_new {H : Hp} {p : Addr} {o : HO} (h : H p = none) : Same H (upd H p o) := fun b x e => by
  rw [upd_ne (ne_of_none e h)]
  exact e
/-- an object that H does not know may change -/
theorem Same.mut {H H' : Hp} {p : Addr} {o : HO} (e : Same H H') (h : H p = none) : Same H (upd H' p o) := fun a u ha => by
  rw [upd_ne (ne_of_none ha h)]
  exact e a u ha
theorem sq {K : PySem.W.Frag} {H : Hp} {a : Addr} {xs : List V} (h : H a = some (.lst xs)) : SqL K H a xs := .inl (.inl h)
theorem st {K : PySem.W.Frag} {H : Hp} {a : Addr} {xs : List V} (h : H a = some (.tup xs)) : SqT K H a xs := .inl (.inl h)
theorem sz {n : Nat} (h : n ≤ 100000) : n ≤ sizeLine := Nat.le_trans h (by decide)
theorem szl {n : Nat} (h : n < 100000) : n < sizeLine := Nat.lt_of_lt_of_le h (by decide)
theorem Same.seqT {K : PySem.W.Frag} {H H' : Hp} {a : Addr} {xs : List V} (e : Same H H') (h : SqT K H a xs) : SqT K H' a xs := by
  rcases h with (h | ⟨o, h⟩) | h
  · exact .inl (.inl (e _ _ h))
  · exact .inl (.inr ⟨o, e _ _ h⟩)
  · exact .inr h
/-! ### numbers drawn below limits -/
def DOk : List Int → List Int → Prop
  | [], [] => True
  | d :: ds, m :: ms => (0 ≤ d ∧ d < m) ∧ DOk ds ms
  | _, _ => False
theorem DOk.snoc : ∀ {ds ms : List Int} {d m : Int}, DOk ds ms → 0 ≤ d → d < m → DOk (ds ++ [d]) (ms ++ [m])
  | [], [], _, _, _, h0, h1 => ⟨⟨h0, h1⟩, trivial⟩
  | [], _ :: _, _, _, h, _, _ => h.elim
  | _ :: _, [], _, _, h, _, _ => h.elim
  | _ :: _, _ :: _, _, _, h, h0, h1 => ⟨h.1, DOk.snoc h.2 h0 h1⟩
theorem DOk.len : ∀ {ds ms : List Int}, DOk ds ms → ds.length = ms.length
  | [], [], _ => rfl
  | [], _ :: _, h => h.elim
  | _ :: _, [], h => h.elim
  | _ :: _, _ :: _, h => by rw [List.length_cons, List.length_cons, DOk.len h.2]
theorem DOk.at : ∀ {ds ms : List Int} {i : Nat} {m : Int}, DOk ds ms → ms[i]? = some m → ∃ d, ds[i]? = some d ∧ 0 ≤ d ∧ d < m
  | [], [], _, _, _, e => by simp at e
  | [], _ :: _, _, _, h, _ => h.elim
  | _ :: _, [], _, _, h, _ => h.elim
  | d :: _, _ :: _, 0, m, h, e => ⟨d, rfl, h.1.1, by have := Option.some.inj e; rw [← this]; exact h.1.2⟩
  | _ :: ds, _ :: ms, i + 1, m, h, e => DOk.at (ds := ds) (ms := ms) (i := i) h.2 e
theorem DOk.cons {ds ms : List Int} {m : Int} (h : DOk ds (m :: ms)) : ∃ d r, ds = d :: r ∧ 0 ≤ d ∧ d < m ∧ DOk r ms := by
  cases ds with
  | nil => exact h.elim
  | cons d r => exact ⟨d, r, rfl, h.1.1, h.1.2, h.2⟩
theorem DOk.nil {ds : List Int} (h : DOk ds []) : ds = [] := by
  cases ds with
  | nil => rfl
  | cons d r => exact h.elim
theorem get_map {α : Type} {f : α → V} {xs : List α} {i : Nat} {x : α} (h : xs[i]? = some x) : (xs.map f)[i]? = some (f x) := by
  rw [List.getElem?_map, h]; rfl
theorem get_map_inv {α : Type} {f : α → V} {xs : List α} {i : Nat} {v : V} (h : (xs.map f)[i]? = some v) : ∃ x, xs[i]? = some x ∧ v = f x := by
  rw [List.getElem?_map] at h
  cases e : xs[i]? with
  | none => rw [e] at h; cases h
  | some x => rw [e] at h; exact ⟨x, rfl, (Option.some.inj h).symm⟩
theorem fmod_pos {a m : Int} (h : 0 < m) : 0 ≤ a.fmod m ∧ a.fmod m < m := ⟨Int.fmod_nonneg_of_pos a h, Int.fmod_lt_of_pos a h⟩
theorem take_snoc {α : Type} {xs : List α} {i : Nat} {x : α} (h : xs[i]? = some x) : xs.take (i + 1) = xs.take i ++ [x] := by
  rw [List.take_add_one, h]; rfl
end My
namespace My
open PySem PySem.Spec PyProof.Rows L2
def topS (i : Nat) : Stmt := PySem.Challenge.pw_legion_k49_small_machines_are_decided.main.body.getD i (.Pass ⟨0, 0, 0, 0⟩)
theorem atI_in {α : Type} {xs : List α} {i : Int} (h0 : 0 ≤ i) (h1 : i < xs.length) : ∃ v, atI xs i = some v ∧ v ∈ xs := by
  obtain ⟨n, rfl⟩ := Int.eq_ofNat_of_zero_le h0
  have hn : n < xs.length := by omega
  exact ⟨xs[n], atI_nat (List.getElem?_eq_getElem hn), List.getElem_mem hn⟩
theorem atI_map {α : Type} {f : α → V} {xs : List α} {i : Int} (h0 : 0 ≤ i) (h1 : i < xs.length) : ∃ v, atI (xs.map f) i = some (f v) ∧ v ∈ xs ∧ xs[i.toNat]? = some v := by
  obtain ⟨n, rfl⟩ := Int.eq_ofNat_of_zero_le h0
  have hn : n < xs.length := by omega
  exact ⟨xs[n], atI_nat (get_map (List.getElem?_eq_getElem hn)), List.getElem_mem hn, List.getElem?_eq_getElem hn⟩
theorem len_app (a b : Str) : (a ++ b).length = a.length + b.length := by
  show (a.cps ++ b.cps).size = a.cps.size + b.cps.size
  exact Array.size_append
theorem len_join0 : ∀ (parts : List Str), (∀ p ∈ parts, p.length = 1) → (Txt.join (Str.ofString "") parts).length = parts.length := by
  intro parts h
  have e : ∀ parts : List Str, (∀ p ∈ parts, p.length = 1) → (TL.joinL [] (parts.map TL.tl)).length = parts.length := by
    intro parts
    induction parts with
    | nil => intro _; rfl
    | cons p r ih =>
      intro h
      have hp : (TL.tl p).length = 1 := by
        have := h p List.mem_cons_self
        rw [← this]
        exact Array.length_toList
      have hr := ih fun q hq => h q (List.mem_cons_of_mem _ hq)
      cases r with
      | nil => show (TL.tl p).length = 1; exact hp
      | cons q r =>
        show (TL.tl p ++ ([] ++ TL.joinL [] ((q :: r).map TL.tl))).length = _
        rw [List.length_append, List.nil_append, hr, hp, List.length_cons (a := p)]
        omega
  have e2 := TL.tl_join (Str.ofString "") parts
  rw [← TL.join_eq] at e2
  have e3 : (Txt.join (Str.ofString "") parts).length = (TL.tl (Txt.join (Str.ofString "") parts)).length := Array.length_toList.symm
  rw [e3, e2, show TL.tl (Str.ofString "") = [] by decide +kernel]
  exact e parts h
theorem len_digits : ∀ k : Nat, k < 60 → ((toString (k : Int) : String) |> fun s => (Str.ofString s).length) ≤ 2 := by
  intro k hk
  have : ∀ k : Fin 60, ((toString ((k : Nat) : Int) : String) |> fun s => (Str.ofString s).length) ≤ 2 := by decide +kernel
  exact this ⟨k, hk⟩
/-! ### tests that leave the heap -/
theorem ansOr {t u : TT} {σ : L2.St} {H : Hp} {a b : Bool} (ha : Ans t σ H a) (hb : Ans u σ H b) : Ans (tOr t u) σ H (a || b) := fun Q q => ha _ (by
  cases a with
  | true => exact iteT q
  | false => exact iteF (hb Q q))
theorem ansAnd {t u : TT} {σ : L2.St} {H : Hp} {a b : Bool} (ha : Ans t σ H a) (hb : Ans u σ H b) : Ans (tAnd t u) σ H (a && b) := fun Q q => ha _ (by
  cases a with
  | true => exact iteT (hb Q q)
  | false => exact iteF q)
theorem ifS {c : TT} {t u : TS} {D : Ends} {σ : L2.St} {H : Hp} {b : Bool} (h : Ans c σ H b) (ht : b = true → t D σ H) (hu : b = false → u D σ H) : tIfS c t u D σ H := h _ (by
  cases b with
  | true => exact iteT (ht rfl)
  | false => exact iteF (hu rfl))
theorem sum_ones : ∀ {ss : List Str}, (∀ s ∈ ss, s.length = 1) → (ss.map (·.length)).sum = ss.length
  | [], _ => rfl
  | s :: r, h => by
    rw [List.map_cons, List.sum_cons, sum_ones fun x hx => h x (List.mem_cons_of_mem _ hx), h s List.mem_cons_self, List.length_cons]
    omega
theorem flat_strs (ss : List Str) : (ss.map V.str).all flatV = true := by
  rw [List.all_eq_true]
  intro v hv
  obtain ⟨s, _, rfl⟩ := List.mem_map.mp hv
  rfl
theorem szc (n : Nat) {xs : List V} (h : xs.length = n := by rfl) (hn : n ≤ 100000 := by decide) : xs.length ≤ sizeLine := by rw [h]; exact sz hn
theorem ansIsi {K : PySem.W.Frag} {te : TE} {σ : L2.St} {H : Hp} {x : V} {T T2 : String} {b : Bool} (hx : ∀ Q : VK, Q x H → te σ H Q) (ty : TyX K H x (.type T)) (hb : kitB T T2 = some b) :
    Ans (tB (tCB (rIsi K) (tCons te (tCons (tC (.ty T2)) tNil)))) σ H b := fun Q q => hx _ ⟨x, _, _, _, b, rfl, .ty T2, ty, kit_ty hb, _, rfl, q⟩
theorem ansTo {t : TT} {σ : L2.St} {H : Hp} {b b' : Bool} (h : Ans t σ H b) (e : b = b') : Ans t σ H b' := e ▸ h
/-- lo <= x <= hi over whole numbers -/
theorem ansChain {ta tb tc : TE} {σ : L2.St} {H : Hp} {i j k : Int} (ha : Val ta σ H (.int i)) (hb : Val tb σ H (.int j)) (hc : Val tc σ H (.int k)) :
    Ans (tTest (tChain (rI0 fun i j => .bl (decide (i ≤ j))) (rI0 fun i j => .bl (decide (i ≤ j))) ta tb tc)) σ H (decide (i ≤ j) && decide (j ≤ k)) := fun Q q =>
  ha _ (hb _ ⟨i, j, rfl, rfl, _, rfl, by
    by_cases h : i ≤ j
    · rw [if_pos (decide_eq_true h)]
      refine hc _ ⟨j, k, rfl, rfl, _, rfl, ?_⟩
      rw [decide_eq_true h, Bool.true_and] at q
      exact q
    · rw [if_neg (by rw [decide_eq_false h]; exact Bool.false_ne_true)]
      rw [decide_eq_false h, Bool.false_and] at q
      exact ⟨_, rfl, q⟩⟩)
theorem ifQ {c : TT} {t u r : TS} {D : Ends} {σ : L2.St} {H : Hp} {b : Bool} (h : Ans c σ H b) (ht : b = true → t { D with nx := r D } σ H) (hu : b = false → u { D with nx := r D } σ H) : tSeq (tIfS c t u) r D σ H := ifS (D := { D with nx := r D }) h ht hu
theorem noQ {c : TT} {t r : TS} {D : Ends} {σ : L2.St} {H : Hp} (h : Ans c σ H false) (q : r D σ H) : tSeq (tIfS c t tNext) r D σ H := ifQ h (fun z => nomatch z) fun _ => q
theorem noS {c : TT} {t : TS} {D : Ends} {σ : L2.St} {H : Hp} (h : Ans c σ H false) (q : D.nx σ H) : tIfS c t tNext D σ H := ifS h (fun z => nomatch z) fun _ => q
theorem ifR {c : TT} {t r : TS} {D : Ends} {σ : L2.St} {H : Hp} {b : Bool} (h : Ans c σ H b) (ht : b = true → t { D with nx := r D } σ H) (hu : b = false → r D σ H) : tSeq (tIfS c t tNext) r D σ H := ifQ h ht hu
theorem cutV_map {α : Type} (f : α → V) (xs : List α) (lo hi : Option Int) : ∃ ys : List α, cutV (xs.map f) lo hi = ys.map f ∧ ys.length ≤ xs.length ∧ ∀ y ∈ ys, y ∈ xs := by
  refine ⟨(xs.drop (HT.sIx (xs.map f).length 0 lo)).take (HT.sIx (xs.map f).length (xs.map f).length hi - HT.sIx (xs.map f).length 0 lo), ?_, ?_, ?_⟩
  · unfold cutV
    rw [List.map_take, List.map_drop]
  · rw [List.length_take, List.length_drop]
    omega
  · intro y hy
    exact List.mem_of_mem_drop (List.mem_of_mem_take hy)
theorem iteFx {c : Bool} {A B : Prop} (h : c = false) (q : B) : if c = true then A else B := by
  subst h
  exact iteF q
theorem iteTx {c : Bool} {A B : Prop} (h : c = true) (q : A) : if c = true then A else B := by
  subst h
  exact iteT q
/-! ### names -/
def lets : Str := Str.ofString "abcdefghijklmnopqrstuvwxyz"
def sgns : Str := Str.ofString "abcdefghijklmnopqrstuvwxyz0123456789"
def resv : List Str := ["share", "lock", "bell", "kind", "any", "local", "skip", "set", "acquire", "release", "rest", "wake", "start", "check", "await", "mark", "if", "else", "loop", "choose", "or", "end", "and", "not"].map Str.ofString
structure NmF (s : Str) : Prop where
  l1 : 1 ≤ s.length
  l20 : s.length ≤ 20
  hd : ∃ c r, s.cps.toList = c :: r ∧ c ∈ lets.cps.toList
  al : ∀ c ∈ s.cps.toList, c ∈ sgns.cps.toList
theorem str_len (s : Str) : s.cps.toList.length = s.length := Array.length_toList
theorem str_app (a b : Str) : (a ++ b).cps.toList = a.cps.toList ++ b.cps.toList := by
  show (a.cps ++ b.cps).toList = _
  exact Array.toList_append
theorem let_sgn {c : Nat} (h : c ∈ lets.cps.toList) : c ∈ sgns.cps.toList := by
  have e : sgns = lets ++ Str.ofString "0123456789" := by decide +kernel
  rw [e, str_app]
  exact List.mem_append_left _ h
theorem nmF_cons {s : Str} {c : Nat} {r : List Nat} (e : s.cps.toList = c :: r) (hc : c ∈ lets.cps.toList) (hr : ∀ x ∈ r, x ∈ sgns.cps.toList) (hl : r.length ≤ 19) : NmF s := by
  have := str_len s
  rw [e, List.length_cons] at this
  refine ⟨by omega, by omega, ⟨c, r, e, hc⟩, fun x hx => ?_⟩
  rw [e] at hx
  rcases List.mem_cons.mp hx with h | h
  · rw [h]; exact let_sgn hc
  · exact hr x h
def nmfB (l : List Nat) : Bool := match l with
  | [] => false
  | c :: r => decide (c ∈ lets.cps.toList) && (r.all fun x => decide (x ∈ sgns.cps.toList)) && decide (r.length ≤ 19)
theorem nmF_of {s : Str} (h : nmfB s.cps.toList = true) : NmF s := by
  cases e : s.cps.toList with
  | nil => rw [e] at h; cases h
  | cons c r =>
    rw [e] at h
    simp only [nmfB, Bool.and_eq_true, decide_eq_true_eq, List.all_eq_true] at h
    exact nmF_cons e h.1.1 h.1.2 h.2
def digL (i : Nat) : List Nat := (Str.ofString (toString (i : Int))).cps.toList
theorem dig_ok : ∀ i : Fin 31, (∃ c r, digL i = c :: r ∧ c ∉ lets.cps.toList) ∧ (∀ x ∈ digL i, x ∈ sgns.cps.toList) ∧ (digL i).length ≤ 2 := by
  have h : ∀ i : Fin 31, (match digL i with
    | [] => false
    | c :: _ => !decide (c ∈ lets.cps.toList)) = true ∧ ((digL i).all fun x => decide (x ∈ sgns.cps.toList)) = true ∧ (digL i).length ≤ 2 := by decide +kernel
  intro i
  obtain ⟨h1, h2, h3⟩ := h i
  refine ⟨?_, fun x hx => of_decide_eq_true (List.all_eq_true.mp h2 x hx), h3⟩
  cases e : digL i with
  | nil => rw [e] at h1; cases h1
  | cons c r => rw [e] at h1; exact ⟨c, r, rfl, by simpa using h1⟩
def letAt (j : Nat) : Nat := lets.cps.toList.getD j 0
theorem let_inj : ∀ a b : Fin 26, letAt a = letAt b → a = b := by decide +kernel
theorem let_in : ∀ a : Fin 26, letAt a ∈ lets.cps.toList := by decide +kernel
def candL (i j : Nat) : List Nat := letAt (j % 26) :: (digL i ++ if j < 26 then [] else [120])
theorem cand_f {i j : Nat} (hi : i < 31) (s : Str) (e : s.cps.toList = candL i j) : NmF s := by
  obtain ⟨_, h2, h3⟩ := dig_ok ⟨i, hi⟩
  refine nmF_cons e (let_in ⟨j % 26, by omega⟩) (fun x hx => ?_) ?_
  · rcases List.mem_append.mp hx with h | h
    · exact h2 x h
    · split at h
      · cases h
      · rw [List.mem_singleton.mp h]; decide +kernel
  · rw [List.length_append]
    have : (if j < 26 then [] else [120] : List Nat).length ≤ 1 := by split <;> decide
    have h3' : (digL i).length ≤ 2 := h3
    omega
theorem resv_let : ∀ s ∈ resv, ∀ c ∈ s.cps.toList, c ∈ lets.cps.toList := by decide +kernel
theorem cand_nr {i j : Nat} (hi : i < 31) (s : Str) (e : s.cps.toList = candL i j) : s ∉ resv := fun hm => by
  obtain ⟨⟨c, r, ec, hc⟩, _⟩ := dig_ok ⟨i, hi⟩
  refine hc (resv_let s hm c ?_)
  rw [e]
  have : digL i = c :: r := ec
  unfold candL
  rw [this]
  exact List.mem_cons_of_mem _ (List.mem_append_left _ List.mem_cons_self)
theorem cand_inj {i j k : Nat} (hj : j < 52) (hk : k < 52) (e : candL i j = candL i k) : j = k := by
  have h1 : letAt (j % 26) = letAt (k % 26) := (List.cons.inj e).1
  have h2 := congrArg List.length (List.cons.inj e).2
  have h3 := congrArg Fin.val (let_inj ⟨j % 26, by omega⟩ ⟨k % 26, by omega⟩ h1)
  have h4 : j % 26 = k % 26 := h3
  rw [List.length_append, List.length_append] at h2
  split at h2 <;> split at h2 <;> simp only [List.length_nil, List.length_cons] at h2 <;> omega
theorem pigeon {α : Type} [BEq α] [LawfulBEq α] : ∀ (xs ys : List α), xs.Nodup → (∀ x ∈ xs, x ∈ ys) → xs.length ≤ ys.length
  | [], _, _, _ => Nat.zero_le _
  | x :: r, ys, hn, h => by
    have hx := h x List.mem_cons_self
    obtain ⟨hnx, hnr⟩ := List.nodup_cons.mp hn
    have ih := pigeon r (ys.erase x) hnr fun y hy => (List.mem_erase_of_ne fun (e : y = x) => hnx (e ▸ hy)).mpr (h y (List.mem_cons_of_mem _ hy))
    rw [List.length_erase_of_mem hx] at ih
    have := List.length_pos_of_mem hx
    rw [List.length_cons]
    omega
/-- of 52 names one is free -/
theorem cand_free {i : Nat} (hi : i < 31) {ss : List Str} (hl : ss.length < 52) (h : ∀ j < 52, ∀ s : Str, s.cps.toList = candL i j → s ∈ ss ∨ s ∈ resv) : False := by
  have hs : ∀ j < 52, candL i j ∈ ss.map fun s => s.cps.toList := fun j hj => by
    have e : ((⟨(candL i j).toArray⟩ : Str)).cps.toList = candL i j := rfl
    rcases h j hj _ e with m | m
    · exact List.mem_map.mpr ⟨_, m, e⟩
    · exact absurd m (cand_nr hi _ e)
  have hn : ((List.range 52).map (candL i)).Nodup := by
    refine List.nodup_iff_pairwise_ne.mpr ?_ |> fun z => z
    rw [List.pairwise_map]
    refine List.Pairwise.imp_of_mem (fun {a b} ha hb hab e => ?_) (List.nodup_iff_pairwise_ne.mp List.nodup_range)
    exact hab (cand_inj (List.mem_range.mp ha) (List.mem_range.mp hb) e)
  have := pigeon _ _ hn fun x hx => by
    obtain ⟨j, hj, rfl⟩ := List.mem_map.mp hx
    exact hs j (List.mem_range.mp hj)
  rw [List.length_map, List.length_map, List.length_range] at this
  omega
theorem cut_x : ∀ j : Fin 52, (cutS (Str.ofString "x") none (some (((j : Nat) : Int) / 26))).cps.toList = (if (j : Nat) < 26 then [] else [120]) := by decide +kernel
structure NmsOk (ss : List Str) : Prop where
  f : ∀ s ∈ ss, NmF s
  r : ∀ s ∈ ss, s ∉ resv
  nd : ss.Nodup
theorem NmsOk.snoc {ss : List Str} {s : Str} (h : NmsOk ss) (hf : NmF s) (hr : s ∉ resv) (hs : s ∉ ss) : NmsOk (ss ++ [s]) where
  f := fun x hx => by
    rcases List.mem_append.mp hx with m | m
    · exact h.f x m
    · rw [List.mem_singleton.mp m]; exact hf
  r := fun x hx => by
    rcases List.mem_append.mp hx with m | m
    · exact h.r x m
    · rw [List.mem_singleton.mp m]; exact hr
  nd := by
    refine List.nodup_append.mpr ⟨h.nd, List.nodup_cons.mpr ⟨(fun m => by cases m), List.nodup_nil⟩, fun a ha b hb e => ?_⟩
    rw [List.mem_singleton.mp hb] at e
    exact hs (e ▸ ha)
theorem inV_iff {l : Str} {xs : List Str} : inV (V.str l) (xs.map V.str) = true ↔ l ∈ xs := by
  unfold inV
  rw [List.any_map, List.any_eq_true]
  constructor
  · rintro ⟨x, hx, h⟩
    have : (x == l) = true := h
    rw [← eq_of_beq this]
    exact hx
  · intro h
    exact ⟨l, h, (beq_self_eq_true l : (l == l) = true)⟩
theorem mem_join0 {S : List Nat} : ∀ (parts : List Str), (∀ p ∈ parts, ∀ c ∈ p.cps.toList, c ∈ S) → ∀ c ∈ (Txt.join (Str.ofString "") parts).cps.toList, c ∈ S := by
  intro parts h c hc
  have e2 := TL.tl_join (Str.ofString "") parts
  rw [← TL.join_eq, show TL.tl (Str.ofString "") = [] by decide +kernel] at e2
  have e3 : (Txt.join (Str.ofString "") parts).cps.toList = TL.joinL [] (parts.map TL.tl) := e2
  rw [e3] at hc
  clear e2 e3
  induction parts with
  | nil => cases hc
  | cons p r ih =>
    cases r with
    | nil => exact h p List.mem_cons_self c hc
    | cons q r =>
      have hc2 : c ∈ TL.tl p ++ ([] ++ TL.joinL [] ((q :: r).map TL.tl)) := hc
      rw [List.nil_append] at hc2
      rcases List.mem_append.mp hc2 with m | m
      · exact h p List.mem_cons_self c m
      · exact ih (fun p hp => h p (List.mem_cons_of_mem _ hp)) m
theorem str_ext {a b : Str} (h : a.cps.toList = b.cps.toList) : a = b := by
  cases a; cases b
  have := Array.toList_inj.mp h
  simp only at this
  rw [this]
/-! ### values and conditions as trees -/
theorem Fd.none {P : Program} {w : World} {K : PySem.W.Frag} {mg : Str → Option Value} {base : Heap} {x qual : Str} {st : Stmt} {f : Addr} {fd : FuncData} {ps : List Str} {k : Nat} {sp : Sp} (F : Fun K x qual st f fd) (m : mg x = some (.ref f)) (b : Binds K fd ps [])
    (no : ∀ vs H Q E, ¬ sp vs H Q E) : Fd P w K mg base x ps k sp := ⟨f, fd, ⟨fun vs H Q E h => absurd h (no vs H Q E), fun A outer s H args us vs Q E _ _ _ _ h => absurd h (no vs H Q E)⟩, m, F.kp, b⟩
theorem yesQ {c : TT} {t u r : TS} {D : Ends} {σ : L2.St} {H : Hp} (h : Ans c σ H true) (q : t { D with nx := r D } σ H) : tSeq (tIfS c t u) r D σ H := ifQ h (fun _ => q) fun z => nomatch z
theorem yesS {c : TT} {t u : TS} {D : Ends} {σ : L2.St} {H : Hp} (h : Ans c σ H true) (q : t D σ H) : tIfS c t u D σ H := ifS h (fun _ => q) fun z => nomatch z
/-- what is new in H' over H -/
def Nw (H H' : Hp) : Hp := fun a => match H a with
  | none => H' a
  | some _ => none
theorem nw_at {H H' : Hp} {a : Addr} (h : H a = none) : Nw H H' a = H' a := by
  unfold Nw
  rw [h]
theorem nw_old {H H' : Hp} {a : Addr} {o : HO} (h : H a = some o) : Nw H H' a = none := by
  unfold Nw
  rw [h]
theorem nw_some {H H' : Hp} {a : Addr} {o : HO} (h : Nw H H' a = some o) : H a = none ∧ H' a = some o := by
  cases e : H a with
  | none => rw [nw_at e] at h; exact ⟨rfl, h⟩
  | some x => rw [nw_old e] at h; cases h
theorem nw_same {H H' : Hp} : Same (Nw H H') H' := fun _ _ h => (nw_some h).2
theorem nw_mono {H H1 H2 H3 : Hp} (a : Same H H1) (b : Same H2 H3) : Same (Nw H1 H2) (Nw H H3) := fun x o h => by
  obtain ⟨h1, h2⟩ := nw_some h
  rw [nw_at (a.free h1)]
  exact b x o h2
/-- what is there is there -/
def Dm (H H' : Hp) : Prop := ∀ a, H' a = none → H a = none
theorem Same.dm {H H' : Hp} (s : Same H H') : Dm H H' := fun _ h => s.free h
theorem Dm.trans {H H1 H2 : Hp} (a : Dm H H1) (b : Dm H1 H2) : Dm H H2 := fun x h => a x (b x h)
theorem dm_upd {H H' : Hp} {D : Addr} {o u : HO} (s : Same H H') (h : H' D = some o) : Dm (upd H D u) H' := fun a ha => by
  have hne : a ≠ D := fun e => by rw [e, h] at ha; cases ha
  rw [upd_ne hne]
  exact s.free ha
theorem dm_up {H : Hp} {D : Addr} {u : HO} : Dm H (upd H D u) := fun a ha => by
  by_cases e : a = D
  · rw [e, upd_same] at ha; cases ha
  · rw [upd_ne e] at ha; exact ha
theorem nw_mono2 {H H1 H2 H3 : Hp} (a : Dm H H1) (b : Same H2 H3) : Same (Nw H1 H2) (Nw H H3) := fun x o h => by
  obtain ⟨h1, h2⟩ := nw_some h
  rw [nw_at (a x h1)]
  exact b x o h2
theorem nw_upd {H H' : Hp} {a : Addr} {o u : HO} (h : H a = some o) : Same (Nw H H') (Nw H (upd H' a u)) := fun x y e => by
  obtain ⟨h1, h2⟩ := nw_some e
  rw [nw_at h1, upd_ne (ne_of_none h h1).symm]
  exact h2
inductive Ar where
  | add | sub | mul
def Ar.tx : Ar → Str
  | .add => Str.ofString "+"
  | .sub => Str.ofString "-"
  | .mul => Str.ofString "*"
def Ar.ev : Ar → Int → Int → Int
  | .add, a, b => a + b
  | .sub, a, b => a - b
  | .mul, a, b => a * b
inductive VT where
  | int (i : Int) | nm (s : Str) | op (o : Ar) (a b : VT)
def VT.ht : VT → Nat
  | .op _ a b => max a.ht b.ht + 1
  | _ => 0
def RVal (H : Hp) : VT → V → Prop
  | .int i, v => v = .int i
  | .nm s, v => v = .str s
  | .op o a b, v => ∃ t x y, v = .ref t ∧ H t = some (.tup [.str o.tx, x, y]) ∧ RVal H a x ∧ RVal H b y
theorem RVal.mono {H H' : Hp} (e : Same H H') : ∀ {t : VT} {v : V}, RVal H t v → RVal H' t v
  | .int _, _, h => h
  | .nm _, _, h => h
  | .op _ _ _, _, ⟨t, x, y, e1, e2, ha, hb⟩ => ⟨t, x, y, e1, e _ _ e2, RVal.mono e ha, RVal.mono e hb⟩
def look (kvs : List (Key × V)) (s : Str) : Int := match valV kvs (Sum.inr s) with
  | some (.int i) => i
  | _ => 0
def VT.ev (kvs : List (Key × V)) : VT → Int
  | .int i => i
  | .nm s => look kvs s
  | .op o a b => o.ev (a.ev kvs) (b.ev kvs)
def VT.wt : VT → Nat
  | .op _ a b => a.wt + b.wt
  | _ => 8
def Fine (kvs : List (Key × V)) : VT → Prop
  | .int i => i.natAbs < 256
  | .nm s => ∃ i : Int, valV kvs (Sum.inr s) = some (.int i) ∧ i.natAbs < 256
  | .op _ a b => Fine kvs a ∧ Fine kvs b
theorem VT.wt_pos : ∀ t : VT, 8 ≤ t.wt
  | .int _ => Nat.le_refl 8
  | .nm _ => Nat.le_refl 8
  | .op _ a b => by show 8 ≤ a.wt + b.wt; have := a.wt_pos; omega
theorem pow_add_le {a b x y : Nat} (ha : x < 2 ^ a) (hb : y < 2 ^ b) (h1 : 1 ≤ a) (h2 : 1 ≤ b) : x + y < 2 ^ (a + b) := by
  have ea : 2 ^ (a + b) = 2 ^ a * 2 ^ b := Nat.pow_add 2 a b
  have h3 : 2 ≤ 2 ^ a := by
    have := Nat.pow_le_pow_right (show 0 < 2 by decide) h1
    omega
  have h4 : 2 ≤ 2 ^ b := by
    have := Nat.pow_le_pow_right (show 0 < 2 by decide) h2
    omega
  generalize 2 ^ a = u at *
  generalize 2 ^ b = v at *
  rw [ea]
  have h5 : u + v ≤ u * v := by
    rcases Nat.le_total u v with h | h
    · have := Nat.mul_le_mul_right v h3
      omega
    · have := Nat.mul_le_mul_left u h4
      omega
  omega
theorem ev_lt {kvs : List (Key × V)} : ∀ {t : VT}, Fine kvs t → (t.ev kvs).natAbs < 2 ^ t.wt
  | .int i, h => h
  | .nm s, ⟨i, e, h⟩ => by
    show (look kvs s).natAbs < 2 ^ 8
    unfold look
    rw [e]
    exact h
  | .op o a b, ⟨ha, hb⟩ => by
    have h1 := ev_lt ha
    have h2 := ev_lt hb
    have p1 := a.wt_pos
    have p2 := b.wt_pos
    have h3 := pow_add_le h1 h2 (by omega) (by omega)
    show (o.ev (a.ev kvs) (b.ev kvs)).natAbs < 2 ^ (a.wt + b.wt)
    cases o with
    | add => show (a.ev kvs + b.ev kvs).natAbs < _; omega
    | sub => show (a.ev kvs - b.ev kvs).natAbs < _; omega
    | mul => exact wide_lt h1 h2
inductive Cp where
  | eq | lt | le
def Cp.tx : Cp → Str
  | .eq => Str.ofString "="
  | .lt => Str.ofString "<"
  | .le => Str.ofString "<="
def Cp.ev : Cp → Int → Int → Bool
  | .eq, a, b => decide (V.int a = V.int b)
  | .lt, a, b => decide (a < b)
  | .le, a, b => decide (a ≤ b)
inductive CT where
  | bl (b : Bool) | no (c : CT) | an (a b : CT) | or (a b : CT) | cp (o : Cp) (a b : VT)
def CT.ht : CT → Nat
  | .bl _ => 0
  | .no c => c.ht + 1
  | .an a b => max a.ht b.ht + 1
  | .or a b => max a.ht b.ht + 1
  | .cp _ _ _ => 0
def RCond (H : Hp) : CT → V → Prop
  | .bl b, v => v = .bl b
  | .no c, v => ∃ t x, v = .ref t ∧ H t = some (.tup [.str (Str.ofString "not"), x]) ∧ RCond H c x
  | .an a b, v => ∃ t x y, v = .ref t ∧ H t = some (.tup [.str (Str.ofString "and"), x, y]) ∧ RCond H a x ∧ RCond H b y
  | .or a b, v => ∃ t x y, v = .ref t ∧ H t = some (.tup [.str (Str.ofString "or"), x, y]) ∧ RCond H a x ∧ RCond H b y
  | .cp o a b, v => ∃ t x y, v = .ref t ∧ H t = some (.tup [.str o.tx, x, y]) ∧ RVal H a x ∧ RVal H b y
theorem RCond.mono {H H' : Hp} (e : Same H H') : ∀ {t : CT} {v : V}, RCond H t v → RCond H' t v
  | .bl _, _, h => h
  | .no _, _, ⟨t, x, e1, e2, ha⟩ => ⟨t, x, e1, e _ _ e2, RCond.mono e ha⟩
  | .an _ _, _, ⟨t, x, y, e1, e2, ha, hb⟩ => ⟨t, x, y, e1, e _ _ e2, RCond.mono e ha, RCond.mono e hb⟩
  | .or _ _, _, ⟨t, x, y, e1, e2, ha, hb⟩ => ⟨t, x, y, e1, e _ _ e2, RCond.mono e ha, RCond.mono e hb⟩
  | .cp _ _ _, _, ⟨t, x, y, e1, e2, ha, hb⟩ => ⟨t, x, y, e1, e _ _ e2, RVal.mono e ha, RVal.mono e hb⟩
def CT.ev (kvs : List (Key × V)) : CT → Bool
  | .bl b => b
  | .no c => !c.ev kvs
  | .an a b => a.ev kvs && b.ev kvs
  | .or a b => a.ev kvs || b.ev kvs
  | .cp o a b => o.ev (a.ev kvs) (b.ev kvs)
/-- every value in it is fine, of height below n and of weight at most m -/
def CFine (kvs : List (Key × V)) (n m : Nat) : CT → Prop
  | .bl _ => True
  | .no c => CFine kvs n m c
  | .an a b => CFine kvs n m a ∧ CFine kvs n m b
  | .or a b => CFine kvs n m a ∧ CFine kvs n m b
  | .cp _ a b => (Fine kvs a ∧ a.ht < n ∧ a.wt ≤ m) ∧ Fine kvs b ∧ b.ht < n ∧ b.wt ≤ m
/-! ### data: what stands in the heap, at any depth -/
mutual
theorem dp_mono {K : PySem.W.Frag} {H H' : Hp} (e : Same H H') : ∀ {v : V} {d : PyData}, Dp K H v d → Dp K H' v d
  | _, .none, .non => .non
  | _, .bool _, .bl b => .bl b
  | _, .int _, .int i => .int i
  | _, .str _, .str x => .str x
  | _, .list _, .lst h a => .lst (e.seq h) (dpAll_mono e a)
  | _, .tuple _, .tup h a => .tup (Same.seqT e h) (dpAll_mono e a)
theorem dpAll_mono {K : PySem.W.Frag} {H H' : Hp} (e : Same H H') : ∀ {vs : List V} {ds : List PyData}, DpAll K H vs ds → DpAll K H' vs ds
  | _, [], .nil => .nil
  | _, _ :: _, .cons h t => .cons (dp_mono e h) (dpAll_mono e t)
end
theorem dpa_len {K : PySem.W.Frag} {H : Hp} : ∀ {ds : List PyData} {vs : List V}, DpAll K H vs ds → vs.length = ds.length
  | [], _, .nil => rfl
  | _ :: _, _, .cons _ t => congrArg (· + 1) (dpa_len t)
theorem dpa_at {K : PySem.W.Frag} {H : Hp} : ∀ {ds : List PyData} {vs : List V}, DpAll K H vs ds → ∀ {i : Nat} {v : V}, vs[i]? = some v → ∃ d, ds[i]? = some d ∧ Dp K H v d
  | [], _, .nil, i, v, h => by simp at h
  | _ :: _, _, .cons a t, 0, v, h => by
    have := Option.some.inj h
    subst this
    exact ⟨_, rfl, a⟩
  | _ :: _, _, .cons a t, i + 1, v, h => dpa_at t (i := i) h
theorem dpa_at' {K : PySem.W.Frag} {H : Hp} : ∀ {ds : List PyData} {vs : List V}, DpAll K H vs ds → ∀ {i : Nat} {d : PyData}, ds[i]? = some d → ∃ v, vs[i]? = some v ∧ Dp K H v d
  | [], _, .nil, i, v, h => by simp at h
  | _ :: _, _, .cons a t, 0, v, h => by
    have := Option.some.inj h
    subst this
    exact ⟨_, rfl, a⟩
  | _ :: _, _, .cons a t, i + 1, v, h => dpa_at' t (i := i) h
theorem dpa_app {K : PySem.W.Frag} {H : Hp} : ∀ {ds es : List PyData} {vs us : List V}, DpAll K H vs ds → DpAll K H us es → DpAll K H (vs ++ us) (ds ++ es)
  | [], _, _, _, .nil, b => b
  | _ :: _, _, _, _, .cons a t, b => .cons a (dpa_app t b)
theorem dpa_strs {K : PySem.W.Frag} {H : Hp} : ∀ ss : List Str, DpAll K H (ss.map V.str) (ss.map PyData.str)
  | [] => .nil
  | s :: r => .cons (.str s) (dpa_strs r)
theorem dpa_ints {K : PySem.W.Frag} {H : Hp} : ∀ ss : List Int, DpAll K H (ss.map V.int) (ss.map PyData.int)
  | [] => .nil
  | s :: r => .cons (.int s) (dpa_ints r)
/-- a tuple of data -/
theorem dp_tup {K : PySem.W.Frag} {H : Hp} {v : V} {ds : List PyData} (h : Dp K H v (.tuple ds)) : ∃ a xs, v = .ref a ∧ SqT K H a xs ∧ DpAll K H xs ds := by
  cases h with
  | tup hs ha => exact ⟨_, _, rfl, hs, ha⟩
theorem dp_lst {K : PySem.W.Frag} {H : Hp} {v : V} {ds : List PyData} (h : Dp K H v (.list ds)) : ∃ a xs, v = .ref a ∧ SqL K H a xs ∧ DpAll K H xs ds := by
  cases h with
  | lst hs ha => exact ⟨_, _, rfl, hs, ha⟩
theorem dp_str {K : PySem.W.Frag} {H : Hp} {v : V} {s : Str} (h : Dp K H v (.str s)) : v = .str s := by cases h; rfl
theorem dp_int {K : PySem.W.Frag} {H : Hp} {v : V} {s : Int} (h : Dp K H v (.int s)) : v = .int s := by cases h; rfl
theorem dpa_cons {K : PySem.W.Frag} {H : Hp} {vs : List V} {d : PyData} {ds : List PyData} (h : DpAll K H vs (d :: ds)) : ∃ v r, vs = v :: r ∧ Dp K H v d ∧ DpAll K H r ds := by
  cases h with
  | cons a t => exact ⟨_, _, rfl, a, t⟩
theorem dpa_nil {K : PySem.W.Frag} {H : Hp} {vs : List V} (h : DpAll K H vs []) : vs = [] := by cases h; rfl
theorem dpa_strsE {K : PySem.W.Frag} {H : Hp} : ∀ {ss : List Str} {vs : List V}, DpAll K H vs (ss.map PyData.str) → vs = ss.map V.str
  | [], _, h => dpa_nil h
  | s :: r, _, h => by
    obtain ⟨v, q, rfl, a, t⟩ := dpa_cons h
    rw [dp_str a, dpa_strsE t]
    rfl
/-! ### data that can be shown and compared -/
mutual
def nice : PyData → Bool
  | .none | .bool _ => true
  | .int i => decide (i.natAbs < 10 ^ 7)
  | .str s => (s.cps.toList.all fun c => decide (c < 128)) && decide (s.length ≤ 20)
  | .list xs | .tuple xs => niceAll xs
  | .dict _ => false
def niceAll : List PyData → Bool
  | [] => true
  | x :: xs => nice x && niceAll xs
end
mutual
def cells : PyData → Nat
  | .list xs | .tuple xs => cellsAll xs + 1
  | .none | .bool _ | .int _ | .str _ | .dict _ => 1
def cellsAll : List PyData → Nat
  | [] => 0
  | x :: xs => cells x + cellsAll xs
end
mutual
theorem nice_lay : ∀ d : PyData, nice d = true → d.canLay0 = true
  | .none, _ => rfl
  | .bool _, _ => rfl
  | .int _, _ => rfl
  | .str s, h => by
    simp only [nice, Bool.and_eq_true, List.all_eq_true, decide_eq_true_eq] at h
    show (s.cps.all fun c => decide (c < 0x110000)) = true
    rw [← Array.all_toList, List.all_eq_true]
    intro c hc
    have := h.1 c hc
    exact decide_eq_true (by omega)
  | .list xs, h => by
    show PyData.canLayAll0 xs = true
    exact nice_layAll xs h
  | .tuple xs, h => by
    show PyData.canLayAll0 xs = true
    exact nice_layAll xs h
  | .dict _, h => nomatch h
theorem nice_layAll : ∀ xs : List PyData, niceAll xs = true → PyData.canLayAll0 xs = true
  | [], _ => rfl
  | x :: xs, h => by
    have h' : nice x = true ∧ niceAll xs = true := by simpa only [niceAll, Bool.and_eq_true] using h
    show (x.canLay0 && PyData.canLayAll0 xs) = true
    rw [nice_lay x h'.1, nice_layAll xs h'.2]
    rfl
end
mutual
theorem nice_short : ∀ d : PyData, nice d = true → d.leavesShort 8 = true ∧ d.showable = true
  | .none, _ => ⟨rfl, rfl⟩
  | .bool _, _ => ⟨rfl, rfl⟩
  | .int i, h => by
    have h1 : i.natAbs < 10 ^ 7 := by simpa only [nice, decide_eq_true_eq] using h
    refine ⟨?_, ?_⟩
    · show decide ((Str.ofString (toString i)).length ≤ 8) = true
      have := int_text_length_le10 (a := i) (k := 7) (by decide) h1
      refine decide_eq_true ?_
      rw [PySem.ofString_length]
      exact this
    · show decide (i.natAbs.log2 < 1920) = true
      refine decide_eq_true ?_
      have h2 : i.natAbs.log2 ≤ i.natAbs := Nat.log2_le_self _
      by_cases h0 : i.natAbs = 0
      · rw [h0]; decide
      · rw [Nat.log2_lt h0]
        exact Nat.lt_of_lt_of_le h1 (by decide +kernel)
  | .str s, h => by
    simp only [nice, Bool.and_eq_true, List.all_eq_true, decide_eq_true_eq] at h
    refine ⟨?_, rfl⟩
    show (s.cps.toList.all fun c => decide (c < 16 ^ 8)) = true
    rw [List.all_eq_true]
    intro c hc
    have := h.1 c hc
    exact decide_eq_true (Nat.lt_of_lt_of_le this (by decide))
  | .list xs, h => nice_shortAll xs h
  | .tuple xs, h => nice_shortAll xs h
  | .dict _, h => nomatch h
theorem nice_shortAll : ∀ xs : List PyData, niceAll xs = true → PyData.leavesShortAll 8 xs = true ∧ PyData.showableAll xs = true
  | [], _ => ⟨rfl, rfl⟩
  | x :: xs, h => by
    have h' : nice x = true ∧ niceAll xs = true := by simpa only [niceAll, Bool.and_eq_true] using h
    obtain ⟨a1, a2⟩ := nice_short x h'.1
    obtain ⟨b1, b2⟩ := nice_shortAll xs h'.2
    refine ⟨?_, ?_⟩
    · show (x.leavesShort 8 && PyData.leavesShortAll 8 xs) = true
      rw [a1, b1]; rfl
    · show (x.showable && PyData.showableAll xs) = true
      rw [a2, b2]; rfl
end
mutual
theorem nice_bulk : ∀ d : PyData, nice d = true → d.bulk + 1 ≤ 21 * cells d
  | .none, _ => by decide
  | .bool _, _ => by show 0 + 1 ≤ 21 * 1; decide
  | .int _, _ => by show 0 + 1 ≤ 21 * 1; decide
  | .str s, h => by
    simp only [nice, Bool.and_eq_true, List.all_eq_true, decide_eq_true_eq] at h
    have : s.cps.size ≤ 20 := h.2
    show s.cps.size + 1 ≤ 21 * 1
    omega
  | .list xs, h => by
    have := nice_bulkAll xs h
    show PyData.bulkAll xs + 1 ≤ 21 * (cellsAll xs + 1)
    omega
  | .tuple xs, h => by
    have := nice_bulkAll xs h
    show PyData.bulkAll xs + 1 ≤ 21 * (cellsAll xs + 1)
    omega
  | .dict _, h => nomatch h
theorem nice_bulkAll : ∀ xs : List PyData, niceAll xs = true → PyData.bulkAll xs ≤ 21 * cellsAll xs
  | [], _ => by decide
  | x :: xs, h => by
    have h' : nice x = true ∧ niceAll xs = true := by simpa only [niceAll, Bool.and_eq_true] using h
    have h1 := nice_bulk x h'.1
    have h2 := nice_bulkAll xs h'.2
    show x.bulk + 1 + PyData.bulkAll xs ≤ 21 * (cells x + cellsAll xs)
    omega
end
structure NcD (d : PyData) (c m : Nat) : Prop where
  ni : nice d = true
  ce : cells d ≤ c
  de : d.depth ≤ m
structure NcL (ds : List PyData) (c m : Nat) : Prop where
  ni : niceAll ds = true
  ce : cellsAll ds ≤ c
  de : PyData.depthAll ds ≤ m
theorem NcD.mono {d : PyData} {c m c' m' : Nat} (h : NcD d c m) (h1 : c ≤ c') (h2 : m ≤ m') : NcD d c' m' := ⟨h.ni, Nat.le_trans h.ce h1, Nat.le_trans h.de h2⟩
theorem NcL.mono {d : List PyData} {c m c' m' : Nat} (h : NcL d c m) (h1 : c ≤ c') (h2 : m ≤ m') : NcL d c' m' := ⟨h.ni, Nat.le_trans h.ce h1, Nat.le_trans h.de h2⟩
theorem NcL.nil {c m : Nat} : NcL [] c m := ⟨rfl, Nat.zero_le _, Nat.zero_le _⟩
theorem NcL.cons {d : PyData} {ds : List PyData} {c1 c2 m : Nat} (h : NcD d c1 m) (t : NcL ds c2 m) : NcL (d :: ds) (c1 + c2) m := by
  have h1 := h.ce
  have h2 := t.ce
  have h3 := h.de
  have h4 := t.de
  refine ⟨?_, ?_, ?_⟩
  · show (nice d && niceAll ds) = true
    rw [h.ni, t.ni]; rfl
  · show cells d + cellsAll ds ≤ c1 + c2
    omega
  · show max d.depth (PyData.depthAll ds) ≤ m
    omega
theorem NcL.tup {ds : List PyData} {c m : Nat} (h : NcL ds c m) : NcD (.tuple ds) (c + 1) (m + 1) := ⟨h.ni, Nat.succ_le_succ h.ce, Nat.succ_le_succ h.de⟩
theorem NcL.lst {ds : List PyData} {c m : Nat} (h : NcL ds c m) : NcD (.list ds) (c + 1) (m + 1) := ⟨h.ni, Nat.succ_le_succ h.ce, Nat.succ_le_succ h.de⟩
theorem NcD.str {s : Str} {m : Nat} (h : nice (.str s) = true) : NcD (.str s) 1 m := ⟨h, Nat.le_refl _, Nat.zero_le _⟩
theorem NcD.int {i : Int} {m : Nat} (h : i.natAbs < 10 ^ 7) : NcD (.int i) 1 m := ⟨decide_eq_true h, Nat.le_refl _, Nat.zero_le _⟩
theorem NcD.shaped {d : PyData} {c m : Nat} (h : NcD d c m) (hm : m ≤ 64) : SeqAt.shaped d = true := by
  show (d.canLay0 && decide (d.depth ≤ 64)) = true
  have h1 := h.de
  rw [nice_lay d h.ni, decide_eq_true (by omega)]
  rfl
theorem NcD.eqv {d : PyData} {c m : Nat} (h : NcD d c m) : PyData.eqv d d = true := SeqAt.eqv_refl d (nice_lay d h.ni)
structure Shw (d : PyData) : Prop where
  sh : d.showable = true
  nd : d.hasDict = false
  de : d.depth ≤ 60
  ln : d.shown.length ≤ sizeLine
theorem NcD.shw {d : PyData} {c m : Nat} (h : NcD d c m) (hc : c ≤ 40000) (hm : m ≤ 60) : Shw d := by
  have h1 := nice_short d h.ni
  have h2 := nice_bulk d h.ni
  have h3 := h.de
  have h4 := h.ce
  refine ⟨h1.2, PyData.hasDict_of_canLay d (nice_lay d h.ni), by omega, PyData.shown_fits_bulk (by decide) (by decide) h1.1 ?_⟩
  rw [show (2 : Nat) ^ 20 = 1048576 from rfl]
  omega
/-! ### repr of data, and a law's call from outside all frames (there no guard is up) -/
section
variable {X : Cx}
def rRepr (K : PySem.W.Frag) : List V → Hp → VK → Prop := fun xs H Q => ∃ (a : Addr) (d : PyData), xs = [.ref a] ∧ Dp K H (.ref a) d ∧ d.showable = true ∧ d.hasDict = false ∧ d.depth ≤ 60 ∧ d.shown.length ≤ sizeLine ∧ Q (.str d.shown) H
theorem cRepr (K : PySem.W.Frag) (hg : X.A.guards = some []) (hu : X.A.units + 64 < cLine) (hK : X.K = K := by rfl) : CallR X (.builtin "repr") (rRepr K) := by
  subst hK
  rintro pins s σ H xs us Q I r ⟨a, d, rfl, hd, hs, hn, hp, hz, q⟩
  obtain ⟨u, rfl, ru⟩ := vals1 r
  cases ru
  obtain ⟨as, hr⟩ := Dp.reads I d _ _ hd rfl
  exact PySem.repr_of_reads' hr hs (fun z => by rw [hn] at z; cases z) hg (by omega) (fun _ _ e => e) (fun h' t tk kp => ⟨.str d.shown, H, I.kept kp, ⟨t, rfl⟩, q⟩) hz
end
/-- the law's def keeps sp where it is called with the script, from outside -/
def TopOk (P : Program) (w : World) (K : PySem.W.Frag) (mg : Str → Option Value) (base : Heap) (f : Addr) (sp : Sp) : Prop :=
  ∀ (s : Shared) (H : Hp) (a : Addr) (Q : VK), Env0 P w K mg base callerA [] s H → sp [.ref a] H Q E0 → codeAny (model P w) callerA (.call (.ref f) ⟨[.ref a], []⟩) (CR CX0 [] P w H s Q E0) s
theorem top_ok {P : Program} {w : World} {K : PySem.W.Frag} {mg : Str → Option Value} {base : Heap} {x : Str} {st : Stmt} {f : Addr} {fd : FuncData} {N : List Str} {k : Nat} {sp : Sp} (F : Fun K x x st f fd) (S : FnScope N ["script"] (defScope st)) (hroom : Room (k + 1) callerA)
    (bind : ∀ (s : Shared) (v : Value), BindsTo s fd ⟨[v], []⟩ [("script", v)])
    (body : ∀ (cdv : Value) (s : Shared) (H : Hp) (a : Addr) (Q : VK), Room k (callerA.deeper (envOfC x (defScope st) s.heap.objs.size f cdv)) → sp [.ref a] H Q E0 →
      ∃ t, PSs (cxOf CX0 P w K mg base N x (defScope st) f cdv callerA [] s H E0).nox (defBody st) t ∧ t { nx := fun _ H' => Q .non H', rt := Q } (start N [.ref a]) H) : TopOk P w K mg base f sp := by
  obtain ⟨c1, c2, c3, c4, c5, c6, cd, c8, c9, rfl, look, code⟩ := F.ex
  intro s H a Q env want
  have inS : K.In s.heap := PySem.W.Frag.In.keeps env.mod.kin (fun b o z => (env.bs b o z).1)
  have room := hroom.deeper (envOfC x (defScope st) s.heap.objs.size f cd)
  obtain ⟨t, good, read⟩ := body cd s H a Q room want
  refine codeAny_call_function (by decide) (inS f _ look) rfl S.co S.gen rfl (PySem.W.codeRec_of inS code) (bind s _ _ _ _ _ ?_)
  have names : ∀ y ∈ [(("script" : Str), Value.ref a)], (defScope st).names.lookup y.1 = some .local ∨ ((defScope st).names.lookup y.1 = some .cell ∧ ((cellsFrom (s.heap.objs.size + 1) (defScope st).names []).lookup y.1).isSome = true) := by
    intro y hy
    rw [List.mem_singleton.mp hy]
    exact (S.par "script" List.mem_cons_self).imp id fun z => ⟨z, PySem.W.cellsFrom_some _ _ _ (.inl z)⟩
  refine wpAny_newFunctionEnv_cells S.kind names ?_
  rintro _ rfl s1 made
  have few : s.heap.NoLimit := Heap.NoLimit.keeps env.mod.nolimit (fun b o z => (env.bs b o z).1)
  refine ⟨Heap.NoLimit.keeps few made.toInCall.keep, codeAny_func ?_⟩
  have inv := inv_start (CX := CX0) (vs := [V.ref a]) (us := [Value.ref a]) (E := E0) S hroom.hd env rfl (.cons rfl .nil) made
  refine wpAny_mono (good.nox.run [] s1 _ H _ inv read) ?_ (fun _ _ z => z)
  intro fl s2 out
  cases fl with
  | brk => exact False.elim out.choose_spec.choose_spec.2
  | cont => exact False.elim out.choose_spec.choose_spec.2
  | next =>
    obtain ⟨σ2, H2, inv2, q2⟩ := out
    exact ⟨.non, H2, inv2.os, inv2.bare, inv2.base, inv2.hok, rfl, q2⟩
  | ret u =>
    obtain ⟨v, σ2, H2, inv2, rel, q2⟩ := out
    exact ⟨v, H2, inv2.os, inv2.bare, inv2.base, inv2.hok, rel, q2⟩
/-- what the object of the script is taken for: the locked list, unless it is an object of the module -/
def hpOf (K : PySem.W.Frag) (a : Addr) (o : Obj) (ns : List Int) : Hp := fun b => if b = a ∧ K.lookup a = none then some (.frz o (.lst (ns.map V.int))) else none
theorem hp_none {K : PySem.W.Frag} {a b : Addr} {o : Obj} {ns : List Int} (h : b ≠ a) : hpOf K a o ns b = none := if_neg fun z => h z.1
theorem hp_ne {K : PySem.W.Frag} {a b : Addr} {o : Obj} {ns : List Int} {u : HO} (h : hpOf K a o ns b = some u) : b = a ∧ K.lookup a = none ∧ u = .frz o (.lst (ns.map V.int)) := by
  unfold hpOf at h
  split at h
  · rename_i c
    exact ⟨c.1, c.2, (Option.some.inj h).symm⟩
  · cases h
theorem ints_vals : ∀ {vs : List Value} {ns : List Int}, IntsAre vs ns → Vals (ns.map V.int) vs := fun h => vals_ints h
theorem top_call {P : Program} {w : World} {K : PySem.W.Frag} {mg mb : Str → Option Value} {fa a : Addr} {sp : Sp} {s1 : Shared} {vs : List Value} {ns : List Int} (KX : K.In s1.heap) (hns : s1.heap.Ns mainGlobals mg) (hb : s1.heap.Ns builtinsNs mb) (hbb : ∀ x : Str, x ≠ "__name__" → mb x = bootBuiltins x)
    (hlim : s1.heap.NoLimit) (hg : s1.gens = #[]) (ha : s1.heap.get? a = some { cls := .type "list", data := .seq vs.toArray }) (hi : IntsAre vs ns) (hl : ns.length ≤ sizeLine) (F : ∀ base : Heap, K.In base → base.Ns mainGlobals mg → TopOk P w K mg base fa sp)
    (hsp : ∀ H : Hp, SqL K H a (ns.map V.int) → sp [.ref a] H (fun v _ => v = .bl true) E0) :
    codeAny (model P w) callerA (.call (.ref fa) ⟨[.ref a], []⟩) (fun r s' => r = .ok (.ret (.bool true)) ∧ OldK s1.heap s'.heap ∧ s'.os = s1.os ∧ AllBare s'.gens) s1 := by
  have rel := vals_ints hi
  have size := hi.length
  generalize hob : ({ cls := .type "list", data := .seq vs.toArray } : Obj) = ob at ha
  generalize hH : hpOf K a ob ns = H
  have known : ∀ {b : Addr} {u : HO}, H b = some u → b = a ∧ K.lookup a = none ∧ u = .frz ob (.lst (ns.map V.int)) := fun z => hp_ne (hH ▸ z)
  have free : ∀ {b : Addr}, b ≠ a → H b = none := fun z => hH ▸ hp_none z
  -- what is a dict, or the module's own, is not hidden
  have dictFree : ∀ {b : Addr} {o : Obj} {es : Array DictEntry} {ep : Nat}, s1.heap.get? b = some o → o.data = .dict es ep → H b = none := by
    intro b o es ep e d
    refine free fun z => ?_
    rw [z, ha] at e
    cases e
    rw [← hob] at d
    cases d
  have kFree : ∀ {b : Addr} {o : Obj}, K.lookup b = some o → H b = none := by
    intro b o e
    cases h : H b with
    | none => rfl
    | some u =>
      obtain ⟨z1, z2, _⟩ := known h
      rw [z1, z2] at e
      cases e
  have seen : ∀ {b : Addr} {o : Obj}, s1.heap.get? b = some o → H b = none → (hidT s1.heap H).get? b = some o := fun e n => hidT_get e n
  have kIn : K.In (hidT s1.heap H) := fun b o e => seen (KX b o e) (kFree e)
  have spaces : ∀ {b : Addr} {m : Str → Option Value}, s1.heap.Ns b m → (hidT s1.heap H).Ns b m := by
    rintro b m ⟨o, es, ep, e, d, r⟩
    exact ⟨o, es, ep, seen e (dictFree e d), d, r⟩
  have limit : (hidT s1.heap H).NoLimit := by
    obtain ⟨mc, l1, l2⟩ := hlim
    exact ⟨mc, spaces l1, l2⟩
  have ok : HOk P w H s1.heap := by
    intro b u z
    obtain ⟨rfl, _, rfl⟩ := known z
    subst hob
    exact ⟨ha, by rw [List.length_map]; exact hl, vs, _, rel, ha⟩
  have script : SqL K H a (ns.map V.int) := by
    cases h : K.lookup a with
    | none => exact .inl (.inr ⟨ob, by rw [← hH]; exact if_pos ⟨rfl, h⟩⟩)
    | some o =>
      have e := KX a o h
      rw [ha] at e
      cases e
      subst hob
      exact .inr ⟨_, vs.toArray, _, h, rfl, rfl, rfl, by rw [List.size_toArray, size]; exact hl, by rw [List.toList_toArray]; exact rel⟩
  have env : Env0 P w K mg (hidT s1.heap H) callerA [] s1 H := {
    frames := rfl
    mod := ⟨kIn, spaces hns, ⟨mb, spaces hb, hbb⟩, limit⟩
    bs := fun _ _ z => of_hidT z
    bsz := Nat.le_of_eq (hidT_size _ _)
    funs := trivial
    frf := fun _ z => nomatch z
    hok := ok
    bare := .of_eq hg }
  refine codeAny_mono (F _ kIn (spaces hns) s1 H a _ env (hsp H script)) ?_
  intro r s2 out
  match r, out with
  | .error _, out => exact False.elim out
  | .ok .next, out => exact False.elim out
  | .ok .brk, out => exact False.elim out
  | .ok .cont, out => exact False.elim out
  | .ok (.ret u), ⟨v, H2, os, bare, un, ok2, ru, qv⟩ =>
    have qv' : v = .bl true := qv
    subst qv'
    have ru' : u = Value.bool true := ru
    subst ru'
    refine ⟨rfl, OldK.of_keep ?_, os, bare⟩
    intro b o e
    cases h : H b with
    | none => exact un.keep b o e h (fun z => nomatch z) (fun z => nomatch z)
    | some x =>
      obtain ⟨rfl, _, rfl⟩ := known h
      have later := (ok2 b _ (un.frzs b ob _ h)).1
      rw [ha] at e
      cases e
      exact later
theorem walk_top {l : PySem.W.OpenLaw} {n : Nat} {q : Program} {loose : List Str} {XP : (Str → Option Value) → Heap → Prop} {YP : World → Heap → Prop} {d : DefRec} {K : Params → PySem.W.Frag} {sp : World → Sp} (hn : l.most = some n) (hn2 : n ≤ sizeLine) (hdf : d.params.defaults = [])
    (hY : ∀ (w : World) (h : Heap), YP w h → (K w.params).In h)
    (F : ∀ (w : World) (mg : Str → Option Value) (fa : Addr) (h : Heap), (K w.params).In h → h.Ns mainGlobals mg → mg d.name = some (.ref fa) → ∀ base : Heap, (K w.params).In base → base.Ns mainGlobals mg → TopOk l.prog w (K w.params) mg base fa (sp w))
    (hsp : ∀ (w : World) (H : Hp) (a : Addr) (ns : List Int), ns.length ≤ n → SqL (K w.params) H a (ns.map V.int) → sp w [.ref a] H (fun v _ => v = .bl true) E0) :
    PySem.W.WalkO q loose XP YP l.row.toRowW d [] (fun f vs => PySem.call f vs) := by
  refine Att.attach_call hn hdf ?_
  intro w s0 s1 mg mb fa o pm cd doc a vs ns G Y ho hd hcd hmg hobj hints hlen hg
  exact top_call (hY w _ Y) G.T.g G.T.b G.T.builtins G.T.nolimit hg hobj hints (Nat.le_trans hlen hn2) (F w mg fa _ (hY w _ Y) G.T.g hmg) fun H hS => hsp w H a ns hlen hS
theorem orM {A B : TT} {t u r : TS} {D : Ends} {σ : L2.St} {H : Hp} (h : Ans A σ H false) (hb : tSeq (tIfS B t u) r D σ H) : tSeq (tIfS (tOr A B) t u) r D σ H := h _ (iteF hb)
theorem neM (s : Str) : (!decide (V.str s = V.str s)) = false := by
  rw [decide_eq_true rfl]
  rfl
theorem nbM (b : Bool) : (!decide (V.bl b = V.bl b)) = false := by
  rw [decide_eq_true rfl]
  rfl
theorem nvM {d : PyData} (e : PyData.eqv d d = true) : (!PyData.eqv d d) = false := by
  rw [e]
  rfl
theorem ansF {t : TT} {σ : L2.St} {H : Hp} {Q : Bool → Hp → Prop} (h : Ans t σ H false) (q : Q false H) : t σ H Q := h _ q
theorem orA {A B : TT} {σ : L2.St} {H : Hp} {Q : Bool → Hp → Prop} (h : Ans A σ H false) (q : B σ H Q) : tOr A B σ H Q := h _ (iteF q)
/-! ### situations -/
/-- xs[i] read before it is stored anew -/
def rGetL (K : PySem.W.Frag) : R2 := fun x y H Q => ∃ p xs i v, x = .ref p ∧ y = .int i ∧ 0 ≤ i ∧ SqL K H p xs ∧ atI xs i = some v ∧ Q v H
theorem get_list {X : Cx} : PGet X (rGetL X.K) := by
  intro pins s σ H x y v u Q I rx ry h
  obtain ⟨p, xs, i, z, rfl, rfl, h0, hq, he, q⟩ := h
  cases rx
  obtain ⟨t, rfl⟩ := ry
  obtain ⟨its, r, pl, hz⟩ := I.list hq
  obtain ⟨j, h1, h2, h3, h4, h5⟩ := atI_get he
  obtain ⟨w, ew, rw'⟩ := r.get h2
  have hl := r.length
  have hn := line63
  have hj : i.toNat = j := by
    rw [seqIndex_of h0 h5] at h1
    exact Option.some.inj h1
  exact wpAny_getItem_list pl.isList h0 (by omega) (by rw [hj]; simpa using ew) ⟨z, H, I, rw', q⟩
theorem getL {X : Cx} (K : PySem.W.Frag) (h : X.K = K := by rfl) : PGet X (rGetL K) := h ▸ get_list
/-- a situation: a pair of a number and a list of numbers -/
def Sit (K : PySem.W.Frag) (H : Hp) (v : V) (s : Int) (ns : List Int) : Prop := ∃ a ca, v = .ref a ∧ SqT K H a [.int s, .ref ca] ∧ SqL K H ca (ns.map V.int)
theorem Same.sit {K : PySem.W.Frag} {H H' : Hp} (e : Same H H') {v : V} {s : Int} {ns : List Int} (h : Sit K H v s ns) : Sit K H' v s ns := by
  obtain ⟨a, ca, e1, h1, h2⟩ := h
  exact ⟨a, ca, e1, Same.seqT e h1, e.seq h2⟩
def sitD (s : Int) (ns : List Int) : PyData := .tuple [.int s, .list (ns.map PyData.int)]
theorem sit_dp {K : PySem.W.Frag} {H : Hp} {v : V} {s : Int} {ns : List Int} (h : Sit K H v s ns) : Dp K H v (sitD s ns) := by
  obtain ⟨a, ca, rfl, h1, h2⟩ := h
  exact .tup h1 (.cons (.int _) (.cons (.lst h2 (dpa_ints ns)) .nil))
theorem dpa_intsE {K : PySem.W.Frag} {H : Hp} : ∀ {ns : List Int} {vs : List V}, DpAll K H vs (ns.map PyData.int) → vs = ns.map V.int
  | [], _, h => dpa_nil h
  | n :: ns, vs, h => by
    obtain ⟨v, r, rfl, h1, h2⟩ := dpa_cons h
    rw [dp_int h1, dpa_intsE h2]
    rfl
theorem dp_sit {K : PySem.W.Frag} {H : Hp} {v : V} {s : Int} {ns : List Int} (h : Dp K H v (sitD s ns)) : Sit K H v s ns := by
  obtain ⟨a, xs, rfl, h1, h2⟩ := dp_tup h
  obtain ⟨v1, r1, rfl, d1, h2⟩ := dpa_cons h2
  obtain ⟨v2, r2, rfl, d2, h2⟩ := dpa_cons h2
  obtain rfl := dpa_nil h2
  obtain ⟨ca, cxs, rfl, h3, h4⟩ := dp_lst d2
  rw [dp_int d1] at h1
  rw [dpa_intsE h4] at h3
  exact ⟨a, ca, rfl, h1, h3⟩
/-- at least as many everywhere -/
def geAll : List Int → List Int → Bool
  | m :: ms, n :: ns => decide (n ≤ m) && geAll ms ns
  | _, _ => true
theorem geAll_refl : ∀ ms : List Int, geAll ms ms = true
  | [] => rfl
  | m :: ms => by
    show (decide (m ≤ m) && geAll ms ms) = true
    rw [decide_eq_true (Int.le_refl m), geAll_refl ms]
    rfl
theorem geAll_take {ms ns : List Int} {m n : Int} : ∀ {i : Nat}, ms[i]? = some m → ns[i]? = some n → geAll (ms.take (i + 1)) (ns.take (i + 1)) = (geAll (ms.take i) (ns.take i) && decide (n ≤ m)) := by
  induction ms generalizing ns with
  | nil => intro i h; simp at h
  | cons a ms ih =>
    intro i h1 h2
    cases ns with
    | nil => simp at h2
    | cons b ns =>
      cases i with
      | zero =>
        cases h1
        cases h2
        show (decide (n ≤ m) && geAll (ms.take 0) (ns.take 0)) = (true && _)
        rw [List.take_zero, List.take_zero]
        show (decide (n ≤ m) && true) = _
        rw [Bool.and_true, Bool.true_and]
      | succ i =>
        show (decide (b ≤ a) && geAll (ms.take (i + 1)) (ns.take (i + 1))) = ((decide (b ≤ a) && geAll (ms.take i) (ns.take i)) && decide (n ≤ m))
        rw [ih h1 h2, Bool.and_assoc]
theorem geAll_false {ms ns : List Int} : ∀ {i : Nat}, geAll (ms.take i) (ns.take i) = false → geAll ms ns = false := by
  induction ms generalizing ns with
  | nil => intro i h; rw [List.take_nil] at h; cases h
  | cons a ms ih =>
    intro i h
    cases ns with
    | nil => rw [List.take_nil] at h; cases i <;> cases h
    | cons b ns =>
      cases i with
      | zero => cases h
      | succ i =>
        have h' : (decide (b ≤ a) && geAll (ms.take i) (ns.take i)) = false := h
        show (decide (b ≤ a) && geAll ms ns) = false
        cases hb : decide (b ≤ a) with
        | false => rfl
        | true =>
          rw [hb, Bool.true_and] at h'
          rw [ih h']
          rfl
/-- the first covers the second -/
def covB (s : Int) (ms : List Int) (t : Int) (ns : List Int) : Bool := decide (s = t) && geAll ms ns
theorem covB_refl (s : Int) (ms : List Int) : covB s ms s ms = true := by
  unfold covB
  rw [decide_eq_true (show s = s from rfl), geAll_refl]
  rfl
theorem ixN_nat {n j : Nat} (hj : j < n) : ixN n (j : Int) = some j := by
  unfold ixN
  rw [if_pos (by omega), if_pos (by omega)]
  simp
theorem gd {ds : List Int} {i : Nat} (h : i < ds.length) : ds[i]? = some (ds.getD i 0) := by
  rw [List.getD_eq_getElem?_getD, List.getElem?_eq_getElem h]
  rfl
theorem gd_mem {ds : List Int} {i : Nat} (h : i < ds.length) : ds.getD i 0 ∈ ds := List.mem_of_getElem? (gd h)
theorem at_gd {ds : List Int} {i : Int} {j : Nat} (e : i = (j : Int)) (h : j < ds.length) : atI (ds.map V.int) i = some (.int (ds.getD j 0)) := by
  rw [e]
  exact atI_nat (get_map (gd h))
theorem mod_in (z : Int) {m : Int} (h : 0 < m) : 0 ≤ z % m ∧ z % m < m := ⟨Int.emod_nonneg _ (by omega), Int.emod_lt_of_pos _ h⟩
theorem cut_ints {ds : List Int} {a n : Nat} {i j : Int} (h : a + n ≤ ds.length) (hi : i = (a : Int)) (hj : j = ((a + n : Nat) : Int)) : cutV (ds.map V.int) (some i) (some j) = ((ds.drop a).take n).map V.int := by
  subst hi
  subst hj
  unfold cutV
  rw [HT.sIx_nat, HT.sIx_nat, List.length_map, Nat.min_eq_left (show a ≤ ds.length by omega), Nat.min_eq_left h, List.map_take, List.map_drop, Nat.add_sub_cancel_left]
theorem rep_one (n : Nat) (x : V) : (List.replicate n [x]).flatten = List.replicate n x := by
  induction n with
  | zero => rfl
  | succ n ih =>
    show x :: (List.replicate n [x]).flatten = x :: List.replicate n x
    rw [ih]
theorem rep_map (n : Nat) (x : Int) : List.replicate n (V.int x) = (List.replicate n x).map V.int := by rw [List.map_replicate]
theorem int_eqE (a b : Int) : decide (V.int a = V.int b) = decide (a = b) := by
  by_cases h : a = b
  · rw [decide_eq_true h, h, decide_eq_true rfl]
  · rw [decide_eq_false h, decide_eq_false fun z => h (by cases z; rfl)]
/-- the heap without B -/
def Ho (B : Addr) (H : Hp) : Hp := fun x => if x = B then none else H x
theorem ho_out {B : Addr} {H : Hp} : Same (Ho B H) H := fun b x e => by
  unfold Ho at e
  split at e
  · cases e
  · exact e
theorem ho_same {B : Addr} {H H' : Hp} (s : Same H H') : Same (Ho B H) (Ho B H') := fun b x e => by
  unfold Ho at e ⊢
  split at e
  · cases e
  · rename_i h; rw [if_neg h]; exact s _ _ e
theorem ho_mut {B : Addr} {H : Hp} {u : HO} : Same (Ho B H) (Ho B (upd H B u)) := fun b x e => by
  unfold Ho at e ⊢
  split at e
  · cases e
  · rename_i h; rw [if_neg h, upd_ne h]; exact e
theorem ho_first {B : Addr} {H : Hp} {u : HO} (nB : H B = none) : Same H (Ho B (upd H B u)) := fun b x e => by
  have h : b ≠ B := ne_of_none e nB
  show (if b = B then none else upd H B u b) = _
  rw [if_neg h, upd_ne h]
  exact e
theorem dp_newT {K : PySem.W.Frag} {H : Hp} {p : Addr} {xs : List V} {ds : List PyData} (np : H p = none) (h : DpAll K H xs ds) : Dp K (upd H p (.tup xs)) (.ref p) (.tuple ds) := .tup (st upd_same) (dpAll_mono (same_new np) h)
theorem dp_newL {K : PySem.W.Frag} {H : Hp} {p : Addr} {xs : List V} {ds : List PyData} (np : H p = none) (h : DpAll K H xs ds) : Dp K (upd H p (.lst xs)) (.ref p) (.list ds) := .lst (sq upd_same) (dpAll_mono (same_new np) h)
theorem dpo_newT {K : PySem.W.Frag} {H : Hp} {B p : Addr} {o : HO} {xs : List V} {ds : List PyData} (eB : H B = some o) (np : H p = none) (h : DpAll K (Ho B H) xs ds) : Dp K (Ho B (upd H p (.tup xs))) (.ref p) (.tuple ds) := by
  have hne : p ≠ B := fun e => by rw [e, eB] at np; cases np
  refine .tup (st ?_) (dpAll_mono (ho_same (same_new np)) h)
  show (if p = B then none else upd H p (.tup xs) p) = _
  rw [if_neg hne]
  exact upd_same
theorem dpo_newL {K : PySem.W.Frag} {H : Hp} {B p : Addr} {o : HO} {xs : List V} {ds : List PyData} (eB : H B = some o) (np : H p = none) (h : DpAll K (Ho B H) xs ds) : Dp K (Ho B (upd H p (.lst xs))) (.ref p) (.list ds) := by
  have hne : p ≠ B := fun e => by rw [e, eB] at np; cases np
  refine .lst (sq ?_) (dpAll_mono (ho_same (same_new np)) h)
  show (if p = B then none else upd H p (.lst xs) p) = _
  rw [if_neg hne]
  exact upd_same
/-! ### machines -/
abbrev nV (n : Nat) : V := .int (n : Int)
abbrev nD (n : Nat) : PyData := .int (n : Int)
structure MvT where
  st : Nat
  pl : Nat
  ns : Nat
  np : Nat
  sd : Option Nat
  sh : List (Nat × Nat)
def sdV : Option Nat → V
  | none => .non
  | some d => nV d
def sdD : Option Nat → PyData
  | none => .none
  | some d => nD d
def shD (p : Nat × Nat) : PyData := .tuple [nD p.1, nD p.2]
def MvT.data (m : MvT) : PyData := .tuple [nD m.st, nD m.pl, nD m.ns, nD m.np, sdD m.sd, .list (m.sh.map shD)]
structure MT where
  states : Nat
  places : Nat
  sst : Nat
  cnts : List Int
  crew : Nat
  moves : List MvT
def MT.data (M : MT) : PyData := .tuple [nD M.states, nD M.places, sitD M.sst M.cnts, nD M.crew, .list (M.moves.map MvT.data)]
structure ShOk (sh : List (Nat × Nat)) (P : Nat) : Prop where
  asc : (sh.map (·.1)).Pairwise (· < ·)
  fst : ∀ p ∈ sh, p.1 < P
  snd : ∀ p ∈ sh, p.2 < P
  sep : ∀ p ∈ sh, ∀ q ∈ sh, p.2 ≠ q.1
structure MvT.Fit (m : MvT) (S P : Nat) : Prop where
  st : m.st < S
  pl : m.pl < P
  ns : m.ns < S
  np : m.np < P
  sd : ∀ d, m.sd = some d → d < P
  sh : ShOk m.sh P
structure MT.Ok (M : MT) : Prop where
  s1 : 1 ≤ M.states
  s2 : M.states ≤ 4
  p1 : 1 ≤ M.places
  p2 : M.places ≤ 6
  ss : M.sst < M.states
  cl : M.cnts.length = M.places
  cb : ∀ c ∈ M.cnts, 0 ≤ c ∧ c < 3
  cr : M.crew < M.places
  ml : M.moves.length ≤ 12
  fit : ∀ m ∈ M.moves, m.Fit M.states M.places
  nd : M.moves.Nodup
def shiftAll (sh : List (Nat × Nat)) (cs : List Int) : List Int := sh.foldl (fun cs p => (cs.set p.2 (cs.getD p.2 0 + cs.getD p.1 0)).set p.1 0) cs
def bump (cs : List Int) (k : Nat) (z : Int) : List Int := cs.set k (cs.getD k 0 + z)
def MvT.mid (m : MvT) (cs : List Int) : List Int := shiftAll m.sh (bump cs m.pl (-1))
def MvT.aft (m : MvT) (cs : List Int) : List Int := match m.sd with
  | none => bump (m.mid cs) m.np 1
  | some d => bump (bump (m.mid cs) m.np 1) d 1
def MvT.can (m : MvT) (s : Int) (cs : List Int) : Bool := decide ((m.st : Int) = s) && decide (0 < cs.getD m.pl 0)
def canAt (ms : List MvT) (s : Int) (cs : List Int) (k : Nat) : Bool := match ms[k]? with
  | some m => m.can s cs
  | none => false
def canL (ms : List MvT) (s : Int) (cs : List Int) : List Nat := (List.range ms.length).filter (canAt ms s cs)
theorem shiftAll_len : ∀ (sh : List (Nat × Nat)) (cs : List Int), (shiftAll sh cs).length = cs.length
  | [], _ => rfl
  | p :: r, cs => by
    show (shiftAll r _).length = _
    rw [shiftAll_len r, List.length_set, List.length_set]
theorem bump_len (cs : List Int) (k : Nat) (z : Int) : (bump cs k z).length = cs.length := List.length_set
theorem mid_len (m : MvT) (cs : List Int) : (m.mid cs).length = cs.length := by
  unfold MvT.mid
  rw [shiftAll_len, bump_len]
theorem aft_len (m : MvT) (cs : List Int) : (m.aft cs).length = cs.length := by
  unfold MvT.aft
  split
  · rw [bump_len, mid_len]
  · rw [bump_len, bump_len, mid_len]
theorem shiftAll_snoc (sh : List (Nat × Nat)) (p : Nat × Nat) (cs : List Int) : shiftAll (sh ++ [p]) cs = ((shiftAll sh cs).set p.2 ((shiftAll sh cs).getD p.2 0 + (shiftAll sh cs).getD p.1 0)).set p.1 0 := by
  unfold shiftAll
  rw [List.foldl_append]
  rfl
theorem filt_yes {f : Nat → Bool} {i : Nat} (h : f i = true) : (List.range (i + 1)).filter f = (List.range i).filter f ++ [i] := by
  rw [List.range_succ, List.filter_append, List.filter_cons, if_pos h]
  rfl
theorem filt_no {f : Nat → Bool} {i : Nat} (h : f i = false) : (List.range (i + 1)).filter f = (List.range i).filter f := by
  rw [List.range_succ, List.filter_append, List.filter_cons, if_neg (by rw [h]; decide)]
  show _ ++ [] = _
  rw [List.append_nil]
theorem filt_len (n : Nat) (f : Nat → Bool) : ((List.range n).filter f).length ≤ n := by
  have h := List.length_filter_le f (List.range n)
  rw [List.length_range] at h
  exact h
theorem mem_canL {ms : List MvT} {s : Int} {cs : List Int} {k : Nat} : k ∈ canL ms s cs ↔ ∃ m, ms[k]? = some m ∧ m.can s cs = true := by
  unfold canL
  rw [List.mem_filter, List.mem_range]
  unfold canAt
  constructor
  · rintro ⟨h1, h2⟩
    rw [List.getElem?_eq_getElem h1] at h2
    exact ⟨_, List.getElem?_eq_getElem h1, h2⟩
  · rintro ⟨m, h1, h2⟩
    rw [h1]
    exact ⟨(List.getElem?_eq_some_iff.mp h1).1, h2⟩
section
variable {K : PySem.W.Frag} {H : Hp}
theorem dp_sd {v : V} {o : Option Nat} (h : Dp K H v (sdD o)) : v = sdV o := by
  cases o with
  | none => cases h; rfl
  | some d => exact dp_int h
theorem sd_dp (o : Option Nat) : Dp K H (sdV o) (sdD o) := by
  cases o with
  | none => exact .non
  | some d => exact .int _
theorem dp_sh {v : V} {p : Nat × Nat} (h : Dp K H v (shD p)) : ∃ a, v = .ref a ∧ SqT K H a [nV p.1, nV p.2] := by
  obtain ⟨a, xs, rfl, hs, h⟩ := dp_tup h
  obtain ⟨v1, r1, rfl, d1, h⟩ := dpa_cons h
  obtain ⟨v2, r2, rfl, d2, h⟩ := dpa_cons h
  rw [dp_int d1, dp_int d2, dpa_nil h] at hs
  exact ⟨a, rfl, hs⟩
theorem dp_mv {v : V} {m : MvT} (h : Dp K H v m.data) : ∃ a sa xs, v = .ref a ∧ SqT K H a [nV m.st, nV m.pl, nV m.ns, nV m.np, sdV m.sd, .ref sa] ∧ SqL K H sa xs ∧ DpAll K H xs (m.sh.map shD) := by
  obtain ⟨a, xs, rfl, hs, h⟩ := dp_tup h
  obtain ⟨v1, r1, rfl, d1, h⟩ := dpa_cons h
  obtain ⟨v2, r2, rfl, d2, h⟩ := dpa_cons h
  obtain ⟨v3, r3, rfl, d3, h⟩ := dpa_cons h
  obtain ⟨v4, r4, rfl, d4, h⟩ := dpa_cons h
  obtain ⟨v5, r5, rfl, d5, h⟩ := dpa_cons h
  obtain ⟨v6, r6, rfl, d6, h⟩ := dpa_cons h
  obtain rfl := dpa_nil h
  obtain ⟨sa, ys, rfl, h1, h2⟩ := dp_lst d6
  rw [dp_int d1, dp_int d2, dp_int d3, dp_int d4, dp_sd d5] at hs
  exact ⟨a, sa, ys, rfl, hs, h1, h2⟩
theorem dp_mt {v : V} {M : MT} (h : Dp K H v M.data) : ∃ a sv ma xs, v = .ref a ∧ SqT K H a [nV M.states, nV M.places, sv, nV M.crew, .ref ma] ∧ Sit K H sv M.sst M.cnts ∧ SqL K H ma xs ∧ DpAll K H xs (M.moves.map MvT.data) := by
  obtain ⟨a, xs, rfl, hs, h⟩ := dp_tup h
  obtain ⟨v1, r1, rfl, d1, h⟩ := dpa_cons h
  obtain ⟨v2, r2, rfl, d2, h⟩ := dpa_cons h
  obtain ⟨v3, r3, rfl, d3, h⟩ := dpa_cons h
  obtain ⟨v4, r4, rfl, d4, h⟩ := dpa_cons h
  obtain ⟨v5, r5, rfl, d5, h⟩ := dpa_cons h
  obtain rfl := dpa_nil h
  obtain ⟨ma, ys, rfl, h1, h2⟩ := dp_lst d5
  rw [dp_int d1, dp_int d2, dp_int d4] at hs
  exact ⟨a, v3, ma, ys, rfl, hs, dp_sit d3, h1, h2⟩
theorem dpa_map_at {α : Type} {f : α → PyData} {xs : List V} {as : List α} (h : DpAll K H xs (as.map f)) {i : Nat} {x : V} (hx : xs[i]? = some x) : ∃ a, as[i]? = some a ∧ Dp K H x (f a) := by
  obtain ⟨d, hd, dx⟩ := dpa_at h hx
  obtain ⟨a, ha, rfl⟩ : ∃ a, as[i]? = some a ∧ d = f a := by
    rw [List.getElem?_map] at hd
    cases e : as[i]? with
    | none => rw [e] at hd; cases hd
    | some a => rw [e] at hd; exact ⟨a, rfl, (Option.some.inj hd).symm⟩
  exact ⟨a, ha, dx⟩
theorem dpa_map_at' {α : Type} {f : α → PyData} {xs : List V} {as : List α} (h : DpAll K H xs (as.map f)) {i : Nat} {a : α} (ha : as[i]? = some a) : ∃ x, xs[i]? = some x ∧ Dp K H x (f a) := by
  obtain ⟨v, hv, dv⟩ := dpa_at' h (i := i) (d := f a) (by rw [List.getElem?_map, ha]; rfl)
  exact ⟨v, hv, dv⟩
theorem dpa_map_len {α : Type} {f : α → PyData} {xs : List V} {as : List α} (h : DpAll K H xs (as.map f)) : xs.length = as.length := by
  have := dpa_len h
  rw [List.length_map] at this
  exact this
end
theorem at_n {xs : List V} {i : Int} {j : Nat} {v : V} (e : i = (j : Int)) (h : xs[j]? = some v) : atI xs i = some v := by
  rw [e]
  exact atI_nat h
theorem hu65 {A : Around} {k : Nat} (hr : Room k A) : A.units + 65 < cLine := by
  have := hr.un
  omega
theorem opNotInD {X : Cx} (K : PySem.W.Frag) (hu : X.A.units + 65 < cLine) (h : X.K = K := by rfl) : OpR X (compareOp .NotIn) (rNotInD K) := h ▸ op_notInD hu
theorem opInD {X : Cx} (K : PySem.W.Frag) (hu : X.A.units + 65 < cLine) (h : X.K = K := by rfl) : OpR X (compareOp .In) (rInD K) := h ▸ op_inD hu
/-! ### sorted of situations -/
def encS (p : V × Int × List Int) : PyData := sitD p.2.1 p.2.2
abbrev leS : V × Int × List Int → V × Int × List Int → Bool := PySem.W.dataLe false encS
def rSortS (K : PySem.W.Frag) : List V → Hp → VK → Prop := fun vs H Q => ∃ (a : Addr) (ps : List (V × Int × List Int)), vs = [.ref a] ∧ SqL K H a (ps.map (·.1)) ∧ (∀ p ∈ ps, Sit K H p.1 p.2.1 p.2.2) ∧ ∀ q, H q = none → Q (.ref q) (upd H q (.lst ((ps.mergeSort leS).map (·.1))))
theorem each_of_vals {H : Heap} : ∀ {ps : List (V × Int × List Int)} {us : List Value}, (∀ p ∈ ps, ∀ u, RelV p.1 u → ∃ as, Reads H u (encS p) as) → Vals (ps.map (·.1)) us → PySem.W.EachIs (fun v (p : V × Int × List Int) => RelV p.1 v) us ps ∧ PySem.W.EachIs (fun v p => ∃ as, Reads H v (encS p) as) us ps
  | [], us, _, h => by cases h; exact ⟨.nil, .nil⟩
  | p :: ps, us, hr, h => by
    cases h with
    | cons h t =>
      obtain ⟨e1, e2⟩ := each_of_vals (fun q hq => hr q (List.mem_cons_of_mem _ hq)) t
      exact ⟨.cons h e1, .cons (hr p List.mem_cons_self _ h) e2⟩
theorem vals_of_each : ∀ {ps : List (V × Int × List Int)} {us : List Value}, PySem.W.EachIs (fun v (p : V × Int × List Int) => RelV p.1 v) us ps → Vals (ps.map (·.1)) us
  | [], _, h => by cases h; exact .nil
  | p :: ps, _, h => by
    cases h with
    | cons h t => exact .cons h (vals_of_each t)
theorem alike_sits (p q : V × Int × List Int) : PySem.W.alike (encS p) (encS q) = true := by
  have h := PySem.W.alike_ints p.2.2 q.2.2
  simp [encS, sitD, PySem.W.alike, PySem.W.alikeAll, h]
theorem depth_sit (s : Int) (ns : List Int) : PyData.depth (sitD s ns) = 2 := by
  have h := PySem.W.depth_ints ns
  show max 0 (max (PyData.depthAll (ns.map PyData.int) + 1) 0) + 1 = 2
  rw [h]
  rfl
theorem cSortS {X : Cx} (K : PySem.W.Frag) (hu : X.A.units + 64 < cLine) (hK : X.K = K := by rfl) : CallR X (.builtin "sorted") (rSortS K) := by
  subst hK
  intro pins s σ H vs us Q I r h
  obtain ⟨a, ps, rfl, hs, hd, q⟩ := h
  obtain ⟨u, rfl, rx⟩ := vals1 r
  cases rx
  obtain ⟨its, rv, pl, hz⟩ := I.list hs
  have hlen := rv.length
  rw [List.length_map] at hlen hz
  obtain ⟨e, er⟩ := each_of_vals (H := s.heap) (fun p hp u hu => Dp.reads I (encS p) p.1 u (sit_dp (hd p hp)) hu) rv
  refine PySem.W.sorted_data (R := fun v (p : V × Int × List Int) => RelV p.1 v) (enc := encS) (bs := ps) pl.isList e er (PySem.W.AllAlike.of alike_sits) (PySem.W.Sortable.tuples fun p => ⟨_, _, rfl⟩) hz (fun p _ => ?_) fun out ho eo => ?_
  · rw [show PyData.depth (encS p) = 2 from depth_sit _ _]
    omega
  · obtain ⟨n, hn⟩ := sortedAll_at s.heap its out.toArray
    have hm : (ps.mergeSort leS).length = ps.length := List.length_mergeSort ps
    refine ⟨.ref _, upd H _ (.lst ((ps.mergeSort leS).map (·.1))), I.laid (t' := s.toks) (fun b o e => sortedAll_old e) (Nat.le_succ _) ⟨?_, out, n, vals_of_each eo, hn⟩, rfl, q _ (I.hok.fresh (Nat.le_succ _))⟩
    rw [List.length_map, hm]
    exact hz
/-! ### the order of situations -/
abbrev Sn := Int × List Int
def sD (b : Sn) : PyData := sitD b.1 b.2
def ltL : List Int → List Int → Bool
  | a :: as, b :: bs => if a = b then ltL as bs else decide (a < b)
  | _, _ => false
def ltS (p q : Sn) : Bool := if p.1 = q.1 then ltL p.2 q.2 else decide (p.1 < q.1)
def covS (p q : Sn) : Bool := covB p.1 p.2 q.1 q.2
theorem ltL_core : ∀ {as bs : List Int}, as.length = bs.length → ltL as bs = decide (as < bs)
  | [], [], _ => by simp [ltL]
  | [], _ :: _, h => by cases h
  | _ :: _, [], h => by cases h
  | a :: as, b :: bs, h => by
    unfold ltL
    by_cases e : a = b
    · rw [if_pos e, ltL_core (Nat.succ.inj h)]
      simp [e, List.cons_lt_cons_iff]
    · rw [if_neg e]
      simp [e, List.cons_lt_cons_iff]
theorem ltL_irr : ∀ as : List Int, ltL as as = false
  | [] => rfl
  | a :: as => by unfold ltL; rw [if_pos rfl]; exact ltL_irr as
theorem ltL_tr : ∀ {as bs cs : List Int}, ltL as bs = true → ltL bs cs = true → ltL as cs = true
  | [], _, _, h, _ => by cases h
  | _ :: _, [], _, h, _ => by cases h
  | _ :: _, _ :: _, [], _, h => by cases h
  | a :: as, b :: bs, c :: cs, h1, h2 => by
    unfold ltL at h1 h2 ⊢
    by_cases e1 : a = b
    · subst e1
      rw [if_pos rfl] at h1
      by_cases e2 : a = c
      · rw [if_pos e2] at h2 ⊢
        exact ltL_tr h1 h2
      · rw [if_neg e2] at h2 ⊢
        exact h2
    · rw [if_neg e1] at h1
      have h1 := of_decide_eq_true h1
      by_cases e2 : b = c
      · subst e2
        rw [if_neg e1]
        exact decide_eq_true h1
      · rw [if_neg e2] at h2
        have h2 := of_decide_eq_true h2
        rw [if_neg (by omega)]
        exact decide_eq_true (by omega)
theorem ltL_tot : ∀ {as bs : List Int}, as.length = bs.length → ltL as bs = false → ltL bs as = false → as = bs
  | [], [], _, _, _ => rfl
  | [], _ :: _, h, _, _ => by cases h
  | _ :: _, [], h, _, _ => by cases h
  | a :: as, b :: bs, h, h1, h2 => by
    unfold ltL at h1 h2
    by_cases e : a = b
    · subst e
      rw [if_pos rfl] at h1 h2
      rw [ltL_tot (Nat.succ.inj h) h1 h2]
    · rw [if_neg e] at h1
      rw [if_neg (Ne.symm e)] at h2
      have h1 := of_decide_eq_false h1
      have h2 := of_decide_eq_false h2
      omega
theorem geAll_lt : ∀ {as bs : List Int}, geAll as bs = true → ltL as bs = false
  | [], _, _ => rfl
  | _ :: _, [], _ => rfl
  | a :: as, b :: bs, h => by
    have h : (decide (b ≤ a) && geAll as bs) = true := h
    rw [Bool.and_eq_true, decide_eq_true_eq] at h
    unfold ltL
    by_cases e : a = b
    · rw [if_pos e]; exact geAll_lt h.2
    · rw [if_neg e]; exact decide_eq_false (by omega)
theorem geAll_tr : ∀ {as bs cs : List Int}, as.length = bs.length → bs.length = cs.length → geAll as bs = true → geAll bs cs = true → geAll as cs = true
  | [], [], [], _, _, _, _ => rfl
  | [], [], _ :: _, _, h, _, _ => by cases h
  | [], _ :: _, _, h, _, _, _ => by cases h
  | _ :: _, [], _, h, _, _, _ => by cases h
  | _ :: _, _ :: _, [], _, h, _, _ => by cases h
  | a :: as, b :: bs, c :: cs, l1, l2, h1, h2 => by
    have h1 : (decide (b ≤ a) && geAll as bs) = true := h1
    have h2 : (decide (c ≤ b) && geAll bs cs) = true := h2
    rw [Bool.and_eq_true, decide_eq_true_eq] at h1 h2
    show (decide (c ≤ a) && geAll as cs) = true
    rw [geAll_tr (Nat.succ.inj l1) (Nat.succ.inj l2) h1.2 h2.2, decide_eq_true (by omega)]
    rfl
theorem covS_refl (p : Sn) : covS p p = true := covB_refl _ _
theorem covS_iff {p q : Sn} : covS p q = true ↔ p.1 = q.1 ∧ geAll p.2 q.2 = true := by
  show (decide (p.1 = q.1) && geAll p.2 q.2) = true ↔ _
  rw [Bool.and_eq_true, decide_eq_true_eq]
theorem covS_tr {p q r : Sn} (l1 : p.2.length = q.2.length) (l2 : q.2.length = r.2.length) (h1 : covS p q = true) (h2 : covS q r = true) : covS p r = true := by
  obtain ⟨a1, a2⟩ := covS_iff.mp h1
  obtain ⟨b1, b2⟩ := covS_iff.mp h2
  exact covS_iff.mpr ⟨a1.trans b1, geAll_tr l1 l2 a2 b2⟩
theorem covS_lt {p q : Sn} (h : covS p q = true) : ltS p q = false := by
  obtain ⟨a1, a2⟩ := covS_iff.mp h
  unfold ltS
  rw [if_pos a1]
  exact geAll_lt a2
theorem ltS_irr (p : Sn) : ltS p p = false := covS_lt (covS_refl p)
theorem ltS_tr {p q r : Sn} (h1 : ltS p q = true) (h2 : ltS q r = true) : ltS p r = true := by
  unfold ltS at h1 h2 ⊢
  by_cases e1 : p.1 = q.1
  · rw [if_pos e1] at h1
    rw [e1]
    by_cases e2 : q.1 = r.1
    · rw [if_pos e2] at h2 ⊢
      exact ltL_tr h1 h2
    · rw [if_neg e2] at h2 ⊢
      exact h2
  · rw [if_neg e1] at h1
    have h1 := of_decide_eq_true h1
    by_cases e2 : q.1 = r.1
    · rw [← e2, if_neg e1]
      exact decide_eq_true h1
    · rw [if_neg e2] at h2
      have h2 := of_decide_eq_true h2
      rw [if_neg (by omega)]
      exact decide_eq_true (by omega)
theorem ltS_tot {p q : Sn} (l : p.2.length = q.2.length) (h1 : ltS p q = false) (h2 : ltS q p = false) : p = q := by
  unfold ltS at h1 h2
  by_cases e : p.1 = q.1
  · rw [if_pos e] at h1
    rw [if_pos e.symm] at h2
    exact Prod.ext e (ltL_tot l h1 h2)
  · rw [if_neg e] at h1
    rw [if_neg (Ne.symm e)] at h2
    have h1 := of_decide_eq_false h1
    have h2 := of_decide_eq_false h2
    omega
theorem covS_anti {p q : Sn} (l : p.2.length = q.2.length) (h1 : covS p q = true) (h2 : covS q p = true) : p = q := ltS_tot l (covS_lt h1) (covS_lt h2)
theorem eqv_ints_iff : ∀ {as bs : List Int}, PyData.eqvAll (as.map PyData.int) (bs.map PyData.int) = true → as = bs
  | [], [], _ => rfl
  | [], _ :: _, h => by simp [PyData.eqvAll] at h
  | _ :: _, [], h => by simp [PyData.eqvAll] at h
  | a :: as, b :: bs, h => by
    simp only [List.map_cons, PyData.eqvAll, PyData.eqv, Bool.and_eq_true, beq_iff_eq] at h
    rw [h.1, eqv_ints_iff h.2]
theorem leS_lt {p q : V × Int × List Int} (l : p.2.2.length = q.2.2.length) (h : leS p q = true) : ltS q.2 p.2 = false := by
  have h : (!PySem.W.dataLt (encS q) (encS p)) = true := h
  rw [Bool.not_eq_true'] at h
  unfold encS sitD at h
  rw [PySem.W.dataLt_pair (by simp [PySem.W.alike]) (by simp [PySem.W.alike, PySem.W.alike_ints]), PySem.W.dataLt_int, PySem.W.dataLt_list] at h
  unfold ltS
  by_cases e : q.2.1 = p.2.1
  · rw [if_pos (by simp [PyData.eqv, e])] at h
    rw [if_pos e]
    by_cases e2 : q.2.2 = p.2.2
    · rw [e2]; exact ltL_irr _
    · rw [if_neg (fun z => e2 (eqv_ints_iff (by simpa [PyData.eqv] using z)))] at h
      have h3 : PySem.W.rowLt (q.2.2.map PyData.int) (p.2.2.map PyData.int) = false := h
      rw [PySem.W.dataLt_ints] at h3
      rw [ltL_core l.symm]
      exact h3
  · rw [if_neg (by simp [PyData.eqv, e])] at h
    rw [if_neg e]
    exact h
/-! ### the least ones -/
structure Mini (S L : List Sn) : Prop where
  sub : ∀ x ∈ L, x ∈ S
  cov : ∀ x ∈ S, ∃ y ∈ L, covS x y = true
  anti : ∀ x ∈ L, ∀ y ∈ L, covS x y = true → x = y
abbrev Asc (L : List Sn) : Prop := L.Pairwise fun x y => ltS x y = true
structure Least (S L : List Sn) : Prop extends Mini S L where
  asc : Asc L
abbrev Lens (n : Nat) (S : List Sn) : Prop := ∀ x ∈ S, x.2.length = n
theorem asc_eq : ∀ {L M : List Sn}, Asc L → Asc M → (∀ x, x ∈ L ↔ x ∈ M) → L = M
  | [], [], _, _, _ => rfl
  | [], m :: M, _, _, h => by cases (h m).mpr List.mem_cons_self
  | l :: L, [], _, _, h => by cases (h l).mp List.mem_cons_self
  | l :: L, m :: M, hl, hm, h => by
    obtain ⟨l1, l2⟩ := List.pairwise_cons.mp hl
    obtain ⟨m1, m2⟩ := List.pairwise_cons.mp hm
    have e : l = m := by
      rcases List.mem_cons.mp ((h l).mp List.mem_cons_self) with e | a
      · exact e
      · rcases List.mem_cons.mp ((h m).mpr List.mem_cons_self) with e | b
        · exact e.symm
        · have := ltS_tr (l1 _ b) (m1 _ a)
          rw [ltS_irr] at this
          cases this
    subst e
    rw [asc_eq l2 m2 fun x => ⟨fun hx => ?_, fun hx => ?_⟩]
    · rcases List.mem_cons.mp ((h x).mp (List.mem_cons_of_mem _ hx)) with e | a
      · have := l1 _ hx
        rw [e, ltS_irr] at this
        cases this
      · exact a
    · rcases List.mem_cons.mp ((h x).mpr (List.mem_cons_of_mem _ hx)) with e | a
      · have := m1 _ hx
        rw [e, ltS_irr] at this
        cases this
      · exact a
theorem Mini.in' {n : Nat} {S L M : List Sn} (hn : Lens n S) (h : Mini S L) (h' : Mini S M) : ∀ x ∈ L, x ∈ M := fun x hx => by
  obtain ⟨y, hy, c1⟩ := h'.cov x (h.sub x hx)
  obtain ⟨z, hz, c2⟩ := h.cov y (h'.sub y hy)
  have nx := hn x (h.sub x hx)
  have ny := hn y (h'.sub y hy)
  have nz := hn z (h.sub z hz)
  have e := h.anti x hx z hz (covS_tr (by omega) (by omega) c1 c2)
  subst e
  rw [covS_anti (by omega) c1 c2]
  exact hy
theorem Least.uniq {n : Nat} {S L M : List Sn} (hn : Lens n S) (h : Least S L) (h' : Least S M) : L = M := asc_eq h.asc h'.asc fun x => ⟨h.toMini.in' hn h'.toMini x, h'.toMini.in' hn h.toMini x⟩
theorem Least.self {S L : List Sn} (h : Least S L) : Least L L := ⟨⟨fun _ hx => hx, fun x hx => ⟨x, hx, covS_refl x⟩, h.anti⟩, h.asc⟩
theorem Mini.any {n : Nat} {S L : List Sn} (hn : Lens n S) (h : Mini S L) {x : Sn} (hx : x.2.length = n) : L.any (covS x) = S.any (covS x) := by
  rw [Bool.eq_iff_iff, List.any_eq_true, List.any_eq_true]
  constructor
  · rintro ⟨y, hy, c⟩
    exact ⟨y, h.sub y hy, c⟩
  · rintro ⟨y, hy, c⟩
    obtain ⟨z, hz, c2⟩ := h.cov y hy
    have ny := hn y hy
    have nz := hn z (h.sub z hz)
    exact ⟨z, hz, covS_tr (by omega) (by omega) c c2⟩
theorem Mini.nil : Mini [] [] := ⟨fun _ h => h, (fun _ h => nomatch h), (fun _ h => nomatch h)⟩
theorem Least.nil : Least [] [] := ⟨Mini.nil, List.Pairwise.nil⟩
theorem snoc_mem {x y : Sn} {S : List Sn} : y ∈ S ++ [x] ↔ y ∈ S ∨ y = x := by rw [List.mem_append, List.mem_singleton]
theorem Least.stepT {S L : List Sn} {x : Sn} (h : Least S L) (e : L.any (covS x) = true) : Least (S ++ [x]) L := by
  obtain ⟨y, hy, c⟩ := List.any_eq_true.mp e
  refine ⟨⟨fun z hz => List.mem_append_left _ (h.sub z hz), fun z hz => ?_, h.anti⟩, h.asc⟩
  rcases snoc_mem.mp hz with hz | rfl
  · exact h.cov z hz
  · exact ⟨y, hy, c⟩
theorem Least.stepF {n : Nat} {S L : List Sn} {x : Sn} (hn : Lens n S) (hx : x.2.length = n) (h : Least S L) (srt : ∀ y ∈ S, ltS x y = false) (e : L.any (covS x) = false) : Least (S ++ [x]) (L ++ [x]) := by
  have no : ∀ y ∈ L, covS x y = false := fun y hy => by
    cases c : covS x y with
    | false => rfl
    | true => rw [List.any_eq_true.mpr ⟨y, hy, c⟩] at e; cases e
  have lt : ∀ y ∈ L, ltS y x = true := fun y hy => by
    cases c : ltS y x with
    | true => rfl
    | false =>
      have ny := hn y (h.sub y hy)
      have := ltS_tot (by omega) c (srt y (h.sub y hy))
      subst this
      have := no y hy
      rw [covS_refl] at this
      cases this
  refine ⟨⟨fun z hz => ?_, fun z hz => ?_, fun z hz y hy c => ?_⟩, List.pairwise_append.mpr ⟨h.asc, List.pairwise_singleton _ _, fun y hy z hz => by rw [List.mem_singleton.mp hz]; exact lt y hy⟩⟩
  · rcases snoc_mem.mp hz with hz | rfl
    · exact List.mem_append_left _ (h.sub z hz)
    · exact snoc_mem.mpr (.inr rfl)
  · rcases snoc_mem.mp hz with hz | rfl
    · obtain ⟨y, hy, c⟩ := h.cov z hz
      exact ⟨y, List.mem_append_left _ hy, c⟩
    · exact ⟨z, snoc_mem.mpr (.inr rfl), covS_refl z⟩
  · rcases snoc_mem.mp hz with h1 | h1 <;> rcases snoc_mem.mp hy with h2 | h2
    · exact h.anti z h1 y h2 c
    · rw [h2] at c
      have := covS_lt c
      rw [lt z h1] at this
      cases this
    · rw [h1, no y h2] at c
      cases c
    · rw [h1, h2]
theorem Mini.stepT {S L : List Sn} {x : Sn} (h : Mini S L) (e : L.any (covS x) = true) : Mini (S ++ [x]) L := by
  obtain ⟨y, hy, c⟩ := List.any_eq_true.mp e
  refine ⟨fun z hz => List.mem_append_left _ (h.sub z hz), fun z hz => ?_, h.anti⟩
  rcases snoc_mem.mp hz with hz | rfl
  · exact h.cov z hz
  · exact ⟨y, hy, c⟩
theorem Mini.stepF {n : Nat} {S L : List Sn} {x : Sn} (hn : Lens n S) (hx : x.2.length = n) (h : Mini S L) (e : L.any (covS x) = false) : Mini (S ++ [x]) (L.filter (fun o => !covS o x) ++ [x]) := by
  have no : ∀ y ∈ L, covS x y = false := fun y hy => by
    cases c : covS x y with
    | false => rfl
    | true => rw [List.any_eq_true.mpr ⟨y, hy, c⟩] at e; cases e
  refine ⟨fun z hz => ?_, fun z hz => ?_, fun z hz y hy c => ?_⟩
  · rcases snoc_mem.mp hz with hz | rfl
    · exact List.mem_append_left _ (h.sub z (List.mem_filter.mp hz).1)
    · exact snoc_mem.mpr (.inr rfl)
  · rcases snoc_mem.mp hz with hz | rfl
    · obtain ⟨y, hy, c⟩ := h.cov z hz
      cases c2 : covS y x with
      | false => exact ⟨y, List.mem_append_left _ (List.mem_filter.mpr ⟨hy, by rw [c2]; rfl⟩), c⟩
      | true =>
        have ny := hn y (h.sub y hy)
        have nz := hn z hz
        exact ⟨x, snoc_mem.mpr (.inr rfl), covS_tr (by omega) (by omega) c c2⟩
    · exact ⟨z, snoc_mem.mpr (.inr rfl), covS_refl z⟩
  · rcases snoc_mem.mp hz with h1 | h1 <;> rcases snoc_mem.mp hy with h2 | h2
    · exact h.anti z (List.mem_filter.mp h1).1 y (List.mem_filter.mp h2).1 c
    · rw [h2] at c
      have := (List.mem_filter.mp h1).2
      rw [c] at this
      cases this
    · rw [h1, no y (List.mem_filter.mp h2).1] at c
      cases c
    · rw [h1, h2]
theorem stepF_nodup {L : List Sn} {x : Sn} (nd : L.Nodup) (e : L.any (covS x) = false) : (L.filter (fun o => !covS o x) ++ [x]).Nodup := by
  refine List.nodup_append.mpr ⟨nd.filter _, List.nodup_cons.mpr ⟨fun h => (List.not_mem_nil h), List.nodup_nil⟩, fun a ha b hb => ?_⟩
  rw [List.mem_singleton.mp hb]
  rintro rfl
  rw [List.any_eq_true.mpr ⟨a, (List.mem_filter.mp ha).1, covS_refl a⟩] at e
  cases e
theorem asc_split {r : Sn} : ∀ {O : List Sn}, Asc O → ∃ A B, O = A ++ B ∧ (∀ y ∈ A, ltS y r = true) ∧ ∀ y ∈ B, ltS y r = false
  | [], _ => ⟨[], [], rfl, (fun _ h => nomatch h), (fun _ h => nomatch h)⟩
  | o :: O, h => by
    obtain ⟨h1, h2⟩ := List.pairwise_cons.mp h
    obtain ⟨A, B, e, a, b⟩ := asc_split (r := r) h2
    cases c : ltS o r with
    | true =>
      refine ⟨o :: A, B, by rw [e]; rfl, fun y hy => ?_, b⟩
      rcases List.mem_cons.mp hy with rfl | hy
      · exact c
      · exact a y hy
    | false =>
      refine ⟨[], o :: O, rfl, (fun y hy => nomatch hy), fun y hy => ?_⟩
      rcases List.mem_cons.mp hy with rfl | hy
      · exact c
      · cases c2 : ltS y r with
        | false => rfl
        | true => rw [ltS_tr (h1 y hy) c2] at c; cases c
theorem ins_asc {n : Nat} {r : Sn} {O : List Sn} (h : Asc O) (hn : Lens n O) (hr : r.2.length = n) (no : r ∉ O) : Asc (O.take (O.filter fun y => ltS y r).length ++ [r] ++ O.drop (O.filter fun y => ltS y r).length) := by
  obtain ⟨A, B, rfl, a, b⟩ := asc_split (r := r) h
  have e : ((A ++ B).filter fun y => ltS y r) = A := by
    rw [List.filter_append, List.filter_eq_self.mpr a, List.filter_eq_nil_iff.mpr (fun y hy => by rw [b y hy]; decide), List.append_nil]
  rw [e, List.take_left, List.drop_left]
  obtain ⟨hA, hB, hAB⟩ := List.pairwise_append.mp h
  refine List.pairwise_append.mpr ⟨List.pairwise_append.mpr ⟨hA, List.pairwise_singleton _ _, fun y hy z hz => by rw [List.mem_singleton.mp hz]; exact a y hy⟩, hB, fun y hy z hz => ?_⟩
  rcases snoc_mem.mp hy with hy | rfl
  · exact hAB y hy z hz
  · cases c : ltS y z with
    | true => rfl
    | false =>
      have nz := hn z (List.mem_append_right _ hz)
      have := ltS_tot (by omega) c (b z hz)
      subst this
      exact absurd (List.mem_append_right _ hz) no
theorem ins_mem {r x : Sn} {k : Nat} {O : List Sn} : x ∈ O.take k ++ [r] ++ O.drop k ↔ x ∈ O ∨ x = r := by
  have e : x ∈ O ↔ x ∈ O.take k ∨ x ∈ O.drop k := by
    conv => lhs; rw [← List.take_append_drop k O]
    exact List.mem_append
  rw [List.mem_append, List.mem_append, List.mem_singleton, e]
  constructor
  · rintro ((h | h) | h)
    · exact .inl (.inl h)
    · exact .inr h
    · exact .inl (.inr h)
  · rintro ((h | h) | h)
    · exact .inl (.inl h)
    · exact .inr h
    · exact .inl (.inr h)
theorem Mini.least {S L O : List Sn} (h : Mini S L) (a : Asc O) (m : ∀ x, x ∈ O ↔ x ∈ L) : Least S O := ⟨⟨fun x hx => h.sub x ((m x).mp hx), fun x hx => by
  obtain ⟨y, hy, c⟩ := h.cov x hx
  exact ⟨y, (m y).mpr hy, c⟩, fun x hx y hy => h.anti x ((m x).mp hx) y ((m y).mp hy)⟩, a⟩
theorem Least.congr {S S' L : List Sn} (h : Least S L) (m : ∀ x, x ∈ S ↔ x ∈ S') : Least S' L := ⟨⟨fun x hx => (m x).mp (h.sub x hx), fun x hx => h.cov x ((m x).mpr hx), h.anti⟩, h.asc⟩
/-! ### the floor: paths of numbers -/
abbrev Prs := List (Int × Int)
def flatP : Prs → List Int
  | [] => []
  | x :: r => x.1 :: x.2 :: flatP r
theorem flatP_app : ∀ a b : Prs, flatP (a ++ b) = flatP a ++ flatP b
  | [], _ => rfl
  | x :: r, b => by
    show x.1 :: x.2 :: flatP (r ++ b) = _
    rw [flatP_app r b]
    rfl
theorem flatP_len : ∀ a : Prs, (flatP a).length = 2 * a.length
  | [] => rfl
  | x :: r => by
    show (flatP r).length + 1 + 1 = 2 * (r.length + 1)
    rw [flatP_len r]
    omega
theorem flatP_pre : ∀ {a b : Prs} {t : List Int}, flatP b = flatP a ++ t → ∃ c, b = a ++ c
  | [], b, _, _ => ⟨b, rfl⟩
  | x :: r, [], t, h => by cases h
  | x :: r, y :: b, t, h => by
    have h : y.1 :: y.2 :: flatP b = x.1 :: x.2 :: (flatP r ++ t) := h
    injection h with h1 h
    injection h with h2 h
    obtain ⟨c, e⟩ := flatP_pre h
    exact ⟨c, by rw [e, show y = x from Prod.ext h1 h2]; rfl⟩
/-- pairs that meet needs, in order -/
def SubP : Prs → Prs → Prop
  | [], ks => ks = []
  | x :: r, ks => ks = [] ∨ (∃ n k', ks = (x.1, n) :: k' ∧ n ≤ x.2 ∧ SubP r k') ∨ SubP r ks
theorem subP_nil : ∀ a : Prs, SubP a []
  | [] => rfl
  | _ :: _ => .inl rfl
theorem subP_self : ∀ a : Prs, SubP a a
  | [] => rfl
  | x :: r => .inr (.inl ⟨x.2, r, rfl, Int.le_refl _, subP_self r⟩)
theorem subP_app : ∀ {a b c : Prs}, SubP a (b ++ c) → SubP a b
  | [], b, c, h => (List.append_eq_nil_iff.mp h).1
  | x :: r, b, c, h => by
    rcases h with h | ⟨n, k', e, hn, h⟩ | h
    · exact .inl (List.append_eq_nil_iff.mp h).1
    · cases b with
      | nil => exact .inl rfl
      | cons y b =>
        injection e with e1 e2
        subst e1
        rw [← e2] at h
        exact .inr (.inl ⟨n, b, rfl, hn, subP_app h⟩)
    · exact .inr (.inr (subP_app h))
theorem subP_take (a : Prs) (j : Nat) : SubP a (a.take j) := subP_app (c := a.drop j) (by rw [List.take_append_drop]; exact subP_self a)
/-- a tree of dicts: where the dict at the end of a path stands -/
abbrev Tri := List Int → Option Addr
def EndF (F : Tri) (p : List Int) : Prop := F p ≠ none ∧ ∀ k, F (p ++ [k]) = none
def MtT (F : Tri) : Prs → List Int → Prop
  | [], _ => False
  | x :: r, p => (∃ n, n ≤ x.2 ∧ F (p ++ [x.1, n]) ≠ none ∧ (EndF F (p ++ [x.1, n]) ∨ MtT F r (p ++ [x.1, n]))) ∨ MtT F r p
structure WfT (F : Tri) : Prop where
  root : F [] ≠ none
  clo : ∀ p k, F (p ++ [k]) ≠ none → F p ≠ none
  inj : ∀ p q a, F p = some a → F q = some a → p = q
theorem WfT.clo2 {F : Tri} (h : WfT F) : ∀ (t p : List Int), F (p ++ t) ≠ none → F p ≠ none
  | [], p, e => by rw [List.append_nil] at e; exact e
  | k :: t, p, e => by
    refine h.clo p k (h.clo2 t (p ++ [k]) ?_)
    rw [List.append_assoc]
    exact e
theorem WfT.pre {F : Tri} (h : WfT F) {p q : List Int} (hp : p <+: q) (e : F q ≠ none) : F p ≠ none := by
  obtain ⟨t, rfl⟩ := hp
  exact h.clo2 t p e
theorem mt_iff {F : Tri} (w : WfT F) : ∀ (ps : Prs) (p : List Int), (EndF F p ∨ MtT F ps p) ↔ ∃ ks, EndF F (p ++ flatP ks) ∧ SubP ps ks
  | [], p => by
    constructor
    · rintro (h | h)
      · exact ⟨[], by rw [show flatP [] = [] from rfl, List.append_nil]; exact h, rfl⟩
      · exact h.elim
    · rintro ⟨ks, h, hs⟩
      obtain rfl : ks = [] := hs
      rw [show flatP [] = [] from rfl, List.append_nil] at h
      exact .inl h
  | x :: r, p => by
    constructor
    · rintro (h | ⟨n, hn, _, h⟩ | h)
      · exact ⟨[], by rw [show flatP [] = [] from rfl, List.append_nil]; exact h, .inl rfl⟩
      · obtain ⟨ks, h1, h2⟩ := (mt_iff w r (p ++ [x.1, n])).mp h
        refine ⟨(x.1, n) :: ks, ?_, .inr (.inl ⟨n, ks, rfl, hn, h2⟩)⟩
        rw [List.append_assoc] at h1
        exact h1
      · obtain ⟨ks, h1, h2⟩ := (mt_iff w r p).mp (.inr h)
        exact ⟨ks, h1, .inr (.inr h2)⟩
    · rintro ⟨ks, h, hs⟩
      rcases hs with rfl | ⟨n, k', rfl, hn, hs⟩ | hs
      · rw [show flatP [] = [] from rfl, List.append_nil] at h
        exact .inl h
      · have e : p ++ flatP ((x.1, n) :: k') = (p ++ [x.1, n]) ++ flatP k' := by
          rw [List.append_assoc]
          rfl
        rw [e] at h
        exact .inr (.inl ⟨n, hn, w.clo2 _ _ h.1, (mt_iff w r _).mpr ⟨k', h, hs⟩⟩)
      · rcases (mt_iff w r p).mpr ⟨ks, h, hs⟩ with h | h
        · exact .inl h
        · exact .inr (.inr h)
/-- a packed situation that is above something that is kept -/
def Und (F : Tri) (x : Int × Prs) : Prop := F [x.1] ≠ none ∧ (EndF F [x.1] ∨ MtT F x.2 [x.1])
theorem und_iff {F : Tri} (w : WfT F) (x : Int × Prs) : Und F x ↔ ∃ ks, EndF F (x.1 :: flatP ks) ∧ SubP x.2 ks := by
  have h := mt_iff w x.2 [x.1]
  constructor
  · rintro ⟨_, u⟩
    exact h.mp u
  · intro u
    refine ⟨?_, h.mpr u⟩
    obtain ⟨ks, e, _⟩ := u
    exact w.clo2 (flatP ks) [x.1] e.1
/-! ### keeping one more -/
def addF (F : Tri) (p : List Int) (a : Addr) : Tri := fun q => if q = p then some a else F q
def finF (F : Tri) (p : List Int) (a : Addr) : Tri := fun q => if q = p then some a else if p <+: q then none else F q
theorem snoc_ne {p : List Int} {k : Int} : p ++ [k] ≠ p := fun e => by
  have := congrArg List.length e
  rw [List.length_append] at this
  simp at this
theorem snoc_inj {p q : List Int} {k j : Int} (e : p ++ [k] = q ++ [j]) : p = q ∧ k = j := by
  obtain ⟨h1, h2⟩ := List.append_inj' e rfl
  injection h2 with h2
  exact ⟨h1, h2⟩
theorem snoc_nil {p : List Int} {k : Int} : p ++ [k] ≠ [] := by simp
theorem WfT.add {F : Tri} (w : WfT F) {p : List Int} {k : Int} {a : Addr} (hp : F p ≠ none) (hn : ∀ q, F q ≠ some a) : WfT (addF F (p ++ [k]) a) := by
  refine ⟨?_, fun q j h => ?_, fun q r b h1 h2 => ?_⟩
  · unfold addF
    rw [if_neg fun e => snoc_nil e.symm]
    exact w.root
  · unfold addF at h ⊢
    by_cases e : q = p ++ [k]
    · rw [if_pos e]
      exact fun z => nomatch z
    · rw [if_neg e]
      by_cases e2 : q ++ [j] = p ++ [k]
      · rw [(snoc_inj e2).1]
        exact hp
      · rw [if_neg e2] at h
        exact w.clo q j h
  · unfold addF at h1 h2
    by_cases e : q = p ++ [k]
    · by_cases e2 : r = p ++ [k]
      · rw [e, e2]
      · rw [if_pos e] at h1
        rw [if_neg e2] at h2
        cases h1
        exact absurd h2 (hn r)
    · by_cases e2 : r = p ++ [k]
      · rw [if_pos e2] at h2
        rw [if_neg e] at h1
        cases h2
        exact absurd h1 (hn q)
      · rw [if_neg e] at h1
        rw [if_neg e2] at h2
        exact w.inj q r b h1 h2
theorem pre_snoc {p q : List Int} {k : Int} (h : p <+: q ++ [k]) : p = q ++ [k] ∨ p <+: q := by
  rcases List.prefix_concat_iff.mp (by simpa using h) with h | h
  · exact .inl (by simpa using h)
  · exact .inr h
theorem WfT.fin {F : Tri} (w : WfT F) {p : List Int} {k : Int} {a : Addr} (hp : F p ≠ none) (hn : ∀ q, F q ≠ some a) : WfT (finF F (p ++ [k]) a) := by
  refine ⟨?_, fun q j h => ?_, fun q r b h1 h2 => ?_⟩
  · unfold finF
    rw [if_neg fun e => snoc_nil e.symm, if_neg fun e => snoc_nil (List.prefix_nil.mp e)]
    exact w.root
  · unfold finF at h ⊢
    by_cases e : q = p ++ [k]
    · rw [if_pos e]
      exact fun z => nomatch z
    · rw [if_neg e]
      by_cases e2 : q ++ [j] = p ++ [k]
      · obtain ⟨rfl, rfl⟩ := snoc_inj e2
        rw [if_neg fun z => by have := z.length_le; rw [List.length_append, List.length_singleton] at this; omega]
        exact hp
      · rw [if_neg e2] at h
        by_cases e3 : p ++ [k] <+: q
        · rw [if_pos (e3.trans (List.prefix_append _ _))] at h
          exact absurd rfl h
        · rw [if_neg e3]
          by_cases e4 : p ++ [k] <+: q ++ [j]
          · rw [if_pos e4] at h
            exact absurd rfl h
          · rw [if_neg e4] at h
            exact w.clo q j h
  · have out : ∀ {x : List Int} {b : Addr}, finF F (p ++ [k]) a x = some b → (x = p ++ [k] ∧ b = a) ∨ (x ≠ p ++ [k] ∧ F x = some b) := fun {x b} h => by
      unfold finF at h
      by_cases e : x = p ++ [k]
      · rw [if_pos e] at h
        cases h
        exact .inl ⟨e, rfl⟩
      · rw [if_neg e] at h
        by_cases e3 : p ++ [k] <+: x
        · rw [if_pos e3] at h
          cases h
        · rw [if_neg e3] at h
          exact .inr ⟨e, h⟩
    rcases out h1 with ⟨z1, z2⟩ | ⟨z1, z2⟩
    · rcases out h2 with ⟨y1, y2⟩ | ⟨y1, y2⟩
      · rw [z1, y1]
      · rw [z2] at y2
        exact absurd y2 (hn r)
    · rcases out h2 with ⟨y1, y2⟩ | ⟨y1, y2⟩
      · rw [y2] at z2
        exact absurd z2 (hn q)
      · exact w.inj q r b z2 y2
/-- what holds while a way is laid: nothing but the way is new -/
structure Way (F G : Tri) (h : List Int) : Prop where
  wf : WfT G
  old : ∀ q, F q ≠ none → G q = F q
  new : ∀ q, G q ≠ none → F q ≠ none ∨ q <+: h
  at' : G h ≠ none
theorem odd_ne {s s' : Int} {ks js : Prs} {k : Int} : s :: flatP ks ≠ (s' :: flatP js) ++ [k] := fun e => by
  have := congrArg List.length e
  rw [List.length_append, List.length_cons, List.length_cons, flatP_len, flatP_len] at this
  simp at this
  omega
theorem end_fin {F G : Tri} {h : List Int} {k s : Int} {prs : Prs} {a : Addr} (wf : WfT F) (w : Way F G h) (e : h ++ [k] = s :: flatP prs) (nu : ¬ Und F (s, prs)) (s' : Int) (ks : Prs) :
    EndF (finF G (h ++ [k]) a) (s' :: flatP ks) ↔ (s' :: flatP ks = s :: flatP prs ∨ (EndF F (s' :: flatP ks) ∧ ¬ s :: flatP prs <+: s' :: flatP ks)) := by
  have odd : ∀ j, (s' :: flatP ks) ++ [j] ≠ h ++ [k] := fun j z => by
    rw [e] at z
    exact odd_ne z.symm
  rw [← e]
  by_cases e1 : s' :: flatP ks = h ++ [k]
  · refine ⟨fun _ => .inl e1, fun _ => ⟨?_, fun j => ?_⟩⟩
    · unfold finF
      rw [if_pos e1]
      exact fun z => nomatch z
    · unfold finF
      rw [if_neg (odd j), if_pos (by rw [e1]; exact List.prefix_append _ _)]
  · by_cases e2 : h ++ [k] <+: s' :: flatP ks
    · constructor
      · rintro ⟨h1, _⟩
        unfold finF at h1
        rw [if_neg e1, if_pos e2] at h1
        exact absurd rfl h1
      · rintro (z | ⟨_, z⟩)
        · exact absurd z e1
        · exact absurd e2 z
    · have at1 : finF G (h ++ [k]) a (s' :: flatP ks) = G (s' :: flatP ks) := by
        unfold finF
        rw [if_neg e1, if_neg e2]
      have at2 : ∀ j, finF G (h ++ [k]) a ((s' :: flatP ks) ++ [j]) = G ((s' :: flatP ks) ++ [j]) := fun j => by
        unfold finF
        rw [if_neg (odd j), if_neg fun z => ?_]
        rcases pre_snoc z with z | z
        · exact odd j z.symm
        · exact e2 z
      have pfx : s' :: flatP ks <+: h → ∃ j, (s' :: flatP ks) ++ [j] <+: h := fun ⟨t, ht⟩ => by
        cases t with
        | nil =>
          rw [List.append_nil] at ht
          rw [← ht] at e
          exact absurd e.symm odd_ne
        | cons j t => exact ⟨j, t, by rw [← ht, List.append_assoc]; rfl⟩
      constructor
      · rintro ⟨h1, h2⟩
        rw [at1] at h1
        refine .inr ⟨?_, e2⟩
        rcases w.new _ h1 with h3 | h3
        · refine ⟨h3, fun j => ?_⟩
          have h4 := h2 j
          rw [at2] at h4
          cases h5 : F ((s' :: flatP ks) ++ [j]) with
          | none => rfl
          | some b =>
            have := w.old _ (show F ((s' :: flatP ks) ++ [j]) ≠ none by rw [h5]; exact fun z => nomatch z)
            rw [h4, h5] at this
            cases this
        · obtain ⟨j, hj⟩ := pfx h3
          have h4 := h2 j
          rw [at2] at h4
          exact absurd h4 (w.wf.pre hj w.at')
      · rintro (z | ⟨⟨h1, h2⟩, _⟩)
        · exact absurd z e1
        · refine ⟨by rw [at1, w.old _ h1]; exact h1, fun j => ?_⟩
          rw [at2]
          cases h5 : G ((s' :: flatP ks) ++ [j]) with
          | none => rfl
          | some b =>
            exfalso
            rcases w.new _ (show G ((s' :: flatP ks) ++ [j]) ≠ none by rw [h5]; exact fun z => nomatch z) with h6 | h6
            · exact h6 (h2 j)
            · refine nu ((und_iff wf _).mpr ?_)
              obtain ⟨t, ht⟩ := ((List.prefix_append _ [j]).trans h6).trans (List.prefix_append h [k])
              rw [e] at ht
              injection ht with hs ht
              obtain ⟨c, hc⟩ := flatP_pre ht.symm
              refine ⟨ks, ?_, subP_app (c := c) (by rw [← hc]; exact subP_self _)⟩
              rw [← hs]
              exact ⟨h1, h2⟩
theorem und_fin {F G : Tri} {h : List Int} {k s : Int} {prs : Prs} {a : Addr} (wf : WfT F) (w : Way F G h) (hn : ∀ q, G q ≠ some a) (e : h ++ [k] = s :: flatP prs) (nu : ¬ Und F (s, prs)) (x : Int × Prs) :
    Und (finF G (h ++ [k]) a) x ↔ Und F x ∨ (x.1 = s ∧ SubP x.2 prs) := by
  rw [und_iff (w.wf.fin w.at' hn), und_iff wf]
  constructor
  · rintro ⟨ks, h1, h2⟩
    rcases (end_fin wf w e nu x.1 ks).mp h1 with h3 | ⟨h3, _⟩
    · injection h3 with h4 h5
      obtain ⟨c, rfl⟩ := flatP_pre (a := prs) (b := ks) (t := []) (by rw [h5, List.append_nil])
      exact .inr ⟨h4, subP_app h2⟩
    · exact .inl ⟨ks, h3, h2⟩
  · rintro (⟨ks, h1, h2⟩ | ⟨h1, h2⟩)
    · by_cases h3 : s :: flatP prs <+: x.1 :: flatP ks
      · obtain ⟨t, ht⟩ := h3
        injection ht with hs ht
        obtain ⟨c, rfl⟩ := flatP_pre ht.symm
        exact ⟨prs, (end_fin wf w e nu x.1 prs).mpr (.inl (by rw [hs])), subP_app h2⟩
      · exact ⟨ks, (end_fin wf w e nu x.1 ks).mpr (.inr ⟨h1, h3⟩), h2⟩
    · exact ⟨prs, (end_fin wf w e nu x.1 prs).mpr (.inl (by rw [h1])), h2⟩
/-! ### the packed form -/
def pkL : Nat → List Int → Prs
  | _, [] => []
  | n, c :: r => if 0 < c then ((n : Int), c) :: pkL (n + 1) r else pkL (n + 1) r
theorem pkL_cons (n : Nat) (c : Int) (r : List Int) : pkL n (c :: r) = if 0 < c then ((n : Int), c) :: pkL (n + 1) r else pkL (n + 1) r := rfl
theorem pkL_ge : ∀ (n : Nat) (cs : List Int) (x : Int × Int), x ∈ pkL n cs → (n : Int) ≤ x.1
  | _, [], _, h => by cases h
  | n, c :: r, x, h => by
    unfold pkL at h
    by_cases hc : 0 < c
    · rw [if_pos hc] at h
      rcases List.mem_cons.mp h with rfl | h
      · exact Int.le_refl _
      · have := pkL_ge (n + 1) r x h
        omega
    · rw [if_neg hc] at h
      have := pkL_ge (n + 1) r x h
      omega
theorem subP_mem : ∀ {a ks : Prs}, SubP a ks → ∀ x ∈ ks, ∃ y ∈ a, y.1 = x.1
  | [], ks, h, x, hx => by
    obtain rfl : ks = [] := h
    cases hx
  | y :: r, ks, h, x, hx => by
    rcases h with rfl | ⟨n, k', rfl, _, h⟩ | h
    · cases hx
    · rcases List.mem_cons.mp hx with rfl | hx
      · exact ⟨y, List.mem_cons_self, rfl⟩
      · obtain ⟨z, hz, e⟩ := subP_mem h x hx
        exact ⟨z, List.mem_cons_of_mem _ hz, e⟩
    · obtain ⟨z, hz, e⟩ := subP_mem h x hx
      exact ⟨z, List.mem_cons_of_mem _ hz, e⟩
theorem subP_pk : ∀ (n : Nat) (xs ys : List Int), xs.length = ys.length → (∀ x ∈ xs, 0 ≤ x) → (∀ y ∈ ys, 0 ≤ y) → (SubP (pkL n xs) (pkL n ys) ↔ geAll xs ys = true)
  | n, [], [], _, _, _ => ⟨fun _ => rfl, fun _ => rfl⟩
  | n, [], y :: ys, h, _, _ => by cases h
  | n, x :: xs, [], h, _, _ => by cases h
  | n, x :: xs, y :: ys, h, hx, hy => by
    have ih := subP_pk (n + 1) xs ys (Nat.succ.inj h) (fun z hz => hx z (List.mem_cons_of_mem _ hz)) (fun z hz => hy z (List.mem_cons_of_mem _ hz))
    have x0 := hx x List.mem_cons_self
    have y0 := hy y List.mem_cons_self
    have no : ∀ (c : Int) (k' : Prs), ¬ SubP (pkL (n + 1) xs) (((n : Int), c) :: k') := fun c k' z => by
      obtain ⟨w, hw, e⟩ := subP_mem z _ List.mem_cons_self
      have := pkL_ge (n + 1) xs w hw
      have e : w.1 = (n : Int) := e
      omega
    rw [show (geAll (x :: xs) (y :: ys) = true) ↔ (y ≤ x ∧ geAll xs ys = true) by rw [show geAll (x :: xs) (y :: ys) = (decide (y ≤ x) && geAll xs ys) from rfl, Bool.and_eq_true, decide_eq_true_iff], ← ih, pkL_cons, pkL_cons]
    by_cases py : 0 < y
    · rw [if_pos py]
      by_cases px : 0 < x
      · rw [if_pos px]
        constructor
        · rintro (z | ⟨m, k', z, hm, hs⟩ | z)
          · cases z
          · injection z with z1 z2
            injection z1 with _ z1
            subst z1 z2
            exact ⟨hm, hs⟩
          · exact absurd z (no _ _)
        · rintro ⟨h1, h2⟩
          exact .inr (.inl ⟨y, _, rfl, h1, h2⟩)
      · rw [if_neg px]
        exact ⟨fun z => absurd z (no _ _), fun z => absurd z.1 (by omega)⟩
    · rw [if_neg py]
      have ey : y ≤ x := by omega
      by_cases px : 0 < x
      · rw [if_pos px]
        constructor
        · rintro (z | ⟨m, k', z, _, _⟩ | z)
          · rw [z]
            exact ⟨ey, subP_nil _⟩
          · have : (((n : Int), m) : Int × Int) ∈ pkL (n + 1) ys := by rw [z]; exact List.mem_cons_self
            have := pkL_ge (n + 1) ys _ this
            simp at this
            omega
          · exact ⟨ey, z⟩
        · rintro ⟨_, z⟩
          exact .inr (.inr z)
      · rw [if_neg px]
        exact ⟨fun z => ⟨ey, z⟩, fun z => z.2⟩
theorem pkL_inj : ∀ (n : Nat) (xs ys : List Int), xs.length = ys.length → (∀ x ∈ xs, 0 ≤ x) → (∀ y ∈ ys, 0 ≤ y) → pkL n xs = pkL n ys → xs = ys := fun n xs ys hl hx hy e => by
  have h1 := (subP_pk n xs ys hl hx hy).mp (by rw [e]; exact subP_self _)
  have h2 := (subP_pk n ys xs hl.symm hy hx).mp (by rw [e]; exact subP_self _)
  clear e hx hy
  induction xs generalizing ys with
  | nil => cases ys with | nil => rfl | cons y ys => cases hl
  | cons x xs ih => cases ys with
    | nil => cases hl
    | cons y ys =>
      have h1 : (decide (y ≤ x) && geAll xs ys) = true := h1
      have h2 : (decide (x ≤ y) && geAll ys xs) = true := h2
      rw [Bool.and_eq_true, decide_eq_true_iff] at h1 h2
      obtain ⟨a1, b1⟩ := h1
      obtain ⟨a2, b2⟩ := h2
      rw [ih ys (Nat.succ.inj hl) b1 b2, show x = y by omega]
/-! ### d.setdefault(k, x), the keys numbers or texts -/
def rSetDef : V → List V → Hp → VK → Prop := fun x xs H Q => ∃ (a : Addr) (kvs : List (L2.Key × V)) (k : L2.Key) (d : V), x = .ref a ∧ xs = [kV k, d] ∧ H a = some (.dK kvs) ∧ kvs.length < sizeLine ∧
  (∀ v, valV kvs k = some v → Q v H) ∧ (valV kvs k = none → Q d (upd H a (.dK (kvs ++ [(k, d)]))))
theorem mt_setdef {X : Cx} : MtR X "dict.setdefault" rSetDef := by
  intro pins s σ H x xs v us Q I rx rxs h
  obtain ⟨a, kvs, k, d, rfl, rfl, ha, hl, q1, q2⟩ := h
  cases rx
  obtain ⟨u1, u2, rfl, r1, r2⟩ := vals2 rxs
  obtain ⟨z, hd, vs, rel, dd⟩ := dk_of I.hok ha
  refine call_meetsIn PySem.F.slot_dict_setdefault dd.typeIs PySem.F.entry_dict_setdefault (PySem.F.args_dict_setdefault_3 _ _ _) (kt_meets_setdefault (mixKind X.prog X.w) (k := k) a (kV_is r1) hd u2)
    ⟨vs, dd, by rw [← rel.length]; exact z, fun v hv => ?_, fun hn h' dd' hs => ?_⟩
  · have r := rel.val k
    rw [hv] at r
    show EP X pins σ Q v _
    cases ev : valV kvs k with
    | none =>
      rw [ev] at r
      exact (show False from r).elim
    | some v0 =>
      rw [ev] at r
      exact ⟨v0, H, I.tok _, r, q1 v0 ev⟩
  · have r := rel.val k
    rw [hn] at r
    have ev : valV kvs k = none := by
      cases ev : valV kvs k with
      | none => rfl
      | some v0 =>
        rw [ev] at r
        exact (show False from r).elim
    have rr := rel.put k (y := d) (u := u2) r2
    rw [putK_new d ev] at rr
    have he : ∃ q, h'.get? a = some q := let ⟨q, _, _, hq, _⟩ := dd'; ⟨q, hq⟩
    have I2 : Inv X pins σ (upd H a (.dK (kvs ++ [(k, d)]))) { s with heap := h', toks := s.toks + 1 } :=
      d_write I (by rw [ha]; exact True.intro) hs he (dk_new (by rw [List.length_append, List.length_singleton]; omega) hd rr dd')
    show EP X pins σ Q u2 _
    exact ⟨d, _, I2, r2, q2 ev⟩
theorem valV_mem {κ : Type} [DecidableEq κ] {k : κ} {v : V} : ∀ {kvs : List (κ × V)}, valV kvs k = some v → (k, v) ∈ kvs
  | [], h => nomatch h
  | p :: r, h => by
    by_cases e : p.1 = k
    · rw [valV_pos e] at h
      cases h
      rw [← e]
      exact List.mem_cons_self
    · rw [valV_neg e] at h
      exact List.mem_cons_of_mem _ (valV_mem h)
theorem mem_valV {κ : Type} [DecidableEq κ] {k : κ} {v : V} : ∀ {kvs : List (κ × V)}, (kvs.map (·.1)).Nodup → (k, v) ∈ kvs → valV kvs k = some v
  | [], _, h => by cases h
  | p :: r, hn, h => by
    obtain ⟨h1, h2⟩ := List.nodup_cons.mp hn
    rcases List.mem_cons.mp h with e | h
    · rw [← e]
      exact valV_pos rfl
    · have e : ¬ p.1 = k := fun z => h1 (by show p.1 ∈ _; rw [z]; exact List.mem_map.mpr ⟨_, h, rfl⟩)
      rw [valV_neg e]
      exact mem_valV h2 h
/-! ### the packed form of a situation -/
def prD (x : Int × Int) : PyData := .tuple [.int x.1, .int x.2]
def pkD (s : Int) (ps : Prs) : PyData := .tuple [.int s, .tuple (ps.map prD)]
theorem pkL_snoc (c : Int) : ∀ (xs : List Int) (n : Nat), pkL n (xs ++ [c]) = pkL n xs ++ (if 0 < c then [(((n + xs.length : Nat) : Int), c)] else [])
  | [], n => by
    show pkL n [c] = _
    rw [pkL_cons]
    split <;> rfl
  | x :: xs, n => by
    show pkL n (x :: (xs ++ [c])) = _
    rw [pkL_cons, pkL_cons, pkL_snoc c xs (n + 1), List.length_cons, show n + 1 + xs.length = n + (xs.length + 1) by omega]
    split <;> rfl
theorem pkL_len : ∀ (n : Nat) (xs : List Int), (pkL n xs).length ≤ xs.length
  | _, [] => Nat.le_refl _
  | n, x :: xs => by
    have := pkL_len (n + 1) xs
    rw [pkL_cons]
    split
    · rw [List.length_cons, List.length_cons]; omega
    · rw [List.length_cons]; omega
theorem szn {n m : Nat} (h : n ≤ m) (hm : m ≤ 9000000) : n < sizeLine := Nat.lt_of_le_of_lt h (Nat.lt_of_le_of_lt hm (by decide))
/-- the items of a locked dict, each in a new pair -/
theorem for_items {d : Addr} {o : Obj} {kvs : List (L2.Key × V)} {g : TG} {tb : TS} {D : Ends} {σ : L2.St} {H : Hp} (Pv : Nat → L2.St → Hp → Prop) (h0 : Pv 0 σ H) (hl : ∀ i σ H, i ≤ kvs.length → Pv i σ H → H d = some (.frz o (.dK kvs)))
    (hs : ∀ i k v T σ H, kvs[i]? = some (k, v) → Pv i σ H → H T = none → g (.ref T) σ (upd H T (.tup [kV k, v])) fun σ2 H2 => tb { D with nx := Pv (i + 1), ct := Pv (i + 1), bk := D.nx } σ2 H2) (hd : ∀ σ H, Pv kvs.length σ H → D.nx σ H) :
    ∃ W : Nat → Nat → L2.St → Hp → Prop, (∃ m, W 0 m σ H) ∧ ∀ i m σ H, W i m σ H →
      ((Iti d o kvs).stop i H ∧ D.nx σ H) ∨ ((Iti d o kvs).go i H ∧ ∃ N : L2.St → Hp → Prop, (∀ σ' H', N σ' H' → ∃ m', m' < m ∧ W (i + 1) m' σ' H') ∧ ∀ x H', (Iti d o kvs).yld i H x H' → g x σ H' fun σ2 H2 => tb { D with nx := N, ct := N, bk := D.nx } σ2 H2) := by
  refine ⟨fun i m σ H => m = kvs.length - i ∧ i ≤ kvs.length ∧ Pv i σ H, ⟨kvs.length, by simp, Nat.zero_le _, h0⟩, ?_⟩
  rintro i m σ H ⟨rfl, hi, p⟩
  have q := hl i σ H hi p
  by_cases hlt : i < kvs.length
  · refine .inr ⟨⟨q, hlt⟩, Pv (i + 1), fun σ' H' p' => ⟨kvs.length - (i + 1), by omega, rfl, hlt, p'⟩, fun x H' y => ?_⟩
    obtain ⟨T, k, v, e1, rfl, nT, rfl⟩ := y
    exact hs i k v T σ H e1 p nT
  · have e : i = kvs.length := by omega
    subst e
    exact .inl ⟨⟨q, Nat.le_refl _⟩, hd σ H p⟩
theorem same_unlock {H H1 H2 : Hp} {b : Addr} {od : Obj} {u : HO} (s1 : Same H H1) (e : H1 b = some u) (s2 : Same (upd H1 b (.frz od u)) H2) : Same H (upd H2 b u) := fun c o h => by
  by_cases z : c = b
  · subst z
    rw [upd_same]
    exact (e.symm.trans (s1 _ _ h))
  · rw [upd_ne z]
    refine s2 _ _ ?_
    rw [upd_ne z]
    exact s1 _ _ h
theorem drop_hd {α : Type} {l : List α} {i : Nat} {x : α} (h : l[i]? = some x) : l.drop i = x :: l.drop (i + 1) := by
  obtain ⟨lt, e⟩ := List.getElem?_eq_some_iff.mp h
  rw [List.drop_eq_getElem_cons lt, e]
/-- lists and tuples stand as before -/
def MuO : HO → Prop
  | .dK _ => True
  | .ins _ _ _ => True
  | .ext _ => True
  | .frz _ u => MuO u
  | _ => False
def SameQ (H H' : Hp) : Prop := ∀ a o, H a = some o → ¬ MuO o → H' a = some o
theorem SameQ.rd {H H' : Hp} {a : Addr} {u : HO} (e : SameQ H H') (hu : ¬ MuO u) (h : Rd H a u) : Rd H' a u := by
  rcases h with h | ⟨o, h⟩
  · exact .inl (e _ _ h hu)
  · exact .inr ⟨o, e _ _ h hu⟩
theorem SameQ.sqL {K : PySem.W.Frag} {H H' : Hp} {a : Addr} {xs : List V} (e : SameQ H H') (h : SqL K H a xs) : SqL K H' a xs := by
  rcases h with h | h
  · exact .inl (e.rd (fun z => z) h)
  · exact .inr h
theorem SameQ.sqT {K : PySem.W.Frag} {H H' : Hp} {a : Addr} {xs : List V} (e : SameQ H H') (h : SqT K H a xs) : SqT K H' a xs := by
  rcases h with h | h
  · exact .inl (e.rd (fun z => z) h)
  · exact .inr h
mutual
theorem dp_monoQ {K : PySem.W.Frag} {H H' : Hp} (e : SameQ H H') : ∀ {v : V} {d : PyData}, Dp K H v d → Dp K H' v d
  | _, .none, .non => .non
  | _, .bool _, .bl b => .bl b
  | _, .int _, .int i => .int i
  | _, .str _, .str x => .str x
  | _, .list _, .lst h a => .lst (e.sqL h) (dpAll_monoQ e a)
  | _, .tuple _, .tup h a => .tup (e.sqT h) (dpAll_monoQ e a)
theorem dpAll_monoQ {K : PySem.W.Frag} {H H' : Hp} (e : SameQ H H') : ∀ {vs : List V} {ds : List PyData}, DpAll K H vs ds → DpAll K H' vs ds
  | _, [], .nil => .nil
  | _, _ :: _, .cons h t => .cons (dp_monoQ e h) (dpAll_monoQ e t)
end
theorem same_lockQ {H H1 H3 : Hp} {b : Addr} {od : Obj} {kvs : List (L2.Key × V)} (s1 : Same H H1) (e : H1 b = some (.dK kvs)) (s3 : Same (upd H1 b (.frz od (.dK kvs))) H3) : SameQ H H3 := fun a o h hne => by
  have h1 := s1 _ _ h
  refine s3 _ _ ?_
  rw [upd_ne fun z => ?_]
  · exact h1
  · rw [z, e] at h1
    cases h1
    exact hne trivial
theorem put_quiet {H : Hp} {c : Addr} {u o : HO} (e : H c = some u) (m : MuO u) : SameQ H (upd H c o) := fun a v h hv => by
  rw [upd_ne fun z => ?_]
  · exact h
  · rw [z, e] at h
    cases h
    exact hv m
/-! ### the dicts of a tree -/
def CellF (F : Tri) (q : List Int) (n : Nat) (kvs : List (L2.Key × V)) : Prop :=
  (kvs.map (·.1)).Nodup ∧ kvs.length ≤ n ∧ (∀ kv ∈ kvs, ∃ k b, kv = (Sum.inl k, V.ref b) ∧ F (q ++ [k]) = some b) ∧ ∀ k b, F (q ++ [k]) = some b → (Sum.inl k, V.ref b) ∈ kvs
def TriU (H : Hp) (F : Tri) (p : List Int) (n : Nat) : Prop := ∀ q a, p <+: q → F q = some a → ∃ kvs, H a = some (.dK kvs) ∧ CellF F q n kvs
theorem CellF.val {F : Tri} {q : List Int} {n : Nat} {kvs : List (L2.Key × V)} (h : CellF F q n kvs) (k : Int) : valV kvs (Sum.inl k) = (F (q ++ [k])).map V.ref := by
  obtain ⟨h1, _, h3, h4⟩ := h
  cases e : F (q ++ [k]) with
  | some b => exact mem_valV h1 (h4 k b e)
  | none =>
    cases e2 : valV kvs (Sum.inl k) with
    | none => rfl
    | some v =>
      obtain ⟨k2, b, e3, e4⟩ := h3 _ (valV_mem e2)
      injection e3 with e3 _
      injection e3 with e3
      rw [← e3, e] at e4
      cases e4
theorem CellF.empty {F : Tri} {q : List Int} {n : Nat} {kvs : List (L2.Key × V)} (h : CellF F q n kvs) {a : Addr} (ha : F q = some a) : (kvs.isEmpty = true) ↔ EndF F q := by
  obtain ⟨_, _, h3, h4⟩ := h
  constructor
  · intro e
    refine ⟨(by rw [ha]; exact fun z => (nomatch z)), fun k => ?_⟩
    cases e2 : F (q ++ [k]) with
    | none => rfl
    | some b =>
      have := h4 k b e2
      rw [List.isEmpty_iff.mp e] at this
      cases this
  · rintro ⟨_, e⟩
    cases kvs with
    | nil => rfl
    | cons kv r =>
      obtain ⟨k, b, _, e2⟩ := h3 kv List.mem_cons_self
      rw [e k] at e2
      cases e2
theorem TriU.mono {H H' : Hp} {F : Tri} {p : List Int} {n : Nat} (s : Same H H') (h : TriU H F p n) : TriU H' F p n := fun q a hq e => by
  obtain ⟨kvs, h1, h2⟩ := h q a hq e
  exact ⟨kvs, s _ _ h1, h2⟩
theorem TriU.sub {H : Hp} {F : Tri} {p p' : List Int} {n : Nat} (s : p <+: p') (h : TriU H F p n) : TriU H F p' n := fun q a hq e => h q a (s.trans hq) e
theorem ap2 (p : List Int) (a b : Int) : (p ++ [a]) ++ [b] = p ++ [a, b] := by rw [List.append_assoc]; rfl
section
variable {P : Program} {w : World} {K : PySem.W.Frag} {mg : Str → Option Value} {base : Heap}
theorem dp_prs_at {H : Hp} {v : V} {ps : Prs} (h : Dp K H v (.tuple (ps.map prD))) : ∃ (a : Addr) (xs : List V), v = .ref a ∧ SqT K H a xs ∧ xs.length = ps.length ∧ ∀ (i : Nat) (x : Int × Int), ps[i]? = some x → ∃ t : Addr, xs[i]? = some (V.ref t) ∧ SqT K H t [.int x.1, .int x.2] := by
  obtain ⟨a, xs, rfl, h1, h2⟩ := dp_tup h
  refine ⟨a, xs, rfl, h1, by have := dpa_len h2; rw [List.length_map] at this; exact this, fun i x hx => ?_⟩
  obtain ⟨u, hu, du⟩ := dpa_at' h2 (show (ps.map prD)[i]? = some (prD x) by rw [List.getElem?_map, hx]; rfl)
  obtain ⟨t, ys, rfl, h3, h4⟩ := dp_tup du
  obtain ⟨v1, r1, rfl, d1, h4⟩ := dpa_cons h4
  obtain ⟨v2, r2, rfl, d2, h4⟩ := dpa_cons h4
  obtain rfl := dpa_nil h4
  rw [dp_int d1, dp_int d2] at h3
  exact ⟨t, hu, h3⟩
abbrev s_meets : Stmt := topS 8
theorem sc_meets : FnScope ["node", "pairs", "first", "at", "place", "count", "need", "inner"] ["node", "pairs", "first"] (defScope s_meets) := ⟨rfl, rfl, rfl, by decide +kernel, rfl, by decide +kernel, by decide +kernel⟩
-- meets slots: node=0 pairs=1 first=2 at=3 place=4 count=5 need=6 inner=7 globals: range len meets
def spMeets (K : PySem.W.Frag) (m : Nat) : Sp := fun vs H Q _ => ∃ (a : Addr) (v : V) (j : Nat) (F : Tri) (p : List Int) (n : Nat) (ps : Prs), vs = [.ref a, v, .int (j : Int)] ∧ WfT F ∧ F p = some a ∧ TriU H F p n ∧ Dp K H v (.tuple (ps.map prD)) ∧ j ≤ ps.length ∧ ps.length < j + m ∧ ps.length ≤ 1000 ∧
  ∀ H' (b : Bool), Same H H' → (b = true ↔ (EndF F p ∨ MtT F (ps.drop j) p)) → Q (.bl b) H'
theorem fd_meets {f : Addr} {fd : FuncData} (F : Fun K "meets" "meets" s_meets f fd) (mm : mg "meets" = some (.ref f)) (B : Bt mg) : ∀ n : Nat, Fd P w K mg base "meets" ["node", "pairs", "first"] (n + 1) (spMeets K n)
  | 0 => Fd.none F mm (F.binds (ps := ["node", "pairs", "first"]) fun _ _ _ _ _ _ us hl => match us, hl with | [_, _, _], _ => rfl) fun vs H Q E h => by
    obtain ⟨a, v, j, F, p, n, ps, _, _, _, _, _, h1, h2, _⟩ := h
    omega
  | lv + 1 => by
    have D_meets := fd_meets F mm B lv
    refine ⟨f, fd, F.ok sc_meets (fun vs H Q E h => ?_) (fun cdv A outer s H vs Q E hr h => ?_), mm, F.kp, F.binds (ps := ["node", "pairs", "first"]) fun _ _ _ _ _ _ us hl => match us, hl with | [_, _, _], _ => rfl⟩
    · obtain ⟨a, v, j, F, p, n, ps, rfl, _⟩ := h
      rfl
    obtain ⟨a, v, j, F, p, n, ps, rfl, wf, ha, ht, hv, hj, hlv, hlen, q⟩ := h
    obtain ⟨va, xs, rfl, hva, xl, hxs⟩ := dp_prs_at hv
    obtain ⟨kvs, hkv, cell⟩ := ht p a (List.prefix_refl _) ha
    have hemp := cell.empty ha
    refine ⟨_, (pss_cons (ps_if (pt_not (ptTru K (pv 0) (by intro _; rfl)))
 (pss_one (ps_ret pe_bl))
 pss_nil)
 (pss_cons (ps_for PassesOwn.never rfl (pi_range2 rfl B.range (pa_cons (pv 2) (pa_cons (pe_callB (cLen K) (by rfl) B.len PySem.boot_len (pa_cons (pv 1) pa_nil)) pa_nil))) (pg_name (i := 3) sc_meets.nd rfl (Or.inl rfl))
 (pss_cons (ps_asg (pe_ix (ixT K) (pv 1) (pv 3) (fun _ _ => rfl)) (pg_tup rfl (pgs_cons (pg_name (i := 4) sc_meets.nd rfl (Or.inl rfl)) (pgs_cons (pg_name (i := 5) sc_meets.nd rfl (Or.inl rfl)) pgs_nil))))
 (pss_one (ps_if (pt_cmp (pc_din (hu_of hr) (pv 4) (pv 0)))
 (pss_one (ps_lock (ps_for PassesOwn.never rfl (pi_items (pe_dget (hu_of hr) (pv 0) (pv 4) (fun _ _ => rfl))) (pg_tup rfl (pgs_cons (pg_name (i := 6) sc_meets.nd rfl (Or.inl rfl)) (pgs_cons (pg_name (i := 7) sc_meets.nd rfl (Or.inl rfl)) pgs_nil)))
 (pss_one (ps_if (PW.pt (pw_and (pt_cmpR op_le (pv 6) (pv 5) (nomark _)) (pw_and1 (pt_val (pe_fn D_meets hr rfl (pa_cons (pv 7) (pa_cons (pv 1) (pa_cons (pe_op op_add (pv 3) pe_int) pa_nil))))))))
 (pss_one (ps_ret pe_bl))
 pss_nil)))))
 pss_nil))))
 (pss_one (ps_ret pe_bl)))), ?_⟩
    refine ⟨_, rfl, !kvs.isEmpty, .inr (.inr ⟨kvs, hkv, rfl⟩), ?_⟩
    cases he : kvs.isEmpty with
    | true => exact iteTx rfl (q _ true (Same.refl _) ⟨fun _ => .inl (hemp.mp he), fun _ => rfl⟩)
    | false =>
      have ne : ¬ EndF F p := fun z => by rw [hemp.mpr z] at he; cases he
      refine iteFx rfl ?_
      refine ⟨_, rfl, _, rfl, _, _, rfl, .inr hva, (j : Int), (xs.length : Int), rfl, ⟨by omega, by omega, by omega, by omega⟩, ?_⟩
      have nn : ((xs.length : Int) - (j : Int)).toNat = ps.length - j := by omega
      rw [nn]
      refine for_range (fun i σ' H' => ∃ (y3 y4 y5 y6 y7 : Option V), σ' = [some (.ref a), some (.ref va), some (.int (j : Int)), y3, y4, y5, y6, y7] ∧ Same H H' ∧ (MtT F (ps.drop j) p ↔ MtT F (ps.drop (j + i)) p)) ⟨none, none, none, none, none, rfl, Same.refl _, by rw [Nat.add_zero]⟩ ?_ ?_
      · rintro i σ' H1 hi ⟨y3, y4, y5, y6, y7, rfl, s1, inv⟩
        have lt : j + i < ps.length := by omega
        have hx : ps[j + i]? = some ps[j + i] := List.getElem?_eq_getElem lt
        generalize ps[j + i] = x at hx
        obtain ⟨t, hxt, htt⟩ := hxs _ _ hx
        rw [drop_hd hx] at inv
        dsimp only [gName]
        refine ⟨_, rfl, _, rfl, va, xs, _, _, rfl, rfl, Same.seqT s1 hva, by rw [← Int.natCast_add]; exact atI_nat hxt, ?_⟩
        refine ⟨t, _, rfl, Same.seqT s1 htt, rfl, _, _, rfl, ?_⟩
        dsimp only [gName]
        refine ⟨_, _, rfl, ?_⟩
        dsimp only [gName]
        refine ⟨rfl, ?_⟩
        have hkv1 := s1 _ _ hkv
        refine ⟨_, rfl, _, rfl, a, valV kvs (Sum.inl x.1), rfl, .inl ⟨kvs, Sum.inl x.1, .inl hkv1, rfl, rfl⟩, _, rfl, ?_⟩
        rw [cell.val]
        cases eb : F (p ++ [x.1]) with
        | none =>
          refine iteFx rfl ?_
          refine ⟨_, _, _, _, _, rfl, s1, inv.trans ⟨fun z => ?_, .inr⟩⟩
          rcases z with ⟨n', _, z, _⟩ | z
          · refine absurd eb (wf.clo _ n' ?_)
            rw [ap2]
            exact z
          · exact z
        | some b =>
          refine iteTx rfl ?_
          obtain ⟨kvs2, hkv2, cell2⟩ := ht _ b (List.prefix_append _ _) eb
          have hb1 := s1 _ _ hkv2
          refine ⟨b, _, hb1, True.intro, fun od => ?_⟩
          have nab : a ≠ b := fun z => snoc_ne (wf.inj _ _ b eb (by rw [← z]; exact ha))
          refine ⟨_, rfl, _, rfl, a, V.ref b, rfl, .inl ⟨kvs, Sum.inl x.1, .inl (by rw [upd_ne nab]; exact hkv1), rfl, by rw [cell.val, eb]; rfl⟩, b, od, kvs2, rfl, upd_same, ?_⟩
          have below : ∀ q, (p ++ [x.1]) <+: q → q ≠ p ++ [x.1] → ∀ c, F q = some c → c ≠ b := fun q _ hne c hc z => hne (wf.inj _ _ b (by rw [← z]; exact hc) eb)
          refine for_items (fun i2 σ2 H2 => ∃ (y6 y7 : Option V), σ2 = [some (.ref a), some (.ref va), some (.int (j : Int)), some (.int ((j : Int) + (i : Nat))), some (.int x.1), some (.int x.2), y6, y7] ∧ Same (upd H1 b (.frz od (.dK kvs2))) H2 ∧
            ∀ n' b2, (Sum.inl n', V.ref b2) ∈ kvs2.take i2 → n' ≤ x.2 → ¬ (EndF F (p ++ [x.1, n']) ∨ MtT F (ps.drop (j + i + 1)) (p ++ [x.1, n']))) ⟨_, _, rfl, Same.refl _, fun n' b2 z => by cases z⟩ ?_ ?_ ?_
          · rintro i2 σ2 H2 _ ⟨y6, y7, rfl, s2, _⟩
            exact s2 _ _ upd_same
          · rintro i2 k2 v2 T σ2 H2 hk2 ⟨y6, y7, rfl, s2, inv2⟩ nT
            obtain ⟨n', b2, e3, e4⟩ := cell2.2.2.1 _ (List.mem_of_getElem? hk2)
            cases e3
            rw [ap2] at e4
            have s3 : Same H2 (upd H2 T (.tup [kV (Sum.inl n'), V.ref b2])) := same_new nT
            refine ⟨T, _, rfl, st upd_same, rfl, _, _, rfl, ?_⟩
            dsimp only [gName]
            refine ⟨_, _, rfl, ?_⟩
            dsimp only [gName]
            refine ⟨rfl, ?_⟩
            generalize upd H2 T (.tup [kV (Sum.inl n'), V.ref b2]) = H3 at s3
            have s13 := s2.trans s3
            refine ⟨_, rfl, _, rfl, _, _, rfl, rfl, _, rfl, ?_⟩
            have snoc2 : ∀ (b' : Bool), (b' = true ↔ (n' ≤ x.2 ∧ (EndF F (p ++ [x.1, n']) ∨ MtT F (ps.drop (j + i + 1)) (p ++ [x.1, n'])))) → b' = false → ∀ n'' b3, (Sum.inl n'', V.ref b3) ∈ kvs2.take (i2 + 1) → n'' ≤ x.2 → ¬ (EndF F (p ++ [x.1, n'']) ∨ MtT F (ps.drop (j + i + 1)) (p ++ [x.1, n''])) := fun b' hb e n'' b3 hm hle => by
              rw [take_snoc hk2] at hm
              rcases List.mem_append.mp hm with hm | hm
              · exact inv2 n'' b3 hm hle
              · cases List.mem_singleton.mp hm
                intro z
                rw [hb.mpr ⟨hle, z⟩] at e
                cases e
            by_cases hn : n' ≤ x.2
            · refine iteTx (decide_eq_true hn) ?_
              refine ⟨_, rfl, _, rfl, _, rfl, _, _, rfl, rfl, b2, .ref va, j + i + 1, F, p ++ [x.1, n'], n, ps, ?_, wf, e4, ?_, ?_, by omega, by omega, hlen, fun H4 b' s4 hb' => ?_⟩
              · rfl
              · intro q c hq hc
                have hq2 : p ++ [x.1] <+: q := (by rw [← ap2] at hq; exact (List.prefix_append _ _).trans hq)
                have hne : q ≠ p ++ [x.1] := fun z => by
                  have := hq.length_le
                  rw [z] at this
                  simp at this
                obtain ⟨kvs3, h5, h6⟩ := ht q c ((List.prefix_append p [x.1]).trans hq2) hc
                refine ⟨kvs3, s13 _ _ ?_, h6⟩
                rw [upd_ne (below q hq2 hne c hc)]
                exact s1 _ _ h5
              · exact dp_monoQ (same_lockQ s1 hb1 s13) hv
              · have s14 := s13.trans s4
                have su := same_unlock s1 hb1 s14
                refine ⟨_, rfl, ?_⟩
                cases b' with
                | true =>
                  refine iteTx rfl ⟨s14 _ _ upd_same, q _ true su ⟨fun _ => .inr ?_, fun _ => rfl⟩⟩
                  rw [inv]
                  exact .inl ⟨n', hn, (by rw [e4]; exact fun z => (nomatch z)), hb'.mp rfl⟩
                | false =>
                  refine iteFx rfl ?_
                  exact ⟨_, _, rfl, s14, snoc2 false ⟨fun z => (nomatch z), fun z => hb'.mpr z.2⟩ rfl⟩
            · refine iteFx (decide_eq_false hn) ?_
              exact ⟨_, _, rfl, s13, snoc2 false ⟨fun z => (nomatch z), fun z => absurd z.1 hn⟩ rfl⟩
          · rintro σ2 H2 ⟨y6, y7, rfl, s2, inv2⟩
            rw [List.take_length] at inv2
            refine ⟨s2 _ _ upd_same, _, _, _, _, _, rfl, same_unlock s1 hb1 s2, inv.trans ⟨fun z => ?_, .inr⟩⟩
            rcases z with ⟨n', hn, z1, z2⟩ | z
            · exfalso
              cases e5 : F (p ++ [x.1, n']) with
              | none => exact z1 e5
              | some b2 =>
                rw [← ap2] at e5
                exact inv2 n' b2 (cell2.2.2.2 _ _ e5) hn z2
            · exact z
      · rintro σ' H1 ⟨y3, y4, y5, y6, y7, rfl, s1, inv⟩
        refine q _ false s1 ⟨fun z => (nomatch z), fun z => ?_⟩
        rcases z with z | z
        · exact absurd z ne
        · rw [inv, show j + (ps.length - j) = ps.length by omega, List.drop_length] at z
          exact z.elim
end
/-! ### methods of a class -/
structure Md (P : Program) (w : World) (K : PySem.W.Frag) (mg : Str → Option Value) (base : Heap) (C : Addr) (x : Str) (ps : List Str) (k : Nat) (sp : Sp) : Prop where
  ex : ∃ (f : Addr) (fd : FuncData), FnOk P w K mg base CX0 k f fd ps sp ∧ Meth K C x f ∧ Binds K fd ps []
theorem pe_md {X : Cx} {C : Addr} {m : Str} {ps : List Str} {k : Nat} {sp : Sp} {E : Expr} {t : TE} (M : Md X.prog X.w X.K X.mg X.base C m ps k sp) (h : ∀ (f : Addr) (fd : FuncData), FnOk X.prog X.w X.K X.mg X.base CX0 k f fd ps sp → Meth X.K C m f → Binds X.K fd ps [] → PE X E t) : PE X E t := by
  obtain ⟨f, fd, G, hm, b⟩ := M.ex
  exact h f fd G hm b
structure Mkr (P : Program) (w : World) (K : PySem.W.Frag) (mg : Str → Option Value) (base : Heap) (C : Addr) (ps : List Str) (k : Nat) (sp : Sp) : Prop where
  ex : ∃ (f : Addr) (fd : FuncData), FnOk P w K mg base CX0 k f fd ps sp ∧ Mk K C f ∧ Binds K fd ps []
theorem pe_mkr {X : Cx} {C : Addr} {ps : List Str} {k : Nat} {sp : Sp} {E : Expr} {t : TE} (M : Mkr X.prog X.w X.K X.mg X.base C ps k sp) (h : ∀ (f : Addr) (fd : FuncData), FnOk X.prog X.w X.K X.mg X.base CX0 k f fd ps sp → Mk X.K C f → Binds X.K fd ps [] → PE X E t) : PE X E t := by
  obtain ⟨f, fd, G, mk, b⟩ := M.ex
  exact h f fd G mk b
/-! ### the heap while one more is kept -/
def FrF (F : Tri) (H H' : Hp) : Prop := ∀ b o, H b = some o → (∀ q, F q ≠ some b) → H' b = some o
def NewF (F G : Tri) (H : Hp) : Prop := ∀ q b, G q = some b → (∃ q', F q' = some b) ∨ H b = none
theorem FrF.of {F : Tri} {H H' : Hp} (s : Same H H') : FrF F H H' := fun b o h _ => s b o h
theorem FrF.trans {F G : Tri} {H H1 H2 : Hp} (a : FrF F H H1) (n : NewF F G H) (b : FrF G H1 H2) : FrF F H H2 := fun c o h hn => by
  refine b c o (a c o h hn) fun q hq => ?_
  rcases n q c hq with ⟨q', h'⟩ | h'
  · exact hn q' h'
  · rw [h] at h'; cases h'
theorem CellF.of {F : Tri} {q : List Int} {n : Nat} {kvs : List (L2.Key × V)} (h1 : (kvs.map (·.1)).Nodup) (h2 : kvs.length ≤ n) (h3 : ∀ kv ∈ kvs, ∃ k b, kv = ((Sum.inl k : L2.Key), V.ref b)) (h4 : ∀ k, valV kvs (Sum.inl k) = (F (q ++ [k])).map V.ref) : CellF F q n kvs := by
  refine ⟨h1, h2, fun kv hm => ?_, fun k b hb => ?_⟩
  · obtain ⟨k, b, rfl⟩ := h3 kv hm
    refine ⟨k, b, rfl, ?_⟩
    have := mem_valV h1 hm
    rw [h4] at this
    cases e : F (q ++ [k]) with
    | none => rw [e] at this; cases this
    | some c => rw [e] at this; cases this; rfl
  · refine valV_mem ?_
    rw [h4, hb]
    rfl
theorem CellF.le {F : Tri} {q : List Int} {n m : Nat} {kvs : List (L2.Key × V)} (h : CellF F q n kvs) (hnm : n ≤ m) : CellF F q m kvs := ⟨h.1, Nat.le_trans h.2.1 hnm, h.2.2⟩
theorem CellF.shape {F : Tri} {q : List Int} {n : Nat} {kvs : List (L2.Key × V)} (h : CellF F q n kvs) : ∀ kv ∈ kvs, ∃ k b, kv = ((Sum.inl k : L2.Key), V.ref b) := fun kv hm => by
  obtain ⟨k, b, e, _⟩ := h.2.2.1 kv hm
  exact ⟨k, b, e⟩
theorem TriU.le {H : Hp} {F : Tri} {p : List Int} {n m : Nat} (h : TriU H F p n) (hnm : n ≤ m) : TriU H F p m := fun q a hq e => by
  obtain ⟨kvs, h1, h2⟩ := h q a hq e
  exact ⟨kvs, h1, h2.le hnm⟩
theorem nd_put (k : L2.Key) (v : V) {kvs : List (L2.Key × V)} (h : (kvs.map (·.1)).Nodup) : ((putK kvs k v).map (·.1)).Nodup := by
  unfold putK
  split
  · rw [List.map_map]
    have : ((fun x : L2.Key × V => x.1) ∘ fun kv => if kv.1 = k then (kv.1, v) else kv) = fun x => x.1 := by
      funext x
      show (if x.1 = k then (x.1, v) else x).1 = x.1
      split <;> rfl
    rw [this]
    exact h
  · rename_i hn
    rw [List.map_append, List.nodup_append]
    refine ⟨h, by simp, fun a ha b hb => ?_⟩
    simp only [List.map_cons, List.map_nil, List.mem_singleton] at hb
    rintro rfl
    refine hn (List.any_eq_true.mpr ?_)
    obtain ⟨kv, h1, h2⟩ := List.mem_map.mp ha
    exact ⟨kv, h1, decide_eq_true (h2.trans hb)⟩
theorem shape_put {k : Int} {b : Addr} {kvs : List (L2.Key × V)} (h : ∀ kv ∈ kvs, ∃ k b, kv = ((Sum.inl k : L2.Key), V.ref b)) : ∀ kv ∈ putK kvs (Sum.inl k : L2.Key) (V.ref b), ∃ k b, kv = ((Sum.inl k : L2.Key), V.ref b) := fun kv hm => by
  unfold putK at hm
  split at hm
  · obtain ⟨x, hx, rfl⟩ := List.mem_map.mp hm
    obtain ⟨k1, b1, rfl⟩ := h x hx
    by_cases e : (Sum.inl k1 : L2.Key) = Sum.inl k
    · exact ⟨k1, b, by show (if (Sum.inl k1 : L2.Key) = Sum.inl k then _ else _) = _; rw [if_pos e]⟩
    · exact ⟨k1, b1, by show (if (Sum.inl k1 : L2.Key) = Sum.inl k then _ else _) = _; rw [if_neg e]⟩
  · rcases List.mem_append.mp hm with hm | hm
    · exact h kv hm
    · exact ⟨k, b, List.mem_singleton.mp hm⟩
theorem long_ne {p : List Int} {k : Int} {t : List Int} : (p ++ [k]) ++ t ≠ p := fun e => by
  have := congrArg List.length e
  rw [List.length_append, List.length_append, List.length_singleton] at this
  omega
/-- one dict more, or one in the place of another -/
theorem TriU.put {H : Hp} {G G' : Tri} {n : Nat} {p : List Int} {k : Int} {h nd : Addr} {kvs : List (L2.Key × V)} (t : TriU H G [] n) (wf : WfT G) (hp : G p = some h) (hk : H h = some (.dK kvs)) (cell : CellF G p n kvs) (nn : H nd = none)
    (at1 : G' (p ++ [k]) = some nd) (sub : ∀ j, G' ((p ++ [k]) ++ [j]) = none) (old : ∀ q a, q ≠ p ++ [k] → G' q = some a → G q = some a) (keep : ∀ q j, G' q ≠ none → q ++ [j] ≠ p ++ [k] → q ≠ p ++ [k] → G' (q ++ [j]) = G (q ++ [j])) :
    TriU (upd (upd H nd (.dK [])) h (.dK (putK kvs (Sum.inl k) (.ref nd)))) G' [] (n + 1) := fun q a _ e => by
  have nh : nd ≠ h := fun z => by rw [z, hk] at nn; cases nn
  by_cases e1 : q = p ++ [k]
  · subst e1
    rw [at1] at e
    cases e
    refine ⟨[], by rw [upd_ne nh]; exact upd_same, .of List.nodup_nil (Nat.zero_le _) (fun _ z => by cases z) fun j => ?_⟩
    rw [sub]
    rfl
  · have e2 := old q a e1 e
    by_cases e3 : q = p
    · subst e3
      obtain rfl : h = a := Option.some.inj (hp.symm.trans e2)
      refine ⟨_, upd_same, .of (nd_put _ _ cell.1) (Nat.le_trans (length_putK _ _ _) (Nat.succ_le_succ cell.2.1)) (shape_put cell.shape) fun j => ?_⟩
      rw [valV_put]
      by_cases ej : j = k
      · subst ej
        rw [if_pos rfl, at1]
        rfl
      · rw [if_neg fun z => ej (by cases z; rfl), cell.val, keep q j (by rw [e]; exact fun z => (nomatch z)) (fun z => ej (snoc_inj z).2) e1]
    · obtain ⟨kvs2, h5, h6⟩ := t q a List.nil_prefix e2
      have ah : a ≠ h := fun z => e3 (wf.inj _ _ h (by rw [← z]; exact e2) hp)
      have an : a ≠ nd := fun z => by rw [z, nn] at h5; cases h5
      refine ⟨kvs2, by rw [upd_ne ah, upd_ne an]; exact h5, .of h6.1 (Nat.le_succ_of_le h6.2.1) h6.shape fun j => ?_⟩
      rw [h6.val, keep q j (by rw [e]; exact fun z => (nomatch z)) (fun z => e3 (snoc_inj z).1) e1]
structure KeepI (H : Hp) (F : Tri) (H1 : Hp) (G : Tri) (hp : List Int) (n : Nat) : Prop where
  way : Way F G hp
  tri : TriU H1 G [] n
  frf : FrF F H H1
  new : NewF F G H
theorem KeepI.notin {H : Hp} {F : Tri} {H1 : Hp} {G : Tri} {hp : List Int} {n : Nat} (I : KeepI H F H1 G hp n) {nd : Addr} (nn : H1 nd = none) : ∀ q, G q ≠ some nd := fun q z => by
  obtain ⟨kvs, h1, _⟩ := I.tri q nd List.nil_prefix z
  rw [nn] at h1
  cases h1
theorem KeepI.free {H : Hp} {F : Tri} {H1 : Hp} {G : Tri} {hp : List Int} {n : Nat} (I : KeepI H F H1 G hp n) {nd : Addr} (nn : H1 nd = none) : H nd = none := by
  cases e : H nd with
  | none => rfl
  | some o =>
    have := I.frf nd o e fun q z => I.notin nn q (by rw [I.way.old q (by rw [z]; exact fun y => (nomatch y))]; exact z)
    rw [nn] at this
    cases this
theorem KeepI.mono {H : Hp} {F : Tri} {H1 H2 : Hp} {G : Tri} {hp : List Int} {n : Nat} (I : KeepI H F H1 G hp n) (s : Same H1 H2) : KeepI H F H2 G hp n :=
  ⟨I.way, I.tri.mono s, fun b o h hn => s _ _ (I.frf b o h hn), I.new⟩
theorem KeepI.there {H : Hp} {F : Tri} {H1 : Hp} {G : Tri} {hp : List Int} {n : Nat} {k : Int} {b : Addr} (I : KeepI H F H1 G hp n) (e : G (hp ++ [k]) = some b) : KeepI H F H1 G (hp ++ [k]) (n + 1) :=
  ⟨⟨I.way.wf, I.way.old, fun q h => (I.way.new q h).imp id fun z => z.trans (List.prefix_append _ _), by rw [e]; exact fun z => (nomatch z)⟩, I.tri.le (Nat.le_succ n), I.frf, I.new⟩
theorem KeepI.frame {H : Hp} {F : Tri} {H1 : Hp} {G : Tri} {hp : List Int} {n : Nat} {h nd : Addr} {o1 o2 : HO} (I : KeepI H F H1 G hp n) (hh : G hp = some h) (nn : H1 nd = none) : FrF F H (upd (upd H1 nd o1) h o2) := fun b o e hn => by
  have e1 := I.frf b o e hn
  have bn : b ≠ nd := ne_of_none e1 nn
  have bh : b ≠ h := fun z => by
    rcases I.new hp h hh with ⟨q', z2⟩ | z2
    · exact hn q' (by rw [z]; exact z2)
    · rw [z, z2] at e; cases e
  rw [upd_ne bh, upd_ne bn]
  exact e1
theorem KeepI.add {H : Hp} {F : Tri} {H1 : Hp} {G : Tri} {hp : List Int} {n : Nat} {k : Int} {h nd : Addr} {kvs : List (L2.Key × V)} (I : KeepI H F H1 G hp n) (hh : G hp = some h) (hk : H1 h = some (.dK kvs)) (cell : CellF G hp n kvs) (nn : H1 nd = none) (e : G (hp ++ [k]) = none) :
    KeepI H F (upd (upd H1 nd (.dK [])) h (.dK (kvs ++ [(Sum.inl k, .ref nd)]))) (addF G (hp ++ [k]) nd) (hp ++ [k]) (n + 1) := by
  have ni := I.notin nn
  have at1 : addF G (hp ++ [k]) nd (hp ++ [k]) = some nd := if_pos rfl
  have els : ∀ q, q ≠ hp ++ [k] → addF G (hp ++ [k]) nd q = G q := fun q hq => if_neg hq
  refine ⟨⟨I.way.wf.add (by rw [hh]; exact fun z => (nomatch z)) ni, fun q hq => ?_, fun q hq => ?_, by rw [at1]; exact fun z => (nomatch z)⟩, ?_, I.frame hh nn, fun q b hq => ?_⟩
  · rw [els q fun z => ?_]
    · exact I.way.old q hq
    · have := I.way.old q hq
      rw [z, e] at this
      exact hq (by rw [z]; exact this.symm)
  · by_cases e1 : q = hp ++ [k]
    · exact .inr (by rw [e1]; exact List.prefix_refl _)
    · rw [els q e1] at hq
      exact (I.way.new q hq).imp id fun z => z.trans (List.prefix_append _ _)
  · have pn : putK kvs (Sum.inl k : L2.Key) (V.ref nd) = kvs ++ [(Sum.inl k, V.ref nd)] := putK_new _ (by rw [cell.val, e]; rfl)
    rw [← pn]
    refine I.tri.put I.way.wf hh hk cell nn at1 (fun j => ?_) (fun q a hq he => ?_) fun q j _ h1 _ => els _ h1
    · rw [els _ snoc_ne]
      cases e2 : G ((hp ++ [k]) ++ [j]) with
      | none => rfl
      | some b => exact absurd e (I.way.wf.clo _ j (by rw [e2]; exact fun z => (nomatch z)))
    · rw [els q hq] at he
      exact he
  · by_cases e1 : q = hp ++ [k]
    · rw [e1, at1] at hq
      cases hq
      exact .inr (I.free nn)
    · rw [els q e1] at hq
      exact I.new q b hq
theorem KeepI.fin {H : Hp} {F : Tri} {H1 : Hp} {G : Tri} {hp : List Int} {n : Nat} {k : Int} {h nd : Addr} {kvs : List (L2.Key × V)} (I : KeepI H F H1 G hp n) (hh : G hp = some h) (hk : H1 h = some (.dK kvs)) (cell : CellF G hp n kvs) (nn : H1 nd = none) :
    WfT (finF G (hp ++ [k]) nd) ∧ TriU (upd (upd H1 nd (.dK [])) h (.dK (putK kvs (Sum.inl k) (.ref nd)))) (finF G (hp ++ [k]) nd) [] (n + 1) ∧ FrF F H (upd (upd H1 nd (.dK [])) h (.dK (putK kvs (Sum.inl k) (.ref nd)))) ∧ NewF F (finF G (hp ++ [k]) nd) H := by
  have ni := I.notin nn
  have at1 : finF G (hp ++ [k]) nd (hp ++ [k]) = some nd := if_pos rfl
  have out : ∀ q a, q ≠ hp ++ [k] → finF G (hp ++ [k]) nd q = some a → ¬ hp ++ [k] <+: q ∧ G q = some a := fun q a hq he => by
    unfold finF at he
    rw [if_neg hq] at he
    by_cases z : hp ++ [k] <+: q
    · rw [if_pos z] at he; cases he
    · rw [if_neg z] at he; exact ⟨z, he⟩
  refine ⟨I.way.wf.fin (by rw [hh]; exact fun z => (nomatch z)) ni, ?_, I.frame hh nn, fun q b hq => ?_⟩
  · refine I.tri.put I.way.wf hh hk cell nn at1 (fun j => ?_) (fun q a hq he => (out q a hq he).2) fun q j h1 h2 h3 => ?_
    · unfold finF
      rw [if_neg snoc_ne, if_pos (List.prefix_append _ _)]
    · cases e : finF G (hp ++ [k]) nd q with
      | none => exact absurd e h1
      | some a =>
        obtain ⟨z, _⟩ := out q a h3 e
        unfold finF
        rw [if_neg h2, if_neg fun y => ?_]
        rcases pre_snoc y with y | y
        · exact h2 y.symm
        · exact z y
  · by_cases e1 : q = hp ++ [k]
    · rw [e1, at1] at hq
      cases hq
      exact .inr (I.free nn)
    · exact I.new q b (out q b e1 hq).2
theorem KeepI.sdef {H : Hp} {F : Tri} {H1 : Hp} {G : Tri} {hp : List Int} {n : Nat} {k : Int} {h nd : Addr} {QQ : VK} (I : KeepI H F H1 G hp n) (hh : G hp = some h) (nn : H1 nd = none) (hn : n ≤ 9000000)
    (q : ∀ b H2 G2, KeepI H F H2 G2 (hp ++ [k]) (n + 1) → G2 (hp ++ [k]) = some b → QQ (.ref b) H2) : rSetDef (.ref h) [.int k, .ref nd] (upd H1 nd (.dK [])) QQ := by
  obtain ⟨kvs, hk, cell⟩ := I.tri hp h List.nil_prefix hh
  have s1 : Same H1 (upd H1 nd (.dK [])) := same_new nn
  refine ⟨h, kvs, Sum.inl k, .ref nd, rfl, rfl, s1 _ _ hk, szn cell.2.1 hn, fun v hv => ?_, fun hv => ?_⟩
  · rw [cell.val] at hv
    cases e : G (hp ++ [k]) with
    | none => rw [e] at hv; cases hv
    | some b =>
      rw [e] at hv
      cases hv
      exact q b _ G ((I.mono s1).there e) e
  · rw [cell.val] at hv
    cases e : G (hp ++ [k]) with
    | some b => rw [e] at hv; cases hv
    | none => exact q nd _ _ (I.add hh hk cell nn e) (if_pos rfl)
/-! ### the floor -/
def fT (d : Addr) : List (Str × V) := putF "trees" (.ref d) []
theorem fT_at (d : Addr) : (fT d).lookup ("trees" : Str) = some (.ref d) := by
  unfold fT
  rw [lookup_putF, if_pos rfl]
theorem fT_no (d : Addr) {m : Str} (h1 : ¬ m = "trees") : (fT d).lookup m = none := by
  unfold fT
  rw [lookup_putF, if_neg h1]
  all_goals rfl
structure FloorAt (C : Addr) (H : Hp) (p : Addr) (F : Tri) (n : Nat) : Prop where
  ob : ∃ dx d, H p = some (.ins C dx (fT d)) ∧ F [] = some d
  wf : WfT F
  tri : TriU H F [] n
theorem FloorAt.mono {C : Addr} {H H' : Hp} {p : Addr} {F : Tri} {n : Nat} (h : FloorAt C H p F n) (s : Same H H') : FloorAt C H' p F n := ⟨let ⟨dx, d, h1, h2⟩ := h.ob; ⟨dx, d, s _ _ h1, h2⟩, h.wf, h.tri.mono s⟩
theorem FrF.quiet {F : Tri} {H H' : Hp} {n : Nat} (t : TriU H F [] n) (f : FrF F H H') : SameQ H H' := fun a o h hne => f a o h fun q z => by
  obtain ⟨kvs, h1, _⟩ := t q a List.nil_prefix z
  rw [h] at h1
  cases h1
  exact hne trivial
structure TxtF (K : PySem.W.Frag) (mg : Str → Option Value) (C : Addr) : Prop where
  cl : Cls K C
  nT : NoAttr K C "trees"
  mgC : mg "Floor" = some (.ref C)
section
variable {P : Program} {w : World} {K : PySem.W.Frag} {mg : Str → Option Value} {base : Heap}
abbrev s_Floor_keep : Stmt := inClass (topS 7) 1
theorem sc_Floor_keep : FnScope ["self", "situation", "state", "pairs", "holder", "key", "place", "count", "node"] ["self", "situation"] (defScope s_Floor_keep) := ⟨rfl, rfl, rfl, by decide +kernel, rfl, by decide +kernel, by decide +kernel⟩
-- Floor.keep slots: self=0 situation=1 state=2 pairs=3 holder=4 key=5 place=6 count=7 node=8 globals: 
def spKeep (K : PySem.W.Frag) (C : Addr) : Sp := fun vs H Q _ => ∃ (p : Addr) (v : V) (F : Tri) (n : Nat) (x : Int × Prs), vs = [.ref p, v] ∧ FloorAt C H p F n ∧ Dp K H v (pkD x.1 x.2) ∧ ¬ Und F x ∧ n + 2 * x.2.length + 1 ≤ 9000000 ∧
  ∀ H' F', FloorAt C H' p F' (n + 2 * x.2.length + 1) → FrF F H H' → NewF F F' H → (∀ y, Und F' y ↔ Und F y ∨ (y.1 = x.1 ∧ SubP y.2 x.2)) → Q .non H'
theorem md_keep {f C : Addr} {fd : FuncData} (F : Fun K "keep" "Floor.keep" s_Floor_keep f fd) (T : TxtF K mg C) (mm : Meth K C "keep" f) : Md P w K mg base C "keep" ["self", "situation"] 1 (spKeep K C) := by
  refine ⟨f, fd, F.ok sc_Floor_keep (fun vs H Q E h => ?_) (fun cdv A outer s H vs Q E hr h => ?_), mm, F.binds (ps := ["self", "situation"]) fun _ _ _ _ _ _ us hl => match us, hl with | [_, _], _ => rfl⟩
  · obtain ⟨p, v, F, n, x, rfl, _⟩ := h
    rfl
  obtain ⟨p, v, F, n, x, rfl, fl, hv, nu, hn, q⟩ := h
  obtain ⟨dx, d, hp, hd⟩ := fl.ob
  obtain ⟨va, xs, rfl, hva, ha⟩ := dp_tup hv
  obtain ⟨v1, r1, rfl, d1, ha⟩ := dpa_cons ha
  obtain ⟨v2, r2, rfl, d2, ha⟩ := dpa_cons ha
  obtain rfl := dpa_nil ha
  rw [dp_int d1] at hva
  obtain ⟨pa, ys, rfl, hpa, yl, hys⟩ := dp_prs_at d2
  refine ⟨_, (pss_cons (ps_asg (pv 1) (pg_tup rfl (pgs_cons (pg_name (i := 2) sc_Floor_keep.nd rfl (Or.inl rfl)) (pgs_cons (pg_name (i := 3) sc_Floor_keep.nd rfl (Or.inl rfl)) pgs_nil))))
 (pss_cons (ps_set (i := 4) sc_Floor_keep.nd rfl (Or.inl rfl) (pe_fld (pv 0) rfl))
 (pss_cons (ps_set (i := 5) sc_Floor_keep.nd rfl (Or.inl rfl) (pv 2))
 (pss_cons (ps_for PassesOwn.never rfl (piT K (pv 3)) (pg_tup rfl (pgs_cons (pg_name (i := 6) sc_Floor_keep.nd rfl (Or.inl rfl)) (pgs_cons (pg_name (i := 7) sc_Floor_keep.nd rfl (Or.inl rfl)) pgs_nil)))
 (pss_cons (ps_set (i := 8) sc_Floor_keep.nd rfl (Or.inl rfl) (peBm K PySem.F.plainAttrs_dict PySem.F.slot_dict_setdefault PySem.F.type_dict_setdefault mt_setdef (pv 4) (pa_cons (pv 5) (pa_cons pe_dnewK pa_nil))))
 (pss_cons (ps_set (i := 4) sc_Floor_keep.nd rfl (Or.inl rfl) (peBm K PySem.F.plainAttrs_dict PySem.F.slot_dict_setdefault PySem.F.type_dict_setdefault mt_setdef (pv 8) (pa_cons (pv 6) (pa_cons pe_dnewK pa_nil))))
 (pss_one (ps_set (i := 5) sc_Floor_keep.nd rfl (Or.inl rfl) (pv 7))))))
 (pss_one (ps_dput (hu_of hr) (pv 4) (pv 5) pe_dnewK rfl)))))), ?_⟩
  refine ⟨_, rfl, va, _, rfl, hva, rfl, _, _, rfl, ?_⟩
  dsimp only [gName]
  refine ⟨_, _, rfl, ?_⟩
  dsimp only [gName]
  refine ⟨rfl, ?_⟩
  refine ⟨_, rfl, p, C, dx, _, _, rfl, hp, T.cl, T.nT, fT_at d, ?_⟩
  refine ⟨_, rfl, ?_⟩
  refine ⟨_, rfl, pa, rfl, ⟨_, hpa⟩, for_tup (xs := ys) (fun i σ' H1 => i ≤ x.2.length ∧ ∃ (G : Tri) (hq : List Int) (k : Int) (ha : Addr) (y6 y7 y8 : Option V), σ' = [some (.ref p), some (.ref va), some (.int x.1), some (.ref pa), some (.ref ha), some (.int k), y6, y7, y8] ∧
    KeepI H F H1 G hq (n + 2 * i) ∧ G hq = some ha ∧ hq ++ [k] = x.1 :: flatP (x.2.take i)) ?_ ?_ ?_ ?_⟩
  · exact ⟨Nat.zero_le _, F, [], x.1, d, none, none, none, rfl, ⟨⟨fl.wf, fun _ _ => rfl, fun q h => .inl h, by rw [hd]; exact fun z => (nomatch z)⟩, fl.tri, FrF.of (Same.refl _), fun q b h => .inl ⟨q, h⟩⟩, hd, rfl⟩
  · rintro i σ' H1 _ ⟨_, G, hq, k, ha, y6, y7, y8, rfl, I, _⟩
    exact (I.frf.quiet fl.tri).sqT hpa
  · rintro i u σ' H1 hu ⟨_, G, hq, k, h0, y6, y7, y8, rfl, I, hh, hpath⟩
    have lt : i < x.2.length := by rw [← yl]; exact (List.getElem?_eq_some_iff.mp hu).1
    have hx : x.2[i]? = some x.2[i] := List.getElem?_eq_getElem lt
    generalize x.2[i] = pr at hx
    obtain ⟨t, hyt, htt⟩ := hys _ _ hx
    rw [hu] at hyt
    cases hyt
    refine ⟨t, _, rfl, (I.frf.quiet fl.tri).sqT htt, rfl, _, _, rfl, ?_⟩
    dsimp only [gName]
    refine ⟨_, _, rfl, ?_⟩
    dsimp only [gName]
    refine ⟨rfl, ?_⟩
    have isd : ∀ {H3 : Hp} {G3 : Tri} {p3 : List Int} {n3 : Nat} {a3 : Addr}, KeepI H F H3 G3 p3 n3 → G3 p3 = some a3 → tyV K "dict" (.ref a3) H3 := fun I3 e3 => by
      obtain ⟨kvs, hkv, _⟩ := I3.tri _ _ List.nil_prefix e3
      exact .inr (.inr (.inl ⟨rfl, .inl ⟨_, hkv⟩⟩))
    refine ⟨_, rfl, isd I hh, _, rfl, fun nd nn => ?_⟩
    refine I.sdef hh nn (by omega) fun b2 H2 G2 I2 e2 => ?_
    dsimp only [gName]
    refine ⟨_, rfl, isd I2 e2, _, rfl, fun nd2 nn2 => ?_⟩
    refine I2.sdef e2 nn2 (by omega) fun b3 H3 G3 I3 e3 => ?_
    dsimp only [gName]
    refine ⟨_, rfl, ?_⟩
    dsimp only [gName]
    refine ⟨lt, G3, _, pr.2, b3, _, _, _, rfl, I3, e3, ?_⟩
    rw [take_snoc hx, flatP_app, hpath, ap2]
    rfl
  · rintro σ' H1 ⟨_, G, hq, k, h0, y6, y7, y8, rfl, I, hh, hpath⟩
    rw [yl, List.take_length] at hpath
    rw [yl] at I
    refine fun nd nn => ?_
    obtain ⟨kvs, hkv, cell⟩ := I.tri hq h0 List.nil_prefix hh
    have s1 : Same H1 (upd H1 nd (.dK [])) := same_new nn
    obtain ⟨w1, t1, f1, n1⟩ := I.fin (k := k) hh hkv cell nn
    refine ⟨_, rfl, _, rfl, h0, _, rfl, DPut.k (k := Sum.inl k) (s1 _ _ hkv) (szn cell.2.1 (by omega)), ?_⟩
    refine q _ _ ⟨⟨dx, d, f1 _ _ hp fun z hz => ?_, ?_⟩, w1, t1⟩ f1 n1 fun y => und_fin fl.wf I.way (I.notin nn) hpath nu y
    · obtain ⟨kz, hz2, _⟩ := fl.tri z p List.nil_prefix hz
      rw [hp] at hz2
      cases hz2
    · unfold finF
      rw [if_neg fun z => snoc_nil z.symm, if_neg fun z => snoc_nil (List.prefix_nil.mp z), I.way.old [] (by rw [hd]; exact fun z => (nomatch z))]
      exact hd
end
section
variable {P : Program} {w : World} {K : PySem.W.Frag} {mg : Str → Option Value} {base : Heap}
abbrev s_Floor_is_under : Stmt := inClass (topS 7) 2
theorem sc_Floor_is_under : FnScope ["self", "situation", "state", "pairs"] ["self", "situation"] (defScope s_Floor_is_under) := ⟨rfl, rfl, rfl, by decide +kernel, rfl, by decide +kernel, by decide +kernel⟩
-- Floor.is_under slots: self=0 situation=1 state=2 pairs=3 globals: meets
def spUnder (K : PySem.W.Frag) (C : Addr) (lv : Nat) : Sp := fun vs H Q _ => ∃ (p : Addr) (v : V) (F : Tri) (n : Nat) (x : Int × Prs), vs = [.ref p, v] ∧ FloorAt C H p F n ∧ Dp K H v (pkD x.1 x.2) ∧ x.2.length < lv ∧ x.2.length ≤ 1000 ∧
  ∀ H' (b : Bool), Same H H' → (b = true ↔ Und F x) → Q (.bl b) H'
theorem md_is_under {f C : Addr} {fd : FuncData} {lv : Nat} (F : Fun K "is_under" "Floor.is_under" s_Floor_is_under f fd) (T : TxtF K mg C) (mm : Meth K C "is_under" f) (D_meets : Fd P w K mg base "meets" ["node", "pairs", "first"] (lv + 1) (spMeets K lv)) : Md P w K mg base C "is_under" ["self", "situation"] (lv + 2) (spUnder K C lv) := by
  refine ⟨f, fd, F.ok sc_Floor_is_under (fun vs H Q E h => ?_) (fun cdv A outer s H vs Q E hr h => ?_), mm, F.binds (ps := ["self", "situation"]) fun _ _ _ _ _ _ us hl => match us, hl with | [_, _], _ => rfl⟩
  · obtain ⟨p, v, F, n, x, rfl, _⟩ := h
    rfl
  obtain ⟨p, v, F, n, x, rfl, fl, hv, hl1, hl2, q⟩ := h
  obtain ⟨dx, d, hp, hd⟩ := fl.ob
  obtain ⟨va, xs, rfl, hva, ha⟩ := dp_tup hv
  obtain ⟨v1, r1, rfl, d1, ha⟩ := dpa_cons ha
  obtain ⟨v2, r2, rfl, d2, ha⟩ := dpa_cons ha
  obtain rfl := dpa_nil ha
  rw [dp_int d1] at hva
  obtain ⟨kvs, hkv, cell⟩ := fl.tri [] d List.nil_prefix hd
  refine ⟨_, (pss_cons (ps_asg (pv 1) (pg_tup rfl (pgs_cons (pg_name (i := 2) sc_Floor_is_under.nd rfl (Or.inl rfl)) (pgs_cons (pg_name (i := 3) sc_Floor_is_under.nd rfl (Or.inl rfl)) pgs_nil))))
 (pss_one (ps_ret (pe_and (pe_cmp (pc_din (hu_of hr) (pv 2) (pe_fld (pv 0) rfl))) (pe_one (pe_fn D_meets hr rfl (pa_cons (pe_dget (hu_of hr) (pe_fld (pv 0) rfl) (pv 2) (fun _ _ => rfl)) (pa_cons (pv 3) (pa_cons pe_int pa_nil))))))))), ?_⟩
  refine ⟨_, rfl, va, _, rfl, hva, rfl, _, _, rfl, ?_⟩
  dsimp only [gName]
  refine ⟨_, _, rfl, ?_⟩
  dsimp only [gName]
  refine ⟨rfl, ?_⟩
  have hval := cell.val x.1
  have hget : DGet H d (.int x.1) (valV kvs (Sum.inl x.1)) := DGet.k (k := Sum.inl x.1) hkv
  refine ⟨_, rfl, _, rfl, p, C, dx, _, _, rfl, hp, T.cl, T.nT, fT_at d, d, _, rfl, hget, ?_⟩
  rw [hval]
  cases e : F ([] ++ [x.1]) with
  | none =>
    refine ⟨false, rfl, iteF ?_⟩
    exact q _ false (Same.refl _) ⟨fun z => (nomatch z), fun z => absurd e z.1⟩
  | some b =>
    refine ⟨true, rfl, iteT ?_⟩
    rw [e] at hval
    rw [hval] at hget
    refine ⟨_, rfl, p, C, dx, _, _, rfl, hp, T.cl, T.nT, fT_at d, _, rfl, d, V.ref b, rfl, hget, ?_⟩
    refine ⟨_, rfl, b, v2, 0, F, [] ++ [x.1], n, x.2, rfl, fl.wf, e, fl.tri.sub List.nil_prefix, d2, Nat.zero_le _, by omega, hl2, fun H' b' s' hb' => q _ b' s' (hb'.trans ⟨fun z => ⟨by show F ([] ++ [x.1]) ≠ none; rw [e]; exact fun z => (nomatch z), z⟩, fun z => z.2⟩)⟩
end
section
variable {P : Program} {w : World} {K : PySem.W.Frag} {mg : Str → Option Value} {base : Heap}
def pkx (x : Int × Prs) : PyData := pkD x.1 x.2
/-- above one of the list -/
def Ab (L : List (Int × Prs)) (y : Int × Prs) : Prop := ∃ x ∈ L, y.1 = x.1 ∧ SubP y.2 x.2
theorem ab_snoc {L : List (Int × Prs)} {x y : Int × Prs} : Ab (L ++ [x]) y ↔ Ab L y ∨ (y.1 = x.1 ∧ SubP y.2 x.2) := by
  constructor
  · rintro ⟨z, hz, h⟩
    rcases List.mem_append.mp hz with hz | hz
    · exact .inl ⟨z, hz, h⟩
    · rw [List.mem_singleton.mp hz] at h
      exact .inr h
  · rintro (⟨z, hz, h⟩ | h)
    · exact ⟨z, List.mem_append_left _ hz, h⟩
    · exact ⟨x, List.mem_append_right _ (List.mem_singleton.mpr rfl), h⟩
def szF : List (Int × Prs) → Nat
  | [] => 0
  | x :: r => (2 * x.2.length + 1) + szF r
theorem szF_app : ∀ a b : List (Int × Prs), szF (a ++ b) = szF a + szF b
  | [], b => by rw [List.nil_append]; show szF b = 0 + szF b; omega
  | x :: a, b => by
    show (2 * x.2.length + 1) + szF (a ++ b) = (2 * x.2.length + 1) + szF a + szF b
    rw [szF_app a b]
    omega
theorem szF_take (L : List (Int × Prs)) (i : Nat) : szF (L.take i) ≤ szF L := by
  have := szF_app (L.take i) (L.drop i)
  rw [List.take_append_drop] at this
  omega
/-- nothing but one object has changed -/
def FrO (p : Addr) (H H' : Hp) : Prop := ∀ b o, b ≠ p → H b = some o → H' b = some o
theorem FrO.quiet {p : Addr} {H H' : Hp} {C dx : Addr} {fs : List (Str × V)} (f : FrO p H H') (e : H p = some (.ins C dx fs)) : SameQ H H' := fun a o h hne => f a o (fun z => hne (by rw [z, e] at h; cases h; trivial)) h
abbrev s_Floor_init : Stmt := inClass (topS 7) 0
theorem sc_Floor_init : FnScope ["self", "situations", "situation"] ["self", "situations"] (defScope s_Floor_init) := ⟨rfl, rfl, rfl, by decide +kernel, rfl, by decide +kernel, by decide +kernel⟩
-- Floor.__init__ slots: self=0 situations=1 situation=2 globals: 
def spFInit (K : PySem.W.Frag) (C : Addr) : Sp := fun vs H Q _ => ∃ (p la dx : Addr) (xs : List V) (L : List (Int × Prs)), vs = [.ref p, .ref la] ∧ H p = some (.ins C dx []) ∧ SqL K H la xs ∧ DpAll K H xs (L.map pkx) ∧ szF L ≤ 9000000 ∧ (∀ i x, L[i]? = some x → ¬ Ab (L.take i) x) ∧
  ∀ H' F, FloorAt C H' p F (szF L) → FrO p H H' → (∀ q b, F q = some b → H b = none) → (∀ y, Und F y ↔ Ab L y) → Q .non H'
theorem fd_Floor_init {f C : Addr} {fd : FuncData} (F : Fun K "__init__" "Floor.__init__" s_Floor_init f fd) (T : TxtF K mg C) (M_keep : Md P w K mg base C "keep" ["self", "situation"] 1 (spKeep K C)) : FnOk P w K mg base CX0 2 f fd ["self", "situations"] (spFInit K C) := by
  refine F.ok sc_Floor_init (fun vs H Q E h => ?_) (fun cdv A outer s H vs Q E hr h => ?_)
  · obtain ⟨p, la, dx, xs, L, rfl, _⟩ := h
    rfl
  obtain ⟨p, la, dx, xs, L, rfl, hp, hla, hd, hsz, inc, q⟩ := h
  have xl : xs.length = L.length := by have := dpa_len hd; rw [List.length_map] at this; exact this
  refine ⟨_, (pss_cons (ps_fld (pv 0) pe_dnewK rfl)
 (pss_one (ps_for PassesOwn.never rfl (piL K (pv 1)) (pg_name (i := 2) sc_Floor_init.nd rfl (Or.inl rfl))
 (pss_one (ps_expr (pe_md M_keep fun _ _ G hm b => pe_meth (pv 0) T.cl hm G (hr.mono (by decide)) b .nil pass0 (pa_cons (pv 2) pa_nil))))))), ?_⟩
  refine fun d nd => ?_
  have pd : p ≠ d := fun z => by rw [z, nd] at hp; cases hp
  refine ⟨_, rfl, p, C, dx, _, rfl, by rw [upd_ne pd]; exact hp, T.cl, T.nT, by decide, ?_⟩
  have e1 : (upd (upd H d (.dK [])) p (.ins C dx (putF "trees" (.ref d) []))) p = some (.ins C dx (fT d)) := upd_same
  have e2 : (upd (upd H d (.dK [])) p (.ins C dx (putF "trees" (.ref d) []))) d = some (.dK []) := by rw [upd_ne pd.symm]; exact upd_same
  have f1 : FrO p H (upd (upd H d (.dK [])) p (.ins C dx (putF "trees" (.ref d) []))) := fun b o hb h => by
    rw [upd_ne hb]
    exact (same_new nd) _ _ h
  generalize upd (upd H d (.dK [])) p (.ins C dx (putF "trees" (.ref d) [])) = H1 at e1 e2 f1 ⊢
  have fl0 : FloorAt C H1 p (fun q => if q = [] then some d else none) 0 := by
    refine ⟨⟨dx, d, e1, if_pos rfl⟩, ⟨by rw [if_pos rfl]; exact fun z => (nomatch z), fun q k h => absurd (if_neg snoc_nil) h, fun q r b h1 h2 => ?_⟩, fun q a _ e => ?_⟩
    · by_cases z1 : q = []
      · by_cases z2 : r = []
        · rw [z1, z2]
        · rw [if_neg z2] at h2; cases h2
      · rw [if_neg z1] at h1; cases h1
    · by_cases z1 : q = []
      · rw [if_pos z1] at e
        cases e
        exact ⟨[], e2, .of List.nodup_nil (Nat.le_refl _) (fun _ z => by cases z) fun k => by rw [if_neg snoc_nil]; rfl⟩
      · rw [if_neg z1] at e; cases e
  refine ⟨_, rfl, la, rfl, ⟨_, (f1.quiet hp).sqL hla⟩, for_list (xs := xs) (fun i σ' H2 => i ≤ L.length ∧ ∃ (F : Tri) (y2 : Option V), σ' = [some (.ref p), some (.ref la), y2] ∧ FloorAt C H2 p F (szF (L.take i)) ∧ FrO p H H2 ∧ (∀ q b, F q = some b → H b = none) ∧ ∀ y, Und F y ↔ Ab (L.take i) y) ?_ ?_ ?_ ?_⟩
  · refine ⟨Nat.zero_le _, _, none, rfl, fl0, f1, fun q b e => ?_, fun y => ⟨fun z => absurd (if_neg (by simp)) z.1, fun ⟨_, z, _⟩ => by cases z⟩⟩
    by_cases z1 : q = []
    · rw [if_pos z1] at e
      cases e
      exact nd
    · rw [if_neg z1] at e; cases e
  · rintro i σ' H2 _ ⟨_, F, y2, rfl, _, f2, _⟩
    exact (f2.quiet hp).sqL hla
  · rintro i u σ' H2 hu ⟨_, F, y2, rfl, fl, f2, n2, hu2⟩
    have lt : i < L.length := by rw [← xl]; exact (List.getElem?_eq_some_iff.mp hu).1
    have hx : L[i]? = some L[i] := List.getElem?_eq_getElem lt
    generalize L[i] = x at hx
    obtain ⟨u', hu', du⟩ := dpa_at' hd (show (L.map pkx)[i]? = some (pkx x) by rw [List.getElem?_map, hx]; rfl)
    obtain rfl : u = u' := Option.some.inj (hu.symm.trans hu')
    obtain ⟨dx2, d2, hp2, hd2⟩ := fl.ob
    have sz2 : szF (L.take (i + 1)) = szF (L.take i) + 2 * x.2.length + 1 := by
      rw [take_snoc hx, szF_app]
      show _ + ((2 * x.2.length + 1) + 0) = _
      omega
    have szle := szF_take L (i + 1)
    refine ⟨_, rfl, p, dx2, _, rfl, hp2, fT_no _ (by decide +kernel), ?_⟩
    refine ⟨_, rfl, p, u, F, szF (L.take i), x, rfl, fl, dp_monoQ (f2.quiet hp) du, fun z => inc i x hx ((hu2 x).mp z), by omega, fun H3 F3 fl3 fr3 nw3 un3 => ?_⟩
    have none2 : ∀ b, H2 b = none → H b = none := fun b hb => by
      cases e : H b with
      | none => rfl
      | some o =>
        by_cases z : b = p
        · rw [z, hp2] at hb; cases hb
        · rw [f2 b o z e] at hb; cases hb
    refine ⟨lt, F3, _, rfl, by rw [sz2]; exact fl3, fun b o hb h => fr3 b o (f2 b o hb h) fun q z => ?_, fun q b hq => ?_, fun y => ?_⟩
    · rw [n2 q b z] at h; cases h
    · rcases nw3 q b hq with ⟨q', z⟩ | z
      · exact n2 q' b z
      · exact none2 b z
    · rw [un3, hu2, take_snoc hx, ab_snoc]
  · rintro σ' H2 ⟨_, F, y2, rfl, fl, f2, n2, hu2⟩
    rw [xl, List.take_length] at fl hu2
    exact q H2 F fl f2 n2 hu2
theorem mkr_Floor {f C : Addr} {fd : FuncData} (F : Fun K "__init__" "Floor.__init__" s_Floor_init f fd) (T : TxtF K mg C) (mk : Mk K C f) (M_keep : Md P w K mg base C "keep" ["self", "situation"] 1 (spKeep K C)) : Mkr P w K mg base C ["self", "situations"] 2 (spFInit K C) :=
  ⟨f, fd, fd_Floor_init F T M_keep, mk, F.binds (ps := ["self", "situations"]) fun _ _ _ _ _ _ us hl => match us, hl with | [_, _], _ => rfl⟩
end
/-! ### a dict whose keys are nested tuples, each value True -/
def ndx (ks : List (NestedKey × Addr)) : List (NestedKey × Addr × Value) := ks.map fun x => (x.1, x.2, Value.bool true)
def ndP (P : Program) (w : World) (a : Addr) (ks : List (NestedKey × Addr)) (h : Heap) : Prop := ∃ o es ep, h.get? a = some o ∧ o.ExactDict ∧ o.data = .dict es ep ∧ es.toList = (ndx ks).map (entryOfKey (nestedKind P w)) ∧ ((ndx ks).map (·.1)).Nodup ∧ ks.length ≤ sizeLine ∧ (a == sysModules) = false
def NDo (P : Program) (w : World) (a : Addr) (ks : List (NestedKey × Addr)) : HO := .ext (ndP P w a ks)
/-- the keys stand -/
def NKs (K : PySem.W.Frag) (H : Hp) (ks : List (NestedKey × Addr)) : Prop := ∀ x ∈ ks, Dp K H (.ref x.2) x.1.data ∧ x.1.depth ≤ 8
theorem NKs.mono {K : PySem.W.Frag} {H H' : Hp} {ks : List (NestedKey × Addr)} (s : Same H H') (h : NKs K H ks) : NKs K H' ks := fun x hx => ⟨dp_mono s (h x hx).1, (h x hx).2⟩
theorem NKs.monoQ {K : PySem.W.Frag} {H H' : Hp} {ks : List (NestedKey × Addr)} (s : SameQ H H') (h : NKs K H ks) : NKs K H' ks := fun x hx => ⟨dp_monoQ s (h x hx).1, (h x hx).2⟩
mutual
theorem dp_keyT {K : PySem.W.Frag} {H H' : Hp} (e : ∀ a xs, H a = some (.tup xs) → H' a = some (.tup xs)) (e2 : ∀ a o xs, H a = some (.frz o (.tup xs)) → H' a = some (.frz o (.tup xs))) : ∀ (k : NestedKey) (v : V), Dp K H v k.data → Dp K H' v k.data
  | .none, v, h => by
    have h : Dp K H v PyData.none := h
    cases h
    exact .non
  | .num i, v, h => by
    rw [dp_int (show Dp K H v (.int i) from h)]
    exact .int i
  | .text x, v, h => by
    have h : Dp K H v (PyData.str x) := h
    cases h
    exact .str x
  | .tup ks, v, h => by
    obtain ⟨a, xs, rfl, h1, h2⟩ := dp_tup (show Dp K H v (.tuple (NestedKey.datas ks)) from h)
    refine .tup ?_ (dpa_keyT e e2 ks xs h2)
    rcases h1 with (h1 | ⟨o, h1⟩) | h1
    · exact .inl (.inl (e _ _ h1))
    · exact .inl (.inr ⟨o, e2 _ _ _ h1⟩)
    · exact .inr h1
theorem dpa_keyT {K : PySem.W.Frag} {H H' : Hp} (e : ∀ a xs, H a = some (.tup xs) → H' a = some (.tup xs)) (e2 : ∀ a o xs, H a = some (.frz o (.tup xs)) → H' a = some (.frz o (.tup xs))) : ∀ (ks : List NestedKey) (vs : List V), DpAll K H vs (NestedKey.datas ks) → DpAll K H' vs (NestedKey.datas ks)
  | [], vs, h => by
    rw [dpa_nil (show DpAll K H vs [] from h)]
    exact .nil
  | k :: ks, vs, h => by
    obtain ⟨v, t, rfl, h1, h2⟩ := dpa_cons (show DpAll K H vs (k.data :: NestedKey.datas ks) from h)
    exact .cons (dp_keyT e e2 k v h1) (dpa_keyT e e2 ks t h2)
end
theorem NKs.putL {K : PySem.W.Frag} {H : Hp} {c : Addr} {xs : List V} {o : HO} {ks : List (NestedKey × Addr)} (h : NKs K H ks) (e : H c = some (.lst xs)) : NKs K (upd H c o) ks := fun x hx =>
  ⟨dp_keyT (fun a ys h1 => by rw [upd_ne fun z => by rw [z, e] at h1; cases h1]; exact h1) (fun a o ys h1 => by rw [upd_ne fun z => by rw [z, e] at h1; cases h1]; exact h1) x.1 _ (h x hx).1, (h x hx).2⟩
theorem ndo_ok {P : Program} {w : World} {H : Hp} {h : Heap} {a : Addr} {ks : List (NestedKey × Addr)} (e : ndP P w a ks h) : ObjOk P w H h a (NDo P w a ks) := by
  refine ⟨e, ?_, fun h1 h2 x k => ?_⟩
  · obtain ⟨o, _, _, ho, _⟩ := e
    exact ⟨o, ho⟩
  · obtain ⟨o, es, ep, ho, r⟩ := x
    exact ⟨o, es, ep, k o ho, r⟩
section
variable {X : Cx} {pins : List (Addr × Obj)} {σ : L2.St} {H : Hp} {s : Shared}
mutual
theorem dp_nested (I : Inv X pins σ H s) : ∀ (k : NestedKey) (v : V) (u : Value), Dp X.K H v k.data → RelV v u → NestedIs s.heap k u
  | .none, v, u, h, r => by
    have h : Dp X.K H v PyData.none := h
    cases h
    cases (show u = Value.none from r)
    exact .none
  | .num i, v, u, h, r => by
    rw [dp_int (show Dp X.K H v (.int i) from h)] at r
    obtain ⟨t, rfl⟩ := (show ∃ t, u = Value.int i t from r)
    exact .int i t
  | .text x, v, u, h, r => by
    have h : Dp X.K H v (PyData.str x) := h
    cases h
    obtain ⟨t, rfl⟩ := (show ∃ t, u = Value.str x t from r)
    exact .text x t
  | .tup ks, v, u, h, r => by
    obtain ⟨a, xs, rfl, h1, h2⟩ := dp_tup (show Dp X.K H v (.tuple (NestedKey.datas ks)) from h)
    cases (show u = Value.ref a from r)
    obtain ⟨its, rv, ⟨o, h3, h4, n, h5⟩, _⟩ := I.tuple h1
    exact .tup h3 h4 h5 (dpa_nested I ks xs its h2 rv)
theorem dpa_nested (I : Inv X pins σ H s) : ∀ (ks : List NestedKey) (vs : List V) (us : List Value), DpAll X.K H vs (NestedKey.datas ks) → Vals vs us → NestedAll s.heap ks us
  | [], vs, us, h, r => by
    rw [dpa_nil (show DpAll X.K H vs [] from h)] at r
    cases r
    exact .nil
  | k :: ks, vs, us, h, r => by
    obtain ⟨v, t, rfl, h1, h2⟩ := dpa_cons (show DpAll X.K H vs (k.data :: NestedKey.datas ks) from h)
    cases r with
    | cons r1 r2 => exact .cons (dp_nested I k v _ h1 r1) (dpa_nested I ks t _ h2 r2)
end
theorem nd_dict {a : Addr} {ks : List (NestedKey × Addr)} (I : Inv X pins σ H s) (h : ObjOk X.prog X.w H s.heap a (NDo X.prog X.w a ks)) (hk : NKs X.K H ks) : s.heap.DictOfH (nestedKind X.prog X.w) a (ndx ks) := by
  obtain ⟨⟨o, es, ep, ho, h2, h3, h4, h5, _⟩, _⟩ := h
  refine ⟨o, es, ep, ho, h2, h3, h4, fun x hx => ?_, h5⟩
  obtain ⟨y, hy, rfl⟩ := List.mem_map.mp hx
  exact ⟨dp_nested I y.1 _ _ (hk y hy).1 rfl, (hk y hy).2⟩
theorem atKey_ndx {ks : List (NestedKey × Addr)} {k : NestedKey} : (atKey (ndx ks) k).isSome = (ks.map (·.1)).any (fun x => decide (x = k)) := by
  unfold atKey ndx
  rw [Option.isSome_map, List.isSome_find?, List.any_map, List.any_map]
  rfl
/-- is it there? -/
def rNotInN (P : Program) (w : World) (K : PySem.W.Frag) : R2 := fun x y H Q => ∃ (b d : Addr) (k : NestedKey) (ks : List (NestedKey × Addr)), x = .ref b ∧ y = .ref d ∧ H d = some (NDo P w d ks) ∧ NKs K H ks ∧ Dp K H (.ref b) k.data ∧ k.depth ≤ 8 ∧ Q (.bl (!(ks.map (·.1)).any (fun x => decide (x = k)))) H
theorem op_notInN (K : PySem.W.Frag) (hu : X.A.units + 64 < cLine) (h : X.K = K := by rfl) : OpR X (compareOp .NotIn) (rNotInN X.prog X.w K) := by
  subst h
  intro pins s σ H x y v u Q I rx ry h
  obtain ⟨b, d, k, ks, rfl, rfl, ed, hk, db, dk, q⟩ := h
  cases rx
  cases ry
  have ok := I.hok d _ ed
  have dd := nd_dict I ok hk
  obtain ⟨⟨_, _, _, _, _, _, _, _, _, low⟩, _⟩ := ok
  refine wpAny_notIn_heap (knd := nestedKind X.prog X.w) (show X.A.units + 1 + 8 < cLine by omega) ⟨dp_nested I k _ _ db rfl, dk⟩ low dd ?_
  rw [atKey_ndx]
  exact ⟨.bl _, H, I.tok _, rfl, q⟩
theorem ndx_snoc {ks : List (NestedKey × Addr)} {k : NestedKey} {b : Addr} : ndx (ks ++ [(k, b)]) = ndx ks ++ [(k, b, Value.bool true)] := by
  unfold ndx
  rw [List.map_append]
  rfl
/-- d[k] = True, the key new -/
def rSetN (P : Program) (w : World) (K : PySem.W.Frag) : TSet := fun o i v H Q => ∃ (b d : Addr) (k : NestedKey) (ks : List (NestedKey × Addr)), o = .ref d ∧ i = .ref b ∧ v = .bl true ∧ H d = some (NDo P w d ks) ∧ NKs K H ks ∧ Dp K H (.ref b) k.data ∧ k.depth ≤ 8 ∧ k ∉ ks.map (·.1) ∧ ks.length < sizeLine ∧ Q (upd H d (NDo P w d (ks ++ [(k, b)])))
theorem set_nd (K : PySem.W.Frag) (hu : X.A.units + 64 < cLine) (h : X.K = K := by rfl) : PSet X (rSetN X.prog X.w K) := by
  subst h
  intro pins s σ H o i v ov iv u Q I ro ri rv h
  obtain ⟨b, d, k, ks, rfl, rfl, rfl, ed, hk, db, dk, nk, hl, q⟩ := h
  cases ro
  cases ri
  cases rv
  have ok := I.hok d _ ed
  have dd := nd_dict I ok hk
  obtain ⟨⟨_, _, _, _, _, _, _, _, _, low⟩, _⟩ := ok
  have an : atKey (ndx ks) k = none := by
    cases e : atKey (ndx ks) k with
    | none => rfl
    | some p =>
      have z := atKey_ndx (ks := ks) (k := k)
      rw [e] at z
      obtain ⟨y, hy, e2⟩ := List.any_eq_true.mp z.symm
      rw [of_decide_eq_true e2] at hy
      exact absurd hy nk
  refine wpAny_setItem_heap (knd := nestedKind X.prog X.w) (hsz := by unfold ndx; rw [List.length_map]; omega) (show X.A.units + 1 + 8 < cLine by omega) ⟨dp_nested I k _ _ db rfl, dk⟩ dd fun h' dd' hs => ?_
  rw [storedH_new an, ← ndx_snoc] at dd'
  obtain ⟨o2, es, ep, h1, h2, h3, h4, _, h5⟩ := dd'
  exact ⟨_, d_write I (by rw [ed]; exact True.intro) hs ⟨o2, h1⟩ (ndo_ok ⟨o2, es, ep, h1, h2, h3, h4, h5, by rw [List.length_append, List.length_singleton]; omega, low⟩), q⟩
/-- a new one -/
def tDNewN (P : Program) (w : World) : TE := fun _ H Q => ∀ p, H p = none → Q (.ref p) (upd H p (NDo P w p []))
theorem pe_dnewN {pos : Pos} : PE X (.Dict [] [] pos) (tDNewN X.prog X.w) := ⟨fun pins s σ H Q I h =>
  wpAny_Dict_empty ⟨.ref s.heap.objs.size, _, I.laid (a := s.heap.objs.size) (o := NDo X.prog X.w s.heap.objs.size []) (t' := s.toks) (fun _ _ q => Heap.get?_push_of_some _ q) (Nat.le_refl _)
    (ndo_ok ⟨_, #[], 0, Heap.get?_push_size _ rfl, ⟨rfl, rfl, rfl⟩, rfl, rfl, List.nodup_nil, Nat.zero_le _, beq_eq_false_iff_ne.mpr (Ne.symm (Nat.ne_of_lt I.big))⟩), rfl, h _ (I.hok.fresh (Nat.le_refl _))⟩⟩
theorem Inv.frzN {d : Addr} {o : Obj} {ks : List (NestedKey × Addr)} (I : Inv X pins σ H s) (h : H d = some (.frz o (NDo X.prog X.w d ks))) :
    (d == sysModules) = false ∧ s.heap.get? d = some o ∧ o.ExactDict ∧ ∃ (es : Array DictEntry) (ep : Nat), o.data = .dict es ep ∧ es.size = ks.length ∧
      ∀ (i : Nat) (k : NestedKey) (b : Addr), ks[i]? = some (k, b) → ∃ en : DictEntry, es[i]? = some en ∧ en.key = .ref b := by
  obtain ⟨hd, ⟨o2, es, ep, h1, h2, h3, h4, _, _, low⟩, _⟩ := I.hok d _ h
  rw [hd] at h1
  cases h1
  refine ⟨low, hd, h2, es, ep, h3, ?_, fun i k b e => ?_⟩
  · rw [size_of_entries h4]
    exact List.length_map _
  · have q := entry_at h4 i
    have e2 : (ndx ks)[i]? = some (k, b, Value.bool true) := by
      unfold ndx
      rw [List.getElem?_map, e]
      rfl
    rw [e2] at q
    exact ⟨_, q, rfl⟩
end
/-- the keys of the locked dict, in their order -/
def ItN (P : Program) (w : World) (d : Addr) (o : Obj) (ks : List (NestedKey × Addr)) : It :=
  ⟨fun i H => H d = some (.frz o (NDo P w d ks)) ∧ i < ks.length, fun i H x H' => H' = H ∧ ∃ k b, ks[i]? = some (k, b) ∧ x = .ref b, fun i H => H d = some (.frz o (NDo P w d ks)) ∧ ks.length ≤ i⟩
theorem turn_keysN {P : Program} {w : World} {K : PySem.W.Frag} {tg : Expr} {d : Addr} {o : Obj} {es : Array DictEntry} {ep : Nat} {ks : List (NestedKey × Addr)} (it : Addr) (hod : o.data = .dict es ep) : Turn P w K tg (ItN P w d o ks) [it] it (fun i h => h.IsKeyIter it d i ks.length ep) where
  mem := by simp
  obj := fun i h st b hb => by
    have e : b = it := by simpa using hb
    subst e
    obtain ⟨oi, e, c, dd⟩ := st
    exact ⟨oi, e, fun v z => by rw [dd] at z; cases z⟩
  keep := fun i h h' st k => st.at fun oi e => k it (by simp) oi e
  item := by
    intro X hP hw hK hc i pins s σ H E I hf st hg
    subst hP hw hK
    obtain ⟨hd, hi⟩ := hg
    obtain ⟨f0, f1, f2, f3, f4, f5⟩ := hf it (by simp)
    obtain ⟨hs, hgd, hx, es', ep', hdt, hsz, ent⟩ := Inv.frzN I hd
    obtain ⟨rfl, rfl⟩ := dict_ep hod hdt
    obtain ⟨⟨k, b⟩, hkv⟩ : ∃ p, ks[i]? = some p := ⟨ks[i], List.getElem?_eq_getElem hi⟩
    obtain ⟨en, hen, hkey⟩ := ent i k b hkv
    refine next_key_item st hgd hdt hsz hen fun h' st' sb => ?_
    have I1 : Inv X pins σ H { s with heap := h' } := I.turned (t' := s.toks) (fun b ob hb e => (sb.2 b hb).trans e) f0 f1 f3 f4 f5
    obtain ⟨oi, e, c, dd⟩ := id st'
    exact ⟨en.key, rfl, go_of (s := { s with heap := h' }) e c dd (by decide) ⟨.ref b, H, I1, hkey, ⟨rfl, k, b, hkv, rfl⟩, st', fun b hb => (hf b hb).1⟩⟩
  done := by
    intro X hP hw hK hc i pins s σ H E I hf st hg
    subst hP hw hK
    obtain ⟨hd, hi⟩ := hg
    obtain ⟨f0, f1, f2, f3, f4, f5⟩ := hf it (by simp)
    obtain ⟨hs, hgd, hx, es', ep', hdt, hsz, ent⟩ := Inv.frzN I hd
    obtain ⟨rfl, rfl⟩ := dict_ep hod hdt
    exact next_key_end (I.ok.hd hc) st hgd hdt hsz hi fun h' eb => ⟨rfl, I.turned (t' := s.toks) (fun b ob hb e => eb b ob hb e) f0 f1 f3 f4 f5⟩
  self := fun A i s Q E st h => by
    refine wpAny_pyIter_slot st.typeIs PySem.F.slot_dict_keyiterator_iter (wpAny_call_entry PySem.F.slot_dict_keyiterator_iter st.typeIs PySem.F.entry_dict_keyiterator_iter ?_ (PySem.F.args_dict_keyiterator_iter_1 _))
    show wpAny _ _ (ret (.ref it)) _ _ s
    exact wpAny_pure ⟨_, rfl, "dict_keyiterator", _, st.typeIs, PySem.F.slot_dict_keyiterator_next.lookup, h⟩
def iKeysN (P : Program) (w : World) (td : TE) : TI := fun σ H R => td σ H fun x H1 => ∃ d o ks, x = .ref d ∧ H1 d = some (.frz o (NDo P w d ks)) ∧ R (ItN P w d o ks) H1
theorem pi_keysN {X : Cx} {tg e : Expr} {td : TE} (he : PE X e td) : PI X tg e (iKeysN X.prog X.w td) := by
  refine ⟨fun pins s σ H R I h => ?_⟩
  refine thn (he.run pins s σ H _ I h) fun u s1 ⟨x, H1, I1, rx, d, o, ks, ex, hd, q⟩ => ?_
  subst ex
  obtain rfl : u = Value.ref d := rx
  obtain ⟨hs, hgd, hx, es, ep, hdt, hsz, ent⟩ := Inv.frzN I1 hd
  refine iter_keys hs hgd hx hdt (pi_one (tk := s1.toks) I1 _ (turn_keysN _ hdt) ⟨_, Heap.get?_push_size _ rfl, rfl, ?_⟩ q)
  rw [hsz] <;> rfl
theorem for_keysN {P : Program} {w : World} {d : Addr} {o : Obj} {ks : List (NestedKey × Addr)} {g : TG} {tb : TS} {D : Ends} {σ : L2.St} {H : Hp} (Pv : Nat → L2.St → Hp → Prop) (h0 : Pv 0 σ H) (hl : ∀ i σ H, i ≤ ks.length → Pv i σ H → H d = some (.frz o (NDo P w d ks)))
    (hs : ∀ i k b σ H, ks[i]? = some (k, b) → Pv i σ H → g (.ref b) σ H fun σ2 H2 => tb { D with nx := Pv (i + 1), ct := Pv (i + 1), bk := D.nx } σ2 H2) (hd : ∀ σ H, Pv ks.length σ H → D.nx σ H) :
    ∃ W : Nat → Nat → L2.St → Hp → Prop, (∃ m, W 0 m σ H) ∧ ∀ i m σ H, W i m σ H →
      ((ItN P w d o ks).stop i H ∧ D.nx σ H) ∨ ((ItN P w d o ks).go i H ∧ ∃ N : L2.St → Hp → Prop, (∀ σ' H', N σ' H' → ∃ m', m' < m ∧ W (i + 1) m' σ' H') ∧ ∀ x H', (ItN P w d o ks).yld i H x H' → g x σ H' fun σ2 H2 => tb { D with nx := N, ct := N, bk := D.nx } σ2 H2) := by
  refine ⟨fun i m σ H => m = ks.length - i ∧ i ≤ ks.length ∧ Pv i σ H, ⟨ks.length, by simp, Nat.zero_le _, h0⟩, ?_⟩
  rintro i m σ H ⟨rfl, hi, p⟩
  have q := hl i σ H hi p
  by_cases hlt : i < ks.length
  · refine .inr ⟨⟨q, hlt⟩, Pv (i + 1), fun σ' H' p' => ⟨ks.length - (i + 1), by omega, rfl, hlt, p'⟩, fun x H' y => ?_⟩
    obtain ⟨rfl, k, b, e1, rfl⟩ := y
    exact hs i k b σ _ e1 p
  · have e : i = ks.length := by omega
    subst e
    exact .inl ⟨⟨q, Nat.le_refl _⟩, hd σ H p⟩
/-! ### one dict of lists -/
def oneM (M : Int → Option Addr) : Tri := fun q => match q with
  | [t] => M t
  | _ => none
theorem sdef_mono {x : V} {vs : List V} {H : Hp} {Q Q' : VK} (h : rSetDef x vs H Q) (m : ∀ v H', Q v H' → Q' v H') : rSetDef x vs H Q' := by
  obtain ⟨a, kvs, k, d, e1, e2, e3, e4, h1, h2⟩ := h
  exact ⟨a, kvs, k, d, e1, e2, e3, e4, fun v hv => m _ _ (h1 v hv), fun hv => m _ _ (h2 hv)⟩
/-! ### dict(t) of a tuple of pairs; tuple(l) as an object that is known -/
theorem tup_keys_none : typeLookup (.type "tuple") "keys" = pure none := am_miss_of_fast (by first | decide +kernel | rfl)
section
variable {prog : Program} {w : World} {A : Around} {E : Value → Shared → Prop}
theorem miss_tup {s : Shared} {a : Addr} {o : Obj} {xs : Array Value} {k : Nat} {Q : Option Value → Shared → Prop} (hx : s.heap.get? a = some o) (hc : o.cls = .type "tuple") (hdat : o.data = .seq xs k) (hd : o.dict = none) (hA : A.handled = none)
    (h : ∀ h' tk, (∀ b ob, s.heap.get? b = some ob → h'.get? b = some ob) → Q none { s with heap := h', toks := tk }) : wpAny (model prog w) A (getAttr? (.ref a) "keys") Q E s := by
  obtain ⟨c, dct, dat, sl⟩ := o
  simp only at hc hdat hd
  subst hc hdat hd
  obtain ⟨hp, g, d, tk, os⟩ := s
  have tT : ∀ tk', (⟨hp, g, d, tk', os⟩ : Shared).TypeIs (.ref a) "tuple" := fun _ => ⟨_, hx, rfl⟩
  have mi := tup_keys_none
  have nm : (["__module__", "__name__", "__qualname__", "__doc__", "__annotations__"] : List Str).contains "keys" = false := by decide +kernel
  have lz : ("keys" : Str).length + 100 ≤ sizeLine := by first | size_fits | decide +kernel
  have f1 := sub_AttributeError
  have f3 := PySem.F.slot_tuple_getattribute.lookup
  have f4 := PySem.F.slot_tuple_getattribute.bind (.ref a)
  have f5 := am_tuple_getattr_none
  unfold getAttr? getAttrBy? getAttrBy
  repeat (any_goals (first | assumption | exact tT _ | ((with_reducible show wpAny _ _ (call (Value.builtin "tuple.__getattribute__") _ _) _ _ _); refine call_meets PySem.F.slot_tuple_getattribute (tT _) am_entry_tuple_getattribute (PySem.F.args_tuple_getattribute_2 _ _) (meets_getattribute_miss_tuple a xs k sl "keys" _ mi nm lz) ⟨hx, hA, fun h2 tk2 e2 hx2 => ?_⟩) | wp_step))
  obtain ⟨t', u', he⟩ := hx2.there
  show wpAny _ _ (getattributeRaised _ _ _ _ _ _ _) _ _ _
  unfold getattributeRaised
  repeat (any_goals (first | assumption | wp_step))
  all_goals first | exact h _ _ hx2.keeps | (dsimp only; repeat (any_goals (first | assumption | exact h _ _ hx2.keeps | wp_step)))
/-- the walk over the pairs -/
theorem updT_loop {R : Result → Shared → Prop} {S I l : Addr} {items : Array Value} {res : Value} (hh : A.handled = none) (hlI : l ≠ I) (hSI : S ≠ I) (hSl : S ≠ l) :
    ∀ (rest : List (L2.Key × Value)) (i : Nat) (acc : List (L2.Key × Value)) (ix : Int) (t : Tok) (s : Shared), items.size = i + rest.length → acc.length + rest.length ≤ sizeLine →
      (∀ (j : Nat) (q : L2.Key × Value), rest[j]? = some q → ∃ (b : Addr) (u : Value), items[i + j]? = some (.ref b) ∧ b ≠ S ∧ b ≠ I ∧ IsTup s.heap b #[u, q.2] ∧ keyIs q.1 u = true) →
      s.heap.IsTupleIter I l i → s.heap.IsTuple l items → s.heap.DictOf (mixKind prog w) S acc →
      (∀ h' tk, h'.DictOf (mixKind prog w) S (merged acc rest) → (∀ b o, b ≠ S → b ≠ I → s.heap.get? b = some o → h'.get? b = some o) → R (.ok (.ret res)) { s with heap := h', toks := tk }) →
      codeAny (model prog w) A (.builtin "dict.update.loop" ⟨[.ref S, .ref I, .int ix t, res], []⟩) R s
  | [], i, acc, ix, t, s, hsz, hln, ht, hit, hl, hm, hR => by
    refine codeAny_builtin ud_entry ?_
    rw [Around.under_plainId ud_plain _]
    show wpAny _ A.in1 (pyNext (.ref I) >>= _) _ _ s
    refine wpAny_bind (wpAny_pyNext_tuple_end (A := A.in1) hh hit hl (by first | exact Array.getElem?_eq_none (Nat.le_of_eq hsz) | (simp at hsz; simp; omega)) fun h' he => ?_)
    show wpAny _ A.in1 (Builtin.Dict.addKeywords S [] >>= _) _ _ _
    refine wpAny_bind (wpAny_pure (wpAny_pure ?_))
    exact hR h' s.toks (hm.extBut he hSI) fun b o _ hb e => he b o hb e
  | q :: rest, i, acc, ix, t, s, hsz, hln, ht, hit, hl, hm, hR => by
    obtain ⟨b, u, hb, hbS, hbI, htup, hk⟩ := ht 0 q rfl
    rw [List.length_cons] at hsz hln
    refine codeAny_builtin ud_entry ?_
    rw [Around.under_plainId ud_plain _]
    show wpAny _ A.in1 (pyNext (.ref I) >>= _) _ _ s
    refine wpAny_bind (wpAny_pyNext_tuple_item (x := .ref b) hit hl (by simpa using hb) fun h1 hit1 hs1 => ?_)
    have ht1 : IsTup h1 b #[u, q.2] := htup.extBut hs1.extBut hbI
    have hl1 : h1.IsTuple l items := hl.extBut hs1.extBut hlI
    have hm1 : h1.DictOf (mixKind prog w) S acc := hm.extBut hs1.extBut hSI
    obtain ⟨o, ho, hc, n, hd⟩ := id ht1
    show wpAny _ A.in1 (holding [Value.ref b] _ >>= _) _ _ _
    refine wpAny_bind (wpAny_holding ?_)
    refine wpAny_bind (wpAny_tryCatch ?_)
    unfold Builtin.Dict.pairItems
    refine wpAny_bind (wpAny_typeOf (T := "tuple") ⟨o, ho, hc⟩ ?_)
    rw [if_pos (by first | decide | rfl | simp)]
    refine wpAny_bind (wpAny_seqItems ho hd (wpAny_pure ?_))
    show wpAny _ A.in1 (holding [u, q.2] (dictSet S u q.2)) _ _ _
    refine wpAny_holding (wpAny_dictSet_pairs (knd := mixKind prog w) (k := q.1) hk hm1 (fun h2 hm2 hs2 => ?_) (by omega))
    refine wpAny_pure ⟨plainId_quiet ud_plain _, updT_loop (items := items) hh hlI hSI hSl rest (i + 1) (stored acc q.1 q.2) (ix + 1) 0 _ (show items.size = i + 1 + rest.length by omega) ?_ (fun j q' e => ?_) ?_ ?_ hm2 fun h' tk hd' k => ?_⟩
    · have z := stored_length_le acc q.1 q.2
      omega
    · obtain ⟨b', u', hb', hbS', hbI', htup', hk'⟩ := ht (j + 1) q' (by simpa using e)
      refine ⟨b', u', ?_, hbS', hbI', (htup'.extBut hs1.extBut hbI').extBut hs2.extBut hbS', hk'⟩
      rw [show i + 1 + j = i + (j + 1) by omega]
      exact hb'
    · exact hit1.at fun o' e => hs2.extBut I o' (Ne.symm hSI) e
    · exact hl1.extBut hs2.extBut (Ne.symm hSl)
    · exact hR h' tk hd' fun c oc h3 h4 e => k c oc h3 h4 (hs2.extBut c oc h3 (hs1.extBut c oc h4 e))
theorem call_dict_tup {s : Shared} {l : Addr} {ol : Obj} {items : Array Value} {n : Nat} {prs : List (L2.Key × Value)} {Q : Value → Shared → Prop} (hh : A.handled = none) (hl : s.heap.get? l = some ol) (hc : ol.cls = .type "tuple") (hd : ol.dict = none)
    (hdat : ol.data = .seq items n) (hsz : items.size = prs.length) (hln : prs.length ≤ sizeLine)
    (ht : ∀ (j : Nat) (q : L2.Key × Value), prs[j]? = some q → ∃ (b : Addr) (u : Value), items[j]? = some (.ref b) ∧ IsTup s.heap b #[u, q.2] ∧ keyIs q.1 u = true)
    (h : ∀ h' tk, h'.DictOf (mixKind prog w) s.heap.objs.size (merged [] prs) → (∀ b o, s.heap.get? b = some o → h'.get? b = some o) → Q (.ref s.heap.objs.size) { s with heap := h', toks := tk }) :
    wpAny (model prog w) A (call (.type "dict") [.ref l]) Q E s := by
  refine callType_codes (Q₁ := fun obj s₁ => obj = .ref s.heap.objs.size ∧ s₁ = { s with heap := s.heap.push { cls := .type "dict", data := .dict #[] } }) PySem.F.kt_called_dict (PySem.F.kt_typeCall_dict_1 _) PySem.F.entry_dict_init (kt_code_dict_new _ ⟨rfl, rfl⟩) ?_
  rintro obj s₁ ⟨rfl, rfl⟩
  have hnew : (s.heap.push { cls := .type "dict", data := .dict #[] }).DictOf (mixKind prog w) s.heap.objs.size [] := Heap.DictOf.new s.heap
  have k0 : ∀ b o, s.heap.get? b = some o → (s.heap.push { cls := .type "dict", data := .dict #[] }).get? b = some o := fun b o e => Heap.get?_push_of_some _ e
  refine ⟨hnew.typeIs, PySem.F.args_dict_init_2 _ _, ?_⟩
  unfold Builtin.«dict.__init__»
  refine wpAny_bind ?_
  unfold Builtin.Dict.selfAndRest
  refine wpAny_bind (wpAny_notOrdered_dict hnew.typeIs ?_)
  show wpAny _ _ (pure (s.heap.objs.size, [Value.ref l])) _ _ _
  refine wpAny_pure ?_
  show wpAny _ _ (Builtin.Dict.updateFrom "dict.__init__" s.heap.objs.size (.ref l) [] .none) _ _ _
  unfold Builtin.Dict.updateFrom
  refine wpAny_bind (wpAny_typeOf (T := "tuple") ⟨ol, k0 _ _ hl, hc⟩ ?_)
  rw [if_pos (by first | decide | rfl | simp)]
  refine wpAny_bind (miss_tup (k0 _ _ hl) hc hdat hd hh fun h1 tk1 hk1 => ?_)
  rw [if_pos (show (none : Option Value).isNone = true from rfl)]
  refine wpAny_bind (wpAny_rule ?_)
  have hl1 : h1.IsTuple l items := ⟨ol, hk1 _ _ (k0 _ _ hl), hc, n, hdat⟩
  have hS1 : s.heap.objs.size < h1.objs.size := by
    have e : (s.heap.push { cls := .type "dict", data := .dict #[] }).get? s.heap.objs.size = some { cls := .type "dict", data := .dict #[] } := Heap.get?_push_size _ rfl
    exact Heap.lt_size (hk1 _ _ e)
  refine wpAny_bind (wpAny_pyIter_tuple hl1 ?_)
  have k2 : ∀ b o, h1.get? b = some o → (h1.push { cls := .type "tuple_iterator", data := .fields #[.ref l, .int 0 0] }).get? b = some o := fun b o e => Heap.get?_push_of_some _ e
  have hlt : l < s.heap.objs.size := Heap.lt_size hl
  have key := updT_loop (prog := prog) (w := w) (A := A.in1) (R := wants (fun r s₂ => r = .none ∧ Q (.ref s.heap.objs.size) s₂) E) (S := s.heap.objs.size) (I := h1.objs.size) (l := l) (items := items) (res := Value.none) hh
    (Nat.ne_of_lt (Nat.lt_trans hlt hS1)) (Nat.ne_of_lt hS1) (Nat.ne_of_gt hlt) prs 0 [] 0 0
    { s with heap := h1.push { cls := .type "tuple_iterator", data := .fields #[.ref l, .int 0 0] }, toks := tk1 } (by rw [hsz, Nat.zero_add]) (by rw [List.length_nil, Nat.zero_add]; exact hln)
    (fun j q e => by
      obtain ⟨b, u, e1, e2, e3⟩ := ht j q e
      have hb : b < s.heap.objs.size := e2.lt
      exact ⟨b, u, by rw [Nat.zero_add]; exact e1, Nat.ne_of_lt hb, Nat.ne_of_lt (Nat.lt_trans hb hS1), e2.keeps fun c o z => k2 _ _ (hk1 _ _ (k0 _ _ z)), e3⟩)
    ⟨_, Heap.get?_push_size _ rfl, rfl, rfl⟩ (hl1.at fun o e => k2 _ _ e) ((hnew.at fun o e => hk1 _ _ e).at fun o e => k2 _ _ e)
    (fun h' tk hd' k => ⟨rfl, h h' tk hd' fun b o e => k b o (Nat.ne_of_lt (Heap.lt_size e)) (Nat.ne_of_lt (Nat.lt_trans (Heap.lt_size e) hS1)) (k2 _ _ (hk1 _ _ (k0 _ _ e)))⟩)
  first
    | exact wpAny_pure ⟨plainId_quiet ud_plain _, key⟩
    | exact wpAny_bind (wpAny_pure (wpAny_pure ⟨plainId_quiet ud_plain _, key⟩))
end
/-- a tuple whose object is known: it has no dict of its own -/
def PlT (H : Hp) (a : Addr) (ys : List V) : Prop := ∃ o : Obj, H a = some (.frz o (.tup ys)) ∧ o.dict = none
theorem PlT.sq {K : PySem.W.Frag} {H : Hp} {a : Addr} {ys : List V} (h : PlT H a ys) : SqT K H a ys := let ⟨o, h, _⟩ := h; .inl (.inr ⟨o, h⟩)
theorem PlT.mono {H H' : Hp} {a : Addr} {ys : List V} (s : Same H H') (h : PlT H a ys) : PlT H' a ys := let ⟨o, h, e⟩ := h; ⟨o, s _ _ h, e⟩
section
variable {X : Cx}
/-- tuple(l) of a list -/
theorem call_tupF : CallR X (.type "tuple") (fun xs H Q => ∃ p ys, xs = [.ref p] ∧ SqL X.K H p ys ∧ ∀ l o, H l = none → o.dict = none → Q (.ref l) (upd H l (.frz o (.tup ys)))) := by
  intro pins s σ H xs us Q I r h
  obtain ⟨p, ys, rfl, hq, q⟩ := h
  obtain ⟨u, rfl, rx⟩ := vals1 r
  cases rx
  obtain ⟨its, r', pl, hz⟩ := I.list hq
  have hlen := r'.length
  refine call_tuple_list pl.isList (fun h' kp => ?_) (by simp only [List.size_toArray] <;> omega)
  have I1 : Inv X pins σ H { s with heap := h' } := I.kept (t' := s.toks) kp
  have I2 : Inv X pins σ (upd H h'.objs.size (.frz { cls := .type "tuple", data := .seq its.toArray } (.tup ys))) { s with heap := h'.push { cls := .type "tuple", data := .seq its.toArray } } :=
    I1.laid (t' := s.toks) (fun b o e => Heap.get?_push_of_some _ e) (Nat.le_refl _) (show ObjOk X.prog X.w _ _ _ (.frz _ (.tup ys)) from ⟨Heap.get?_push_size _ rfl, hz, its, r', IsTup.new _ _⟩)
  exact ⟨.ref h'.objs.size, _, I2, rfl, q _ _ (I1.hok.fresh (Nat.le_refl _)) rfl⟩
/-- dict(t) of such a tuple of pairs -/
theorem call_dictT (hcalm : X.calm = true) : CallR X (.type "dict") (fun xs H Q => ∃ (a : Addr) (ps : List Addr) (kvs : List (L2.Key × V)), xs = [.ref a] ∧ PlT H a (ps.map V.ref) ∧ Paired (fun p kv => SqT X.K H p [kV kv.1, kv.2]) ps kvs ∧
    ∀ p, H p = none → Q (.ref p) (upd H p (.dK (mergeK [] kvs)))) := by
  intro pins s σ H xs us Q I r q
  obtain ⟨a, ps, kvs, rfl, ⟨o, ho, hod⟩, hp, q⟩ := q
  obtain ⟨u, rfl, rx⟩ := vals1 r
  cases rx
  obtain ⟨hg, hz, its, rv, ⟨o2, h2, hc, n, hdat⟩⟩ := I.hok a _ ho
  rw [hg] at h2
  cases h2
  have ei := refs_at rv
  subst ei
  rw [List.length_map] at hz
  obtain ⟨prs, rel, hl, hpr⟩ := pairs_of I hp
  refine call_dict_tup (prs := prs) (I.ok.hd hcalm) hg hc hod hdat (by simp [hl]) (by rw [hl]; exact hz) (fun j q' e => ?_) fun h' tk hd' k => ?_
  · obtain ⟨b, u, e1, e2, e3⟩ := hpr j q' e
    exact ⟨b, u, by simp [e1], e2, e3⟩
  · have hm : (s.heap.objs.size == sysModules) = false := beq_eq_false_iff_ne.mpr (Nat.ne_of_gt I.big)
    have hlen : (mergeK [] kvs).length ≤ sizeLine := by
      refine Nat.le_trans (length_mergeK kvs []) ?_
      rw [List.length_nil, Nat.zero_add, rel.length, hl]
      exact hz
    exact ⟨.ref s.heap.objs.size, upd H s.heap.objs.size (.dK (mergeK [] kvs)), I.laid (t' := tk) k (Nat.le_refl _) (show ObjOk X.prog X.w _ _ _ (.dK (mergeK [] kvs)) from ⟨hlen, hm, merged [] prs, KV.merge rel .nil, hd'⟩), rfl, q _ (I.hok.fresh (Nat.le_refl _))⟩
end
/-! ### sorted(d.items()), the keys and the values numbers -/
def rItemsK : V → List V → Hp → VK → Prop := fun x xs H Q => ∃ (a : Addr) (kvs : List (L2.Key × V)), x = .ref a ∧ xs = [] ∧ H a = some (.dK kvs) ∧ ∀ p, H p = none → Q (.ref p) (upd H p (L2.DX.itemsO p a))
abbrev nnE (x : Int × Int) : L2.Key × V := (Sum.inl x.1, V.int x.2)
abbrev encN (z : Addr × Int × Int) : PyData := prD z.2
def rSortN : List V → Hp → VK → Prop := fun vs H Q => ∃ (p a : Addr) (ns : Prs), vs = [.ref p] ∧ H p = some (L2.DX.itemsO p a) ∧ H a = some (.dK (ns.map nnE)) ∧ ns.length ≤ 1000 ∧
  ∀ (H' : Hp) (l : Addr) (zs : List (Addr × Int × Int)), Same H H' → H l = none → (zs.map (·.2)).Perm ns → zs.Pairwise (fun x y => PySem.W.dataLe false encN x y = true) → H' l = some (.lst (zs.map fun z => V.ref z.1)) → (∀ z ∈ zs, H' z.1 = some (.tup [.int z.2.1, .int z.2.2])) → Q (.ref l) H'
theorem each_zip {P : Value → Addr × Int × Int → Prop} : ∀ (as : List Addr) (ns : Prs), as.length = ns.length → (∀ z ∈ as.zip ns, P (.ref z.1) z) → PySem.W.EachIs P (as.map Value.ref) (as.zip ns)
  | [], [], _, _ => .nil
  | [], _ :: _, h, _ => by cases h
  | _ :: _, [], h, _ => by cases h
  | a :: as, n :: ns, h, hp => .cons (hp (a, n) List.mem_cons_self) (each_zip as ns (Nat.succ.inj h) fun z hz => hp z (List.mem_cons_of_mem _ hz))
theorem each_map_eq : ∀ {out : List Value} {zs : List (Addr × Int × Int)}, PySem.W.EachIs (fun v (z : Addr × Int × Int) => v = Value.ref z.1) out zs → out = zs.map fun z => Value.ref z.1
  | _, [], h => by cases h; rfl
  | _, z :: zs, h => by
    cases h with
    | cons h t => rw [h, each_map_eq t]; rfl
section
variable {X : Cx}
theorem mt_itemsK : MtR X "dict.items" rItemsK := by
  intro pins s σ H x xs v us Q I rx rxs h
  obtain ⟨a, kvs, rfl, rfl, ha, q⟩ := h
  cases rx
  cases rxs
  obtain ⟨z, hd, vs, rel, o, es, ep, ho, hx, hdat, _⟩ := dk_of I.hok ha
  refine DT.callItems (es := es) (ep := ep) hd ⟨o, ho, hx, hdat⟩ ?_
  exact ⟨.ref s.heap.objs.size, upd H s.heap.objs.size (L2.DX.itemsO s.heap.objs.size a), I.laid (t' := s.toks) (fun b u e => Heap.get?_push_of_some _ e) (Nat.le_refl _) (L2.DX.itemsO_ok (Heap.get?_push_size _ rfl)), rfl, q _ (I.hok.fresh (Nat.le_refl _))⟩
theorem cr_sortedN (hc : X.calm = true) (hu : X.A.units + 64 < cLine) : CallR X (.builtin "sorted") rSortN := by
  intro pins s σ H xs us Q I r h
  obtain ⟨p, a, ns, rfl, hp, ha, hl, q⟩ := h
  obtain rfl := Vals.ref1 r
  have view : s.heap.IsItemsView p a := (show ObjOk X.prog X.w H s.heap p (L2.DX.itemsO p a) from I.hok p _ hp).1
  obtain ⟨z, hd, vs, rel, o, es, ep, ho, hx, hdat, hko, hpr, hn⟩ := dk_of I.hok ha
  have l1 : (ns.map nnE).length = vs.length := rel.length
  rw [List.length_map] at l1
  have l2 : es.size = vs.length := by rw [← hpr.length]; simp
  have hh : X.A.handled = none := I.ok.hd hc
  refine DT.sortedI (es := es) (ep := ep) hh view ⟨o, ho, hx, hdat⟩ (by rw [sizeLine_eq]; omega) fun h' tk as hk hlt hla hG => ?_
  have lak : as.length = ns.length := by omega
  have nd : as.Nodup := List.Pairwise.imp (fun h => Nat.ne_of_lt h) hG.rise
  have pr : ∀ (j : Nat) (b : Addr) (x : Int × Int), as[j]? = some b → ns[j]? = some x → ∃ t1 t2, h'.get? b = some { cls := .type "tuple", data := .seq #[Value.int x.1 t1, Value.int x.2 t2] } := by
    intro j b x hj hx
    obtain ⟨en, he, hg⟩ := hG.pairs j b hj
    obtain ⟨⟨k, v⟩, hv, r1, r2⟩ := paired_get rel (show (ns.map nnE)[j]? = some (nnE x) by rw [List.getElem?_map, hx]; rfl)
    obtain ⟨e1, e2⟩ := hpr.get? (e := en) (by rw [Array.getElem?_toList]; exact he) hv
    have r1 : Sum.inl x.1 = k := r1
    subst r1
    obtain ⟨t1, e1⟩ := (show ∃ t, en.key = Value.int x.1 t from relV_key (show keyIs (Sum.inl x.1) en.key = true from e1))
    obtain ⟨t2, r2⟩ := (show ∃ t, v = Value.int x.2 t from r2)
    rw [e1, e2, r2] at hg
    exact ⟨t1, t2, hg⟩
  have idx : ∀ z ∈ as.zip ns, ∃ j : Nat, as[j]? = some z.1 ∧ ns[j]? = some z.2 := fun z hz => by
    obtain ⟨j, hj⟩ := List.mem_iff_getElem?.mp hz
    exact ⟨j, List.getElem?_zip_eq_some.mp hj⟩
  have hob : (h'.push { cls := .type "list", data := .seq (as.map Value.ref).toArray }).get? h'.objs.size = some (seqObj "list" (as.map Value.ref).toArray 0) := Heap.get?_push_size _ rfl
  have ka : ∀ b o, h'.get? b = some o → (h'.push { cls := .type "list", data := .seq (as.map Value.ref).toArray }).get? b = some o := fun b o e => Heap.get?_push_of_some _ e
  have ne0 : ∀ b o, h'.get? b = some o → b ≠ h'.objs.size := fun b o e => Nat.ne_of_lt (Heap.lt_size e)
  generalize h'.push { cls := .type "list", data := .seq (as.map Value.ref).toArray } = h2 at hob ka ⊢
  refine PySem.W.list_sort_data (s := { s with heap := h2, toks := tk }) (R := fun v (z : Addr × Int × Int) => v = Value.ref z.1) (enc := encN) (bs := as.zip ns) (vs := as.map Value.ref) hob (each_zip as ns lak fun z _ => rfl) (each_zip as ns lak fun z hz => ?_) (PySem.W.AllAlike.of fun b b' => ?_) (PySem.W.Sortable.tuples fun b => ⟨_, _, rfl⟩) (by rw [List.length_zip, sizeLine_eq]; omega) (fun b _ => ?_) fun out hol eo => ?_
  · obtain ⟨j, h1, h2'⟩ := idx z hz
    obtain ⟨t1, t2, hg⟩ := pr j z.1 z.2 h1 h2'
    exact ⟨_, .tuple (ka _ _ hg) rfl rfl (.cons (.int _ t1) (.cons (.int _ t2) .nil)), by simp⟩
  · rfl
  · show X.A.units + 1 + 1 + 1 < cLine
    omega
  · have eout := each_map_eq eo
    have pm := List.mergeSort_perm (as.zip ns) (PySem.W.dataLe false encN)
    have pw : ((as.zip ns).mergeSort (PySem.W.dataLe false encN)).Pairwise (fun x y => PySem.W.dataLe false encN x y = true) := PySem.W.sort_pairwise (PySem.W.sortLe_total (listOrd itemOrd) false fun p : Addr × Int × Int => PySem.W.keyToks (encN p)) _
    generalize (as.zip ns).mergeSort (PySem.W.dataLe false encN) = zs at eout pm pw
    have hperm : (zs.map (·.2)).Perm ns := by
      have e := pm.map (·.2)
      rw [List.map_snd_zip (by omega)] at e
      exact e
    show EP X pins σ Q (.ref h'.objs.size) { s with heap := sortedHeap h2 h'.objs.size (as.map Value.ref) (List.toArray out), toks := tk }
    have kF : ∀ b o, b ≠ h'.objs.size → h2.get? b = some o → (sortedHeap h2 h'.objs.size (as.map Value.ref) (List.toArray out)).get? b = some o := fun b o hb e => (PyProof.Rows.sortedHeap_old hb (Heap.lt_size e)).trans e
    have kS : ∀ b o, s.heap.get? b = some o → (sortedHeap h2 h'.objs.size (as.map Value.ref) (List.toArray out)).get? b = some o := fun b o e => kF b o (ne0 _ _ (hk b o e)) (ka _ _ (hk b o e))
    obtain ⟨eF, heF⟩ := PyProof.Rows.sortedHeap_at (vs := as.map Value.ref) (out := (List.toArray out)) hob
    have I1 : Inv X pins σ H { s with heap := sortedHeap h2 h'.objs.size (as.map Value.ref) (List.toArray out), toks := tk } := I.kept (t' := tk) kS
    have hn0 : H h'.objs.size = none := I.hok.fresh (Nat.le_of_lt hlt)
    have hlen : (zs.map fun z => V.ref z.1).length ≤ sizeLine := by
      have e := hperm.length_eq
      rw [List.length_map] at e
      rw [List.length_map, sizeLine_eq]
      omega
    have rv : ∀ l : List (Addr × Int × Int), Vals (l.map fun z => V.ref z.1) (l.map fun z => Value.ref z.1) := fun l => by
      induction l with
      | nil => exact .nil
      | cons z l ih => exact .cons rfl ih
    have rv2 : Vals (zs.map fun z => V.ref z.1) out := by rw [eout]; exact rv zs
    have I2 : Inv X pins σ (upd H h'.objs.size (.lst (zs.map fun z => V.ref z.1))) { s with heap := sortedHeap h2 h'.objs.size (as.map Value.ref) (List.toArray out), toks := tk } :=
      I1.take (h' := sortedHeap h2 h'.objs.size (as.map Value.ref) (List.toArray out)) (t' := tk) (fun b ob _ e => e) (I.fpOk (Nat.le_of_lt hlt) hn0) ⟨hlen, out, eF, rv2, heF⟩
    obtain ⟨H2, I3, g, qt⟩ := L2.DX.takeT (P := fun b vs => ∃ (j : Nat) (x : Int × Int), as[j]? = some b ∧ ns[j]? = some x ∧ vs = [.int x.1, .int x.2]) I as _ I2 nd fun b hb => by
      obtain ⟨j, hj⟩ := List.mem_iff_getElem?.mp hb
      have jl : j < ns.length := by rw [← lak]; exact (List.getElem?_eq_some_iff.mp hj).1
      have hx : ns[j]? = some ns[j] := List.getElem?_eq_getElem jl
      obtain ⟨t1, t2, hg⟩ := pr j b _ hj hx
      have hbl : s.heap.objs.size ≤ b := Nat.le_of_lt (hG.above b hb)
      refine ⟨hbl, ?_, [.int ns[j].1, .int ns[j].2], ⟨j, ns[j], hj, hx, rfl⟩, fun H3 => ⟨szc 2, [Value.int ns[j].1 t1, Value.int ns[j].2 t2], .cons ⟨t1, rfl⟩ (.cons ⟨t2, rfl⟩ .nil), ⟨_, kF _ _ (ne0 _ _ hg) (ka _ _ hg), rfl, 0, rfl⟩⟩⟩
      rw [upd_ne (ne0 _ _ hg)]
      exact I.hok.fresh hbl
    have gr : Same H H2 := fun b o e => g b o (by rw [upd_ne (ne_of_none e hn0)]; exact e)
    refine ⟨.ref h'.objs.size, H2, I3, rfl, q H2 h'.objs.size zs gr hn0 hperm pw (g _ _ upd_same) fun z hz => ?_⟩
    obtain ⟨i, i1, i2⟩ := idx z (pm.mem_iff.mp hz)
    obtain ⟨vs, ⟨j, x, j1, j2, ev⟩, hH⟩ := qt z.1 (List.mem_of_getElem? i1)
    have eij : i = j := (List.getElem?_inj (List.getElem?_eq_some_iff.mp i1).1 nd).mp (i1.trans j1.symm)
    subst eij
    have ee : x = z.2 := Option.some.inj (j2.symm.trans i2)
    rw [ev, ee] at hH
    exact hH
end
section
variable {P : Program} {w : World} {K : PySem.W.Frag} {mg : Str → Option Value} {base : Heap}
theorem prs_refs {K : PySem.W.Frag} {H : Hp} : ∀ {qs : Prs} {ys : List V}, DpAll K H ys (qs.map prD) → ∃ ps : List Addr, ys = ps.map V.ref ∧ Paired (fun p kv => SqT K H p [kV kv.1, kv.2]) ps (qs.map nnE)
  | [], ys, h => ⟨[], dpa_nil h, .nil⟩
  | x :: qs, ys, h => by
    obtain ⟨v, r, rfl, h1, h2⟩ := dpa_cons h
    obtain ⟨a, xs, rfl, h3, h4⟩ := dp_tup h1
    obtain ⟨v1, r1, rfl, d1, h4⟩ := dpa_cons h4
    obtain ⟨v2, r2, rfl, d2, h4⟩ := dpa_cons h4
    obtain rfl := dpa_nil h4
    rw [dp_int d1, dp_int d2] at h3
    obtain ⟨ps, rfl, pp⟩ := prs_refs h2
    exact ⟨a :: ps, rfl, .cons h3 pp⟩
abbrev s_packed : Stmt := topS 5
theorem sc_packed : FnScope ["situation", "state", "counts", "place", "count"] ["situation"] (defScope s_packed) := ⟨rfl, rfl, rfl, by decide +kernel, rfl, by decide +kernel, by decide +kernel⟩
-- packed slots: situation=0 state=1 counts=2 place=3(None) count=4(None) globals: tuple enumerate
def spPackP (K : PySem.W.Frag) : Sp := fun vs H Q _ => ∃ (x : V) (s : Int) (cs : List Int), vs = [x] ∧ Sit K H x s cs ∧ cs.length ≤ 1000 ∧ ∀ H' p t ps, Same H H' → Dp K H' (.ref p) (pkD s (pkL 0 cs)) → H' p = some (.tup [.int s, .ref t]) → PlT H' t (ps.map V.ref) → Paired (fun p kv => SqT K H' p [kV kv.1, kv.2]) ps ((pkL 0 cs).map nnE) → Q (.ref p) H'
theorem fd_packedP {f : Addr} {fd : FuncData} (F : Fun K "packed" "packed" s_packed f fd) (m : mg "packed" = some (.ref f)) (B : Bt mg) : Fd P w K mg base "packed" ["situation"] 1 (spPackP K) := by
  refine ⟨f, fd, F.ok sc_packed (fun vs H Q E h => ?_) (fun cdv A outer s H vs Q E hr h => ?_), m, F.kp, F.binds (ps := ["situation"]) fun _ _ _ _ _ _ us hl => match us, hl with | [_], _ => rfl⟩
  · obtain ⟨x, s, cs, rfl, _⟩ := h
    rfl
  obtain ⟨x, s, cs, rfl, ⟨a, ca, rfl, ha, hca⟩, hl, q⟩ := h
  refine ⟨_, (pss_cons (ps_asg (pv 0) (pg_tup rfl (pgs_cons (pg_name (i := 1) sc_packed.nd rfl (Or.inl rfl)) (pgs_cons (pg_name (i := 2) sc_packed.nd rfl (Or.inl rfl)) pgs_nil))))
 (pss_one (ps_ret (pe_tup (pa_cons (pv 1) (pa_cons ((pe_callTy call_tupF (by rfl) B.tuple (by decide +kernel) (pa_cons (pe_lc (own := [("place", 3), ("count", 4)]) (g := gTup K 2 (gCons (gName 3) (gCons (gName 4) gNil))) (by rfl) sc_packed.nd (pi_enum (by rfl) B.enumerate (pa_cons (pv 2) pa_nil)) (blkOk_by (own := [("place", 3), ("count", 4)]) (N := ["situation", "state", "counts", "place", "count"]) (sc := (defScope s_packed)) (by decide +kernel)) (fun _ _ _ _ _ => (pg_tup rfl (pgs_cons (pg_name (i := 3) sc_packed.nd rfl (Or.inl rfl)) (pgs_cons (pg_name (i := 4) sc_packed.nd rfl (Or.inl rfl)) pgs_nil)))) (fun _ _ _ _ _ => (pts_one (pt_cmpR op_gt (pv 4) pe_int (nomark _)))) (fun _ _ _ _ _ => (pe_tup (pa_cons (pv 3) (pa_cons (pv 4) pa_nil))))) pa_nil))) pa_nil)))))), ?_⟩
  refine ⟨_, rfl, a, _, rfl, ha, rfl, _, _, rfl, ?_⟩
  dsimp only [gName]
  refine ⟨_, _, rfl, ?_⟩
  dsimp only [gName]
  refine ⟨rfl, ?_⟩
  refine ⟨_, rfl, _, rfl, ca, _, rfl, hca, fun D nD => ?_⟩
  have sD : Same H (upd H D (.lst [])) := same_new nD
  refine ⟨fun i m H' => m = cs.length - i ∧ i ≤ cs.length ∧ Same H H' ∧ ∃ ys, H' D = some (.lst ys) ∧ DpAll K (Ho D H') ys ((pkL 0 (cs.take i)).map prD), ⟨cs.length, rfl, Nat.zero_le _, sD, [], upd_same, .nil⟩, ?_⟩
  rintro i m H' ⟨rfl, hi, sm, ys, eD, dy⟩
  by_cases lt : i < cs.length
  · have hc : cs[i]? = some cs[i] := List.getElem?_eq_getElem lt
    refine .inr ⟨⟨_, _, sm.seq hca, get_map hc⟩, fun H' => i + 1 ≤ cs.length ∧ Same H H' ∧ ∃ ys, H' D = some (.lst ys) ∧ DpAll K (Ho D H') ys ((pkL 0 (cs.take (i + 1))).map prD), fun H' h => ⟨cs.length - (i + 1), by omega, rfl, h⟩, ?_⟩
    rintro u H2 ⟨T, x, rfl, nT, rfl, hx⟩
    have hx := hx _ (sm.seq hca)
    rw [get_map hc] at hx
    cases hx
    have sT : Same H' (upd H' T (.tup [.int (i : Nat), .int cs[i]])) := same_new nT
    have eD2 := sT _ _ eD
    have dy2 := dpAll_mono (ho_same (B := D) sT) dy
    refine ⟨T, _, rfl, st upd_same, rfl, _, _, rfl, ?_⟩
    dsimp only [gName]
    refine ⟨_, _, rfl, ?_⟩
    dsimp only [gName]
    refine ⟨rfl, rfl, ?_⟩
    generalize upd H' T (.tup [.int (i : Nat), .int cs[i]]) = H2 at sT eD2 dy2
    refine ⟨_, rfl, _, _, rfl, rfl, _, rfl, ?_⟩
    rw [take_snoc hc, pkL_snoc, List.length_take, Nat.min_eq_left hi, Nat.zero_add]
    by_cases c0 : 0 < cs[i]
    · rw [decide_eq_true (show cs[i] > 0 from c0), if_pos c0]
      refine iteT ⟨_, rfl, _, rfl, szc 2, fun p np => ⟨ys, ?_, ?_, lt, ?_⟩⟩
      · exact (same_new np) _ _ eD2
      · have yl := dpa_len dy
        rw [List.length_map] at yl
        have := pkL_len 0 (cs.take i)
        rw [List.length_take] at this
        exact szn (show ys.length ≤ cs.length by omega) (by omega)
      · have pD : p ≠ D := fun e => by rw [e, eD2] at np; cases np
        refine ⟨Same.mut (sm.trans (sT.trans (same_new np))) nD, ys ++ [.ref p], upd_same, ?_⟩
        rw [List.map_append]
        refine dpa_app (dpAll_mono ((ho_same (same_new np)).trans ho_mut) dy2) (.cons (.tup (st ?_) (.cons (.int _) (.cons (.int _) .nil))) .nil)
        unfold Ho
        rw [if_neg pD, upd_ne pD]
        exact upd_same
    · rw [decide_eq_false (show ¬ cs[i] > 0 from c0), if_neg c0, List.append_nil]
      exact iteF ⟨lt, sm.trans sT, ys, eD2, dy2⟩
  · obtain rfl : i = cs.length := by omega
    refine .inl ⟨⟨_, sm.seq hca, by rw [List.length_map]; exact Nat.le_refl _⟩, ?_⟩
    rw [List.take_length] at dy
    obtain ⟨ps, rfl, pps⟩ := prs_refs dy
    refine ⟨D, _, rfl, sq eD, fun l ob nl hob => ⟨szc 2, fun p np => ?_⟩⟩
    have sl : Same H' (upd H' l (.frz ob (.tup (ps.map V.ref)))) := same_new nl
    have pl : PlT (upd H' l (.frz ob (.tup (ps.map V.ref)))) l (ps.map V.ref) := ⟨ob, upd_same, hob⟩
    refine q _ p l ps (sm.trans (sl.trans (same_new np))) ?_ upd_same (pl.mono (same_new np)) (Paired.mapP pps fun _ _ h => Same.seqT (ho_out.trans (sl.trans (same_new np))) h)
    exact .tup (st upd_same) (dpAll_mono (same_new np) (.cons (.int _) (.cons (.tup pl.sq (dpAll_mono (ho_out.trans sl) dy)) .nil)))
end
/-! ### values by their keys -/
abbrev grpK (Z : List (V × Int)) (t : Int) : List (V × Int) := Z.filter fun z => decide (z.2 = t)
theorem grpk_snoc (Z : List (V × Int)) (z : V × Int) (t : Int) : grpK (Z ++ [z]) t = grpK Z t ++ (if z.2 = t then [z] else []) := by
  unfold grpK
  rw [List.filter_append]
  by_cases h : z.2 = t
  · rw [if_pos h, List.filter_cons_of_pos (by simpa using h)]
    rfl
  · rw [if_neg h, List.filter_cons_of_neg (by simpa using h)]
    rfl
structure GrpK (H H1 : Hp) (D : Addr) (M : Int → Option Addr) (Z : List (V × Int)) : Prop where
  dict : ∃ kvs, H1 D = some (.dK kvs) ∧ CellF (oneM M) [] Z.length kvs
  lists : ∀ t a, M t = some a → H1 a = some (.lst ((grpK Z t).map (·.1)))
  inj : ∀ t t' a, M t = some a → M t' = some a → t = t'
  new : ∀ t a, M t = some a → H a = none
  newD : H D = none
  has : ∀ z ∈ Z, M (z.2) ≠ none
  only : ∀ t, M t ≠ none → ∃ z ∈ Z, z.2 = t
theorem GrpK.mono {H H1 H2 : Hp} {D : Addr} {M : Int → Option Addr} {Z : List (V × Int)} (g : GrpK H H1 D M Z) (s : Same H1 H2) : GrpK H H2 D M Z :=
  ⟨let ⟨kvs, h1, h2⟩ := g.dict; ⟨kvs, s _ _ h1, h2⟩, fun t a h => s _ _ (g.lists t a h), g.inj, g.new, g.newD, g.has, g.only⟩
theorem GrpK.step {K : PySem.W.Frag} {H H1 : Hp} {D : Addr} {M : Int → Option Addr} {Z : List (V × Int)} {x : V} {b : Int} {nl : Addr} {Q : VK} (g : GrpK H H1 D M Z) (s1 : Same H H1) (nn : H1 nl = none) (hz : Z.length ≤ 9000)
    (q : ∀ H2 M', Same H H2 → GrpK H H2 D M' (Z ++ [(x, b)]) → Q .non H2) :
    rSetDef (.ref D) [.int (b), .ref nl] (upd H1 nl (.lst [])) (fun v H3 => tyV K "list" v H3 ∧ rAppend v [x] H3 Q) := by
  obtain ⟨kvs, hD, cell⟩ := g.dict
  have s2 : Same H1 (upd H1 nl (.lst [])) := same_new nn
  have nD : D ≠ nl := fun z => by rw [z, nn] at hD; cases hD
  have hval : valV kvs (Sum.inl (b)) = (M (b)).map V.ref := cell.val (b)
  have lsz : ∀ t, (grpK Z t).length ≤ Z.length := fun t => List.length_filter_le _ _
  refine ⟨D, kvs, Sum.inl (b), .ref nl, rfl, rfl, s2 _ _ hD, szn cell.2.1 (by omega), fun v hv => ?_, fun hv => ?_⟩
  · rw [hval] at hv
    cases e : M (b) with
    | none => rw [e] at hv; cases hv
    | some a =>
      rw [e] at hv
      cases hv
      have ha := s2 _ _ (g.lists _ a e)
      have aD : a ≠ D := fun z => by rw [z, s2 _ _ hD] at ha; cases ha
      refine ⟨.inl ⟨rfl, _, sq ha⟩, a, _, x, rfl, rfl, ha, szn (m := Z.length) (by rw [List.length_map]; exact lsz _) (by omega), ?_⟩
      refine q _ M (Same.mut (s1.trans s2) (g.new _ a e)) ⟨⟨kvs, ?_, ?_⟩, fun t a' ht => ?_, g.inj, g.new, g.newD, fun z hz2 => ?_, fun t ht => ?_⟩
      · rw [upd_ne aD.symm]
        exact s2 _ _ hD
      · rw [List.length_append]
        exact cell.le (Nat.le_add_right _ _)
      · by_cases ea : a' = a
        · subst ea
          obtain rfl := g.inj _ _ _ ht e
          rw [upd_same, grpk_snoc, if_pos rfl, List.map_append]
          rfl
        · rw [upd_ne ea, grpk_snoc, if_neg fun z => ea (by rw [← z, e] at ht; cases ht; rfl), List.append_nil]
          exact s2 _ _ (g.lists t a' ht)
      · rcases List.mem_append.mp hz2 with h | h
        · exact g.has z h
        · rw [List.mem_singleton.mp h, e]
          exact fun z => (nomatch z)
      · obtain ⟨z, hz3, e3⟩ := g.only t ht
        exact ⟨z, List.mem_append_left _ hz3, e3⟩
  · rw [hval] at hv
    cases e : M (b) with
    | some a => rw [e] at hv; cases hv
    | none =>
      have e1 : (upd (upd H1 nl (.lst [])) D (.dK (kvs ++ [(Sum.inl (b), V.ref nl)]))) nl = some (.lst []) := by rw [upd_ne nD.symm]; exact upd_same
      have nlH : H nl = none := s1.free nn
      have notin : ∀ t, M t ≠ some nl := fun t z => by
        have := g.lists t nl z
        rw [nn] at this
        cases this
      have zero : grpK Z (b) = [] := by
        refine List.filter_eq_nil_iff.mpr fun z hz2 z2 => ?_
        have := g.has z hz2
        rw [of_decide_eq_true z2] at this
        exact this e
      refine ⟨.inl ⟨rfl, _, sq e1⟩, nl, [], x, rfl, rfl, e1, szn (m := 0) (Nat.le_refl _) (by omega), ?_⟩
      refine q _ (fun t => if t = b then some nl else M t) (Same.mut (Same.mut (s1.trans s2) g.newD) nlH) ⟨⟨kvs ++ [(Sum.inl (b), V.ref nl)], ?_, ?_⟩, fun t a' ht => ?_, fun t t' a' h1 h2 => ?_, fun t a' ht => ?_, g.newD, fun z hz2 => ?_, fun t ht => ?_⟩
      · rw [upd_ne nD]
        exact upd_same
      · have pn : putK kvs (Sum.inl (b) : L2.Key) (V.ref nl) = kvs ++ [(Sum.inl (b), V.ref nl)] := putK_new _ (by rw [hval, e]; rfl)
        rw [← pn]
        refine .of (nd_put _ _ cell.1) (Nat.le_trans (length_putK _ _ _) ?_) (shape_put cell.shape) fun k => ?_
        · rw [List.length_append]
          exact Nat.succ_le_succ cell.2.1
        · rw [valV_put]
          show _ = Option.map V.ref (if k = b then some nl else M k)
          by_cases ek : k = b
          · rw [if_pos (by rw [ek]), if_pos ek]
            rfl
          · rw [if_neg fun z => ek (by cases z; rfl), if_neg ek]
            exact cell.val k
      · by_cases et : t = b
        · rw [if_pos et] at ht
          cases ht
          rw [upd_same, grpk_snoc, et, zero, if_pos rfl]
          rfl
        · rw [if_neg et] at ht
          have an : a' ≠ nl := fun z => notin t (by rw [← z]; exact ht)
          have ha := g.lists t a' ht
          have aD : a' ≠ D := fun z => by rw [z, hD] at ha; cases ha
          rw [upd_ne an, upd_ne aD, grpk_snoc, if_neg fun z => et z.symm, List.append_nil]
          exact s2 _ _ ha
      · by_cases et : t = b
        · rw [if_pos et] at h1
          cases h1
          by_cases et' : t' = b
          · rw [et, et']
          · rw [if_neg et'] at h2
            exact absurd h2 (notin t')
        · rw [if_neg et] at h1
          by_cases et' : t' = b
          · rw [if_pos et'] at h2
            cases h2
            exact absurd h1 (notin t)
          · rw [if_neg et'] at h2
            exact g.inj _ _ _ h1 h2
      · by_cases et : t = b
        · rw [if_pos et] at ht
          cases ht
          exact nlH
        · rw [if_neg et] at ht
          exact g.new _ _ ht
      · show (if z.2 = b then some nl else M (z.2)) ≠ none
        by_cases et : z.2 = b
        · rw [if_pos et]
          exact fun z => (nomatch z)
        · rw [if_neg et]
          rcases List.mem_append.mp hz2 with h | h
          · exact g.has z h
          · rw [List.mem_singleton.mp h] at et
            exact absurd rfl et
      · by_cases et : t = b
        · exact ⟨(x, b), List.mem_append_right _ (List.mem_singleton.mpr rfl), et.symm⟩
        · rw [if_neg et] at ht
          obtain ⟨z, hz3, e3⟩ := g.only t ht
          exact ⟨z, List.mem_append_left _ hz3, e3⟩
/-! ### a situation from its packed form -/
def fillP (l : List Int) (ps : Prs) : List Int := ps.foldl (fun l x => l.set x.1.toNat x.2) l
theorem fill_pk : ∀ (cs pre : List Int), (∀ c ∈ cs, 0 ≤ c) → fillP (pre ++ List.replicate cs.length 0) (pkL pre.length cs) = pre ++ cs
  | [], pre, _ => by
    show fillP (pre ++ []) [] = pre ++ []
    rfl
  | c :: r, pre, h => by
    have hc := h c List.mem_cons_self
    have ih := fill_pk r (pre ++ [c]) fun x hx => h x (List.mem_cons_of_mem _ hx)
    rw [List.length_append, List.length_singleton, List.append_assoc, List.append_assoc] at ih
    have e0 : List.replicate (c :: r).length (0 : Int) = 0 :: List.replicate r.length 0 := rfl
    rw [e0, pkL_cons]
    by_cases p : 0 < c
    · rw [if_pos p]
      show fillP ((pre ++ 0 :: List.replicate r.length 0).set ((pre.length : Int)).toNat c) (pkL (pre.length + 1) r) = _
      rw [Int.toNat_natCast, List.set_append_right _ _ (Nat.le_refl _), Nat.sub_self]
      exact ih
    · rw [if_neg p]
      have : c = 0 := by omega
      subst this
      exact ih
theorem fill_len (ps : Prs) : ∀ l : List Int, (fillP l ps).length = l.length := by
  induction ps with
  | nil => intro l; rfl
  | cons x ps ih =>
    intro l
    show (fillP (l.set x.1.toNat x.2) ps).length = _
    rw [ih, List.length_set]
theorem fill_snoc (l : List Int) (ps : Prs) (x : Int × Int) : fillP l (ps ++ [x]) = (fillP l ps).set x.1.toNat x.2 := by
  unfold fillP
  rw [List.foldl_append]
  rfl
theorem pk_lt : ∀ (n : Nat) (cs : List Int) (x : Int × Int), x ∈ pkL n cs → (n : Int) ≤ x.1 ∧ x.1 < (n + cs.length : Nat)
  | _, [], x, h => by cases h
  | n, c :: r, x, h => by
    have go : x ∈ pkL (n + 1) r → (n : Int) ≤ x.1 ∧ x.1 < (n + (c :: r).length : Nat) := fun h => by
      have := pk_lt (n + 1) r x h
      rw [List.length_cons]
      omega
    rw [pkL_cons] at h
    by_cases p : 0 < c
    · rw [if_pos p] at h
      rcases List.mem_cons.mp h with rfl | h
      · rw [List.length_cons]
        show (n : Int) ≤ (n : Int) ∧ (n : Int) < _
        omega
      · exact go h
    · rw [if_neg p] at h
      exact go h
section
variable {P : Program} {w : World} {K : PySem.W.Frag} {mg : Str → Option Value} {base : Heap}
abbrev s_unpacked : Stmt := topS 6
theorem sc_unpacked : FnScope ["situation", "places", "state", "pairs", "counts", "place", "count"] ["situation", "places"] (defScope s_unpacked) := ⟨rfl, rfl, rfl, by decide +kernel, rfl, by decide +kernel, by decide +kernel⟩
-- unpacked slots: situation=0 places=1 state=2 pairs=3 counts=4 place=5 count=6 globals: 
def spUnpk (K : PySem.W.Frag) : Sp := fun vs H Q _ => ∃ (v : V) (s : Int) (cs : List Int), vs = [v, .int (cs.length : Int)] ∧ Dp K H v (pkD s (pkL 0 cs)) ∧ (∀ c ∈ cs, 0 ≤ c) ∧ cs.length ≤ 1000 ∧
  ∀ H' t c, Same H H' → H t = none → H c = none → t ≠ c → H' t = some (.tup [.int s, .ref c]) → H' c = some (.lst (cs.map V.int)) → Q (.ref t) H'
theorem fd_unpacked {f : Addr} {fd : FuncData} (F : Fun K "unpacked" "unpacked" s_unpacked f fd) (m : mg "unpacked" = some (.ref f)) (B : Bt mg) : Fd P w K mg base "unpacked" ["situation", "places"] 1 (spUnpk K) := by
  refine ⟨f, fd, F.ok sc_unpacked (fun vs H Q E h => ?_) (fun cdv A outer s H vs Q E hr h => ?_), m, F.kp, F.binds (ps := ["situation", "places"]) fun _ _ _ _ _ _ us hl => match us, hl with | [_, _], _ => rfl⟩
  · obtain ⟨v, s, cs, rfl, _⟩ := h
    rfl
  obtain ⟨v, s, cs, rfl, hv, h0, hl, q⟩ := h
  obtain ⟨va, xs, rfl, hva, ha⟩ := dp_tup hv
  obtain ⟨v1, r1, rfl, d1, ha⟩ := dpa_cons ha
  obtain ⟨v2, r2, rfl, d2, ha⟩ := dpa_cons ha
  obtain rfl := dpa_nil ha
  rw [dp_int d1] at hva
  obtain ⟨pa, ys, rfl, hpa, yl, hys⟩ := dp_prs_at d2
  refine ⟨_, (pss_cons (ps_asg (pv 0) (pg_tup rfl (pgs_cons (pg_name (i := 2) sc_unpacked.nd rfl (Or.inl rfl)) (pgs_cons (pg_name (i := 3) sc_unpacked.nd rfl (Or.inl rfl)) pgs_nil))))
 (pss_cons (ps_set (i := 4) sc_unpacked.nd rfl (Or.inl rfl) (pe_op op_rep (pe_lst (pa_cons pe_int pa_nil)) (pv 1)))
 (pss_cons (ps_for PassesOwn.never rfl (piT K (pv 3)) (pg_tup rfl (pgs_cons (pg_name (i := 5) sc_unpacked.nd rfl (Or.inl rfl)) (pgs_cons (pg_name (i := 6) sc_unpacked.nd rfl (Or.inl rfl)) pgs_nil)))
 (pss_one (ps_asg (pv 6) (pg_sub (pv 4) (pv 5) set_list))))
 (pss_one (ps_ret (pe_tup (pa_cons (pv 2) (pa_cons (pv 4) pa_nil)))))))), ?_⟩
  refine ⟨_, rfl, va, _, rfl, hva, rfl, _, _, rfl, ?_⟩
  dsimp only [gName]
  refine ⟨_, _, rfl, ?_⟩
  dsimp only [gName]
  refine ⟨rfl, ?_⟩
  refine ⟨szc 1, fun l1 n1 => ?_⟩
  have one : ([V.int 0] : List V).length * ((cs.length : Int)).toNat ≤ sizeLine := by
    rw [Int.toNat_natCast, List.length_singleton, Nat.one_mul]
    exact Nat.le_of_lt (szn (Nat.le_refl cs.length) (by omega))
  refine ⟨_, rfl, l1, (cs.length : Int), [V.int 0], rfl, rfl, upd_same, by omega, by omega, one, fun c nc => ?_⟩
  dsimp only [gName]
  have c1 : H c = none := (same_new n1).free nc
  have e0 : (List.replicate ((cs.length : Int)).toNat ([V.int 0] : List V)).flatten = (List.replicate cs.length (0 : Int)).map V.int := by
    rw [Int.toNat_natCast]
    induction cs.length with
    | zero => rfl
    | succ k ih =>
      rw [List.replicate_succ, List.replicate_succ, List.flatten_cons, ih]
      rfl
  have s2 : Same H (upd (upd H l1 (.lst [.int 0])) c (.lst (List.replicate ((cs.length : Int)).toNat ([V.int 0] : List V)).flatten)) := (same_new n1).trans (same_new nc)
  have ec : (upd (upd H l1 (.lst [.int 0])) c (.lst (List.replicate ((cs.length : Int)).toNat ([V.int 0] : List V)).flatten)) c = some (.lst ((List.replicate cs.length (0 : Int)).map V.int)) := by rw [upd_same, e0]
  generalize upd (upd H l1 (.lst [.int 0])) c (.lst (List.replicate ((cs.length : Int)).toNat ([V.int 0] : List V)).flatten) = H2 at s2 ec ⊢
  refine ⟨_, rfl, pa, rfl, ⟨_, Same.seqT s2 hpa⟩, for_tup (xs := ys) (fun i σ' H' => ∃ (y5 y6 : Option V), σ' = [some (.ref va), some (.int (cs.length : Int)), some (.int s), some (.ref pa), some (.ref c), y5, y6] ∧ Same H H' ∧ H' c = some (.lst ((fillP (List.replicate cs.length 0) ((pkL 0 cs).take i)).map V.int))) ⟨none, none, rfl, s2, ec⟩ ?_ ?_ ?_⟩
  · rintro i σ' H' _ ⟨y5, y6, rfl, s3, _⟩
    exact Same.seqT s3 hpa
  · rintro i u σ' H' hu ⟨y5, y6, rfl, s3, e3⟩
    have lt : i < (pkL 0 cs).length := by rw [← yl]; exact (List.getElem?_eq_some_iff.mp hu).1
    have hx : (pkL 0 cs)[i]? = some (pkL 0 cs)[i] := List.getElem?_eq_getElem lt
    generalize (pkL 0 cs)[i] = x at hx
    obtain ⟨t, hyt, htt⟩ := hys _ _ hx
    rw [hu] at hyt
    cases hyt
    obtain ⟨b1, b2⟩ := pk_lt 0 cs x (List.mem_of_getElem? hx)
    refine ⟨t, _, rfl, Same.seqT s3 htt, rfl, _, _, rfl, ?_⟩
    dsimp only [gName]
    refine ⟨_, _, rfl, ?_⟩
    dsimp only [gName]
    refine ⟨rfl, ?_⟩
    have hlen : ((fillP (List.replicate cs.length (0 : Int)) ((pkL 0 cs).take i)).map V.int).length = cs.length := by rw [List.length_map, fill_len, List.length_replicate]
    have hix : ixN ((fillP (List.replicate cs.length (0 : Int)) ((pkL 0 cs).take i)).map V.int).length x.1 = some x.1.toNat := by
      rw [hlen]
      have b1 : (0 : Int) ≤ x.1 := b1
      have b2 : x.1 < (cs.length : Int) := by rw [Nat.zero_add] at b2; exact b2
      unfold ixN
      rw [if_pos b1, if_pos b2]
    refine ⟨_, rfl, _, rfl, _, rfl, c, _, x.1, x.1.toNat, rfl, rfl, e3, hix, ?_⟩
    refine ⟨_, _, rfl, Same.mut s3 c1, ?_⟩
    rw [upd_same, take_snoc hx, fill_snoc, List.map_set]
  · rintro σ' H' ⟨y5, y6, rfl, s3, e3⟩
    rw [yl, List.take_length] at e3
    have fp := fill_pk cs [] h0
    rw [List.nil_append, List.nil_append] at fp
    rw [show pkL ([] : List Int).length cs = pkL 0 cs from rfl] at fp
    rw [fp] at e3
    refine ⟨_, rfl, _, rfl, szc 2, fun t nt => ?_⟩
    have tc : t ≠ c := fun z => by rw [z, e3] at nt; cases nt
    exact q _ t c (s3.trans (same_new nt)) (s3.free nt) c1 tc upd_same (by rw [upd_ne tc.symm]; exact e3)
end
/-! ### needs: a dict of the counts above 0 -/
def NeedC (cs : List Int) (kvs : List (L2.Key × V)) : Prop := ∃ ks : Prs, kvs = ks.map nnE ∧ ks.Perm (pkL 0 cs)
theorem pkL_app : ∀ (a : List Int) (n : Nat) (b : List Int), pkL n (a ++ b) = pkL n a ++ pkL (n + a.length) b
  | [], n, b => rfl
  | c :: a, n, b => by
    show pkL n (c :: (a ++ b)) = _
    rw [pkL_cons, pkL_cons, pkL_app a (n + 1) b, List.length_cons, show n + 1 + a.length = n + (a.length + 1) by omega]
    split <;> rfl
theorem pkL_mid (a b : List Int) (c : Int) : pkL 0 (a ++ c :: b) = pkL 0 a ++ ((if 0 < c then [((a.length : Int), c)] else []) ++ pkL (a.length + 1) b) := by
  rw [pkL_app, Nat.zero_add, pkL_cons]
  split <;> rfl
theorem pkL_no1 {a : List Int} {x : Int × Int} (h : x ∈ pkL 0 a) : x.1 ≠ (a.length : Int) := by
  have := pk_lt 0 a x h
  omega
theorem pkL_no2 {b : List Int} {n : Nat} {x : Int × Int} (h : x ∈ pkL (n + 1) b) : x.1 ≠ (n : Int) := by
  have := pkL_ge (n + 1) b x h
  omega
theorem pkL_asc : ∀ (n : Nat) (cs : List Int), (pkL n cs).Pairwise (fun x y => x.1 < y.1)
  | _, [] => .nil
  | n, c :: r => by
    rw [pkL_cons]
    by_cases p : 0 < c
    · rw [if_pos p]
      refine .cons (fun y hy => ?_) (pkL_asc (n + 1) r)
      have := pkL_ge (n + 1) r y hy
      show (n : Int) < y.1
      omega
    · rw [if_neg p]
      exact pkL_asc (n + 1) r
theorem NeedC.len {cs : List Int} {kvs : List (L2.Key × V)} (h : NeedC cs kvs) : kvs.length ≤ cs.length := by
  obtain ⟨ks, rfl, p⟩ := h
  rw [List.length_map, p.length_eq]
  exact pkL_len 0 cs
theorem NeedC.nd {cs : List Int} {kvs : List (L2.Key × V)} (h : NeedC cs kvs) : (kvs.map (·.1)).Nodup := by
  obtain ⟨ks, rfl, p⟩ := h
  rw [List.map_map]
  have h1 : ((pkL 0 cs).map fun x => (Sum.inl x.1 : L2.Key)).Nodup := by
    rw [List.Nodup, List.pairwise_map]
    exact (pkL_asc 0 cs).imp fun hlt e => by have e := Sum.inl.inj e; omega
  exact ((p.map fun x => (Sum.inl x.1 : L2.Key)).nodup_iff).mpr h1
theorem NeedC.val {a b : List Int} {c : Int} {kvs : List (L2.Key × V)} (h : NeedC (a ++ c :: b) kvs) : valV kvs (Sum.inl (a.length : Int)) = if 0 < c then some (.int c) else none := by
  have nd := h.nd
  obtain ⟨ks, rfl, p⟩ := h
  rw [pkL_mid] at p
  by_cases hc : 0 < c
  · rw [if_pos hc]
    rw [if_pos hc] at p
    refine mem_valV nd (List.mem_map.mpr ⟨((a.length : Int), c), p.mem_iff.mpr ?_, rfl⟩)
    exact List.mem_append_right _ (List.mem_append_left _ (List.mem_singleton.mpr rfl))
  · rw [if_neg hc]
    rw [if_neg hc, List.nil_append] at p
    cases e : valV (ks.map nnE) (Sum.inl (a.length : Int)) with
    | none => rfl
    | some v =>
      obtain ⟨x, hx, e2⟩ := List.mem_map.mp (valV_mem e)
      have e3 : x.1 = (a.length : Int) := Sum.inl.inj (congrArg Prod.fst e2)
      rcases List.mem_append.mp (p.mem_iff.mp hx) with z | z
      · exact absurd e3 (pkL_no1 z)
      · exact absurd e3 (pkL_no2 z)
theorem NeedC.drop {a b : List Int} {c : Int} {kvs : List (L2.Key × V)} (h : NeedC (a ++ c :: b) kvs) : ∃ ks : Prs, dropK kvs (Sum.inl (a.length : Int)) = ks.map nnE ∧ ks.Perm (pkL 0 a ++ pkL (a.length + 1) b) := by
  obtain ⟨ks, rfl, p⟩ := h
  refine ⟨ks.filter fun x => decide (x.1 ≠ (a.length : Int)), ?_, ?_⟩
  · unfold dropK
    rw [List.filter_map]
    congr 1
    refine List.filter_congr fun x _ => ?_
    exact decide_eq_decide.mpr ⟨fun h z => h (by show (Sum.inl x.1 : L2.Key) = _; rw [z]), fun h z => h (Sum.inl.inj z)⟩
  · have p2 := p.filter fun x => decide (x.1 ≠ (a.length : Int))
    rw [pkL_mid, List.filter_append, List.filter_append] at p2
    have k1 : (pkL 0 a).filter (fun x => decide (x.1 ≠ (a.length : Int))) = pkL 0 a := List.filter_eq_self.mpr fun x hx => decide_eq_true (pkL_no1 hx)
    have k2 : (pkL (a.length + 1) b).filter (fun x => decide (x.1 ≠ (a.length : Int))) = pkL (a.length + 1) b := List.filter_eq_self.mpr fun x hx => decide_eq_true (pkL_no2 hx)
    have k3 : (if 0 < c then [((a.length : Int), c)] else []).filter (fun x => decide (x.1 ≠ (a.length : Int))) = [] := by
      split
      · exact List.filter_eq_nil_iff.mpr fun x hx => by rw [List.mem_singleton.mp hx]; simp
      · rfl
    rw [k1, k2, k3, List.nil_append] at p2
    exact p2
/-- the needs with another count at one place -/
theorem NeedC.put {a b : List Int} {c d : Int} {kvs : List (L2.Key × V)} (h : NeedC (a ++ c :: b) kvs) (hd : 0 < d) : NeedC (a ++ d :: b) (putK (dropK kvs (Sum.inl (a.length : Int))) (Sum.inl (a.length : Int)) (.int d)) := by
  obtain ⟨ks, e, p⟩ := h.drop
  have no : valV (ks.map nnE) (Sum.inl (a.length : Int)) = none := by
    cases e : valV (ks.map nnE) (Sum.inl (a.length : Int)) with
    | none => rfl
    | some v =>
      obtain ⟨x, hx, e2⟩ := List.mem_map.mp (valV_mem e)
      have e3 : x.1 = (a.length : Int) := Sum.inl.inj (congrArg Prod.fst e2)
      rcases List.mem_append.mp (p.mem_iff.mp hx) with z | z
      · exact absurd e3 (pkL_no1 z)
      · exact absurd e3 (pkL_no2 z)
  rw [e, putK_new _ no]
  refine ⟨ks ++ [((a.length : Int), d)], by rw [List.map_append]; rfl, ?_⟩
  rw [pkL_mid, if_pos hd]
  refine (p.append_right _).trans ?_
  rw [List.append_assoc]
  exact List.Perm.append_left _ (List.perm_append_comm)
theorem NeedC.cut {a b : List Int} {c d : Int} {kvs : List (L2.Key × V)} (h : NeedC (a ++ c :: b) kvs) (hd : d ≤ 0) : NeedC (a ++ d :: b) (dropK kvs (Sum.inl (a.length : Int))) := by
  obtain ⟨ks, e, p⟩ := h.drop
  refine ⟨ks, e, ?_⟩
  rw [pkL_mid, if_neg (by omega), List.nil_append]
  exact p
theorem NeedC.same {a b : List Int} {c d : Int} {kvs : List (L2.Key × V)} (h : NeedC (a ++ c :: b) kvs) (hc : c ≤ 0) (hd : d ≤ 0) : NeedC (a ++ d :: b) kvs := by
  obtain ⟨ks, e, p⟩ := h
  rw [pkL_mid, if_neg (by omega), List.nil_append] at p
  refine ⟨ks, e, ?_⟩
  rw [pkL_mid, if_neg (by omega), List.nil_append]
  exact p
theorem NeedC.absent {a b : List Int} {c d : Int} {kvs : List (L2.Key × V)} (h : NeedC (a ++ c :: b) kvs) (hc : c ≤ 0) (hd : 0 < d) : NeedC (a ++ d :: b) (putK kvs (Sum.inl (a.length : Int)) (.int d)) := by
  have hv := h.val
  rw [if_neg (by omega)] at hv
  obtain ⟨ks, rfl, p⟩ := h
  rw [pkL_mid, if_neg (by omega), List.nil_append] at p
  rw [putK_new _ hv]
  refine ⟨ks ++ [((a.length : Int), d)], by rw [List.map_append]; rfl, ?_⟩
  rw [pkL_mid, if_pos hd]
  refine (p.append_right _).trans ?_
  rw [List.append_assoc]
  exact List.Perm.append_left _ (List.perm_append_comm)
section
variable {P : Program} {w : World} {K : PySem.W.Frag} {mg : Str → Option Value} {base : Heap}
abbrev s_with_added : Stmt := topS 26
theorem sc_with_added : FnScope ["need", "place", "change", "more", "count"] ["need", "place", "change"] (defScope s_with_added) := ⟨rfl, rfl, rfl, by decide +kernel, rfl, by decide +kernel, by decide +kernel⟩
-- with_added slots: need=0 place=1 change=2 more=3 count=4 globals: dict
def spWith (K : PySem.W.Frag) : Sp := fun vs H Q _ => ∃ (a : Addr) (al bl : List Int) (c ch : Int) (kvs : List (L2.Key × V)), vs = [.ref a, .int (al.length : Int), .int ch] ∧ H a = some (.dK kvs) ∧ NeedC (al ++ c :: bl) kvs ∧ 0 ≤ c ∧ (al ++ c :: bl).length ≤ 1000 ∧
  ∀ H' q kvs', Same H H' → H q = none → H' q = some (.dK kvs') → NeedC (al ++ (c + ch) :: bl) kvs' → Q (.ref q) H'
theorem fd_with_added {f : Addr} {fd : FuncData} (F : Fun K "with_added" "with_added" s_with_added f fd) (m : mg "with_added" = some (.ref f)) (B : Bt mg) : Fd P w K mg base "with_added" ["need", "place", "change"] 1 (spWith K) := by
  refine ⟨f, fd, F.ok sc_with_added (fun vs H Q E h => ?_) (fun cdv A outer s H vs Q E hr h => ?_), m, F.kp, F.binds (ps := ["need", "place", "change"]) fun _ _ _ _ _ _ us hl => match us, hl with | [_, _, _], _ => rfl⟩
  · obtain ⟨a, al, bl, c, ch, kvs, rfl, _⟩ := h
    rfl
  obtain ⟨a, al, bl, c, ch, kvs, rfl, ha, nd, hc, hl, q⟩ := h
  refine ⟨_, (pss_cons (ps_set (i := 3) sc_with_added.nd rfl (Or.inl rfl) ((pe_callTy call_dictD (by rfl) B.dict (by decide +kernel) (pa_cons (pv 0) pa_nil))))
 (pss_cons (ps_set (i := 4) sc_with_added.nd rfl (Or.inl rfl) (pe_op op_add (pe_dpop2 (pv 3) (pv 1) pe_int (by constructor <;> rfl)) (pv 2)))
 (C8.pss_cut (ps_if (pt_cmpR op_gt (pv 4) pe_int (nomark _))
 (pss_one (ps_dput (hu_of hr) (pv 3) (pv 1) (pv 4) rfl))
 pss_nil)
 (pss_one (ps_ret (pv 3)))))), ?_⟩
  refine ⟨_, rfl, a, kvs, rfl, .inl ha, fun p np => ?_⟩
  dsimp only [gName]
  have s1 : Same H (upd H p (.dK kvs)) := same_new np
  have ep : (upd H p (.dK kvs)) p = some (.dK kvs) := upd_same
  generalize upd H p (.dK kvs) = H1 at s1 ep ⊢
  have hv := nd.val
  have kl := nd.len
  refine ⟨_, rfl, p, rfl, .inl ⟨kvs, .inl ep⟩, _, rfl, kvs, Sum.inl (al.length : Int), ep, rfl, fun v hv2 => ?_, fun hv2 => ?_⟩
  · rw [hv] at hv2
    by_cases hc0 : 0 < c
    · rw [if_pos hc0] at hv2
      cases hv2
      refine ⟨_, rfl, _, _, rfl, rfl, ?_⟩
      dsimp only [gName]
      have s2 : Same H (upd H1 p (.dK (dropK kvs (Sum.inl (al.length : Int))))) := Same.mut s1 np
      have ep2 : (upd H1 p (.dK (dropK kvs (Sum.inl (al.length : Int))))) p = some (.dK (dropK kvs (Sum.inl (al.length : Int)))) := upd_same
      generalize upd H1 p (.dK (dropK kvs (Sum.inl (al.length : Int)))) = H2 at s2 ep2 ⊢
      refine ⟨fun σ' H' => ∃ kvs', σ' = [some (.ref a), some (.int (al.length : Int)), some (.int ch), some (.ref p), some (.int (c + ch))] ∧ Same H H' ∧ H' p = some (.dK kvs') ∧ NeedC (al ++ (c + ch) :: bl) kvs', ?_, ?_⟩
      · refine ⟨_, rfl, _, _, rfl, rfl, _, rfl, ?_⟩
        by_cases h1 : 0 < c + ch
        · refine iteTx (decide_eq_true h1) ?_
          refine ⟨_, rfl, _, rfl, _, rfl, p, _, rfl, DPut.k (k := Sum.inl (al.length : Int)) ep2 (szn (m := 1000) (Nat.le_trans (dropK_le _ _) (Nat.le_trans kl hl)) (by omega)), ?_⟩
          exact ⟨_, rfl, Same.mut s2 np, upd_same, nd.put h1⟩
        · refine iteFx (decide_eq_false h1) ?_
          exact ⟨_, rfl, s2, ep2, nd.cut (by omega)⟩
      · rintro σ' H' ⟨kvs', rfl, s3, e3, n3⟩
        exact ⟨_, rfl, q H' p kvs' s3 np e3 n3⟩
    · rw [if_neg hc0] at hv2
      cases hv2
  · have c0 : c = 0 := by
      rw [hv] at hv2
      by_cases hc0 : 0 < c
      · rw [if_pos hc0] at hv2
        cases hv2
      · omega
    refine ⟨_, rfl, _, _, rfl, rfl, ?_⟩
    dsimp only [gName]
    refine ⟨fun σ' H' => ∃ kvs', σ' = [some (.ref a), some (.int (al.length : Int)), some (.int ch), some (.ref p), some (.int (0 + ch))] ∧ Same H H' ∧ H' p = some (.dK kvs') ∧ NeedC (al ++ (c + ch) :: bl) kvs', ?_, ?_⟩
    · refine ⟨_, rfl, _, _, rfl, rfl, _, rfl, ?_⟩
      by_cases h1 : 0 < 0 + ch
      · refine iteTx (decide_eq_true h1) ?_
        refine ⟨_, rfl, _, rfl, _, rfl, p, _, rfl, DPut.k (k := Sum.inl (al.length : Int)) ep (szn (m := 1000) (Nat.le_trans kl hl) (by omega)), ?_⟩
        rw [c0] at nd ⊢
        exact ⟨_, rfl, Same.mut s1 np, upd_same, nd.absent (Int.le_refl _) h1⟩
      · refine iteFx (decide_eq_false h1) ?_
        rw [c0] at nd ⊢
        exact ⟨_, rfl, s1, ep, nd.same (Int.le_refl _) (by omega)⟩
    · rintro σ' H' ⟨kvs', rfl, s3, e3, n3⟩
      exact ⟨_, rfl, q H' p kvs' s3 np e3 n3⟩
end
theorem merge_nd : ∀ (kvs acc : List (L2.Key × V)), ((acc ++ kvs).map (·.1)).Nodup → mergeK acc kvs = acc ++ kvs
  | [], acc, _ => (List.append_nil acc).symm
  | kv :: r, acc, h => by
    show mergeK (putK acc kv.1 kv.2) r = _
    have no : valV acc kv.1 = none := by
      cases e : valV acc kv.1 with
      | none => rfl
      | some v =>
        rw [List.map_append, List.nodup_append] at h
        exact absurd rfl (h.2.2 kv.1 (List.mem_map.mpr ⟨_, valV_mem e, rfl⟩) kv.1 List.mem_cons_self)
    rw [putK_new _ no, merge_nd r (acc ++ [(kv.1, kv.2)]) (by rw [List.append_assoc]; exact h), List.append_assoc]
    rfl
/-- one fewer, where there is one -/
def decL (cs : List Int) (p : Nat) : List Int := if 0 < cs.getD p 0 then cs.set p (cs.getD p 0 + -1) else cs
def decO (cs : List Int) : Option Nat → List Int
  | some p => decL cs p
  | none => cs
def stV : Option Nat → V
  | some p => .int (p : Int)
  | none => .non
theorem decL_len (cs : List Int) (p : Nat) : (decL cs p).length = cs.length := by
  unfold decL
  split
  · rw [List.length_set]
  · rfl
theorem decL_nn {cs : List Int} {p : Nat} (h : ∀ c ∈ cs, 0 ≤ c) : ∀ c ∈ decL cs p, 0 ≤ c := fun c hc => by
  unfold decL at hc
  split at hc
  · rename_i h0
    rcases List.mem_or_eq_of_mem_set hc with hc | rfl
    · exact h c hc
    · omega
  · exact h c hc
theorem split_at {cs : List Int} {p : Nat} (h : p < cs.length) : cs = cs.take p ++ cs.getD p 0 :: cs.drop (p + 1) ∧ (cs.take p).length = p := by
  refine ⟨?_, by rw [List.length_take]; omega⟩
  have e : cs.getD p 0 = cs[p] := by rw [List.getD_eq_getElem?_getD, List.getElem?_eq_getElem h]; rfl
  rw [e, ← List.drop_eq_getElem_cons h, List.take_append_drop]
theorem set_at {cs : List Int} {p : Nat} (h : p < cs.length) (d : Int) : cs.take p ++ d :: cs.drop (p + 1) = cs.set p d := by
  rw [List.set_eq_take_append_cons_drop, if_pos h]
section
variable {P : Program} {w : World} {K : PySem.W.Frag} {mg : Str → Option Value} {base : Heap}
abbrev s_needed : Stmt := topS 25
theorem sc_needed : FnScope ["move", "pairs", "need", "place"] ["move", "pairs"] (defScope s_needed) := ⟨rfl, rfl, rfl, by decide +kernel, rfl, by decide +kernel, by decide +kernel⟩
-- needed slots: move=0 pairs=1 need=2 place=3 globals: dict with_added
def spNeed (K : PySem.W.Frag) : Sp := fun vs H Q _ => ∃ (mv pt : Addr) (ms : List V) (np : Nat) (sp : Option Nat) (cs : List Int) (ps : List Addr), vs = [.ref mv, .ref pt] ∧ SqT K H mv ms ∧ ms[3]? = some (.int (np : Int)) ∧ ms[4]? = some (stV sp) ∧ np < cs.length ∧ (∀ s, sp = some s → s < cs.length) ∧
  PlT H pt (ps.map V.ref) ∧ Paired (fun p kv => SqT K H p [kV kv.1, kv.2]) ps ((pkL 0 cs).map nnE) ∧ (∀ c ∈ cs, 0 ≤ c) ∧ cs.length ≤ 1000 ∧
  ∀ H' q kvs', Same H H' → H q = none → H' q = some (.dK kvs') → NeedC (decO (decL cs np) sp) kvs' → Q (.ref q) H'
theorem fd_needed {f : Addr} {fd : FuncData} (F : Fun K "needed" "needed" s_needed f fd) (m : mg "needed" = some (.ref f)) (B : Bt mg) (D_with_added : Fd P w K mg base "with_added" ["need", "place", "change"] 1 (spWith K)) : Fd P w K mg base "needed" ["move", "pairs"] 2 (spNeed K) := by
  refine ⟨f, fd, F.ok sc_needed (fun vs H Q E h => ?_) (fun cdv A outer s H vs Q E hr h => ?_), m, F.kp, F.binds (ps := ["move", "pairs"]) fun _ _ _ _ _ _ us hl => match us, hl with | [_, _], _ => rfl⟩
  · obtain ⟨mv, pt, ms, np, sp, cs, ps, rfl, _⟩ := h
    rfl
  obtain ⟨mv, pt, ms, np, sp, cs, ps, rfl, hmv, h3, h4, hnp, hsp, hpt, hps, h0, hl, q⟩ := h
  have nd0 : NeedC cs ((pkL 0 cs).map nnE) := ⟨_, rfl, List.Perm.refl _⟩
  have mg0 : mergeK [] ((pkL 0 cs).map nnE) = (pkL 0 cs).map nnE := merge_nd _ [] nd0.nd
  refine ⟨_, (pss_cons (ps_set (i := 2) sc_needed.nd rfl (Or.inl rfl) ((pe_callTy (call_dictT rfl) (by rfl) B.dict (by decide +kernel) (pa_cons (pv 1) pa_nil))))
 (pss_cons (ps_for PassesOwn.never rfl (piT K (pe_tup (pa_cons (pe_ix (ixT K) (pv 0) pe_int (fun _ _ => rfl)) (pa_cons (pe_ix (ixT K) (pv 0) pe_int (fun _ _ => rfl)) pa_nil)))) (pg_name (i := 3) sc_needed.nd rfl (Or.inl rfl))
 (pss_one (ps_if (pt_cmp (pc_dinN (hu_of hr) (pv 3) (pv 2)))
 (pss_one (ps_set (i := 2) sc_needed.nd rfl (Or.inl rfl) (pe_fn D_with_added (hr.mono (by decide)) rfl (pa_cons (pv 2) (pa_cons (pv 3) (pa_cons (pe_un un_neg pe_int) pa_nil))))))
 pss_nil)))
 (pss_one (ps_ret (pv 2))))), ?_⟩
  refine ⟨_, rfl, pt, ps, _, rfl, hpt, hps, fun d nd => ?_⟩
  rw [mg0]
  dsimp only [gName]
  have s1 : Same H (upd H d (.dK ((pkL 0 cs).map nnE))) := same_new nd
  have ed : (upd H d (.dK ((pkL 0 cs).map nnE))) d = some (.dK ((pkL 0 cs).map nnE)) := upd_same
  generalize upd H d (.dK ((pkL 0 cs).map nnE)) = H1 at s1 ed ⊢
  have hm1 := Same.seqT s1 hmv
  refine ⟨_, rfl, _, _, _, _, rfl, rfl, hm1, atI_nat (j := 3) h3, _, rfl, _, _, _, _, rfl, rfl, hm1, atI_nat (j := 4) h4, szc 2, fun tp ntp => ⟨tp, rfl, ⟨_, st upd_same⟩, ?_⟩⟩
  have s2 := s1.trans (same_new (o := HO.tup [V.int (np : Int), stV sp]) ntp)
  have ed2 := (same_new (o := HO.tup [V.int (np : Int), stV sp]) ntp) _ _ ed
  have etp : (upd H1 tp (.tup [.int (np : Int), stV sp])) tp = some (.tup [.int (np : Int), stV sp]) := upd_same
  generalize upd H1 tp (.tup [.int (np : Int), stV sp]) = H2 at s2 ed2 etp ⊢
  refine for_tup (xs := [.int (np : Int), stV sp]) (fun i σ' H' => ∃ (d : Addr) (kvs : List (L2.Key × V)) (cs' : List Int) (y3 : Option V), σ' = [some (.ref mv), some (.ref pt), some (.ref d), y3] ∧ Same H H' ∧ H' tp = some (.tup [.int (np : Int), stV sp]) ∧ H d = none ∧ H' d = some (.dK kvs) ∧ NeedC cs' kvs ∧ cs'.length = cs.length ∧ (∀ c ∈ cs', 0 ≤ c) ∧
    cs' = (match i with | 0 => cs | 1 => decL cs np | _ => decO (decL cs np) sp)) ⟨d, _, cs, none, rfl, s2, etp, nd, ed2, nd0, rfl, h0, rfl⟩ ?_ ?_ ?_
  · rintro i σ' H' _ ⟨d, kvs, cs', y3, rfl, s3, e3, _⟩
    exact st e3
  · rintro i u σ' H' hu ⟨d, kvs, cs', y3, rfl, s3, e3, nd3, ed3, n3, l3, p3, ecs⟩
    obtain ⟨so, hu2, hso, hres⟩ : ∃ so : Option Nat, u = stV so ∧ (∀ s, so = some s → s < cs'.length) ∧ decO cs' so = (match i + 1 with | 0 => cs | 1 => decL cs np | _ => decO (decL cs np) sp) := by
      match i, hu with
      | 0, hu => exact ⟨some np, (Option.some.inj hu).symm, fun s e => by cases e; omega, by rw [ecs]; rfl⟩
      | 1, hu => exact ⟨sp, (Option.some.inj hu).symm, fun s e => by have := hsp s e; omega, by rw [ecs]; rfl⟩
      | k + 2, hu => cases hu
    subst hu2
    dsimp only [gName]
    cases so with
    | none =>
      refine ⟨_, rfl, _, rfl, .inr ⟨d, kvs, rfl, rfl, .inl ed3, _, rfl, ?_⟩⟩
      refine iteFx rfl ⟨d, kvs, cs', _, rfl, s3, e3, nd3, ed3, n3, l3, p3, hres⟩
    | some p =>
      have lt := hso p rfl
      obtain ⟨sp1, sp2⟩ := split_at lt
      have n4 : NeedC (cs'.take p ++ cs'.getD p 0 :: cs'.drop (p + 1)) kvs := by rw [← sp1]; exact n3
      have hv := n4.val
      rw [sp2] at hv
      have hres : decL cs' p = _ := hres
      refine ⟨_, rfl, _, rfl, .inl ⟨d, _, rfl, DGet.k (k := Sum.inl (p : Int)) ed3, _, rfl, ?_⟩⟩
      rw [hv]
      by_cases c0 : 0 < cs'.getD p 0
      · rw [if_pos c0]
        refine iteTx rfl ?_
        refine ⟨_, rfl, _, rfl, _, rfl, d, cs'.take p, cs'.drop (p + 1), cs'.getD p 0, -1, kvs, by rw [sp2]; rfl, ed3, n4, by omega, by rw [← sp1]; omega, fun H4 d4 kvs4 s4 nd4 ed4 n4' => ?_⟩
        dsimp only [gName]
        have e5 : cs'.take p ++ (cs'.getD p 0 + -1) :: cs'.drop (p + 1) = decL cs' p := by
          unfold decL
          rw [if_pos c0, set_at lt]
        rw [e5] at n4'
        exact ⟨d4, kvs4, decL cs' p, _, rfl, s3.trans s4, s4 _ _ e3, s3.free nd4, ed4, n4', by rw [decL_len]; exact l3, decL_nn p3, hres⟩
      · rw [if_neg c0]
        refine iteFx rfl ⟨d, kvs, cs', _, rfl, s3, e3, nd3, ed3, n3, l3, p3, ?_⟩
        rw [← hres]
        unfold decL
        rw [if_neg c0]
  · rintro σ' H' ⟨d, kvs, cs', y3, rfl, s3, e3, nd3, ed3, n3, l3, p3, ecs⟩
    have ecs : cs' = decO (decL cs np) sp := ecs
    rw [ecs] at n3
    exact ⟨_, rfl, q H' d kvs s3 nd3 ed3 n3⟩
end
theorem need_zero {cs : List Int} {p : Nat} {kvs : List (L2.Key × V)} (h : NeedC cs kvs) (lt : p < cs.length) : valV kvs (Sum.inl (p : Int)) = (if 0 < cs.getD p 0 then some (V.int (cs.getD p 0)) else none) ∧ NeedC (cs.set p 0) (dropK kvs (Sum.inl (p : Int))) := by
  obtain ⟨sp1, sp2⟩ := split_at lt
  have n4 : NeedC (cs.take p ++ cs.getD p 0 :: cs.drop (p + 1)) kvs := by rw [← sp1]; exact h
  have hv := n4.val
  have hc := n4.cut (d := 0) (Int.le_refl _)
  rw [sp2] at hv hc
  rw [set_at lt] at hc
  exact ⟨hv, hc⟩
/-- the pairs whose second is needed -/
def needZ (cs : List Int) (shs : List (Nat × Nat)) : List (V × Int) := (shs.filter fun p => decide (0 < cs.getD p.2 0)).map fun p => (V.int (p.1 : Int), (p.2 : Int))
theorem needZ_snoc (cs : List Int) (shs : List (Nat × Nat)) (p : Nat × Nat) : needZ cs (shs ++ [p]) = needZ cs shs ++ (if 0 < cs.getD p.2 0 then [(V.int (p.1 : Int), (p.2 : Int))] else []) := by
  unfold needZ
  rw [List.filter_append, List.map_append]
  by_cases h : 0 < cs.getD p.2 0
  · rw [if_pos h, List.filter_cons_of_pos (by simpa using h)]
    rfl
  · rw [if_neg h, List.filter_cons_of_neg (by simpa using h)]
    rfl
theorem needZ_len (cs : List Int) (shs : List (Nat × Nat)) : (needZ cs shs).length ≤ shs.length := by
  unfold needZ
  rw [List.length_map]
  exact List.length_filter_le _ _
theorem needZ_grp (cs : List Int) (s : Nat) (hs : 0 < cs.getD s 0) : ∀ shs : List (Nat × Nat), (grpK (needZ cs shs) (s : Int)).map (·.1) = ((shs.filter fun p => decide (p.2 = s)).map fun p => V.int (p.1 : Int))
  | [] => rfl
  | p :: r => by
    have ih := needZ_grp cs s hs r
    have e : needZ cs (p :: r) = (if 0 < cs.getD p.2 0 then [(V.int (p.1 : Int), (p.2 : Int))] else []) ++ needZ cs r := by
      unfold needZ
      by_cases h : 0 < cs.getD p.2 0
      · rw [if_pos h, List.filter_cons_of_pos (by simpa using h)]
        rfl
      · rw [if_neg h, List.filter_cons_of_neg (by simpa using h)]
        rfl
    rw [e]
    by_cases h : p.2 = s
    · rw [h, if_pos hs, List.filter_cons_of_pos (by simpa using h)]
      show List.map _ (List.filter _ ((V.int (p.1 : Int), (s : Int)) :: needZ cs r)) = _
      rw [List.filter_cons_of_pos (by simp), List.map_cons, List.map_cons, ← ih]
    · rw [List.filter_cons_of_neg (by simpa using h), ← ih]
      by_cases h0 : 0 < cs.getD p.2 0
      · rw [if_pos h0]
        show List.map _ (List.filter _ ((V.int (p.1 : Int), (p.2 : Int)) :: needZ cs r)) = _
        rw [List.filter_cons_of_neg (by simp; omega)]
      · rw [if_neg h0]
        rfl
theorem needZ_mem {cs : List Int} {shs : List (Nat × Nat)} {z : V × Int} (h : z ∈ needZ cs shs) : ∃ p ∈ shs, 0 < cs.getD p.2 0 ∧ z.2 = (p.2 : Int) := by
  obtain ⟨p, hp, rfl⟩ := List.mem_map.mp h
  obtain ⟨h1, h2⟩ := List.mem_filter.mp hp
  exact ⟨p, h1, of_decide_eq_true h2, rfl⟩
section
variable {P : Program} {w : World} {K : PySem.W.Frag} {mg : Str → Option Value} {base : Heap}
abbrev s_taken_apart : Stmt := topS 27
theorem sc_taken_apart : FnScope ["need", "shifts", "sources", "first", "second", "groups", "firsts"] ["need", "shifts"] (defScope s_taken_apart) := ⟨rfl, rfl, rfl, by decide +kernel, rfl, by decide +kernel, by decide +kernel⟩
-- taken_apart slots: need=0 shifts=1 sources=2 first=3 second=4 groups=5 firsts=6 globals: 
/-- a group: how many, from where -/
def gpD (cs : List Int) (shs : List (Nat × Nat)) (s : Nat) : PyData := .tuple [.int (cs.getD s 0), .list (((shs.filter fun p => decide (p.2 = s)).map fun p => PyData.int (p.1 : Int)) ++ [PyData.int (s : Int)])]
def zeroL (cs : List Int) (ss : List Nat) : List Int := ss.foldl (fun l s => l.set s 0) cs
theorem zeroL_len : ∀ (ss : List Nat) (cs : List Int), (zeroL cs ss).length = cs.length
  | [], _ => rfl
  | s :: ss, cs => by
    show (zeroL (cs.set s 0) ss).length = _
    rw [zeroL_len ss, List.length_set]
theorem zeroL_get : ∀ (ss : List Nat) (cs : List Int) (s : Nat), s ∉ ss → (zeroL cs ss).getD s 0 = cs.getD s 0
  | [], _, _, _ => rfl
  | x :: ss, cs, s, h => by
    show (zeroL (cs.set x 0) ss).getD s 0 = _
    rw [zeroL_get ss _ s fun z => h (List.mem_cons_of_mem _ z), List.getD_eq_getElem?_getD, List.getD_eq_getElem?_getD, List.getElem?_set_ne fun z => h (by rw [z]; exact List.mem_cons_self)]
def spTake (K : PySem.W.Frag) : Sp := fun vs H Q _ => ∃ (a sh : Addr) (cs : List Int) (kvs : List (L2.Key × V)) (sxs : List V) (shs : List (Nat × Nat)), vs = [.ref a, .ref sh] ∧ H a = some (.dK kvs) ∧ NeedC cs kvs ∧ SqL K H sh sxs ∧ DpAll K H sxs (shs.map shD) ∧ (∀ p ∈ shs, p.2 < cs.length) ∧ cs.length ≤ 1000 ∧ shs.length ≤ 1000 ∧
  ∀ H' g ys kvs' ss, FrO a H H' → H' a = some (.dK kvs') → NeedC (zeroL cs ss) kvs' → H g = none → H' g = some (.lst ys) → DpAll K (Ho g H') ys (ss.map (gpD cs shs)) → ss.Nodup → (∀ s, s ∈ ss ↔ 0 < cs.getD s 0 ∧ ∃ p ∈ shs, p.2 = s) → Q (.ref g) H'
theorem fd_taken_apart {f : Addr} {fd : FuncData} (F : Fun K "taken_apart" "taken_apart" s_taken_apart f fd) (m : mg "taken_apart" = some (.ref f)) (B : Bt mg) : Fd P w K mg base "taken_apart" ["need", "shifts"] 1 (spTake K) := by
  refine ⟨f, fd, F.ok sc_taken_apart (fun vs H Q E h => ?_) (fun cdv A outer s H vs Q E hr h => ?_), m, F.kp, F.binds (ps := ["need", "shifts"]) fun _ _ _ _ _ _ us hl => match us, hl with | [_, _], _ => rfl⟩
  · obtain ⟨a, sh, cs, kvs, sxs, shs, rfl, _⟩ := h
    rfl
  obtain ⟨a, sh, cs, kvs, sxs, shs, rfl, ha, nd, hsh, hsx, hlt, hl1, hl2, q⟩ := h
  have sxl := dpa_len hsx
  rw [List.length_map] at sxl
  refine ⟨_, (pss_cons (ps_set (i := 2) sc_taken_apart.nd rfl (Or.inl rfl) pe_dnewK)
 (pss_cons (ps_for PassesOwn.never rfl (piL K (pv 1)) (pg_tup rfl (pgs_cons (pg_name (i := 3) sc_taken_apart.nd rfl (Or.inl rfl)) (pgs_cons (pg_name (i := 4) sc_taken_apart.nd rfl (Or.inl rfl)) pgs_nil)))
 (pss_one (ps_if (pt_cmp (pc_din (hu_of hr) (pv 4) (pv 0)))
 (pss_one (ps_expr (peBm K PySem.F.plainAttrs_list PySem.F.slot_list_append PySem.F.type_list_append mt_append (peBm K PySem.F.plainAttrs_dict PySem.F.slot_dict_setdefault PySem.F.type_dict_setdefault mt_setdef (pv 2) (pa_cons (pv 4) (pa_cons (pe_lst pa_nil) pa_nil))) (pa_cons (pv 3) pa_nil))))
 pss_nil)))
 (pss_cons (ps_set (i := 5) sc_taken_apart.nd rfl (Or.inl rfl) (pe_lst pa_nil))
 (pss_cons (ps_lock (ps_for PassesOwn.never rfl (pi_items (pv 2)) (pg_tup rfl (pgs_cons (pg_name (i := 4) sc_taken_apart.nd rfl (Or.inl rfl)) (pgs_cons (pg_name (i := 6) sc_taken_apart.nd rfl (Or.inl rfl)) pgs_nil)))
 (pss_one (ps_expr (peBm K PySem.F.plainAttrs_list PySem.F.slot_list_append PySem.F.type_list_append mt_append (pv 5) (pa_cons (pe_tup (pa_cons (pe_dpop1 (pv 0) (pv 4) (by constructor <;> rfl)) (pa_cons (pe_lst (StX.pa_star (pv 6) (pa_cons (pv 4) pa_nil))) pa_nil))) pa_nil))))))
 (pss_one (ps_ret (pv 5))))))), ?_⟩
  refine fun D nD => ?_
  dsimp only [gName]
  have aD : a ≠ D := fun z => by rw [z, nD] at ha; cases ha
  refine ⟨_, rfl, sh, rfl, ⟨_, (same_new nD).seq hsh⟩, for_list (xs := sxs) (fun i σ' H1 => ∃ (M : Int → Option Addr) (y3 y4 : Option V), σ' = [some (.ref a), some (.ref sh), some (.ref D), y3, y4, none, none] ∧ Same H H1 ∧ GrpK H H1 D M (needZ cs (shs.take i))) ?_ ?_ ?_ ?_⟩
  · exact ⟨fun _ => none, none, none, rfl, same_new nD, ⟨[], upd_same, .of List.nodup_nil (Nat.zero_le _) (fun _ h => nomatch h) fun _ => rfl⟩, (fun _ _ h => nomatch h), (fun _ _ _ h => nomatch h), (fun _ _ h => nomatch h), nD, (fun _ h => nomatch h), (fun _ h => absurd rfl h)⟩
  · rintro i σ' H1 _ ⟨M, y3, y4, rfl, s1, _⟩
    exact s1.seq hsh
  · rintro i u σ' H1 hu ⟨M, y3, y4, rfl, s1, g⟩
    have lt : i < shs.length := by rw [← sxl]; exact (List.getElem?_eq_some_iff.mp hu).1
    have hx : shs[i]? = some shs[i] := List.getElem?_eq_getElem lt
    generalize shs[i] = p at hx
    obtain ⟨u2, hu2, du⟩ := dpa_at' hsx (show (shs.map shD)[i]? = some (shD p) by rw [List.getElem?_map, hx]; rfl)
    obtain rfl : u = u2 := Option.some.inj (hu.symm.trans hu2)
    obtain ⟨t, ts, rfl, ht, h4⟩ := dp_tup (dp_mono s1 du)
    obtain ⟨v1, r1, rfl, d1, h4⟩ := dpa_cons h4
    obtain ⟨v2, r2, rfl, d2, h4⟩ := dpa_cons h4
    obtain rfl := dpa_nil h4
    rw [dp_int d1, dp_int d2] at ht
    have p2 := hlt p (List.mem_of_getElem? hx)
    obtain ⟨hv, _⟩ := need_zero nd p2
    have tk : shs.take (i + 1) = shs.take i ++ [p] := take_snoc hx
    refine ⟨t, _, rfl, ht, rfl, _, _, rfl, ?_⟩
    dsimp only [gName]
    refine ⟨_, _, rfl, ?_⟩
    dsimp only [gName]
    refine ⟨rfl, ?_⟩
    refine ⟨_, rfl, _, rfl, a, _, rfl, DGet.k (k := Sum.inl (p.2 : Int)) (s1 _ _ ha), _, rfl, ?_⟩
    rw [hv]
    by_cases c0 : 0 < cs.getD p.2 0
    · rw [if_pos c0]
      refine iteTx rfl ?_
      obtain ⟨kd, hD, _⟩ := g.dict
      refine ⟨_, rfl, .inr (.inr (.inl ⟨rfl, .inl ⟨_, hD⟩⟩)), _, rfl, szc 0, fun nl nn => ?_⟩
      dsimp only [tNil]
      have zl := needZ_len cs (shs.take i)
      rw [List.length_take] at zl
      change rSetDef (V.ref D) [V.int (p.2 : Int), V.ref nl] (upd H1 nl (.lst [])) (fun x H1 => _)
      refine sdef_mono (g.step (K := K) (x := .int (p.1 : Int)) (b := (p.2 : Int)) (Q := fun v H2 => v = .non ∧ ∃ M', Same H H2 ∧ GrpK H H2 D M' (needZ cs (shs.take (i + 1)))) s1 nn (by omega) fun H2 M' s2 g2 => ⟨rfl, M', s2, by rw [tk, needZ_snoc, if_pos c0]; exact g2⟩) fun v H3 h => ⟨h.1, _, rfl, ?_⟩
      obtain ⟨_, l, ys, y, rfl, e1, e2, e3, _, M', s2, g2⟩ := h
      cases e1
      exact ⟨l, ys, _, rfl, rfl, e2, e3, M', _, _, rfl, s2, g2⟩
    · rw [if_neg c0]
      refine iteFx rfl ⟨M, _, _, rfl, s1, ?_⟩
      rw [tk, needZ_snoc, if_neg c0, List.append_nil]
      exact g
  · rintro σ' H1 ⟨M, y3, y4, rfl, s1, g⟩
    rw [sxl, List.take_length] at g
    obtain ⟨kd, hD, cell⟩ := g.dict
    refine ⟨szc 0, fun go ngo => ?_⟩
    dsimp only [gName]
    have s2 : Same H1 (upd H1 go (.lst [])) := same_new ngo
    have ego : (upd H1 go (.lst [])) go = some (.lst []) := upd_same
    have goH : H go = none := s1.free ngo
    have goa : go ≠ a := fun z => by rw [z, s1 _ _ ha] at ngo; cases ngo
    have goD : go ≠ D := fun z => by rw [z, hD] at ngo; cases ngo
    have goM : ∀ t l, M t = some l → l ≠ go := fun t l h z => by have := g.lists t l h; rw [z, ngo] at this; cases this
    have Ma : ∀ t l, M t = some l → l ≠ a := fun t l h z => by have := g.new t l h; rw [z, ha] at this; cases this
    have MD : ∀ t l, M t = some l → l ≠ D := fun t l h z => by have := g.lists t l h; rw [z, hD] at this; cases this
    generalize upd H1 go (.lst []) = H2 at s2 ego ⊢
    have s12 := s1.trans s2
    refine ⟨D, _, s2 _ _ hD, True.intro, fun od => ⟨_, rfl, D, od, kd, rfl, upd_same, for_items (fun j σ' H3 => ∃ (kvs' : List (L2.Key × V)) (ss : List Nat) (ys : List V) (y3 y4 y6 : Option V), σ' = [some (.ref a), some (.ref sh), some (.ref D), y3, y4, some (.ref go), y6] ∧ FrO a H H3 ∧ H3 a = some (.dK kvs') ∧ NeedC (zeroL cs ss) kvs' ∧ H3 go = some (.lst ys) ∧
      DpAll K (Ho go H3) ys (ss.map (gpD cs shs)) ∧ H3 D = some (.frz od (.dK kd)) ∧ (∀ t l, M t = some l → H3 l = some (.lst ((grpK (needZ cs shs) t).map (·.1)))) ∧ (ss.map fun (s : Nat) => (Sum.inl ((s : Nat) : Int) : L2.Key)) = (kd.take j).map (·.1) ∧ ys.length = ss.length) ?_ ?_ ?_ ?_⟩⟩
    · refine ⟨kvs, [], [], y3, y4, none, rfl, fun b o hb h => ?_, by rw [upd_ne aD]; exact s12 _ _ ha, nd, by rw [upd_ne goD]; exact ego, .nil, upd_same, fun t l h => ?_, rfl, rfl⟩
      · rw [upd_ne (ne_of_none h nD)]
        exact s12 _ _ h
      · rw [upd_ne (MD t l h)]
        exact s2 _ _ (g.lists t l h)
    · rintro j σ' H3 _ ⟨kvs', ss, ys, y3, y4, y6, rfl, _, _, _, _, _, eD, _⟩
      exact eD
    · rintro j k v T σ' H3 hk ⟨kvs', ss, ys, y3, y4, y6, rfl, f3, ea3, n3, eg3, dp3, eD3, li3, ks3, yl3⟩ nT
      obtain ⟨t, l, e1, hM⟩ := cell.2.2.1 _ (List.mem_of_getElem? hk)
      cases e1
      have hM : M t = some l := hM
      obtain ⟨z, hz, e2⟩ := g.only t (by rw [hM]; exact fun y => (nomatch y))
      obtain ⟨p, hp, h0, e3⟩ := needZ_mem hz
      obtain ⟨s, rfl⟩ : ∃ s : Nat, t = (s : Int) := ⟨p.2, by omega⟩
      have ps : p.2 = s := by omega
      rw [ps] at h0
      have hslt : s < cs.length := by have := hlt p hp; omega
      have sns : s ∉ ss := fun h => by
        have h1 : (Sum.inl (s : Int) : L2.Key) ∈ (kd.take j).map (·.1) := by rw [← ks3]; exact List.mem_map.mpr ⟨s, h, rfl⟩
        have ndk := cell.1
        have e4 : kd = kd.take j ++ ((Sum.inl (s : Int), V.ref l) :: kd.drop (j + 1)) := by rw [← drop_hd hk, List.take_append_drop]
        rw [e4, List.map_append, List.nodup_append] at ndk
        exact ndk.2.2 _ h1 _ List.mem_cons_self rfl
      obtain ⟨hv, nz⟩ := need_zero n3 (p := s) (by rw [zeroL_len]; exact hslt)
      rw [zeroL_get ss cs s sns, if_pos h0] at hv
      have sT : Same H3 (upd H3 T (.tup [kV (Sum.inl (s : Int)), V.ref l])) := same_new nT
      refine ⟨T, _, rfl, st upd_same, rfl, _, _, rfl, ?_⟩
      dsimp only [gName]
      refine ⟨_, _, rfl, ?_⟩
      dsimp only [gName]
      refine ⟨rfl, ?_⟩
      have ea4 := sT _ _ ea3
      have eg4 := sT _ _ eg3
      have eD4 := sT _ _ eD3
      have el4 := sT _ _ (li3 _ l hM)
      have Ta : T ≠ a := fun z => by rw [z, ea3] at nT; cases nT
      generalize upd H3 T (.tup [kV (Sum.inl (s : Int)), V.ref l]) = H4 at sT ea4 eg4 eD4 el4 ⊢
      have la := Ma _ l hM
      have el5 : (upd H4 a (.dK (dropK kvs' (Sum.inl (s : Int))))) l = some (.lst ((grpK (needZ cs shs) (s : Int)).map (·.1))) := by rw [upd_ne la]; exact el4
      have ea5 : (upd H4 a (.dK (dropK kvs' (Sum.inl (s : Int))))) a = some (.dK (dropK kvs' (Sum.inl (s : Int)))) := upd_same
      have f5 : FrO a H4 (upd H4 a (.dK (dropK kvs' (Sum.inl (s : Int))))) := fun b o hb h => by rw [upd_ne hb]; exact h
      refine ⟨_, rfl, .inl ⟨rfl, _, sq eg4⟩, _, rfl, a, rfl, .inl ⟨kvs', .inl ea4⟩, _, rfl, kvs', Sum.inl (s : Int), _, ea4, rfl, hv, ?_⟩
      generalize upd H4 a (.dK (dropK kvs' (Sum.inl (s : Int)))) = H5 at el5 ea5 f5 ⊢
      have gl := needZ_grp cs s h0 shs
      rw [gl] at el5
      refine ⟨_, rfl, l, _, rfl, .inr (sq el5), _, rfl, ?_⟩
      have fl : (shs.filter fun p => decide (p.2 = s)).length ≤ shs.length := List.length_filter_le _ _
      have sz1 : (((shs.filter fun p => decide (p.2 = s)).map fun p => V.int (p.1 : Int)) ++ [V.int (s : Int)]).length ≤ sizeLine := by
        rw [List.length_append, List.length_map, List.length_singleton]
        exact Nat.le_of_lt (szn (m := 1001) (by omega) (by omega))
      rw [show kV (Sum.inl (s : Int) : L2.Key) = V.int (s : Int) from rfl]
      refine ⟨sz1, fun pl npl => ⟨szc 2, fun t2 nt2 => ?_⟩⟩
      have pa : pl ≠ a := fun z => by rw [z, ea5] at npl; cases npl
      have ta : t2 ≠ a := fun z => by rw [z, (same_new npl) _ _ ea5] at nt2; cases nt2
      have tp : t2 ≠ pl := fun z => by rw [z, upd_same] at nt2; cases nt2
      have s67 := (same_new (o := HO.lst (((shs.filter fun p => decide (p.2 = s)).map fun p => V.int (p.1 : Int)) ++ [V.int (s : Int)])) npl).trans (same_new (o := HO.tup [V.int (cs.getD s 0), V.ref pl]) nt2)
      have et : (upd (upd H5 pl (.lst (((shs.filter fun p => decide (p.2 = s)).map fun p => V.int (p.1 : Int)) ++ [V.int (s : Int)]))) t2 (.tup [.int (cs.getD s 0), .ref pl])) t2 = some (.tup [.int (cs.getD s 0), .ref pl]) := upd_same
      have el : (upd (upd H5 pl (.lst (((shs.filter fun p => decide (p.2 = s)).map fun p => V.int (p.1 : Int)) ++ [V.int (s : Int)]))) t2 (.tup [.int (cs.getD s 0), .ref pl])) pl = some (.lst (((shs.filter fun p => decide (p.2 = s)).map fun p => V.int (p.1 : Int)) ++ [V.int (s : Int)])) := by rw [upd_ne tp.symm]; exact upd_same
      have eg5 := f5 go _ goa eg4
      have pg : pl ≠ go := fun z => by rw [z, eg5] at npl; cases npl
      have tg : t2 ≠ go := fun z => by rw [z, (same_new npl) _ _ eg5] at nt2; cases nt2
      generalize upd (upd H5 pl (.lst (((shs.filter fun p => decide (p.2 = s)).map fun p => V.int (p.1 : Int)) ++ [V.int (s : Int)]))) t2 (.tup [.int (cs.getD s 0), .ref pl]) = H7 at s67 et el ⊢
      have eg7 := s67 _ _ eg5
      have ea7 := s67 _ _ ea5
      have whole : ∀ b o, b ≠ a → b ≠ go → H3 b = some o → (upd H7 go (.lst (ys ++ [.ref t2]))) b = some o := fun b o h1 h2 h => by
        rw [upd_ne h2]
        exact s67 _ _ (f5 b o h1 (sT _ _ h))
      have ssl : ss.length ≤ 1000 := by
        have := congrArg List.length ks3
        rw [List.length_map, List.length_map] at this
        have k1 : (kd.take j).length ≤ kd.length := by rw [List.length_take]; omega
        have k2 := cell.2.1
        have k3 := needZ_len cs shs
        omega
      refine ⟨go, ys, .ref t2, rfl, rfl, eg7, szn (m := 1000) (by omega) (by omega), ?_⟩
      refine ⟨_, ss ++ [s], ys ++ [.ref t2], _, _, _, rfl, fun b o hb h => ?_, by rw [upd_ne goa.symm]; exact ea7, ?_, upd_same, ?_, whole D _ aD.symm goD.symm eD3, fun t' l' h' => whole l' _ (Ma t' l' h') (goM t' l' h') (li3 t' l' h'), ?_, by rw [List.length_append, List.length_append, yl3]; rfl⟩
      · exact whole b o hb (fun z => by rw [z, goH] at h; cases h) (f3 b o hb h)
      · have e5 : zeroL cs (ss ++ [s]) = (zeroL cs ss).set s 0 := by unfold zeroL; rw [List.foldl_append]; rfl
        rw [e5]
        exact nz
      · rw [List.map_append]
        have et9 : (Ho go (upd H7 go (.lst (ys ++ [.ref t2])))) t2 = some (.tup [.int (cs.getD s 0), .ref pl]) := by
          unfold Ho
          rw [if_neg tg, upd_ne tg]
          exact et
        have el9 : (Ho go (upd H7 go (.lst (ys ++ [.ref t2])))) pl = some (.lst (((shs.filter fun p => decide (p.2 = s)).map fun p => V.int (p.1 : Int)) ++ [V.int (s : Int)])) := by
          unfold Ho
          rw [if_neg pg, upd_ne pg]
          exact el
        have di := dpa_ints (K := K) (H := Ho go (upd H7 go (.lst (ys ++ [.ref t2])))) (((shs.filter fun p => decide (p.2 = s)).map fun p => (p.1 : Int)) ++ [(s : Int)])
        rw [List.map_append, List.map_append, List.map_map, List.map_map] at di
        refine dpa_app (dpAll_monoQ (fun x o h hne => ?_) dp3) (.cons (.tup (st et9) (.cons (.int _) (.cons (.lst (sq el9) di) .nil))) .nil)
        unfold Ho at h ⊢
        by_cases e : x = go
        · rw [if_pos e] at h; cases h
        · rw [if_neg e] at h ⊢
          refine whole x o (fun z => ?_) e h
          rw [z, ea3] at h
          cases h
          exact hne trivial
      · rw [List.map_append, ks3, take_snoc hk, List.map_append]
        rfl
    · rintro σ' H3 ⟨kvs', ss, ys, y3, y4, y6, rfl, f3, ea3, n3, eg3, dp3, eD3, li3, ks3, yl3⟩
      rw [List.take_length] at ks3
      refine ⟨eD3, _, rfl, ?_⟩
      have nds : ss.Nodup := by
        have := cell.1
        rw [← ks3, List.Nodup, List.pairwise_map] at this
        exact this.imp fun h z => h (by rw [z])
      refine q _ go ys kvs' ss (fun b o hb h => ?_) (by rw [upd_ne aD]; exact ea3) n3 goH (by rw [upd_ne goD]; exact eg3) (dpAll_monoQ (fun x o h hne => ?_) dp3) nds fun s => ?_
      · rw [upd_ne (ne_of_none h nD)]
        exact f3 b o hb h
      · unfold Ho at h ⊢
        by_cases e : x = go
        · rw [if_pos e] at h; cases h
        · rw [if_neg e] at h ⊢
          by_cases e2 : x = D
          · exfalso
            rw [e2, eD3] at h
            cases h
            exact hne trivial
          · rw [upd_ne e2]
            exact h
      · constructor
        · intro hs
          have hm : (Sum.inl (s : Int) : L2.Key) ∈ kd.map (·.1) := by rw [← ks3]; exact List.mem_map.mpr ⟨s, hs, rfl⟩
          obtain ⟨kv, h1, h2⟩ := List.mem_map.mp hm
          obtain ⟨t, b, rfl, h3⟩ := cell.2.2.1 kv h1
          have h2 : t = (s : Int) := Sum.inl.inj h2
          subst h2
          have h3 : M (s : Int) = some b := h3
          obtain ⟨z, hz, e⟩ := g.only (s : Int) (by rw [h3]; exact fun y => (nomatch y))
          obtain ⟨p, hp, h0, e2⟩ := needZ_mem hz
          have ps : p.2 = s := by omega
          rw [ps] at h0
          exact ⟨h0, p, hp, ps⟩
        · rintro ⟨h0, p, hp, rfl⟩
          have hz : ((V.int (p.1 : Int), (p.2 : Int)) : V × Int) ∈ needZ cs shs := List.mem_map.mpr ⟨p, List.mem_filter.mpr ⟨hp, decide_eq_true h0⟩, rfl⟩
          cases e : M (p.2 : Int) with
          | none => exact absurd e (g.has _ hz)
          | some b =>
            have hm : (Sum.inl (p.2 : Int) : L2.Key) ∈ kd.map (·.1) := List.mem_map.mpr ⟨_, cell.2.2.2 (p.2 : Int) b e, rfl⟩
            rw [← ks3] at hm
            obtain ⟨s', h1, h2⟩ := List.mem_map.mp hm
            have h2 : (s' : Int) = (p.2 : Int) := Sum.inl.inj h2
            have : s' = p.2 := by omega
            rw [← this]
            exact h1
end
/-! ### what leads to a situation: the division of needs -/
theorem gset {cs : List Int} {p : Nat} (h : p < cs.length) (v : Int) (q : Nat) : (cs.set p v).getD q 0 = if q = p then v else cs.getD q 0 := by
  rw [List.getD_eq_getElem?_getD, List.getD_eq_getElem?_getD, List.getElem?_set]
  by_cases e : p = q
  · subst e
    rw [if_pos rfl, if_pos rfl, if_pos h]
    rfl
  · rw [if_neg e, if_neg fun z => e z.symm]
theorem gbump {cs : List Int} {p : Nat} (h : p < cs.length) (z : Int) (q : Nat) : (bump cs p z).getD q 0 = cs.getD q 0 + (if q = p then z else 0) := by
  unfold bump
  rw [gset h]
  by_cases e : q = p
  · rw [if_pos e, if_pos e, e]
  · rw [if_neg e, if_neg e, Int.add_zero]
theorem gout {cs : List Int} {q : Nat} (h : cs.length ≤ q) : cs.getD q 0 = 0 := by
  rw [List.getD_eq_getElem?_getD, List.getElem?_eq_none h]
  rfl
theorem geAll_get : ∀ {xs ys : List Int}, xs.length = ys.length → (geAll xs ys = true ↔ ∀ q, ys.getD q 0 ≤ xs.getD q 0)
  | [], [], _ => ⟨fun _ q => Int.le_refl _, fun _ => rfl⟩
  | [], _ :: _, h => by cases h
  | _ :: _, [], h => by cases h
  | x :: xs, y :: ys, h => by
    have ih := geAll_get (Nat.succ.inj h)
    show (decide (y ≤ x) && geAll xs ys) = true ↔ _
    rw [Bool.and_eq_true, decide_eq_true_iff, ih]
    constructor
    · rintro ⟨h1, h2⟩ q
      cases q with
      | zero => exact h1
      | succ q => exact h2 q
    · intro h
      exact ⟨h 0, fun q => h (q + 1)⟩
abbrev Grp := Int × List Nat
/-- a division of groups: each group's threads on its places -/
inductive Dv : List Grp → List Int → List Int → Prop
  | nil (cs : List Int) : Dv [] cs cs
  | all {m : Int} {p : Nat} {ps : List Nat} {r : List Grp} {cs d : List Int} : Dv r (bump cs p m) d → Dv ((m, p :: ps) :: r) cs d
  | part {m k : Int} {p q : Nat} {ps : List Nat} {r : List Grp} {cs d : List Int} : 0 ≤ k → k < m → Dv ((m - k, q :: ps) :: r) (bump cs p k) d → Dv ((m, p :: q :: ps) :: r) cs d
/-- groups as they should be -/
structure GOk (gs : List Grp) (n : Nat) : Prop where
  pos : ∀ g ∈ gs, 0 ≤ g.1
  ne : ∀ g ∈ gs, g.2 ≠ []
  lt : ∀ g ∈ gs, ∀ p ∈ g.2, p < n
  nd : (gs.flatMap (·.2)).Nodup
def gm : List Grp → Nat
  | [] => 0
  | g :: r => g.2.length + gm r
theorem GOk.rest {g : Grp} {r : List Grp} {n : Nat} (h : GOk (g :: r) n) : GOk r n :=
  ⟨fun x hx => h.pos x (List.mem_cons_of_mem _ hx), fun x hx => h.ne x (List.mem_cons_of_mem _ hx), fun x hx => h.lt x (List.mem_cons_of_mem _ hx), by
    have := h.nd
    rw [List.flatMap_cons, List.nodup_append] at this
    exact this.2.1⟩
theorem GOk.less {m k : Int} {p q : Nat} {ps : List Nat} {r : List Grp} {n : Nat} (h : GOk ((m, p :: q :: ps) :: r) n) (hk : k < m) : GOk ((m - k, q :: ps) :: r) n := by
  refine ⟨fun x hx => ?_, fun x hx => ?_, fun x hx => ?_, ?_⟩
  · rcases List.mem_cons.mp hx with rfl | hx
    · show 0 ≤ m - k
      omega
    · exact h.pos x (List.mem_cons_of_mem _ hx)
  · rcases List.mem_cons.mp hx with rfl | hx
    · exact fun z => by cases z
    · exact h.ne x (List.mem_cons_of_mem _ hx)
  · rcases List.mem_cons.mp hx with rfl | hx
    · intro y hy
      exact h.lt _ List.mem_cons_self y (List.mem_cons_of_mem _ hy)
    · exact h.lt x (List.mem_cons_of_mem _ hx)
  · have := h.nd
    rw [List.flatMap_cons] at this
    rw [List.flatMap_cons]
    exact (List.nodup_cons.mp this).2
def slack (x cs : List Int) (ps : List Nat) : Int := (ps.map fun p => x.getD p 0 - cs.getD p 0).sum
theorem slack_cons (x cs : List Int) (p : Nat) (ps : List Nat) : slack x cs (p :: ps) = (x.getD p 0 - cs.getD p 0) + slack x cs ps := by
  unfold slack
  rw [List.map_cons, List.sum_cons]
theorem slack_bump {x cs : List Int} {p : Nat} {k : Int} (hp : p < cs.length) : ∀ {ps : List Nat}, p ∉ ps → slack x (bump cs p k) ps = slack x cs ps
  | [], _ => rfl
  | q :: ps, h => by
    rw [slack_cons, slack_cons, slack_bump hp fun z => h (List.mem_cons_of_mem _ z), gbump hp, if_neg fun z => h (by rw [z]; exact List.mem_cons_self)]
    omega
theorem slack_nn {x cs : List Int} (h : ∀ q, cs.getD q 0 ≤ x.getD q 0) : ∀ ps : List Nat, 0 ≤ slack x cs ps
  | [] => Int.le_refl _
  | p :: ps => by
    have := slack_nn h ps
    have := h p
    rw [slack_cons]
    omega
theorem Dv.len {gs : List Grp} {cs d : List Int} (h : Dv gs cs d) : d.length = cs.length := by
  induction h with
  | nil => rfl
  | all _ ih => rw [ih, bump_len]
  | part _ _ _ ih => rw [ih, bump_len]
theorem bump_sum : ∀ {cs : List Int} {p : Nat} {z : Int}, p < cs.length → (bump cs p z).sum = cs.sum + z
  | [], _, _, h => by cases h
  | c :: cs, 0, z, _ => by
    show (c + z + cs.sum : Int) = _
    rw [List.sum_cons]
    omega
  | c :: cs, p + 1, z, h => by
    have ih := bump_sum (cs := cs) (p := p) (z := z) (Nat.lt_of_succ_lt_succ h)
    show c + (bump cs p z).sum = _
    rw [ih, List.sum_cons]
    omega
def gsum : List Grp → Int
  | [] => 0
  | g :: r => g.1 + gsum r
theorem Dv.sum {gs : List Grp} {cs d : List Int} (h : Dv gs cs d) : (∀ g ∈ gs, ∀ p ∈ g.2, p < cs.length) → d.sum = cs.sum + gsum gs := by
  induction h with
  | nil => intro _; show _ = _ + 0; omega
  | all h ih =>
    intro hl
    have hp := hl _ List.mem_cons_self _ List.mem_cons_self
    have := ih fun g hg p hp => by rw [bump_len]; exact hl g (List.mem_cons_of_mem _ hg) p hp
    rw [this, bump_sum hp]
    show _ = _ + (_ + gsum _)
    omega
  | part h1 h2 h ih =>
    intro hl
    have hp := hl _ List.mem_cons_self _ List.mem_cons_self
    have := ih fun g hg p hp => by
      rw [bump_len]
      rcases List.mem_cons.mp hg with rfl | hg
      · exact hl _ List.mem_cons_self p (List.mem_cons_of_mem _ hp)
      · exact hl g (List.mem_cons_of_mem _ hg) p hp
    rw [this, bump_sum hp]
    show _ + _ + (_ + gsum _) = _ + (_ + gsum _)
    simp only
    omega
theorem nn_get {cs : List Int} (h : ∀ c ∈ cs, 0 ≤ c) (q : Nat) : 0 ≤ cs.getD q 0 := by
  by_cases hq : q < cs.length
  · exact h _ (gd_mem hq)
  · rw [gout (by omega)]
    exact Int.le_refl _
theorem get_nn {cs : List Int} (h : ∀ q, 0 ≤ cs.getD q 0) : ∀ c ∈ cs, 0 ≤ c := fun c hc => by
  obtain ⟨q, hq⟩ := List.mem_iff_getElem?.mp hc
  have := h q
  rw [List.getD_eq_getElem?_getD, hq] at this
  exact this
theorem Dv.ge {gs : List Grp} {cs d : List Int} (h : Dv gs cs d) : (∀ g ∈ gs, 0 ≤ g.1) → (∀ g ∈ gs, ∀ p ∈ g.2, p < cs.length) → ∀ q, cs.getD q 0 ≤ d.getD q 0 := by
  induction h with
  | nil => intro _ _ q; exact Int.le_refl _
  | all h ih =>
    intro h0 hl q
    have hp := hl _ List.mem_cons_self _ List.mem_cons_self
    have h1 := ih (fun g hg => h0 g (List.mem_cons_of_mem _ hg)) (fun g hg p hp => by rw [bump_len]; exact hl g (List.mem_cons_of_mem _ hg) p hp) q
    have h2 := h0 _ List.mem_cons_self
    rw [gbump hp] at h1
    simp only at h2
    split at h1 <;> omega
  | part h1 h2 h ih =>
    intro h0 hl q
    have hp := hl _ List.mem_cons_self _ List.mem_cons_self
    have h1 := ih (fun g hg => by
      rcases List.mem_cons.mp hg with rfl | hg
      · show 0 ≤ _ - _
        omega
      · exact h0 g (List.mem_cons_of_mem _ hg)) (fun g hg p hp => by
      rw [bump_len]
      rcases List.mem_cons.mp hg with rfl | hg
      · exact hl _ List.mem_cons_self p (List.mem_cons_of_mem _ hp)
      · exact hl g (List.mem_cons_of_mem _ hg) p hp) q
    rw [gbump hp] at h1
    split at h1 <;> omega
theorem flat_no {g : Grp} {r : List Grp} {n : Nat} (h : GOk (g :: r) n) {p : Nat} (hp : p ∈ g.2) : ∀ g' ∈ r, p ∉ g'.2 := fun g' hg' hp' => by
  have := h.nd
  rw [List.flatMap_cons, List.nodup_append] at this
  exact this.2.2 p hp p (List.mem_flatMap.mpr ⟨g', hg', hp'⟩) rfl
/-- what covers a division -/
theorem dv_cov : ∀ (k : Nat) (gs : List Grp) (cs x : List Int), gm gs ≤ k → GOk gs cs.length → ((∃ d, Dv gs cs d ∧ ∀ q, d.getD q 0 ≤ x.getD q 0) ↔ (∀ q, cs.getD q 0 ≤ x.getD q 0) ∧ ∀ g ∈ gs, g.1 ≤ slack x cs g.2)
  | _, [], cs, x, _, _ => by
    constructor
    · rintro ⟨d, hd, h⟩
      cases hd
      exact ⟨h, fun g hg => by cases hg⟩
    · rintro ⟨h, _⟩
      exact ⟨cs, .nil cs, h⟩
  | k, (m, []) :: r, cs, x, _, ok => absurd rfl (ok.ne _ List.mem_cons_self)
  | 0, (m, p :: ps) :: r, cs, x, hk, _ => by
    have : (p :: ps).length + gm r ≤ 0 := hk
    rw [List.length_cons] at this
    omega
  | k + 1, (m, p :: ps) :: r, cs, x, hk, ok => by
    have hk : (p :: ps).length + gm r ≤ k + 1 := hk
    rw [List.length_cons] at hk
    have hp : p < cs.length := ok.lt _ List.mem_cons_self p List.mem_cons_self
    have m0 : 0 ≤ m := ok.pos _ List.mem_cons_self
    have nd := ok.nd
    rw [List.flatMap_cons] at nd
    have pps : p ∉ ps := fun z => (List.nodup_cons.mp (List.nodup_append.mp nd).1).1 z
    have no := flat_no ok (p := p) List.mem_cons_self
    have okr : ∀ z : Int, GOk r (bump cs p z).length := fun z => by rw [bump_len]; exact ok.rest
    have sr : ∀ (z : Int) (g : Grp), g ∈ r → slack x (bump cs p z) g.2 = slack x cs g.2 := fun z g hg => slack_bump hp (no g hg)
    constructor
    · rintro ⟨d, hd, h⟩
      cases hd with
      | all hd =>
        obtain ⟨h1, h2⟩ := (dv_cov k r (bump cs p m) x (by omega) (okr m)).mp ⟨d, hd, h⟩
        have h3 : ∀ q, cs.getD q 0 ≤ x.getD q 0 := fun q => by
          have := h1 q
          rw [gbump hp] at this
          split at this <;> omega
        refine ⟨h3, fun g hg => ?_⟩
        rcases List.mem_cons.mp hg with rfl | hg
        · show m ≤ slack x cs (p :: ps)
          rw [slack_cons]
          have := h1 p
          rw [gbump hp, if_pos rfl] at this
          have := slack_nn h3 ps
          omega
        · have := h2 g hg
          rw [sr m g hg] at this
          exact this
      | @part _ j _ q' qs _ _ _ j0 j1 hd =>
        have lk : gm ((m - j, q' :: qs) :: r) ≤ k := by
          show (q' :: qs).length + gm r ≤ k
          omega
        have okn : GOk ((m - j, q' :: qs) :: r) (bump cs p j).length := by rw [bump_len]; exact ok.less j1
        obtain ⟨h1, h2⟩ := (dv_cov k _ (bump cs p j) x lk okn).mp ⟨d, hd, h⟩
        have h3 : ∀ q, cs.getD q 0 ≤ x.getD q 0 := fun q => by
          have := h1 q
          rw [gbump hp] at this
          split at this <;> omega
        refine ⟨h3, fun g hg => ?_⟩
        rcases List.mem_cons.mp hg with rfl | hg
        · show m ≤ slack x cs (p :: q' :: qs)
          rw [slack_cons]
          have e := h1 p
          rw [gbump hp, if_pos rfl] at e
          have e2 : m - j ≤ slack x (bump cs p j) (q' :: qs) := h2 _ List.mem_cons_self
          rw [slack_bump hp pps] at e2
          omega
        · have := h2 g (List.mem_cons_of_mem _ hg)
          rw [sr j g hg] at this
          exact this
    · rintro ⟨h1, h2⟩
      have e0 : m ≤ slack x cs (p :: ps) := h2 _ List.mem_cons_self
      rw [slack_cons] at e0
      have e1 := h1 p
      by_cases c : m ≤ x.getD p 0 - cs.getD p 0
      · obtain ⟨d, hd, h⟩ := (dv_cov k r (bump cs p m) x (by omega) (okr m)).mpr ⟨fun q => by
          have := h1 q
          rw [gbump hp]
          split
          · rename_i e; subst e; omega
          · omega, fun g hg => by
          rw [sr m g hg]
          exact h2 g (List.mem_cons_of_mem _ hg)⟩
        exact ⟨d, .all hd, h⟩
      · cases ps with
        | nil =>
          have : slack x cs [] = 0 := rfl
          omega
        | cons q' qs =>
          have j1 : x.getD p 0 - cs.getD p 0 < m := by omega
          have lk : gm ((m - (x.getD p 0 - cs.getD p 0), q' :: qs) :: r) ≤ k := by
            show (q' :: qs).length + gm r ≤ k
            omega
          have okn : GOk ((m - (x.getD p 0 - cs.getD p 0), q' :: qs) :: r) (bump cs p (x.getD p 0 - cs.getD p 0)).length := by rw [bump_len]; exact ok.less j1
          obtain ⟨d, hd, h⟩ := (dv_cov k _ (bump cs p (x.getD p 0 - cs.getD p 0)) x lk okn).mpr ⟨fun q => by
            have := h1 q
            rw [gbump hp]
            split
            · rename_i e; subst e; omega
            · omega, fun g hg => by
            rcases List.mem_cons.mp hg with rfl | hg
            · show m - _ ≤ slack x (bump cs p _) (q' :: qs)
              rw [slack_bump hp pps]
              omega
            · rw [sr _ g hg]
              exact h2 g (List.mem_cons_of_mem _ hg)⟩
          exact ⟨d, .part (by omega) j1 hd, h⟩
def inSum (sh : List (Nat × Nat)) (cs : List Int) (q : Nat) : Int := ((sh.filter fun p => decide (p.2 = q)).map fun p => cs.getD p.1 0).sum
theorem inSum_cons (p : Nat × Nat) (sh : List (Nat × Nat)) (cs : List Int) (q : Nat) : inSum (p :: sh) cs q = (if p.2 = q then cs.getD p.1 0 else 0) + inSum sh cs q := by
  unfold inSum
  by_cases e : p.2 = q
  · rw [if_pos e, List.filter_cons_of_pos (by simpa using e), List.map_cons, List.sum_cons]
  · rw [if_neg e, List.filter_cons_of_neg (by simpa using e), Int.zero_add]
theorem inSum_none : ∀ {sh : List (Nat × Nat)} {cs : List Int} {q : Nat}, (∀ p ∈ sh, p.2 ≠ q) → inSum sh cs q = 0
  | [], _, _, _ => rfl
  | p :: sh, cs, q, h => by
    rw [inSum_cons, if_neg (h p List.mem_cons_self), inSum_none fun x hx => h x (List.mem_cons_of_mem _ hx), Int.add_zero]
theorem inSum_congr : ∀ {sh : List (Nat × Nat)} {cs ds : List Int} {q : Nat}, (∀ p ∈ sh, cs.getD p.1 0 = ds.getD p.1 0) → inSum sh cs q = inSum sh ds q
  | [], _, _, _, _ => rfl
  | p :: sh, cs, ds, q, h => by
    rw [inSum_cons, inSum_cons, h p List.mem_cons_self, inSum_congr fun x hx => h x (List.mem_cons_of_mem _ hx)]
theorem inSum_nn : ∀ {sh : List (Nat × Nat)} {cs : List Int} {q : Nat}, (∀ q, 0 ≤ cs.getD q 0) → 0 ≤ inSum sh cs q
  | [], _, _, _ => Int.le_refl _
  | p :: sh, cs, q, h => by
    have := inSum_nn (sh := sh) (q := q) h
    have := h p.1
    rw [inSum_cons]
    split <;> omega
theorem ShOk.tail {p : Nat × Nat} {r : List (Nat × Nat)} {n : Nat} (h : ShOk (p :: r) n) : ShOk r n :=
  ⟨by have := h.asc; rw [List.map_cons] at this; exact (List.pairwise_cons.mp this).2, fun x hx => h.fst x (List.mem_cons_of_mem _ hx), fun x hx => h.snd x (List.mem_cons_of_mem _ hx), fun x hx y hy => h.sep x (List.mem_cons_of_mem _ hx) y (List.mem_cons_of_mem _ hy)⟩
theorem shift_get : ∀ (sh : List (Nat × Nat)) (cs : List Int), ShOk sh cs.length → ∀ q, (shiftAll sh cs).getD q 0 = if q ∈ sh.map (·.1) then 0 else cs.getD q 0 + inSum sh cs q
  | [], cs, _, q => by
    rw [if_neg (fun h => by cases h)]
    show cs.getD q 0 = cs.getD q 0 + 0
    rw [Int.add_zero]
  | p :: r, cs, ok, q => by
    have h1 := ok.fst p List.mem_cons_self
    have h2 := ok.snd p List.mem_cons_self
    have asc := ok.asc
    rw [List.map_cons] at asc
    have a1 : ∀ x ∈ r, x.1 ≠ p.1 := fun x hx e => by
      have := (List.pairwise_cons.mp asc).1 x.1 (List.mem_map.mpr ⟨x, hx, rfl⟩)
      omega
    have a2 : ∀ x ∈ r, x.1 ≠ p.2 := fun x hx e => ok.sep p List.mem_cons_self x (List.mem_cons_of_mem _ hx) e.symm
    have at' : ∀ q, ((cs.set p.2 (cs.getD p.2 0 + cs.getD p.1 0)).set p.1 0).getD q 0 = if q = p.1 then 0 else if q = p.2 then cs.getD p.2 0 + cs.getD p.1 0 else cs.getD q 0 := fun q => by
      rw [gset (by rw [List.length_set]; exact h1), gset h2]
    have ih := shift_get r ((cs.set p.2 (cs.getD p.2 0 + cs.getD p.1 0)).set p.1 0) (by rw [List.length_set, List.length_set]; exact ok.tail) q
    have ic : inSum r ((cs.set p.2 (cs.getD p.2 0 + cs.getD p.1 0)).set p.1 0) q = inSum r cs q := inSum_congr fun x hx => by rw [at', if_neg (a1 x hx), if_neg (a2 x hx)]
    show (shiftAll r _).getD q 0 = _
    rw [ih, ic, at', inSum_cons, List.map_cons]
    by_cases c : q ∈ r.map (·.1)
    · rw [if_pos c, if_pos (List.mem_cons_of_mem _ c)]
    · rw [if_neg c]
      by_cases e : q = p.1
      · rw [if_pos e, if_pos (by rw [e]; exact List.mem_cons_self), e, inSum_none fun x hx z => ok.sep x (List.mem_cons_of_mem _ hx) p List.mem_cons_self z]
        rfl
      · have hne : ¬ q ∈ p.1 :: r.map (·.1) := fun z => by rcases List.mem_cons.mp z with z | z <;> contradiction
        rw [if_neg e, if_neg hne]
        by_cases e2 : q = p.2
        · rw [if_pos e2, if_pos e2.symm, e2]
          omega
        · rw [if_neg e2, if_neg fun z => e2 z.symm]
          omega
theorem mid_get {m : MvT} {S n : Nat} (f : m.Fit S n) {cs : List Int} (hl : cs.length = n) (q : Nat) : (m.mid cs).getD q 0 = if q ∈ m.sh.map (·.1) then 0 else (bump cs m.pl (-1)).getD q 0 + inSum m.sh (bump cs m.pl (-1)) q :=
  shift_get m.sh (bump cs m.pl (-1)) (by rw [bump_len, hl]; exact f.sh) q
theorem aft_get {m : MvT} {S n : Nat} (f : m.Fit S n) {cs : List Int} (hl : cs.length = n) (q : Nat) : (m.aft cs).getD q 0 = (m.mid cs).getD q 0 + (if q = m.np then 1 else 0) + (if m.sd = some q then 1 else 0) := by
  have h1 : m.np < (m.mid cs).length := by rw [mid_len, hl]; exact f.np
  unfold MvT.aft
  cases e : m.sd with
  | none =>
    show (bump (m.mid cs) m.np 1).getD q 0 = _
    rw [gbump h1, if_neg (fun z : none = some q => by cases z)]
    omega
  | some d =>
    show (bump (bump (m.mid cs) m.np 1) d 1).getD q 0 = _
    rw [gbump (by rw [bump_len, mid_len, hl]; exact f.sd d e), gbump h1]
    by_cases c : q = d
    · rw [if_pos c, if_pos (show some d = some q by rw [c])]
    · rw [if_neg c, if_neg (show ¬ some d = some q from fun z => c (Option.some.inj z).symm)]
theorem decL_get {cs : List Int} {p : Nat} (hp : p < cs.length) (q : Nat) : (decL cs p).getD q 0 = if q = p ∧ 0 < cs.getD p 0 then cs.getD p 0 + -1 else cs.getD q 0 := by
  unfold decL
  by_cases c : 0 < cs.getD p 0
  · rw [if_pos c, gset hp]
    by_cases e : q = p
    · rw [if_pos e, if_pos ⟨e, c⟩]
    · rw [if_neg e, if_neg fun z => e z.1]
  · rw [if_neg c, if_neg fun z => c z.2]
theorem decL_le {cs : List Int} {p : Nat} (hp : p < cs.length) (q : Nat) {y : Int} (hy : 0 ≤ y) : (decL cs p).getD q 0 ≤ y ↔ cs.getD q 0 ≤ y + (if q = p then 1 else 0) := by
  rw [decL_get hp]
  by_cases e : q = p
  · subst e
    rw [if_pos rfl]
    by_cases c : 0 < cs.getD q 0
    · rw [if_pos ⟨rfl, c⟩]
      omega
    · rw [if_neg fun z => c z.2]
      omega
  · rw [if_neg fun z => e z.1, if_neg e, Int.add_zero]
def needL (m : MvT) (g : List Int) : List Int := decO (decL g m.np) m.sd
theorem needL_len (m : MvT) (g : List Int) : (needL m g).length = g.length := by
  unfold needL decO
  cases m.sd with
  | none => exact decL_len _ _
  | some d => rw [decL_len, decL_len]
theorem needL_nn {m : MvT} {g : List Int} (h : ∀ c ∈ g, 0 ≤ c) : ∀ c ∈ needL m g, 0 ≤ c := by
  unfold needL decO
  cases m.sd with
  | none => exact decL_nn h
  | some d => exact decL_nn (decL_nn h)
theorem needL_le {m : MvT} {S n : Nat} (f : m.Fit S n) {g : List Int} (hl : g.length = n) (q : Nat) {y : Int} (hy : 0 ≤ y) : (needL m g).getD q 0 ≤ y ↔ g.getD q 0 ≤ y + (if q = m.np then 1 else 0) + (if m.sd = some q then 1 else 0) := by
  have hnp : m.np < g.length := by rw [hl]; exact f.np
  unfold needL decO
  cases e : m.sd with
  | none =>
    show (decL g m.np).getD q 0 ≤ y ↔ _
    rw [decL_le hnp q hy, if_neg (fun z : none = some q => by cases z), Int.add_zero]
  | some d =>
    show (decL (decL g m.np) d).getD q 0 ≤ y ↔ _
    have hd : d < (decL g m.np).length := by rw [decL_len, hl]; exact f.sd d e
    rw [decL_le hd q hy]
    have y2 : 0 ≤ y + (if q = d then 1 else 0) := by split <;> omega
    rw [decL_le hnp q y2]
    by_cases c : q = d
    · rw [if_pos c, if_pos (show some d = some q by rw [c])]
      omega
    · rw [if_neg c, if_neg fun z => c (Option.some.inj z).symm]
      omega
def firstsOf (sh : List (Nat × Nat)) (s : Nat) : List Nat := (sh.filter fun p => decide (p.2 = s)).map (·.1)
theorem firsts_mem {sh : List (Nat × Nat)} {s f : Nat} : f ∈ firstsOf sh s ↔ (f, s) ∈ sh := by
  unfold firstsOf
  rw [List.mem_map]
  constructor
  · rintro ⟨p, hp, rfl⟩
    obtain ⟨h1, h2⟩ := List.mem_filter.mp hp
    rw [← of_decide_eq_true h2]
    exact h1
  · intro h
    exact ⟨(f, s), List.mem_filter.mpr ⟨h, decide_eq_true rfl⟩, rfl⟩
structure SsOk (sh : List (Nat × Nat)) (nd : List Int) (ss : List Nat) : Prop where
  dis : ss.Nodup
  iff : ∀ s, s ∈ ss ↔ 0 < nd.getD s 0 ∧ ∃ p ∈ sh, p.2 = s
def grpsOf (sh : List (Nat × Nat)) (nd : List Int) (ss : List Nat) : List Grp := ss.map fun s => (nd.getD s 0, firstsOf sh s ++ [s])
def baseL (m : MvT) (nd : List Int) (ss : List Nat) : List Int := bump (zeroL nd ss) m.pl 1
theorem zeroL_in : ∀ (ss : List Nat) (cs : List Int) (s : Nat), s ∈ ss → (zeroL cs ss).getD s 0 = 0
  | x :: ss, cs, s, h => by
    show (zeroL (cs.set x 0) ss).getD s 0 = 0
    by_cases c : s ∈ ss
    · exact zeroL_in ss _ s c
    · rw [zeroL_get ss _ s c]
      obtain rfl : s = x := by
        rcases List.mem_cons.mp h with h | h
        · exact h
        · exact absurd h c
      by_cases l : s < cs.length
      · rw [gset l, if_pos rfl]
      · rw [gout (by rw [List.length_set]; omega)]
theorem fst_uniq {sh : List (Nat × Nat)} {n : Nat} (ok : ShOk sh n) {f a b : Nat} (h1 : (f, a) ∈ sh) (h2 : (f, b) ∈ sh) : a = b := by
  have asc := ok.asc
  induction sh with
  | nil => cases h1
  | cons p r ih =>
    rw [List.map_cons, List.pairwise_cons] at asc
    rcases List.mem_cons.mp h1 with e1 | h1
    · rcases List.mem_cons.mp h2 with e2 | h2
      · rw [← e2] at e1
        injection e1
      · have := asc.1 f (List.mem_map.mpr ⟨_, h2, rfl⟩)
        rw [← e1] at this
        have this : f < f := this
        omega
    · rcases List.mem_cons.mp h2 with e2 | h2
      · have := asc.1 f (List.mem_map.mpr ⟨_, h1, rfl⟩)
        rw [← e2] at this
        have this : f < f := this
        omega
      · exact ih ok.tail h1 h2 asc.2
theorem firsts_nodup {sh : List (Nat × Nat)} {n : Nat} (ok : ShOk sh n) (s : Nat) : (firstsOf sh s).Nodup := by
  unfold firstsOf
  have h1 : ((sh.filter fun p => decide (p.2 = s)).map (·.1)).Pairwise (· < ·) := by
    have := ok.asc
    rw [List.pairwise_map] at this ⊢
    exact this.filter _
  exact h1.imp fun h e => by omega
theorem grps_ok {sh : List (Nat × Nat)} {n : Nat} (ok : ShOk sh n) {nd : List Int} {ss : List Nat} (h : SsOk sh nd ss) : GOk (grpsOf sh nd ss) n := by
  refine ⟨fun g hg => ?_, fun g hg => ?_, fun g hg p hp => ?_, ?_⟩
  · obtain ⟨s, hs, rfl⟩ := List.mem_map.mp hg
    have := ((h.iff s).mp hs).1
    show 0 ≤ nd.getD s 0
    omega
  · obtain ⟨s, hs, rfl⟩ := List.mem_map.mp hg
    exact fun z => by simp at z
  · obtain ⟨s, hs, rfl⟩ := List.mem_map.mp hg
    obtain ⟨_, x, hx, e⟩ := (h.iff s).mp hs
    rcases List.mem_append.mp hp with hp | hp
    · exact ok.fst _ (firsts_mem.mp hp)
    · rw [List.mem_singleton.mp hp, ← e]
      exact ok.snd x hx
  · unfold grpsOf
    rw [List.flatMap_map, List.Nodup, List.pairwise_flatMap]
    have isS : ∀ s ∈ ss, ∃ p ∈ sh, p.2 = s := fun s hs => ((h.iff s).mp hs).2
    have noF : ∀ s ∈ ss, ∀ t, s ∉ firstsOf sh t := fun s hs t z => by
      obtain ⟨p, hp, e⟩ := isS s hs
      exact ok.sep p hp _ (firsts_mem.mp z) e
    constructor
    · intro s hs
      show (firstsOf sh s ++ [s]).Nodup
      rw [List.nodup_append]
      refine ⟨firsts_nodup ok s, by simp, fun a ha b hb e => ?_⟩
      rw [List.mem_singleton.mp hb] at e
      rw [e] at ha
      exact noF s hs s ha
    · refine List.Pairwise.imp_of_mem ?_ h.dis
      intro s t hs ht hne x hx y hy e
      subst e
      have hx : x ∈ firstsOf sh s ++ [s] := hx
      have hy : x ∈ firstsOf sh t ++ [t] := hy
      rcases List.mem_append.mp hx with hx | hx
      · rcases List.mem_append.mp hy with hy | hy
        · exact hne (fst_uniq ok (firsts_mem.mp hx) (firsts_mem.mp hy))
        · rw [List.mem_singleton.mp hy] at hx
          exact noF t ht s hx
      · rw [List.mem_singleton.mp hx] at hy
        rcases List.mem_append.mp hy with hy | hy
        · exact noF s hs t hy
        · exact hne (List.mem_singleton.mp hy)
theorem slack_app (x cs : List Int) : ∀ a b : List Nat, slack x cs (a ++ b) = slack x cs a + slack x cs b
  | [], b => (Int.zero_add _).symm
  | p :: a, b => by
    show slack x cs (p :: (a ++ b)) = _
    rw [slack_cons, slack_cons, slack_app x cs a b]
    omega
theorem slack_firsts {x cs b : List Int} : ∀ (sh : List (Nat × Nat)) (s : Nat), (∀ p ∈ sh, x.getD p.1 0 - cs.getD p.1 0 = b.getD p.1 0) → slack x cs (firstsOf sh s) = inSum sh b s
  | [], _, _ => rfl
  | p :: sh, s, h => by
    have ih := slack_firsts sh s fun q hq => h q (List.mem_cons_of_mem _ hq)
    rw [inSum_cons, ← ih]
    by_cases e : p.2 = s
    · have e2 : firstsOf (p :: sh) s = p.1 :: firstsOf sh s := by unfold firstsOf; rw [List.filter_cons_of_pos (by simpa using e), List.map_cons]
      rw [e2, slack_cons, if_pos e, h p List.mem_cons_self]
    · have e2 : firstsOf (p :: sh) s = firstsOf sh s := by unfold firstsOf; rw [List.filter_cons_of_neg (by simpa using e)]
      rw [e2, if_neg e, Int.zero_add]
/-- before a move -/
abbrev Bef (m : MvT) (g cs : List Int) : Prop := 0 < cs.getD m.pl 0 ∧ ∀ q, g.getD q 0 ≤ (m.aft cs).getD q 0
section
variable {m : MvT} {S n : Nat} {g cs : List Int}
theorem mid_nn (f : m.Fit S n) (hc : cs.length = n) (c0 : ∀ c ∈ cs, 0 ≤ c) (h : 0 < cs.getD m.pl 0) (q : Nat) : 0 ≤ (bump cs m.pl (-1)).getD q 0 ∧ 0 ≤ (m.mid cs).getD q 0 := by
  have b0 : ∀ q, 0 ≤ (bump cs m.pl (-1)).getD q 0 := fun q => by
    rw [gbump (by rw [hc]; exact f.pl)]
    have := nn_get c0 q
    by_cases e : q = m.pl
    · rw [if_pos e, e]; omega
    · rw [if_neg e]; omega
  refine ⟨b0 q, ?_⟩
  rw [mid_get f hc]
  split
  · exact Int.le_refl _
  · have := b0 q
    have := inSum_nn (sh := m.sh) (q := q) b0
    omega
theorem bef_mid (f : m.Fit S n) (hg : g.length = n) (hc : cs.length = n) (c0 : ∀ c ∈ cs, 0 ≤ c) : Bef m g cs ↔ 0 < cs.getD m.pl 0 ∧ ∀ q, (needL m g).getD q 0 ≤ (m.mid cs).getD q 0 := by
  refine and_congr_right fun h => forall_congr' fun q => ?_
  rw [aft_get f hc, needL_le f hg q (mid_nn f hc c0 h q).2]
theorem pre_no (f : m.Fit S n) (hg : g.length = n) (hc : cs.length = n) (c0 : ∀ c ∈ cs, 0 ≤ c) {p : Nat × Nat} (hp : p ∈ m.sh) (h : 0 < (needL m g).getD p.1 0) : ¬ Bef m g cs := fun z => by
  have := ((bef_mid f hg hc c0).mp z).2 p.1
  rw [mid_get f hc, if_pos (List.mem_map.mpr ⟨p, hp, rfl⟩)] at this
  omega
theorem pre_iff (f : m.Fit S n) (hg : g.length = n) (hc : cs.length = n) (g0 : ∀ c ∈ g, 0 ≤ c) (c0 : ∀ c ∈ cs, 0 ≤ c) {ss : List Nat} (hs : SsOk m.sh (needL m g) ss) (nf : ∀ p ∈ m.sh, ¬ 0 < (needL m g).getD p.1 0) :
    Bef m g cs ↔ ∃ d, Dv (grpsOf m.sh (needL m g) ss) (baseL m (needL m g) ss) d ∧ ∀ q, d.getD q 0 ≤ cs.getD q 0 := by
  have zl : (zeroL (needL m g) ss).length = n := by rw [zeroL_len, needL_len, hg]
  have bl : (baseL m (needL m g) ss).length = n := by unfold baseL; rw [bump_len, zl]
  have hpl : m.pl < (zeroL (needL m g) ss).length := by rw [zl]; exact f.pl
  have gok := grps_ok f.sh hs
  rw [dv_cov _ _ _ cs (Nat.le_refl _) (by rw [bl]; exact gok), bef_mid f hg hc c0]
  have n0 := nn_get (needL_nn (m := m) g0)
  have bg : ∀ q, (baseL m (needL m g) ss).getD q 0 = (zeroL (needL m g) ss).getD q 0 + (if q = m.pl then 1 else 0) := fun q => gbump hpl 1 q
  have cg : ∀ q, (bump cs m.pl (-1)).getD q 0 = cs.getD q 0 + (if q = m.pl then -1 else 0) := fun q => gbump (by rw [hc]; exact f.pl) (-1) q
  have zf : ∀ p ∈ m.sh, (zeroL (needL m g) ss).getD p.1 0 = 0 := fun p hp => by
    rw [zeroL_get ss _ _ fun z => ?_]
    · have := nf p hp
      have := n0 p.1
      omega
    · exact nf p hp ((hs.iff _).mp z).1
  have fb : ∀ p ∈ m.sh, cs.getD p.1 0 - (baseL m (needL m g) ss).getD p.1 0 = (bump cs m.pl (-1)).getD p.1 0 := fun p hp => by
    rw [bg, cg, zf p hp]
    split <;> omega
  have notF : ∀ s ∈ ss, s ∉ m.sh.map (·.1) := fun s h z => by
    obtain ⟨p, hp, rfl⟩ := List.mem_map.mp z
    exact nf p hp ((hs.iff _).mp h).1
  have slk : ∀ s ∈ ss, slack cs (baseL m (needL m g) ss) (firstsOf m.sh s ++ [s]) = (m.mid cs).getD s 0 := fun s h => by
    rw [slack_app, slack_firsts m.sh s fb, mid_get f hc, if_neg (notF s h), slack_cons, bg, cg, zeroL_in ss _ s h]
    show _ + (_ + 0) = _
    split <;> omega
  constructor
  · rintro ⟨h1, h2⟩
    refine ⟨fun q => ?_, fun x hx => ?_⟩
    · rw [bg]
      have e := cg q
      have := (mid_nn f hc c0 h1 q).1
      by_cases c : q ∈ ss
      · rw [zeroL_in ss _ q c]
        split at e <;> simp_all <;> omega
      · rw [zeroL_get ss _ q c]
        by_cases c2 : q ∈ m.sh.map (·.1)
        · obtain ⟨p, hp, rfl⟩ := List.mem_map.mp c2
          have := nf p hp
          have := n0 p.1
          split at e <;> simp_all <;> omega
        · have h3 := h2 q
          rw [mid_get f hc, if_neg c2] at h3
          by_cases c3 : 0 < (needL m g).getD q 0
          · have : inSum m.sh (bump cs m.pl (-1)) q = 0 := inSum_none fun p hp z => c ((hs.iff q).mpr ⟨c3, p, hp, z⟩)
            split at e <;> simp_all <;> omega
          · split at e <;> simp_all <;> omega
    · obtain ⟨s, h, rfl⟩ := List.mem_map.mp hx
      rw [slk s h]
      exact h2 s
  · rintro ⟨h1, h2⟩
    have hpos : 0 < cs.getD m.pl 0 := by
      have := h1 m.pl
      rw [bg, if_pos rfl] at this
      have z0 : 0 ≤ (zeroL (needL m g) ss).getD m.pl 0 := by
        by_cases c : m.pl ∈ ss
        · rw [zeroL_in ss _ _ c]
          exact Int.le_refl _
        · rw [zeroL_get ss _ _ c]
          exact n0 _
      omega
    refine ⟨hpos, fun q => ?_⟩
    by_cases c : q ∈ ss
    · rw [← slk q c]
      exact h2 _ (List.mem_map.mpr ⟨q, c, rfl⟩)
    · rw [mid_get f hc]
      by_cases c2 : q ∈ m.sh.map (·.1)
      · obtain ⟨p, hp, rfl⟩ := List.mem_map.mp c2
        rw [if_pos c2]
        have := nf p hp
        omega
      · rw [if_neg c2]
        have e := cg q
        have h3 := h1 q
        rw [bg, zeroL_get ss _ q c] at h3
        have := inSum_nn (sh := m.sh) (q := q) fun q => (mid_nn f hc c0 hpos q).1
        split at e <;> simp_all <;> omega
end
/-! ### more of dicts with nested keys: len, a store of a key that may be there -/
section
variable {X : Cx}
def rLenN (P : Program) (w : World) (K : PySem.W.Frag) : List V → Hp → VK → Prop := fun xs H Q => ∃ (d : Addr) (ks : List (NestedKey × Addr)), xs = [.ref d] ∧ H d = some (NDo P w d ks) ∧ NKs K H ks ∧ Q (.int ((ks.length : Nat) : Int)) H
theorem cLenN (K : PySem.W.Frag) (h : X.K = K := by rfl) : CallR X (.builtin "len") (rLenN X.prog X.w K) := by
  subst h
  intro pins s σ H xs us Q I r h
  obtain ⟨d, ks, rfl, ed, hk, q⟩ := h
  obtain ⟨u, rfl, rx⟩ := vals1 r
  obtain rfl : u = .ref d := rx
  have ok := I.hok d _ ed
  have dd := nd_dict I ok hk
  obtain ⟨⟨_, _, _, _, _, _, _, _, z, low⟩, _⟩ := ok
  have hl : (ndx ks).length = ks.length := List.length_map _
  refine call_len_dictH (knd := nestedKind X.prog X.w) low dd (by rw [hl]; rw [sizeLine_eq] at z; omega) ?_
  rw [hl]
  exact ⟨.int ((ks.length : Nat) : Int), H, I.tok _, ⟨_, rfl⟩, q⟩
/-- a key more, unless it is there -/
def addN (ks : List (NestedKey × Addr)) (k : NestedKey) (b : Addr) : List (NestedKey × Addr) := if k ∈ ks.map (·.1) then ks else ks ++ [(k, b)]
def rSetNB (P : Program) (w : World) (K : PySem.W.Frag) : TSet := fun o i v H Q => ∃ (b d : Addr) (k : NestedKey) (ks : List (NestedKey × Addr)), o = .ref d ∧ i = .ref b ∧ v = .bl true ∧ H d = some (NDo P w d ks) ∧ NKs K H ks ∧ Dp K H (.ref b) k.data ∧ k.depth ≤ 8 ∧ ks.length < sizeLine ∧ Q (upd H d (NDo P w d (addN ks k b)))
theorem put_same {ks : List (NestedKey × Addr)} {k : NestedKey} : (ndx ks).map (putAt k (Value.bool true)) = ndx ks := by
  unfold ndx
  rw [List.map_map]
  refine List.map_congr_left fun x _ => ?_
  show putAt k (Value.bool true) (x.1, x.2, Value.bool true) = _
  unfold putAt
  split <;> rfl
theorem set_ndB (K : PySem.W.Frag) (hu : X.A.units + 64 < cLine) (h : X.K = K := by rfl) : PSet X (rSetNB X.prog X.w K) := by
  subst h
  intro pins s σ H o i v ov iv u Q I ro ri rv h
  obtain ⟨b, d, k, ks, rfl, rfl, rfl, ed, hk, db, dk, hl, q⟩ := h
  cases ro
  cases ri
  cases rv
  have ok := I.hok d _ ed
  have dd := nd_dict I ok hk
  obtain ⟨⟨_, _, _, _, _, _, _, _, hl0, low⟩, _⟩ := ok
  refine wpAny_setItem_heap (knd := nestedKind X.prog X.w) (hsz := by unfold ndx; rw [List.length_map]; omega) (show X.A.units + 1 + 8 < cLine by omega) ⟨dp_nested I k _ _ db rfl, dk⟩ dd fun h' dd' hs => ?_
  have e : storedH (ndx ks) k b (Value.bool true) = ndx (addN ks k b) := by
    have z := atKey_ndx (ks := ks) (k := k)
    unfold addN
    by_cases c : k ∈ ks.map (·.1)
    · rw [if_pos c]
      have y : (atKey (ndx ks) k).isSome = true := by rw [z]; exact List.any_eq_true.mpr ⟨k, c, decide_eq_true rfl⟩
      obtain ⟨p, hp⟩ := Option.isSome_iff_exists.mp y
      rw [storedH_old hp, put_same]
    · rw [if_neg c]
      have y : (atKey (ndx ks) k).isSome = false := by
        rw [z]
        cases e : (ks.map (·.1)).any (fun x => decide (x = k)) with
        | false => rfl
        | true =>
          obtain ⟨y, hy, e2⟩ := List.any_eq_true.mp e
          rw [of_decide_eq_true e2] at hy
          exact absurd hy c
      have y2 : atKey (ndx ks) k = none := by
        cases e : atKey (ndx ks) k with
        | none => rfl
        | some p => rw [e] at y; cases y
      rw [storedH_new y2, ndx_snoc]
  rw [e] at dd'
  obtain ⟨o2, es, ep, h1, h2, h3, h4, _, h5⟩ := dd'
  have len : (addN ks k b).length ≤ sizeLine := by
    unfold addN
    split
    · exact hl0
    · rw [List.length_append, List.length_singleton]; omega
  exact ⟨_, d_write I (by rw [ed]; exact True.intro) hs ⟨o2, h1⟩ (ndo_ok ⟨o2, es, ep, h1, h2, h3, h4, h5, len, low⟩), q⟩
theorem peBm0 {T name id : String} {r : V → List V → Hp → VK → Prop} {to : TE} {o : Expr} {apos cpos : Pos} (K : PySem.W.Frag) (pa : PlainAttrs T) (slot : Slot T name id) (hty : typeOf (.builtin id) = pure (.type "method_descriptor")) (hm : MtR X id r) (ho : PE X o to) (h : X.K = K := by rfl)
    (hbase : attributeBase o name X.env (eval o X.env) = eval o X.env := by rfl) (hline : (apos.endLine == cpos.line) = true := by rfl) : PE X (.Call (.Attribute o name apos) [] [] cpos) (tBM0 K T r to) := h ▸ pe_bm0 pa slot hty hm ho hbase hline
end
/-! ### sorted needs are the packed form -/
theorem prd_lt {x y : Addr × Int × Int} (h : PySem.W.dataLe false encN x y = true) : x.2.1 ≤ y.2.1 := by
  have h : (!PySem.W.dataLt (encN y) (encN x)) = true := h
  rw [Bool.not_eq_true'] at h
  unfold encN prD at h
  rw [PySem.W.dataLt_pair (by simp [PySem.W.alike]) (by simp [PySem.W.alike]), PySem.W.dataLt_int, PySem.W.dataLt_int] at h
  by_cases e : y.2.1 = x.2.1
  · omega
  · rw [if_neg (by simp [PyData.eqv, e])] at h
    have := of_decide_eq_false h
    omega
theorem asc_perm : ∀ {xs ys : Prs}, xs.Perm ys → xs.Pairwise (fun x y => x.1 ≤ y.1) → ys.Pairwise (fun x y => x.1 < y.1) → xs = ys := fun {xs ys} p h1 h2 => by
  refine p.eq_of_pairwise (le := fun x y : Int × Int => x.1 ≤ y.1) (fun a b ha hb h3 h4 => ?_) h1 (h2.imp fun h => by omega)
  have ha' := p.mem_iff.mp ha
  obtain ⟨i, hi⟩ := List.mem_iff_getElem?.mp ha'
  obtain ⟨j, hj⟩ := List.mem_iff_getElem?.mp hb
  obtain ⟨li, ei⟩ := List.getElem?_eq_some_iff.mp hi
  obtain ⟨lj, ej⟩ := List.getElem?_eq_some_iff.mp hj
  have hp := List.pairwise_iff_getElem.mp h2
  rcases Nat.lt_trichotomy i j with c | c | c
  · have := hp i j li lj c
    rw [ei, ej] at this
    omega
  · subst c
    rw [← ei, ← ej]
  · have := hp j i lj li c
    rw [ei, ej] at this
    omega
/-! ### the least ones, by their threads -/
def pk (x : Sn) : Int × Prs := (x.1, pkL 0 x.2)
def smS (x : Sn) : Int := x.2.sum
def NonN (S : List Sn) : Prop := ∀ x ∈ S, ∀ c ∈ x.2, 0 ≤ c
theorem geAll_sum : ∀ {xs ys : List Int}, xs.length = ys.length → geAll xs ys = true → ys.sum ≤ xs.sum ∧ (xs.sum ≤ ys.sum → xs = ys)
  | [], [], _, _ => ⟨Int.le_refl _, fun _ => rfl⟩
  | [], _ :: _, h, _ => by cases h
  | _ :: _, [], h, _ => by cases h
  | x :: xs, y :: ys, h, g => by
    have g : (decide (y ≤ x) && geAll xs ys) = true := g
    rw [Bool.and_eq_true, decide_eq_true_iff] at g
    obtain ⟨h1, h2⟩ := geAll_sum (Nat.succ.inj h) g.2
    rw [List.sum_cons, List.sum_cons]
    refine ⟨by omega, fun z => ?_⟩
    rw [h2 (by omega), show x = y by omega]
theorem cov_sum {x y : Sn} (hl : x.2.length = y.2.length) (c : covS x y = true) : smS y ≤ smS x ∧ (smS x ≤ smS y → x = y) := by
  obtain ⟨h1, h2⟩ := covS_iff.mp c
  obtain ⟨h3, h4⟩ := geAll_sum hl h2
  exact ⟨h3, fun z => Prod.ext h1 (h4 z)⟩
theorem sub_cov {n : Nat} {x y : Sn} (hx : x.2.length = n) (hy : y.2.length = n) (px : ∀ c ∈ x.2, 0 ≤ c) (py : ∀ c ∈ y.2, 0 ≤ c) : ((pk x).1 = (pk y).1 ∧ SubP (pk x).2 (pk y).2) ↔ covS x y = true := by
  rw [covS_iff]
  show (x.1 = y.1 ∧ SubP (pkL 0 x.2) (pkL 0 y.2)) ↔ _
  rw [subP_pk 0 x.2 y.2 (hx.trans hy.symm) px py]
theorem ab_cov {n : Nat} {L : List Sn} {x : Sn} (hL : Lens n L) (hx : x.2.length = n) (pL : NonN L) (px : ∀ c ∈ x.2, 0 ≤ c) : Ab (L.map pk) (pk x) ↔ ∃ y ∈ L, covS x y = true := by
  constructor
  · rintro ⟨z, hz, h⟩
    obtain ⟨y, hy, rfl⟩ := List.mem_map.mp hz
    exact ⟨y, hy, (sub_cov hx (hL y hy) px (pL y hy)).mp h⟩
  · rintro ⟨y, hy, h⟩
    exact ⟨pk y, List.mem_map.mpr ⟨y, hy, rfl⟩, (sub_cov hx (hL y hy) px (pL y hy)).mpr h⟩
theorem pk_inj {n : Nat} {x y : Sn} (hx : x.2.length = n) (hy : y.2.length = n) (px : ∀ c ∈ x.2, 0 ≤ c) (py : ∀ c ∈ y.2, 0 ≤ c) (e : pk x = pk y) : x = y := by
  have e1 : (pk x).1 = (pk y).1 := congrArg (fun z => z.1) e
  have e2 : (pk x).2 = (pk y).2 := congrArg (fun z => z.2) e
  have e1 : x.1 = y.1 := e1
  have e2 : pkL 0 x.2 = pkL 0 y.2 := e2
  exact Prod.ext e1 (pkL_inj 0 x.2 y.2 (hx.trans hy.symm) px py e2)
/-- what has been found among those that were looked at -/
structure Fnd (n : Nat) (S P L : List Sn) : Prop extends Mini P L where
  nd : L.Nodup
  inS : ∀ x ∈ P, x ∈ S
theorem Fnd.yes {n : Nat} {S P L : List Sn} {x : Sn} (h : Fnd n S P L) (hx : x ∈ S) (c : ∃ y ∈ L, covS x y = true) : Fnd n S (P ++ [x]) L := by
  refine ⟨⟨fun z hz => List.mem_append_left _ (h.sub z hz), fun z hz => ?_, h.anti⟩, h.nd, fun z hz => ?_⟩
  · rcases snoc_mem.mp hz with hz | rfl
    · exact h.cov z hz
    · exact c
  · rcases snoc_mem.mp hz with hz | rfl
    · exact h.inS z hz
    · exact hx
theorem Fnd.no {n : Nat} {S P L : List Sn} {x : Sn} (hS : Lens n S) (h : Fnd n S P L) (hx : x ∈ S) (c : ∀ y ∈ L, covS x y = false) (sm : ∀ y ∈ L, smS y ≤ smS x) : Fnd n S (P ++ [x]) (L ++ [x]) := by
  have lenL : ∀ y ∈ L, y.2.length = n := fun y hy => hS y (h.inS y (h.sub y hy))
  refine ⟨⟨fun z hz => ?_, fun z hz => ?_, fun a ha b hb e => ?_⟩, ?_, fun z hz => ?_⟩
  · rcases snoc_mem.mp hz with hz | rfl
    · exact List.mem_append_left _ (h.sub z hz)
    · exact snoc_mem.mpr (.inr rfl)
  · rcases snoc_mem.mp hz with hz | rfl
    · obtain ⟨y, hy, e⟩ := h.cov z hz
      exact ⟨y, List.mem_append_left _ hy, e⟩
    · exact ⟨z, snoc_mem.mpr (.inr rfl), covS_refl z⟩
  · rcases snoc_mem.mp ha with ha2 | ea
    · rcases snoc_mem.mp hb with hb2 | eb
      · exact h.anti a ha2 b hb2 e
      · rw [eb] at e ⊢
        exact (cov_sum ((lenL a ha2).trans (hS x hx).symm) e).2 (sm a ha2)
    · rw [ea] at e ⊢
      rcases snoc_mem.mp hb with hb2 | eb
      · rw [c b hb2] at e; cases e
      · exact eb.symm
  · rw [List.nodup_append]
    refine ⟨h.nd, by simp, fun a ha b hb e => ?_⟩
    rw [List.mem_singleton.mp hb] at e
    have := c a ha
    rw [e, covS_refl] at this
    cases this
  · rcases snoc_mem.mp hz with hz | rfl
    · exact h.inS z hz
    · exact hx
theorem Fnd.end' {n : Nat} {S P L : List Sn} (h : Fnd n S P L) (all : ∀ x ∈ S, x ∈ P) : Mini S L := ⟨fun x hx => h.inS x (h.sub x hx), fun x hx => h.cov x (all x hx), h.anti⟩
/-- one of the last found is above none before it -/
theorem Fnd.apart {n : Nat} {S P A B C : List Sn} {x : Sn} (h : Fnd n S P (A ++ (B ++ x :: C))) : ∀ y, y ∈ A ∨ y ∈ B → covS x y = false := fun y hy => by
  cases e : covS x y with
  | false => rfl
  | true =>
    exfalso
    have hy2 : y ∈ A ++ B := List.mem_append.mpr hy
    have hnd := h.nd
    rw [← List.append_assoc] at hnd
    have hx2 : x ∈ A ++ (B ++ x :: C) := List.mem_append_right _ (List.mem_append_right _ List.mem_cons_self)
    have hy3 : y ∈ A ++ (B ++ x :: C) := by rw [← List.append_assoc]; exact List.mem_append_left _ hy2
    have := h.anti x hx2 y hy3 e
    rw [List.nodup_append] at hnd
    exact hnd.2.2 y hy2 x List.mem_cons_self this.symm
/-! ### the keys -/
def nkP (x : Int × Prs) : NestedKey := .tup [.num x.1, .tup (x.2.map fun y => .tup [.num y.1, .num y.2])]
theorem nk_datas : ∀ ps : Prs, NestedKey.datas (ps.map fun y => .tup [.num y.1, .num y.2]) = ps.map prD
  | [] => rfl
  | y :: ps => by
    show NestedKey.data (.tup [.num y.1, .num y.2]) :: NestedKey.datas (ps.map fun y => .tup [.num y.1, .num y.2]) = prD y :: ps.map prD
    rw [nk_datas ps]
    rfl
theorem nk_data (x : Int × Prs) : (nkP x).data = pkx x := by
  show PyData.tuple [.int x.1, .tuple (NestedKey.datas (x.2.map fun y => .tup [.num y.1, .num y.2]))] = pkD x.1 x.2
  rw [nk_datas]
  rfl
theorem nk_dep : ∀ ps : Prs, NestedKey.depthAll (ps.map fun y => .tup [.num y.1, .num y.2]) ≤ 1
  | [] => Nat.zero_le _
  | y :: ps => by
    have := nk_dep ps
    show max (NestedKey.depth (.tup [.num y.1, .num y.2])) (NestedKey.depthAll (ps.map fun y => .tup [.num y.1, .num y.2])) ≤ 1
    exact Nat.max_le.mpr ⟨Nat.le_refl _, this⟩
theorem nk_depth (x : Int × Prs) : (nkP x).depth ≤ 8 := by
  have := nk_dep x.2
  show max 0 (max (NestedKey.depthAll (x.2.map fun y => .tup [.num y.1, .num y.2]) + 1) 0) + 1 ≤ 8
  omega
theorem nk_inj {x y : Int × Prs} (e : nkP x = nkP y) : x = y := by
  have h := congrArg NestedKey.data e
  rw [nk_data, nk_data] at h
  injection h with h
  injection h with h1 h
  injection h1 with h1
  injection h with h2 _
  injection h2 with h2
  refine Prod.ext h1 ?_
  have inj : ∀ a b : Prs, a.map prD = b.map prD → a = b := by
    intro a
    induction a with
    | nil => intro b hb; cases b with | nil => rfl | cons c b => cases hb
    | cons c a ih =>
      intro b hb
      cases b with
      | nil => cases hb
      | cons d b =>
        injection hb with hb1 hb2
        injection hb1 with hb1
        injection hb1 with a1 hb1
        injection a1 with a1
        injection hb1 with a2 _
        injection a2 with a2
        rw [ih b hb2, show c = d from Prod.ext a1 a2]
  exact inj _ _ h2
/-! ### gathering what leads there -/
theorem sub_trans : ∀ {a b c : Prs}, SubP a b → SubP b c → SubP a c
  | [], b, c, h1, h2 => by
    obtain rfl : b = [] := h1
    exact h2
  | x :: a, b, c, h1, h2 => by
    rcases h1 with rfl | ⟨n, b', rfl, hn, h1⟩ | h1
    · obtain rfl : c = [] := h2
      exact .inl rfl
    · rcases h2 with rfl | ⟨k, c', rfl, hk, h2⟩ | h2
      · exact .inl rfl
      · exact .inr (.inl ⟨k, c', rfl, Int.le_trans hk hn, sub_trans h1 h2⟩)
      · exact .inr (.inr (sub_trans h1 h2))
    · exact .inr (.inr (sub_trans h1 h2))
theorem und_mono {F : Tri} (w : WfT F) {s : Int} {c d : Prs} (h : SubP d c) (u : Und F (s, c)) : Und F (s, d) := by
  obtain ⟨ks, h1, h2⟩ := (und_iff w _).mp u
  exact (und_iff w _).mpr ⟨ks, h1, sub_trans h h2⟩
theorem sub_pk_ge {c d : List Int} (hl : d.length = c.length) (c0 : ∀ x ∈ c, 0 ≤ x) (h : ∀ q, c.getD q 0 ≤ d.getD q 0) : SubP (pkL 0 d) (pkL 0 c) := by
  have d0 : ∀ x ∈ d, 0 ≤ x := get_nn fun q => Int.le_trans (nn_get c0 q) (h q)
  exact (subP_pk 0 d c hl d0 c0).mpr ((geAll_get hl).mpr h)
theorem putF_len (f : Str) (v : V) : ∀ fs : List (Str × V), (putF f v fs).length = if (fs.lookup f).isSome then fs.length else fs.length + 1
  | [] => rfl
  | (g, x) :: r => by
    have ih := putF_len f v r
    show (if g = f then (g, v) :: r else (g, x) :: putF f v r).length = _
    by_cases e : g = f
    · subst e
      rw [if_pos rfl, List.lookup_cons_self]
      rfl
    · have e2 : (f == g) = false := beq_eq_false_iff_ne.mpr fun z => e z.symm
      rw [if_neg e, List.length_cons, ih, List.lookup_cons, e2]
      show _ = if (r.lookup f).isSome then (r.length + 1) else (r.length + 1) + 1
      split <;> rfl
/-- a packed situation, the tuple of its pairs known -/
def PkO (K : PySem.W.Frag) (H : Hp) (v : V) (x : Int × Prs) : Prop := ∃ (a t : Addr) (ps : List Addr), v = .ref a ∧ SqT K H a [.int x.1, .ref t] ∧ PlT H t (ps.map V.ref) ∧ Paired (fun p kv => SqT K H p [kV kv.1, kv.2]) ps (x.2.map nnE)
theorem prs_dpa {K : PySem.W.Frag} {H : Hp} : ∀ {qs : Prs} {ps : List Addr}, Paired (fun p kv => SqT K H p [kV kv.1, kv.2]) ps (qs.map nnE) → DpAll K H (ps.map V.ref) (qs.map prD)
  | [], ps, h => by cases h; exact .nil
  | x :: qs, ps, h => by
    cases h with
    | cons h t => exact .cons (.tup h (.cons (.int _) (.cons (.int _) .nil))) (prs_dpa t)
theorem PkO.dp {K : PySem.W.Frag} {H : Hp} {v : V} {x : Int × Prs} (h : PkO K H v x) : Dp K H v (pkx x) := by
  obtain ⟨a, t, ps, rfl, h1, h2, h3⟩ := h
  exact .tup h1 (.cons (.int _) (.cons (.tup h2.sq (prs_dpa h3)) .nil))
theorem PlT.monoQ {H H' : Hp} {a : Addr} {ys : List V} (s : SameQ H H') (h : PlT H a ys) : PlT H' a ys := let ⟨o, h, e⟩ := h; ⟨o, s _ _ h (fun z => z), e⟩
theorem PkO.monoQ {K : PySem.W.Frag} {H H' : Hp} {v : V} {x : Int × Prs} (s : SameQ H H') (h : PkO K H v x) : PkO K H' v x := by
  obtain ⟨a, t, ps, rfl, h1, h2, h3⟩ := h
  exact ⟨a, t, ps, rfl, s.sqT h1, h2.monoQ s, Paired.mapP h3 fun _ _ h => s.sqT h⟩
theorem Same.q {H H' : Hp} (s : Same H H') : SameQ H H' := fun a o h _ => s a o h
theorem SameQ.trans {H H1 H2 : Hp} (a : SameQ H H1) (b : SameQ H1 H2) : SameQ H H2 := fun x o h n => b x o (a x o h n) n
theorem PkO.mono {K : PySem.W.Frag} {H H' : Hp} {v : V} {x : Int × Prs} (s : Same H H') (h : PkO K H v x) : PkO K H' v x := h.monoQ (fun a o e _ => s a o e)
/-- anything but lists may change -/
def SameT (H H' : Hp) : Prop := ∀ a o, H a = some o → (∀ xs, o ≠ .lst xs) → ¬ MuO o → H' a = some o
theorem SameT.sqT {K : PySem.W.Frag} {H H' : Hp} {a : Addr} {xs : List V} (e : SameT H H') (h : SqT K H a xs) : SqT K H' a xs := by
  rcases h with (h | ⟨o, h⟩) | h
  · exact .inl (.inl (e _ _ h (fun _ z => by cases z) (fun z => z)))
  · exact .inl (.inr ⟨o, e _ _ h (fun _ z => by cases z) (fun z => z)⟩)
  · exact .inr h
theorem PkO.monoT {K : PySem.W.Frag} {H H' : Hp} {v : V} {x : Int × Prs} (s : SameT H H') (h : PkO K H v x) : PkO K H' v x := by
  obtain ⟨a, t, ps, rfl, h1, ⟨o, h2, h4⟩, h3⟩ := h
  exact ⟨a, t, ps, rfl, s.sqT h1, ⟨o, s _ _ h2 (fun _ z => by cases z) (fun z => z), h4⟩, Paired.mapP h3 fun _ _ h => s.sqT h⟩
theorem SameQ.t {H H' : Hp} (s : SameQ H H') : SameT H H' := fun a o h _ n => s a o h n
theorem put_lst {H : Hp} {c : Addr} {xs : List V} {o : HO} (e : H c = some (.lst xs)) : SameT H (upd H c o) := fun a u h n _ => by
  rw [upd_ne fun z => ?_]
  · exact h
  · rw [z, e] at h
    cases h
    exact n _ rfl
theorem SameT.trans {H H1 H2 : Hp} (a : SameT H H1) (b : SameT H1 H2) : SameT H H2 := fun x o h n m => b x o (a x o h n m) n m
theorem FrO.refl {p : Addr} {H : Hp} : FrO p H H := fun _ _ _ h => h
theorem FrO.trans {p : Addr} {H H1 H2 : Hp} (a : FrO p H H1) (b : FrO p H1 H2) : FrO p H H2 := fun x o n h => b x o n (a x o n h)
theorem FrO.of {p : Addr} {H H' : Hp} (s : Same H H') : FrO p H H' := fun x o _ h => s x o h
theorem FrO.q {p : Addr} {H H' : Hp} {u : HO} (f : FrO p H H') (e : H p = some u) (m : MuO u) : SameQ H H' := fun a o h hne => f a o (fun z => hne (by rw [z, e] at h; cases h; exact m)) h
structure GFld (fs : List (Str × V)) (fo : Addr) (mo : V) (fl ba : Addr) : Prop where
  floor : fs.lookup ("floor" : Str) = some (.ref fo)
  most : fs.lookup ("most" : Str) = some mo
  found : fs.lookup ("found" : Str) = some (.ref fl)
  batch : fs.lookup ("batch" : Str) = some (.ref ba)
  len : fs.length ≤ 4
  no : ∀ m : Str, m ≠ "floor" → m ≠ "most" → m ≠ "found" → m ≠ "batch" → fs.lookup m = none
theorem GFld.start (fo : Addr) (mo : V) (fl ba : Addr) : GFld (putF "batch" (.ref ba) (putF "found" (.ref fl) (putF "most" mo (putF "floor" (.ref fo) [])))) fo mo fl ba := by
  refine ⟨?_, ?_, ?_, ?_, ?_, fun m h1 h2 h3 h4 => ?_⟩
  · rw [lookup_putF, if_neg (by decide +kernel), lookup_putF, if_neg (by decide +kernel), lookup_putF, if_neg (by decide +kernel), lookup_putF, if_pos rfl]
  · rw [lookup_putF, if_neg (by decide +kernel), lookup_putF, if_neg (by decide +kernel), lookup_putF, if_pos rfl]
  · rw [lookup_putF, if_neg (by decide +kernel), lookup_putF, if_pos rfl]
  · rw [lookup_putF, if_pos rfl]
  · have step : ∀ (f : Str) (v : V) (fs : List (Str × V)) (n : Nat), fs.length ≤ n → (putF f v fs).length ≤ n + 1 := fun f v fs n h => by
      rw [putF_len]
      split <;> omega
    exact step _ _ _ _ (step _ _ _ _ (step _ _ _ _ (step _ _ _ _ (Nat.le_refl 0))))
  · rw [lookup_putF, if_neg (by exact h4), lookup_putF, if_neg (by exact h3), lookup_putF, if_neg (by exact h2), lookup_putF, if_neg (by exact h1)]
    rfl
theorem GFld.put {fs : List (Str × V)} {fo fl ba : Addr} {mo : V} (h : GFld fs fo mo fl ba) (nb : Addr) : GFld (putF "batch" (.ref nb) fs) fo mo fl nb := by
  refine ⟨?_, ?_, ?_, ?_, ?_, fun m h1 h2 h3 h4 => ?_⟩
  · rw [lookup_putF, if_neg (by decide +kernel)]; exact h.floor
  · rw [lookup_putF, if_neg (by decide +kernel)]; exact h.most
  · rw [lookup_putF, if_neg (by decide +kernel)]; exact h.found
  · rw [lookup_putF, if_pos rfl]
  · rw [putF_len, h.batch]
    exact h.len
  · rw [lookup_putF, if_neg (by exact h4)]; exact h.no m h1 h2 h3 h4
structure TxtG (K : PySem.W.Frag) (mg : Str → Option Value) (C : Addr) : Prop where
  cl : Cls K C
  nF : NoAttr K C "floor"
  nM : NoAttr K C "most"
  nO : NoAttr K C "found"
  nB : NoAttr K C "batch"
  mgC : mg "Gatherer" = some (.ref C)
abbrev Pkd := (Int × Prs) × Addr
abbrev kyN (bs : List Pkd) : List (NestedKey × Addr) := bs.map fun z => (nkP z.1, z.2)
def moV : Option Nat → V
  | none => .non
  | some m => .int (m : Int)
def fullB : Option Nat → Nat → Bool
  | none, _ => false
  | some m, n => decide (m < n)
structure GatAt (P : Program) (w : World) (K : PySem.W.Frag) (CG CF : Addr) (H : Hp) (g fo fl ba : Addr) (mo : Option Nat) (F : Tri) (n : Nat) (fs bs : List Pkd) : Prop where
  ob : ∃ dx es, H g = some (.ins CG dx es) ∧ GFld es fo (moV mo) fl ba
  flo : FloorAt CF H fo F n
  found : H fl = some (.lst (fs.map fun z => V.ref z.2))
  batch : H ba = some (NDo P w ba (kyN bs))
  fk : ∀ z ∈ fs, PkO K H (.ref z.2) z.1
  bk : ∀ z ∈ bs, PkO K H (.ref z.2) z.1
  nd : (bs.map (·.1)).Nodup
theorem GatAt.mono {P : Program} {w : World} {K : PySem.W.Frag} {CG CF : Addr} {H H' : Hp} {g fo fl ba : Addr} {mo : Option Nat} {F : Tri} {n : Nat} {fs bs : List Pkd} (h : GatAt P w K CG CF H g fo fl ba mo F n fs bs) (s : Same H H') : GatAt P w K CG CF H' g fo fl ba mo F n fs bs :=
  ⟨let ⟨dx, es, h1, h2⟩ := h.ob; ⟨dx, es, s _ _ h1, h2⟩, h.flo.mono s, s _ _ h.found, s _ _ h.batch, fun z hz => (h.fk z hz).mono s, fun z hz => (h.bk z hz).mono s, h.nd⟩
theorem GatAt.nks {P : Program} {w : World} {K : PySem.W.Frag} {CG CF : Addr} {H : Hp} {g fo fl ba : Addr} {mo : Option Nat} {F : Tri} {n : Nat} {fs bs : List Pkd} (h : GatAt P w K CG CF H g fo fl ba mo F n fs bs) : NKs K H (kyN bs) := fun x hx => by
  obtain ⟨z, hz, rfl⟩ := List.mem_map.mp hx
  exact ⟨by show Dp K H (.ref z.2) (nkP z.1).data; rw [nk_data]; exact (h.bk z hz).dp, nk_depth _⟩
section
variable {P : Program} {w : World} {K : PySem.W.Frag} {mg : Str → Option Value} {base : Heap}
abbrev s_Gatherer_init : Stmt := inClass (topS 28) 0
theorem sc_Gatherer_init : FnScope ["self", "floor", "most"] ["self", "floor", "most"] (defScope s_Gatherer_init) := ⟨rfl, rfl, rfl, by decide +kernel, rfl, by decide +kernel, by decide +kernel⟩
-- Gatherer.__init__ slots: self=0 floor=1 most=2 globals: 
def spGInit (P : Program) (w : World) (C : Addr) : Sp := fun vs H Q _ => ∃ (p fo dx : Addr) (mo : V), vs = [.ref p, .ref fo, mo] ∧ H p = some (.ins C dx []) ∧
  ∀ H' es fl ba, FrO p H H' → H' p = some (.ins C dx es) → GFld es fo mo fl ba → H fl = none → H ba = none → H' fl = some (.lst []) → H' ba = some (NDo P w ba []) → Q .non H'
theorem fd_Gatherer_init {f C : Addr} {fd : FuncData} (F : Fun K "__init__" "Gatherer.__init__" s_Gatherer_init f fd) (T : TxtG K mg C) : FnOk P w K mg base CX0 1 f fd ["self", "floor", "most"] (spGInit P w C) := by
  refine F.ok sc_Gatherer_init (fun vs H Q E h => ?_) (fun cdv A outer s H vs Q E hr h => ?_)
  · obtain ⟨p, fo, dx, mo, rfl, _⟩ := h
    rfl
  obtain ⟨p, fo, dx, mo, rfl, hp, q⟩ := h
  refine ⟨_, (pss_cons (ps_fld (pv 0) (pv 1) rfl)
 (pss_cons (ps_fld (pv 0) (pv 2) rfl)
 (pss_cons (ps_fld (pv 0) (pe_lst pa_nil) rfl)
 (pss_one (ps_fld (pv 0) pe_dnewN rfl))))), ?_⟩
  refine ⟨_, rfl, _, rfl, p, C, dx, _, rfl, hp, T.cl, T.nF, (by show (0 : Nat) < 1000; omega), ?_⟩
  dsimp only [gName]
  have e1 : (upd H p (.ins C dx (putF "floor" (.ref fo) []))) p = some (.ins C dx (putF "floor" (.ref fo) [])) := upd_same
  have f1 : FrO p H (upd H p (.ins C dx (putF "floor" (.ref fo) []))) := fun a o n h => by rw [upd_ne n]; exact h
  generalize upd H p (.ins C dx (putF "floor" (.ref fo) [])) = H1 at e1 f1 ⊢
  refine ⟨_, rfl, _, rfl, p, C, dx, _, rfl, e1, T.cl, T.nM, ?_, ?_⟩
  · rw [putF_len]
    split <;> simp
  have e2 : (upd H1 p (.ins C dx (putF "most" mo (putF "floor" (.ref fo) [])))) p = some (.ins C dx (putF "most" mo (putF "floor" (.ref fo) []))) := upd_same
  have f2 : FrO p H (upd H1 p (.ins C dx (putF "most" mo (putF "floor" (.ref fo) [])))) := f1.trans fun a o n h => by rw [upd_ne n]; exact h
  generalize upd H1 p (.ins C dx (putF "most" mo (putF "floor" (.ref fo) []))) = H2 at e2 f2 ⊢
  have nn : ∀ {G : Hp} {b : Addr} {u : HO}, FrO p H G → G p = some u → G b = none → H b = none := fun {G b u} f e n => by
    cases z : H b with
    | none => rfl
    | some o =>
      by_cases y : b = p
      · rw [y, e] at n; cases n
      · rw [f b o y z] at n; cases n
  refine ⟨szc 0, fun fl nfl => ?_⟩
  have pf : p ≠ fl := fun z => by rw [z, nfl] at e2; cases e2
  refine ⟨_, rfl, p, C, dx, _, rfl, by rw [upd_ne pf]; exact e2, T.cl, T.nO, ?_, ?_⟩
  · rw [putF_len, putF_len]
    split <;> split <;> simp
  have nfl0 := nn f2 e2 nfl
  have e3 : (upd (upd H2 fl (.lst [])) p (.ins C dx (putF "found" (.ref fl) (putF "most" mo (putF "floor" (.ref fo) []))))) p = some (.ins C dx (putF "found" (.ref fl) (putF "most" mo (putF "floor" (.ref fo) [])))) := upd_same
  have l3 : (upd (upd H2 fl (.lst [])) p (.ins C dx (putF "found" (.ref fl) (putF "most" mo (putF "floor" (.ref fo) []))))) fl = some (.lst []) := by rw [upd_ne pf.symm]; exact upd_same
  have f3 : FrO p H (upd (upd H2 fl (.lst [])) p (.ins C dx (putF "found" (.ref fl) (putF "most" mo (putF "floor" (.ref fo) []))))) := f2.trans fun a o n h => by rw [upd_ne n]; exact (same_new nfl) _ _ h
  generalize upd (upd H2 fl (.lst [])) p (.ins C dx (putF "found" (.ref fl) (putF "most" mo (putF "floor" (.ref fo) [])))) = H3 at e3 l3 f3 ⊢
  refine fun ba nba => ?_
  have pb : p ≠ ba := fun z => by rw [z, nba] at e3; cases e3
  have fb : fl ≠ ba := fun z => by rw [z, nba] at l3; cases l3
  refine ⟨_, rfl, p, C, dx, _, rfl, by rw [upd_ne pb]; exact e3, T.cl, T.nB, ?_, ?_⟩
  · rw [putF_len, putF_len, putF_len]
    split <;> split <;> split <;> simp
  refine q _ _ fl ba (f3.trans fun a o n h => by rw [upd_ne n]; exact (same_new nba) _ _ h) upd_same (GFld.start fo mo fl ba) nfl0 (nn f3 e3 nba) ?_ ?_
  · rw [upd_ne pf.symm]
    exact (same_new nba) _ _ l3
  · rw [upd_ne pb.symm]
    exact upd_same
theorem mkr_Gatherer {f C : Addr} {fd : FuncData} (F : Fun K "__init__" "Gatherer.__init__" s_Gatherer_init f fd) (T : TxtG K mg C) (mk : Mk K C f) : Mkr P w K mg base C ["self", "floor", "most"] 1 (spGInit P w C) :=
  ⟨f, fd, fd_Gatherer_init F T, mk, F.binds (ps := ["self", "floor", "most"]) fun _ _ _ _ _ _ us hl => match us, hl with | [_, _, _], _ => rfl⟩
abbrev s_Gatherer_is_full : Stmt := inClass (topS 28) 1
theorem sc_Gatherer_is_full : FnScope ["self"] ["self"] (defScope s_Gatherer_is_full) := ⟨rfl, rfl, rfl, by decide +kernel, rfl, by decide +kernel, by decide +kernel⟩
-- Gatherer.is_full slots: self=0 globals: len
def spFull (P : Program) (w : World) (K : PySem.W.Frag) (CG CF : Addr) : Sp := fun vs H Q _ => ∃ (g fo fl ba : Addr) (mo : Option Nat) (F : Tri) (n : Nat) (fs bs : List Pkd), vs = [.ref g] ∧ GatAt P w K CG CF H g fo fl ba mo F n fs bs ∧ Q (.bl (fullB mo (fs.length + bs.length))) H
theorem md_is_full {f CG CF : Addr} {fd : FuncData} (F : Fun K "is_full" "Gatherer.is_full" s_Gatherer_is_full f fd) (T : TxtG K mg CG) (mm : Meth K CG "is_full" f) (B : Bt mg) : Md P w K mg base CG "is_full" ["self"] 1 (spFull P w K CG CF) := by
  refine ⟨f, fd, F.ok sc_Gatherer_is_full (fun vs H Q E h => ?_) (fun cdv A outer s H vs Q E hr h => ?_), mm, F.binds (ps := ["self"]) fun _ _ _ _ _ _ us hl => match us, hl with | [_], _ => rfl⟩
  · obtain ⟨g, fo, fl, ba, mo, F, n, fs, bs, rfl, _⟩ := h
    rfl
  obtain ⟨g, fo, fl, ba, mo, F, n, fs, bs, rfl, G, q⟩ := h
  obtain ⟨dx, es, hg, fld⟩ := G.ob
  refine ⟨_, (pss_one (ps_ret (pe_and (pe_cmpR op_notN (pe_fld (pv 0) rfl) pe_non (nomark _)) (pe_one (pe_cmpR op_gt (pe_op op_add (pe_callB (cLen K) (by rfl) B.len PySem.boot_len (pa_cons (pe_fld (pv 0) rfl) pa_nil)) ((pe_callB (cLenN K) (by rfl) B.len PySem.boot_len (pa_cons (pe_fld (pv 0) rfl) pa_nil)))) (pe_fld (pv 0) rfl) (nomark _)))))), ?_⟩
  cases mo with
  | none =>
    refine ⟨_, rfl, g, CG, dx, es, _, rfl, hg, T.cl, T.nM, fld.most, ?_⟩
    exact ⟨rfl, _, rfl, iteF q⟩
  | some m =>
    refine ⟨_, rfl, g, CG, dx, es, _, rfl, hg, T.cl, T.nM, fld.most, ?_⟩
    refine ⟨rfl, _, rfl, iteT ?_⟩
    refine ⟨_, rfl, g, CG, dx, es, _, rfl, hg, T.cl, T.nO, fld.found, fl, _, rfl, .inl (sq G.found), ?_⟩
    refine ⟨_, rfl, g, CG, dx, es, _, rfl, hg, T.cl, T.nB, fld.batch, ba, _, rfl, G.batch, G.nks, ?_⟩
    refine ⟨_, _, rfl, rfl, _, rfl, g, CG, dx, es, _, rfl, hg, T.cl, T.nM, fld.most, _, _, rfl, rfl, ?_⟩
    show Q (V.bl (decide ((m : Int) < ((((fs.map fun z => V.ref z.2).length : Nat) : Int) + (((kyN bs).length : Nat) : Int))))) H
    have e : decide ((m : Int) < ((((fs.map fun z => V.ref z.2).length : Nat) : Int) + (((kyN bs).length : Nat) : Int))) = fullB (some m) (fs.length + bs.length) := by
      rw [List.length_map, List.length_map]
      exact decide_eq_decide.mpr ⟨fun h => by omega, fun h => by omega⟩
    rw [e]
    exact q
end
section
variable {P : Program} {w : World} {K : PySem.W.Frag} {mg : Str → Option Value} {base : Heap}
/-- what else stands while the batch becomes a part of the floor -/
def FrS (g fl : Addr) (F : Tri) (H H' : Hp) : Prop := ∀ b o, H b = some o → b ≠ g → b ≠ fl → (∀ q, F q ≠ some b) → H' b = some o
theorem ab_one {x y : Int × Prs} : Ab [x] y ↔ y.1 = x.1 ∧ SubP y.2 x.2 := ⟨fun ⟨z, hz, h⟩ => by rw [List.mem_singleton.mp hz] at h; exact h, fun h => ⟨x, List.mem_singleton.mpr rfl, h⟩⟩
theorem ab_app' {A B : List (Int × Prs)} {y : Int × Prs} : Ab (A ++ B) y ↔ Ab A y ∨ Ab B y := by
  constructor
  · rintro ⟨z, hz, h⟩
    rcases List.mem_append.mp hz with hz | hz
    · exact .inl ⟨z, hz, h⟩
    · exact .inr ⟨z, hz, h⟩
  · rintro (⟨z, hz, h⟩ | ⟨z, hz, h⟩)
    · exact ⟨z, List.mem_append_left _ hz, h⟩
    · exact ⟨z, List.mem_append_right _ hz, h⟩
abbrev s_Gatherer_settle : Stmt := inClass (topS 28) 2
theorem sc_Gatherer_settle : FnScope ["self", "situation"] ["self"] (defScope s_Gatherer_settle) := ⟨rfl, rfl, rfl, by decide +kernel, rfl, by decide +kernel, by decide +kernel⟩
-- Gatherer.settle slots: self=0 situation=1 globals: 
def spSettle (P : Program) (w : World) (K : PySem.W.Frag) (CG CF : Addr) : Sp := fun vs H Q _ => ∃ (g fo fl ba : Addr) (mo : Option Nat) (F : Tri) (n : Nat) (fs bs : List Pkd), vs = [.ref g] ∧ GatAt P w K CG CF H g fo fl ba mo F n fs bs ∧
  (∀ (i : Nat) (x : Int × Prs), (bs.map (·.1))[i]? = some x → ¬ Und F x ∧ ¬ Ab ((bs.map (·.1)).take i) x) ∧ n + szF (bs.map (·.1)) ≤ 9000000 ∧ fs.length + bs.length ≤ 9000000 ∧
  ∀ H' F' n' ba', GatAt P w K CG CF H' g fo fl ba' mo F' n' (fs ++ bs) [] → n' ≤ n + szF (bs.map (·.1)) → FrS g fl F H H' → NewF F F' H → (∀ y, Und F' y ↔ Und F y ∨ Ab (bs.map (·.1)) y) → ((∃ q, F q = some ba') ∨ H ba' = none) → Q .non H'
theorem md_settle {f CG CF : Addr} {fd : FuncData} (F : Fun K "settle" "Gatherer.settle" s_Gatherer_settle f fd) (T : TxtG K mg CG) (TF : TxtF K mg CF) (mm : Meth K CG "settle" f) (M_keep : Md P w K mg base CF "keep" ["self", "situation"] 1 (spKeep K CF)) : Md P w K mg base CG "settle" ["self"] 2 (spSettle P w K CG CF) := by
  refine ⟨f, fd, F.ok sc_Gatherer_settle (fun vs H Q E h => ?_) (fun cdv A outer s H vs Q E hr h => ?_), mm, F.binds (ps := ["self"]) fun _ _ _ _ _ _ us hl => match us, hl with | [_], _ => rfl⟩
  · obtain ⟨g, fo, fl, ba, mo, F, n, fs, bs, rfl, _⟩ := h
    rfl
  obtain ⟨g, fo, fl, ba, mo, F, n, fs, bs, rfl, G, fre, hn, hl, q⟩ := h
  obtain ⟨dx, es, hg, fld⟩ := G.ob
  refine ⟨_, (pss_cons (ps_lock (ps_for PassesOwn.never rfl (pi_keysN (pe_fld (pv 0) rfl)) (pg_name (i := 1) sc_Gatherer_settle.nd rfl (Or.inl rfl))
 (pss_cons (ps_expr (peBm K PySem.F.plainAttrs_list PySem.F.slot_list_append PySem.F.type_list_append mt_append (pe_fld (pv 0) rfl) (pa_cons (pv 1) pa_nil)))
 (pss_one (ps_expr (pe_md M_keep fun _ _ G hm b => pe_meth (pe_fld (pv 0) rfl) TF.cl hm G (hr.mono (by omega)) b .nil pass0 (pa_cons (pv 1) pa_nil)))))))
 (pss_one (ps_fld (pv 0) pe_dnewN rfl))), ?_⟩
  refine ⟨ba, NDo P w ba (kyN bs), G.batch, True.intro, fun od => ?_⟩
  have kl : (kyN bs).length = bs.length := List.length_map _
  have gba : g ≠ ba := fun z => by rw [z, G.batch] at hg; cases hg
  have flba : fl ≠ ba := fun z => by have := G.found; rw [z, G.batch] at this; cases this
  have flg : fl ≠ g := fun z => by have := G.found; rw [z, hg] at this; cases this
  have Fno : ∀ {H6 : Hp} {F6 : Tri} {N6 : Nat} {a : Addr} {o : HO}, FloorAt CF H6 fo F6 N6 → H6 a = some o → (∀ kvs, o ≠ .dK kvs) → ∀ q, F6 q ≠ some a := fun {H6 F6 N6 a o} fo6 e no q z => by
    obtain ⟨kvs, e1, _⟩ := fo6.tri q a List.nil_prefix z
    rw [e] at e1
    cases e1
    exact no _ rfl
  have q0 : SameQ H (upd H ba (.frz od (NDo P w ba (kyN bs)))) := put_quiet G.batch trivial
  refine ⟨_, rfl, g, CG, dx, es, _, rfl, by rw [upd_ne gba]; exact hg, T.cl, T.nB, fld.batch, ba, od, kyN bs, rfl, upd_same, for_keysN (fun i σ3 H6 => i ≤ bs.length ∧ ∃ (F6 : Tri) (N6 : Nat) (y1 : Option V), σ3 = [some (.ref g), y1] ∧ FloorAt CF H6 fo F6 N6 ∧ N6 = n + szF ((bs.map (·.1)).take i) ∧ (∀ y, Und F6 y ↔ Und F y ∨ Ab ((bs.map (·.1)).take i) y) ∧
    H6 fl = some (.lst ((fs ++ bs.take i).map fun z => V.ref z.2)) ∧ H6 ba = some (.frz od (NDo P w ba (kyN bs))) ∧ H6 g = some (.ins CG dx es) ∧ (∀ z ∈ fs ++ bs, PkO K H6 (.ref z.2) z.1) ∧ (∀ b o, H b = some o → b ≠ g → b ≠ fl → b ≠ ba → (∀ q, F q ≠ some b) → H6 b = some o) ∧ NewF F F6 H) ?_ ?_ ?_ ?_⟩
  · refine ⟨Nat.zero_le _, F, n, none, rfl, ?_, rfl, fun y => ⟨.inl, fun z => ?_⟩, ?_, upd_same, by rw [upd_ne gba]; exact hg, fun z hz => ?_, fun b o h _ _ h3 _ => by rw [upd_ne h3]; exact h, fun q b h => .inl ⟨q, h⟩⟩
    · refine ⟨?_, G.flo.wf, fun q a hq e => ?_⟩
      · obtain ⟨dxf, d, e1, e2⟩ := G.flo.ob
        exact ⟨dxf, d, by rw [upd_ne fun z => by rw [z, G.batch] at e1; cases e1]; exact e1, e2⟩
      · obtain ⟨kvs, e1, e2⟩ := G.flo.tri q a hq e
        exact ⟨kvs, by rw [upd_ne fun z => by rw [z, G.batch] at e1; cases e1]; exact e1, e2⟩
    · rcases z with z | ⟨_, z, _⟩
      · exact z
      · cases z
    · rw [upd_ne flba, List.take_zero, List.append_nil]
      exact G.found
    · rcases List.mem_append.mp hz with hz | hz
      · exact (G.fk z hz).monoQ q0
      · exact (G.bk z hz).monoQ q0
  · rintro i σ3 H6 _ ⟨_, F6, N6, y1, rfl, fo6, hN6, un6, efl6, eba6, _⟩
    exact eba6
  · rintro i k p σ3 H6 hk ⟨_, F6, N6, y1, rfl, fo6, hN6, un6, efl6, eba6, hg6, pk6, fr6, nw6⟩
    have ilt : i < bs.length := by rw [← kl]; exact (List.getElem?_eq_some_iff.mp hk).1
    have hx : bs[i]? = some bs[i] := List.getElem?_eq_getElem ilt
    generalize bs[i] = x at hx
    have hkx : k = nkP x.1 ∧ p = x.2 := by
      have e1 : (kyN bs)[i]? = some (nkP x.1, x.2) := by rw [List.getElem?_map, hx]; rfl
      rw [hk] at e1
      cases e1
      exact ⟨rfl, rfl⟩
    obtain ⟨rfl, rfl⟩ := hkx
    have hxm : x ∈ bs := List.mem_of_getElem? hx
    have hx1 : (bs.map (·.1))[i]? = some x.1 := by rw [List.getElem?_map, hx]; rfl
    obtain ⟨nu, nab⟩ := fre i x.1 hx1
    have tk1 : (bs.map (·.1)).take (i + 1) = (bs.map (·.1)).take i ++ [x.1] := take_snoc hx1
    have tk2 : bs.take (i + 1) = bs.take i ++ [x] := take_snoc hx
    have szs := szF_take (bs.map (·.1)) (i + 1)
    have sz1 : szF ((bs.map (·.1)).take (i + 1)) = szF ((bs.map (·.1)).take i) + (2 * x.1.2.length + 1) := by
      rw [tk1, szF_app]
      show _ + ((2 * x.1.2.length + 1) + 0) = _
      omega
    dsimp only [gName]
    refine ⟨_, rfl, g, CG, dx, es, _, rfl, hg6, T.cl, T.nO, fld.found, .inl ⟨rfl, _, sq efl6⟩, _, rfl, fl, _, _, rfl, rfl, efl6, ?_, ?_⟩
    · refine szn (m := 9000000) ?_ (Nat.le_refl _)
      rw [List.length_map, List.length_append, List.length_take]
      omega
    have t7 : SameT H6 (upd H6 fl (.lst (((fs ++ bs.take i).map fun z => V.ref z.2) ++ [V.ref x.2]))) := put_lst efl6
    have e7 : ((fs ++ bs.take i).map fun z => V.ref z.2) ++ [V.ref x.2] = (fs ++ bs.take (i + 1)).map fun z => V.ref z.2 := by
      rw [tk2]
      simp
    rw [e7] at t7 ⊢
    have ba7 : (upd H6 fl (.lst ((fs ++ bs.take (i + 1)).map fun z => V.ref z.2))) ba = some (.frz od (NDo P w ba (kyN bs))) := by rw [upd_ne flba.symm]; exact eba6
    have g7 : (upd H6 fl (.lst ((fs ++ bs.take (i + 1)).map fun z => V.ref z.2))) g = some (.ins CG dx es) := by rw [upd_ne flg.symm]; exact hg6
    have fl7 : (upd H6 fl (.lst ((fs ++ bs.take (i + 1)).map fun z => V.ref z.2))) fl = some (.lst ((fs ++ bs.take (i + 1)).map fun z => V.ref z.2)) := upd_same
    have fo7 : FloorAt CF (upd H6 fl (.lst ((fs ++ bs.take (i + 1)).map fun z => V.ref z.2))) fo F6 N6 := by
      refine ⟨?_, fo6.wf, fun q a hq e => ?_⟩
      · obtain ⟨dxf, d, e1, e2⟩ := fo6.ob
        exact ⟨dxf, d, by rw [upd_ne fun z => by rw [z, efl6] at e1; cases e1]; exact e1, e2⟩
      · obtain ⟨kvs, e1, e2⟩ := fo6.tri q a hq e
        exact ⟨kvs, by rw [upd_ne fun z => by rw [z, efl6] at e1; cases e1]; exact e1, e2⟩
    have fr7 : ∀ b o, H b = some o → b ≠ g → b ≠ fl → b ≠ ba → (∀ q, F q ≠ some b) → (upd H6 fl (.lst ((fs ++ bs.take (i + 1)).map fun z => V.ref z.2))) b = some o := fun b o h h1 h2 h3 h4 => by
      rw [upd_ne h2]
      exact fr6 b o h h1 h2 h3 h4
    generalize upd H6 fl (.lst ((fs ++ bs.take (i + 1)).map fun z => V.ref z.2)) = H7 at t7 ba7 g7 fl7 fo7 fr7 ⊢
    have pk7 : ∀ z ∈ fs ++ bs, PkO K H7 (.ref z.2) z.1 := fun z hz => (pk6 z hz).monoT t7
    obtain ⟨dxf, df, hfo, _⟩ := fo7.ob
    refine ⟨_, rfl, g, CG, dx, es, _, rfl, g7, T.cl, T.nF, fld.floor, fo, dxf, _, rfl, hfo, fT_no _ (by decide +kernel), ?_⟩
    dsimp only [gName]
    refine ⟨_, rfl, fo, .ref x.2, F6, N6, x.1, rfl, fo7, (pk7 x (List.mem_append_right _ hxm)).dp, fun z => ?_, by omega, fun H8 F8 fl8 fr8 nw8 un8 => ?_⟩
    · rcases (un6 _).mp z with z | z
      · exact nu z
      · exact nab z
    · have q8 := fr8.quiet fo7.tri
      refine ⟨ilt, F8, _, _, rfl, fl8, by omega, fun y => ?_, q8 _ _ fl7 (fun z => z), fr8 _ _ ba7 (Fno fo7 ba7 fun _ z => by cases z), fr8 _ _ g7 (Fno fo7 g7 fun _ z => by cases z), fun z hz => (pk7 z hz).monoQ q8, fun b o h h1 h2 h3 h4 => fr8 b o (fr7 b o h h1 h2 h3 h4) fun q z => ?_, fun q b h => ?_⟩
      · rw [un8, un6, tk1, ab_snoc, or_assoc]
      · rcases nw6 q b z with ⟨q', z'⟩ | z'
        · exact h4 q' z'
        · rw [h] at z'; cases z'
      · rcases nw8 q b h with ⟨q', z'⟩ | z'
        · exact nw6 q' b z'
        · by_cases c : ∃ q', F q' = some b
          · exact .inl c
          · refine .inr ?_
            cases e : H b with
            | none => rfl
            | some o =>
              exfalso
              by_cases c1 : b = g
              · rw [c1, g7] at z'; cases z'
              · by_cases c2 : b = fl
                · rw [c2, fl7] at z'; cases z'
                · by_cases c3 : b = ba
                  · rw [c3, ba7] at z'; cases z'
                  · rw [fr7 b o e c1 c2 c3 fun q hq => c ⟨q, hq⟩] at z'; cases z'
  · rintro σ3 H6 ⟨_, F6, N6, y1, rfl, fo6, hN6, un6, efl6, eba6, hg6, pk6, fr6, nw6⟩
    rw [kl, ← List.length_map (f := fun z : Pkd => z.1), List.take_length] at hN6 un6
    rw [kl, List.take_length] at efl6
    refine ⟨eba6, ?_⟩
    have q9 : SameQ H6 (upd H6 ba (NDo P w ba (kyN bs))) := put_quiet eba6 trivial
    have g9 : (upd H6 ba (NDo P w ba (kyN bs))) g = some (.ins CG dx es) := by rw [upd_ne gba]; exact hg6
    have fl9 := q9 _ _ efl6 (fun z => z)
    have fo9 : FloorAt CF (upd H6 ba (NDo P w ba (kyN bs))) fo F6 N6 := by
      refine ⟨?_, fo6.wf, fun q a hq e => ?_⟩
      · obtain ⟨dxf, d, e1, e2⟩ := fo6.ob
        exact ⟨dxf, d, by rw [upd_ne fun z => by rw [z, eba6] at e1; cases e1]; exact e1, e2⟩
      · obtain ⟨kvs, e1, e2⟩ := fo6.tri q a hq e
        exact ⟨kvs, by rw [upd_ne fun z => by rw [z, eba6] at e1; cases e1]; exact e1, e2⟩
    have pk9 : ∀ z ∈ fs ++ bs, PkO K (upd H6 ba (NDo P w ba (kyN bs))) (.ref z.2) z.1 := fun z hz => (pk6 z hz).monoQ q9
    have fr9 : ∀ b o, H b = some o → b ≠ g → b ≠ fl → (∀ q, F q ≠ some b) → (upd H6 ba (NDo P w ba (kyN bs))) b = some o := fun b o h h1 h2 h3 => by
      by_cases c : b = ba
      · subst c
        rw [upd_same]
        exact G.batch.symm.trans h
      · rw [upd_ne c]
        exact fr6 b o h h1 h2 c h3
    have ba9 : (upd H6 ba (NDo P w ba (kyN bs))) ba = some (NDo P w ba (kyN bs)) := upd_same
    generalize upd H6 ba (NDo P w ba (kyN bs)) = H9 at g9 fl9 fo9 pk9 fr9 ba9 ⊢
    refine fun nb nnb => ?_
    have gnb : g ≠ nb := fun z => by rw [z, nnb] at g9; cases g9
    have flnb : fl ≠ nb := fun z => by rw [z, nnb] at fl9; cases fl9
    refine ⟨_, rfl, g, CG, dx, es, rfl, by rw [upd_ne gnb]; exact g9, T.cl, T.nB, Nat.lt_of_le_of_lt fld.len (by decide), ?_⟩
    have sn : Same H9 (upd H9 nb (NDo P w nb [])) := same_new nnb
    have g10 := sn _ _ g9
    have q10 : SameQ H9 (upd (upd H9 nb (NDo P w nb [])) g (.ins CG dx (putF "batch" (.ref nb) es))) := fun a o h hne => (put_quiet g10 trivial) a o (sn a o h) hne
    have hnb : (∃ q, F q = some nb) ∨ H nb = none := by
      by_cases c2 : ∃ q', F q' = some nb
      · exact .inl c2
      · refine .inr ?_
        cases e : H nb with
        | none => rfl
        | some o =>
          rw [fr9 nb o e gnb.symm flnb.symm fun q hq => c2 ⟨q, hq⟩] at nnb
          cases nnb
    refine q _ F6 N6 nb ⟨⟨dx, _, upd_same, fld.put nb⟩, ?_, ?_, ?_, fun z hz => (pk9 z hz).monoQ q10, fun z hz => (by cases hz), List.nodup_nil⟩ (Nat.le_of_eq hN6) (fun b o h h1 h2 h3 => ?_) nw6 un6 hnb
    · refine ⟨?_, fo9.wf, fun q a hq e => ?_⟩
      · obtain ⟨dxf, d, e1, e2⟩ := fo9.ob
        refine ⟨dxf, d, ?_, e2⟩
        rw [upd_ne fun z => ?_]
        · exact sn _ _ e1
        · rw [z, g9] at e1
          cases e1
          have := fld.floor
          rw [fT_no d (by decide +kernel)] at this
          cases this
      · obtain ⟨kvs, e1, e2⟩ := fo9.tri q a hq e
        exact ⟨kvs, by rw [upd_ne fun z => by rw [z, g9] at e1; cases e1]; exact sn _ _ e1, e2⟩
    · rw [upd_ne flg]
      exact sn _ _ fl9
    · rw [upd_ne gnb.symm]
      exact upd_same
    · rw [upd_ne h1]
      exact sn _ _ (fr9 b o h h1 h2 h3)
end
def grD (g : Grp) : PyData := .tuple [.int g.1, .list (g.2.map nD)]
def Capd (Ux : Int × Prs → Prop) (mo : Option Nat) (bs : List Pkd) : Prop := (∃ m, mo = some m ∧ m ≤ 1000000) ∨ ((∀ z ∈ bs, Ux z.1) ∧ ∀ L : List (Int × Prs), L.Nodup → (∀ x ∈ L, Ux x) → L.length ≤ 1000000)
theorem Capd.len {Ux : Int × Prs → Prop} {mo : Option Nat} {fs bs : List Pkd} (h : Capd Ux mo bs) (nd : (bs.map (·.1)).Nodup) (nf : fullB mo (fs.length + bs.length) = false) : bs.length ≤ 1000000 := by
  rcases h with ⟨m, rfl, hm⟩ | ⟨h1, h2⟩
  · have := of_decide_eq_false nf
    omega
  · have := h2 (bs.map (·.1)) nd fun x hx => by
      obtain ⟨z, hz, rfl⟩ := List.mem_map.mp hx
      exact h1 z hz
    rw [List.length_map] at this
    exact this
theorem ky_any {bs : List Pkd} {x : Int × Prs} : nkP x ∈ (kyN bs).map (·.1) ↔ x ∈ bs.map (·.1) := by
  rw [List.map_map, List.mem_map, List.mem_map]
  constructor
  · rintro ⟨z, hz, e⟩
    exact ⟨z, hz, nk_inj e⟩
  · rintro ⟨z, hz, e⟩
    exact ⟨z, hz, congrArg nkP e⟩
theorem paired_map {α β γ : Type} {R : β → γ → Prop} {f : α → β} {h : α → γ} : ∀ {l : List α}, (∀ z ∈ l, R (f z) (h z)) → Paired R (l.map f) (l.map h)
  | [], _ => .nil
  | x :: l, hl => .cons (hl x List.mem_cons_self) (paired_map fun z hz => hl z (List.mem_cons_of_mem _ hz))
theorem cut_tail (xs : List V) : cutV xs (some 1) none = xs.drop 1 := by
  unfold cutV
  show List.take (xs.length - HT.sIx xs.length 0 (some ((1 : Nat) : Int))) (List.drop (HT.sIx xs.length 0 (some ((1 : Nat) : Int))) xs) = _
  rw [HT.sIx_nat]
  cases xs with
  | nil => rfl
  | cons x xs =>
    have e : min 1 (x :: xs).length = 1 := by rw [List.length_cons]; omega
    rw [e]
    show List.take ((x :: xs).length - 1) xs = xs
    rw [List.length_cons, Nat.add_sub_cancel]
    exact List.take_length
def restG (m : Int) (ps : List Nat) (r : List Grp) (k : Int) : List Grp := if k < m then (m - k, ps) :: r else r
def lowG (m : Int) (ps : List Nat) : Int := if ps = [] then m else 0
theorem dv_sub {m : Int} {p : Nat} {ps : List Nat} {r : List Grp} {cs d : List Int} (m0 : 0 ≤ m) : Dv ((m, p :: ps) :: r) cs d ↔ ∃ k, lowG m ps ≤ k ∧ k ≤ m ∧ Dv (restG m ps r k) (bump cs p k) d := by
  unfold lowG restG
  constructor
  · intro h
    cases h with
    | all h => exact ⟨m, by split <;> omega, Int.le_refl _, by rw [if_neg (by omega)]; exact h⟩
    | part h0 h1 h => exact ⟨_, by rw [if_neg (fun z => by cases z)]; exact h0, by omega, by rw [if_pos h1]; exact h⟩
  · rintro ⟨k, h1, h2, h⟩
    by_cases c : k < m
    · rw [if_pos c] at h
      cases ps with
      | nil => rw [if_pos rfl] at h1; omega
      | cons q ps =>
        rw [if_neg (fun z => by cases z)] at h1
        exact .part h1 c h
    · have : k = m := by omega
      subst this
      rw [if_neg c] at h
      exact .all h
theorem restG_ok {m k : Int} {p : Nat} {ps : List Nat} {r : List Grp} {n : Nat} (ok : GOk ((m, p :: ps) :: r) n) (hl : lowG m ps ≤ k) : GOk (restG m ps r k) n := by
  unfold restG
  unfold lowG at hl
  by_cases c : k < m
  · rw [if_pos c]
    cases ps with
    | nil => rw [if_pos rfl] at hl; omega
    | cons q ps => exact ok.less c
  · rw [if_neg c]
    exact ok.rest
theorem restG_gm (m : Int) (p : Nat) (ps : List Nat) (r : List Grp) (k : Int) : gm (restG m ps r k) < gm ((m, p :: ps) :: r) := by
  unfold restG
  show _ < (p :: ps).length + gm r
  rw [List.length_cons]
  split
  · show ps.length + gm r < _
    omega
  · omega
def newB (bs : List Pkd) (x : Pkd) : List Pkd := if x.1 ∈ bs.map (·.1) then [] else [x]
theorem ky_add (bs : List Pkd) (x : Pkd) : addN (kyN bs) (nkP x.1) x.2 = kyN (bs ++ newB bs x) := by
  unfold addN newB
  by_cases c : x.1 ∈ bs.map (·.1)
  · rw [if_pos c, if_pos (ky_any.mpr c), List.append_nil]
  · rw [if_neg c, if_neg (fun z => c (ky_any.mp z))]
    unfold kyN
    rw [List.map_append]
    rfl
theorem newB_mem {bs : List Pkd} {x : Pkd} : x.1 ∈ (bs ++ newB bs x).map (·.1) := by
  unfold newB
  by_cases c : x.1 ∈ bs.map (·.1)
  · rw [if_pos c, List.append_nil]
    exact c
  · rw [if_neg c, List.map_append]
    exact List.mem_append_right _ List.mem_cons_self
theorem newB_of {bs : List Pkd} {x z : Pkd} (h : z ∈ newB bs x) : z = x := by
  unfold newB at h
  split at h
  · cases h
  · exact List.mem_singleton.mp h
theorem newB_nd {bs : List Pkd} {x : Pkd} (h : (bs.map (·.1)).Nodup) : ((bs ++ newB bs x).map (·.1)).Nodup := by
  unfold newB
  by_cases c : x.1 ∈ bs.map (·.1)
  · rw [if_pos c, List.append_nil]
    exact h
  · rw [if_neg c, List.map_append, List.nodup_append]
    refine ⟨h, by simp, fun a ha b hb e => ?_⟩
    rw [List.mem_singleton.mp hb] at e
    rw [e] at ha
    exact c ha
theorem FloorAt.put {CF : Addr} {H : Hp} {fo : Addr} {F : Tri} {n : Nat} (h : FloorAt CF H fo F n) {c : Addr} {o u : HO} (e : H c = some u) (h1 : ∀ C dx es, u ≠ .ins C dx es) (h2 : ∀ kvs, u ≠ .dK kvs) : FloorAt CF (upd H c o) fo F n := by
  refine ⟨?_, h.wf, fun q a hq e3 => ?_⟩
  · obtain ⟨dxf, d, e1, e2⟩ := h.ob
    exact ⟨dxf, d, by rw [upd_ne fun z => by rw [z, e] at e1; exact h1 _ _ _ (Option.some.inj e1)]; exact e1, e2⟩
  · obtain ⟨kvs, e1, e2⟩ := h.tri q a hq e3
    exact ⟨kvs, by rw [upd_ne fun z => by rw [z, e] at e1; exact h2 _ (Option.some.inj e1)]; exact e1, e2⟩
theorem GatAt.put {P : Program} {w : World} {K : PySem.W.Frag} {CG CF : Addr} {H : Hp} {g fo fl ba : Addr} {mo : Option Nat} {F : Tri} {n : Nat} {fs bs : List Pkd} (G : GatAt P w K CG CF H g fo fl ba mo F n fs bs) (x : Pkd) (hx : PkO K H (.ref x.2) x.1) :
    GatAt P w K CG CF (upd H ba (NDo P w ba (addN (kyN bs) (nkP x.1) x.2))) g fo fl ba mo F n fs (bs ++ newB bs x) := by
  have qq : SameQ H (upd H ba (NDo P w ba (addN (kyN bs) (nkP x.1) x.2))) := put_quiet G.batch trivial
  obtain ⟨dx, es, hg, fld⟩ := G.ob
  refine ⟨⟨dx, es, by rw [upd_ne fun z => by rw [z, G.batch] at hg; cases hg]; exact hg, fld⟩, G.flo.put G.batch (fun _ _ _ z => by cases z) (fun _ z => by cases z), qq _ _ G.found (fun z => z), by rw [upd_same, ky_add], fun z hz => (G.fk z hz).monoQ qq, fun z hz => ?_, newB_nd G.nd⟩
  rcases List.mem_append.mp hz with hz | hz
  · exact (G.bk z hz).monoQ qq
  · rw [newB_of hz]
    exact hx.monoQ qq
theorem tIf_val {c : TT} {ta tb : TE} {σ : L2.St} {H : Hp} {Q : VK} {k : Bool} {va vb : V} (hc : Ans c σ H k) (ha : k = true → Val ta σ H va) (hb : k = false → Val tb σ H vb) (q : Q (if k = true then va else vb) H) : tIf c ta tb σ H Q := hc _ (by
  cases k with
  | true => exact iteT (ha rfl Q q)
  | false => exact iteF (hb rfl Q q))
theorem bump_take {cs : List Int} {p : Nat} (h : p < cs.length) (z : Int) : cs.take p ++ (cs.getD p 0 + z) :: cs.drop (p + 1) = bump cs p z := set_at h _
theorem full_mono {mo : Option Nat} {a b : Nat} (h : fullB mo b = false) (l : a ≤ b) : fullB mo a = false := by
  cases mo with
  | none => rfl
  | some m =>
    have := of_decide_eq_false h
    exact decide_eq_false (by omega)
/-- what a division finds -/
structure DivR (F : Tri) (full : Nat → Bool) (fl0 : Nat) (s : Int) (Dx : List Int → Prop) (bs nb : List Pkd) : Prop where
  good : ∀ z ∈ nb, ∃ d, Dx d ∧ z.1 = (s, pkL 0 d) ∧ ¬ Und F z.1
  all : full (fl0 + (bs ++ nb).length) = false → ∀ d, Dx d → Und F (s, pkL 0 d) ∨ (s, pkL 0 d) ∈ (bs ++ nb).map (·.1)
  lim : nb ≠ [] → full (fl0 + (bs.length + nb.length) - 1) = false
theorem newB_len (bs : List Pkd) (x : Pkd) : (newB bs x).length ≤ 1 := by
  unfold newB
  split
  · exact Nat.zero_le _
  · exact Nat.le_refl _
section
variable {P : Program} {w : World} {K : PySem.W.Frag} {mg : Str → Option Value} {base : Heap}
theorem Md.none {f C : Addr} {fd : FuncData} {x qual : Str} {st : Stmt} {ps : List Str} {k : Nat} {sp : Sp} (F : Fun K x qual st f fd) (mm : Meth K C x f) (b : Binds K fd ps []) (no : ∀ vs H Q E, ¬ sp vs H Q E) : Md P w K mg base C x ps k sp :=
  ⟨f, fd, ⟨fun vs H Q E h => absurd h (no vs H Q E), fun A outer s H args us vs Q E _ _ _ _ h => absurd h (no vs H Q E)⟩, mm, b⟩
abbrev s_Gatherer_divide : Stmt := inClass (topS 28) 4
theorem sc_Gatherer_divide : FnScope ["self", "state", "need", "groups", "situation", "many", "places", "fewest", "few", "rest"] ["self", "state", "need", "groups"] (defScope s_Gatherer_divide) := ⟨rfl, rfl, rfl, by decide +kernel, rfl, by decide +kernel, by decide +kernel⟩
-- Gatherer.divide slots: self=0 state=1 need=2 groups=3 situation=4 many=5 places=6 fewest=7 few=8 rest=9 globals: tuple sorted len range with_added
def spDiv (P : Program) (w : World) (K : PySem.W.Frag) (CG CF : Addr) (lv k : Nat) : Sp := fun vs H Q _ => ∃ (g na gl fo fl ba : Addr) (mo : Option Nat) (F : Tri) (n : Nat) (fs bs : List Pkd) (s : Int) (cs : List Int) (kvs : List (L2.Key × V)) (xs : List V) (gs : List Grp) (Ux : Int × Prs → Prop),
  vs = [.ref g, .int s, .ref na, .ref gl] ∧ GatAt P w K CG CF H g fo fl ba mo F n fs bs ∧ H na = some (.dK kvs) ∧ NeedC cs kvs ∧ SqL K H gl xs ∧ DpAll K H xs (gs.map grD) ∧ GOk gs cs.length ∧ (∀ g ∈ gs, g.1 ≤ 1000000000) ∧ (∀ c ∈ cs, 0 ≤ c) ∧ gs.length ≤ 1000 ∧ gm gs < k ∧ cs.length < lv ∧ cs.length ≤ 1000 ∧
  Capd Ux mo bs ∧ (∀ d, Dv gs cs d → Ux (s, pkL 0 d)) ∧
  ∀ H' nb b, FrO ba H H' → GatAt P w K CG CF H' g fo fl ba mo F n fs (bs ++ nb) → DivR F (fullB mo) fs.length s (Dv gs cs) bs nb → Capd Ux mo (bs ++ nb) →
    (b = false → fullB mo (fs.length + (bs ++ nb).length) = true ∨ Und F (s, pkL 0 cs)) → Q (.bl b) H'
theorem md_divide {f CG CF : Addr} {fd : FuncData} {lv : Nat} (F : Fun K "divide" "Gatherer.divide" s_Gatherer_divide f fd) (T : TxtG K mg CG) (TF : TxtF K mg CF) (mm : Meth K CG "divide" f) (B : Bt mg) (M_is_full : Md P w K mg base CG "is_full" ["self"] 1 (spFull P w K CG CF)) (M_is_under : Md P w K mg base CF "is_under" ["self", "situation"] (lv + 2) (spUnder K CF lv)) (D_with_added : Fd P w K mg base "with_added" ["need", "place", "change"] 1 (spWith K)) :
    ∀ k : Nat, Md P w K mg base CG "divide" ["self", "state", "need", "groups"] (lv + k + 3) (spDiv P w K CG CF lv k)
  | 0 => Md.none F mm (F.binds (ps := ["self", "state", "need", "groups"]) fun _ _ _ _ _ _ us hl => match us, hl with | [_, _, _, _], _ => rfl) fun vs H Q E h => by
    obtain ⟨_, _, _, _, _, _, _, _, _, _, _, _, _, _, _, _, _, _, _, _, _, _, _, _, _, _, _, h, _⟩ := h
    omega
  | k + 1 => by
    have M_divide := md_divide F T TF mm B M_is_full M_is_under D_with_added k
    refine ⟨f, fd, F.ok sc_Gatherer_divide (fun vs H Q E h => ?_) (fun cdv A outer s H vs Q E hr h => ?_), mm, F.binds (ps := ["self", "state", "need", "groups"]) fun _ _ _ _ _ _ us hl => match us, hl with | [_, _, _, _], _ => rfl⟩
    · obtain ⟨_, _, _, _, _, _, _, _, _, _, _, _, _, _, _, _, _, rfl, _⟩ := h
      rfl
    obtain ⟨g, na, gl, fo, fl, ba, mo, F, n, fs, bs, s, cs, kvs, xs, gs, Ux, rfl, G, hna, nd, hgl, hxs, gok, gbd, c0, gsl, hk, hlv, hl, cap, hux, q⟩ := h
    obtain ⟨dx, es, hg, fld⟩ := G.ob
    have kl := nd.len
    obtain ⟨ks, rfl, pks⟩ := nd
    refine ⟨_, (pss_cons (ps_set (i := 4) sc_Gatherer_divide.nd rfl (Or.inl rfl) (pe_tup (pa_cons (pv 1) (pa_cons ((pe_callTy call_tupF (by rfl) B.tuple (by decide +kernel) (pa_cons (pe_callB (cr_sortedN rfl hr.units) (by rfl) B.sorted (by decide +kernel) (pa_cons (peBm0 K PySem.F.plainAttrs_dict PySem.F.slot_dict_items PySem.F.type_dict_items mt_itemsK (pv 2)) pa_nil)) pa_nil))) pa_nil))))
 (pss_cons (ps_if (PW.pt (pw_or (pt_val (pe_md M_is_full fun _ _ G hm b => pe_meth0 (pv 0) T.cl hm G (hr.mono (by omega)) b .nil pass0)) (pw_or1 (pt_val (pe_md M_is_under fun _ _ G hm b => pe_meth (pe_fld (pv 0) rfl) TF.cl hm G (hr.mono (by omega)) b .nil pass0 (pa_cons (pv 4) pa_nil))))))
 (pss_one (ps_ret pe_bl))
 pss_nil)
 (pss_cons (ps_if (pt_not (ptTru K (pv 3) (by intro _; rfl)))
 (pss_cons (ps_asg pe_bl (pg_sub (pe_fld (pv 0) rfl) (pv 4) (set_ndB K hr.units)))
 (pss_one (ps_ret pe_bl)))
 pss_nil)
 (pss_cons (ps_asg (pe_ix (ixL K) (pv 3) pe_int (fun _ _ => rfl)) (pg_tup rfl (pgs_cons (pg_name (i := 5) sc_Gatherer_divide.nd rfl (Or.inl rfl)) (pgs_cons (pg_name (i := 6) sc_Gatherer_divide.nd rfl (Or.inl rfl)) pgs_nil))))
 (pss_cons (ps_set (i := 7) sc_Gatherer_divide.nd rfl (Or.inl rfl) (pe_ifExp (pt_cmpR op_eq (pe_callB (cLen K) (by rfl) B.len PySem.boot_len (pa_cons (pv 6) pa_nil)) pe_int (nomark _)) (pv 5) pe_int))
 (pss_cons (ps_for PassesOwn.never rfl (pi_range2 rfl B.range (pa_cons (pv 7) (pa_cons (pe_op op_add (pv 5) pe_int) pa_nil))) (pg_name (i := 8) sc_Gatherer_divide.nd rfl (Or.inl rfl))
 (pss_cons (ps_set (i := 9) sc_Gatherer_divide.nd rfl (Or.inl rfl) (pe_slice (slL K) (pv 3) (po_some pe_int) po_none))
 (C8.pss_cut (ps_if (pt_cmpR op_lt (pv 8) (pv 5) (nomark _))
 (pss_one (ps_set (i := 9) sc_Gatherer_divide.nd rfl (Or.inl rfl) (pe_lst (pa_cons (pe_tup (pa_cons (pe_op op_sub (pv 5) (pv 8)) (pa_cons (pe_slice (slL K) (pv 6) (po_some pe_int) po_none) pa_nil))) (StX.pa_star (pv 9) pa_nil)))))
 pss_nil)
 (pss_one (ps_if (pt_not (pt_val (pe_md M_divide fun _ _ G hm b => pe_meth (pv 0) T.cl hm G (hr.mono (by omega)) b .nil pass0 (pa_cons (pv 1) (pa_cons (pe_fn D_with_added (hr.mono (by omega)) rfl (pa_cons (pv 2) (pa_cons (pe_ix (ixL K) (pv 6) pe_int (fun _ _ => rfl)) (pa_cons (pv 8) pa_nil)))) (pa_cons (pv 9) pa_nil))))))
 (pss_one ps_break)
 pss_nil)))))
 (pss_one (ps_ret pe_bl)))))))), ?_⟩
    refine ⟨_, rfl, _, rfl, .inr (.inr (.inl ⟨rfl, .inl ⟨_, hna⟩⟩)), na, _, rfl, rfl, hna, fun iv niv => ?_⟩
    refine ⟨iv, na, ks, rfl, upd_same, (same_new niv) _ _ hna, by rw [List.length_map] at kl; omega, fun H2 l zs s2 nl pm pw el ez => ?_⟩
    have ezs : zs.map (·.2) = pkL 0 cs := asc_perm (pm.trans pks) (by rw [List.pairwise_map]; exact pw.imp prd_lt) (pkL_asc 0 cs)
    refine ⟨l, _, rfl, sq el, fun tu ob ntu hob => ?_⟩
    refine ⟨szc 2, fun si nsi => ?_⟩
    dsimp only [gName]
    have s3 : Same H (upd (upd H2 tu (.frz ob (.tup (zs.map fun z => V.ref z.1)))) si (.tup [.int s, .ref tu])) := ((same_new niv).trans s2).trans ((same_new ntu).trans (same_new nsi))
    have pks3 : PkO K (upd (upd H2 tu (.frz ob (.tup (zs.map fun z => V.ref z.1)))) si (.tup [.int s, .ref tu])) (.ref si) (s, pkL 0 cs) := by
      refine ⟨si, tu, zs.map (·.1), rfl, st upd_same, ⟨ob, ?_, hob⟩, ?_⟩
      · rw [List.map_map]
        exact (same_new nsi) _ _ upd_same
      · rw [← ezs, List.map_map]
        refine paired_map fun z hz => ?_
        exact st (((same_new ntu).trans (same_new nsi)) _ _ (ez z hz))
    generalize upd (upd H2 tu (.frz ob (.tup (zs.map fun z => V.ref z.1)))) si (.tup [.int s, .ref tu]) = H3 at s3 pks3 ⊢
    have G3 := G.mono s3
    have Gn3 : GatAt P w K CG CF H3 g fo fl ba mo F n fs (bs ++ []) := by rw [List.append_nil]; exact G3
    have cap3 : Capd Ux mo (bs ++ []) := by rw [List.append_nil]; exact cap
    have hg3 := s3 _ _ hg
    have pl0 : (pkL 0 cs).length ≤ cs.length := pkL_len 0 cs
    refine ⟨_, rfl, g, dx, es, rfl, hg3, fld.no _ (by decide +kernel) (by decide +kernel) (by decide +kernel) (by decide +kernel), ?_⟩
    refine ⟨g, fo, fl, ba, mo, F, n, fs, bs, rfl, G3, _, rfl, ?_⟩
    cases hfull : fullB mo (fs.length + bs.length) with
    | true =>
      refine iteTx rfl (iteTx rfl ?_)
      refine q H3 [] false (FrO.of s3) Gn3 ⟨fun z hz => (by cases hz), fun z => ?_, fun z => absurd rfl z⟩ cap3 fun _ => .inl (by rw [List.append_nil]; exact hfull)
      rw [List.append_nil, hfull] at z
      cases z
    | false =>
      refine iteFx rfl ?_
      obtain ⟨dxf, df, hfo, hdf⟩ := G3.flo.ob
      refine ⟨_, rfl, g, CG, dx, es, _, rfl, hg3, T.cl, T.nF, fld.floor, fo, dxf, _, rfl, hfo, fT_no _ (by decide +kernel), ?_⟩
      refine ⟨_, rfl, fo, .ref si, F, n, (s, pkL 0 cs), rfl, G3.flo, pks3.dp, by show (pkL 0 cs).length < lv; omega, by show (pkL 0 cs).length ≤ 1000; omega, fun H4 b' s4 hb' => ?_⟩
      refine ⟨_, rfl, ?_⟩
      have s34 := s3.trans s4
      have G4 := G3.mono s4
      have Gn4 := Gn3.mono s4
      have pks4 := pks3.mono s4
      have hg4 := s34 _ _ hg
      have up : ∀ {c d : List Int}, c.length = d.length → (∀ x ∈ c, 0 ≤ x) → (∀ q, c.getD q 0 ≤ d.getD q 0) → Und F (s, pkL 0 c) → Und F (s, pkL 0 d) := fun hl h0 hq u => und_mono G.flo.wf (sub_pk_ge hl.symm h0 hq) u
      cases b' with
      | true =>
        refine iteTx rfl ?_
        have un := hb'.mp rfl
        refine q H4 [] false (FrO.of s34) Gn4 ⟨fun z hz => (by cases hz), fun _ d hd => .inl ?_, fun z => absurd rfl z⟩ cap3 fun _ => .inr un
        exact up hd.len.symm c0 (hd.ge gok.pos gok.lt) un
      | false =>
        have nun : ¬ Und F (s, pkL 0 cs) := fun z => (by cases hb'.mpr z)
        refine iteFx rfl ?_
        have hgl4 := s34.seq hgl
        have xl := dpa_len hxs
        rw [List.length_map] at xl
        refine ⟨_, rfl, !xs.isEmpty, .inl ⟨xs, hgl4, rfl⟩, ?_⟩
        cases gs with
        | nil =>
          obtain rfl := dpa_nil hxs
          refine iteTx rfl ?_
          have bl := cap.len G.nd hfull
          refine ⟨_, rfl, g, CG, dx, es, _, rfl, hg4, T.cl, T.nB, fld.batch, _, rfl, si, ba, nkP (s, pkL 0 cs), kyN bs, rfl, rfl, rfl, G4.batch, G4.nks, by rw [nk_data]; exact pks4.dp, nk_depth _, szn (m := 1000000) (by rw [List.length_map]; exact bl) (by omega), ?_⟩
          refine q _ (newB bs ((s, pkL 0 cs), si)) true ((FrO.of s34).trans fun a o hne h => by rw [upd_ne hne]; exact h) (G4.put ((s, pkL 0 cs), si) pks4) ⟨fun z hz => ⟨cs, .nil cs, by rw [newB_of hz], by rw [newB_of hz]; exact nun⟩, fun _ d hd => ?_, fun _ => full_mono hfull (by have := newB_len bs ((s, pkL 0 cs), si); omega)⟩ ?_ fun z => by cases z
          · cases hd
            exact .inr (newB_mem (x := ((s, pkL 0 cs), si)))
          · rcases cap with cap | ⟨cap1, cap2⟩
            · exact .inl cap
            · refine .inr ⟨fun z hz => ?_, cap2⟩
              rcases List.mem_append.mp hz with hz | hz
              · exact cap1 z hz
              · rw [newB_of hz]
                exact hux cs (.nil cs)
        | cons g0 r =>
          obtain ⟨m, ps0⟩ := g0
          cases ps0 with
          | nil => exact absurd rfl (gok.ne _ List.mem_cons_self)
          | cons p ps =>
          obtain ⟨v0, xr, rfl, d0, dr⟩ := dpa_cons hxs
          obtain ⟨t0, ys0, rfl, ht0, hd0⟩ := dp_tup d0
          obtain ⟨v1, r1, rfl, d1, hd0⟩ := dpa_cons hd0
          obtain ⟨v2, r2, rfl, d2, hd0⟩ := dpa_cons hd0
          obtain rfl := dpa_nil hd0
          obtain ⟨pl, pys, rfl, hpl, hdp⟩ := dp_lst d2
          rw [dp_int d1] at ht0
          have hpys := dpa_len hdp
          rw [List.length_map] at hpys
          have m0 : 0 ≤ m := gok.pos _ List.mem_cons_self
          have mb : m ≤ 1000000000 := gbd _ List.mem_cons_self
          refine iteFx rfl ?_
          refine ⟨_, rfl, gl, _, 0, _, rfl, rfl, hgl4, atI_nat (j := 0) rfl, ?_⟩
          refine ⟨t0, _, rfl, Same.seqT s34 ht0, rfl, _, _, rfl, ?_⟩
          dsimp only [gName]
          refine ⟨_, _, rfl, ?_⟩
          dsimp only [gName]
          refine ⟨rfl, ?_⟩
          refine tIf_val (k := decide (ps = [])) (va := .int m) (vb := .int 0) (fun Q' q' => ⟨_, rfl, pl, pys, rfl, .inl (s34.seq hpl), rfl, _, rfl, ?_⟩) (fun _ Q' q' => ⟨_, rfl, q'⟩) (fun _ Q' q' => q') ?_
          · have e : decide (V.int ((pys.length : Nat) : Int) = V.int 1) = decide (ps = []) := by
              rw [int_eqE, hpys, List.length_cons]
              exact decide_eq_decide.mpr ⟨fun h => List.length_eq_zero_iff.mp (by omega), fun h => by rw [h]; rfl⟩
            rw [e]
            exact q'
          have elo : (if decide (ps = []) = true then V.int m else V.int 0) = V.int (lowG m ps) := by
            unfold lowG
            cases ps with
            | nil => rfl
            | cons q ps => rfl
          rw [elo]
          dsimp only [gName]
          have lo0 : 0 ≤ lowG m ps ∧ lowG m ps ≤ m := by unfold lowG; split <;> omega
          have hp : p < cs.length := gok.lt _ List.mem_cons_self p List.mem_cons_self
          obtain ⟨sp1, sp2⟩ := split_at hp
          have hna4 := s34 _ _ hna
          have hpl4 := s34.seq hpl
          have nba : na ≠ ba := fun z => by rw [z, G4.batch] at hna4; cases hna4
          have bnn : ∀ {z : Int}, 0 ≤ z → ∀ c ∈ bump cs p z, 0 ≤ c := fun {z} hz => get_nn fun q' => by
            rw [gbump hp]
            have := nn_get c0 q'
            split <;> omega
          refine ⟨_, rfl, _, rfl, _, _, rfl, rfl, lowG m ps, m + 1, rfl, ⟨by omega, by omega, by omega, by omega⟩, ?_⟩
          have en : (((m + 1 - lowG m ps).toNat : Nat) : Int) = m + 1 - lowG m ps := by omega
          refine for_range (fun i σ' H' => ∃ (y8 y9 : Option V) (nb : List Pkd), σ' = [some (.ref g), some (.int s), some (.ref na), some (.ref gl), some (.ref si), some (.int m), some (.ref pl), some (.int (lowG m ps)), y8, y9] ∧ FrO ba H4 H' ∧ GatAt P w K CG CF H' g fo fl ba mo F n fs (bs ++ nb) ∧ Capd Ux mo (bs ++ nb) ∧
            (∀ z ∈ nb, ∃ d, Dv ((m, p :: ps) :: r) cs d ∧ z.1 = (s, pkL 0 d) ∧ ¬ Und F z.1) ∧ (fullB mo (fs.length + (bs ++ nb).length) = false → ∀ kk, lowG m ps ≤ kk → kk < lowG m ps + (i : Nat) → ∀ d, Dv (restG m ps r kk) (bump cs p kk) d → Und F (s, pkL 0 d) ∨ (s, pkL 0 d) ∈ (bs ++ nb).map (·.1)) ∧ (nb ≠ [] → fullB mo (fs.length + (bs.length + nb.length) - 1) = false)) ?_ ?_ ?_
          · exact ⟨none, none, [], rfl, FrO.refl, Gn4, cap3, (fun z hz => by cases hz), (fun _ kk h1 h2 => by omega), fun z => absurd rfl z⟩
          · rintro i σ' H5 hi ⟨y8, y9, nb, rfl, f5, G5, cap5, good5, all5, lim5⟩
            have q5 : SameQ H4 H5 := f5.q G4.batch trivial
            have hfew : lowG m ps + (i : Nat) ≤ m := by omega
            have few0 : 0 ≤ lowG m ps + (i : Nat) := by omega
            generalize hf : lowG m ps + (i : Nat) = few at hfew few0 all5 ⊢
            have lofew : lowG m ps ≤ few := by omega
            dsimp only [gName]
            refine ⟨_, rfl, _, rfl, gl, _, rfl, q5.sqL hgl4, fun p9 n9 => ?_⟩
            dsimp only [gName]
            rw [cut_tail]
            have s9 : Same H5 (upd H5 p9 (.lst ((V.ref t0 :: xr).drop 1))) := same_new n9
            have e9 : (upd H5 p9 (.lst ((V.ref t0 :: xr).drop 1))) p9 = some (.lst xr) := upd_same
            generalize upd H5 p9 (.lst ((V.ref t0 :: xr).drop 1)) = H6 at s9 e9 ⊢
            have dr6 : DpAll K H6 xr (r.map grD) := dpAll_monoQ (SameQ.trans (fun a o h _ => s34 a o h) (SameQ.trans q5 fun a o h _ => s9 a o h)) dr
            have hpl6 : SqL K H6 pl pys := s9.seq (q5.sqL hpl4)
            have hdp6 : DpAll K H6 pys ((p :: ps).map nD) := dpAll_monoQ (SameQ.trans (fun a o h _ => s34 a o h) (SameQ.trans q5 fun a o h _ => s9 a o h)) hdp
            refine ⟨fun σ'' H'' => ∃ (rl : Addr) (rxs : List V), σ'' = [some (.ref g), some (.int s), some (.ref na), some (.ref gl), some (.ref si), some (.int m), some (.ref pl), some (.int (lowG m ps)), some (.int few), some (.ref rl)] ∧ Same H5 H'' ∧ SqL K H'' rl rxs ∧ DpAll K H'' rxs ((restG m ps r few).map grD), ?_, ?_⟩
            · refine ⟨_, rfl, _, rfl, _, _, rfl, rfl, _, rfl, ?_⟩
              by_cases c : few < m
              · refine iteTx (decide_eq_true c) ?_
                refine ⟨_, rfl, _, rfl, _, _, rfl, rfl, _, rfl, _, rfl, pl, pys, rfl, hpl6, fun ql nql => ?_⟩
                rw [cut_tail]
                refine ⟨szc 2, fun tt ntt => ⟨_, rfl, p9, xr, rfl, .inr (sq ((same_new ntt) _ _ ((same_new nql) _ _ e9))), ?_⟩⟩
                refine ⟨?_, fun ll nll => ?_⟩
                · have : xr.length ≤ 1000 := by rw [List.length_cons, List.length_cons] at xl; rw [List.length_cons] at gsl; omega
                  show (V.ref tt :: (xr ++ [])).length ≤ sizeLine
                  rw [List.length_cons, List.append_nil]
                  exact Nat.le_of_lt (szn (m := 2000) (by omega) (by omega))
                dsimp only [gName]
                have sA := (same_new (o := HO.lst (pys.drop 1)) nql).trans (same_new (o := HO.tup [V.int (m - few), V.ref ql]) ntt)
                have sB : Same H6 _ := sA.trans (same_new (o := HO.lst ([V.ref tt] ++ (xr ++ []))) nll)
                have hd0 : H6 pl = H6 pl := rfl
                refine ⟨ll, V.ref tt :: (xr ++ []), rfl, s9.trans sB, sq upd_same, ?_⟩
                unfold restG
                rw [if_pos c]
                have eN : ∀ {G : Hp} {ds : List PyData}, DpAll K G xr ds → DpAll K G (xr ++ []) ds := fun {G ds} h => by rw [List.append_nil]; exact h
                obtain ⟨v, pr, rfl, _, hdr⟩ := dpa_cons (show DpAll K H6 pys (nD p :: ps.map nD) from hdp6)
                exact .cons (.tup (st ((same_new nll) _ _ upd_same)) (.cons (.int _) (.cons (.lst (sq ((same_new nll) _ _ ((same_new ntt) _ _ upd_same))) (dpAll_mono sB hdr)) .nil))) (eN (dpAll_mono sB dr6))
              · refine iteFx (decide_eq_false c) ?_
                refine ⟨p9, xr, rfl, s9, sq e9, ?_⟩
                unfold restG
                rw [if_neg c]
                exact dr6
            · rintro σ'' H7 ⟨rl, rxs, rfl, s57, hrl, hrx⟩
              have q47 : SameQ H4 H7 := SameQ.trans q5 fun a o h _ => s57 a o h
              have G7 := G5.mono s57
              obtain ⟨dx7, es7, hg7, fld7⟩ := G7.ob
              have hna7 := s57 _ _ (f5 _ _ nba hna4)
              refine ⟨_, rfl, g, dx7, es7, rfl, hg7, fld7.no _ (by decide +kernel) (by decide +kernel) (by decide +kernel) (by decide +kernel), ?_⟩
              obtain ⟨vp, pr, rfl, dp0, _⟩ := dpa_cons (show DpAll K H pys (nD p :: ps.map nD) from hdp)
              obtain rfl := dp_int dp0
              refine ⟨_, rfl, _, rfl, _, rfl, pl, _, 0, _, rfl, rfl, q47.sqL hpl4, atI_nat (j := 0) rfl, _, rfl, na, cs.take p, cs.drop (p + 1), cs.getD p 0, few, _, by rw [sp2]; rfl, hna7, by rw [← sp1]; exact ⟨ks, rfl, pks⟩, nn_get c0 p, by rw [← sp1]; exact hl, fun H8 a8 kvs8 s8 na8 ea8 nd8 => ?_⟩
              rw [bump_take hp] at nd8
              have G8 := G7.mono s8
              have gdv : ∀ {d}, Dv (restG m ps r few) (bump cs p few) d → Dv ((m, p :: ps) :: r) cs d := fun {d} hd => (dv_sub m0).mpr ⟨few, lofew, hfew, hd⟩
              refine ⟨_, rfl, g, a8, rl, fo, fl, ba, mo, F, n, fs, bs ++ nb, s, bump cs p few, kvs8, rxs, restG m ps r few, Ux, rfl, G8, ea8, nd8, s8.seq hrl, dpAll_mono s8 hrx, by rw [bump_len]; exact restG_ok gok lofew, fun g' hg' => ?_, ?_, ?_, ?_, by rw [bump_len]; exact hlv, by rw [bump_len]; exact hl, cap5, fun d hd => hux d (gdv hd), fun H9 nb9 b9 f9 G9 R9 cap9 hb9 => ?_⟩
              · unfold restG at hg'
                split at hg'
                · rcases List.mem_cons.mp hg' with rfl | hg'
                  · show m - few ≤ _
                    omega
                  · exact gbd g' (List.mem_cons_of_mem _ hg')
                · exact gbd g' (List.mem_cons_of_mem _ hg')
              · exact bnn few0
              · unfold restG
                split
                · exact gsl
                · rw [List.length_cons] at gsl
                  omega
              · have := restG_gm m p ps r few
                omega
              refine ⟨_, rfl, ?_⟩
              have f49 : FrO ba H4 H9 := f5.trans ((FrO.of s57).trans ((FrO.of s8).trans f9))
              have asc : bs ++ (nb ++ nb9) = bs ++ nb ++ nb9 := (List.append_assoc bs nb nb9).symm
              have good9 : ∀ z ∈ nb ++ nb9, ∃ d, Dv ((m, p :: ps) :: r) cs d ∧ z.1 = (s, pkL 0 d) ∧ ¬ Und F z.1 := fun z hz => by
                rcases List.mem_append.mp hz with hz | hz
                · exact good5 z hz
                · obtain ⟨d, h1, h2, h3⟩ := R9.good z hz
                  exact ⟨d, gdv h1, h2, h3⟩
              have old9 : fullB mo (fs.length + (bs ++ (nb ++ nb9)).length) = false → ∀ kk, lowG m ps ≤ kk → kk < few → ∀ d, Dv (restG m ps r kk) (bump cs p kk) d → Und F (s, pkL 0 d) ∨ (s, pkL 0 d) ∈ (bs ++ (nb ++ nb9)).map (·.1) := fun nf kk h1 h2 d hd => by
                rcases all5 (full_mono nf (by rw [asc, List.length_append (as := bs ++ nb)]; omega)) kk h1 h2 d hd with h | h
                · exact .inl h
                · rw [asc, List.map_append]
                  exact .inr (List.mem_append_left _ h)
              have lim9 : nb ++ nb9 ≠ [] → fullB mo (fs.length + (bs.length + (nb ++ nb9).length) - 1) = false := fun z => by
                by_cases c : nb9 = []
                · subst c
                  rw [List.append_nil] at z ⊢
                  exact lim5 z
                · have := R9.lim c
                  rw [List.length_append] at this
                  rw [List.length_append]
                  rw [show fs.length + (bs.length + (nb.length + nb9.length)) - 1 = fs.length + (bs.length + nb.length + nb9.length) - 1 by omega]
                  exact this
              cases b9 with
              | true =>
                refine iteFx rfl ?_
                refine ⟨_, _, nb ++ nb9, rfl, f49, by rw [asc]; exact G9, by rw [asc]; exact cap9, good9, fun nf kk h1 h2 d hd => ?_, lim9⟩
                by_cases c : kk < few
                · exact old9 nf kk h1 c d hd
                · have : kk = few := by omega
                  subst this
                  rw [asc] at nf ⊢
                  exact R9.all nf d hd
              | false =>
                refine iteTx rfl ?_
                refine q H9 (nb ++ nb9) true ((FrO.of s34).trans f49) (by rw [asc]; exact G9) ⟨good9, fun nf d hd => ?_, lim9⟩ (by rw [asc]; exact cap9) fun z => by cases z
                obtain ⟨kk, h1, h2, h3⟩ := (dv_sub m0).mp hd
                by_cases c : kk < few
                · exact old9 nf kk h1 c d h3
                · rcases hb9 rfl with h | h
                  · rw [asc] at nf
                    rw [nf] at h
                    cases h
                  · refine .inl (up (c := bump cs p few) (by rw [h3.len, bump_len, bump_len]) (bnn few0) (fun q' => ?_) h)
                    have g1 := h3.ge (restG_ok gok h1).pos (fun g' hg' x hx => by rw [bump_len]; exact (restG_ok gok h1).lt g' hg' x hx) q'
                    refine Int.le_trans ?_ g1
                    rw [gbump hp, gbump hp]
                    split <;> omega
          · rintro σ' H5 ⟨y8, y9, nb, rfl, f5, G5, cap5, good5, all5, lim5⟩
            refine q H5 nb true ((FrO.of s34).trans f5) G5 ⟨good5, fun nf d hd => ?_, lim5⟩ cap5 fun z => by cases z
            obtain ⟨kk, h1, h2, h3⟩ := (dv_sub m0).mp hd
            exact all5 nf kk h1 (by omega) d h3
end
theorem gp_gr (cs : List Int) (shs : List (Nat × Nat)) (ss : List Nat) : ss.map (gpD cs shs) = (grpsOf shs cs ss).map grD := by
  unfold grpsOf
  rw [List.map_map]
  refine List.map_congr_left fun s _ => ?_
  show gpD cs shs s = grD (cs.getD s 0, firstsOf shs s ++ [s])
  unfold gpD grD firstsOf
  rw [List.map_append, List.map_map]
  rfl
theorem zeroL_nn : ∀ (ss : List Nat) {cs : List Int}, (∀ c ∈ cs, 0 ≤ c) → ∀ c ∈ zeroL cs ss, 0 ≤ c
  | [], _, h => h
  | s :: ss, cs, h => zeroL_nn ss (cs := cs.set s 0) fun c hc => by
    rcases List.mem_or_eq_of_mem_set hc with hc | rfl
    · exact h c hc
    · exact Int.le_refl _
theorem set_sum : ∀ {cs : List Int} {p : Nat} {v : Int}, p < cs.length → (cs.set p v).sum + cs.getD p 0 = cs.sum + v
  | [], _, _, h => by cases h
  | c :: cs, 0, v, _ => by
    show (v + cs.sum) + c = _
    rw [List.sum_cons]
    omega
  | c :: cs, p + 1, v, h => by
    have ih := set_sum (cs := cs) (p := p) (v := v) (Nat.lt_of_succ_lt_succ h)
    show (c + (cs.set p v).sum) + cs.getD p 0 = _
    rw [List.sum_cons]
    omega
theorem zero_sum : ∀ (ss : List Nat) (cs : List Int), ss.Nodup → (∀ s ∈ ss, s < cs.length) → (zeroL cs ss).sum + (ss.map fun s => cs.getD s 0).sum = cs.sum
  | [], cs, _, _ => by show cs.sum + 0 = _; omega
  | s :: ss, cs, nd, h => by
    obtain ⟨n1, n2⟩ := List.nodup_cons.mp nd
    have hs := h s List.mem_cons_self
    have ih := zero_sum ss (cs.set s 0) n2 fun x hx => by rw [List.length_set]; exact h x (List.mem_cons_of_mem _ hx)
    have e : (ss.map fun x => (cs.set s 0).getD x 0) = ss.map fun x => cs.getD x 0 := List.map_congr_left fun x hx => by rw [gset hs, if_neg fun z => n1 (by rw [← z]; exact hx)]
    rw [e] at ih
    have e2 := set_sum (v := 0) hs
    show (zeroL (cs.set s 0) ss).sum + (cs.getD s 0 + (ss.map fun x => cs.getD x 0).sum) = _
    omega
theorem gsum_grps (sh : List (Nat × Nat)) (nd : List Int) : ∀ ss : List Nat, gsum (grpsOf sh nd ss) = (ss.map fun s => nd.getD s 0).sum
  | [] => rfl
  | s :: ss => by
    show nd.getD s 0 + gsum (grpsOf sh nd ss) = _
    rw [gsum_grps sh nd ss, List.map_cons, List.sum_cons]
theorem gm_grps (sh : List (Nat × Nat)) (nd : List Int) : ∀ ss : List Nat, gm (grpsOf sh nd ss) = (ss.map fun s => (firstsOf sh s).length + 1).sum
  | [] => rfl
  | s :: ss => by
    show (firstsOf sh s ++ [s]).length + gm (grpsOf sh nd ss) = _
    rw [gm_grps sh nd ss, List.map_cons, List.sum_cons, List.length_append]
    rfl
theorem gm_flat : ∀ gs : List Grp, gm gs = (gs.flatMap (·.2)).length
  | [] => rfl
  | g :: gs => by
    rw [List.flatMap_cons, List.length_append, ← gm_flat gs]
    rfl
theorem nodup_lenN : ∀ {L S : List Nat}, L.Nodup → (∀ x ∈ L, x ∈ S) → L.length ≤ S.length
  | [], _, _, _ => Nat.zero_le _
  | x :: L, S, hn, hs => by
    obtain ⟨h1, h2⟩ := List.nodup_cons.mp hn
    have hx := hs x List.mem_cons_self
    have ih := nodup_lenN (S := S.erase x) h2 fun y hy => (List.mem_erase_of_ne fun e => h1 (by rw [← e]; exact hy)).mpr (hs y (List.mem_cons_of_mem _ hy))
    rw [List.length_erase_of_mem hx] at ih
    have := List.length_pos_of_mem hx
    rw [List.length_cons]
    omega
theorem nodup_lt {n : Nat} {l : List Nat} (nd : l.Nodup) (h : ∀ x ∈ l, x < n) : l.length ≤ n := by
  have := nodup_lenN (S := List.range n) nd fun x hx => List.mem_range.mpr (h x hx)
  rw [List.length_range] at this
  exact this
theorem gm_le {gs : List Grp} {n : Nat} (ok : GOk gs n) : gm gs ≤ n := by
  rw [gm_flat]
  refine nodup_lt ok.nd fun x hx => ?_
  obtain ⟨g, hg, h⟩ := List.mem_flatMap.mp hx
  exact ok.lt g hg x h
theorem gs_le {gs : List Grp} {n : Nat} (ok : GOk gs n) : gs.length ≤ n := by
  refine Nat.le_trans ?_ (gm_le ok)
  have ne := ok.ne
  clear ok
  induction gs with
  | nil => exact Nat.le_refl _
  | cons g gs ih =>
    have h1 := ih fun x hx => ne x (List.mem_cons_of_mem _ hx)
    have h2 := List.length_pos_iff.mpr (ne g List.mem_cons_self)
    show gs.length + 1 ≤ g.2.length + gm gs
    omega
theorem yesT {σ : L2.St} {H : Hp} {A B : Bool → Hp → Prop} (h : A true H) : tYes σ H fun b H3 => if b = true then A b H3 else B b H3 := by
  show (if true = true then A true H else B true H)
  rw [if_pos rfl]
  exact h
structure GatR (m : MvT) (y : Sn) (n : Nat) (F : Tri) (full : Nat → Bool) (fl0 : Nat) (bs nb : List Pkd) : Prop where
  good : ∀ z ∈ nb, ∃ d, z.1 = ((m.st : Int), pkL 0 d) ∧ d.length = n ∧ (∀ c ∈ d, 0 ≤ c) ∧ d.sum = (needL m y.2).sum + 1 ∧ y.1 = (m.ns : Int) ∧ Bef m y.2 d ∧ ¬ Und F z.1
  all : full (fl0 + (bs ++ nb).length) = false → y.1 = (m.ns : Int) → ∀ x : List Int, x.length = n → (∀ c ∈ x, 0 ≤ c) → Bef m y.2 x → ∃ d, d.length = n ∧ (∀ c ∈ d, 0 ≤ c) ∧ (∀ q, d.getD q 0 ≤ x.getD q 0) ∧ (Und F ((m.st : Int), pkL 0 d) ∨ ((m.st : Int), pkL 0 d) ∈ (bs ++ nb).map (·.1))
  lim : nb ≠ [] → full (fl0 + (bs.length + nb.length) - 1) = false
section
variable {P : Program} {w : World} {K : PySem.W.Frag} {mg : Str → Option Value} {base : Heap}
abbrev s_Gatherer_gather : Stmt := inClass (topS 28) 3
theorem sc_Gatherer_gather : FnScope ["self", "move", "situation", "state", "place", "next_state", "_", "shifts", "need", "groups", "first"] ["self", "move", "situation"] (defScope s_Gatherer_gather) := ⟨rfl, rfl, rfl, by decide +kernel, rfl, by decide +kernel, by decide +kernel⟩
-- Gatherer.gather slots: self=0 move=1 situation=2 state=3 place=4 next_state=5 _=6 shifts=7 need=8(cell) groups=9 first=10(None) globals: needed any taken_apart with_added
def spGather (P : Program) (w : World) (K : PySem.W.Frag) (CG CF : Addr) (lv : Nat) : Sp := fun vs H Q _ => ∃ (g : Addr) (mv sv : V) (fo fl ba : Addr) (mo : Option Nat) (F : Tri) (n : Nat) (fs bs : List Pkd) (m : MvT) (S N : Nat) (y : Sn) (Ux : Int × Prs → Prop),
  vs = [.ref g, mv, sv] ∧ GatAt P w K CG CF H g fo fl ba mo F n fs bs ∧ Dp K H mv m.data ∧ PkO K H sv (pk y) ∧ m.Fit S N ∧ y.2.length = N ∧ (∀ c ∈ y.2, 0 ≤ c) ∧ (∀ c ∈ y.2, c ≤ 1000000000) ∧ N < lv ∧ N ≤ 1000 ∧ m.sh.length ≤ 1000 ∧
  Capd Ux mo bs ∧ (∀ d, d.length = N → (∀ c ∈ d, 0 ≤ c) → d.sum = (needL m y.2).sum + 1 → Ux ((m.st : Int), pkL 0 d)) ∧
  ∀ H' nb, FrO ba H H' → GatAt P w K CG CF H' g fo fl ba mo F n fs (bs ++ nb) → GatR m y N F (fullB mo) fs.length bs nb → Capd Ux mo (bs ++ nb) → Q .non H'
set_option maxHeartbeats 4000000 in
theorem md_gather {f CG CF : Addr} {fd : FuncData} {lv : Nat} (F : Fun K "gather" "Gatherer.gather" s_Gatherer_gather f fd) (T : TxtG K mg CG) (mm : Meth K CG "gather" f) (B : Bt mg) (D_needed : Fd P w K mg base "needed" ["move", "pairs"] 2 (spNeed K)) (D_taken_apart : Fd P w K mg base "taken_apart" ["need", "shifts"] 1 (spTake K)) (D_with_added : Fd P w K mg base "with_added" ["need", "place", "change"] 1 (spWith K))
    (M_divide : Md P w K mg base CG "divide" ["self", "state", "need", "groups"] (lv + lv + 3) (spDiv P w K CG CF lv lv)) : Md P w K mg base CG "gather" ["self", "move", "situation"] (lv + lv + 4) (spGather P w K CG CF lv) := by
  refine ⟨f, fd, F.ok sc_Gatherer_gather (fun vs H Q E h => ?_) (fun cdv A outer s H vs Q E hr h => ?_), mm, F.binds (ps := ["self", "move", "situation"]) fun _ _ _ _ _ _ us hl => match us, hl with | [_, _, _], _ => rfl⟩
  · obtain ⟨_, _, _, _, _, _, _, _, _, _, _, _, _, _, _, _, rfl, _⟩ := h
    rfl
  obtain ⟨g, mv, sv, fo, fl, ba, mo, F, n, fs, bs, m, S, N, y, Ux, rfl, G, hmv, hsv, fit, hyl, y0, yb, hlv, hN, hsl, cap, hux, q⟩ := h
  obtain ⟨dx, es, hg, fld⟩ := G.ob
  obtain ⟨ma, sa, sxs, rfl, hma, hsa, hsx⟩ := dp_mv hmv
  obtain ⟨si, tu, prs, rfl, hsi, htu, hps⟩ := hsv
  have sxl := dpa_map_len hsx
  have Gn : GatAt P w K CG CF H g fo fl ba mo F n fs (bs ++ []) := by rw [List.append_nil]; exact G
  have capn : Capd Ux mo (bs ++ []) := by rw [List.append_nil]; exact cap
  refine ⟨_, (pss_cons (ps_asg (pv 1) (pg_tup rfl (pgs_cons (pg_name (i := 3) sc_Gatherer_gather.nd rfl (Or.inl rfl)) (pgs_cons (pg_name (i := 4) sc_Gatherer_gather.nd rfl (Or.inl rfl)) (pgs_cons (pg_name (i := 5) sc_Gatherer_gather.nd rfl (Or.inl rfl)) (pgs_cons (pg_name (i := 6) sc_Gatherer_gather.nd rfl (Or.inl rfl)) (pgs_cons (pg_name (i := 6) sc_Gatherer_gather.nd rfl (Or.inl rfl)) (pgs_cons (pg_name (i := 7) sc_Gatherer_gather.nd rfl (Or.inl rfl)) pgs_nil))))))))
 (pss_cons (ps_if (pt_cmpR op_ne (pe_ix (ixT K) (pv 2) pe_int (fun _ _ => rfl)) (pv 5) (nomark _))
 (pss_one ps_retN)
 pss_nil)
 (pss_cons (ps_set (i := 8) sc_Gatherer_gather.nd rfl (Or.inr rfl) (pe_fn D_needed (hr.mono (by omega)) rfl (pa_cons (pv 1) (pa_cons (pe_ix (ixT K) (pv 2) pe_int (fun _ _ => rfl)) pa_nil))))
 (pss_cons (ps_if (ptTru K (pe_callB (cAny K rfl) (by rfl) B.any (by decide +kernel) (pa_cons (pe_lc (own := [("first", 10), ("_", 6)]) (g := gTup K 2 (gCons (gName 10) (gCons (gName 6) gNil))) (by rfl) sc_Gatherer_gather.nd (piL K (pv 7)) (blkOk_by (own := [("first", 10), ("_", 6)]) (N := ["self", "move", "situation", "state", "place", "next_state", "_", "shifts", "need", "groups", "first"]) (sc := (defScope s_Gatherer_gather)) (by decide +kernel)) (fun _ _ _ _ _ => (pg_tup rfl (pgs_cons (pg_name (i := 10) sc_Gatherer_gather.nd rfl (Or.inl rfl)) (pgs_cons (pg_name (i := 6) sc_Gatherer_gather.nd rfl (Or.inl rfl)) pgs_nil)))) (fun _ _ _ _ _ => pts_nil) (fun _ _ _ _ _ => (pe_cmp (pc_din (hu_of hr) (pv 10) (pv 8))))) pa_nil)) (by intro _; rfl))
 (pss_one ps_retN)
 pss_nil)
 (pss_cons (ps_set (i := 9) sc_Gatherer_gather.nd rfl (Or.inl rfl) (pe_fn D_taken_apart (hr.mono (by omega)) rfl (pa_cons (pv 8) (pa_cons (pv 7) pa_nil))))
 (pss_one (ps_expr (pe_md M_divide fun _ _ G hm b => pe_meth (pv 0) T.cl hm G (hr.mono (by omega)) b .nil pass0 (pa_cons (pv 3) (pa_cons (pe_fn D_with_added (hr.mono (by omega)) rfl (pa_cons (pv 8) (pa_cons (pv 4) (pa_cons pe_int pa_nil)))) (pa_cons (pv 9) pa_nil))))))))))), ?_⟩
  refine ⟨_, rfl, ma, _, rfl, hma, rfl, _, _, rfl, _, _, rfl, _, _, rfl, _, _, rfl, _, _, rfl, _, _, rfl, rfl, ?_⟩
  dsimp only [gName]
  refine ⟨_, rfl, _, _, _, _, rfl, rfl, hsi, atI_nat (j := 0) rfl, _, rfl, rfl, _, rfl, ?_⟩
  by_cases hst : y.1 = (m.ns : Int)
  · refine iteFx (by show (!decide (V.int y.1 = V.int (m.ns : Int))) = false; rw [int_eqE, decide_eq_true hst]; rfl) ?_
    refine ⟨_, rfl, _, rfl, _, _, _, _, rfl, rfl, hsi, atI_nat (j := 1) rfl, ma, tu, _, m.np, m.sd, y.2, prs, rfl, hma, rfl, (by cases m.sd <;> rfl), (by rw [hyl]; exact fit.np), (fun s hs => by rw [hyl]; exact fit.sd s hs), htu, hps, y0, (by rw [hyl]; exact hN), fun H1 na kvs s1 nna hna nd => ?_⟩
    dsimp only [gName]
    change tSeq _ _ _ [some (.ref g), some (.ref ma), some (.ref si), some (nV m.st), some (nV m.pl), some (nV m.ns), some (sdV m.sd), some (.ref sa), some (.ref na), none, none] H1
    have nl : (needL m y.2).length = N := by rw [needL_len, hyl]
    have n0 := needL_nn (m := m) y0
    have nd : NeedC (needL m y.2) kvs := nd
    refine ⟨_, rfl, sa, rfl, ⟨_, s1.seq hsa⟩, fun D nD => lc_list (xs := sxs) (fun i H' => Same H1 H' ∧ H' D = some (.lst (((m.sh.take i).map fun p => decide (0 < (needL m y.2).getD p.1 0)).map V.bl))) ⟨same_new nD, upd_same⟩ (fun _ H' _ h => (s1.trans h.1).seq hsa) ?_ ?_⟩
    · rintro i u H' hu ⟨sm, eD⟩
      obtain ⟨p, hp, du⟩ := dpa_map_at hsx hu
      obtain ⟨t, rfl, ht⟩ := dp_sh du
      have hpl := fit.sh.fst p (List.mem_of_getElem? hp)
      refine ⟨t, _, rfl, Same.seqT (s1.trans sm) ht, rfl, _, _, rfl, ?_⟩
      dsimp only [gName]
      refine ⟨_, _, rfl, ?_⟩
      dsimp only [gName]
      refine ⟨rfl, rfl, ?_⟩
      refine yesT ?_
      obtain ⟨hv, _⟩ := need_zero nd (p := p.1) (by rw [nl]; exact hpl)
      refine ⟨_, rfl, _, rfl, na, _, rfl, DGet.k (k := Sum.inl (p.1 : Int)) (sm _ _ hna), ?_⟩
      rw [hv]
      refine ⟨_, eD, ?_, Same.mut sm nD, ?_⟩
      · rw [List.length_map, List.length_map, List.length_take]
        exact szn (m := 1000) (by omega) (by omega)
      · rw [upd_same, take_snoc hp, List.map_append, List.map_append]
        by_cases c : 0 < (needL m y.2).getD p.1 0
        · rw [if_pos c]
          show some (HO.lst (_ ++ [V.bl true])) = some (HO.lst (_ ++ [V.bl (decide (0 < (needL m y.2).getD p.1 0))]))
          rw [decide_eq_true c]
        · rw [if_neg c]
          show some (HO.lst (_ ++ [V.bl false])) = some (HO.lst (_ ++ [V.bl (decide (0 < (needL m y.2).getD p.1 0))]))
          rw [decide_eq_false c]
    · rintro H2 ⟨s2, eD⟩
      rw [sxl, List.take_length] at eD
      have s02 := s1.trans s2
      refine ⟨D, _, rfl, sq eD, _, rfl, ?_⟩
      cases hany : (m.sh.map fun p => decide (0 < (needL m y.2).getD p.1 0)).any id with
      | true =>
        obtain ⟨b, hb, hb2⟩ := List.any_eq_true.mp hany
        obtain ⟨p, hp, rfl⟩ := List.mem_map.mp hb
        have hp2 := of_decide_eq_true hb2
        refine iteTx rfl ?_
        refine q H2 [] (FrO.of s02) (Gn.mono s02) ⟨(fun z hz => by cases hz), (fun _ _ x hx x0 hbef => absurd hbef (pre_no fit hyl hx x0 hp hp2)), fun z => absurd rfl z⟩ capn
      | false =>
        have nf : ∀ p ∈ m.sh, ¬ 0 < (needL m y.2).getD p.1 0 := fun p hp c => by
          have : (m.sh.map fun p => decide (0 < (needL m y.2).getD p.1 0)).any id = true := List.any_eq_true.mpr ⟨_, List.mem_map.mpr ⟨p, hp, rfl⟩, decide_eq_true c⟩
          rw [hany] at this
          cases this
        refine iteFx rfl ?_
        have hna2 := s2 _ _ hna
        refine ⟨_, rfl, _, rfl, na, sa, needL m y.2, kvs, sxs, m.sh, rfl, hna2, nd, s02.seq hsa, dpAll_mono s02 hsx, fun p hp => by rw [nl]; exact fit.sh.snd p hp, by rw [nl]; exact hN, hsl, fun H3 gl ys kvs3 ss f3 hna3 nd3 ngl egl dgl ndss iffss => ?_⟩
        dsimp only [gName]
        have s03 : Same H H3 := fun a o h => f3 a o (ne_of_none h nna) (s02 a o h)
        have G3 := G.mono s03
        have ssok : SsOk m.sh (needL m y.2) ss := ⟨ndss, iffss⟩
        have gok := grps_ok fit.sh ssok
        have zl : (zeroL (needL m y.2) ss).length = N := by rw [zeroL_len, nl]
        have bl : (baseL m (needL m y.2) ss).length = N := by unfold baseL; rw [bump_len, zl]
        have hpl : m.pl < (zeroL (needL m y.2) ss).length := by rw [zl]; exact fit.pl
        obtain ⟨sp1, sp2⟩ := split_at hpl
        have z0 := zeroL_nn ss n0
        refine ⟨_, rfl, g, dx, es, rfl, s03 _ _ hg, fld.no _ (by decide +kernel) (by decide +kernel) (by decide +kernel) (by decide +kernel), ?_⟩
        refine ⟨_, rfl, _, rfl, _, rfl, na, (zeroL (needL m y.2) ss).take m.pl, (zeroL (needL m y.2) ss).drop (m.pl + 1), (zeroL (needL m y.2) ss).getD m.pl 0, 1, kvs3, by rw [sp2]; rfl, hna3, by rw [← sp1]; exact nd3, nn_get z0 m.pl, by rw [← sp1, zl]; exact hN, fun H4 a4 kvs4 s4 n4 e4 nd4 => ?_⟩
        rw [bump_take hpl] at nd4
        have nd4 : NeedC (baseL m (needL m y.2) ss) kvs4 := nd4
        have b0 : ∀ c ∈ baseL m (needL m y.2) ss, 0 ≤ c := get_nn fun q' => by
          unfold baseL
          rw [gbump hpl]
          have := nn_get z0 q'
          split <;> omega
        have hgr : DpAll K H4 ys ((grpsOf m.sh (needL m y.2) ss).map grD) := by
          rw [← gp_gr]
          exact dpAll_mono (ho_out.trans s4) dgl
        have dsum : ∀ {d}, Dv (grpsOf m.sh (needL m y.2) ss) (baseL m (needL m y.2) ss) d → d.length = N ∧ (∀ c ∈ d, 0 ≤ c) ∧ d.sum = (needL m y.2).sum + 1 := fun {d} hd => by
          have h1 := hd.sum fun g hg p hp => by rw [bl]; exact gok.lt g hg p hp
          have h2 := zero_sum ss (needL m y.2) ndss fun s hs => by
            obtain ⟨_, p, hp, rfl⟩ := (iffss s).mp hs
            rw [nl]
            exact fit.sh.snd p hp
          refine ⟨by rw [hd.len, bl], get_nn fun q' => Int.le_trans (nn_get b0 q') (hd.ge gok.pos (fun g hg p hp => by rw [bl]; exact gok.lt g hg p hp) q'), ?_⟩
          rw [h1, gsum_grps]
          unfold baseL
          rw [bump_sum hpl]
          omega
        refine ⟨_, rfl, g, a4, gl, fo, fl, ba, mo, F, n, fs, bs, (m.st : Int), baseL m (needL m y.2) ss, kvs4, ys, grpsOf m.sh (needL m y.2) ss, Ux, rfl, G3.mono s4, e4, nd4, s4.seq (sq egl), hgr, by rw [bl]; exact gok, fun g' hg' => ?_, b0, Nat.le_trans (gs_le gok) hN, Nat.lt_of_le_of_lt (gm_le gok) hlv, by rw [bl]; exact hlv, by rw [bl]; exact hN, cap, fun d hd => ?_, fun H5 nb b f5 G5 R5 cap5 _ => ?_⟩
        · obtain ⟨s', hs', rfl⟩ := List.mem_map.mp hg'
          show (needL m y.2).getD s' 0 ≤ _
          have h1 := (needL_le fit hyl s' (y := y.2.getD s' 0) (nn_get y0 s')).mpr (by split <;> split <;> omega)
          refine Int.le_trans h1 ?_
          by_cases c : s' < y.2.length
          · exact yb _ (gd_mem c)
          · rw [gout (by omega)]
            decide
        · obtain ⟨h1, h2, h3⟩ := dsum hd
          exact hux d h1 h2 h3
        · refine q H5 nb ((FrO.of s03).trans ((FrO.of s4).trans f5)) G5 ⟨fun z hz => ?_, fun nfl _ x hx x0 hbef => ?_, R5.lim⟩ cap5
          · obtain ⟨d, hd, e, nu⟩ := R5.good z hz
            obtain ⟨h1, h2, h3⟩ := dsum hd
            exact ⟨d, e, h1, h2, h3, hst, (pre_iff fit hyl h1 y0 h2 ssok nf).mpr ⟨d, hd, fun _ => Int.le_refl _⟩, nu⟩
          · obtain ⟨d, hd, hle⟩ := (pre_iff fit hyl hx y0 x0 ssok nf).mp hbef
            obtain ⟨h1, h2, _⟩ := dsum hd
            exact ⟨d, h1, h2, hle, R5.all nfl d hd⟩
  · refine iteTx (by show (!decide (V.int y.1 = V.int (m.ns : Int))) = true; rw [int_eqE, decide_eq_false hst]; rfl) ?_
    exact q H [] FrO.refl Gn ⟨(fun z hz => by cases hz), (fun _ e => absurd e hst), fun z => absurd rfl z⟩ capn
end
/-! ### what is new -/
def Gn (o1 r : Addr) (Hb H : Hp) : Hp := fun a => if a = o1 ∨ a = r ∨ (Hb a).isSome = true then none else H a
theorem gn_iff {o1 r a : Addr} {Hb H : Hp} {o : HO} : Gn o1 r Hb H a = some o ↔ a ≠ o1 ∧ a ≠ r ∧ Hb a = none ∧ H a = some o := by
  unfold Gn
  by_cases h : a = o1 ∨ a = r ∨ (Hb a).isSome = true
  · rw [if_pos h]
    refine ⟨fun z => (by cases z), ?_⟩
    rintro ⟨h1, h2, h3, _⟩
    rcases h with h | h | h
    · exact absurd h h1
    · exact absurd h h2
    · rw [h3] at h; cases h
  · rw [if_neg h]
    refine ⟨fun z => ⟨fun e => h (.inl e), fun e => h (.inr (.inl e)), ?_, z⟩, fun z => z.2.2.2⟩
    cases e : Hb a with
    | none => rfl
    | some u => exact absurd (.inr (.inr (by rw [e]; rfl))) h
theorem gn_out {o1 r : Addr} {Hb H : Hp} : Same (Gn o1 r Hb H) H := fun a o e => (gn_iff.mp e).2.2.2
theorem gn_same {o1 r : Addr} {Hb H H' : Hp} (s : Same H H') : Same (Gn o1 r Hb H) (Gn o1 r Hb H') := fun a o e => by
  obtain ⟨h1, h2, h3, h4⟩ := gn_iff.mp e
  exact gn_iff.mpr ⟨h1, h2, h3, s _ _ h4⟩
theorem gn_mut {o1 r c : Addr} {Hb H : Hp} {u : HO} (hc : c = o1 ∨ c = r) : Same (Gn o1 r Hb H) (Gn o1 r Hb (upd H c u)) := fun a o e => by
  obtain ⟨h1, h2, h3, h4⟩ := gn_iff.mp e
  refine gn_iff.mpr ⟨h1, h2, h3, ?_⟩
  rw [upd_ne (by rcases hc with rfl | rfl <;> assumption)]
  exact h4
/-- a new second list -/
theorem gn_turn {o1 r r' : Addr} {Hb H : Hp} {u : HO} (n : H r' = none) : Same (Gn o1 r Hb H) (Gn o1 r' Hb (upd H r' u)) := fun a o e => by
  obtain ⟨h1, h2, h3, h4⟩ := gn_iff.mp e
  have hne : a ≠ r' := fun z => by rw [z, n] at h4; cases h4
  refine gn_iff.mpr ⟨h1, hne, h3, ?_⟩
  rw [upd_ne hne]
  exact h4
theorem gn_less {o1 r : Addr} {Hb Hc H : Hp} (s : Same Hc Hb) : Same (Gn o1 r Hb H) (Gn o1 o1 Hc H) := fun a o e => by
  obtain ⟨h1, h2, h3, h4⟩ := gn_iff.mp e
  refine gn_iff.mpr ⟨h1, h1, ?_, h4⟩
  cases e : Hc a with
  | none => rfl
  | some u => rw [s _ _ e] at h3; cases h3
/-- what was there before may change -/
theorem gn_old {p c : Addr} {Hb H : Hp} {o u : HO} (e : Hb c = some o) : Same (Gn p p Hb H) (Gn p p Hb (upd H c u)) := fun a v h => by
  obtain ⟨h1, h2, h3, h4⟩ := gn_iff.mp h
  refine gn_iff.mpr ⟨h1, h2, h3, ?_⟩
  rw [upd_ne (fun z => by rw [z, e] at h3; cases h3)]
  exact h4
def FreshS (G : Hp) (v : V) (b : Sn) : Prop := ∃ t c, v = .ref t ∧ G t = some (.tup [.int b.1, .ref c]) ∧ G c = some (.lst (b.2.map V.int))
/-- the address of the counts -/
def CtS (G : Hp) (v : V) (c : Addr) : Prop := ∃ t x, v = .ref t ∧ G t = some (.tup [x, .ref c])
def DifC (G : Hp) (u v : V) : Prop := ∀ c, CtS G u c → ¬ CtS G v c
theorem DifC.symm {G : Hp} {u v : V} (h : DifC G u v) : DifC G v u := fun c h1 h2 => h c h2 h1
/-- new situations, each with a list of its own -/
structure FreshL (G : Hp) (vs : List V) (bs : List Sn) : Prop where
  pr : Paired (FreshS G) vs bs
  dis : vs.Pairwise (DifC G)
theorem paired_left {α β : Type} {R : α → β → Prop} {xs : List α} {ys : List β} (h : Paired R xs ys) {x : α} (hx : x ∈ xs) : ∃ y ∈ ys, R x y := by
  induction h with
  | nil => cases hx
  | cons r _ ih =>
    rcases List.mem_cons.mp hx with rfl | hx
    · exact ⟨_, List.mem_cons_self, r⟩
    · obtain ⟨y, hy, h⟩ := ih hx
      exact ⟨y, List.mem_cons_of_mem _ hy, h⟩
theorem CtS.uniq {G : Hp} {v : V} {c d : Addr} (h1 : CtS G v c) (h2 : CtS G v d) : c = d := by
  obtain ⟨t, x, rfl, e⟩ := h1
  obtain ⟨t', x', z, e'⟩ := h2
  cases z
  rw [e] at e'
  cases e'
  rfl
theorem FreshS.ct {G : Hp} {v : V} {b : Sn} (h : FreshS G v b) : ∃ c, CtS G v c ∧ G c = some (.lst (b.2.map V.int)) := by
  obtain ⟨t, c, e, h1, h2⟩ := h
  exact ⟨c, ⟨t, _, e, h1⟩, h2⟩
theorem FreshL.nil {G : Hp} : FreshL G [] [] := ⟨.nil, .nil⟩
theorem FreshL.to {G G' : Hp} {vs : List V} {bs : List Sn} (h : FreshL G vs bs) (f : ∀ (b : Sn) (t c : Addr), G t = some (.tup [.int b.1, .ref c]) → G c = some (.lst (b.2.map V.int)) → G' t = some (.tup [.int b.1, .ref c]) ∧ G' c = some (.lst (b.2.map V.int))) : FreshL G' vs bs := by
  refine ⟨Paired.mapP h.pr fun _ b ⟨t, c, e, h1, h2⟩ => ⟨t, c, e, (f b t c h1 h2).1, (f b t c h1 h2).2⟩, h.dis.imp_of_mem fun {u v} hu hv d c cu cv => ?_⟩
  have back : ∀ {z : V}, z ∈ vs → CtS G' z c → CtS G z c := fun {z} hz cz => by
    obtain ⟨b, _, t, c', rfl, h1, h2⟩ := paired_left h.pr hz
    obtain ⟨t', x', e', h3⟩ := cz
    cases e'
    rw [(f b t c' h1 h2).1] at h3
    cases h3
    exact ⟨t, _, rfl, h1⟩
  exact d c (back hu cu) (back hv cv)
theorem FreshL.mono {G G' : Hp} (s : Same G G') {vs : List V} {bs : List Sn} (h : FreshL G vs bs) : FreshL G' vs bs := h.to fun _ _ _ h1 h2 => ⟨s _ _ h1, s _ _ h2⟩
theorem paired_app {α β : Type} {R : α → β → Prop} {xs us : List α} {ys ws : List β} (h1 : Paired R xs ys) (h2 : Paired R us ws) : Paired R (xs ++ us) (ys ++ ws) := by
  induction h1 with
  | nil => exact h2
  | cons r _ ih => exact .cons r ih
/-- one more, whose list was not there yet -/
theorem FreshL.snocN {G0 G : Hp} {vs : List V} {bs : List Sn} {b : Sn} {t c : Addr} (s : Same G0 G) (h : FreshL G0 vs bs) (n : G0 c = none) (e1 : G t = some (.tup [.int b.1, .ref c])) (e2 : G c = some (.lst (b.2.map V.int))) : FreshL G (vs ++ [.ref t]) (bs ++ [b]) := by
  have h' := h.mono s
  refine ⟨paired_app h'.pr (.cons ⟨t, c, rfl, e1, e2⟩ .nil), List.pairwise_append.mpr ⟨h'.dis, List.pairwise_singleton _ _, fun u hu v hv d cu cv => ?_⟩⟩
  rw [List.mem_singleton.mp hv] at cv
  obtain rfl : c = d := CtS.uniq ⟨t, _, rfl, e1⟩ cv
  obtain ⟨b', _, t', c', rfl, h1, h2⟩ := paired_left h.pr hu
  obtain rfl : c' = c := CtS.uniq (⟨t', _, rfl, s _ _ h1⟩ : CtS G (.ref t') c') cu
  rw [h2] at n
  cases n
theorem paired_dpa {K : PySem.W.Frag} {G : Hp} : ∀ {vs : List V} {bs : List Sn}, Paired (FreshS G) vs bs → DpAll K G vs (bs.map sD)
  | _, _, .nil => .nil
  | _, _, .cons ⟨t, c, e, h1, h2⟩ r => .cons (sit_dp ⟨t, c, e, st h1, sq h2⟩) (paired_dpa r)
theorem FreshL.dpa {K : PySem.W.Frag} {G : Hp} {vs : List V} {bs : List Sn} (h : FreshL G vs bs) : DpAll K G vs (bs.map sD) := paired_dpa h.pr
theorem FreshL.len {G : Hp} {vs : List V} {bs : List Sn} (h : FreshL G vs bs) : vs.length = bs.length := Paired.length h.pr
theorem dpa_atS {K : PySem.W.Frag} {H : Hp} : ∀ {bs : List Sn} {xs : List V}, DpAll K H xs (bs.map sD) → ∀ {i : Nat} {b : Sn}, bs[i]? = some b → ∃ x, xs[i]? = some x ∧ Dp K H x (sD b)
  | [], _, _, i, b, hb => by simp at hb
  | c :: bs, xs, h, i, b, hb => by
    obtain ⟨v, r, rfl, h1, h2⟩ := dpa_cons h
    cases i with
    | zero => cases hb; exact ⟨v, rfl, h1⟩
    | succ i => exact dpa_atS h2 (i := i) hb
theorem dpa_lenS {K : PySem.W.Frag} {H : Hp} : ∀ {bs : List Sn} {xs : List V}, DpAll K H xs (bs.map sD) → xs.length = bs.length
  | [], _, h => by rw [dpa_nil h]; rfl
  | c :: bs, xs, h => by
    obtain ⟨v, r, rfl, h1, h2⟩ := dpa_cons h
    rw [List.length_cons, List.length_cons, dpa_lenS h2]
/-! ### least_ones -/
abbrev Srt (T : List Sn) : Prop := T.Pairwise fun a b => ltS b a = false
theorem sorted_T {n : Nat} {zs : List (V × Sn)} (hn : ∀ p ∈ zs, p.2.2.length = n) : Srt ((zs.mergeSort leS).map (·.2)) := by
  have h := PySem.W.sort_pairwise (PySem.W.sortLe_total (listOrd itemOrd) false fun p : V × Int × List Int => PySem.W.keyToks (encS p)) zs
  rw [Srt, List.pairwise_map]
  refine List.Pairwise.imp_of_mem ?_ h
  intro p q hp hq e
  have p1 := hn p ((List.mergeSort_perm zs leS).mem_iff.mp hp)
  have p2 := hn q ((List.mergeSort_perm zs leS).mem_iff.mp hq)
  exact leS_lt (p1.trans p2.symm) e
theorem Mini.perm {S L M : List Sn} (h : Mini S L) (p : M.Perm L) : Mini S M := ⟨fun x hx => h.sub x (p.mem_iff.mp hx), fun x hx => by
  obtain ⟨y, hy, c⟩ := h.cov x hx
  exact ⟨y, p.mem_iff.mpr hy, c⟩, fun x hx y hy c => h.anti x (p.mem_iff.mp hx) y (p.mem_iff.mp hy) c⟩
theorem asc_of {n : Nat} {L : List Sn} (hn : Lens n L) (s : Srt L) (nd : L.Nodup) : Asc L := by
  have h := List.Pairwise.and s nd
  refine List.Pairwise.imp_of_mem ?_ h
  intro x y hx hy e
  cases c : ltS x y with
  | true => rfl
  | false => exact absurd (ltS_tot ((hn x hx).trans (hn y hy).symm) c e.1) e.2
theorem paired_zip {α β : Type} {R : α → β → Prop} {xs : List α} {ys : List β} (h : Paired R xs ys) : ∀ p ∈ xs.zip ys, R p.1 p.2 := by
  induction h with
  | nil => intro p h; cases h
  | cons r _ ih =>
    intro p hp
    rcases List.mem_cons.mp hp with rfl | hp
    · exact r
    · exact ih p hp
theorem paired_of {α β : Type} {R : α → β → Prop} : ∀ {ps : List (α × β)}, (∀ p ∈ ps, R p.1 p.2) → Paired R (ps.map (·.1)) (ps.map (·.2))
  | [], _ => .nil
  | p :: ps, h => .cons (h p List.mem_cons_self) (paired_of fun q hq => h q (List.mem_cons_of_mem _ hq))
theorem fresh_zip {G : Hp} {vs : List V} {bs : List Sn} (h : FreshL G vs bs) : ∀ p ∈ vs.zip bs, FreshS G p.1 p.2 := paired_zip h.pr
theorem any_take {bs : List Sn} {p : Sn → Bool} {i : Nat} {b : Sn} (h : bs[i]? = some b) : (bs.take (i + 1)).any p = ((bs.take i).any p || p b) := by
  rw [take_snoc h, List.any_append]
  simp
theorem any_at {bs : List Sn} {p : Sn → Bool} {i : Nat} {b : Sn} (h : bs[i]? = some b) (e : p b = true) : bs.any p = true := List.any_eq_true.mpr ⟨b, List.mem_of_getElem? h, e⟩
/-! ### a dict whose keys are nested tuples, each value a list -/
abbrev Ner := NestedKey × Addr × Addr
def nrx (ks : List Ner) : List (NestedKey × Addr × Value) := ks.map fun x => (x.1, x.2.1, Value.ref x.2.2)
def nrP (P : Program) (w : World) (a : Addr) (ks : List Ner) (h : Heap) : Prop := ∃ o es ep, h.get? a = some o ∧ o.ExactDict ∧ o.data = .dict es ep ∧ es.toList = (nrx ks).map (entryOfKey (nestedKind P w)) ∧ ((nrx ks).map (·.1)).Nodup ∧ ks.length ≤ sizeLine ∧ (a == sysModules) = false
def NDR (P : Program) (w : World) (a : Addr) (ks : List Ner) : HO := .ext (nrP P w a ks)
def NKr (K : PySem.W.Frag) (H : Hp) (ks : List Ner) : Prop := ∀ x ∈ ks, Dp K H (.ref x.2.1) x.1.data ∧ x.1.depth ≤ 8
theorem NKr.monoQ {K : PySem.W.Frag} {H H' : Hp} {ks : List Ner} (s : SameQ H H') (h : NKr K H ks) : NKr K H' ks := fun x hx => ⟨dp_monoQ s (h x hx).1, (h x hx).2⟩
theorem NKr.mono {K : PySem.W.Frag} {H H' : Hp} {ks : List Ner} (s : Same H H') (h : NKr K H ks) : NKr K H' ks := fun x hx => ⟨dp_mono s (h x hx).1, (h x hx).2⟩
theorem ndr_ok {P : Program} {w : World} {H : Hp} {h : Heap} {a : Addr} {ks : List Ner} (e : nrP P w a ks h) : ObjOk P w H h a (NDR P w a ks) := by
  refine ⟨e, ?_, fun h1 h2 x k => ?_⟩
  · obtain ⟨o, _, _, ho, _⟩ := e
    exact ⟨o, ho⟩
  · obtain ⟨o, es, ep, ho, r⟩ := x
    exact ⟨o, es, ep, k o ho, r⟩
/-- where the list of a key stands -/
def valN (ks : List Ner) (k : NestedKey) : Option Addr := (ks.find? fun x => decide (x.1 = k)).map (·.2.2)
theorem atKey_nrx {ks : List Ner} {k : NestedKey} : (atKey (nrx ks) k).map (·.2) = (valN ks k).map Value.ref := by
  unfold atKey nrx valN
  induction ks with
  | nil => rfl
  | cons x ks ih =>
    rw [List.map_cons]
    by_cases c : x.1 = k
    · rw [List.find?_cons_of_pos (by simpa using c), List.find?_cons_of_pos (by simpa using c)]
      rfl
    · rw [List.find?_cons_of_neg (by simpa using c), List.find?_cons_of_neg (by simpa using c)]
      exact ih
section
variable {X : Cx} {pins : List (Addr × Obj)} {σ : L2.St} {H : Hp} {s : Shared}
theorem nr_dict {a : Addr} {ks : List Ner} (I : Inv X pins σ H s) (h : ObjOk X.prog X.w H s.heap a (NDR X.prog X.w a ks)) (hk : NKr X.K H ks) : s.heap.DictOfH (nestedKind X.prog X.w) a (nrx ks) := by
  obtain ⟨⟨o, es, ep, ho, h2, h3, h4, h5, _⟩, _⟩ := h
  refine ⟨o, es, ep, ho, h2, h3, h4, fun x hx => ?_, h5⟩
  obtain ⟨y, hy, rfl⟩ := List.mem_map.mp hx
  exact ⟨dp_nested I y.1 _ _ (hk y hy).1 rfl, (hk y hy).2⟩
/-- the receiver is such a dict -/
def tBMN (P : Program) (w : World) (r : V → List V → Hp → VK → Prop) (to : TE) (t : TA) : TE := fun σ H Q => to σ H fun x H1 => (∃ d ks, x = .ref d ∧ H1 d = some (NDR P w d ks)) ∧ t σ H1 fun xs H2 => r x xs H2 Q
theorem ndr_is {x : V} {v : Value} (I : Inv X pins σ H s) (r : RelV x v) (h : ∃ d ks, x = .ref d ∧ H d = some (NDR X.prog X.w d ks)) : s.TypeIs v "dict" ∧ ∀ a, v = .ref a → ∃ ob, s.heap.get? a = some ob ∧ ob.dict = none := by
  obtain ⟨d, ks, rfl, e⟩ := h
  cases r
  obtain ⟨⟨o, es, ep, ho, hx, _⟩, _⟩ := (show ObjOk X.prog X.w H s.heap d (NDR X.prog X.w d ks) from I.hok d _ e)
  exact ⟨⟨o, ho, hx.1⟩, fun a ea => by cases ea; exact ⟨o, ho, hx.2.1⟩⟩
theorem pe_bmN {name id : String} {r : V → List V → Hp → VK → Prop} {to : TE} {t : TA} {o e : Expr} {es : List Expr} {apos cpos : Pos} (pa : PlainAttrs "dict") (sl : Slot "dict" name id) (ty : typeOf (.builtin id) = pure (.type "method_descriptor")) (hm : MtR X id r) (ho : PE X o to) (ha : PA X (e :: es) t)
    (b0 : attributeBase o name X.env (eval o X.env) = eval o X.env := by rfl)
    (b1 : ((backTo cpos (starEach (e :: es) X.env)).all (fun x => !x.1) && (backToKw cpos (keywordEach [] X.env)).all (fun x => x.1.isSome) && decide ((e :: es).length + ([] : List Keyword).length + (if ([] : List Keyword).isEmpty then 0 else 1) < 30)) = true := by rfl)
    (b2 : (apos.endLine == cpos.line) = true := by rfl) (b3 : starEach (e :: es) X.env = (false, eval e X.env) :: starEach es X.env := by rfl) (b4 : (backTo cpos (starEach es X.env)).any (·.1) = false := by rfl) :
    PE X (.Call (.Attribute o name apos) (e :: es) [] cpos) (tBMN X.prog X.w r to t) :=
  ⟨fun pins s σ H Q I h => wpAny_Call_method_late b0 b1 b2 rfl (thn (ho.run pins s σ H _ I h) fun v s1 q => by
    obtain ⟨x, H1, I1, r1, td, q1⟩ := q
    obtain ⟨t1, t2⟩ := ndr_is I1 r1 td
    have args := ha.run cpos pins s1 σ H1 _ I1 q1
    rw [b3] at args
    refine ⟨"dict", id, pa, sl, ty, t1, t2, ?_⟩
    rw [b3]
    refine Calls.callWith_builtin (by show (false || (backTo cpos (starEach es X.env)).any (·.1)) = false; rw [b4]; rfl) (Calls.evalArgs_plain (thn args fun us s2 z => ?_))
    obtain ⟨vs, H2, I2, r2, q2⟩ := z
    exact hm pins s2 σ H2 x vs v us Q I2 r1 r2 q2)⟩
def rSetDefN (P : Program) (w : World) (K : PySem.W.Frag) : V → List V → Hp → VK → Prop := fun x xs H Q => ∃ (d b l : Addr) (k : NestedKey) (ks : List Ner), x = .ref d ∧ xs = [.ref b, .ref l] ∧ H d = some (NDR P w d ks) ∧ NKr K H ks ∧ Dp K H (.ref b) k.data ∧ k.depth ≤ 8 ∧ ks.length < sizeLine ∧
  (∀ a, valN ks k = some a → Q (.ref a) H) ∧ (valN ks k = none → Q (.ref l) (upd H d (NDR P w d (ks ++ [(k, b, l)]))))
theorem atKey_none {ks : List Ner} {k : NestedKey} (h : valN ks k = none) : atKey (nrx ks) k = none := by
  have e := atKey_nrx (ks := ks) (k := k)
  rw [h] at e
  cases e2 : atKey (nrx ks) k with
  | none => rfl
  | some p => rw [e2] at e; cases e
theorem atKey_some {ks : List Ner} {k : NestedKey} {p : Addr × Value} (h : atKey (nrx ks) k = some p) : ∃ a, valN ks k = some a ∧ p.2 = Value.ref a := by
  have e := atKey_nrx (ks := ks) (k := k)
  rw [h] at e
  cases e2 : valN ks k with
  | none => rw [e2] at e; cases e
  | some a => rw [e2] at e; exact ⟨a, rfl, Option.some.inj e⟩
theorem nrx_snoc {ks : List Ner} {x : Ner} : nrx (ks ++ [x]) = nrx ks ++ [(x.1, x.2.1, Value.ref x.2.2)] := by
  unfold nrx
  rw [List.map_append]
  rfl
theorem mt_setdefN (K : PySem.W.Frag) (hu : X.A.units + 64 < cLine) (h : X.K = K := by rfl) : MtR X "dict.setdefault" (rSetDefN X.prog X.w K) := by
  subst h
  intro pins s σ H x xs v us Q I rx rxs h
  obtain ⟨d, b, l, k, ks, rfl, rfl, ed, hk, db, dk, hl, q1, q2⟩ := h
  cases rx
  obtain ⟨u1, u2, rfl, r1, r2⟩ := vals2 rxs
  cases (show u1 = Value.ref b from r1)
  cases (show u2 = Value.ref l from r2)
  have ok := I.hok d _ ed
  have dd := nr_dict I ok hk
  obtain ⟨⟨_, _, _, _, _, _, _, _, hl0, low⟩, _⟩ := ok
  refine call_setdefault_heap (knd := nestedKind X.prog X.w) (hsz := by unfold nrx; rw [List.length_map]; omega) (show X.A.units + 1 + 8 < cLine by omega) ⟨dp_nested I k _ _ db rfl, dk⟩ low dd (fun p hp => ?_) fun hn h' dd' hs => ?_
  · obtain ⟨a, e1, e2⟩ := atKey_some hp
    rw [e2]
    exact ⟨.ref a, H, I.tok _, rfl, q1 a e1⟩
  · have e : valN ks k = none := by
      cases e2 : valN ks k with
      | none => rfl
      | some a =>
        have z := atKey_nrx (ks := ks) (k := k)
        rw [hn, e2] at z
        cases z
    rw [storedH_new hn] at dd'
    have e3 : nrx ks ++ [(k, b, Value.ref l)] = nrx (ks ++ [(k, b, l)]) := (nrx_snoc (ks := ks) (x := (k, b, l))).symm
    rw [e3] at dd'
    obtain ⟨o2, es, ep, h1, h2, h3, h4, _, h5⟩ := dd'
    have len : (ks ++ [(k, b, l)]).length ≤ sizeLine := by rw [List.length_append, List.length_singleton]; omega
    exact ⟨.ref l, _, d_write I (by rw [ed]; exact True.intro) hs ⟨o2, h1⟩ (ndr_ok ⟨o2, es, ep, h1, h2, h3, h4, h5, len, low⟩), rfl, q2 e⟩
def rGetN (P : Program) (w : World) (K : PySem.W.Frag) : V → List V → Hp → VK → Prop := fun x xs H Q => ∃ (d b l : Addr) (k : NestedKey) (ks : List Ner), x = .ref d ∧ xs = [.ref b, .ref l] ∧ H d = some (NDR P w d ks) ∧ NKr K H ks ∧ Dp K H (.ref b) k.data ∧ k.depth ≤ 8 ∧ Q (.ref ((valN ks k).getD l)) H
theorem mt_getN (K : PySem.W.Frag) (hu : X.A.units + 64 < cLine) (h : X.K = K := by rfl) : MtR X "dict.get" (rGetN X.prog X.w K) := by
  subst h
  intro pins s σ H x xs v us Q I rx rxs h
  obtain ⟨d, b, l, k, ks, rfl, rfl, ed, hk, db, dk, q⟩ := h
  cases rx
  obtain ⟨u1, u2, rfl, r1, r2⟩ := vals2 rxs
  cases (show u1 = Value.ref b from r1)
  cases (show u2 = Value.ref l from r2)
  have ok := I.hok d _ ed
  have dd := nr_dict I ok hk
  obtain ⟨⟨_, _, _, _, _, _, _, _, _, low⟩, _⟩ := ok
  refine call_meetsIn PySem.F.slot_dict_get dd.typeIs PySem.F.entry_dict_get (PySem.F.args_dict_get_3 _ _ _) (meetsH_dict_get_default (nestedKind X.prog X.w) d b low (Value.ref l)) ⟨show X.A.units + 1 + 8 < cLine by omega, k, _, ⟨dp_nested I k _ _ db rfl, dk⟩, dd, ?_⟩
  rw [atKey_nrx]
  refine ⟨.ref ((valN ks k).getD l), H, I.tok _, ?_, q⟩
  cases valN ks k <;> rfl
/-- a new one -/
def tDNewR (P : Program) (w : World) : TE := fun _ H Q => ∀ p, H p = none → Q (.ref p) (upd H p (NDR P w p []))
theorem pe_dnewR {pos : Pos} : PE X (.Dict [] [] pos) (tDNewR X.prog X.w) := ⟨fun pins s σ H Q I h =>
  wpAny_Dict_empty ⟨.ref s.heap.objs.size, _, I.laid (a := s.heap.objs.size) (o := NDR X.prog X.w s.heap.objs.size []) (t' := s.toks) (fun _ _ q => Heap.get?_push_of_some _ q) (Nat.le_refl _)
    (ndr_ok ⟨_, #[], 0, Heap.get?_push_size _ rfl, ⟨rfl, rfl, rfl⟩, rfl, rfl, List.nodup_nil, Nat.zero_le _, beq_eq_false_iff_ne.mpr (Ne.symm (Nat.ne_of_lt I.big))⟩), rfl, h _ (I.hok.fresh (Nat.le_refl _))⟩⟩
end
/-! ### sum(d.values()), the values numbers -/
def valsO (p d : Addr) : HO := .ext fun h => h.IsValuesView p d
theorem valsO_ok {P : Program} {w : World} {H : Hp} {h : Heap} {p d : Addr} (e : h.IsValuesView p d) : ObjOk P w H h p (valsO p d) := by
  refine ⟨e, ?_, fun h1 h2 x k => ?_⟩
  · obtain ⟨o, ho, _⟩ := e
    exact ⟨o, ho⟩
  · obtain ⟨o, ho, r⟩ := x
    exact ⟨o, k o ho, r⟩
def rValsK : V → List V → Hp → VK → Prop := fun x xs H Q => ∃ (a : Addr) (kvs : List (L2.Key × V)), x = .ref a ∧ xs = [] ∧ H a = some (.dK kvs) ∧ ∀ p, H p = none → Q (.ref p) (upd H p (valsO p a))
def rSumV : List V → Hp → VK → Prop := fun vs H Q => ∃ (p a : Addr) (ns : Prs), vs = [.ref p] ∧ H p = some (valsO p a) ∧ H a = some (.dK (ns.map nnE)) ∧ Q (.int (ns.map (·.2)).sum) H
theorem preSum_take (l : List Int) : ∀ n, n ≤ l.length → preSum (fun i => l.getD i 0) n = (l.take n).sum
  | 0, _ => rfl
  | n + 1, h => by
    have ih := preSum_take l n (by omega)
    show preSum (fun i => l.getD i 0) n + l.getD n 0 = _
    rw [ih, take_snoc (gd (show n < l.length by omega)), List.sum_append, List.sum_cons, List.sum_nil]
    omega
section
variable {X : Cx}
theorem mt_valsK : MtR X "dict.values" rValsK := by
  intro pins s σ H x xs v us Q I rx rxs h
  obtain ⟨a, kvs, rfl, rfl, ha, q⟩ := h
  cases rx
  cases rxs
  obtain ⟨_, hsys, vs, rel, dof⟩ := dk_of I.hok ha
  refine call_meetsIn PySem.F.slot_dict_values dof.typeIs PySem.F.entry_dict_values (PySem.F.args_dict_values_1 _) (meets_dict_values (mixKind X.prog X.w) a hsys) ⟨⟨vs, dof⟩, ?_⟩
  exact ⟨.ref s.heap.objs.size, _, I.laid (t' := s.toks) (fun b u e => Heap.get?_push_of_some _ e) (Nat.le_refl _) (valsO_ok ⟨_, Heap.get?_push_size _ rfl, rfl, rfl⟩), rfl, q _ (I.hok.fresh (Nat.le_refl _))⟩
theorem cr_sumV (hc : X.calm = true) : CallR X (.builtin "sum") rSumV := by
  intro pins s σ H xs us Q I r h
  obtain ⟨p, a, ns, rfl, hp, ha, q⟩ := h
  obtain rfl := Vals.ref1 r
  have view : s.heap.IsValuesView p a := (show ObjOk X.prog X.w H s.heap p (valsO p a) from I.hok p _ hp).1
  obtain ⟨_, hsys, vs, rel, dof⟩ := dk_of I.hok ha
  obtain ⟨ep, dat⟩ := dof.dictAt
  have l1 : (ns.map nnE).length = vs.length := rel.length
  rw [List.length_map] at l1
  have hval : ∀ (i : Nat) (v : Value), (∃ k, vs[i]? = some (k, v)) → ∃ t, v = Value.int ((ns.map (·.2)).getD i 0) t := fun i v ⟨k, hk⟩ => by
    have lt : i < ns.length := by rw [l1]; exact (List.getElem?_eq_some_iff.mp hk).1
    have e1 : ns[i]? = some ns[i] := List.getElem?_eq_getElem lt
    obtain ⟨⟨k2, v2⟩, hv, r1, r2⟩ := paired_get rel (show (ns.map nnE)[i]? = some (nnE ns[i]) by rw [List.getElem?_map, e1]; rfl)
    rw [hk] at hv
    cases hv
    obtain ⟨t, e2⟩ := (show ∃ t, v = Value.int ns[i].2 t from r2)
    refine ⟨t, ?_⟩
    rw [e2, List.getD_eq_getElem?_getD, List.getElem?_map, e1]
    rfl
  have hlt : a < s.heap.objs.size := dat.lt_size
  refine call_sum_walkAnyS (wpAny_pyIter_values (v := p) (d := a) view dat ?_)
  refine ⟨_, _, _, _, _, _, _, _, rfl, (Walks.dictValues (knd := mixKind X.prog X.w) (A := X.A.in1) (I.ok.hd hc) s.heap.objs.size a (Nat.ne_of_lt hlt) vs ep).toS, ⟨⟨_, Heap.get?_push_size _ rfl, rfl, rfl⟩, dat.push _⟩, fun b hb => ?_, hval, fun s' t' hm => ?_⟩
  · show b < (s.heap.push _).objs.size
    rw [Heap.size_push]
    rcases List.mem_cons.mp hb with e | hb
    · rw [e]; exact Nat.lt_succ_self _
    · rw [List.mem_singleton.mp hb]; exact Nat.lt_succ_of_lt hlt
  · have hk : ∀ b o, s.heap.get? b = some o → s'.heap.get? b = some o := fun b o e =>
      hm.heap b o (fun hI => absurd (Heap.lt_size e) (by rw [List.mem_singleton.mp hI]; exact Nat.lt_irrefl _)) (Heap.get?_push_of_some _ e)
    rw [Moved.eq_with hm]
    have e : preSum (fun i => (ns.map (·.2)).getD i 0) vs.length = (ns.map (·.2)).sum := by
      rw [preSum_take _ _ (by rw [List.length_map]; omega), ← l1]
      have l2 : (ns.map (·.2)).length = ns.length := List.length_map _
      rw [← l2, List.take_length]
    rw [e]
    exact ⟨.int _, H, I.kept (t' := s'.toks) hk, ⟨t', rfl⟩, q⟩
end
/-! ### values by nested keys -/
section
variable {α : Type} (vl : α → V) (ky : α → NestedKey)
abbrev grpN (ky : α → NestedKey) (Z : List α) (k : NestedKey) : List α := Z.filter fun z => decide (ky z = k)
theorem grpn_snoc (Z : List α) (z : α) (k : NestedKey) : grpN ky (Z ++ [z]) k = grpN ky Z k ++ (if ky z = k then [z] else []) := by
  unfold grpN
  rw [List.filter_append]
  by_cases h : ky z = k
  · rw [if_pos h, List.filter_cons_of_pos (by simpa using h)]
    rfl
  · rw [if_neg h, List.filter_cons_of_neg (by simpa using h)]
    rfl
structure GrpN (P : Program) (w : World) (K : PySem.W.Frag) (H H1 : Hp) (D : Addr) (M : NestedKey → Option Addr) (Z : List α) : Prop where
  dict : ∃ ks, H1 D = some (NDR P w D ks) ∧ NKr K H1 ks ∧ ks.length ≤ Z.length ∧ ∀ k, valN ks k = M k
  lists : ∀ k a, M k = some a → H1 a = some (.lst ((grpN ky Z k).map vl))
  inj : ∀ k k' a, M k = some a → M k' = some a → k = k'
  new : ∀ k a, M k = some a → H a = none
  newD : H D = none
  has : ∀ z ∈ Z, M (ky z) ≠ none
variable {vl ky} {P : Program} {w : World} {K : PySem.W.Frag} {H H1 : Hp} {D : Addr} {M : NestedKey → Option Addr} {Z : List α}
theorem GrpN.mono {H2 : Hp} (g : GrpN vl ky P w K H H1 D M Z) (s : Same H1 H2) : GrpN vl ky P w K H H2 D M Z :=
  ⟨let ⟨ks, h1, h2, h3, h4⟩ := g.dict; ⟨ks, s _ _ h1, h2.mono s, h3, h4⟩, fun k a h => s _ _ (g.lists k a h), g.inj, g.new, g.newD, g.has⟩
theorem GrpN.base {H0 : Hp} (g : GrpN vl ky P w K H H1 D M Z) (s : Same H0 H) : GrpN vl ky P w K H0 H1 D M Z :=
  ⟨g.dict, g.lists, g.inj, fun k a h => s.free (g.new k a h), s.free g.newD, g.has⟩
theorem GrpN.up {tl : Addr} {o : HO} (g : GrpN vl ky P w K H H1 D M Z) (n : ∀ k, M k ≠ some tl) (nD : D ≠ tl) : GrpN vl ky P w K (upd H tl o) H1 D M Z :=
  ⟨g.dict, g.lists, g.inj, fun k a h => by rw [upd_ne fun z => n k (by rw [← z]; exact h)]; exact g.new k a h, by rw [upd_ne nD]; exact g.newD, g.has⟩
theorem GrpN.not (g : GrpN vl ky P w K H H1 D M Z) {a : Addr} (n : H1 a = none) : (∀ k, M k ≠ some a) ∧ D ≠ a :=
  ⟨fun k z => (by have := g.lists k a z; rw [n] at this; cases this), fun z => (by obtain ⟨ks, h, _⟩ := g.dict; rw [z, n] at h; cases h)⟩
theorem valN_snoc {ks : List Ner} {x : Ner} {k : NestedKey} (h : valN ks x.1 = none) : valN (ks ++ [x]) k = if x.1 = k then some x.2.2 else valN ks k := by
  unfold valN at h ⊢
  rw [List.find?_append]
  by_cases e : x.1 = k
  · subst e
    rw [if_pos rfl]
    cases e2 : ks.find? (fun y => decide (y.1 = x.1)) with
    | some y => rw [e2] at h; cases h
    | none =>
      rw [Option.none_or, List.find?_cons_of_pos (by simp)]
      rfl
  · rw [if_neg e]
    cases e2 : ks.find? (fun y => decide (y.1 = k)) with
    | some y => rfl
    | none =>
      rw [Option.none_or, List.find?_cons_of_neg (by simpa using e)]
      rfl
theorem GrpN.step {z : α} {kb nl : Addr} {Q : VK} (g : GrpN vl ky P w K H H1 D M Z) (s1 : Same H H1) (nn : H1 nl = none) (hk : Dp K (upd H1 nl (.lst [])) (.ref kb) (ky z).data) (dep : (ky z).depth ≤ 8) (hz : Z.length ≤ 1000000)
    (q : ∀ H2 M', Same H H2 → GrpN vl ky P w K H H2 D M' (Z ++ [z]) → Q .non H2) :
    rSetDefN P w K (.ref D) [.ref kb, .ref nl] (upd H1 nl (.lst [])) (fun v H3 => tyV K "list" v H3 ∧ rAppend v [vl z] H3 Q) := by
  obtain ⟨ks, hD, nk, kl, hv⟩ := g.dict
  have s2 : Same H1 (upd H1 nl (.lst [])) := same_new nn
  have nD : D ≠ nl := fun e => by rw [e, nn] at hD; cases hD
  have lsz : ∀ k, (grpN ky Z k).length ≤ Z.length := fun k => List.length_filter_le _ _
  refine ⟨D, kb, nl, ky z, ks, rfl, rfl, s2 _ _ hD, nk.mono s2, hk, dep, szn (m := 1000000) (by omega) (by omega), fun a ha => ?_, fun hn => ?_⟩
  · have e : M (ky z) = some a := by rw [← hv]; exact ha
    have hla := s2 _ _ (g.lists _ a e)
    have aD : a ≠ D := fun e => by rw [e, s2 _ _ hD] at hla; cases hla
    have qT : SameT (upd H1 nl (.lst [])) (upd (upd H1 nl (.lst [])) a (.lst ((grpN ky Z (ky z)).map vl ++ [vl z]))) := put_lst hla
    refine ⟨.inl ⟨rfl, _, sq hla⟩, a, _, vl z, rfl, rfl, hla, szn (m := 1000000) (by rw [List.length_map]; have := lsz (ky z); omega) (by omega), ?_⟩
    refine q _ M (Same.mut (s1.trans s2) (g.new _ a e)) ⟨⟨ks, ?_, fun x hx => ?_, by rw [List.length_append]; omega, hv⟩, fun k a' hk' => ?_, g.inj, g.new, g.newD, fun z' hz' => ?_⟩
    · rw [upd_ne aD.symm]
      exact s2 _ _ hD
    · obtain ⟨h1, h2⟩ := nk x hx
      refine ⟨dp_keyT (fun b ys hb => ?_) (fun b o ys hb => ?_) x.1 _ (dp_mono s2 h1), h2⟩
      · exact qT _ _ hb (fun _ z => by cases z) (fun z => z)
      · exact qT _ _ hb (fun _ z => by cases z) (fun z => z)
    · by_cases ea : a' = a
      · subst ea
        obtain rfl := g.inj _ _ _ hk' e
        rw [upd_same, grpn_snoc, if_pos rfl, List.map_append]
        rfl
      · rw [upd_ne ea, grpn_snoc, if_neg fun y => ea (by rw [← y, e] at hk'; cases hk'; rfl), List.append_nil]
        exact s2 _ _ (g.lists k a' hk')
    · rcases List.mem_append.mp hz' with h | h
      · exact g.has z' h
      · rw [List.mem_singleton.mp h, e]
        exact fun y => (nomatch y)
  · have e : M (ky z) = none := by rw [← hv]; exact hn
    have e1 : (upd (upd H1 nl (.lst [])) D (NDR P w D (ks ++ [(ky z, kb, nl)]))) nl = some (.lst []) := by rw [upd_ne nD.symm]; exact upd_same
    have nlH : H nl = none := s1.free nn
    have notin : ∀ k, M k ≠ some nl := fun k y => by
      have := g.lists k nl y
      rw [nn] at this
      cases this
    have zero : grpN ky Z (ky z) = [] := by
      refine List.filter_eq_nil_iff.mpr fun z2 hz2 y => ?_
      have := g.has z2 hz2
      rw [of_decide_eq_true y] at this
      exact this e
    refine ⟨.inl ⟨rfl, _, sq e1⟩, nl, [], vl z, rfl, rfl, e1, szn (m := 0) (Nat.le_refl _) (by omega), ?_⟩
    have q2 : SameQ (upd H1 nl (.lst [])) (upd (upd H1 nl (.lst [])) D (NDR P w D (ks ++ [(ky z, kb, nl)]))) := put_quiet (s2 _ _ hD) trivial
    have q3 : SameT (upd (upd H1 nl (.lst [])) D (NDR P w D (ks ++ [(ky z, kb, nl)]))) (upd (upd (upd H1 nl (.lst [])) D (NDR P w D (ks ++ [(ky z, kb, nl)]))) nl (.lst ([] ++ [vl z]))) := put_lst e1
    have q23 := q2.t.trans q3
    have tup : ∀ x : NestedKey, ∀ v, Dp K (upd H1 nl (.lst [])) v x.data → Dp K (upd (upd (upd H1 nl (.lst [])) D (NDR P w D (ks ++ [(ky z, kb, nl)]))) nl (.lst ([] ++ [vl z]))) v x.data := fun x v h =>
      dp_keyT (fun b ys hb => q23 _ _ hb (fun _ y => by cases y) (fun y => y)) (fun b o ys hb => q23 _ _ hb (fun _ y => by cases y) (fun y => y)) x v h
    refine q _ (fun k => if ky z = k then some nl else M k) (Same.mut (Same.mut (s1.trans s2) g.newD) nlH) ⟨⟨ks ++ [(ky z, kb, nl)], ?_, fun x hx => ?_, by rw [List.length_append, List.length_append]; exact Nat.succ_le_succ kl, fun k => ?_⟩, fun k a' hk' => ?_, fun k k' a' h1 h2 => ?_, fun k a' hk' => ?_, g.newD, fun z' hz' => ?_⟩
    · rw [upd_ne nD]
      exact upd_same
    · rcases List.mem_append.mp hx with h | h
      · obtain ⟨h1, h2⟩ := nk x h
        exact ⟨tup _ _ (dp_mono s2 h1), h2⟩
      · rw [List.mem_singleton.mp h]
        exact ⟨tup _ _ hk, dep⟩
    · rw [valN_snoc hn, hv]
    · by_cases et : ky z = k
      · rw [if_pos et] at hk'
        cases hk'
        rw [upd_same, grpn_snoc, if_pos et, ← et, zero]
        rfl
      · rw [if_neg et] at hk'
        have an : a' ≠ nl := fun y => notin k (by rw [← y]; exact hk')
        have ha := g.lists k a' hk'
        have aD : a' ≠ D := fun y => by rw [y, hD] at ha; cases ha
        rw [upd_ne an, upd_ne aD, grpn_snoc, if_neg et, List.append_nil]
        exact s2 _ _ ha
    · by_cases et : ky z = k
      · rw [if_pos et] at h1
        cases h1
        by_cases et' : ky z = k'
        · rw [← et, ← et']
        · rw [if_neg et'] at h2
          exact absurd h2 (notin k')
      · rw [if_neg et] at h1
        by_cases et' : ky z = k'
        · rw [if_pos et'] at h2
          cases h2
          exact absurd h1 (notin k)
        · rw [if_neg et'] at h2
          exact g.inj _ _ _ h1 h2
    · by_cases et : ky z = k
      · rw [if_pos et] at hk'
        cases hk'
        exact nlH
      · rw [if_neg et] at hk'
        exact g.new _ _ hk'
    · show (if ky z = ky z' then some nl else M (ky z')) ≠ none
      by_cases et : ky z = ky z'
      · rw [if_pos et]
        exact fun y => (nomatch y)
      · rw [if_neg et]
        rcases List.mem_append.mp hz' with h | h
        · exact g.has z' h
        · rw [List.mem_singleton.mp h] at et
          exact absurd rfl et
end
theorem setdefN_mono {P : Program} {w : World} {K : PySem.W.Frag} {x : V} {xs : List V} {H : Hp} {Q Q' : VK} (h : rSetDefN P w K x xs H Q) (m : ∀ v H', Q v H' → Q' v H') : rSetDefN P w K x xs H Q' := by
  obtain ⟨d, b, l, k, ks, e1, e2, ed, hk, db, dk, hl, q1, q2⟩ := h
  exact ⟨d, b, l, k, ks, e1, e2, ed, hk, db, dk, hl, fun a ha => m _ _ (q1 a ha), fun hn => m _ _ (q2 hn)⟩
theorem dpa_pairs {α : Type} {K : PySem.W.Frag} {H : Hp} {f : α → PyData} : ∀ l : List (V × α), (∀ p ∈ l, Dp K H p.1 (f p.2)) → DpAll K H (l.map fun p => p.1) (l.map fun p => f p.2)
  | [], _ => .nil
  | p :: l, h => .cons (h p List.mem_cons_self) (dpa_pairs l fun q hq => h q (List.mem_cons_of_mem _ hq))
/-! ### moves by their targets -/
def tkN : Option Nat → NestedKey
  | none => .none
  | some p => .num (p : Int)
def nkT (s : Int) (t : Option Nat) : NestedKey := .tup [.num s, tkN t]
theorem nkT_inj {s s' : Int} {t t' : Option Nat} (h : nkT s t = nkT s' t') : s = s' ∧ t = t' := by
  unfold nkT at h
  injection h with h
  injection h with h1 h2
  injection h1 with h1
  injection h2 with h2 _
  refine ⟨h1, ?_⟩
  cases t with
  | none => cases t' with
    | none => rfl
    | some p => cases h2
  | some p => cases t' with
    | none => cases h2
    | some p' =>
      injection h2 with h2
      rw [show p = p' by omega]
def tgs (m : MvT) : List (Option Nat) := if m.st ≠ m.ns ∨ m.sh ≠ [] then [none] else if m.sd = none ∨ m.sd = some m.np then [some m.np] else [some m.np, m.sd]
def selM (ms : List MvT) (s : Int) (t : Option Nat) : List MvT := ms.filter fun m => decide ((m.ns : Int) = s ∧ t ∈ tgs m)
theorem tgs_nd (m : MvT) : (tgs m).Nodup := by
  unfold tgs
  split
  · simp
  · split
    · simp
    · rename_i h
      have h2 : ¬ m.sd = some m.np := fun z => h (.inr z)
      refine List.nodup_cons.mpr ⟨fun z => ?_, by simp⟩
      exact h2 (List.mem_singleton.mp z).symm
theorem tgs_len (m : MvT) : (tgs m).length ≤ 2 := by
  unfold tgs
  split
  · show 1 ≤ 2; decide
  · split
    · show 1 ≤ 2; decide
    · show 2 ≤ 2; decide
/-- the dict of the moves -/
def MbT (P : Program) (w : World) (K : PySem.W.Frag) (H : Hp) (d : Addr) (ms : List MvT) : Prop := ∃ ks, H d = some (NDR P w d ks) ∧ NKr K H ks ∧ ∀ (s : Int) (t : Option Nat),
  (∀ l, valN ks (nkT s t) = some l → ∃ xs, H l = some (.lst xs) ∧ DpAll K H xs ((selM ms s t).map MvT.data)) ∧ (valN ks (nkT s t) = none → selM ms s t = [])
section
variable {P : Program} {w : World} {K : PySem.W.Frag} {mg : Str → Option Value} {base : Heap}
abbrev s_moves_by_target : Stmt := topS 24
theorem sc_moves_by_target : FnScope ["machine", "moves", "move", "state", "_", "next_state", "next_place", "started", "shifts", "targets", "target"] ["machine"] (defScope s_moves_by_target) := ⟨rfl, rfl, rfl, by decide +kernel, rfl, by decide +kernel, by decide +kernel⟩
-- moves_by_target slots: machine=0 moves=1 move=2 state=3 _=4 next_state=5 next_place=6 started=7 shifts=8 targets=9 target=10 globals: 
def spMbt (P : Program) (w : World) (K : PySem.W.Frag) : Sp := fun vs H Q _ => ∃ (v : V) (M : MT), vs = [v] ∧ Dp K H v M.data ∧ M.moves.length ≤ 100000 ∧ ∀ H' d, Same H H' → H d = none → MbT P w K H' d M.moves → Q (.ref d) H'
abbrev Mz := (V × MvT) × Option Nat
abbrev mzV (z : Mz) : V := z.1.1
abbrev mzK (z : Mz) : NestedKey := nkT (z.1.2.ns : Int) z.2
def mzs (ps : List (V × MvT)) : List Mz := ps.flatMap fun p => (tgs p.2).map fun t => (p, t)
theorem mzs_snoc (ps : List (V × MvT)) (p : V × MvT) : mzs (ps ++ [p]) = mzs ps ++ (tgs p.2).map fun t => (p, t) := by
  unfold mzs
  rw [List.flatMap_append, List.flatMap_cons, List.flatMap_nil, List.append_nil]
theorem mzs_len : ∀ ps : List (V × MvT), (mzs ps).length ≤ 2 * ps.length
  | [] => Nat.le_refl _
  | p :: ps => by
    have h1 := mzs_len ps
    have h2 := tgs_len p.2
    unfold mzs at h1 ⊢
    rw [List.flatMap_cons, List.length_append, List.length_map, List.length_cons]
    omega
theorem one_filt {t : Option Nat} : ∀ {l : List (Option Nat)}, l.Nodup → l.filter (fun x => decide (x = t)) = if t ∈ l then [t] else []
  | [], _ => by rw [if_neg (fun h => by cases h)]; rfl
  | x :: l, h => by
    obtain ⟨h1, h2⟩ := List.nodup_cons.mp h
    have ih := one_filt (t := t) h2
    by_cases e : x = t
    · subst e
      rw [List.filter_cons_of_pos (by simp), ih, if_neg h1, if_pos List.mem_cons_self]
    · rw [List.filter_cons_of_neg (by simpa using e), ih]
      by_cases c : t ∈ l
      · rw [if_pos c, if_pos (List.mem_cons_of_mem _ c)]
      · rw [if_neg c, if_neg fun z => by rcases List.mem_cons.mp z with z | z; exact e z.symm; exact c z]
theorem mzs_grp (s : Int) (t : Option Nat) : ∀ ps : List (V × MvT), (grpN mzK (mzs ps) (nkT s t)).map (fun z => z.1) = ps.filter fun p => decide ((p.2.ns : Int) = s ∧ t ∈ tgs p.2)
  | [] => rfl
  | p :: ps => by
    have ih := mzs_grp s t ps
    have e : mzs (p :: ps) = ((tgs p.2).map fun t => (p, t)) ++ mzs ps := rfl
    have e2 : grpN mzK (((tgs p.2).map fun t => (p, t)) ++ mzs ps) (nkT s t) = grpN mzK ((tgs p.2).map fun t => (p, t)) (nkT s t) ++ grpN mzK (mzs ps) (nkT s t) := List.filter_append _ _
    rw [e, e2, List.map_append, ih]
    have e3 : (grpN mzK ((tgs p.2).map fun t => (p, t)) (nkT s t)).map (fun z => z.1) = if (p.2.ns : Int) = s ∧ t ∈ tgs p.2 then [p] else [] := by
      unfold grpN
      rw [List.filter_map, List.map_map]
      by_cases hs : (p.2.ns : Int) = s
      · have e4 : ((fun z : Mz => decide (mzK z = nkT s t)) ∘ fun t => (p, t)) = fun x => decide (x = t) := by
          funext x
          exact decide_eq_decide.mpr ⟨fun h => (nkT_inj h).2, fun h => by rw [h]; show nkT (p.2.ns : Int) t = _; rw [hs]⟩
        rw [e4, one_filt (tgs_nd p.2)]
        by_cases c : t ∈ tgs p.2
        · rw [if_pos c, if_pos ⟨hs, c⟩]
          rfl
        · rw [if_neg c, if_neg fun z => c z.2]
          rfl
      · have e4 : (tgs p.2).filter ((fun z : Mz => decide (mzK z = nkT s t)) ∘ fun t => (p, t)) = [] := List.filter_eq_nil_iff.mpr fun x _ h => hs (nkT_inj (of_decide_eq_true h)).1
        rw [e4, if_neg fun z => hs z.1]
        rfl
    rw [e3]
    by_cases c : (p.2.ns : Int) = s ∧ t ∈ tgs p.2
    · rw [if_pos c, List.filter_cons, if_pos (decide_eq_true c)]
      rfl
    · rw [if_neg c, List.filter_cons, if_neg fun z => c (of_decide_eq_true z)]
      rfl
set_option maxHeartbeats 1000000 in
theorem fd_moves_by_target {f : Addr} {fd : FuncData} (F : Fun K "moves_by_target" "moves_by_target" s_moves_by_target f fd) (m : mg "moves_by_target" = some (.ref f)) : Fd P w K mg base "moves_by_target" ["machine"] 1 (spMbt P w K) := by
  refine ⟨f, fd, F.ok sc_moves_by_target (fun vs H Q E h => ?_) (fun cdv A outer s H vs Q E hr h => ?_), m, F.kp, F.binds (ps := ["machine"]) fun _ _ _ _ _ _ us hl => match us, hl with | [_], _ => rfl⟩
  · obtain ⟨v, M, rfl, _⟩ := h
    rfl
  obtain ⟨v, M, rfl, hd, hl, q⟩ := h
  obtain ⟨am, sv, ma, mxs, rfl, ham, _, hma, hmxs⟩ := dp_mt hd
  have mxl := dpa_map_len hmxs
  refine ⟨_, (pss_cons (ps_set (i := 1) sc_moves_by_target.nd rfl (Or.inl rfl) pe_dnewR)
 (pss_cons (ps_for PassesOwn.never rfl (piL K (pe_ix (ixT K) (pv 0) pe_int (fun _ _ => rfl))) (pg_name (i := 2) sc_moves_by_target.nd rfl (Or.inl rfl))
 (pss_cons (ps_asg (pv 2) (pg_tup rfl (pgs_cons (pg_name (i := 3) sc_moves_by_target.nd rfl (Or.inl rfl)) (pgs_cons (pg_name (i := 4) sc_moves_by_target.nd rfl (Or.inl rfl)) (pgs_cons (pg_name (i := 5) sc_moves_by_target.nd rfl (Or.inl rfl)) (pgs_cons (pg_name (i := 6) sc_moves_by_target.nd rfl (Or.inl rfl)) (pgs_cons (pg_name (i := 7) sc_moves_by_target.nd rfl (Or.inl rfl)) (pgs_cons (pg_name (i := 8) sc_moves_by_target.nd rfl (Or.inl rfl)) pgs_nil))))))))
 (pss_cons (ps_set (i := 9) sc_moves_by_target.nd rfl (Or.inl rfl) (pe_lst (pa_cons (pv 6) (pa_cons (pv 7) pa_nil))))
 (C8.pss_cut (ps_if (PW.pt (pw_or (pt_cmpR op_ne (pv 3) (pv 5) (nomark _)) (pw_or1 (ptTru K (pv 8) (by intro _; rfl)))))
 (pss_one (ps_set (i := 9) sc_moves_by_target.nd rfl (Or.inl rfl) (pe_lst (pa_cons pe_non pa_nil))))
 (pss_one (ps_if (PW.pt (pw_or (pt_cmpR op_isN (pv 7) pe_non (nomark _)) (pw_or1 (pt_cmpR op_eq (pv 7) (pv 6) (nomark _)))))
 (pss_one (ps_set (i := 9) sc_moves_by_target.nd rfl (Or.inl rfl) (pe_lst (pa_cons (pv 6) pa_nil))))
 pss_nil)))
 (pss_one (ps_for PassesOwn.never rfl (piL K (pv 9)) (pg_name (i := 10) sc_moves_by_target.nd rfl (Or.inl rfl))
 (pss_one (ps_expr (peBm K PySem.F.plainAttrs_list PySem.F.slot_list_append PySem.F.type_list_append mt_append (pe_bmN PySem.F.plainAttrs_dict PySem.F.slot_dict_setdefault PySem.F.type_dict_setdefault (mt_setdefN K hr.units) (pv 1) (pa_cons (pe_tup (pa_cons (pv 5) (pa_cons (pv 10) pa_nil))) (pa_cons (pe_lst pa_nil) pa_nil))) (pa_cons (pv 2) pa_nil))))))))))
 (pss_one (ps_ret (pv 1))))), ?_⟩
  refine fun D nD => ?_
  dsimp only [gName]
  have sD : Same H (upd H D (NDR P w D [])) := same_new nD
  have zipm : ∀ p ∈ mxs.zip M.moves, Dp K H p.1 p.2.data := fun p hp => by
    obtain ⟨j, hj⟩ := List.mem_iff_getElem?.mp hp
    obtain ⟨h1, h2⟩ := List.getElem?_zip_eq_some.mp hj
    obtain ⟨mv, h3, h4⟩ := dpa_map_at hmxs h1
    rw [h2] at h3
    cases h3
    exact h4
  have zl : (mxs.zip M.moves).length = mxs.length := by rw [List.length_zip]; omega
  refine ⟨_, rfl, _, _, _, _, rfl, rfl, Same.seqT sD ham, atI_nat (j := 4) rfl, ma, rfl, ⟨_, sD.seq hma⟩, for_list (xs := mxs) (fun i σ' H1 => ∃ (y2 y3 y4 y5 y6 y7 y8 y9 y10 : Option V) (Mx : NestedKey → Option Addr), σ' = [some (.ref am), some (.ref D), y2, y3, y4, y5, y6, y7, y8, y9, y10] ∧ Same H H1 ∧ GrpN mzV mzK P w K H H1 D Mx (mzs ((mxs.zip M.moves).take i))) ?_ ?_ ?_ ?_⟩
  · exact ⟨_, _, _, _, _, _, _, _, _, fun _ => none, rfl, sD, ⟨⟨[], upd_same, (fun x hx => by cases hx), Nat.zero_le _, fun k => rfl⟩, (fun _ _ h => nomatch h), (fun _ _ _ h => nomatch h), (fun _ _ h => nomatch h), nD, fun z hz => by cases hz⟩⟩
  · rintro i σ' H1 _ ⟨y2, y3, y4, y5, y6, y7, y8, y9, y10, Mx, rfl, s1, _⟩
    exact s1.seq hma
  · rintro i u σ' H1 hu ⟨y2, y3, y4, y5, y6, y7, y8, y9, y10, Mx, rfl, s1, g⟩
    obtain ⟨mv, hmv, dmv⟩ := dpa_map_at hmxs hu
    obtain ⟨mva, sa, sxs, rfl, hmva, hsa, hsx⟩ := dp_mv dmv
    have sxl := dpa_map_len hsx
    have hz : (mxs.zip M.moves)[i]? = some (.ref mva, mv) := List.getElem?_zip_eq_some.mpr ⟨hu, hmv⟩
    have tk : (mxs.zip M.moves).take (i + 1) = (mxs.zip M.moves).take i ++ [(.ref mva, mv)] := take_snoc hz
    have lti : i < mxs.length := (List.getElem?_eq_some_iff.mp hu).1
    have zl2 := mzs_len ((mxs.zip M.moves).take i)
    rw [List.length_take] at zl2
    dsimp only [gName]
    refine ⟨_, rfl, mva, _, rfl, Same.seqT s1 hmva, rfl, _, _, rfl, _, _, rfl, _, _, rfl, _, _, rfl, _, _, rfl, _, _, rfl, rfl, ?_⟩
    dsimp only [gName]
    change tSeq _ _ _ [some (.ref am), some (.ref D), some (.ref mva), some (nV mv.st), some (nV mv.pl), some (nV mv.ns), some (nV mv.np), some (sdV mv.sd), some (.ref sa), y9, y10] H1
    refine ⟨_, rfl, _, rfl, szc 2, fun t0 nt0 => ?_⟩
    dsimp only [gName]
    have s2 := same_new (o := HO.lst [nV mv.np, sdV mv.sd]) nt0
    have et0 : (upd H1 t0 (.lst [nV mv.np, sdV mv.sd])) t0 = some (.lst [nV mv.np, sdV mv.sd]) := upd_same
    have g2 := g.mono s2
    have s12 := s1.trans s2
    generalize upd H1 t0 (.lst [nV mv.np, sdV mv.sd]) = H2 at s2 et0 g2 s12 ⊢
    refine ⟨fun σ' H3 => ∃ tl : Addr, σ' = [some (.ref am), some (.ref D), some (.ref mva), some (nV mv.st), some (nV mv.pl), some (nV mv.ns), some (nV mv.np), some (sdV mv.sd), some (.ref sa), some (.ref tl), y10] ∧ Same H2 H3 ∧ H3 tl = some (.lst ((tgs mv).map sdV)) ∧ H tl = none ∧ (∀ k, Mx k ≠ some tl) ∧ D ≠ tl, ?_, ?_⟩
    · refine ⟨_, rfl, _, rfl, rfl, _, rfl, ?_⟩
      by_cases hst : mv.st = mv.ns
      · refine iteFx (by show (!decide (V.int (mv.st : Int) = V.int (mv.ns : Int))) = false; rw [int_eqE, decide_eq_true (by omega)]; rfl) ?_
        refine ⟨_, rfl, !sxs.isEmpty, .inl ⟨sxs, s12.seq hsa, rfl⟩, ?_⟩
        cases hsh : mv.sh with
        | cons p r =>
          rw [hsh, List.length_cons] at sxl
          cases sxs with
          | nil => cases sxl
          | cons x xs =>
            refine iteTx rfl ⟨szc 1, fun t1 nt1 => ?_⟩
            dsimp only [gName]
            refine ⟨t1, rfl, same_new nt1, ?_, s12.free nt1, (g2.not nt1).1, (g2.not nt1).2⟩
            rw [upd_same]
            unfold tgs
            rw [if_pos (.inr (by rw [hsh]; exact fun z => by cases z))]
            rfl
        | nil =>
          rw [hsh] at sxl
          obtain rfl := List.eq_nil_of_length_eq_zero sxl
          refine iteFx rfl ?_
          have tg : tgs mv = if mv.sd = none ∨ mv.sd = some mv.np then [some mv.np] else [some mv.np, mv.sd] := by
            unfold tgs
            rw [if_neg fun z => by rcases z with z | z; exact z hst; exact z hsh]
          refine ⟨_, rfl, rfl, _, rfl, ?_⟩
          cases hsd : mv.sd with
          | none =>
            refine iteTx rfl (iteTx rfl ⟨_, rfl, szc 1, fun t1 nt1 => ?_⟩)
            dsimp only [gName]
            refine ⟨t1, rfl, same_new nt1, ?_, s12.free nt1, (g2.not nt1).1, (g2.not nt1).2⟩
            rw [upd_same, tg, if_pos (.inl hsd)]
            rfl
          | some d =>
            refine iteFx rfl ?_
            refine ⟨_, rfl, _, rfl, rfl, _, rfl, ?_⟩
            by_cases hdn : d = mv.np
            · refine iteTx (by show decide (V.int (d : Int) = V.int (mv.np : Int)) = true; rw [int_eqE]; exact decide_eq_true (by omega)) ⟨_, rfl, szc 1, fun t1 nt1 => ?_⟩
              dsimp only [gName]
              refine ⟨t1, rfl, same_new nt1, ?_, s12.free nt1, (g2.not nt1).1, (g2.not nt1).2⟩
              rw [upd_same, tg, if_pos (.inr (by rw [hsd, hdn]))]
              rfl
            · refine iteFx (by show decide (V.int (d : Int) = V.int (mv.np : Int)) = false; rw [int_eqE]; exact decide_eq_false (by omega)) ⟨t0, rfl, Same.refl _, ?_, s1.free nt0, (g.not nt0).1, (g.not nt0).2⟩
              have hne : ¬ (mv.sd = none ∨ mv.sd = some mv.np) := fun z => by
                rw [hsd] at z
                rcases z with z | z
                · cases z
                · exact hdn (Option.some.inj z)
              rw [tg, if_neg hne, hsd]
              rw [hsd] at et0
              exact et0
      · refine iteTx (by show (!decide (V.int (mv.st : Int) = V.int (mv.ns : Int))) = true; rw [int_eqE, decide_eq_false (by omega)]; rfl) (iteTx rfl ⟨szc 1, fun t1 nt1 => ?_⟩)
        dsimp only [gName]
        refine ⟨t1, rfl, same_new nt1, ?_, s12.free nt1, (g2.not nt1).1, (g2.not nt1).2⟩
        rw [upd_same]
        unfold tgs
        rw [if_pos (.inl hst)]
        rfl
    · rintro σ' H3 ⟨tl, rfl, s3, etl, ntl, mtl, dtl⟩
      have s13 := s12.trans s3
      have g3 := (g2.mono s3).up (o := HO.lst ((tgs mv).map sdV)) mtl dtl
      have stl : Same H (upd H tl (.lst ((tgs mv).map sdV))) := same_new ntl
      have s13' : Same (upd H tl (.lst ((tgs mv).map sdV))) H3 := fun b o hb => by
        by_cases e : b = tl
        · rw [e, upd_same] at hb; rw [e, etl]; exact hb
        · rw [upd_ne e] at hb; exact s13 _ _ hb
      have utl : (upd H tl (.lst ((tgs mv).map sdV))) tl = some (.lst ((tgs mv).map sdV)) := upd_same
      generalize upd H tl (.lst ((tgs mv).map sdV)) = HT at g3 stl s13' utl
      refine ⟨_, rfl, tl, rfl, ⟨_, sq etl⟩, for_list (xs := (tgs mv).map sdV) (fun j σ' H4 => ∃ (y10 : Option V) (Mx : NestedKey → Option Addr), σ' = [some (.ref am), some (.ref D), some (.ref mva), some (nV mv.st), some (nV mv.pl), some (nV mv.ns), some (nV mv.np), some (sdV mv.sd), some (.ref sa), some (.ref tl), y10] ∧ Same HT H4 ∧ GrpN mzV mzK P w K HT H4 D Mx (mzs ((mxs.zip M.moves).take i) ++ ((tgs mv).take j).map fun t => ((.ref mva, mv), t))) ?_ ?_ ?_ ?_⟩
      · exact ⟨_, Mx, rfl, s13', by rw [List.take_zero]; show GrpN mzV mzK P w K HT H3 D Mx (_ ++ []); rw [List.append_nil]; exact g3⟩
      · rintro j σ' H4 _ ⟨y10, Mx, rfl, s4, _⟩
        exact sq (s4 _ _ utl)
      · rintro j ut σ' H4 hut ⟨y10, Mx, rfl, s4, g4⟩
        obtain ⟨t, ht, rfl⟩ := get_map_inv hut
        have tkj : (tgs mv).take (j + 1) = (tgs mv).take j ++ [t] := take_snoc ht
        dsimp only [gName]
        obtain ⟨ks, hD, _⟩ := g4.dict
        refine ⟨_, rfl, ⟨D, ks, rfl, hD⟩, _, rfl, _, rfl, szc 2, fun kb nkb => ?_⟩
        dsimp only [gName]
        have s5 := same_new (o := HO.tup [nV mv.ns, sdV t]) nkb
        have ekb : (upd H4 kb (.tup [nV mv.ns, sdV t])) kb = some (.tup [nV mv.ns, sdV t]) := upd_same
        have g5 := g4.mono s5
        have s15 := s4.trans s5
        generalize upd H4 kb (.tup [nV mv.ns, sdV t]) = H5 at s5 ekb g5 s15 ⊢
        refine ⟨szc 0, fun nl nn => ?_⟩
        dsimp only [gName, tNil]
        have lz : (mzs ((mxs.zip M.moves).take i) ++ ((tgs mv).take j).map fun t => (((.ref mva, mv) : V × MvT), t)).length ≤ 1000000 := by
          have h3 := tgs_len mv
          rw [List.length_append, List.length_map, List.length_take]
          omega
        have dk : Dp K (upd H5 nl (.lst [])) (.ref kb) (mzK (((.ref mva, mv) : V × MvT), t)).data := by
          have e6 := (same_new (o := HO.lst []) nn) _ _ ekb
          refine .tup (st e6) (.cons (.int _) (.cons ?_ .nil))
          cases t with
          | none => exact .non
          | some p => exact .int _
        change rSetDefN P w K (V.ref D) [V.ref kb, V.ref nl] (upd H5 nl (.lst [])) (fun x H1 => _)
        refine setdefN_mono (g5.step (K := K) (z := (((.ref mva, mv) : V × MvT), t)) (Q := fun v H2 => v = .non ∧ ∃ M', Same HT H2 ∧ GrpN mzV mzK P w K HT H2 D M' ((mzs ((mxs.zip M.moves).take i) ++ ((tgs mv).take j).map fun t => (((.ref mva, mv) : V × MvT), t)) ++ [(((.ref mva, mv) : V × MvT), t)])) s15 nn dk (by cases t <;> exact Nat.le_of_ble_eq_true rfl) lz fun H2 M' s2 g2 => ⟨rfl, M', s2, g2⟩) fun v H3 h => ⟨h.1, _, rfl, ?_⟩
        obtain ⟨_, l, ys, y, rfl, e1, e2, e3, _, M', s6, g6⟩ := h
        cases e1
        refine ⟨l, ys, _, rfl, rfl, e2, e3, _, M', rfl, s6, ?_⟩
        rw [tkj, List.map_append, ← List.append_assoc]
        exact g6
      · rintro σ' H4 ⟨y10, Mx, rfl, s4, g4⟩
        rw [List.length_map, List.take_length] at g4
        have e7 := mzs_snoc ((mxs.zip M.moves).take i) ((.ref mva, mv) : V × MvT)
        rw [← tk] at e7
        rw [← e7] at g4
        exact ⟨_, _, _, _, _, _, _, _, _, Mx, rfl, stl.trans s4, g4.base stl⟩
  · rintro σ' H1 ⟨y2, y3, y4, y5, y6, y7, y8, y9, y10, Mx, rfl, s1, g⟩
    rw [← zl, List.take_length] at g
    obtain ⟨ks, hD, nk, _, hv⟩ := g.dict
    have e2 : (mxs.zip M.moves).map (·.2) = M.moves := List.map_snd_zip (by omega)
    have sel : ∀ (s : Int) (t : Option Nat), selM M.moves s t = ((mxs.zip M.moves).filter fun p => decide ((p.2.ns : Int) = s ∧ t ∈ tgs p.2)).map (·.2) := fun s t => by
      unfold selM
      have e3 := List.filter_map (f := fun p : V × MvT => p.2) (p := fun m : MvT => decide ((m.ns : Int) = s ∧ t ∈ tgs m)) (l := mxs.zip M.moves)
      rw [e2] at e3
      exact e3
    refine ⟨_, rfl, q _ D s1 nD ⟨ks, hD, nk, fun s t => ⟨fun l hl2 => ?_, fun hn => ?_⟩⟩⟩
    · rw [hv] at hl2
      refine ⟨_, g.lists _ l hl2, ?_⟩
      have e4 := congrArg (List.map fun p : V × MvT => p.1) (mzs_grp s t (mxs.zip M.moves))
      rw [List.map_map] at e4
      rw [show (mzV : Mz → V) = (fun p : V × MvT => p.1) ∘ (fun z : Mz => z.1) from rfl, e4, sel, List.map_map]
      exact dpa_pairs _ fun p hp => dp_mono s1 (zipm p (List.mem_filter.mp hp).1)
    · rw [sel]
      refine List.map_eq_nil_iff.mpr (List.filter_eq_nil_iff.mpr fun p hp c => ?_)
      obtain ⟨c1, c2⟩ := of_decide_eq_true c
      have hz : ((p, t) : Mz) ∈ mzs (mxs.zip M.moves) := List.mem_flatMap.mpr ⟨p, hp, List.mem_map.mpr ⟨t, c2, rfl⟩⟩
      refine g.has _ hz ?_
      rw [← hv]
      show valN ks (nkT (p.2.ns : Int) t) = none
      rw [c1]
      exact hn
end
/-! ### sorted(d), the keys numbers, any number of them -/
theorem each_ints : ∀ {us : List Value} {ks : List Int}, IntsAre us ks → PySem.W.EachIs (fun v (x : Int) => ∃ t, v = Value.int x t) us ks
  | _, _, .nil => .nil
  | _, _, .cons n t h => .cons ⟨t, rfl⟩ (each_ints h)
theorem each_reads {hp : Heap} {a : Addr} : ∀ {us : List Value} {ks : List Int}, IntsAre us ks → PySem.W.EachIs (fun v (x : Int) => ∃ as, Reads hp v (PyData.int x) as ∧ ¬ a ∈ as) us ks
  | _, _, .nil => .nil
  | _, _, .cons n t h => .cons ⟨_, .int n t, by simp⟩ (each_reads h)
theorem ints_of_each : ∀ {us : List Value} {ks : List Int}, PySem.W.EachIs (fun v (x : Int) => ∃ t, v = Value.int x t) us ks → Vals (ks.map V.int) us
  | _, [], h => by cases h; exact .nil
  | _, k :: ks, h => by
    cases h with
    | cons h t => exact .cons h (ints_of_each t)
theorem int_le {x y : Int} (h : PySem.W.dataLe false PyData.int x y = true) : x ≤ y := by
  have h : (!PySem.W.dataLt (.int y) (.int x)) = true := h
  rw [Bool.not_eq_true', PySem.W.dataLt_int] at h
  have := of_decide_eq_false h
  omega
section
variable {X : Cx}
theorem cr_sortedDK (hc : X.calm = true) (hu : X.A.units + 64 < cLine) : CallR X (.builtin "sorted") fun xs H Q => ∃ (a : Addr) (kvs : List (L2.Key × V)) (ks : List Int), xs = [.ref a] ∧ Rd H a (.dK kvs) ∧ kvs.map (·.1) = ks.map Sum.inl ∧ ks.length ≤ 9000000 ∧
    ∀ (ys : List Int) (p : Addr), ys.Perm ks → ys.Pairwise (· ≤ ·) → H p = none → Q (.ref p) (upd H p (.lst (ys.map V.int))) := by
  intro pins s σ H xs us Q I r h
  obtain ⟨a, kvs, ks, rfl, hd, hks, hl, q⟩ := h
  obtain ⟨u, rfl, rx⟩ := L2.vals1 r
  cases rx
  obtain ⟨z, lo, vs, rel, dd⟩ := dk_rd I.hok hd
  obtain ⟨ep, hat⟩ := Heap.DictOf.dictAt dd
  have hkeys := (KV.keys rel).symm.trans hks
  have hvl : vs.length = ks.length := by
    have e := congrArg List.length hkeys
    rw [List.length_map, List.length_map] at e
    exact e
  have h16 : vs.length ≤ sizeLine := by rw [hvl, sizeLine_eq]; omega
  refine Calls.call_function_entry kind_sorted plain_sorted entry_sorted (args_sorted1 (Value.ref a)) ?_
  refine wpAny_bind (wpAny_pure (wpAny_bind (W.kdu_collect (W.kdl_dict lo) (I.ok.hd hc) hat h16 fun h' tk acc hk hacc => ?_)))
  have I1 := I.kept (t' := tk) hk
  have hal : acc.toList.length = ks.length := by rw [Array.length_toList, hacc.1, hvl]
  have hS : IntsAre acc.toList ks := ints_each hal fun j v e => by
    rw [Array.getElem?_toList] at e
    obtain ⟨k, x, e1, e2⟩ := hacc.2 j v e
    have e3 : (vs.map (·.1))[j]? = some k := by rw [List.getElem?_map, e1]; rfl
    rw [hkeys, List.getElem?_map] at e3
    cases e4 : ks[j]? with
    | none => rw [e4] at e3; cases e3
    | some y =>
      rw [e4] at e3
      obtain rfl : Sum.inl y = k := Option.some.inj e3
      obtain ⟨t, ht⟩ : ∃ t, v = Value.int y t := relV_key (show keyIs (Sum.inl y) v = true from e2)
      exact ⟨y, t, rfl, ht⟩
  refine wpAny_bind (wpAny_newList ?_ (by rw [hal, sizeLine_eq]; omega))
  have hoL := Heap.get?_push_size h' (o := seqObj "list" acc.toList.toArray 0) rfl
  refine wpAny_bind (wpAny_holding ?_)
  refine PySem.W.list_sort_data (R := fun v (x : Int) => ∃ t, v = Value.int x t) (enc := PyData.int) (bs := ks) (vs := acc.toList) hoL (each_ints hS) (each_reads hS) (PySem.W.AllAlike.of fun b b' => rfl) (.inr fun d hd => ?_) (by rw [sizeLine_eq]; omega) (fun b _ => ?_) fun out hol eo => ?_
  · obtain ⟨x, _, rfl⟩ := List.mem_map.mp hd
    exact ⟨fun z => (by cases z), fun xs z => (by cases z)⟩
  · show X.A.units + 1 + 1 + 0 < cLine
    omega
  obtain ⟨e', he'⟩ := sortedHeap_at (vs := acc.toList) (out := out.toArray) hoL
  have pm := List.mergeSort_perm ks (PySem.W.dataLe false PyData.int)
  have pw : (ks.mergeSort (PySem.W.dataLe false PyData.int)).Pairwise (fun x y => PySem.W.dataLe false PyData.int x y = true) := PySem.W.sort_pairwise (PySem.W.sortLe_total (listOrd itemOrd) false fun x : Int => PySem.W.keyToks (PyData.int x)) _
  have pw2 := pw.imp (S := (· ≤ ·)) fun h => int_le h
  generalize ks.mergeSort (PySem.W.dataLe false PyData.int) = ys at eo pm pw2
  have hlen : (ys.map V.int).length ≤ sizeLine := by rw [List.length_map, pm.length_eq, sizeLine_eq]; omega
  refine wpAny_pure ⟨.ref h'.objs.size, rfl, .ref h'.objs.size, upd H h'.objs.size (.lst (ys.map V.int)), I1.laid (t' := tk) (fun b u e => ?_) (Nat.le_refl _) ⟨hlen, out, e', ints_of_each eo, he'⟩, rfl, q ys _ pm pw2 (I1.hok.fresh (Nat.le_refl _))⟩
  have hb := Heap.lt_size e
  exact (sortedHeap_old (Nat.ne_of_lt hb) (Nat.lt_of_lt_of_le hb (by show h'.objs.size ≤ (h'.push _).objs.size; simp [Heap.push]))).trans (Heap.get?_push_of_some _ e)
end
/-! ### values by their keys, in two steps: the list first, then the value -/
structure GrpE (b : Int) (H H1 : Hp) (D : Addr) (M : Int → Option Addr) (Z : List (V × Int)) : Prop where
  dict : ∃ kvs, H1 D = some (.dK kvs) ∧ CellF (oneM M) [] (Z.length + 1) kvs
  lists : ∀ t a, M t = some a → H1 a = some (.lst ((grpK Z t).map (·.1)))
  inj : ∀ t t' a, M t = some a → M t' = some a → t = t'
  new : ∀ t a, M t = some a → H a = none
  newD : H D = none
  has : ∀ z ∈ Z, M (z.2) ≠ none
  only : ∀ t, M t ≠ none → t = b ∨ ∃ z ∈ Z, z.2 = t
theorem GrpE.mono {b : Int} {H H1 H2 : Hp} {D : Addr} {M : Int → Option Addr} {Z : List (V × Int)} (g : GrpE b H H1 D M Z) (s : Same H1 H2) : GrpE b H H2 D M Z :=
  ⟨let ⟨kvs, h1, h2⟩ := g.dict; ⟨kvs, s _ _ h1, h2⟩, fun t a h => s _ _ (g.lists t a h), g.inj, g.new, g.newD, g.has, g.only⟩
theorem GrpE.not {b : Int} {H H1 : Hp} {D : Addr} {M : Int → Option Addr} {Z : List (V × Int)} (g : GrpE b H H1 D M Z) {a : Addr} (n : H1 a = none) : (∀ k, M k ≠ some a) ∧ D ≠ a :=
  ⟨fun k z => (by have := g.lists k a z; rw [n] at this; cases this), fun z => (by obtain ⟨ks, h, _⟩ := g.dict; rw [z, n] at h; cases h)⟩
theorem GrpE.up {b : Int} {H H1 : Hp} {D : Addr} {M : Int → Option Addr} {Z : List (V × Int)} {tl : Addr} {o : HO} (g : GrpE b H H1 D M Z) (n : ∀ k, M k ≠ some tl) (nD : D ≠ tl) : GrpE b (upd H tl o) H1 D M Z :=
  ⟨g.dict, g.lists, g.inj, fun k a h => by rw [upd_ne fun z => n k (by rw [← z]; exact h)]; exact g.new k a h, by rw [upd_ne nD]; exact g.newD, g.has, g.only⟩
theorem GrpK.up {H H1 : Hp} {D : Addr} {M : Int → Option Addr} {Z : List (V × Int)} {tl : Addr} {o : HO} (g : GrpK H H1 D M Z) (n : ∀ k, M k ≠ some tl) (nD : D ≠ tl) : GrpK (upd H tl o) H1 D M Z :=
  ⟨g.dict, g.lists, g.inj, fun k a h => by rw [upd_ne fun z => n k (by rw [← z]; exact h)]; exact g.new k a h, by rw [upd_ne nD]; exact g.newD, g.has, g.only⟩
theorem GrpK.not {H H1 : Hp} {D : Addr} {M : Int → Option Addr} {Z : List (V × Int)} (g : GrpK H H1 D M Z) {a : Addr} (n : H1 a = none) : (∀ k, M k ≠ some a) ∧ D ≠ a :=
  ⟨fun k z => (by have := g.lists k a z; rw [n] at this; cases this), fun z => (by obtain ⟨ks, h, _⟩ := g.dict; rw [z, n] at h; cases h)⟩
theorem GrpK.base {H0 H H1 : Hp} {D : Addr} {M : Int → Option Addr} {Z : List (V × Int)} (g : GrpK H H1 D M Z) (s : Same H0 H) : GrpK H0 H1 D M Z :=
  ⟨g.dict, g.lists, g.inj, fun k a h => s.free (g.new k a h), s.free g.newD, g.has, g.only⟩
theorem GrpK.sdef {H H1 : Hp} {D : Addr} {M : Int → Option Addr} {Z : List (V × Int)} {b : Int} {nl : Addr} {Q : VK} (g : GrpK H H1 D M Z) (s1 : Same H H1) (nn : H1 nl = none) (hz : Z.length ≤ 8000000)
    (q : ∀ H3 M' a, Same H H3 → M' b = some a → GrpE b H H3 D M' Z → Q (.ref a) H3) : rSetDef (.ref D) [.int b, .ref nl] (upd H1 nl (.lst [])) Q := by
  obtain ⟨kvs, hD, cell⟩ := g.dict
  have s2 : Same H1 (upd H1 nl (.lst [])) := same_new nn
  have nD : D ≠ nl := fun z => by rw [z, nn] at hD; cases hD
  have hval : valV kvs (Sum.inl b) = (M b).map V.ref := cell.val b
  refine ⟨D, kvs, Sum.inl b, .ref nl, rfl, rfl, s2 _ _ hD, szn cell.2.1 (by omega), fun v hv => ?_, fun hv => ?_⟩
  · rw [hval] at hv
    cases e : M b with
    | none => rw [e] at hv; cases hv
    | some a =>
      rw [e] at hv
      cases hv
      exact q _ M a (s1.trans s2) e ⟨⟨kvs, s2 _ _ hD, cell.le (Nat.le_succ _)⟩, fun t a' ht => s2 _ _ (g.lists t a' ht), g.inj, g.new, g.newD, g.has, fun t ht => .inr (g.only t ht)⟩
  · rw [hval] at hv
    cases e : M b with
    | some a => rw [e] at hv; cases hv
    | none =>
      have e1 : (upd (upd H1 nl (.lst [])) D (.dK (kvs ++ [(Sum.inl b, V.ref nl)]))) nl = some (.lst []) := by rw [upd_ne nD.symm]; exact upd_same
      have nlH : H nl = none := s1.free nn
      have notin : ∀ t, M t ≠ some nl := (g.not nn).1
      have zero : grpK Z b = [] := by
        refine List.filter_eq_nil_iff.mpr fun z hz2 z2 => ?_
        have := g.has z hz2
        rw [of_decide_eq_true z2] at this
        exact this e
      refine q _ (fun t => if t = b then some nl else M t) nl (Same.mut (s1.trans s2) g.newD) (if_pos rfl) ⟨⟨kvs ++ [(Sum.inl b, V.ref nl)], upd_same, ?_⟩, fun t a' ht => ?_, fun t t' a' h1 h2 => ?_, fun t a' ht => ?_, g.newD, fun z hz2 => ?_, fun t ht => ?_⟩
      · have pn : putK kvs (Sum.inl b : L2.Key) (V.ref nl) = kvs ++ [(Sum.inl b, V.ref nl)] := putK_new _ (by rw [hval, e]; rfl)
        rw [← pn]
        refine .of (nd_put _ _ cell.1) (Nat.le_trans (length_putK _ _ _) (Nat.succ_le_succ cell.2.1)) (shape_put cell.shape) fun k => ?_
        rw [valV_put]
        show _ = Option.map V.ref (if k = b then some nl else M k)
        by_cases ek : k = b
        · rw [if_pos (by rw [ek]), if_pos ek]
          rfl
        · rw [if_neg fun z => ek (by cases z; rfl), if_neg ek]
          exact cell.val k
      · by_cases et : t = b
        · rw [if_pos et] at ht
          cases ht
          rw [et, zero]
          exact e1
        · rw [if_neg et] at ht
          have ha := g.lists t a' ht
          have aD : a' ≠ D := fun z => by rw [z, hD] at ha; cases ha
          rw [upd_ne aD]
          exact s2 _ _ ha
      · by_cases et : t = b
        · rw [if_pos et] at h1
          cases h1
          by_cases et' : t' = b
          · rw [et, et']
          · rw [if_neg et'] at h2
            exact absurd h2 (notin t')
        · rw [if_neg et] at h1
          by_cases et' : t' = b
          · rw [if_pos et'] at h2
            cases h2
            exact absurd h1 (notin t)
          · rw [if_neg et'] at h2
            exact g.inj _ _ _ h1 h2
      · by_cases et : t = b
        · rw [if_pos et] at ht
          cases ht
          exact nlH
        · rw [if_neg et] at ht
          exact g.new _ _ ht
      · show (if z.2 = b then some nl else M (z.2)) ≠ none
        by_cases et : z.2 = b
        · rw [if_pos et]
          exact fun z => (nomatch z)
        · rw [if_neg et]
          exact g.has z hz2
      · by_cases et : t = b
        · exact .inl et
        · rw [if_neg et] at ht
          exact .inr (g.only t ht)
theorem GrpE.app {H H3 : Hp} {D : Addr} {M : Int → Option Addr} {Z : List (V × Int)} {b : Int} {a : Addr} {x : V} {Q : VK} (g : GrpE b H H3 D M Z) (s : Same H H3) (e : M b = some a) (hz : Z.length ≤ 8000000)
    (q : ∀ H4, Same H H4 → GrpK H H4 D M (Z ++ [(x, b)]) → Q .non H4) : rAppend (.ref a) [x] H3 Q := by
  obtain ⟨kvs, hD, cell⟩ := g.dict
  have ha := g.lists _ a e
  have aD : a ≠ D := fun z => by rw [z, hD] at ha; cases ha
  have lsz : ∀ t, (grpK Z t).length ≤ Z.length := fun t => List.length_filter_le _ _
  refine ⟨a, _, x, rfl, rfl, ha, szn (m := 8000000) (by rw [List.length_map]; exact Nat.le_trans (lsz _) hz) (by omega), ?_⟩
  refine q _ (Same.mut s (g.new _ a e)) ⟨⟨kvs, ?_, ?_⟩, fun t a' ht => ?_, g.inj, g.new, g.newD, fun z hz2 => ?_, fun t ht => ?_⟩
  · rw [upd_ne aD.symm]
    exact hD
  · rw [List.length_append]
    exact cell.le (Nat.le_refl _)
  · by_cases ea : a' = a
    · subst ea
      obtain rfl := g.inj _ _ _ ht e
      rw [upd_same, grpk_snoc, if_pos rfl, List.map_append]
      rfl
    · rw [upd_ne ea, grpk_snoc, if_neg fun z => ea (by rw [← z, e] at ht; cases ht; rfl), List.append_nil]
      exact g.lists t a' ht
  · rcases List.mem_append.mp hz2 with h | h
    · exact g.has z h
    · rw [List.mem_singleton.mp h, e]
      exact fun z => (nomatch z)
  · rcases g.only t ht with rfl | ⟨z, hz3, e3⟩
    · exact ⟨(x, t), List.mem_append_right _ (List.mem_singleton.mpr rfl), rfl⟩
    · exact ⟨z, List.mem_append_left _ hz3, e3⟩
/-! ### the pairs of a move and a situation, by threads -/
def tgtS (y : Sn) : List (Option Nat) := none :: (pkL 0 y.2).map fun p => some p.1.toNat
def thrT (t : MvT × Sn) : Int := (needL t.1 t.2.2).sum + 1
def tskY (ms : List MvT) (y : Sn) (t : Option Nat) : List (MvT × Sn) := (selM ms y.1 t).map fun m => (m, y)
def tskS (ms : List MvT) (y : Sn) : List (MvT × Sn) := (tgtS y).flatMap fun t => tskY ms y t
def tskL (ms : List MvT) (ys : List Sn) : List (MvT × Sn) := ys.flatMap fun y => tskS ms y
theorem flat_take {α β : Type} {f : α → List β} {l : List α} {i : Nat} {x : α} (h : l[i]? = some x) : (l.take (i + 1)).flatMap f = (l.take i).flatMap f ++ f x := by
  rw [take_snoc h, List.flatMap_append, List.flatMap_cons, List.flatMap_nil, List.append_nil]
theorem gmap_inv {α β : Type} {f : α → β} {l : List α} {i : Nat} {b : β} (h : (l.map f)[i]? = some b) : ∃ a, l[i]? = some a ∧ b = f a := by
  rw [List.getElem?_map] at h
  cases e : l[i]? with
  | none => rw [e] at h; cases h
  | some a => rw [e] at h; exact ⟨a, rfl, (Option.some.inj h).symm⟩
theorem flat_len {α β : Type} {f : α → List β} {k : Nat} : ∀ {l : List α}, (∀ x ∈ l, (f x).length ≤ k) → (l.flatMap f).length ≤ l.length * k
  | [], _ => Nat.zero_le _
  | x :: l, h => by
    have h1 := flat_len (l := l) fun y hy => h y (List.mem_cons_of_mem _ hy)
    have h2 := h x List.mem_cons_self
    rw [List.flatMap_cons, List.length_append, List.length_cons, Nat.add_mul, Nat.one_mul]
    omega
theorem tskY_len (ms : List MvT) (y : Sn) (t : Option Nat) : (tskY ms y t).length ≤ ms.length := by
  unfold tskY selM
  rw [List.length_map]
  exact List.length_filter_le _ _
theorem tgtS_len (y : Sn) : (tgtS y).length ≤ y.2.length + 1 := by
  unfold tgtS
  rw [List.length_cons, List.length_map]
  exact Nat.succ_le_succ (pkL_len 0 y.2)
theorem tskS_len (ms : List MvT) (y : Sn) : (tskS ms y).length ≤ (y.2.length + 1) * ms.length :=
  Nat.le_trans (flat_len fun t _ => tskY_len ms y t) (Nat.mul_le_mul_right _ (tgtS_len y))
theorem tskL_len {n : Nat} (ms : List MvT) (ys : List Sn) (h : Lens n ys) : (tskL ms ys).length ≤ ys.length * ((n + 1) * ms.length) :=
  flat_len fun y hy => by have := tskS_len ms y; rw [h y hy] at this; exact this
theorem tskL_mem {ms : List MvT} {ys : List Sn} {m : MvT} {y : Sn} : (m, y) ∈ tskL ms ys ↔ y ∈ ys ∧ m ∈ ms ∧ (m.ns : Int) = y.1 ∧ ∃ t ∈ tgtS y, t ∈ tgs m := by
  unfold tskL tskS tskY selM
  simp only [List.mem_flatMap, List.mem_map, List.mem_filter, decide_eq_true_eq]
  constructor
  · rintro ⟨y', hy, t, ht, m', ⟨hm, h1, h2⟩, e⟩
    cases e
    exact ⟨hy, hm, h1, t, ht, h2⟩
  · rintro ⟨hy, hm, h1, t, ht, h2⟩
    exact ⟨y, hy, t, ht, m, ⟨hm, h1, h2⟩, rfl⟩
structure TaskOk (K : PySem.W.Frag) (Hc H0 H1 : Hp) (v : V) (t : MvT × Sn) : Prop where
  ob : ∃ (a : Addr) (mv sv : V), v = .ref a ∧ H0 a = none ∧ H1 a = some (.tup [mv, sv]) ∧ Dp K Hc mv t.1.data ∧ PkO K Hc sv (pk t.2)
structure TasksAt (K : PySem.W.Frag) (Hc H0 H1 : Hp) (D : Addr) (T : List (MvT × Sn)) : Prop where
  dict : ∃ (kvs : List (L2.Key × V)) (ks : List Int), H1 D = some (.dK kvs) ∧ kvs.map (·.1) = ks.map Sum.inl ∧ ks.Nodup ∧ ks.length ≤ T.length ∧ (∀ k, k ∈ ks ↔ ∃ t ∈ T, thrT t = k) ∧
    ∀ k ∈ ks, ∃ (l : Addr) (xs : List V), valV kvs (Sum.inl k) = some (.ref l) ∧ H0 l = none ∧ H1 l = some (.lst xs) ∧ Paired (TaskOk K Hc H0 H1) xs (T.filter fun t => decide (thrT t = k))
  newD : H0 D = none
theorem TaskOk.to {K : PySem.W.Frag} {Hc H0 H1 H2 : Hp} {v : V} {t : MvT × Sn} (h : TaskOk K Hc H0 H1 v t) (f : ∀ b o, H0 b = none → H1 b = some o → H2 b = some o) : TaskOk K Hc H0 H2 v t :=
  let ⟨a, mv, sv, e, n, h1, h2⟩ := h.ob
  ⟨a, mv, sv, e, n, f _ _ n h1, h2⟩
theorem TasksAt.to {K : PySem.W.Frag} {Hc H0 H1 H2 : Hp} {D : Addr} {T : List (MvT × Sn)} (h : TasksAt K Hc H0 H1 D T) (f : ∀ b o, H0 b = none → H1 b = some o → H2 b = some o) : TasksAt K Hc H0 H2 D T :=
  let ⟨kvs, ks, h1, h2, h3, h4, h5, h6⟩ := h.dict
  ⟨⟨kvs, ks, f _ _ h.newD h1, h2, h3, h4, h5, fun k hk => let ⟨l, xs, e1, e2, e3, e4⟩ := h6 k hk; ⟨l, xs, e1, e2, f _ _ e2 e3, Paired.mapP e4 fun _ _ z => z.to f⟩⟩, h.newD⟩
theorem paired_filter {α β : Type} {R : α → β → Prop} {p : α → Bool} {q : β → Bool} (h : ∀ a b, R a b → p a = q b) : ∀ {xs : List α} {ys : List β}, Paired R xs ys → Paired R (xs.filter p) (ys.filter q)
  | _, _, .nil => .nil
  | _, _, .cons (a := a) (b := b) r t => by
    rw [List.filter_cons, List.filter_cons, h a b r]
    split
    · exact .cons r (paired_filter h t)
    · exact paired_filter h t
theorem paired_fst {α β γ : Type} {R : γ → β → Prop} {f : α → γ} : ∀ {xs : List α} {ys : List β}, Paired (fun a b => R (f a) b) xs ys → Paired R (xs.map f) ys
  | _, _, .nil => .nil
  | _, _, .cons r t => .cons r (paired_fst t)
theorem paired_snoc {α β : Type} {R : α → β → Prop} {a : α} {b : β} (r : R a b) : ∀ {xs : List α} {ys : List β}, Paired R xs ys → Paired R (xs ++ [a]) (ys ++ [b])
  | _, _, .nil => .cons r .nil
  | _, _, .cons r' t => .cons r' (paired_snoc r t)
theorem paired_memL {α β : Type} {R : α → β → Prop} : ∀ {xs : List α} {ys : List β}, Paired R xs ys → ∀ a ∈ xs, ∃ b ∈ ys, R a b
  | _, _, .nil, _, h => by cases h
  | _, _, .cons r t, a, h => by
    rcases List.mem_cons.mp h with rfl | h
    · exact ⟨_, List.mem_cons_self, r⟩
    · obtain ⟨b, h1, h2⟩ := paired_memL t a h
      exact ⟨b, List.mem_cons_of_mem _ h1, h2⟩
theorem paired_memR {α β : Type} {R : α → β → Prop} : ∀ {xs : List α} {ys : List β}, Paired R xs ys → ∀ b ∈ ys, ∃ a ∈ xs, R a b
  | _, _, .nil, _, h => by cases h
  | _, _, .cons r t, a, h => by
    rcases List.mem_cons.mp h with rfl | h
    · exact ⟨_, List.mem_cons_self, r⟩
    · obtain ⟨b, h1, h2⟩ := paired_memR t a h
      exact ⟨b, List.mem_cons_of_mem _ h1, h2⟩
/-- the tasks so far -/
def TkB (K : PySem.W.Frag) (Hc H0 Hb H1 : Hp) (D : Addr) (T : List (MvT × Sn)) : Prop := Same H0 Hb ∧ Same Hb H1 ∧ ∃ (M : Int → Option Addr) (Z : List (V × Int)), GrpK Hb H1 D M Z ∧ Paired (fun z t => z.2 = thrT t ∧ TaskOk K Hc H0 Hb z.1 t) Z T
theorem TkB.mono {K : PySem.W.Frag} {Hc H0 Hb H1 H2 : Hp} {D : Addr} {T : List (MvT × Sn)} (h : TkB K Hc H0 Hb H1 D T) (s : Same H1 H2) : TkB K Hc H0 Hb H2 D T :=
  let ⟨s1, s2, M, Z, g, p⟩ := h
  ⟨s1, s2.trans s, M, Z, g.mono s, p⟩
theorem TkB.same {K : PySem.W.Frag} {Hc H0 Hb H1 : Hp} {D : Addr} {T : List (MvT × Sn)} (h : TkB K Hc H0 Hb H1 D T) : Same H0 H1 := h.1.trans h.2.1
theorem same_both {H H1 : Hp} {l : Addr} {o : HO} (s : Same H H1) : Same (upd H l o) (upd H1 l o) := fun b u h => by
  by_cases e : b = l
  · rw [e, upd_same] at h ⊢
    exact h
  · rw [upd_ne e] at h ⊢
    exact s b u h
theorem TkB.add {K : PySem.W.Frag} {Hc H0 Hb H1 : Hp} {D : Addr} {T : List (MvT × Sn)} {l : Addr} {o : HO} (h : TkB K Hc H0 Hb H1 D T) (n : H1 l = none) : TkB K Hc H0 (upd Hb l o) (upd H1 l o) D T := by
  obtain ⟨s1, s2, M, Z, g, p⟩ := h
  obtain ⟨g1, g2⟩ := g.not n
  have sb : Same Hb (upd Hb l o) := same_new (s2.free n)
  exact ⟨s1.trans sb, same_both s2, M, Z, (g.up g1 g2).mono (same_new n), Paired.mapP p fun _ _ r => ⟨r.1, r.2.to fun b u _ e => sb _ _ e⟩⟩
theorem TkB.task {K : PySem.W.Frag} {Hc H0 Hb H1 : Hp} {D nl : Addr} {T : List (MvT × Sn)} {m : MvT} {y : Sn} {mv sv : V} {Q : VK} (h : TkB K Hc H0 Hb H1 D T) (nn : H1 nl = none) (len : T.length ≤ 8000000) (dm : Dp K Hc mv m.data) (dy : PkO K Hc sv (pk y))
    (q : ∀ Hb' H4, Same Hb Hb' → TkB K Hc H0 Hb' H4 D (T ++ [(m, y)]) → Q .non H4) : rSetDef (.ref D) [.int (thrT (m, y)), .ref nl] (upd H1 nl (.lst [])) (fun v H3 => tyV K "list" v H3 ∧ ∀ p, H3 p = none → rAppend v [.ref p] (upd H3 p (.tup [mv, sv])) Q) := by
  obtain ⟨s1, s2, M, Z, g, pz⟩ := h
  have zl := Paired.length pz
  refine g.sdef s2 nn (by omega) fun H3 M' a s3 hM gE => ?_
  refine ⟨.inl ⟨rfl, _, sq (gE.lists _ _ hM)⟩, fun p np => ?_⟩
  obtain ⟨n1, n2⟩ := gE.not np
  have nb : Hb p = none := s3.free np
  have sb : Same Hb (upd Hb p (.tup [mv, sv])) := same_new nb
  refine ((gE.up n1 n2).mono (same_new np)).app (same_both s3) hM (by omega) fun H4 s4 g4 => q _ H4 sb ⟨s1.trans sb, s4, _, _, g4, paired_snoc ⟨rfl, ⟨p, mv, sv, rfl, s1.free nb, upd_same, dm, dy⟩⟩ (Paired.mapP pz fun _ _ r => ⟨r.1, r.2.to fun b u _ e => sb _ _ e⟩)⟩
theorem TkB.fin {K : PySem.W.Frag} {Hc H0 Hb H1 : Hp} {D : Addr} {T : List (MvT × Sn)} (h : TkB K Hc H0 Hb H1 D T) : TasksAt K Hc H0 H1 D T := by
  obtain ⟨s1, s2, M, Z, g, p⟩ := h
  obtain ⟨kvs, hD, cell⟩ := g.dict
  have pl := Paired.length p
  have hk : ∃ ks : List Int, kvs.map (·.1) = ks.map Sum.inl := by
    have sh := cell.shape
    clear hD cell g
    induction kvs with
    | nil => exact ⟨[], rfl⟩
    | cons kv kvs ih =>
      obtain ⟨ks, e⟩ := ih fun x hx => sh x (List.mem_cons_of_mem _ hx)
      obtain ⟨k, b, e2⟩ := sh kv List.mem_cons_self
      exact ⟨k :: ks, by rw [List.map_cons, List.map_cons, e, e2]⟩
  obtain ⟨ks, hks⟩ := hk
  have kl : ks.length = kvs.length := by have := congrArg List.length hks; rw [List.length_map, List.length_map] at this; exact this.symm
  have nd : ks.Nodup := by
    have := cell.1
    rw [hks, List.Nodup, List.pairwise_map] at this
    exact this.imp fun h z => h (by rw [z])
  have memM : ∀ k, k ∈ ks ↔ M k ≠ none := fun k => by
    constructor
    · intro hk
      have hm : (Sum.inl k : L2.Key) ∈ kvs.map (·.1) := by rw [hks]; exact List.mem_map.mpr ⟨k, hk, rfl⟩
      obtain ⟨kv, h1, h2⟩ := List.mem_map.mp hm
      obtain ⟨t, b, rfl, h3⟩ := cell.2.2.1 kv h1
      have h2 : t = k := Sum.inl.inj h2
      subst h2
      have h3 : M t = some b := h3
      rw [h3]
      exact fun z => nomatch z
    · intro hk
      cases e : M k with
      | none => exact absurd e hk
      | some b =>
        have hm : (Sum.inl k : L2.Key) ∈ kvs.map (·.1) := List.mem_map.mpr ⟨_, cell.2.2.2 k b e, rfl⟩
        rw [hks] at hm
        obtain ⟨k', h1, h2⟩ := List.mem_map.mp hm
        have h2 : k' = k := Sum.inl.inj h2
        subst h2
        exact h1
  refine ⟨⟨kvs, ks, hD, hks, nd, ?_, fun k => ?_, fun k hk => ?_⟩, s1.free g.newD⟩
  · rw [kl, ← pl]
    exact cell.2.1
  · rw [memM]
    constructor
    · intro hk
      obtain ⟨z, hz, e⟩ := g.only k hk
      obtain ⟨t, ht, e2, _⟩ := paired_memL p z hz
      exact ⟨t, ht, by rw [← e2]; exact e⟩
    · rintro ⟨t, ht, rfl⟩
      obtain ⟨z, hz, e2, _⟩ := paired_memR p t ht
      rw [← e2]
      exact g.has z hz
  · rw [memM] at hk
    cases e : M k with
    | none => exact absurd e hk
    | some l =>
      refine ⟨l, _, by have := cell.val k; rw [this]; show Option.map V.ref (M k) = _; rw [e]; rfl, s1.free (g.new k l e), g.lists k l e, ?_⟩
      have p2 := paired_filter (p := fun z => decide (z.2 = k)) (q := fun t => decide (thrT t = k)) (fun a b r => by rw [r.1]) p
      exact paired_fst (Paired.mapP p2 fun _ _ r => r.2.to fun b o _ h => s2 _ _ h)
theorem pk_sum : ∀ (n : Nat) {cs : List Int}, (∀ c ∈ cs, 0 ≤ c) → ((pkL n cs).map (·.2)).sum = cs.sum
  | _, [], _ => rfl
  | n, c :: r, h => by
    have ih := pk_sum (n + 1) (cs := r) fun x hx => h x (List.mem_cons_of_mem _ hx)
    have h0 := h c List.mem_cons_self
    rw [pkL_cons]
    split
    · rw [List.map_cons, List.sum_cons, List.sum_cons, ih]
    · rw [List.sum_cons, ih]
      omega
theorem perm_sum {xs ys : List Int} (p : xs.Perm ys) : xs.sum = ys.sum := by
  induction p with
  | nil => rfl
  | cons x _ ih => rw [List.sum_cons, List.sum_cons, ih]
  | swap x y l => simp only [List.sum_cons]; omega
  | trans _ _ a b => rw [a, b]
theorem need_sum2 {cs : List Int} {kvs : List (L2.Key × V)} (h : NeedC cs kvs) (h0 : ∀ c ∈ cs, 0 ≤ c) : ∃ ns : Prs, kvs = ns.map nnE ∧ (ns.map (·.2)).sum = cs.sum := by
  obtain ⟨ns, e, p⟩ := h
  exact ⟨ns, e, by rw [perm_sum (p.map (·.2)), pk_sum 0 h0]⟩
theorem tgt_vals (y : Sn) : [V.non] ++ (pkL 0 y.2).map (fun p => V.int p.1) = (tgtS y).map sdV := by
  unfold tgtS
  rw [List.map_cons, List.map_map]
  show V.non :: _ = V.non :: _
  refine congrArg _ (List.map_congr_left fun p hp => ?_)
  have := pkL_ge 0 y.2 p hp
  show V.int p.1 = V.int ((p.1.toNat : Nat) : Int)
  rw [show ((p.1.toNat : Nat) : Int) = p.1 by omega]
section
variable {P : Program} {w : World} {K : PySem.W.Frag} {mg : Str → Option Value} {base : Heap}
abbrev s_tasks_by_threads : Stmt := topS 23
theorem sc_tasks_by_threads : FnScope ["moves", "situations", "tasks", "situation", "state", "pairs", "targets", "target", "move", "threads", "place", "_"] ["moves", "situations"] (defScope s_tasks_by_threads) := ⟨rfl, rfl, rfl, by decide +kernel, rfl, by decide +kernel, by decide +kernel⟩
-- tasks_by_threads slots: moves=0 situations=1 tasks=2 situation=3 state=4 pairs=5 targets=6 target=7 move=8 threads=9 place=10(None) _=11(None) globals: sum needed
def spTasks (P : Program) (w : World) (K : PySem.W.Frag) : Sp := fun vs H Q _ => ∃ (md sl : Addr) (Hc : Hp) (ms : List MvT) (ys : List Sn) (sxs : List V) (S N : Nat), vs = [.ref md, .ref sl] ∧ Same Hc H ∧ MbT P w K Hc md ms ∧ SqL K H sl sxs ∧ Paired (fun v y => PkO K Hc v (pk y)) sxs ys ∧ (∀ m ∈ ms, m.Fit S N) ∧ Lens N ys ∧ NonN ys ∧ N ≤ 1000 ∧ ys.length * ((N + 1) * ms.length) ≤ 8000000 ∧
  ∀ H' D, Same H H' → TasksAt K Hc H H' D (tskL ms ys) → Q (.ref D) H'
set_option maxHeartbeats 4000000 in
theorem fd_tasks_by_threads {f : Addr} {fd : FuncData} (F : Fun K "tasks_by_threads" "tasks_by_threads" s_tasks_by_threads f fd) (m : mg "tasks_by_threads" = some (.ref f)) (B : Bt mg) (D_needed : Fd P w K mg base "needed" ["move", "pairs"] 2 (spNeed K)) : Fd P w K mg base "tasks_by_threads" ["moves", "situations"] 3 (spTasks P w K) := by
  refine ⟨f, fd, F.ok sc_tasks_by_threads (fun vs H Q E h => ?_) (fun cdv A outer s H vs Q E hr h => ?_), m, F.kp, F.binds (ps := ["moves", "situations"]) fun _ _ _ _ _ _ us hl => match us, hl with | [_, _], _ => rfl⟩
  · obtain ⟨_, _, _, _, _, _, _, _, rfl, _⟩ := h
    rfl
  obtain ⟨md, sl, Hc, ms, ys, sxs, S, N, rfl, sc, hmb, hsl, hsx, fit, hlen, hnn, hN, hsz, q⟩ := h
  have sxl := Paired.length hsx
  refine ⟨_, (pss_cons (ps_set (i := 2) sc_tasks_by_threads.nd rfl (Or.inl rfl) pe_dnewK)
 (pss_cons (ps_for PassesOwn.never rfl (piL K (pv 1)) (pg_name (i := 3) sc_tasks_by_threads.nd rfl (Or.inl rfl))
 (pss_cons (ps_asg (pv 3) (pg_tup rfl (pgs_cons (pg_name (i := 4) sc_tasks_by_threads.nd rfl (Or.inl rfl)) (pgs_cons (pg_name (i := 5) sc_tasks_by_threads.nd rfl (Or.inl rfl)) pgs_nil))))
 (pss_cons (ps_set (i := 6) sc_tasks_by_threads.nd rfl (Or.inl rfl) (pe_op (opCat K) (pe_lst (pa_cons pe_non pa_nil)) (pe_lc (own := [("place", 10), ("_", 11)]) (g := gTup K 2 (gCons (gName 10) (gCons (gName 11) gNil))) (by rfl) sc_tasks_by_threads.nd (piT K (pv 5)) (blkOk_by (own := [("place", 10), ("_", 11)]) (N := ["moves", "situations", "tasks", "situation", "state", "pairs", "targets", "target", "move", "threads", "place", "_"]) (sc := (defScope s_tasks_by_threads)) (by decide +kernel)) (fun _ _ _ _ _ => (pg_tup rfl (pgs_cons (pg_name (i := 10) sc_tasks_by_threads.nd rfl (Or.inl rfl)) (pgs_cons (pg_name (i := 11) sc_tasks_by_threads.nd rfl (Or.inl rfl)) pgs_nil)))) (fun _ _ _ _ _ => pts_nil) (fun _ _ _ _ _ => (pv 10)))))
 (pss_one (ps_for PassesOwn.never rfl (piL K (pv 6)) (pg_name (i := 7) sc_tasks_by_threads.nd rfl (Or.inl rfl))
 (pss_one (ps_for PassesOwn.never rfl (piL K (pe_bmN PySem.F.plainAttrs_dict PySem.F.slot_dict_get PySem.F.type_dict_get (mt_getN K hr.units) (pv 0) (pa_cons (pe_tup (pa_cons (pv 4) (pa_cons (pv 7) pa_nil))) (pa_cons (pe_lst pa_nil) pa_nil)))) (pg_name (i := 8) sc_tasks_by_threads.nd rfl (Or.inl rfl))
 (pss_cons (ps_set (i := 9) sc_tasks_by_threads.nd rfl (Or.inl rfl) (pe_op op_add (pe_callB (cr_sumV rfl) (by rfl) B.sum (by decide +kernel) (pa_cons (peBm0 K PySem.F.plainAttrs_dict PySem.F.slot_dict_values PySem.F.type_dict_values mt_valsK (pe_fn D_needed (hr.mono (by omega)) rfl (pa_cons (pv 8) (pa_cons (pv 5) pa_nil)))) pa_nil)) pe_int))
 (pss_one (ps_expr (peBm K PySem.F.plainAttrs_list PySem.F.slot_list_append PySem.F.type_list_append mt_append (peBm K PySem.F.plainAttrs_dict PySem.F.slot_dict_setdefault PySem.F.type_dict_setdefault mt_setdef (pv 2) (pa_cons (pv 9) (pa_cons (pe_lst pa_nil) pa_nil))) (pa_cons (pe_tup (pa_cons (pv 8) (pa_cons (pv 3) pa_nil))) pa_nil))))))))))))
 (pss_one (ps_ret (pv 2))))), ?_⟩
  refine fun D nD => ?_
  dsimp only [gName]
  refine ⟨_, rfl, sl, rfl, ⟨_, (same_new nD).seq hsl⟩, for_list (xs := sxs) (fun i σ' H1 => ∃ (y3 y4 y5 y6 y7 y8 y9 : Option V), σ' = [some (.ref md), some (.ref sl), some (.ref D), y3, y4, y5, y6, y7, y8, y9, none, none] ∧ ∃ Hb, TkB K Hc H Hb H1 D (tskL ms (ys.take i))) ?_ ?_ ?_ ?_⟩
  · exact ⟨_, _, _, _, _, _, _, rfl, H, Same.refl _, same_new nD, fun _ => none, [], ⟨⟨[], upd_same, .of List.nodup_nil (Nat.zero_le _) (fun _ h => nomatch h) fun _ => rfl⟩, (fun _ _ h => nomatch h), (fun _ _ _ h => nomatch h), (fun _ _ h => nomatch h), nD, (fun _ h => nomatch h), (fun _ h => absurd rfl h)⟩, .nil⟩
  · rintro i σ' H1 _ ⟨y3, y4, y5, y6, y7, y8, y9, rfl, Hb, tk⟩
    exact tk.same.seq hsl
  · rintro i u σ' H1 hu ⟨y3, y4, y5, y6, y7, y8, y9, rfl, Hb, tk⟩
    obtain ⟨y, hy, pko⟩ := paired_get hsx hu
    have s1 := tk.same
    have sc1 := sc.trans s1
    obtain ⟨si, tu, prs, rfl, hsi, htu, hps⟩ := pko
    have hym := List.mem_of_getElem? hy
    have hyl := hlen y hym
    have hy0 := hnn y hym
    dsimp only [gName]
    refine ⟨_, rfl, si, _, rfl, Same.seqT sc1 hsi, rfl, _, _, rfl, _, _, rfl, rfl, ?_⟩
    dsimp only [gName]
    change tSeq _ _ _ [some (.ref md), some (.ref sl), some (.ref D), some (.ref si), some (.int (pk y).1), some (.ref tu), y6, y7, y8, y9, none, none] H1
    refine ⟨szc 1, fun l1 nl1 => ?_⟩
    dsimp only [gName]
    have s2 := same_new (o := HO.lst [V.non]) nl1
    have tk2 : TkB K Hc H Hb (upd H1 l1 (.lst [V.non])) D (tskL ms (ys.take i)) := tk.mono s2
    have el1 : (upd H1 l1 (.lst [V.non])) l1 = some (.lst [V.non]) := upd_same
    have sc2 := sc1.trans s2
    generalize upd H1 l1 (.lst [V.non]) = H2 at s2 tk2 el1 sc2 ⊢
    have prl := Paired.length hps
    rw [List.length_map] at prl
    have pkl := pkL_len 0 y.2
    refine ⟨_, rfl, tu, rfl, ⟨_, Same.seqT sc2 htu.sq⟩, fun D2 nD2 => lc_tup (xs := prs.map V.ref) (fun j H' => Same H2 H' ∧ H' D2 = some (.lst (((pkL 0 y.2).map fun p => V.int p.1).take j))) ⟨same_new nD2, upd_same⟩ (fun _ H' _ h => Same.seqT (sc2.trans h.1) htu.sq) ?_ ?_⟩
    · rintro j u H' hu2 ⟨sm, eD⟩
      obtain ⟨pa, hpa, rfl⟩ := get_map_inv hu2
      obtain ⟨kv, hkv, sqp⟩ := paired_get hps hpa
      obtain ⟨pr, hpr, rfl⟩ := gmap_inv (l := pkL 0 y.2) (f := nnE) hkv
      refine ⟨pa, _, rfl, Same.seqT (sc2.trans sm) sqp, rfl, _, _, rfl, ?_⟩
      dsimp only [gName]
      refine ⟨_, _, rfl, ?_⟩
      dsimp only [gName]
      refine ⟨rfl, rfl, yesT ?_⟩
      refine ⟨_, rfl, _, eD, ?_, Same.mut sm nD2, ?_⟩
      · rw [List.length_take, List.length_map]
        exact szn (m := 1000) (by omega) (by omega)
      · rw [upd_same]
        have : ((pkL 0 y.2).map fun p => V.int p.1).take (j + 1) = ((pkL 0 y.2).map fun p => V.int p.1).take j ++ [V.int pr.1] := take_snoc (by rw [List.getElem?_map, show (pkL 0 y.2)[j]? = some pr from hpr]; rfl)
        rw [this]
        rfl
    · rintro H3 ⟨s3, eD⟩
      have tk3 := tk2.mono s3
      have el3 := s3 _ _ el1
      rw [show (prs.map V.ref).length = ((pkL 0 y.2).map fun p => V.int p.1).length by rw [List.length_map, List.length_map]; exact prl, List.take_length] at eD
      refine ⟨l1, D2, _, _, rfl, rfl, sq el3, sq eD, ?_, fun lt nlt => ?_⟩
      · rw [List.length_map]
        show 1 + _ ≤ _
        exact Nat.le_of_lt (szn (m := 1001) (by omega) (by omega))
      dsimp only [gName]
      rw [tgt_vals]
      have tk4 := tk3.add (o := HO.lst ((tgtS y).map sdV)) nlt
      have elt : (upd Hb lt (.lst ((tgtS y).map sdV))) lt = some (.lst ((tgtS y).map sdV)) := upd_same
      have sc4 : Same Hc (upd Hb lt (.lst ((tgtS y).map sdV))) := sc.trans tk4.1
      generalize upd Hb lt (.lst ((tgtS y).map sdV)) = Hx at tk4 elt sc4
      generalize upd H3 lt (.lst ((tgtS y).map sdV)) = H4 at tk4 ⊢
      refine ⟨_, rfl, lt, rfl, ⟨_, sq (tk4.2.1 _ _ elt)⟩, for_list (xs := (tgtS y).map sdV) (fun j σ' H5 => ∃ (y7 y8 y9 : Option V), σ' = [some (.ref md), some (.ref sl), some (.ref D), some (.ref si), some (.int (pk y).1), some (.ref tu), some (.ref lt), y7, y8, y9, none, none] ∧ ∃ Hb, Same Hx Hb ∧ TkB K Hc H Hb H5 D (tskL ms (ys.take i) ++ ((tgtS y).take j).flatMap (tskY ms y))) ?_ ?_ ?_ ?_⟩
      · exact ⟨_, _, _, rfl, Hx, Same.refl _, by rw [List.take_zero, List.flatMap_nil, List.append_nil]; exact tk4⟩
      · rintro j σ' H5 _ ⟨y7, y8, y9, rfl, Hb5, s5, tk5⟩
        exact sq (tk5.2.1 _ _ (s5 _ _ elt))
      · rintro j ut σ' H5 hut ⟨y7, y8, y9, rfl, Hb5, s5, tk5⟩
        obtain ⟨t, ht, rfl⟩ := get_map_inv hut
        have sc5 : Same Hc Hb5 := sc4.trans s5
        dsimp only [gName]
        obtain ⟨mks, hmd, nkr, hmb2⟩ := hmb
        have scH5 : Same Hc H5 := sc5.trans tk5.2.1
        refine ⟨_, rfl, ⟨md, mks, rfl, scH5 _ _ hmd⟩, _, rfl, _, rfl, szc 2, fun kb nkb => ?_⟩
        have tk6 := tk5.add (o := HO.tup [.int (pk y).1, sdV t]) nkb
        have s6 : Same Hb5 (upd Hb5 kb (.tup [.int (pk y).1, sdV t])) := same_new (tk5.2.1.free nkb)
        have ekb : (upd Hb5 kb (.tup [.int (pk y).1, sdV t])) kb = some (.tup [.int (pk y).1, sdV t]) := upd_same
        generalize upd Hb5 kb (.tup [.int (pk y).1, sdV t]) = Hb6 at tk6 s6 ekb
        refine ⟨szc 0, fun el nel => ?_⟩
        have tk7 := tk6.add (o := HO.lst []) (l := el) nel
        have s7 : Same Hb6 (upd Hb6 el (.lst [])) := same_new (Same.free tk6.2.1 nel)
        have eel : (upd Hb6 el (.lst [])) el = some (.lst []) := upd_same
        generalize upd Hb6 el (.lst []) = Hb7 at tk7 s7 eel
        dsimp only [tNil]
        change rGetN P w K (.ref md) [.ref kb, .ref el] (upd (upd H5 kb (.tup [.int (pk y).1, sdV t])) el (.lst [])) (fun x H1 => _)
        generalize upd (upd H5 kb (.tup [.int (pk y).1, sdV t])) el (.lst []) = H7 at tk7 ⊢
        have s57 := s6.trans s7
        have sc7 : Same Hc Hb7 := sc5.trans s57
        have scH7 : Same Hc H7 := sc7.trans tk7.2.1
        have dk : Dp K H7 (.ref kb) (nkT y.1 t).data := by
          refine .tup (st (tk7.2.1 _ _ (s7 _ _ ekb))) (.cons (.int _) (.cons ?_ .nil))
          cases t with
          | none => exact .non
          | some p => exact .int _
        refine ⟨md, kb, el, nkT y.1 t, mks, rfl, rfl, scH7 _ _ hmd, nkr.mono scH7, dk, by cases t <;> exact Nat.le_of_ble_eq_true rfl, ?_⟩
        have hsel : ∃ mxs, H7 ((valN mks (nkT y.1 t)).getD el) = some (.lst mxs) ∧ Hb7 ((valN mks (nkT y.1 t)).getD el) = some (.lst mxs) ∧ DpAll K Hc mxs ((selM ms y.1 t).map MvT.data) := by
          obtain ⟨h1, h2⟩ := hmb2 y.1 t
          cases e : valN mks (nkT y.1 t) with
          | none => exact ⟨[], tk7.2.1 _ _ eel, eel, by rw [h2 e]; exact .nil⟩
          | some l =>
            obtain ⟨xs, e1, e2⟩ := h1 l e
            exact ⟨xs, scH7 _ _ e1, sc7 _ _ e1, e2⟩
        obtain ⟨mxs, hml, hmlb, hmx⟩ := hsel
        generalize (valN mks (nkT y.1 t)).getD el = ml at hml hmlb ⊢
        have mxl := dpa_map_len hmx
        have sell : (selM ms y.1 t).length ≤ ms.length := List.length_filter_le _ _
        refine ⟨ml, rfl, ⟨_, sq hml⟩, ?_⟩
        refine for_list (D := { nx := _, rt := _, bk := fun _ _ => True, ct := fun _ _ => True }) (g := gName 8) (xs := mxs) (fun k σ' H8 => ∃ (y8 y9 : Option V), σ' = [some (.ref md), some (.ref sl), some (.ref D), some (.ref si), some (.int (pk y).1), some (.ref tu), some (.ref lt), some (sdV t), y8, y9, none, none] ∧ ∃ Hb, Same Hb7 Hb ∧ TkB K Hc H Hb H8 D (tskL ms (ys.take i) ++ ((tgtS y).take j).flatMap (tskY ms y) ++ ((selM ms y.1 t).take k).map fun m => (m, y))) ?_ ?_ ?_ ?_
        · exact ⟨_, _, rfl, Hb7, Same.refl _, by rw [List.take_zero, List.map_nil, List.append_nil]; exact tk7⟩
        · rintro k σ' H8 _ ⟨y8, y9, rfl, Hb8, s8, tk8⟩
          exact sq (tk8.2.1 _ _ (s8 _ _ hmlb))
        · rintro k um σ' H8 hum ⟨y8, y9, rfl, Hb8, s8, tk8⟩
          obtain ⟨mv, hmv, dmv⟩ := dpa_map_at hmx hum
          obtain ⟨mva, sa, msv, rfl, hmva, _⟩ := dp_mv dmv
          have hmm : mv ∈ ms := (List.mem_filter.mp (List.mem_of_getElem? hmv)).1
          have fm := fit mv hmm
          have scH8 : Same Hc H8 := (sc7.trans s8).trans tk8.2.1
          dsimp only [gName]
          refine ⟨_, rfl, _, rfl, mva, tu, _, mv.np, mv.sd, y.2, prs, rfl, Same.seqT scH8 hmva, rfl, (by cases mv.sd <;> rfl), (by rw [hyl]; exact fm.np), (fun s hs => by rw [hyl]; exact fm.sd s hs), htu.mono scH8, Paired.mapP hps (fun _ _ z => Same.seqT scH8 z), hy0, (by rw [hyl]; exact hN), fun H9 na kvs s9 nna hna nd => ?_⟩
          have nd : NeedC (needL mv y.2) kvs := nd
          obtain ⟨ns, ekv, esum⟩ := need_sum2 nd (needL_nn (m := mv) hy0)
          subst ekv
          refine ⟨.inr (.inr (.inl ⟨rfl, .inl ⟨_, hna⟩⟩)), na, _, rfl, rfl, hna, fun vp nvp => ⟨vp, na, ns, rfl, upd_same, (same_new nvp) _ _ hna, ?_⟩⟩
          refine ⟨_, _, rfl, rfl, ?_⟩
          have tk9 := (tk8.mono s9).mono (same_new (o := valsO vp na) nvp)
          generalize upd H9 vp (valsO vp na) = H10 at tk9 ⊢
          rw [esum]
          obtain ⟨M, Z, g10, _⟩ := tk9.2.2
          obtain ⟨kd, hD, _⟩ := g10.dict
          refine ⟨_, rfl, .inr (.inr (.inl ⟨rfl, .inl ⟨_, hD⟩⟩)), _, rfl, szc 0, fun nl nn => ?_⟩
          have tkk : ((selM ms y.1 t).take (k + 1)).map (fun m => (m, y)) = ((selM ms y.1 t).take k).map (fun m => (m, y)) ++ [(mv, y)] := by rw [take_snoc hmv, List.map_append]; rfl
          dsimp only [tNil]
          refine sdef_mono (tk9.task (mv := .ref mva) (sv := .ref si) (Q := fun v H12 => v = .non ∧ ∃ Hb, Same Hb7 Hb ∧ TkB K Hc H Hb H12 D (tskL ms (ys.take i) ++ ((tgtS y).take j).flatMap (tskY ms y) ++ ((selM ms y.1 t).take (k + 1)).map fun m => (m, y))) nn ?_ dmv ⟨si, tu, prs, rfl, hsi, htu, hps⟩ fun Hb' H12 sb tk12 => ⟨rfl, Hb', s8.trans sb, ?_⟩) fun v H11 h11 => ⟨h11.1, _, rfl, _, rfl, szc 2, fun p np => ?_⟩
          · have hi : i < ys.length := (List.getElem?_eq_some_iff.mp hy).1
            have hj : j < (tgtS y).length := (List.getElem?_eq_some_iff.mp ht).1
            have tl := tgtS_len y
            have b1 : (tskL ms (ys.take i)).length ≤ i * ((N + 1) * ms.length) := Nat.le_trans (tskL_len (n := N) ms (ys.take i) fun z hz => hlen z (List.mem_of_mem_take hz)) (Nat.mul_le_mul_right _ (by rw [List.length_take]; omega))
            have b2 : (((tgtS y).take j).flatMap (tskY ms y)).length ≤ j * ms.length := Nat.le_trans (flat_len fun t _ => tskY_len ms y t) (Nat.mul_le_mul_right _ (by rw [List.length_take]; omega))
            have b3 : (((selM ms y.1 t).take k).map fun m => (m, y)).length ≤ ms.length := by rw [List.length_map, List.length_take]; omega
            have b4 : (j + 1) * ms.length ≤ (N + 1) * ms.length := Nat.mul_le_mul_right _ (by omega)
            have b5 : (i + 1) * ((N + 1) * ms.length) ≤ ys.length * ((N + 1) * ms.length) := Nat.mul_le_mul_right _ hi
            rw [Nat.add_mul, Nat.one_mul] at b4 b5
            rw [List.length_append, List.length_append]
            generalize (N + 1) * ms.length = A at *
            generalize j * ms.length = B at *
            generalize i * A = C at *
            omega
          · rw [tkk, ← List.append_assoc]
            exact tk12
          · obtain ⟨l, lys, ly, rfl, e1, e2, e3, _, Hb', s12, tk12⟩ := h11.2 p np
            cases e1
            exact ⟨l, lys, _, rfl, rfl, e2, e3, _, _, rfl, Hb', s12, tk12⟩
        · rintro σ' H8 ⟨y8, y9, rfl, Hb8, s8, tk8⟩
          rw [mxl, List.take_length] at tk8
          refine ⟨_, _, _, rfl, Hb8, (s5.trans s57).trans s8, ?_⟩
          rw [flat_take ht, ← List.append_assoc]
          exact tk8
      · rintro σ' H5 ⟨y7, y8, y9, rfl, Hb5, s5, tk5⟩
        rw [List.length_map, List.take_length] at tk5
        refine ⟨_, _, _, _, _, _, _, rfl, Hb5, ?_⟩
        have e : tskL ms (ys.take (i + 1)) = tskL ms (ys.take i) ++ tskS ms y := flat_take hy
        rw [e]
        exact tk5
  · rintro σ' H1 ⟨y3, y4, y5, y6, y7, y8, y9, rfl, Hb, tk⟩
    rw [sxl, List.take_length] at tk
    exact ⟨_, rfl, q _ D tk.same tk.fin⟩
end
/-! ### predecessors of several: what is left out, and the least ones -/
theorem pk_mem : ∀ (n : Nat) (cs : List Int) (x : Int × Int), x ∈ pkL n cs ↔ ∃ j, x.1 = ((n + j : Nat) : Int) ∧ x.2 = cs.getD j 0 ∧ 0 < x.2
  | n, [], x => by
    constructor
    · intro h; cases h
    · rintro ⟨j, _, h2, h3⟩
      rw [show ([] : List Int).getD j 0 = 0 by simp] at h2
      omega
  | n, c :: r, x => by
    have ih := pk_mem (n + 1) r x
    have step : (∃ j, x.1 = ((n + j : Nat) : Int) ∧ x.2 = (c :: r).getD j 0 ∧ 0 < x.2) ↔ (x.1 = (n : Int) ∧ x.2 = c ∧ 0 < x.2) ∨ ∃ j, x.1 = ((n + 1 + j : Nat) : Int) ∧ x.2 = r.getD j 0 ∧ 0 < x.2 := by
      constructor
      · rintro ⟨j, h1, h2, h3⟩
        cases j with
        | zero => exact .inl ⟨by omega, h2, h3⟩
        | succ j => exact .inr ⟨j, by omega, h2, h3⟩
      · rintro (⟨h1, h2, h3⟩ | ⟨j, h1, h2, h3⟩)
        · exact ⟨0, by omega, h2, h3⟩
        · exact ⟨j + 1, by omega, h2, h3⟩
    rw [step, ← ih, pkL_cons]
    split
    · rename_i hc
      rw [List.mem_cons]
      refine or_congr_left ?_
      constructor
      · rintro rfl
        exact ⟨rfl, rfl, hc⟩
      · rintro ⟨h1, h2, _⟩
        exact Prod.ext h1 h2
    · rename_i hc
      constructor
      · exact .inr
      · rintro (⟨_, h2, h3⟩ | h)
        · omega
        · exact h
theorem tgt_mem {y : Sn} {p : Nat} : some p ∈ tgtS y ↔ 0 < y.2.getD p 0 := by
  unfold tgtS
  rw [List.mem_cons, List.mem_map]
  constructor
  · rintro (h | ⟨x, hx, h⟩)
    · cases h
    · obtain ⟨j, h1, h2, h3⟩ := (pk_mem 0 y.2 x).mp hx
      have : x.1.toNat = p := Option.some.inj h
      have : j = p := by omega
      subst this
      omega
  · intro h
    exact .inr ⟨((p : Int), y.2.getD p 0), (pk_mem 0 y.2 _).mpr ⟨p, by simp, rfl, h⟩, by simp⟩
def PreS (ms : List MvT) (ys : List Sn) (x : Sn) : Prop := ∃ m ∈ ms, ∃ y ∈ ys, x.1 = (m.st : Int) ∧ y.1 = (m.ns : Int) ∧ Bef m y.2 x.2
theorem covS_of {x y : Sn} (hl : x.2.length = y.2.length) (h1 : x.1 = y.1) (h : ∀ q, y.2.getD q 0 ≤ x.2.getD q 0) : covS x y = true := covS_iff.mpr ⟨h1, (geAll_get hl).mpr h⟩
theorem covS_get {x y : Sn} (hl : x.2.length = y.2.length) (h : covS x y = true) : x.1 = y.1 ∧ ∀ q, y.2.getD q 0 ≤ x.2.getD q 0 := ⟨(covS_iff.mp h).1, (geAll_get hl).mp (covS_iff.mp h).2⟩
theorem skip_cov {m : MvT} {S n : Nat} {x y : Sn} (f : m.Fit S n) (hy : y.2.length = n) (hx : x.2.length = n) (x0 : ∀ c ∈ x.2, 0 ≤ c) (y0 : ∀ c ∈ y.2, 0 ≤ c) (e1 : x.1 = (m.st : Int)) (e2 : y.1 = (m.ns : Int)) (b : Bef m y.2 x.2) (no : ¬ ∃ t ∈ tgtS y, t ∈ tgs m) : covS x y = true := by
  by_cases hst : m.st ≠ m.ns ∨ m.sh ≠ []
  · refine absurd ⟨none, List.mem_cons_self, ?_⟩ no
    unfold tgs
    rw [if_pos hst]
    exact List.mem_cons_self
  have hst1 : m.st = m.ns := Decidable.byContradiction fun z => hst (.inl z)
  have hsh : m.sh = [] := Decidable.byContradiction fun z => hst (.inr z)
  have tg : ∀ p, some p = some m.np ∨ some p = m.sd → some p ∈ tgs m := fun p h => by
    unfold tgs
    rw [if_neg hst]
    split
    · rename_i c
      rcases h with h | h
      · rw [h]; exact List.mem_cons_self
      · rcases c with c | c
        · rw [c] at h; cases h
        · rw [h, c]; exact List.mem_cons_self
    · rcases h with h | h
      · rw [h]; exact List.mem_cons_self
      · rw [h]; exact List.mem_cons_of_mem _ List.mem_cons_self
  have z : ∀ p, some p = some m.np ∨ some p = m.sd → y.2.getD p 0 ≤ 0 := fun p h => by
    refine Int.not_lt.mp fun c => no ⟨some p, tgt_mem.mpr c, tg p h⟩
  refine covS_of (hx.trans hy.symm) (by rw [e1, e2, hst1]) fun q => ?_
  have hq := b.2 q
  rw [aft_get f hx, mid_get f hx, hsh, if_neg (fun h => by cases h), gbump (by rw [hx]; exact f.pl)] at hq
  have h0 := nn_get x0 q
  have hin : inSum [] (bump x.2 m.pl (-1)) q = 0 := rfl
  rw [hin] at hq
  by_cases c1 : q = m.np
  · have := z q (.inl (by rw [c1]))
    omega
  · by_cases c2 : m.sd = some q
    · have := z q (.inr c2.symm)
      omega
    · rw [if_neg c1, if_neg c2] at hq
      split at hq <;> omega
theorem dedup_nat : ∀ l : List Nat, ∃ ss : List Nat, ss.Nodup ∧ ∀ s, s ∈ ss ↔ s ∈ l
  | [] => ⟨[], List.nodup_nil, fun _ => Iff.rfl⟩
  | x :: l => by
    obtain ⟨ss, h1, h2⟩ := dedup_nat l
    by_cases c : x ∈ ss
    · refine ⟨ss, h1, fun s => ?_⟩
      rw [List.mem_cons, ← h2]
      exact ⟨.inr, fun h => by rcases h with rfl | h; exact c; exact h⟩
    · exact ⟨x :: ss, List.nodup_cons.mpr ⟨c, h1⟩, fun s => by rw [List.mem_cons, List.mem_cons, h2]⟩
theorem ss_ex (sh : List (Nat × Nat)) (nd : List Int) : ∃ ss, SsOk sh nd ss := by
  obtain ⟨ss, h1, h2⟩ := dedup_nat ((sh.filter fun p => decide (0 < nd.getD p.2 0)).map (·.2))
  refine ⟨ss, h1, fun s => ?_⟩
  rw [h2, List.mem_map]
  constructor
  · rintro ⟨p, hp, rfl⟩
    obtain ⟨a, b⟩ := List.mem_filter.mp hp
    exact ⟨of_decide_eq_true b, p, a, rfl⟩
  · rintro ⟨h, p, hp, rfl⟩
    exact ⟨p, List.mem_filter.mpr ⟨hp, decide_eq_true h⟩, rfl⟩
theorem dv_base {m : MvT} {S n : Nat} {g : List Int} (fit : m.Fit S n) (hg : g.length = n) (g0 : ∀ c ∈ g, 0 ≤ c) {ss : List Nat} (ok : SsOk m.sh (needL m g) ss) {d : List Int} (hd : Dv (grpsOf m.sh (needL m g) ss) (baseL m (needL m g) ss) d) :
    d.length = n ∧ (∀ c ∈ d, 0 ≤ c) ∧ d.sum = (needL m g).sum + 1 := by
  have nl : (needL m g).length = n := by rw [needL_len, hg]
  have n0 := needL_nn (m := m) g0
  have zl : (zeroL (needL m g) ss).length = n := by rw [zeroL_len, nl]
  have bl : (baseL m (needL m g) ss).length = n := by unfold baseL; rw [bump_len, zl]
  have hpl : m.pl < (zeroL (needL m g) ss).length := by rw [zl]; exact fit.pl
  have gok := grps_ok fit.sh ok
  have z0 := zeroL_nn ss n0
  have b0 : ∀ c ∈ baseL m (needL m g) ss, 0 ≤ c := get_nn fun q' => by
    unfold baseL
    rw [gbump hpl]
    have := nn_get z0 q'
    split <;> omega
  have h1 := hd.sum fun x hx p hp => by rw [bl]; exact gok.lt x hx p hp
  have h2 := zero_sum ss (needL m g) ok.dis fun s hs => by
    obtain ⟨_, p, hp, rfl⟩ := (ok.iff s).mp hs
    rw [nl]
    exact fit.sh.snd p hp
  refine ⟨by rw [hd.len, bl], get_nn fun q' => Int.le_trans (nn_get b0 q') (hd.ge gok.pos (fun x hx p hp => by rw [bl]; exact gok.lt x hx p hp) q'), ?_⟩
  rw [h1, gsum_grps]
  unfold baseL
  rw [bump_sum hpl]
  omega
theorem bef_low {m : MvT} {S n : Nat} {g x : List Int} (fit : m.Fit S n) (hg : g.length = n) (g0 : ∀ c ∈ g, 0 ≤ c) (hx : x.length = n) (x0 : ∀ c ∈ x, 0 ≤ c) (b : Bef m g x) :
    ∃ d : List Int, d.length = n ∧ (∀ c ∈ d, 0 ≤ c) ∧ d.sum = (needL m g).sum + 1 ∧ (∀ q, d.getD q 0 ≤ x.getD q 0) ∧ Bef m g d := by
  obtain ⟨ss, ok⟩ := ss_ex m.sh (needL m g)
  have nf : ∀ p ∈ m.sh, ¬ 0 < (needL m g).getD p.1 0 := fun p hp c => pre_no fit hg hx x0 hp c b
  obtain ⟨d, hd, hle⟩ := (pre_iff fit hg hx g0 x0 ok nf).mp b
  obtain ⟨h1, h2, h3⟩ := dv_base fit hg g0 ok hd
  exact ⟨d, h1, h2, h3, hle, (pre_iff fit hg h1 g0 h2 ok nf).mpr ⟨d, hd, fun _ => Int.le_refl _⟩⟩
theorem get_sum {a b : List Int} (hl : a.length = b.length) (h : ∀ q, b.getD q 0 ≤ a.getD q 0) : b.sum ≤ a.sum := (geAll_sum hl ((geAll_get hl).mpr h)).1
theorem dec_sum {cs : List Int} {p : Nat} (hp : p < cs.length) : (decL cs p).sum ≤ cs.sum := by
  refine get_sum (decL_len cs p).symm fun q => ?_
  rw [decL_get hp]
  split
  · rename_i h
    rw [h.1]
    omega
  · exact Int.le_refl _
theorem need_le {m : MvT} {S n : Nat} {g : List Int} (fit : m.Fit S n) (hg : g.length = n) : (needL m g).sum ≤ g.sum := by
  unfold needL
  have h1 := dec_sum (cs := g) (p := m.np) (by rw [hg]; exact fit.np)
  cases e : m.sd with
  | none => exact h1
  | some d =>
    have h2 := dec_sum (cs := decL g m.np) (p := d) (by rw [decL_len, hg]; exact fit.sd d e)
    show (decL (decL g m.np) d).sum ≤ _
    omega
/-- what the new ones are -/
structure FreR (ms : List MvT) (ys : List Sn) (N : Nat) (U0 : Int × Prs → Prop) (full : Nat → Bool) (L : List Sn) : Prop where
  lens : Lens N L
  nn : NonN L
  pre : ∀ z ∈ L, PreS ms ys z
  new : ∀ z ∈ L, ¬ U0 (pk z)
  anti : ∀ a ∈ L, ∀ b ∈ L, covS a b = true → a = b
  nd : L.Nodup
  cpl : full L.length = false → ∀ x : Sn, x.2.length = N → (∀ c ∈ x.2, 0 ≤ c) → PreS ms ys x → U0 (pk x) ∨ ∃ z ∈ L, covS x z = true
  least : ∀ z ∈ L, ∀ x : Sn, x.2.length = N → (∀ c ∈ x.2, 0 ≤ c) → PreS ms ys x → covS z x = true → ¬ U0 (pk x) → x = z
  lim : L ≠ [] → full (L.length - 1) = false
  sm : ∀ z ∈ L, ∃ y ∈ ys, z.2.sum ≤ y.2.sum + 1
theorem same_mk {H : Hp} {C x dx : Addr} (nx : H x = none) (nd : H dx = none) : Same H (upd (upd H dx (.own x)) x (.ins C dx [])) := fun b o h => by
  rw [upd_ne (ne_of_none h nx), upd_ne (ne_of_none h nd)]
  exact h
theorem pick_ds {s : Int} {Pd : List Int → Prop} : ∀ {nb : List Pkd}, (∀ z ∈ nb, ∃ d, z.1 = (s, pkL 0 d) ∧ Pd d) → ∃ ds : List (List Int), nb.map (·.1) = ds.map (fun d => (s, pkL 0 d)) ∧ ∀ d ∈ ds, Pd d
  | [], _ => ⟨[], rfl, fun _ h => by cases h⟩
  | z :: nb, h => by
    obtain ⟨d, e, p⟩ := h z List.mem_cons_self
    obtain ⟨ds, e2, p2⟩ := pick_ds fun x hx => h x (List.mem_cons_of_mem _ hx)
    refine ⟨d :: ds, by rw [List.map_cons, List.map_cons, e, e2], fun x hx => ?_⟩
    rcases List.mem_cons.mp hx with rfl | hx
    · exact p
    · exact p2 x hx
theorem geAll_of {xs ys : List Int} (hl : xs.length = ys.length) (h : ∀ q, ys.getD q 0 ≤ xs.getD q 0) : geAll xs ys = true := (geAll_get hl).mpr h
theorem szF_le {n : Nat} : ∀ {L : List (Int × Prs)}, (∀ z ∈ L, z.2.length ≤ n) → szF L ≤ L.length * (2 * n + 1)
  | [], _ => Nat.zero_le _
  | z :: L, h => by
    have h1 := szF_le (n := n) (L := L) fun x hx => h x (List.mem_cons_of_mem _ hx)
    have h2 := h z List.mem_cons_self
    show (2 * z.2.length + 1) + szF L ≤ (L.length + 1) * (2 * n + 1)
    rw [Nat.add_mul, Nat.one_mul]
    omega
/-! ### gathering by threads: what holds between two groups, and within one -/
structure FI (N : Nat) (T : List (MvT × Sn)) (U0 U : Int × Prs → Prop) (full : Nat → Bool) (dn : List Int) (L : List Sn) : Prop where
  lens : Lens N L
  nn : NonN L
  good : ∀ z ∈ L, ∃ t ∈ T, thrT t ∈ dn ∧ z.1 = (t.1.st : Int) ∧ t.2.1 = (t.1.ns : Int) ∧ z.2.sum = thrT t ∧ Bef t.1 t.2.2 z.2 ∧ ¬ U0 (pk z)
  und : ∀ y, U y ↔ U0 y ∨ Ab (L.map pk) y
  anti : ∀ a ∈ L, ∀ b ∈ L, covS a b = true → a = b
  nd : L.Nodup
  cpl : full L.length = false → ∀ t ∈ T, thrT t ∈ dn → t.2.1 = (t.1.ns : Int) → ∀ x : List Int, x.length = N → (∀ c ∈ x, 0 ≤ c) → Bef t.1 t.2.2 x → U ((t.1.st : Int), pkL 0 x)
  least : ∀ z ∈ L, ∀ t ∈ T, thrT t < z.2.sum → t.2.1 = (t.1.ns : Int) → ∀ x : List Int, x.length = N → (∀ c ∈ x, 0 ≤ c) → Bef t.1 t.2.2 x → U ((t.1.st : Int), pkL 0 x)
  lim : L ≠ [] → full (L.length - 1) = false
theorem FI.start (N : Nat) (T : List (MvT × Sn)) (U : Int × Prs → Prop) (full : Nat → Bool) : FI N T U U full [] [] :=
  ⟨(fun _ h => nomatch h), (fun _ h => nomatch h), (fun _ h => nomatch h), fun y => ⟨.inl, fun h => by rcases h with h | ⟨_, h, _⟩; exact h; cases h⟩, (fun _ h => nomatch h), List.nodup_nil, (fun _ _ _ h => nomatch h), (fun _ h => nomatch h), fun h => absurd rfl h⟩
structure BI (N : Nat) (T G : List (MvT × Sn)) (U : Int × Prs → Prop) (full : Nat → Bool) (k : Int) (l : Nat) (B : List Sn) : Prop where
  lens : Lens N B
  nn : NonN B
  good : ∀ z ∈ B, ∃ t ∈ T, thrT t = k ∧ z.1 = (t.1.st : Int) ∧ t.2.1 = (t.1.ns : Int) ∧ z.2.sum = k ∧ Bef t.1 t.2.2 z.2 ∧ ¬ U (pk z)
  nd : B.Nodup
  cpl : full (l + B.length) = false → ∀ t ∈ G, t.2.1 = (t.1.ns : Int) → ∀ x : List Int, x.length = N → (∀ c ∈ x, 0 ≤ c) → Bef t.1 t.2.2 x → ∃ d : List Int, d.length = N ∧ (∀ c ∈ d, 0 ≤ c) ∧ (∀ q, d.getD q 0 ≤ x.getD q 0) ∧ (U ((t.1.st : Int), pkL 0 d) ∨ (((t.1.st : Int), d) : Sn) ∈ B)
  lim : B ≠ [] → full (l + B.length - 1) = false
theorem BI.start (N : Nat) (T : List (MvT × Sn)) (U : Int × Prs → Prop) (full : Nat → Bool) (k : Int) (l : Nat) : BI N T [] U full k l [] :=
  ⟨(fun _ h => nomatch h), (fun _ h => nomatch h), (fun _ h => nomatch h), List.nodup_nil, (fun _ _ h => nomatch h), fun h => absurd rfl h⟩
theorem FI.step {N : Nat} {T : List (MvT × Sn)} {U0 U U' : Int × Prs → Prop} {full : Nat → Bool} {dn : List Int} {L B : List Sn} {k : Int} (h : FI N T U0 U full dn L) (b : BI N T (T.filter fun t => decide (thrT t = k)) U full k L.length B)
    (fm : ∀ i j, full j = false → i ≤ j → full i = false) (dlt : ∀ i ∈ dn, i < k) (dall : ∀ t ∈ T, thrT t < k → thrT t ∈ dn) (und : ∀ y, U' y ↔ U y ∨ Ab (B.map pk) y) (up : ∀ s c d, SubP d c → U' (s, c) → U' (s, d)) : FI N T U0 U' full (dn ++ [k]) (L ++ B) := by
  have hin : ∀ x ∈ L, U (pk x) := fun x hx => (h.und _).mpr (.inr ⟨pk x, List.mem_map.mpr ⟨x, hx, rfl⟩, rfl, subP_self _⟩)
  have nU0 : ∀ y, ¬ U y → ¬ U0 y := fun y hy h0 => hy ((h.und y).mpr (.inl h0))
  have lenA : Lens N (L ++ B) := fun x hx => by
    rcases List.mem_append.mp hx with hx | hx
    · exact h.lens x hx
    · exact b.lens x hx
  refine ⟨lenA, fun x hx => ?_, fun z hz => ?_, fun y => ?_, fun a ha c hc e => ?_, ?_, fun nf t ht hd hn x hx x0 hb => ?_, fun z hz t ht hlt hn x hx x0 hb => ?_, fun ne => ?_⟩
  · rcases List.mem_append.mp hx with hx | hx
    · exact h.nn x hx
    · exact b.nn x hx
  · rcases List.mem_append.mp hz with hz | hz
    · obtain ⟨t, h1, h2, h3⟩ := h.good z hz
      exact ⟨t, h1, List.mem_append_left _ h2, h3⟩
    · obtain ⟨t, h1, h2, h3, h4, h5, h6, h7⟩ := b.good z hz
      exact ⟨t, h1, List.mem_append_right _ (by rw [h2]; exact List.mem_singleton.mpr rfl), h3, h4, by rw [h5, h2], h6, nU0 _ h7⟩
  · rw [und, h.und, List.map_append, ab_app', or_assoc]
  · rcases List.mem_append.mp ha with ha | ha
    · rcases List.mem_append.mp hc with hc | hc
      · exact h.anti a ha c hc e
      · obtain ⟨t, _, h2, _, _, h5, _⟩ := h.good a ha
        obtain ⟨t2, _, g2, _, _, g5, _⟩ := b.good c hc
        have := (cov_sum ((h.lens a ha).trans (b.lens c hc).symm) e).1
        have := dlt _ h2
        unfold smS at *
        omega
    · rcases List.mem_append.mp hc with hc | hc
      · obtain ⟨_, _, _, _, _, _, _, g7⟩ := b.good a ha
        refine absurd ((h.und _).mpr (.inr ((ab_cov h.lens (b.lens a ha) h.nn (b.nn a ha)).mpr ⟨c, hc, e⟩))) g7
      · obtain ⟨_, _, _, _, _, h5, _⟩ := b.good a ha
        obtain ⟨_, _, _, _, _, g5, _⟩ := b.good c hc
        exact (cov_sum ((b.lens a ha).trans (b.lens c hc).symm) e).2 (by unfold smS; omega)
  · refine List.nodup_append.mpr ⟨h.nd, b.nd, fun x hx y hy e => ?_⟩
    subst e
    obtain ⟨_, _, _, _, _, _, _, g7⟩ := b.good x hy
    exact g7 (hin x hx)
  · rcases List.mem_append.mp hd with hd | hd
    · exact (und _).mpr (.inl (h.cpl (fm _ _ nf (by rw [List.length_append]; omega)) t ht hd hn x hx x0 hb))
    · have ek := List.mem_singleton.mp hd
      obtain ⟨d, h1, h2, h3, h4⟩ := b.cpl (by rw [← List.length_append]; exact nf) t (List.mem_filter.mpr ⟨ht, decide_eq_true ek⟩) hn x hx x0 hb
      refine up _ _ _ (sub_pk_ge (hx.trans h1.symm) h2 h3) ((und _).mpr ?_)
      rcases h4 with h4 | h4
      · exact .inl h4
      · exact .inr ⟨_, List.mem_map.mpr ⟨_, h4, rfl⟩, rfl, subP_self _⟩
  · rcases List.mem_append.mp hz with hz | hz
    · exact (und _).mpr (.inl (h.least z hz t ht hlt hn x hx x0 hb))
    · obtain ⟨_, _, _, _, _, g5, _⟩ := b.good z hz
      have nb : B ≠ [] := fun e => by rw [e] at hz; cases hz
      have bl : 0 < B.length := List.length_pos_of_mem hz
      exact (und _).mpr (.inl (h.cpl (fm _ _ (b.lim nb) (by omega)) t ht (dall t ht (by omega)) hn x hx x0 hb))
  · by_cases e : B = []
    · subst e
      rw [List.append_nil] at ne ⊢
      exact h.lim ne
    · rw [List.length_append]
      exact b.lim e
theorem FI.fin {S N : Nat} {ms : List MvT} {ys : List Sn} {U0 U : Int × Prs → Prop} {full : Nat → Bool} {dn : List Int} {L : List Sn} (h : FI N (tskL ms ys) U0 U full dn L) (fit : ∀ m ∈ ms, m.Fit S N) (ly : Lens N ys) (ny : NonN ys) (all : ∀ t ∈ tskL ms ys, thrT t ∈ dn)
    (u0 : ∀ y ∈ ys, U0 (pk y)) (up : ∀ s c d, SubP d c → U0 (s, c) → U0 (s, d)) : FreR ms ys N U0 full L := by
  have skip : ∀ x : Sn, x.2.length = N → (∀ c ∈ x.2, 0 ≤ c) → ∀ m ∈ ms, ∀ y ∈ ys, x.1 = (m.st : Int) → y.1 = (m.ns : Int) → Bef m y.2 x.2 → ¬ U0 (pk x) → (m, y) ∈ tskL ms ys := fun x hx x0 m hm y hy e1 e2 hb nu => by
    refine tskL_mem.mpr ⟨hy, hm, e2.symm, Classical.byContradiction fun no => nu ?_⟩
    have c := skip_cov (fit m hm) (ly y hy) hx x0 (ny y hy) e1 e2 hb no
    obtain ⟨h1, h2⟩ := (sub_cov hx (ly y hy) x0 (ny y hy)).mpr c
    have := up _ _ _ h2 (u0 y hy)
    rw [← show x.1 = y.1 from h1] at this
    exact this
  refine ⟨h.lens, h.nn, fun z hz => ?_, fun z hz => ?_, h.anti, h.nd, fun nf x hx x0 hp => ?_, fun z hz x hx x0 hp c nu => ?_, h.lim, fun z hz => ?_⟩
  · obtain ⟨⟨m, y⟩, h1, _, h3, h4, _, h6, _⟩ := h.good z hz
    obtain ⟨hy, hm, _⟩ := tskL_mem.mp h1
    exact ⟨m, hm, y, hy, h3, h4, h6⟩
  · obtain ⟨_, _, _, _, _, _, _, h7⟩ := h.good z hz
    exact h7
  · obtain ⟨m, hm, y, hy, e1, e2, hb⟩ := hp
    refine Classical.or_iff_not_imp_left.mpr fun nu => ?_
    have ht := skip x hx x0 m hm y hy e1 e2 hb nu
    have u := h.cpl nf (m, y) ht (all _ ht) e2 x.2 hx x0 hb
    have u : U (pk x) := by unfold pk; rw [e1]; exact u
    rcases (h.und _).mp u with u | u
    · exact absurd u nu
    · exact (ab_cov h.lens hx h.nn x0).mp u
  · obtain ⟨m, hm, y, hy, e1, e2, hb⟩ := hp
    have ht := skip x hx x0 m hm y hy e1 e2 hb nu
    obtain ⟨d, d1, d2, d3, d4, _⟩ := bef_low (fit m hm) (ly y hy) (ny y hy) hx x0 hb
    have s1 : thrT (m, y) ≤ x.2.sum := by
      have := get_sum (hx.trans d1.symm) d4
      rw [d3] at this
      exact this
    have lz := h.lens z hz
    have s2 := cov_sum (lz.trans hx.symm) c
    unfold smS at s2
    by_cases e : thrT (m, y) < z.2.sum
    · have u := h.least z hz (m, y) ht e e2 x.2 hx x0 hb
      have u : U (pk x) := by unfold pk; rw [e1]; exact u
      rcases (h.und _).mp u with u | u
      · exact absurd u nu
      · obtain ⟨w, hw, c2⟩ := (ab_cov h.lens hx h.nn x0).mp u
        have e3 := h.anti z hz w hw (covS_tr (lz.trans hx.symm) (hx.trans (h.lens w hw).symm) c c2)
        subst e3
        have := (cov_sum (hx.trans lz.symm) c2).1
        unfold smS at this
        exact (s2.2 this).symm
    · exact (s2.2 (by omega)).symm
  · obtain ⟨⟨m, y⟩, h1, _, _, _, h5, _⟩ := h.good z hz
    obtain ⟨hy, hm, _⟩ := tskL_mem.mp h1
    have := need_le (fit m hm) (ly y hy)
    exact ⟨y, hy, by rw [h5]; unfold thrT; show (needL m y.2).sum + 1 ≤ _; omega⟩
theorem BI.add {N : Nat} {T G : List (MvT × Sn)} {U : Int × Prs → Prop} {full : Nat → Bool} {k : Int} {l : Nat} {B : List Sn} {m : MvT} {y : Sn} {ds : List (List Int)} (h : BI N T G U full k l B) (ht : (m, y) ∈ T) (hk : thrT (m, y) = k)
    (pds : ∀ d ∈ ds, d.length = N ∧ (∀ c ∈ d, 0 ≤ c) ∧ d.sum = thrT (m, y) ∧ y.1 = (m.ns : Int) ∧ Bef m y.2 d ∧ ¬ U ((m.st : Int), pkL 0 d)) (nd : (B ++ ds.map fun d => (((m.st : Int), d) : Sn)).Nodup)
    (all : full (l + (B ++ ds.map fun d => (((m.st : Int), d) : Sn)).length) = false → y.1 = (m.ns : Int) → ∀ x : List Int, x.length = N → (∀ c ∈ x, 0 ≤ c) → Bef m y.2 x → ∃ d : List Int, d.length = N ∧ (∀ c ∈ d, 0 ≤ c) ∧ (∀ q, d.getD q 0 ≤ x.getD q 0) ∧ (U ((m.st : Int), pkL 0 d) ∨ (((m.st : Int), d) : Sn) ∈ B ++ ds.map fun d => (((m.st : Int), d) : Sn)))
    (lim : ds ≠ [] → full (l + (B.length + ds.length) - 1) = false) (fm : ∀ i j, full j = false → i ≤ j → full i = false) : BI N T (G ++ [(m, y)]) U full k l (B ++ ds.map fun d => (((m.st : Int), d) : Sn)) := by
  have mem : ∀ z ∈ ds.map (fun d => (((m.st : Int), d) : Sn)), ∃ d ∈ ds, z = (((m.st : Int), d) : Sn) := fun z hz => by
    obtain ⟨d, h1, h2⟩ := List.mem_map.mp hz
    exact ⟨d, h1, h2.symm⟩
  refine ⟨fun z hz => ?_, fun z hz => ?_, fun z hz => ?_, nd, fun nf t hg hn x hx x0 hb => ?_, fun ne => ?_⟩
  · rcases List.mem_append.mp hz with hz | hz
    · exact h.lens z hz
    · obtain ⟨d, hd, rfl⟩ := mem z hz
      exact (pds d hd).1
  · rcases List.mem_append.mp hz with hz | hz
    · exact h.nn z hz
    · obtain ⟨d, hd, rfl⟩ := mem z hz
      exact (pds d hd).2.1
  · rcases List.mem_append.mp hz with hz | hz
    · exact h.good z hz
    · obtain ⟨d, hd, rfl⟩ := mem z hz
      obtain ⟨_, _, p3, p4, p5, p6⟩ := pds d hd
      exact ⟨(m, y), ht, hk, rfl, p4, by rw [← hk]; exact p3, p5, p6⟩
  · rcases List.mem_append.mp hg with hg | hg
    · obtain ⟨d, h1, h2, h3, h4⟩ := h.cpl (fm _ _ nf (by rw [List.length_append]; omega)) t hg hn x hx x0 hb
      refine ⟨d, h1, h2, h3, ?_⟩
      rcases h4 with h4 | h4
      · exact .inl h4
      · exact .inr (List.mem_append_left _ h4)
    · rw [List.mem_singleton.mp hg] at hn hb ⊢
      exact all nf hn x hx x0 hb
  · rw [List.length_append, List.length_map]
    by_cases e : ds = []
    · subst e
      rw [List.map_nil, List.append_nil] at ne
      exact h.lim ne
    · exact lim e
theorem nodup_map {α β : Type} {f : α → β} {l : List α} (h : (l.map f).Nodup) : l.Nodup := by
  rw [List.Nodup, List.pairwise_map] at h
  exact h.imp fun h1 e => h1 (by rw [e])
theorem BI.fre {N : Nat} {T G : List (MvT × Sn)} {U : Int × Prs → Prop} {full : Nat → Bool} {k : Int} {l : Nat} {B : List Sn} (h : BI N T G U full k l B) : ∀ (i : Nat) (x : Int × Prs), (B.map pk)[i]? = some x → ¬ U x ∧ ¬ Ab ((B.map pk).take i) x := fun i x hx => by
  obtain ⟨z, hz, rfl⟩ := gmap_inv hx
  have hzm := List.mem_of_getElem? hz
  obtain ⟨_, _, _, _, _, h5, _, h7⟩ := h.good z hzm
  refine ⟨h7, fun ab => ?_⟩
  rw [← List.map_take] at ab
  have sub : ∀ w ∈ B.take i, w ∈ B := fun w hw => List.mem_of_mem_take hw
  obtain ⟨w, hw, c⟩ := (ab_cov (fun w hw => h.lens w (sub w hw)) (h.lens z hzm) (fun w hw => h.nn w (sub w hw)) (h.nn z hzm)).mp ab
  obtain ⟨_, _, _, _, _, g5, _⟩ := h.good w (sub w hw)
  have e := (cov_sum ((h.lens z hzm).trans (h.lens w (sub w hw)).symm) c).2 (by unfold smS; omega)
  subst e
  obtain ⟨j, hj⟩ := List.mem_iff_getElem?.mp hw
  have ji : j < i := by
    have := (List.getElem?_eq_some_iff.mp hj).1
    rw [List.length_take] at this
    omega
  rw [List.getElem?_take_of_lt ji] at hj
  have := (List.getElem?_inj (List.getElem?_eq_some_iff.mp hz).1 h.nd).mp (hz.trans hj.symm)
  omega
theorem full_len {m l : Nat} (h : fullB (some m) (l - 1) = false) : l ≤ m + 1 := by
  have := of_decide_eq_false h
  omega
theorem pk_listOf {K : PySem.W.Frag} {H : Hp} : ∀ {fs : List Pkd} {L : List Sn}, fs.map (·.1) = L.map pk → (∀ z ∈ fs, PkO K H (.ref z.2) z.1) → Paired (fun v y => PkO K H v (pk y)) (fs.map fun z => V.ref z.2) L
  | [], [], _, _ => .nil
  | [], _ :: _, h, _ => by cases h
  | _ :: _, [], h, _ => by cases h
  | z :: fs, y :: L, h, hp => by
    rw [List.map_cons, List.map_cons] at h
    injection h with h1 h2
    refine .cons ?_ (pk_listOf h2 fun w hw => hp w (List.mem_cons_of_mem _ hw))
    rw [← h1]
    exact hp z List.mem_cons_self
theorem sorted_before {ys : List Int} {j : Nat} {k x : Int} (pw : ys.Pairwise (· ≤ ·)) (hk : ys[j]? = some k) (hx : x ∈ ys) (lt : x < k) : x ∈ ys.take j := by
  obtain ⟨i, hi⟩ := List.mem_iff_getElem?.mp hx
  have ij : i < j := by
    refine Nat.lt_of_not_le fun c => ?_
    obtain ⟨l1, e1⟩ := List.getElem?_eq_some_iff.mp hk
    obtain ⟨l2, e2⟩ := List.getElem?_eq_some_iff.mp hi
    rcases Nat.lt_or_eq_of_le c with c | c
    · have := List.pairwise_iff_getElem.mp pw j i l1 l2 c
      rw [e1, e2] at this
      omega
    · subst c
      rw [e1] at e2
      omega
  exact List.mem_iff_getElem?.mpr ⟨i, by rw [List.getElem?_take_of_lt ij]; exact hi⟩
/-! ### a def that promises more promises less -/
section
variable {P : Program} {w : World} {K : PySem.W.Frag} {mg : Str → Option Value} {base : Heap}
theorem Fd.weak {x : Str} {ps : List Str} {k : Nat} {sp sp' : Sp} (d : Fd P w K mg base x ps k sp) (h : ∀ vs H Q E, sp' vs H Q E → sp vs H Q E) : Fd P w K mg base x ps k sp' := by
  obtain ⟨f, fd, ok, r⟩ := d
  exact ⟨f, fd, ⟨fun vs H Q E z => ok.len vs H Q E (h _ _ _ _ z), fun A outer s H args us vs Q E a b c d z => ok.run A outer s H args us vs Q E a b c d (h _ _ _ _ z)⟩, r⟩
end
/-! ### a def that promises more promises less -/
section
variable {P : Program} {w : World} {K : PySem.W.Frag} {mg : Str → Option Value} {base : Heap}
def spPacked (K : PySem.W.Frag) : Sp := fun vs H Q _ => ∃ (x : V) (s : Int) (cs : List Int), vs = [x] ∧ Sit K H x s cs ∧ cs.length ≤ 1000 ∧ ∀ H' p, Same H H' → Dp K H' (.ref p) (pkD s (pkL 0 cs)) → Q (.ref p) H'
theorem fd_packedW (d : Fd P w K mg base "packed" ["situation"] 1 (spPackP K)) : Fd P w K mg base "packed" ["situation"] 1 (spPacked K) :=
  d.weak fun _ _ _ _ ⟨x, s, cs, h1, h2, h3, q⟩ => ⟨x, s, cs, h1, h2, h3, fun H' p _ _ s d _ _ _ => q H' p s d⟩
end
/-! ### situations by their threads -/
abbrev grpZ (Z : List (V × Sn)) (t : Int) : List (V × Sn) := Z.filter fun z => decide (smS z.2 = t)
theorem grp_snoc (Z : List (V × Sn)) (z : V × Sn) (t : Int) : grpZ (Z ++ [z]) t = grpZ Z t ++ (if smS z.2 = t then [z] else []) := by
  unfold grpZ
  rw [List.filter_append]
  by_cases h : smS z.2 = t
  · rw [if_pos h, List.filter_cons_of_pos (by simpa using h)]
    rfl
  · rw [if_neg h, List.filter_cons_of_neg (by simpa using h)]
    rfl
structure GrpAt (H H1 : Hp) (D : Addr) (M : Int → Option Addr) (Z : List (V × Sn)) : Prop where
  dict : ∃ kvs, H1 D = some (.dK kvs) ∧ CellF (oneM M) [] Z.length kvs
  lists : ∀ t a, M t = some a → H1 a = some (.lst ((grpZ Z t).map (·.1)))
  inj : ∀ t t' a, M t = some a → M t' = some a → t = t'
  new : ∀ t a, M t = some a → H a = none
  newD : H D = none
  has : ∀ z ∈ Z, M (smS z.2) ≠ none
  only : ∀ t, M t ≠ none → ∃ z ∈ Z, smS z.2 = t
theorem GrpAt.mono {H H1 H2 : Hp} {D : Addr} {M : Int → Option Addr} {Z : List (V × Sn)} (g : GrpAt H H1 D M Z) (s : Same H1 H2) : GrpAt H H2 D M Z :=
  ⟨let ⟨kvs, h1, h2⟩ := g.dict; ⟨kvs, s _ _ h1, h2⟩, fun t a h => s _ _ (g.lists t a h), g.inj, g.new, g.newD, g.has, g.only⟩
theorem GrpAt.step {K : PySem.W.Frag} {H H1 : Hp} {D : Addr} {M : Int → Option Addr} {Z : List (V × Sn)} {x : V} {b : Sn} {nl : Addr} {Q : VK} (g : GrpAt H H1 D M Z) (s1 : Same H H1) (nn : H1 nl = none) (hz : Z.length ≤ 9000)
    (q : ∀ H2 M', Same H H2 → GrpAt H H2 D M' (Z ++ [(x, b)]) → Q .non H2) :
    rSetDef (.ref D) [.int (smS b), .ref nl] (upd H1 nl (.lst [])) (fun v H3 => tyV K "list" v H3 ∧ rAppend v [x] H3 Q) := by
  obtain ⟨kvs, hD, cell⟩ := g.dict
  have s2 : Same H1 (upd H1 nl (.lst [])) := same_new nn
  have nD : D ≠ nl := fun z => by rw [z, nn] at hD; cases hD
  have hval : valV kvs (Sum.inl (smS b)) = (M (smS b)).map V.ref := cell.val (smS b)
  have lsz : ∀ t, (grpZ Z t).length ≤ Z.length := fun t => List.length_filter_le _ _
  refine ⟨D, kvs, Sum.inl (smS b), .ref nl, rfl, rfl, s2 _ _ hD, szn cell.2.1 (by omega), fun v hv => ?_, fun hv => ?_⟩
  · rw [hval] at hv
    cases e : M (smS b) with
    | none => rw [e] at hv; cases hv
    | some a =>
      rw [e] at hv
      cases hv
      have ha := s2 _ _ (g.lists _ a e)
      have aD : a ≠ D := fun z => by rw [z, s2 _ _ hD] at ha; cases ha
      refine ⟨.inl ⟨rfl, _, sq ha⟩, a, _, x, rfl, rfl, ha, szn (m := Z.length) (by rw [List.length_map]; exact lsz _) (by omega), ?_⟩
      refine q _ M (Same.mut (s1.trans s2) (g.new _ a e)) ⟨⟨kvs, ?_, ?_⟩, fun t a' ht => ?_, g.inj, g.new, g.newD, fun z hz2 => ?_, fun t ht => ?_⟩
      · rw [upd_ne aD.symm]
        exact s2 _ _ hD
      · rw [List.length_append]
        exact cell.le (Nat.le_add_right _ _)
      · by_cases ea : a' = a
        · subst ea
          obtain rfl := g.inj _ _ _ ht e
          rw [upd_same, grp_snoc, if_pos rfl, List.map_append]
          rfl
        · rw [upd_ne ea, grp_snoc, if_neg fun z => ea (by rw [← z, e] at ht; cases ht; rfl), List.append_nil]
          exact s2 _ _ (g.lists t a' ht)
      · rcases List.mem_append.mp hz2 with h | h
        · exact g.has z h
        · rw [List.mem_singleton.mp h, e]
          exact fun z => (nomatch z)
      · obtain ⟨z, hz3, e3⟩ := g.only t ht
        exact ⟨z, List.mem_append_left _ hz3, e3⟩
  · rw [hval] at hv
    cases e : M (smS b) with
    | some a => rw [e] at hv; cases hv
    | none =>
      have e1 : (upd (upd H1 nl (.lst [])) D (.dK (kvs ++ [(Sum.inl (smS b), V.ref nl)]))) nl = some (.lst []) := by rw [upd_ne nD.symm]; exact upd_same
      have nlH : H nl = none := s1.free nn
      have notin : ∀ t, M t ≠ some nl := fun t z => by
        have := g.lists t nl z
        rw [nn] at this
        cases this
      have zero : grpZ Z (smS b) = [] := by
        refine List.filter_eq_nil_iff.mpr fun z hz2 z2 => ?_
        have := g.has z hz2
        rw [of_decide_eq_true z2] at this
        exact this e
      refine ⟨.inl ⟨rfl, _, sq e1⟩, nl, [], x, rfl, rfl, e1, szn (m := 0) (Nat.le_refl _) (by omega), ?_⟩
      refine q _ (fun t => if t = smS b then some nl else M t) (Same.mut (Same.mut (s1.trans s2) g.newD) nlH) ⟨⟨kvs ++ [(Sum.inl (smS b), V.ref nl)], ?_, ?_⟩, fun t a' ht => ?_, fun t t' a' h1 h2 => ?_, fun t a' ht => ?_, g.newD, fun z hz2 => ?_, fun t ht => ?_⟩
      · rw [upd_ne nD]
        exact upd_same
      · have pn : putK kvs (Sum.inl (smS b) : L2.Key) (V.ref nl) = kvs ++ [(Sum.inl (smS b), V.ref nl)] := putK_new _ (by rw [hval, e]; rfl)
        rw [← pn]
        refine .of (nd_put _ _ cell.1) (Nat.le_trans (length_putK _ _ _) ?_) (shape_put cell.shape) fun k => ?_
        · rw [List.length_append]
          exact Nat.succ_le_succ cell.2.1
        · rw [valV_put]
          show _ = Option.map V.ref (if k = smS b then some nl else M k)
          by_cases ek : k = smS b
          · rw [if_pos (by rw [ek]), if_pos ek]
            rfl
          · rw [if_neg fun z => ek (by cases z; rfl), if_neg ek]
            exact cell.val k
      · by_cases et : t = smS b
        · rw [if_pos et] at ht
          cases ht
          rw [upd_same, grp_snoc, et, zero, if_pos rfl]
          rfl
        · rw [if_neg et] at ht
          have an : a' ≠ nl := fun z => notin t (by rw [← z]; exact ht)
          have ha := g.lists t a' ht
          have aD : a' ≠ D := fun z => by rw [z, hD] at ha; cases ha
          rw [upd_ne an, upd_ne aD, grp_snoc, if_neg fun z => et z.symm, List.append_nil]
          exact s2 _ _ ha
      · by_cases et : t = smS b
        · rw [if_pos et] at h1
          cases h1
          by_cases et' : t' = smS b
          · rw [et, et']
          · rw [if_neg et'] at h2
            exact absurd h2 (notin t')
        · rw [if_neg et] at h1
          by_cases et' : t' = smS b
          · rw [if_pos et'] at h2
            cases h2
            exact absurd h1 (notin t)
          · rw [if_neg et'] at h2
            exact g.inj _ _ _ h1 h2
      · by_cases et : t = smS b
        · rw [if_pos et] at ht
          cases ht
          exact nlH
        · rw [if_neg et] at ht
          exact g.new _ _ ht
      · show (if smS z.2 = smS b then some nl else M (smS z.2)) ≠ none
        by_cases et : smS z.2 = smS b
        · rw [if_pos et]
          exact fun z => (nomatch z)
        · rw [if_neg et]
          rcases List.mem_append.mp hz2 with h | h
          · exact g.has z h
          · rw [List.mem_singleton.mp h] at et
            exact absurd rfl et
      · by_cases et : t = smS b
        · exact ⟨(x, b), List.mem_append_right _ (List.mem_singleton.mpr rfl), et.symm⟩
        · rw [if_neg et] at ht
          obtain ⟨z, hz3, e3⟩ := g.only t ht
          exact ⟨z, List.mem_append_left _ hz3, e3⟩
/-! ### what stands while the least ones are gathered -/
theorem nodup_len {α : Type} [DecidableEq α] : ∀ {L S : List α}, L.Nodup → (∀ x ∈ L, x ∈ S) → L.length ≤ S.length
  | [], _, _, _ => Nat.zero_le _
  | x :: L, S, hn, hs => by
    obtain ⟨h1, h2⟩ := List.nodup_cons.mp hn
    have hx := hs x List.mem_cons_self
    have ih := nodup_len (S := S.erase x) h2 fun y hy => (List.mem_erase_of_ne fun e => h1 (by rw [← e]; exact hy)).mpr (hs y (List.mem_cons_of_mem _ hy))
    rw [List.length_erase_of_mem hx] at ih
    have := List.length_pos_of_mem hx
    rw [List.length_cons]
    omega
theorem FreshL.quiet {o1 r : Addr} {Hb H H' : Hp} (s : SameQ H H') {vs : List V} {bs : List Sn} (h : FreshL (Gn o1 r Hb H) vs bs) : FreshL (Gn o1 r Hb H') vs bs := h.to fun _ t c h1 h2 => by
  obtain ⟨a1, a2, a3, a4⟩ := gn_iff.mp h1
  obtain ⟨b1, b2, b3, b4⟩ := gn_iff.mp h2
  exact ⟨gn_iff.mpr ⟨a1, a2, a3, s _ _ a4 (fun z => z)⟩, gn_iff.mpr ⟨b1, b2, b3, s _ _ b4 (fun z => z)⟩⟩
/-- no list, dict, object or tuple -/
def OthO : HO → Prop
  | .lst _ => False
  | .tup _ => False
  | .dK _ => False
  | .ins _ _ _ => False
  | _ => True
theorem FreshL.putX {o1 r c : Addr} {Hb H : Hp} {u o : HO} (e : H c = some u) (hu : OthO u) {vs : List V} {bs : List Sn} (h : FreshL (Gn o1 r Hb H) vs bs) : FreshL (Gn o1 r Hb (upd H c o)) vs bs := h.to fun _ t d h1 h2 => by
  obtain ⟨a1, a2, a3, a4⟩ := gn_iff.mp h1
  obtain ⟨b1, b2, b3, b4⟩ := gn_iff.mp h2
  refine ⟨gn_iff.mpr ⟨a1, a2, a3, ?_⟩, gn_iff.mpr ⟨b1, b2, b3, ?_⟩⟩
  · rw [upd_ne fun z => by rw [z, e] at a4; cases a4; exact hu]
    exact a4
  · rw [upd_ne fun z => by rw [z, e] at b4; cases b4; exact hu]
    exact b4
theorem ab_app {A B : List (Int × Prs)} {y : Int × Prs} : Ab (A ++ B) y ↔ Ab A y ∨ Ab B y := by
  constructor
  · rintro ⟨z, hz, h⟩
    rcases List.mem_append.mp hz with hz | hz
    · exact .inl ⟨z, hz, h⟩
    · exact .inr ⟨z, hz, h⟩
  · rintro (⟨z, hz, h⟩ | ⟨z, hz, h⟩)
    · exact ⟨z, List.mem_append_left _ hz, h⟩
    · exact ⟨z, List.mem_append_right _ hz, h⟩
structure SomeI (C : Addr) (H : Hp) (D kp fo lo : Addr) (M : Int → Option Addr) (Z : List (V × Sn)) (yi : List Int) (H' : Hp) (FF : Tri) (N : Nat) : Prop where
  same : Same H H'
  grp : GrpAt H H' D M Z
  keys : H' kp = some (.lst (yi.map V.int))
  fl : FloorAt C H' fo FF N
  ffn : ∀ q b, FF q = some b → H b = none ∧ b ≠ D
  nlo : H lo = none
  lo1 : ∀ t, M t ≠ some lo
  lo2 : lo ≠ kp
theorem keys_inl : ∀ {kvs : List (L2.Key × V)}, (∀ kv ∈ kvs, ∃ k b, kv = ((Sum.inl k : L2.Key), V.ref b)) → ∃ ks : List Int, kvs.map (·.1) = ks.map Sum.inl
  | [], _ => ⟨[], rfl⟩
  | kv :: r, h => by
    obtain ⟨k, b, rfl⟩ := h kv List.mem_cons_self
    obtain ⟨ks, e⟩ := keys_inl fun x hx => h x (List.mem_cons_of_mem _ hx)
    exact ⟨k :: ks, by rw [List.map_cons, List.map_cons, e]⟩
theorem keys_of {M : Int → Option Addr} {n : Nat} {kvs : List (L2.Key × V)} (c : CellF (oneM M) [] n kvs) : ∃ ks : List Int, kvs.map (·.1) = ks.map Sum.inl ∧ ks.Nodup ∧ ∀ t, t ∈ ks ↔ M t ≠ none := by
  obtain ⟨ks, e⟩ := keys_inl c.shape
  refine ⟨ks, e, ?_, fun t => ?_⟩
  · have := c.1
    rw [e] at this
    exact List.Pairwise.of_map Sum.inl (fun a b h z => h (by rw [z])) this
  · have hv : valV kvs (Sum.inl t) = (M t).map V.ref := c.val t
    constructor
    · intro ht z
      have hm : (Sum.inl t : L2.Key) ∈ kvs.map (·.1) := by rw [e]; exact List.mem_map.mpr ⟨t, ht, rfl⟩
      obtain ⟨kv, h1, h2⟩ := List.mem_map.mp hm
      have := mem_valV c.1 (show ((Sum.inl t : L2.Key), kv.2) ∈ kvs by rw [← h2]; exact h1)
      rw [hv, z] at this
      cases this
    · intro hm
      cases e2 : M t with
      | none => exact absurd e2 hm
      | some a =>
        rw [e2] at hv
        have h1 : (Sum.inl t : L2.Key) ∈ kvs.map (·.1) := List.mem_map.mpr ⟨_, valV_mem hv, rfl⟩
        rw [e] at h1
        obtain ⟨t', h2, h3⟩ := List.mem_map.mp h1
        cases h3
        exact h2
theorem strict_at {ys : List Int} {j : Nat} {t : Int} (p : ys.Pairwise (· ≤ ·)) (nd : ys.Nodup) (h : ys[j]? = some t) : ∀ t' ∈ ys.take j, t' < t := fun t' h' => by
  obtain ⟨lt, e⟩ := List.getElem?_eq_some_iff.mp h
  have e3 : ys = ys.take j ++ (t :: ys.drop (j + 1)) := by
    have : ys.drop j = t :: ys.drop (j + 1) := by rw [List.drop_eq_getElem_cons lt, e]
    rw [← this, List.take_append_drop]
  rw [e3] at p nd
  have h1 := (List.pairwise_append.mp p).2.2 t' h' t List.mem_cons_self
  have h2 := (List.nodup_append.mp nd).2.2 t' h' t List.mem_cons_self
  omega
section
variable {C : Addr} {H : Hp} {D kp fo lo : Addr} {M : Int → Option Addr} {Z : List (V × Sn)} {yi : List Int} {H' : Hp} {FF : Tri} {N : Nat}
theorem SomeI.mono {H2 : Hp} (I : SomeI C H D kp fo lo M Z yi H' FF N) (s : Same H' H2) : SomeI C H D kp fo lo M Z yi H2 FF N :=
  ⟨I.same.trans s, I.grp.mono s, s _ _ I.keys, I.fl.mono s, I.ffn, I.nlo, I.lo1, I.lo2⟩
theorem SomeI.put {c : Addr} {o : HO} (I : SomeI C H D kp fo lo M Z yi H' FF N) (hc : H c = none) (h1 : c ≠ D) (h2 : ∀ t, M t ≠ some c) (h3 : c ≠ kp) (h4 : c ≠ fo) (h5 : ∀ q, FF q ≠ some c) : SomeI C H D kp fo lo M Z yi (upd H' c o) FF N := by
  refine ⟨Same.mut I.same hc, ⟨?_, fun t a h => ?_, I.grp.inj, I.grp.new, I.grp.newD, I.grp.has, I.grp.only⟩, ?_, ⟨?_, I.fl.wf, fun q a hq e => ?_⟩, I.ffn, I.nlo, I.lo1, I.lo2⟩
  · obtain ⟨kvs, e1, e2⟩ := I.grp.dict
    exact ⟨kvs, by rw [upd_ne h1.symm]; exact e1, e2⟩
  · rw [upd_ne fun z => h2 t (by rw [← z]; exact h)]
    exact I.grp.lists t a h
  · rw [upd_ne h3.symm]
    exact I.keys
  · obtain ⟨dx, d, e1, e2⟩ := I.fl.ob
    exact ⟨dx, d, by rw [upd_ne h4.symm]; exact e1, e2⟩
  · obtain ⟨kvs, e1, e2⟩ := I.fl.tri q a hq e
    exact ⟨kvs, by rw [upd_ne fun z => h5 q (by rw [← z]; exact e)]; exact e1, e2⟩
theorem SomeI.lo3 {ls : List V} (I : SomeI C H D kp fo lo M Z yi H' FF N) (e : H' lo = some (.lst ls)) : lo ≠ D ∧ lo ≠ fo ∧ ∀ q, FF q ≠ some lo := by
  refine ⟨fun z => ?_, fun z => ?_, fun q z => ?_⟩
  · obtain ⟨kvs, e1, _⟩ := I.grp.dict
    rw [← z, e] at e1; cases e1
  · obtain ⟨dx, d, e1, _⟩ := I.fl.ob
    rw [← z, e] at e1; cases e1
  · obtain ⟨kvs, e1, _⟩ := I.fl.tri q lo List.nil_prefix z
    rw [e] at e1; cases e1
theorem SomeI.putLo {ls ls' : List V} (I : SomeI C H D kp fo lo M Z yi H' FF N) (e : H' lo = some (.lst ls)) : SomeI C H D kp fo lo M Z yi (upd H' lo (.lst ls')) FF N := by
  obtain ⟨h1, h2, h3⟩ := I.lo3 e
  exact I.put I.nlo h1 I.lo1 I.lo2 h2 h3
theorem SomeI.putX {c : Addr} {u o : HO} (I : SomeI C H D kp fo lo M Z yi H' FF N) (hc : H c = none) (e : H' c = some u) (hu : OthO u) : SomeI C H D kp fo lo M Z yi (upd H' c o) FF N := by
  refine I.put hc (fun z => ?_) (fun t z => ?_) (fun z => ?_) (fun z => ?_) fun q z => ?_
  · obtain ⟨kvs, e1, _⟩ := I.grp.dict
    rw [← z, e] at e1; cases e1; exact hu
  · have := I.grp.lists t c z
    rw [e] at this; cases this; exact hu
  · have := I.keys
    rw [← z, e] at this; cases this; exact hu
  · obtain ⟨dx, d, e1, _⟩ := I.fl.ob
    rw [← z, e] at e1; cases e1; exact hu
  · obtain ⟨kvs, e1, _⟩ := I.fl.tri q c List.nil_prefix z
    rw [e] at e1; cases e1; exact hu
theorem SomeI.kept {H2 : Hp} {F2 : Tri} {N2 : Nat} (I : SomeI C H D kp fo lo M Z yi H' FF N) (fl : FloorAt C H2 fo F2 N2) (fr : FrF FF H' H2) (nw : NewF FF F2 H') : SomeI C H D kp fo lo M Z yi H2 F2 N2 := by
  have sq := fr.quiet I.fl.tri
  have nl : ∀ xs : List V, ¬ MuO (.lst xs) := fun xs z => z
  refine ⟨fun b o e => fr b o (I.same b o e) fun q z => ?_, ⟨?_, fun t a h => sq _ _ (I.grp.lists t a h) (nl _), I.grp.inj, I.grp.new, I.grp.newD, I.grp.has, I.grp.only⟩, sq _ _ I.keys (nl _), fl, fun q b h => ?_, I.nlo, I.lo1, I.lo2⟩
  · rw [(I.ffn q b z).1] at e; cases e
  · obtain ⟨kvs, e1, e2⟩ := I.grp.dict
    exact ⟨kvs, fr _ _ e1 fun q z => (I.ffn q D z).2 rfl, e2⟩
  · rcases nw q b h with ⟨q', h'⟩ | h'
    · exact I.ffn q' b h'
    · refine ⟨I.same.free h', fun z => ?_⟩
      obtain ⟨kvs, e1, _⟩ := I.grp.dict
      rw [z, e1] at h'; cases h'
end
section
variable {P : Program} {w : World} {K : PySem.W.Frag} {mg : Str → Option Value} {base : Heap}
def PreL (lv n : Nat) (bs : List Sn) : Prop := NonN bs ∧ bs.length ≤ 1000 ∧ n < lv ∧ n ≤ 1000 ∧ bs.length * (2 * n + 1) ≤ 9000000 ∧ ∀ L : List Int, L.Nodup → (∀ t ∈ L, ∃ b ∈ bs, smS b = t) → L.length < 64
theorem PreL.small {lv n : Nat} {bs : List Sn} (h0 : NonN bs) (hl : bs.length < 64) (hn : n < lv) (h : n ≤ 500) : PreL lv n bs := by
  refine ⟨h0, by omega, hn, by omega, ?_, fun L nd hL => ?_⟩
  · exact Nat.le_trans (Nat.mul_le_mul (show bs.length ≤ 64 by omega) (show 2 * n + 1 ≤ 1001 by omega)) (by decide)
  · refine Nat.lt_of_le_of_lt (nodup_len (S := bs.map smS) nd fun t ht => ?_) (by rw [List.length_map]; exact hl)
    obtain ⟨b, hb, e⟩ := hL t ht
    exact List.mem_map.mpr ⟨b, hb, e⟩
abbrev s_some_least_ones : Stmt := topS 10
theorem sc_some_least_ones : FnScope ["situations", "most", "by_threads", "situation", "least", "floor", "threads", "fresh", "one"] ["situations", "most"] (defScope s_some_least_ones) := ⟨rfl, rfl, rfl, by decide +kernel, rfl, by decide +kernel, by decide +kernel⟩
-- some_least_ones slots: situations=0 most=1 by_threads=2 situation=3 least=4 floor=5 threads=6 fresh=7 one=8 globals: sum Floor sorted packed list len
def spSomeL (K : PySem.W.Frag) (lv : Nat) : Sp := fun vs H Q _ => ∃ (a : Addr) (mo : V) (n : Nat) (xs : List V) (bs : List Sn), vs = [.ref a, mo] ∧ SqL K H a xs ∧ DpAll K H xs (bs.map sD) ∧ Lens n bs ∧ PreL lv n bs ∧ (mo = .non ∨ ∃ m : Int, mo = .int m ∧ (bs.length : Int) ≤ m) ∧
  ∀ H' p ys L, Same H H' → H p = none → H' p = some (.lst ys) → FreshL (Gn p p H H') ys L → Mini bs L → L.Nodup → L.length ≤ bs.length → Q (.ref p) H'
theorem cell_none {n : Nat} : CellF (oneM fun _ => none) [] n [] := .of List.nodup_nil (Nat.zero_le _) (fun _ h => nomatch h) fun _ => rfl
theorem fd_some_least_ones {f C : Addr} {fd : FuncData} {lv : Nat} (F : Fun K "some_least_ones" "some_least_ones" s_some_least_ones f fd) (mm : mg "some_least_ones" = some (.ref f)) (B : Bt mg) (T : TxtF K mg C) (hlv : 1 ≤ lv) (D_packed : Fd P w K mg base "packed" ["situation"] 1 (spPacked K))
    (I_Floor : Mkr P w K mg base C ["self", "situations"] 2 (spFInit K C)) (M_keep : Md P w K mg base C "keep" ["self", "situation"] 1 (spKeep K C)) (M_is_under : Md P w K mg base C "is_under" ["self", "situation"] (lv + 2) (spUnder K C lv)) : Fd P w K mg base "some_least_ones" ["situations", "most"] (lv + 3) (spSomeL K lv) := by
  refine ⟨f, fd, F.ok sc_some_least_ones (fun vs H Q E h => ?_) (fun cdv A outer s H vs Q E hr h => ?_), mm, F.kp, F.binds (ps := ["situations", "most"]) fun _ _ _ _ _ _ us hl => match us, hl with | [_, _], _ => rfl⟩
  · obtain ⟨a, mo, n, xs, bs, rfl, _⟩ := h
    rfl
  obtain ⟨a, mo, n, xs, bs, rfl, ha, hd, hn, ⟨hp0, hz, hnl, hn1, hsz, h64⟩, hmo, q⟩ := h
  have xl := dpa_len hd
  rw [List.length_map] at xl
  have zl : (xs.zip bs).length = bs.length := by rw [List.length_zip]; omega
  have eb : (xs.zip bs).map (·.2) = bs := List.map_snd_zip (by omega)
  refine ⟨_, (pss_cons (ps_set (i := 2) sc_some_least_ones.nd rfl (Or.inl rfl) pe_dnewK)
 (pss_cons (ps_for PassesOwn.never rfl (piL K (pv 0)) (pg_name (i := 3) sc_some_least_ones.nd rfl (Or.inl rfl))
 (pss_one (ps_expr (peBm K PySem.F.plainAttrs_list PySem.F.slot_list_append PySem.F.type_list_append mt_append (peBm K PySem.F.plainAttrs_dict PySem.F.slot_dict_setdefault PySem.F.type_dict_setdefault mt_setdef (pv 2) (pa_cons (pe_callB (cSum K rfl) (by rfl) B.sum (by decide +kernel) (pa_cons (pe_ix (ixT K) (pv 3) pe_int (fun _ _ => rfl)) pa_nil)) (pa_cons (pe_lst pa_nil) pa_nil))) (pa_cons (pv 3) pa_nil)))))
 (pss_cons (ps_set (i := 4) sc_some_least_ones.nd rfl (Or.inl rfl) (pe_lst pa_nil))
 (pss_cons (ps_set (i := 5) sc_some_least_ones.nd rfl (Or.inl rfl) (pe_mkr I_Floor fun _ _ G mk b => pe_make mk G (hr.mono (by omega)) (by rfl) T.mgC b .nil pass0 (pa_cons (pe_lst pa_nil) pa_nil)))
 (pss_cons (ps_for PassesOwn.never rfl (piL K ((pe_callB (call_sortedDI rfl) (by rfl) B.sorted (by decide +kernel) (pa_cons (pv 2) pa_nil)))) (pg_name (i := 6) sc_some_least_ones.nd rfl (Or.inl rfl))
 (pss_cons (ps_set (i := 7) sc_some_least_ones.nd rfl (Or.inl rfl) pe_dnewN)
 (pss_cons (ps_for PassesOwn.never rfl (piL K (pe_dget (hu_of hr) (pv 2) (pv 6) (fun _ _ => rfl))) (pg_name (i := 3) sc_some_least_ones.nd rfl (Or.inl rfl))
 (pss_cons (ps_set (i := 8) sc_some_least_ones.nd rfl (Or.inl rfl) (pe_fn D_packed (hr.mono (by omega)) rfl (pa_cons (pv 3) pa_nil)))
 (pss_one (ps_if (PW.pt (pw_and (pt_cmpR (op_notInN K hr.units) (pv 8) (pv 7) (by rfl)) (pw_and1 (pt_not (pt_val (pe_md M_is_under fun _ _ G hm b => pe_meth (pv 5) T.cl hm G hr b .nil pass0 (pa_cons (pv 8) pa_nil)))))))
 (pss_cons (ps_asg pe_bl (pg_sub (pv 7) (pv 8) (set_nd K hr.units)))
 (pss_cons (ps_expr (peBm K PySem.F.plainAttrs_list PySem.F.slot_list_append PySem.F.type_list_append mt_append (pv 4) (pa_cons (pe_tup (pa_cons (pe_ix (ixT K) (pv 3) pe_int (fun _ _ => rfl)) (pa_cons (pe_callTy (cList K) (by rfl) B.list (by decide +kernel) (pa_cons (pe_ix (ixT K) (pv 3) pe_int (fun _ _ => rfl)) pa_nil)) pa_nil))) pa_nil)))
 (pss_one (ps_if (PW.pt (pw_and (pt_cmpR op_notN (pv 1) pe_non (nomark _)) (pw_and1 (pt_cmpR op_gt (pe_callB (cLen K) (by rfl) B.len PySem.boot_len (pa_cons (pv 4) pa_nil)) (pv 1) (nomark _)))))
 (pss_one (ps_ret (pv 4)))
 pss_nil))))
 pss_nil))))
 (pss_one (ps_lock (ps_for PassesOwn.never rfl (pi_keysN (pv 7)) (pg_name (i := 8) sc_some_least_ones.nd rfl (Or.inl rfl))
 (pss_one (ps_expr (pe_md M_keep fun _ _ G hm b => pe_meth (pv 5) T.cl hm G (hr.mono (by omega)) b .nil pass0 (pa_cons (pv 8) pa_nil))))))))))
 (pss_one (ps_ret (pv 4)))))))), ?_⟩
  refine fun D nD => ?_
  dsimp only [gName]
  refine ⟨_, rfl, a, rfl, ⟨_, (same_new nD).seq ha⟩, for_list (xs := xs) (fun i σ' H1 => ∃ (M : Int → Option Addr) (y3 : Option V), σ' = [some (.ref a), some mo, some (.ref D), y3, none, none, none, none, none] ∧ Same H H1 ∧ GrpAt H H1 D M ((xs.zip bs).take i)) ?_ ?_ ?_ ?_⟩
  · exact ⟨fun _ => none, none, rfl, same_new nD, ⟨[], upd_same, cell_none⟩, (fun _ _ h => nomatch h), (fun _ _ _ h => nomatch h), (fun _ _ h => nomatch h), nD, (fun _ h => nomatch h), (fun _ h => absurd rfl h)⟩
  · rintro i σ' H1 _ ⟨M, y3, rfl, s1, _⟩
    exact s1.seq ha
  · rintro i u σ' H1 hu ⟨M, y3, rfl, s1, g⟩
    have lt : i < bs.length := by rw [← xl]; exact (List.getElem?_eq_some_iff.mp hu).1
    have hb : bs[i]? = some bs[i] := List.getElem?_eq_getElem lt
    generalize bs[i] = b at hb
    have hzz : (xs.zip bs)[i]? = some (u, b) := List.getElem?_zip_eq_some.mpr ⟨hu, hb⟩
    obtain ⟨u', hu', du⟩ := dpa_at' hd (show (bs.map sD)[i]? = some (sD b) by rw [List.getElem?_map, hb]; rfl)
    obtain rfl : u = u' := Option.some.inj (hu.symm.trans hu')
    obtain ⟨ta, ca, rfl, h1, h2⟩ := dp_sit (dp_mono s1 du)
    dsimp only [gName]
    obtain ⟨kvs, hD, _⟩ := g.dict
    refine ⟨_, rfl, .inr (.inr (.inl ⟨rfl, .inl ⟨_, hD⟩⟩)), _, rfl, _, _, _, _, rfl, rfl, h1, atI_nat (j := 1) rfl, ca, b.2, rfl, h2, szc 0, fun nl nn => ?_⟩
    dsimp only [tNil]
    change rSetDef (V.ref D) [V.int b.2.sum, V.ref nl] (upd H1 nl (.lst [])) (fun x H1 => _)
    refine sdef_mono (g.step (K := K) (x := .ref ta) (b := b) (Q := fun v H2 => v = .non ∧ ∃ M', Same H H2 ∧ GrpAt H H2 D M' ((xs.zip bs).take (i + 1))) s1 nn (by rw [List.length_take]; omega) fun H2 M' s2 g2 => ⟨rfl, M', s2, by rw [take_snoc hzz]; exact g2⟩) fun v H3 h => ⟨h.1, _, rfl, ?_⟩
    obtain ⟨_, l, ys, y, rfl, e1, e2, e3, _, M', s2, g2⟩ := h
    cases e1
    exact ⟨l, ys, _, rfl, rfl, e2, e3, M', _, rfl, s2, g2⟩
  · rintro σ' H1 ⟨M, y3, rfl, s1, g⟩
    rw [List.take_of_length_le (by omega)] at g
    refine ⟨sz (by decide), fun lo nlo => ?_⟩
    dsimp only [gName]
    refine ⟨sz (by decide), fun e0 ne0 => fun fo fdx nfo nfdx hne => ?_⟩
    have sA : Same H1 (upd (upd (upd (upd H1 lo (.lst [])) e0 (.lst [])) fdx (.own fo)) fo (.ins C fdx [])) := fun c o h => by
      have c1 : (upd H1 lo (.lst [])) c = some o := (same_new nlo) _ _ h
      have c2 : (upd (upd H1 lo (.lst [])) e0 (.lst [])) c = some o := (same_new ne0) _ _ c1
      exact (upd_ne (ne_of_none c2 nfo)).trans ((upd_ne (ne_of_none c2 nfdx)).trans c2)
    have e0A : (upd (upd (upd (upd H1 lo (.lst [])) e0 (.lst [])) fdx (.own fo)) fo (.ins C fdx [])) e0 = some (.lst []) := (upd_ne fun z => by rw [← z, upd_same] at nfo; cases nfo).trans ((upd_ne fun z => by rw [← z, upd_same] at nfdx; cases nfdx).trans upd_same)
    have loA : (upd (upd (upd (upd H1 lo (.lst [])) e0 (.lst [])) fdx (.own fo)) fo (.ins C fdx [])) lo = some (.lst []) := by
      have l1 : (upd H1 lo (.lst [])) lo = some (.lst []) := upd_same
      have l2 : (upd (upd H1 lo (.lst [])) e0 (.lst [])) lo = some (.lst []) := (same_new ne0) _ _ l1
      exact (upd_ne (ne_of_none l2 nfo)).trans ((upd_ne (ne_of_none l2 nfdx)).trans l2)
    have foA : (upd (upd (upd (upd H1 lo (.lst [])) e0 (.lst [])) fdx (.own fo)) fo (.ins C fdx [])) fo = some (.ins C fdx []) := upd_same
    have fo1 : H1 fo = none := (same_new nlo).free ((same_new ne0).free nfo)
    generalize upd (upd (upd (upd H1 lo (.lst [])) e0 (.lst [])) fdx (.own fo)) fo (.ins C fdx []) = HA at sA e0A loA foA ⊢
    refine ⟨fo, e0, fdx, [], [], rfl, foA, sq e0A, .nil, Nat.zero_le _, fun i x h => (by simp at h), fun H2 FF fl fr nf un => ⟨rfl, ?_⟩⟩
    dsimp only [gName]
    have s12 : Same H1 H2 := fun c o h => fr c o (ne_of_none h fo1) (sA c o h)
    have lo2 : H2 lo = some (.lst []) := fr lo _ (fun z => by rw [z, foA] at loA; cases loA) loA
    have nfH : ∀ q b, FF q = some b → H b = none ∧ b ≠ D := fun q b h => by
      have := nf q b h
      refine ⟨s1.free (sA.free this), fun z => ?_⟩
      obtain ⟨kvs, e1, _⟩ := g.dict
      rw [z, sA _ _ e1] at this; cases this
    have loM : ∀ t, M t ≠ some lo := fun t z => by
      have := g.lists t lo z
      rw [nlo] at this; cases this
    have gA := g.mono s12
    obtain ⟨kvs, hD, cell⟩ := gA.dict
    obtain ⟨ks, hks, ndk, memk⟩ := keys_of cell
    refine ⟨_, rfl, D, kvs, ks, rfl, .inl hD, hks, h64 ks ndk fun t ht => ?_, fun ys kp pm pw nkp => ?_⟩
    · obtain ⟨z, hz1, hz2⟩ := g.only t ((memk t).mp ht)
      exact ⟨z.2, by rw [← eb]; exact List.mem_map.mpr ⟨z, hz1, rfl⟩, hz2⟩
    have s23 : Same H2 (upd H2 kp (.lst (ys.map V.int))) := same_new nkp
    have kpe : (upd H2 kp (.lst (ys.map V.int))) kp = some (.lst (ys.map V.int)) := upd_same
    have lok : lo ≠ kp := fun z => by rw [z, nkp] at lo2; cases lo2
    have lo3 := s23 _ _ lo2
    generalize upd H2 kp (.lst (ys.map V.int)) = H3 at s23 kpe lo3 ⊢
    have ndy : ys.Nodup := pm.nodup_iff.mpr ndk
    have memy : ∀ t, t ∈ ys ↔ M t ≠ none := fun t => pm.mem_iff.trans (memk t)
    have I0 : SomeI C H D kp fo lo M (xs.zip bs) ys H3 FF 0 := ⟨(s1.trans s12).trans s23, gA.mono s23, kpe, fl.mono s23, nfH, s1.free nlo, loM, lok⟩
    refine ⟨kp, rfl, ⟨_, sq kpe⟩, for_list (xs := ys.map V.int) (fun j σ' H' => ∃ (FF : Tri) (N : Nat) (ls : List V) (L P' : List Sn) (y3 y6 y7 y8 : Option V), σ' = [some (.ref a), some mo, some (.ref D), y3, some (.ref lo), some (.ref fo), y6, y7, y8] ∧ SomeI C H D kp fo lo M (xs.zip bs) ys H' FF N ∧
      H' lo = some (.lst ls) ∧ FreshL (Gn lo lo H H') ls L ∧ Fnd n bs P' L ∧ (∀ x ∈ bs, smS x ∈ ys.take j → x ∈ P') ∧ (∀ x ∈ P', smS x ∈ ys.take j) ∧ (∀ y, Und FF y ↔ Ab (L.map pk) y) ∧ N ≤ L.length * (2 * n + 1)) ?_ ?_ ?_ ?_⟩
    · exact ⟨FF, 0, [], [], [], y3, none, none, none, rfl, I0, lo3, FreshL.nil, ⟨Mini.nil, List.nodup_nil, fun _ h => nomatch h⟩, (fun x _ h => by simp at h), (fun _ h => nomatch h), un, Nat.zero_le _⟩
    · rintro j σ' H' _ ⟨FF, N, ls, L, P', y3, y6, y7, y8, rfl, I, _⟩
      exact sq I.keys
    · rintro j u σ' H' hu ⟨FF, N, ls, L, P', y3, y6, y7, y8, rfl, I, elo, fL, fnd, allP, inP, un, hN⟩
      obtain ⟨t, ht, rfl⟩ := get_map_inv hu
      have lowt := strict_at pw ndy ht
      have tM := (memy t).mp (List.mem_of_getElem? ht)
      obtain ⟨ga, hga⟩ : ∃ ga, M t = some ga := by
        cases e : M t with
        | none => exact absurd e tM
        | some ga => exact ⟨ga, rfl⟩
      dsimp only [gName]
      refine fun fd nfd => ?_
      dsimp only [gName]
      have sF : Same H' (upd H' fd (NDo P w fd [])) := same_new nfd
      have fdH : H fd = none := I.same.free nfd
      have I1 := I.mono sF
      have efd : (upd H' fd (NDo P w fd [])) fd = some (NDo P w fd []) := upd_same
      have elo1 := sF _ _ elo
      have fL1 := fL.mono (gn_same (o1 := lo) (r := lo) (Hb := H) sF)
      change tSeq _ _ _ _ (upd H' fd (NDo P w fd []))
      generalize upd H' fd (NDo P w fd []) = H4 at I1 efd elo1 fL1 ⊢
      obtain ⟨kvs4, hD4, cell4⟩ := I1.grp.dict
      have hget : DGet H4 D (.int t) (some (V.ref ga)) := by
        have := DGet.k (k := Sum.inl t) hD4
        rw [show valV kvs4 (Sum.inl t) = (M t).map V.ref from cell4.val t, hga] at this
        exact this
      refine ⟨_, rfl, _, rfl, D, V.ref ga, rfl, hget, ga, rfl, ⟨_, sq (I1.grp.lists t ga hga)⟩, for_list (xs := (grpZ (xs.zip bs) t).map (·.1)) (fun i σ2 H5 => ∃ (ls : List V) (Lg : List Sn) (ks : List (NestedKey × Addr)) (y3 y8 : Option V), σ2 = [some (.ref a), some mo, some (.ref D), y3, some (.ref lo), some (.ref fo), some (.int t), some (.ref fd), y8] ∧
        SomeI C H D kp fo lo M (xs.zip bs) ys H5 FF N ∧ H5 lo = some (.lst ls) ∧ FreshL (Gn lo lo H H5) ls (L ++ Lg) ∧ H5 fd = some (NDo P w fd ks) ∧ NKs K H5 ks ∧ ks.map (·.1) = Lg.map (fun x => nkP (pk x)) ∧ Fnd n bs (P' ++ ((grpZ (xs.zip bs) t).take i).map (·.2)) (L ++ Lg) ∧ (∀ x ∈ Lg, smS x = t)) ?_ ?_ ?_ ?_⟩
      · refine ⟨ls, [], [], y3, y8, rfl, I1, elo1, by rw [List.append_nil]; exact fL1, efd, (fun _ h => nomatch h), rfl, by rw [List.append_nil, List.take_zero, List.map_nil, List.append_nil]; exact fnd, fun _ h => nomatch h⟩
      · rintro i σ2 H5 _ ⟨ls, Lg, ks, y3, y8, rfl, I5, _⟩
        exact sq (I5.grp.lists t ga hga)
      · rintro i v σ2 H5 hv ⟨ls, Lg, ks, y3, y8, rfl, I5, elo5, fL5, efd5, nk5, ksL, fnd5, smg⟩
        obtain ⟨⟨v', b⟩, hz, rfl⟩ := get_map_inv hv
        have hzm := List.mem_of_getElem? hz
        obtain ⟨hz1, hz2⟩ := List.mem_filter.mp hzm
        have hsm : smS b = t := of_decide_eq_true hz2
        obtain ⟨i0, hi0⟩ := List.getElem?_of_mem hz1
        obtain ⟨hi1, hi2⟩ := List.getElem?_zip_eq_some.mp hi0
        have hbm : b ∈ bs := List.mem_of_getElem? hi2
        have lenb := hn b hbm
        have nnb := hp0 b hbm
        obtain ⟨v2, hv2, du⟩ := dpa_at' hd (show (bs.map sD)[i0]? = some (sD b) by rw [List.getElem?_map, hi2]; rfl)
        have ev : v2 = v := Option.some.inj (hv2.symm.trans hi1)
        rw [ev] at du
        have sit := dp_sit (dp_mono I5.same du)
        dsimp only [gName]
        refine ⟨_, rfl, v, b.1, b.2, rfl, sit, by omega, fun H6 p s6 dp6 => ?_⟩
        dsimp only [gName]
        have I6 := I5.mono s6
        have elo6 := s6 _ _ elo5
        have efd6 := s6 _ _ efd5
        have nk6 := nk5.mono s6
        have fL6 := fL5.mono (gn_same (o1 := lo) (r := lo) (Hb := H) s6)
        have dpk : Dp K H6 (.ref p) (nkP (pk b)).data := by rw [nk_data]; exact dp6
        have pkl : (pk b).2.length ≤ n := by have := pkL_len 0 b.2; rw [lenb] at this; exact this
        have tk : P' ++ ((grpZ (xs.zip bs) t).take (i + 1)).map (·.2) = (P' ++ ((grpZ (xs.zip bs) t).take i).map (·.2)) ++ [b] := by
          rw [take_snoc hz, List.map_append, List.append_assoc]
          rfl
        have lenL : Lens n (L ++ Lg) := fun y hy => hn y (fnd5.inS y (fnd5.sub y hy))
        have nnL : NonN (L ++ Lg) := fun y hy => hp0 y (fnd5.inS y (fnd5.sub y hy))
        refine ⟨_, rfl, _, rfl, p, fd, nkP (pk b), ks, rfl, rfl, efd6, nk6, dpk, nk_depth _, _, rfl, ?_⟩
        cases hin : (ks.map (·.1)).any (fun x => decide (x = nkP (pk b))) with
        | true =>
          refine iteFx rfl (iteFx rfl ?_)
          refine ⟨ls, Lg, ks, _, _, rfl, I6, elo6, fL6, efd6, nk6, ksL, ?_, smg⟩
          rw [tk]
          refine fnd5.yes hbm ⟨b, ?_, covS_refl b⟩
          obtain ⟨k, hk1, hk2⟩ := List.any_eq_true.mp hin
          rw [ksL] at hk1
          obtain ⟨y, hy1, hy2⟩ := List.mem_map.mp hk1
          have hy3 : y ∈ L ++ Lg := List.mem_append_right _ hy1
          have := pk_inj (lenL y hy3) lenb (nnL y hy3) nnb (nk_inj (hy2.trans (of_decide_eq_true hk2)))
          rw [← this]
          exact hy3
        | false =>
          have notin : nkP (pk b) ∉ ks.map (·.1) := fun hm => by
            have := (List.any_eq_true (p := fun x => decide (x = nkP (pk b)))).mpr ⟨_, hm, decide_eq_true rfl⟩
            rw [hin] at this
            cases this
          refine iteTx rfl ?_
          obtain ⟨dxf, df, hfo, _⟩ := I6.fl.ob
          refine ⟨_, rfl, fo, dxf, _, rfl, hfo, fT_no _ (by decide +kernel), _, rfl, fo, .ref p, FF, N, pk b, rfl, I6.fl, dp6, by omega, by omega, fun H7 b' s7 hb' => ?_⟩
          have I7 := I6.mono s7
          have elo7 := s7 _ _ elo6
          have efd7 := s7 _ _ efd6
          have nk7 := nk6.mono s7
          have fL7 := fL6.mono (gn_same (o1 := lo) (r := lo) (Hb := H) s7)
          have lenL0 : Lens n L := fun y hy => lenL y (List.mem_append_left _ hy)
          have nnL0 : NonN L := fun y hy => nnL y (List.mem_append_left _ hy)
          have hund : b' = true ↔ ∃ y ∈ L, covS b y = true := hb'.trans ((un _).trans (ab_cov lenL0 lenb nnL0 nnb))
          refine ⟨b', rfl, ?_⟩
          cases b' with
          | true =>
            refine iteFx rfl ?_
            refine ⟨ls, Lg, ks, _, _, rfl, I7, elo7, fL7, efd7, nk7, ksL, ?_, smg⟩
            rw [tk]
            obtain ⟨y, hy, c⟩ := hund.mp rfl
            exact fnd5.yes hbm ⟨y, List.mem_append_left _ hy, c⟩
          | false =>
            refine iteTx rfl ?_
            have lpos : ks.length ≤ 9000000 := by
              have h1 : ks.length = Lg.length := by have := congrArg List.length ksL; rw [List.length_map, List.length_map] at this; exact this
              have h2 := nodup_len fnd5.nd fun x hx => fnd5.inS x (fnd5.sub x hx)
              rw [List.length_append] at h2
              omega
            refine ⟨_, rfl, _, rfl, p, fd, nkP (pk b), ks, rfl, rfl, rfl, efd7, nk7, dp_mono s7 dpk, nk_depth _, notin, szn lpos (by omega), ?_⟩
            have I8 := I7.putX (o := NDo P w fd (ks ++ [(nkP (pk b), p)])) fdH efd7 trivial
            have q8 : SameQ H7 (upd H7 fd (NDo P w fd (ks ++ [(nkP (pk b), p)]))) := put_quiet efd7 trivial
            have efd8 : (upd H7 fd (NDo P w fd (ks ++ [(nkP (pk b), p)]))) fd = some (NDo P w fd (ks ++ [(nkP (pk b), p)])) := upd_same
            have elo8 := q8 _ _ elo7 (fun z => z)
            have fL8 := fL7.quiet q8
            have nk8 := nk7.monoQ q8
            have dp8 := dp_monoQ q8 (dp_mono s7 dpk)
            have lofd : lo ≠ fd := fun z => by rw [← z, elo7] at efd7; cases efd7
            have du8 := dp_mono I8.same du
            change tSeq _ _ _ _ (upd H7 fd (NDo P w fd (ks ++ [(nkP (pk b), p)])))
            generalize upd H7 fd (NDo P w fd (ks ++ [(nkP (pk b), p)])) = H8 at I8 efd8 elo8 fL8 nk8 dp8 du8 ⊢
            clear q8
            obtain ⟨ta, ca, rfl, h1, h2⟩ := dp_sit du8
            refine ⟨_, rfl, .inl ⟨rfl, _, sq elo8⟩, _, rfl, _, _, _, _, rfl, rfl, h1, atI_nat (j := 0) rfl, _, rfl, _, _, _, _, rfl, rfl, h1, atI_nat (j := 1) rfl, ca, _, rfl, .inl h2, fun l nl => ⟨szc 2, fun t2 nt => ?_⟩⟩
            have tl' : t2 ≠ l := fun e => by rw [e, upd_same] at nt; cases nt
            have nt8 : H8 t2 = none := (same_new nl).free nt
            have s9 := (same_new (o := HO.lst (b.2.map V.int)) nl).trans (same_new (o := HO.tup [V.int b.1, V.ref l]) nt)
            have ht9 : (upd (upd H8 l (.lst (b.2.map V.int))) t2 (.tup [.int b.1, .ref l])) t2 = some (.tup [.int b.1, .ref l]) := upd_same
            have hl9 : (upd (upd H8 l (.lst (b.2.map V.int))) t2 (.tup [.int b.1, .ref l])) l = some (.lst (b.2.map V.int)) := by rw [upd_ne (Ne.symm tl')]; exact upd_same
            generalize upd (upd H8 l (.lst (b.2.map V.int))) t2 (.tup [.int b.1, .ref l]) = H9 at s9 ht9 hl9 ⊢
            have I9 := I8.mono s9
            have elo9 := s9 _ _ elo8
            have efd9 := s9 _ _ efd8
            have nk9 := nk8.mono s9
            have dp9 := dp_mono s9 dp8
            have fL9 := fL8.mono (gn_same (o1 := lo) (r := lo) (Hb := H) s9)
            have nl8 : Gn lo lo H H8 l = none := by
              cases z : Gn lo lo H H8 l with
              | none => rfl
              | some o => have := (gn_iff.mp z).2.2.2; rw [nl] at this; cases this
            have sG9 := gn_same (o1 := lo) (r := lo) (Hb := H) s9
            have t2lo : t2 ≠ lo := fun e => by rw [e, elo8] at nt8; cases nt8
            have llo : l ≠ lo := fun e => by rw [e, elo8] at nl; cases nl
            have fr9 : FreshS (Gn lo lo H H9) (.ref t2) b := ⟨t2, l, rfl, gn_iff.mpr ⟨t2lo, t2lo, I8.same.free nt8, ht9⟩, gn_iff.mpr ⟨llo, llo, I8.same.free nl, hl9⟩⟩
            have lsl : ls.length = (L ++ Lg).length := fL9.len
            have lbs := nodup_len fnd5.nd fun x hx => fnd5.inS x (fnd5.sub x hx)
            have fnd6 := fnd5.no hn hbm (fun y hy => ?_) (fun y hy => ?_)
            · have lbs6 := nodup_len fnd6.nd fun x hx => fnd6.inS x (fnd6.sub x hx)
              rw [List.length_append, List.length_singleton] at lbs6
              refine ⟨lo, ls, .ref t2, rfl, rfl, elo9, szn (m := 1000) (by omega) (by omega), ?_⟩
              have I10 := I9.putLo (ls' := ls ++ [.ref t2]) elo9
              have elo10 : (upd H9 lo (.lst (ls ++ [.ref t2]))) lo = some (.lst (ls ++ [.ref t2])) := upd_same
              have efd10 : (upd H9 lo (.lst (ls ++ [.ref t2]))) fd = some (NDo P w fd (ks ++ [(nkP (pk b), p)])) := by rw [upd_ne lofd.symm]; exact efd9
              have gm : Same (Gn lo lo H H9) (Gn lo lo H (upd H9 lo (.lst (ls ++ [.ref t2])))) := gn_mut (.inl rfl)
              have fL10 : FreshL (Gn lo lo H (upd H9 lo (.lst (ls ++ [.ref t2])))) (ls ++ [.ref t2]) ((L ++ Lg) ++ [b]) := FreshL.snocN (sG9.trans gm) fL8 nl8 (gm _ _ (gn_iff.mpr ⟨t2lo, t2lo, I8.same.free nt8, ht9⟩)) (gm _ _ (gn_iff.mpr ⟨llo, llo, I8.same.free nl, hl9⟩))
              have nk10 : NKs K (upd H9 lo (.lst (ls ++ [.ref t2]))) (ks ++ [(nkP (pk b), p)]) := by
                refine NKs.putL (fun x hx => ?_) elo9
                rcases List.mem_append.mp hx with h | h
                · exact nk9 x h
                · rw [List.mem_singleton.mp h]
                  exact ⟨dp9, nk_depth _⟩
              generalize upd H9 lo (.lst (ls ++ [.ref t2])) = H10 at I10 elo10 efd10 fL10 nk10 ⊢
              have fin : ∃ (ls : List V) (Lg : List Sn) (ks : List (NestedKey × Addr)) (y3 y8 : Option V), [some (.ref a), some mo, some (.ref D), some (.ref ta), some (.ref lo), some (.ref fo), some (.int t), some (.ref fd), some (.ref p)] = [some (.ref a), some mo, some (.ref D), y3, some (.ref lo), some (.ref fo), some (.int t), some (.ref fd), y8] ∧
                SomeI C H D kp fo lo M (xs.zip bs) ys H10 FF N ∧ H10 lo = some (.lst ls) ∧ FreshL (Gn lo lo H H10) ls (L ++ Lg) ∧ H10 fd = some (NDo P w fd ks) ∧ NKs K H10 ks ∧ ks.map (·.1) = Lg.map (fun x => nkP (pk x)) ∧ Fnd n bs (P' ++ ((grpZ (xs.zip bs) t).take (i + 1)).map (·.2)) (L ++ Lg) ∧ (∀ x ∈ Lg, smS x = t) := by
                refine ⟨ls ++ [.ref t2], Lg ++ [b], ks ++ [(nkP (pk b), p)], _, _, rfl, I10, elo10, by rw [← List.append_assoc]; exact fL10, efd10, nk10, ?_, ?_, fun x hx => ?_⟩
                · rw [List.map_append, List.map_append, ksL]
                  rfl
                · rw [tk, ← List.append_assoc]
                  exact fnd6
                · rcases List.mem_append.mp hx with h | h
                  · exact smg x h
                  · rw [List.mem_singleton.mp h]; exact hsm
              refine ⟨_, rfl, rfl, _, rfl, ?_⟩
              rcases hmo with rfl | ⟨m, rfl, hm⟩
              · exact iteFx rfl (iteFx rfl fin)
              · refine iteTx rfl ⟨_, rfl, lo, _, rfl, .inl (sq elo10), _, rfl, _, _, rfl, rfl, _, rfl, ?_⟩
                refine iteFx (decide_eq_false ?_) fin
                have lsn : (ls ++ [V.ref t2]).length = ls.length + 1 := by rw [List.length_append]; rfl
                rw [lsn]
                omega
            · cases c : covS b y with
              | false => rfl
              | true =>
                exfalso
                rcases List.mem_append.mp hy with h | h
                · have := hund.mpr ⟨y, h, c⟩
                  cases this
                · have ly : y.2.length = n := lenL y hy
                  have := (cov_sum (lenb.trans ly.symm) c).2 (by rw [hsm, smg y h]; exact Int.le_refl _)
                  refine notin ?_
                  rw [ksL, this]
                  exact List.mem_map.mpr ⟨y, h, rfl⟩
            · rcases List.mem_append.mp hy with h | h
              · have := lowt _ (inP y (fnd.sub y h))
                omega
              · rw [hsm, smg y h]
                exact Int.le_refl _
      · rintro σ2 H5 ⟨ls, Lg, ks, y3, y8, rfl, I5, elo5, fL5, efd5, nk5, ksL, fnd5, smg⟩
        rw [List.length_map, List.take_length] at fnd5
        have lofd : lo ≠ fd := fun z => by rw [← z, elo5] at efd5; cases efd5
        have lbs := nodup_len fnd5.nd fun x hx => fnd5.inS x (fnd5.sub x hx)
        rw [List.length_append] at lbs
        have ksl : ks.length = Lg.length := by have := congrArg List.length ksL; rw [List.length_map, List.length_map] at this; exact this
        have lenL : Lens n (L ++ Lg) := fun y hy => hn y (fnd5.inS y (fnd5.sub y hy))
        have nnL : NonN (L ++ Lg) := fun y hy => hp0 y (fnd5.inS y (fnd5.sub y hy))
        refine ⟨fd, NDo P w fd ks, efd5, True.intro, fun od => ?_⟩
        have q6 : SameQ H5 (upd H5 fd (.frz od (NDo P w fd ks))) := put_quiet efd5 trivial
        refine ⟨_, rfl, fd, od, ks, rfl, upd_same, for_keysN (fun i σ3 H6 => i ≤ Lg.length ∧ ∃ (F6 : Tri) (N6 : Nat) (y8 : Option V), σ3 = [some (.ref a), some mo, some (.ref D), y3, some (.ref lo), some (.ref fo), some (.int t), some (.ref fd), y8] ∧ SomeI C H D kp fo lo M (xs.zip bs) ys H6 F6 N6 ∧ H6 lo = some (.lst ls) ∧
          FreshL (Gn lo lo H H6) ls (L ++ Lg) ∧ H6 fd = some (.frz od (NDo P w fd ks)) ∧ NKs K H6 ks ∧ (∀ y, Und F6 y ↔ Ab (L.map pk) y ∨ Ab ((Lg.take i).map pk) y) ∧ N6 ≤ (L.length + i) * (2 * n + 1)) ?_ ?_ ?_ ?_⟩
        · refine ⟨Nat.zero_le _, FF, N, y8, rfl, I5.putX fdH efd5 trivial, by rw [upd_ne lofd]; exact elo5, fL5.quiet q6, upd_same, nk5.monoQ q6, fun y => (un y).trans ⟨.inl, fun z => ?_⟩, hN⟩
          rcases z with z | ⟨_, z, _⟩
          · exact z
          · cases z
        · rintro i σ3 H6 _ ⟨_, F6, N6, y8, rfl, I6, elo6, fL6, efd6, _⟩
          exact efd6
        · rintro i k p σ3 H6 hk ⟨_, F6, N6, y8, rfl, I6, elo6, fL6, efd6, nk6, un6, hN6⟩
          have ilt : i < Lg.length := by rw [← ksl]; exact (List.getElem?_eq_some_iff.mp hk).1
          have hx : Lg[i]? = some Lg[i] := List.getElem?_eq_getElem ilt
          generalize Lg[i] = x at hx
          have hkx : k = nkP (pk x) := by
            have e1 : (ks.map (·.1))[i]? = some k := by rw [List.getElem?_map, hk]; rfl
            rw [ksL, List.getElem?_map, hx] at e1
            exact (Option.some.inj e1).symm
          have hxm : x ∈ L ++ Lg := List.mem_append_right _ (List.mem_of_getElem? hx)
          have lx := lenL x hxm
          have dpx : Dp K H6 (.ref p) (pkx (pk x)) := by rw [← nk_data, ← hkx]; exact (nk6 _ (List.mem_of_getElem? hk)).1
          have pkl : (pk x).2.length ≤ n := by have := pkL_len 0 x.2; rw [lx] at this; exact this
          have spl : Lg = Lg.take i ++ x :: Lg.drop (i + 1) := by rw [← drop_hd hx, List.take_append_drop]
          have ap : ∀ y, y ∈ L ∨ y ∈ Lg.take i → covS x y = false := by
            have f := fnd5
            rw [spl] at f
            exact f.apart
          have nund : ¬ Und F6 (pk x) := fun z => by
            rcases (un6 _).mp z with z | z
            · obtain ⟨y, hy, c⟩ := (ab_cov (fun y hy => lenL y (List.mem_append_left _ hy)) lx (fun y hy => nnL y (List.mem_append_left _ hy)) (nnL x hxm)).mp z
              rw [ap y (.inl hy)] at c
              cases c
            · obtain ⟨y, hy, c⟩ := (ab_cov (fun y hy => lenL y (List.mem_append_right _ (List.mem_of_mem_take hy))) lx (fun y hy => nnL y (List.mem_append_right _ (List.mem_of_mem_take hy))) (nnL x hxm)).mp z
              rw [ap y (.inr hy)] at c
              cases c
          have bnd : (L.length + i + 1) * (2 * n + 1) ≤ 9000000 := Nat.le_trans (Nat.mul_le_mul_right _ (by omega)) hsz
          rw [Nat.succ_mul] at bnd
          obtain ⟨dxf, df, hfo, _⟩ := I6.fl.ob
          dsimp only [gName]
          refine ⟨_, rfl, fo, dxf, _, rfl, hfo, fT_no _ (by decide +kernel), _, rfl, fo, .ref p, F6, N6, pk x, rfl, I6.fl, dpx, nund, by omega, fun H7 F7 fl7 fr7 nw7 un7 => ?_⟩
          have q7 := fr7.quiet I6.fl.tri
          refine ⟨ilt, F7, _, _, rfl, I6.kept fl7 fr7 nw7, q7 _ _ elo6 (fun z => z), fL6.quiet q7, fr7 _ _ efd6 (fun q z => ?_), nk6.monoQ q7, fun y => ?_, ?_⟩
          · obtain ⟨kvs, e1, _⟩ := I6.fl.tri q fd List.nil_prefix z
            rw [efd6] at e1
            cases e1
          · rw [un7, un6, take_snoc hx, List.map_append, ab_app, or_assoc]
            refine or_congr Iff.rfl (or_congr Iff.rfl ?_)
            exact ⟨fun z => ⟨_, List.mem_singleton.mpr rfl, z⟩, fun ⟨_, z1, z2⟩ => by rw [List.mem_singleton.mp z1] at z2; exact z2⟩
          · have e : (L.length + (i + 1)) * (2 * n + 1) = (L.length + i) * (2 * n + 1) + (2 * n + 1) := by rw [← Nat.add_assoc, Nat.succ_mul]
            omega
        · rintro σ3 H6 ⟨_, F6, N6, y8, rfl, I6, elo6, fL6, efd6, nk6, un6, hN6⟩
          rw [ksl, List.take_length] at un6
          rw [ksl] at hN6
          refine ⟨efd6, F6, N6, ls, L ++ Lg, _, y3, _, _, y8, rfl, I6.putX fdH efd6 trivial, by rw [upd_ne lofd]; exact elo6, fL6.putX efd6 trivial, fnd5, fun x hx hm => ?_, fun x hx => ?_, fun y => ?_, by rw [List.length_append]; exact hN6⟩
          · rw [take_snoc ht] at hm
            rcases List.mem_append.mp hm with h | h
            · exact List.mem_append_left _ (allP x hx h)
            · refine List.mem_append_right _ ?_
              rw [← eb] at hx
              obtain ⟨z, hz1, rfl⟩ := List.mem_map.mp hx
              exact List.mem_map.mpr ⟨z, List.mem_filter.mpr ⟨hz1, decide_eq_true (List.mem_singleton.mp h)⟩, rfl⟩
          · rw [take_snoc ht]
            rcases List.mem_append.mp hx with h | h
            · exact List.mem_append_left _ (inP x h)
            · obtain ⟨z, hz1, rfl⟩ := List.mem_map.mp h
              exact List.mem_append_right _ (List.mem_singleton.mpr (of_decide_eq_true (List.mem_filter.mp hz1).2))
          · rw [un6, List.map_append, ab_app]
    · rintro σ' H' ⟨FF, N, ls, L, P', y3, y6, y7, y8, rfl, I, elo, fL, fnd, allP, inP, un, hN⟩
      rw [List.length_map, List.take_length] at allP
      refine ⟨_, rfl, q H' lo ls L I.same I.nlo elo fL (fnd.end' fun x hx => allP x hx ?_) fnd.nd (nodup_len fnd.nd fun x hx => fnd.inS x (fnd.sub x hx))⟩
      rw [← eb] at hx
      obtain ⟨z, hz1, rfl⟩ := List.mem_map.mp hx
      exact (memy _).mpr (g.has z hz1)
end
theorem cMinL (K : PySem.W.Frag) {X : Cx} (hc : X.calm = true) (h : X.K = K := by rfl) : CallR X (.builtin "min") (rMin K) := h ▸ cr_min hc
section
variable {P : Program} {w : World} {K : PySem.W.Frag} {mg : Str → Option Value} {base : Heap}
/-- packed situations in a list -/
abbrev PkL (K : PySem.W.Frag) (H : Hp) : List V → List Sn → Prop := Paired fun v y => PkO K H v (pk y)
abbrev s_fresh_ones : Stmt := topS 22
theorem sc_fresh_ones : FnScope ["moves", "floor", "situations", "most", "gatherer", "tasks", "threads", "move", "situation"] ["moves", "floor", "situations", "most"] (defScope s_fresh_ones) := ⟨rfl, rfl, rfl, by decide +kernel, rfl, by decide +kernel, by decide +kernel⟩
-- fresh_ones slots: moves=0 floor=1 situations=2 most=3 gatherer=4 tasks=5 threads=6 move=7 situation=8 globals: Gatherer tasks_by_threads sorted
def spFresh (P : Program) (w : World) (K : PySem.W.Frag) (CF : Addr) (lv : Nat) : Sp := fun vs H Q _ => ∃ (md fo sl : Addr) (mo : Nat) (ms : List MvT) (ys : List Sn) (sxs : List V) (S N n : Nat) (F : Tri), vs = [.ref md, .ref fo, .ref sl, .int (mo : Int)] ∧ MbT P w K H md ms ∧ FloorAt CF H fo F n ∧ SqL K H sl sxs ∧ PkL K H sxs ys ∧ (∀ m ∈ ms, m.Fit S N ∧ m.sh.length ≤ 1000) ∧
  Lens N ys ∧ NonN ys ∧ (∀ y ∈ ys, ∀ c ∈ y.2, c ≤ 1000000000) ∧ N < lv ∧ N ≤ 1000 ∧ ys.length * ((N + 1) * ms.length) ≤ 8000000 ∧ mo ≤ 1000000 ∧ n + (mo + 1) * (2 * N + 1) ≤ 9000000 ∧ (∀ y ∈ ys, Und F (pk y)) ∧
  ∀ H' fl xs L F' n', FreR ms ys N (Und F) (fullB (some mo)) L → H fl = none → H' fl = some (.lst xs) → PkL K H' xs L → FloorAt CF H' fo F' n' → n' ≤ n + L.length * (2 * N + 1) → FrF F H H' → NewF F F' H → (∀ y, Und F' y ↔ Und F y ∨ Ab (L.map pk) y) → Q (.ref fl) H'
set_option maxHeartbeats 4000000 in
theorem fd_fresh_ones {f CG CF : Addr} {fd : FuncData} {lv : Nat} (F : Fun K "fresh_ones" "fresh_ones" s_fresh_ones f fd) (mm : mg "fresh_ones" = some (.ref f)) (B : Bt mg) (TG : TxtG K mg CG) (I_Gatherer : Mkr P w K mg base CG ["self", "floor", "most"] 1 (spGInit P w CG))
    (M_gather : Md P w K mg base CG "gather" ["self", "move", "situation"] (lv + lv + 4) (spGather P w K CG CF lv)) (M_settle : Md P w K mg base CG "settle" ["self"] 2 (spSettle P w K CG CF)) (D_tasks_by_threads : Fd P w K mg base "tasks_by_threads" ["moves", "situations"] 3 (spTasks P w K)) :
    Fd P w K mg base "fresh_ones" ["moves", "floor", "situations", "most"] (lv + lv + 5) (spFresh P w K CF lv) := by
  refine ⟨f, fd, F.ok sc_fresh_ones (fun vs H Q E h => ?_) (fun cdv A outer s H vs Q E hr h => ?_), mm, F.kp, F.binds (ps := ["moves", "floor", "situations", "most"]) fun _ _ _ _ _ _ us hl => match us, hl with | [_, _, _, _], _ => rfl⟩
  · obtain ⟨_, _, _, _, _, _, _, _, _, _, _, rfl, _⟩ := h
    rfl
  obtain ⟨md, fo, sl, mo, ms, ys, sxs, S, N, n, F0, rfl, hmb, hfl, hsl, hsx, fit, ly, ny, yb, hlv, hN, hsz, hmo, hn, u0, q⟩ := h
  refine ⟨_, (pss_cons (ps_set (i := 4) sc_fresh_ones.nd rfl (Or.inl rfl) (pe_mkr I_Gatherer fun _ _ G mk b => pe_make mk G (hr.mono (by omega)) (by rfl) TG.mgC b .nil pass0 (pa_cons (pv 1) (pa_cons (pv 3) pa_nil))))
 (pss_cons (ps_set (i := 5) sc_fresh_ones.nd rfl (Or.inl rfl) (pe_fn D_tasks_by_threads (hr.mono (by omega)) rfl (pa_cons (pv 0) (pa_cons (pv 2) pa_nil))))
 (pss_cons (ps_for PassesOwn.never rfl (piL K ((pe_callB (cr_sortedDK rfl hr.units) (by rfl) B.sorted (by decide +kernel) (pa_cons (pv 5) pa_nil)))) (pg_name (i := 6) sc_fresh_ones.nd rfl (Or.inl rfl))
 (pss_cons (ps_for PassesOwn.never rfl (piL K (pe_dget (hu_of hr) (pv 5) (pv 6) (fun _ _ => rfl))) (pg_tup rfl (pgs_cons (pg_name (i := 7) sc_fresh_ones.nd rfl (Or.inl rfl)) (pgs_cons (pg_name (i := 8) sc_fresh_ones.nd rfl (Or.inl rfl)) pgs_nil)))
 (pss_one (ps_expr (pe_md M_gather fun _ _ G hm b => pe_meth (pv 4) TG.cl hm G (hr.mono (by omega)) b .nil pass0 (pa_cons (pv 7) (pa_cons (pv 8) pa_nil))))))
 (pss_one (ps_expr (pe_md M_settle fun _ _ G hm b => pe_meth0 (pv 4) TG.cl hm G (hr.mono (by omega)) b .nil pass0)))))
 (pss_one (ps_ret (pe_fld (pv 4) rfl)))))), ?_⟩
  refine ⟨_, rfl, _, rfl, fun g gdx ng ngdx hne => ?_⟩
  have sB : Same H (upd (upd H gdx (.own g)) g (.ins CG gdx [])) := same_mk ng ngdx
  refine ⟨g, fo, gdx, .int (mo : Int), rfl, upd_same, fun H0 es flo ba0 f0 hg fld nfl nba efl eba => ⟨rfl, ?_⟩⟩
  dsimp only [gName]
  have s0 : Same H H0 := fun c o h => f0 c o (ne_of_none h ng) (sB c o h)
  have nflo : H flo = none := sB.free nfl
  have nba0 : H ba0 = none := sB.free nba
  have G0 : GatAt P w K CG CF H0 g fo flo ba0 (some mo) F0 n [] [] := ⟨⟨gdx, es, hg, fld⟩, hfl.mono s0, efl, eba, fun _ h => (by cases h), fun _ h => (by cases h), List.nodup_nil⟩
  refine ⟨_, rfl, _, rfl, md, sl, H, ms, ys, sxs, S, N, rfl, s0, hmb, s0.seq hsl, hsx, (fun m hm => (fit m hm).1), ly, ny, hN, hsz, fun H1 D s1 tk => ?_⟩
  dsimp only [gName]
  obtain ⟨kvs, ks, hD, hks, ndk, kl, memk, hget⟩ := tk.dict
  have s01 : Same H H1 := s0.trans s1
  have tl : (tskL ms ys).length ≤ 8000000 := Nat.le_trans (tskL_len ms ys ly) hsz
  refine ⟨_, rfl, D, kvs, ks, rfl, .inl hD, hks, by omega, fun kss kp pm pw nkp => ?_⟩
  have s2 : Same H1 (upd H1 kp (.lst (kss.map V.int))) := same_new nkp
  have ekp : (upd H1 kp (.lst (kss.map V.int))) kp = some (.lst (kss.map V.int)) := upd_same
  have tk2 := tk.to (H2 := upd H1 kp (.lst (kss.map V.int))) fun b o _ h => s2 _ _ h
  have G2 := (G0.mono s1).mono s2
  have s02 : Same H0 (upd H1 kp (.lst (kss.map V.int))) := s1.trans s2
  have kp0 : H0 kp = none := s1.free nkp
  generalize upd H1 kp (.lst (kss.map V.int)) = H2 at s2 ekp tk2 G2 s02 ⊢
  have sH2 := s0.trans s02
  have ndy : kss.Nodup := pm.nodup_iff.mpr ndk
  have memy : ∀ k, k ∈ kss ↔ ∃ t ∈ tskL ms ys, thrT t = k := fun k => pm.mem_iff.trans (memk k)
  have F0dk : ∀ {G : Hp} {a : Addr} {o : HO}, Same H G → H0 a = some o ∨ G a = some o → (∀ kvs, o ≠ .dK kvs) → ∀ q, F0 q ≠ some a := fun {G a o} s h no q z => by
    obtain ⟨kvs, e1, _⟩ := hfl.tri q a List.nil_prefix z
    rcases h with h | h
    · rw [s0 _ _ e1] at h
      cases h
      exact no _ rfl
    · rw [s _ _ e1] at h
      cases h
      exact no _ rfl
  refine ⟨kp, rfl, ⟨_, sq ekp⟩, for_list (xs := kss.map V.int) (fun j σ' Hi => ∃ (ba : Addr) (Fi : Tri) (ni : Nat) (fs : List Pkd) (L : List Sn) (y6 y7 y8 : Option V), σ' = [some (.ref md), some (.ref fo), some (.ref sl), some (.int (mo : Int)), some (.ref g), some (.ref D), y6, y7, y8] ∧ GatAt P w K CG CF Hi g fo flo ba (some mo) Fi ni fs [] ∧
    (∀ b o, H2 b = some o → b ≠ g → b ≠ flo → b ≠ ba0 → (∀ q, F0 q ≠ some b) → Hi b = some o) ∧ NewF F0 Fi H2 ∧ (ba = ba0 ∨ (∃ q, F0 q = some ba) ∨ H2 ba = none) ∧ (∃ ks, Hi ba0 = some (NDo P w ba0 ks)) ∧ fs.map (·.1) = L.map pk ∧ FI N (tskL ms ys) (Und F0) (Und Fi) (fullB (some mo)) (kss.take j) L ∧ ni ≤ n + L.length * (2 * N + 1)) ?_ ?_ ?_ ?_⟩
  · exact ⟨ba0, F0, n, [], [], none, none, none, rfl, G2, (fun b o h _ _ _ _ => h), (fun q b h => .inl ⟨q, h⟩), .inl rfl, ⟨_, (s02 _ _ eba)⟩, rfl, FI.start _ _ _ _, Nat.le_add_right _ _⟩
  · rintro j σ' Hi _ ⟨ba, Fi, ni, fs, L, y6, y7, y8, rfl, G, fr, _⟩
    refine sq (fr _ _ ekp (fun z => ?_) (fun z => ?_) (fun z => ?_) (F0dk sH2 (.inr ekp) fun _ z => by cases z))
    · rw [z, hg] at kp0; cases kp0
    · rw [z, efl] at kp0; cases kp0
    · rw [z, eba] at kp0; cases kp0
  · rintro j u σ' Hi hu ⟨ba, Fi, ni, fs, L, y6, y7, y8, rfl, G, fr, nw, bai, eb0, efs, fi, hni⟩
    obtain ⟨k, hk, rfl⟩ := get_map_inv hu
    have lowt := strict_at pw ndy hk
    have kold : ∀ {Hx : Hp}, (∀ b o, H2 b = some o → b ≠ g → b ≠ flo → b ≠ ba0 → (∀ q, F0 q ≠ some b) → Hx b = some o) → ∀ b o, H0 b = none → H2 b = some o → Hx b = some o := fun {Hx} fr b o hn h => by
      refine fr b o h (fun z => ?_) (fun z => ?_) (fun z => ?_) (fun q z => ?_)
      · rw [z, hg] at hn; cases hn
      · rw [z, efl] at hn; cases hn
      · rw [z, eba] at hn; cases hn
      · obtain ⟨kvs, e1, _⟩ := hfl.tri q b List.nil_prefix z
        rw [s0 _ _ e1] at hn; cases hn
    have kq : ∀ {Hx : Hp}, (∀ b o, H2 b = some o → b ≠ g → b ≠ flo → b ≠ ba0 → (∀ q, F0 q ≠ some b) → Hx b = some o) → SameQ H Hx := fun {Hx} fr b o h no => by
      refine fr b o (sH2 _ _ h) (ne_of_none h ng) (ne_of_none h nflo) (ne_of_none h nba0) (fun q z => ?_)
      obtain ⟨kvs, e1, _⟩ := hfl.tri q b List.nil_prefix z
      rw [h] at e1
      cases e1
      exact no trivial
    obtain ⟨kvs2, ks2, hD2, hks2, _, _, memk2, hget2⟩ := tk2.dict
    have kin : k ∈ ks2 := (memk2 k).mpr ((memy k).mp (List.mem_of_getElem? hk))
    obtain ⟨l, txs, hval, hl0, hl2, hpt⟩ := hget2 k kin
    have hDi := kold fr D _ tk2.newD hD2
    have hdg : DGet Hi D (.int k) (some (V.ref l)) := by
      have := DGet.k (k := Sum.inl k) hDi
      rw [hval] at this
      exact this
    have hli := kold fr l _ hl0 hl2
    have fsl : fs.length = L.length := by have := congrArg List.length efs; rw [List.length_map, List.length_map] at this; exact this
    have txl := Paired.length hpt
    dsimp only [gName]
    refine ⟨_, rfl, _, rfl, D, V.ref l, rfl, hdg, l, rfl, ⟨_, sq hli⟩, for_list (xs := txs) (fun i σ' H' => ∃ (bs : List Pkd) (B : List Sn) (y7 y8 : Option V), σ' = [some (.ref md), some (.ref fo), some (.ref sl), some (.int (mo : Int)), some (.ref g), some (.ref D), some (.int k), y7, y8] ∧ GatAt P w K CG CF H' g fo flo ba (some mo) Fi ni fs bs ∧
      (∀ b o, H2 b = some o → b ≠ g → b ≠ flo → b ≠ ba0 → (∀ q, F0 q ≠ some b) → H' b = some o) ∧ (∃ ks, H' ba0 = some (NDo P w ba0 ks)) ∧ bs.map (·.1) = B.map pk ∧ BI N (tskL ms ys) (((tskL ms ys).filter fun t => decide (thrT t = k)).take i) (Und Fi) (fullB (some mo)) k L.length B) ?_ ?_ ?_ ?_⟩
    · exact ⟨[], [], _, _, rfl, G, fr, eb0, rfl, by rw [List.take_zero]; exact BI.start _ _ _ _ _ _⟩
    · rintro i σ' H' _ ⟨bs, B, y7, y8, rfl, G', fr', _⟩
      exact sq (kold fr' l _ hl0 hl2)
    · rintro i u σ' H' hu2 ⟨bs, B, y7, y8, rfl, G', fr', eb', ebs, bi⟩
      obtain ⟨⟨m, y⟩, ht, tko⟩ := paired_get hpt hu2
      obtain ⟨a, mv, sv, rfl, ha0, ha2, dm, py⟩ := tko.ob
      have htm := List.mem_filter.mp (List.mem_of_getElem? ht)
      have thk : thrT (m, y) = k := of_decide_eq_true htm.2
      obtain ⟨hy, hm, _⟩ := tskL_mem.mp htm.1
      obtain ⟨dx, es', hg', fld'⟩ := G'.ob
      refine ⟨a, _, rfl, st (kold fr' a _ ha0 ha2), rfl, _, _, rfl, ?_⟩
      dsimp only [gName]
      refine ⟨_, _, rfl, ?_⟩
      dsimp only [gName]
      refine ⟨rfl, ?_⟩
      refine ⟨_, rfl, g, dx, es', rfl, hg', fld'.no _ (by decide +kernel) (by decide +kernel) (by decide +kernel) (by decide +kernel), ?_⟩
      have bsl : bs.length = B.length := by have := congrArg List.length ebs; rw [List.length_map, List.length_map] at this; exact this
      refine ⟨_, rfl, _, rfl, g, mv, sv, fo, flo, ba, some mo, Fi, ni, fs, bs, m, S, N, y, fun _ => True, rfl, G', dp_monoQ (kq fr') dm, py.monoQ (kq fr'), (fit m hm).1, ly y hy, ny y hy, yb y hy, hlv, hN, (fit m hm).2, .inl ⟨mo, rfl, hmo⟩, fun _ _ _ _ => trivial, fun H3 nb f3 G3 R3 _ => ?_⟩
      obtain ⟨ds, eds, pds⟩ := pick_ds (s := (m.st : Int)) (Pd := fun d => d.length = N ∧ (∀ c ∈ d, 0 ≤ c) ∧ d.sum = thrT (m, y) ∧ y.1 = (m.ns : Int) ∧ Bef m y.2 d ∧ ¬ Und Fi ((m.st : Int), pkL 0 d)) fun z hz => let ⟨d, e, a1, a2, a3, a4, a5, a6⟩ := R3.good z hz; ⟨d, e, a1, a2, a3, a4, a5, by rw [← e]; exact a6⟩
      have ebs3 : (bs ++ nb).map (·.1) = (B ++ ds.map fun d => (((m.st : Int), d) : Sn)).map pk := by rw [List.map_append, List.map_append, ebs, eds, List.map_map]; rfl
      have nbl : nb.length = ds.length := by have := congrArg List.length eds; rw [List.length_map, List.length_map] at this; exact this
      have nd3 : (B ++ ds.map fun d => (((m.st : Int), d) : Sn)).Nodup := nodup_map (f := pk) (by rw [← ebs3]; exact G3.nd)
      refine ⟨bs ++ nb, B ++ ds.map fun d => (((m.st : Int), d) : Sn), _, _, rfl, G3, fun b o h h1 h2 h3 h4 => f3 b o (fun z => ?_) (fr' b o h h1 h2 h3 h4), ?_, ebs3, ?_⟩
      · rcases bai with e | ⟨q', e⟩ | e
        · exact h3 (z.trans e)
        · exact h4 q' (by rw [z]; exact e)
        · rw [z, e] at h; cases h
      · by_cases c : ba0 = ba
        · subst c
          exact ⟨_, G3.batch⟩
        · obtain ⟨ks', e⟩ := eb'
          exact ⟨ks', f3 _ _ c e⟩
      · rw [take_snoc ht]
        refine bi.add htm.1 thk pds nd3 (fun nf hn x hx x0 hb => ?_) (fun ne => ?_) fun i j h1 h2 => full_mono h1 h2
        · rw [List.length_append, List.length_map, ← nbl, ← bsl, ← fsl, ← List.length_append] at nf
          obtain ⟨d, d1, d2, d3, d4⟩ := R3.all nf hn x hx x0 hb
          refine ⟨d, d1, d2, d3, ?_⟩
          rcases d4 with d4 | d4
          · exact .inl d4
          · refine .inr ?_
            rw [ebs3] at d4
            obtain ⟨z, hz, e⟩ := List.mem_map.mp d4
            have lz : z.2.length = N ∧ ∀ c ∈ z.2, 0 ≤ c := by
              rcases List.mem_append.mp hz with hz | hz
              · exact ⟨bi.lens z hz, bi.nn z hz⟩
              · obtain ⟨d', hd', rfl⟩ := List.mem_map.mp hz
                exact ⟨(pds d' hd').1, (pds d' hd').2.1⟩
            have e2 := pk_inj (x := z) (y := (((m.st : Int), d) : Sn)) lz.1 d1 lz.2 d2 e
            rw [← e2]
            exact hz
        · have := R3.lim fun z => ne (List.length_eq_zero_iff.mp (by rw [← nbl, z]; rfl))
          rw [nbl, bsl, fsl] at this
          exact this
    · rintro σ' H' ⟨bs, B, y7, y8, rfl, G', fr', eb', ebs, bi⟩
      rw [txl, List.take_length] at bi
      obtain ⟨dx, es', hg', fld'⟩ := G'.ob
      have bsl : bs.length = B.length := by have := congrArg List.length ebs; rw [List.length_map, List.length_map] at this; exact this
      have hfo' := G'.found
      have Fino : ∀ {a : Addr} {o : HO}, H' a = some o → (∀ kvs, o ≠ .dK kvs) → ∀ q, Fi q ≠ some a := fun {a o} h no q z => by
        obtain ⟨kvs, e1, _⟩ := G'.flo.tri q a List.nil_prefix z
        rw [h] at e1
        cases e1
        exact no _ rfl
      obtain ⟨kb0, eb0'⟩ := eb'
      have step : ∀ {U' : Int × Prs → Prop}, (∀ y, U' y ↔ Und Fi y ∨ Ab (B.map pk) y) → (∀ s c d, SubP d c → U' (s, c) → U' (s, d)) → FI N (tskL ms ys) (Und F0) U' (fullB (some mo)) (kss.take (j + 1)) (L ++ B) := fun {U'} h1 h2 => by
        rw [take_snoc hk]
        exact fi.step bi (fun i j h1 h2 => full_mono h1 h2) lowt (fun t ht h => sorted_before pw hk ((memy _).mpr ⟨t, ht, rfl⟩) h) h1 h2
      have hlen : L.length + B.length ≤ mo + 1 := by
        have st := step (U' := fun y => Und Fi y ∨ Ab (B.map pk) y) (fun y => Iff.rfl) (fun s c d h1 h2 => by
          rcases h2 with h2 | ⟨x, hx, e1, e2⟩
          · exact .inl (und_mono G'.flo.wf h1 h2)
          · exact .inr ⟨x, hx, e1, sub_trans h1 e2⟩)
        by_cases c : L ++ B = []
        · have := congrArg List.length c
          rw [List.length_append, List.length_nil] at this
          omega
        · have := full_len (st.lim c)
          rw [List.length_append] at this
          exact this
      have szb : szF (bs.map (·.1)) ≤ B.length * (2 * N + 1) := by
        rw [ebs]
        have := szF_le (n := N) (L := B.map pk) fun z hz => by
          obtain ⟨x, hx, rfl⟩ := List.mem_map.mp hz
          have := pkL_len 0 x.2
          rw [bi.lens x hx] at this
          exact this
        rw [List.length_map] at this
        exact this
      have szt : (L.length + B.length) * (2 * N + 1) ≤ (mo + 1) * (2 * N + 1) := Nat.mul_le_mul_right _ hlen
      rw [Nat.add_mul] at szt
      refine ⟨_, rfl, g, dx, es', rfl, hg', fld'.no _ (by decide +kernel) (by decide +kernel) (by decide +kernel) (by decide +kernel), ?_⟩
      refine ⟨g, fo, flo, ba, some mo, Fi, ni, fs, bs, rfl, G', by rw [ebs]; exact bi.fre, by omega, by omega, fun H7 F7 n7 ba7 G7 hn7 f7 nw7 un7 ba7i => ?_⟩
      have H'no : ∀ {b : Addr}, H' b = none → (∃ q, F0 q = some b) ∨ H2 b = none := fun {b} hb => by
        by_cases c : ∃ q, F0 q = some b
        · exact .inl c
        · refine .inr ?_
          cases e : H2 b with
          | none => rfl
          | some o =>
            have := fr' b o e (fun z => by rw [z, hg'] at hb; cases hb) (fun z => by rw [z, hfo'] at hb; cases hb) (fun z => by rw [z, eb0'] at hb; cases hb) fun q z => c ⟨q, z⟩
            rw [hb] at this; cases this
      rw [ebs] at un7
      refine ⟨ba7, F7, n7, fs ++ bs, L ++ B, _, _, _, rfl, G7, fun b o h h1 h2 h3 h4 => f7 b o (fr' b o h h1 h2 h3 h4) h1 h2 fun q z => ?_, fun q b h => ?_, ?_, ⟨kb0, f7 _ _ eb0' (fun z => ?_) (fun z => ?_) (Fino eb0' fun _ z => by cases z)⟩, by rw [List.map_append, List.map_append, efs, ebs], step un7 (fun s c d h1 h2 => und_mono G7.flo.wf h1 h2), ?_⟩
      · rcases nw q b z with ⟨q', e⟩ | e
        · exact h4 q' e
        · rw [h] at e; cases e
      · rcases nw7 q b h with ⟨q', e⟩ | e
        · exact nw q' b e
        · exact H'no e
      · rcases ba7i with ⟨q', e⟩ | e
        · exact .inr (nw q' ba7 e)
        · exact .inr (H'no e)
      · rw [z, hg'] at eb0'; cases eb0'
      · rw [z, hfo'] at eb0'; cases eb0'
      · rw [List.length_append, Nat.add_mul]
        omega
  · rintro σ' Hi ⟨ba, Fi, ni, fs, L, y6, y7, y8, rfl, G, fr, nw, bai, eb0, efs, fi, hni⟩
    rw [List.length_map, List.take_length] at fi
    obtain ⟨dx, es', hg', fld'⟩ := G.ob
    refine ⟨_, rfl, g, CG, dx, es', _, rfl, hg', TG.cl, TG.nO, fld'.found, ?_⟩
    refine q Hi flo _ L Fi ni (fi.fin (fun m hm => (fit m hm).1) ly ny (fun t ht => (memy _).mpr ⟨t, ht, rfl⟩) u0 fun s c d h1 h2 => und_mono hfl.wf h1 h2) nflo G.found (pk_listOf efs G.fk) G.flo hni (fun b o h h1 => fr b o (sH2 _ _ h) (ne_of_none h ng) (ne_of_none h nflo) (ne_of_none h nba0) h1) (fun q' b h => ?_) fi.und
    rcases nw q' b h with e | e
    · exact .inl e
    · exact .inr (sH2.free e)
end
def rDictTK (K : PySem.W.Frag) : List V → Hp → VK → Prop := fun xs H Q => ∃ (a : Addr) (ps : List Addr) (kvs : List (L2.Key × V)), xs = [.ref a] ∧ PlT H a (ps.map V.ref) ∧ Paired (fun p kv => SqT K H p [kV kv.1, kv.2]) ps kvs ∧ ∀ p : Addr, H p = none → Q (.ref p) (upd H p (.dK (mergeK [] kvs)))
theorem cDictT (K : PySem.W.Frag) {X : Cx} (hc : X.calm = true) (h : X.K = K := by rfl) : CallR X (.type "dict") (rDictTK K) := h ▸ call_dictT hc
section
variable {P : Program} {w : World} {K : PySem.W.Frag} {mg : Str → Option Value} {base : Heap}
theorem pk_pairs (cs : List Int) : ((pkL 0 cs).map nnE).map (·.2) = ((pkL 0 cs).map (·.2)).map V.int := by rw [List.map_map, List.map_map]; rfl
theorem pk_keys_nd (cs : List Int) : (((pkL 0 cs).map nnE).map (·.1)).Nodup := by
  rw [List.map_map, List.Nodup, List.pairwise_map]
  exact (pkL_asc 0 cs).imp fun h z => by
    have : (Sum.inl _ : L2.Key) = Sum.inl _ := z
    have := Sum.inl.inj this
    omega
theorem anti_fre {N : Nat} {Z : List Sn} (hl : Lens N Z) (hn : NonN Z) (anti : ∀ a ∈ Z, ∀ b ∈ Z, covS a b = true → a = b) (nd : Z.Nodup) : ∀ (i : Nat) (x : Int × Prs), (Z.map pk)[i]? = some x → ¬ Ab ((Z.map pk).take i) x := fun i x hx ab => by
  obtain ⟨z, hz, rfl⟩ := gmap_inv hx
  have hzm := List.mem_of_getElem? hz
  rw [← List.map_take] at ab
  have sub : ∀ w ∈ Z.take i, w ∈ Z := fun w hw => List.mem_of_mem_take hw
  obtain ⟨w, hw, c⟩ := (ab_cov (fun w hw => hl w (sub w hw)) (hl z hzm) (fun w hw => hn w (sub w hw)) (hn z hzm)).mp ab
  have e := anti z hzm w (sub w hw) c
  subst e
  obtain ⟨j, hj⟩ := List.mem_iff_getElem?.mp hw
  have ji : j < i := by
    have := (List.getElem?_eq_some_iff.mp hj).1
    rw [List.length_take] at this
    omega
  rw [List.getElem?_take_of_lt ji] at hj
  have := (List.getElem?_inj (List.getElem?_eq_some_iff.mp hz).1 nd).mp (hz.trans hj.symm)
  omega
theorem pks_dpa {K : PySem.W.Frag} {H : Hp} : ∀ {vs : List V} {Z : List Sn}, Paired (fun v y => PkO K H v (pk y)) vs Z → DpAll K H vs ((Z.map pk).map pkx)
  | _, _, .nil => .nil
  | _, _, .cons h t => .cons h.dp (pks_dpa t)
theorem szF_pk {N : Nat} {Z : List Sn} (hl : Lens N Z) : szF (Z.map pk) ≤ Z.length * (2 * N + 1) := by
  have := szF_le (n := N) (L := Z.map pk) fun z hz => by
    obtain ⟨x, hx, rfl⟩ := List.mem_map.mp hz
    have := pkL_len 0 x.2
    rw [hl x hx] at this
    exact this
  rw [List.length_map] at this
  exact this
abbrev s_not_above : Stmt := topS 21
theorem sc_not_above : FnScope ["situations", "fresh", "fewest", "floor", "situation", "_", "pairs"] ["situations", "fresh"] (defScope s_not_above) := ⟨rfl, rfl, rfl, by decide +kernel, rfl, by decide +kernel, by decide +kernel⟩
-- not_above slots: situations=0 fresh=1 fewest=2(cell) floor=3(cell) situation=4(None) _=5(None) pairs=6(None) globals: min Floor
def spNotAb (K : PySem.W.Frag) (lv : Nat) : Sp := fun vs H Q _ => ∃ (sl fl : Addr) (sxs fxs : List V) (L Z : List Sn) (N : Nat), vs = [.ref sl, .ref fl] ∧ SqL K H sl sxs ∧ DpAll K H sxs (L.map sD) ∧ SqL K H fl fxs ∧ Paired (fun v y => PkO K H v (pk y)) fxs Z ∧ Lens N L ∧ NonN L ∧ Lens N Z ∧ NonN Z ∧ Z ≠ [] ∧
  (∀ a ∈ Z, ∀ b ∈ Z, covS a b = true → a = b) ∧ Z.Nodup ∧ (∀ x ∈ L, x ∉ Z) ∧ N < lv ∧ N ≤ 1000 ∧ L.length ≤ 1000000 ∧ Z.length ≤ 1000000 ∧ Z.length * (2 * N + 1) ≤ 9000000 ∧
  ∀ H' p, Same H H' → H p = none → H' p = some (.lst (((sxs.zip L).filter fun q => !(Z.any fun z => covS q.2 z)).map (·.1))) → Q (.ref p) H'
theorem fd_not_above {f CF : Addr} {fd : FuncData} {lv : Nat} (F : Fun K "not_above" "not_above" s_not_above f fd) (mm : mg "not_above" = some (.ref f)) (B : Bt mg) (TF : TxtF K mg CF) (I_Floor : Mkr P w K mg base CF ["self", "situations"] 2 (spFInit K CF)) (M_is_under : Md P w K mg base CF "is_under" ["self", "situation"] (lv + 2) (spUnder K CF lv)) (D_packed : Fd P w K mg base "packed" ["situation"] 1 (spPackP K)) :
    Fd P w K mg base "not_above" ["situations", "fresh"] (lv + 3) (spNotAb K lv) := by
  refine ⟨f, fd, F.ok sc_not_above (fun vs H Q E h => ?_) (fun cdv A outer s H vs Q E hr h => ?_), mm, F.kp, F.binds (ps := ["situations", "fresh"]) fun _ _ _ _ _ _ us hl => match us, hl with | [_, _], _ => rfl⟩
  · obtain ⟨_, _, _, _, _, _, _, rfl, _⟩ := h
    rfl
  obtain ⟨sl, fl, sxs, fxs, L, Z, N, rfl, hsl, hsx, hfl, hfx, ll, ln, zl, zn, zne, anti, nd, dis, hlv, hN, hL, hZ, hsz, q⟩ := h
  have fxl := Paired.length hfx
  refine ⟨_, (pss_cons (ps_set (i := 2) sc_not_above.nd rfl (Or.inr rfl) (pe_callB (cMinL K rfl) (by rfl) B.min (by decide +kernel) (pa_cons (pe_lc (own := [("_", 5), ("pairs", 6)]) (g := gTup K 2 (gCons (gName 5) (gCons (gName 6) gNil))) (by rfl) sc_not_above.nd (piL K (pv 1)) (blkOk_by (own := [("_", 5), ("pairs", 6)]) (N := ["situations", "fresh", "fewest", "floor", "situation", "_", "pairs"]) (sc := (defScope s_not_above)) (by decide +kernel)) (fun _ _ _ _ _ => (pg_tup rfl (pgs_cons (pg_name (i := 5) sc_not_above.nd rfl (Or.inl rfl)) (pgs_cons (pg_name (i := 6) sc_not_above.nd rfl (Or.inl rfl)) pgs_nil)))) (fun _ _ _ _ _ => pts_nil) (fun _ _ _ _ _ => (pe_callB (cr_sumV rfl) (by rfl) B.sum (by decide +kernel) (pa_cons (peBm0 K PySem.F.plainAttrs_dict PySem.F.slot_dict_values PySem.F.type_dict_values mt_valsK ((pe_callTy (cDictT K rfl) (by rfl) B.dict (by decide +kernel) (pa_cons (pv 6) pa_nil)))) pa_nil)))) pa_nil)))
 (pss_cons (ps_set (i := 3) sc_not_above.nd rfl (Or.inr rfl) (pe_mkr I_Floor fun _ _ G mk b => pe_make mk G (hr.mono (by omega)) (by rfl) TF.mgC b .nil pass0 (pa_cons (pv 1) pa_nil)))
 (pss_one (ps_ret (pe_lc (own := [("situation", 4)]) (g := gName 4) (by rfl) sc_not_above.nd (piL K (pv 0)) (blkOk_by (own := [("situation", 4)]) (N := ["situations", "fresh", "fewest", "floor", "situation", "_", "pairs"]) (sc := (defScope s_not_above)) (by decide +kernel)) (fun _ _ _ _ _ => (pg_name (i := 4) sc_not_above.nd rfl (Or.inl rfl))) (fun _ _ _ _ _ => (pts_one (PW.pt (pw_or (pt_cmpR op_le (pe_callB (cSum K rfl) (by rfl) B.sum (by decide +kernel) (pa_cons (pe_ix (ixT K) (pv 4) pe_int (fun _ _ => rfl)) pa_nil)) (pv 2) (nomark _)) (pw_or1 (pt_not (pt_val (pe_md M_is_under fun _ _ G hm b => pe_meth (pv 3) TF.cl hm G (hr.mono (by omega)) b .nil pass0 (pa_cons (pe_fn D_packed (hr.mono (by omega)) rfl (pa_cons (pv 4) pa_nil)) pa_nil))))))))) (fun _ _ _ _ _ => (pv 4))))))), ?_⟩
  refine ⟨_, rfl, fl, rfl, ⟨_, hfl⟩, fun D nD => lc_list (xs := fxs) (fun i H' => Same H H' ∧ H' D = some (.lst (((Z.map smS).take i).map V.int))) ⟨same_new nD, upd_same⟩ (fun _ H' _ h => Same.seq h.1 hfl) ?_ ?_⟩
  · rintro i u H' hu ⟨sm, eD⟩
    obtain ⟨z, hz, pz⟩ := paired_get hfx hu
    obtain ⟨si, tu, prs, rfl, hsi, htu, hps⟩ := pz.mono sm
    refine ⟨si, _, rfl, hsi, rfl, _, _, rfl, ?_⟩
    dsimp only [gName]
    refine ⟨_, _, rfl, ?_⟩
    dsimp only [gName]
    refine ⟨rfl, rfl, yesT ?_⟩
    have zm := List.mem_of_getElem? hz
    have zlen := zl z zm
    refine ⟨_, rfl, tu, prs, _, rfl, htu, hps, fun dd ndd => ?_⟩
    rw [merge_nd _ _ (by rw [List.nil_append]; exact pk_keys_nd z.2), List.nil_append]
    refine ⟨.inr (.inr (.inl ⟨rfl, .inl ⟨_, upd_same⟩⟩)), dd, _, rfl, rfl, upd_same, fun vp nvp => ⟨vp, dd, pkL 0 z.2, rfl, upd_same, (same_new nvp) _ _ upd_same, ?_⟩⟩
    have s2 := (same_new (o := HO.dK ((pkL 0 z.2).map nnE)) ndd).trans (same_new (o := valsO vp dd) nvp)
    rw [pk_sum 0 (zn z zm)]
    refine ⟨_, s2 _ _ eD, ?_, Same.mut (sm.trans s2) nD, ?_⟩
    · rw [List.length_map, List.length_take, List.length_map]
      exact szn (m := 1000000) (by omega) (by omega)
    · rw [upd_same, take_snoc (show (Z.map smS)[i]? = some (smS z) by rw [List.getElem?_map, hz]; rfl), List.map_append]
      rfl
  · rintro H1 ⟨s1, eD⟩
    rw [fxl, ← List.length_map (f := smS), List.take_length] at eD
    refine ⟨D, Z.map smS, rfl, sq eD, by rw [List.length_map]; exact List.length_pos_iff.mpr zne, fun m hm hle => ?_⟩
    dsimp only [gName]
    refine ⟨_, rfl, fun fo fdx nfo nfdx hne => ?_⟩
    have sA : Same H1 (upd (upd H1 fdx (.own fo)) fo (.ins CF fdx [])) := same_mk nfo nfdx
    refine ⟨fo, fl, fdx, fxs, Z.map pk, rfl, upd_same, (s1.trans sA).seq hfl, pks_dpa (Paired.mapP hfx fun _ _ h => h.mono (s1.trans sA)), Nat.le_trans (szF_pk zl) hsz, anti_fre zl zn anti nd, fun H2 FF floor fr nf un => ⟨rfl, ?_⟩⟩
    dsimp only [gName]
    have s12 : Same H1 H2 := fun c o h => fr c o (ne_of_none h nfo) (sA c o h)
    have s02 := s1.trans s12
    have sxl := dpa_map_len hsx
    refine ⟨_, rfl, sl, rfl, ⟨_, Same.seq s02 hsl⟩, fun D2 nD2 => lc_list (xs := sxs) (fun i H' => Same H2 H' ∧ H' D2 = some (.lst ((((sxs.zip L).take i).filter fun q => !(Z.any fun z => covS q.2 z)).map (·.1)))) ⟨same_new nD2, upd_same⟩ (fun _ H' _ h => Same.seq (s02.trans h.1) hsl) ?_ ?_⟩
    · rintro i u H' hu ⟨sm, eD2⟩
      obtain ⟨x, hx, dx⟩ := dpa_map_at hsx hu
      have xm := List.mem_of_getElem? hx
      have hz : (sxs.zip L)[i]? = some (u, x) := List.getElem?_zip_eq_some.mpr ⟨hu, hx⟩
      obtain ⟨ta, ca, rfl, h1, h2⟩ := dp_sit (dp_mono (s02.trans sm) dx)
      have xlen := ll x xm
      have xnn := ln x xm
      have tk : (sxs.zip L).take (i + 1) = (sxs.zip L).take i ++ [(.ref ta, x)] := take_snoc hz
      have fl1 : ∀ (p : V × Sn → Bool), (((sxs.zip L).take i).filter p).length ≤ 1000000 := fun p => by
        refine Nat.le_trans (List.length_filter_le _ _) ?_
        rw [List.length_take, List.length_zip]
        omega
      dsimp only [gName]
      refine ⟨rfl, ?_⟩
      refine ⟨_, rfl, _, _, _, _, rfl, rfl, h1, atI_nat (j := 1) rfl, ca, x.2, rfl, h2, _, rfl, _, _, rfl, rfl, _, rfl, ?_⟩
      by_cases c : x.2.sum ≤ m
      · refine iteTx (decide_eq_true c) (iteTx rfl ?_)
        have kp : (Z.any fun z => covS x z) = false := by
          refine Bool.eq_false_iff.mpr fun h => ?_
          obtain ⟨z, hz2, e⟩ := List.any_eq_true.mp h
          have h3 := cov_sum (xlen.trans (zl z hz2).symm) e
          have h4 := hle (smS z) (List.mem_map.mpr ⟨z, hz2, rfl⟩)
          have h5 : smS x = x.2.sum := rfl
          have e2 := h3.2 (by omega)
          exact dis x xm (by rw [e2]; exact hz2)
        refine ⟨_, rfl, _, eD2, ?_, Same.mut sm nD2, ?_⟩
        · rw [List.length_map]
          exact szn (m := 1000000) (fl1 _) (by omega)
        · rw [upd_same, tk, List.filter_append, List.map_append, List.filter_cons, if_pos (by rw [kp]; rfl)]
          rfl
      · refine iteFx (decide_eq_false c) ?_
        obtain ⟨dxf, df, hfo, _⟩ := (floor.mono sm).ob
        refine ⟨_, rfl, fo, dxf, _, rfl, hfo, fT_no _ (by decide +kernel), ?_⟩
        refine ⟨_, rfl, .ref ta, x.1, x.2, rfl, ⟨ta, ca, rfl, h1, h2⟩, by rw [xlen]; exact hN, fun H4 p t ps s4 dp4 _ _ _ => ?_⟩
        have pl := pkL_len 0 x.2
        rw [xlen] at pl
        refine ⟨fo, .ref p, FF, szF (Z.map pk), pk x, rfl, (floor.mono sm).mono s4, dp4, Nat.lt_of_le_of_lt pl hlv, Nat.le_trans pl hN, fun H5 b s5 hb => ⟨_, rfl, ?_⟩⟩
        have s45 := s4.trans s5
        have eb : (Z.any fun z => covS x z) = b := by
          refine Bool.eq_iff_iff.mpr ?_
          rw [hb, un, ab_cov zl xlen zn xnn, List.any_eq_true]
        have eD5 := s45 _ _ eD2
        cases b with
        | true =>
          refine iteFx rfl ⟨sm.trans s45, ?_⟩
          rw [eD5, tk, List.filter_append, List.filter_cons, if_neg (by rw [eb]; exact Bool.false_ne_true), List.filter_nil, List.append_nil]
        | false =>
          refine iteTx rfl ⟨_, rfl, _, eD5, ?_, Same.mut (sm.trans s45) nD2, ?_⟩
          · rw [List.length_map]
            exact szn (m := 1000000) (fl1 _) (by omega)
          · rw [upd_same, tk, List.filter_append, List.map_append, List.filter_cons, if_pos (by rw [eb]; rfl)]
            rfl
    · rintro H3 ⟨s3, eD2⟩
      have e : (sxs.zip L).take sxs.length = sxs.zip L := List.take_of_length_le (by rw [List.length_zip]; omega)
      rw [e] at eD2
      exact q H3 D2 (s02.trans s3) (s02.free nD2) eD2
end
theorem bump_mono {ms ns : List Int} {k : Nat} {z : Int} (hl : ms.length = ns.length) (hk : k < ns.length) (h : ∀ i, ns.getD i 0 ≤ ms.getD i 0) : ∀ i, (bump ns k z).getD i 0 ≤ (bump ms k z).getD i 0 := fun i => by
  have := h i
  rw [gbump hk, gbump (by omega)]
  omega
theorem shift_mono : ∀ (sh : List (Nat × Nat)) {ms ns : List Int}, ms.length = ns.length → (∀ p ∈ sh, p.1 < ns.length ∧ p.2 < ns.length) → (∀ i, ns.getD i 0 ≤ ms.getD i 0) → ∀ i, (shiftAll sh ns).getD i 0 ≤ (shiftAll sh ms).getD i 0
  | [], _, _, _, _, h => h
  | p :: r, ms, ns, hl, hp, h => by
    obtain ⟨h1, h2⟩ := hp p List.mem_cons_self
    refine shift_mono r (by rw [List.length_set, List.length_set, List.length_set, List.length_set]; exact hl) (fun q hq => by rw [List.length_set, List.length_set]; exact hp q (List.mem_cons_of_mem _ hq)) fun i => ?_
    have a1 := h i
    have a2 := h p.1
    have a3 := h p.2
    show ((ns.set p.2 (ns.getD p.2 0 + ns.getD p.1 0)).set p.1 0).getD i 0 ≤ ((ms.set p.2 (ms.getD p.2 0 + ms.getD p.1 0)).set p.1 0).getD i 0
    rw [gset (cs := ns.set p.2 (ns.getD p.2 0 + ns.getD p.1 0)) (by rw [List.length_set]; exact h1), gset (cs := ms.set p.2 (ms.getD p.2 0 + ms.getD p.1 0)) (by rw [List.length_set]; omega), gset (cs := ns) h2, gset (cs := ms) (by omega)]
    split
    · exact Int.le_refl _
    · split <;> omega
theorem aft_mono {m : MvT} {S : Nat} {ms ns : List Int} (hf : m.Fit S ns.length) (hl : ms.length = ns.length) (h : ∀ i, ns.getD i 0 ≤ ms.getD i 0) : ∀ i, (m.aft ns).getD i 0 ≤ (m.aft ms).getD i 0 := by
  have h1 := bump_mono (z := -1) hl hf.pl h
  have h2 : ∀ i, (m.mid ns).getD i 0 ≤ (m.mid ms).getD i 0 := shift_mono m.sh (by rw [bump_len, bump_len]; exact hl) (fun p hp => by rw [bump_len]; exact ⟨hf.sh.fst p hp, hf.sh.snd p hp⟩) h1
  have h3 := bump_mono (z := 1) (k := m.np) (by rw [mid_len, mid_len]; exact hl) (by rw [mid_len]; exact hf.np) h2
  unfold MvT.aft
  cases hd : m.sd with
  | none => exact h3
  | some d => exact bump_mono (by rw [bump_len, bump_len, mid_len, mid_len]; exact hl) (by rw [bump_len, mid_len]; exact hf.sd d hd) h3
/-! ### layers of bad situations -/
abbrev aftS (m : MvT) (x : Sn) : Sn := ((m.ns : Int), m.aft x.2)
def Up (ms : List MvT) (bad : List Sn) : Nat → Sn → Prop
  | 0, x => ∃ b ∈ bad, covS x b = true
  | i + 1, x => Up ms bad i x ∨ ∃ m ∈ ms, x.1 = (m.st : Int) ∧ 0 < x.2.getD m.pl 0 ∧ Up ms bad i ((m.ns : Int), m.aft x.2)
abbrev Sok (N : Nat) (x : Sn) : Prop := x.2.length = N ∧ ∀ c ∈ x.2, 0 ≤ c
theorem aft_ok {m : MvT} {S n : Nat} {cs : List Int} (f : m.Fit S n) (hc : cs.length = n) (c0 : ∀ c ∈ cs, 0 ≤ c) (h : 0 < cs.getD m.pl 0) : (m.aft cs).length = n ∧ ∀ c ∈ m.aft cs, 0 ≤ c := by
  refine ⟨by rw [aft_len, hc], get_nn fun q => ?_⟩
  rw [aft_get f hc]
  have := (mid_nn f hc c0 h q).2
  split <;> split <;> omega
theorem up_mono {ms : List MvT} {bad : List Sn} {S N : Nat} (fit : ∀ m ∈ ms, m.Fit S N) (hb : Lens N bad) : ∀ (i : Nat) {x y : Sn}, Sok N x → Sok N y → covS x y = true → Up ms bad i y → Up ms bad i x
  | 0, x, y, hx, hy, c, h => by
    obtain ⟨b, hb1, hb2⟩ := h
    exact ⟨b, hb1, covS_tr (hx.1.trans hy.1.symm) (hy.1.trans (hb b hb1).symm) c hb2⟩
  | i + 1, x, y, hx, hy, c, h => by
    rcases h with h | ⟨m, hm, h1, h2, h3⟩
    · exact .inl (up_mono fit hb i hx hy c h)
    · obtain ⟨c1, c2⟩ := covS_get (hx.1.trans hy.1.symm) c
      have f := fit m hm
      have hp : 0 < x.2.getD m.pl 0 := Int.lt_of_lt_of_le h2 (c2 _)
      have ax := aft_ok f hx.1 hx.2 hp
      have ay := aft_ok f hy.1 hy.2 h2
      refine .inr ⟨m, hm, c1.trans h1, hp, up_mono fit hb i (x := ((m.ns : Int), m.aft x.2)) (y := ((m.ns : Int), m.aft y.2)) ax ay (covS_of (ax.1.trans ay.1.symm) rfl ?_) h3⟩
      exact aft_mono (S := S) (by rw [hy.1]; exact f) (hx.1.trans hy.1.symm) c2
theorem up_le {ms : List MvT} {bad : List Sn} {i j : Nat} (h : i ≤ j) {x : Sn} (u : Up ms bad i x) : Up ms bad j x := by
  induction h with
  | refl => exact u
  | step _ ih => exact .inl ih
structure LayR (N : Nat) (ms : List MvT) (bad : List Sn) (i : Nat) (L : List Sn) : Prop where
  asc : Asc L
  lens : Lens N L
  nn : NonN L
  up : ∀ z ∈ L, Up ms bad i z
  cov : ∀ x : Sn, Sok N x → Up ms bad i x → ∃ z ∈ L, covS x z = true
  anti : ∀ a ∈ L, ∀ b ∈ L, covS a b = true → a = b
theorem LayR.ok {N : Nat} {ms : List MvT} {bad : List Sn} {i : Nat} {L : List Sn} (h : LayR N ms bad i L) {z : Sn} (hz : z ∈ L) : Sok N z := ⟨h.lens z hz, h.nn z hz⟩
theorem LayR.in' {N : Nat} {ms : List MvT} {bad : List Sn} {i : Nat} {L M : List Sn} (h : LayR N ms bad i L) (g : LayR N ms bad i M) {z : Sn} (hz : z ∈ L) : z ∈ M := by
  obtain ⟨m, hm, c1⟩ := g.cov z (h.ok hz) (h.up z hz)
  obtain ⟨z2, hz2, c2⟩ := h.cov m (g.ok hm) (g.up m hm)
  have e := h.anti z hz z2 hz2 (covS_tr ((h.lens z hz).trans (g.lens m hm).symm) ((g.lens m hm).trans (h.lens z2 hz2).symm) c1 c2)
  subst e
  have l := (h.lens z hz).trans (g.lens m hm).symm
  have := (cov_sum l c1).2 (cov_sum l.symm c2).1
  rw [this]
  exact hm
theorem LayR.uniq {N : Nat} {ms : List MvT} {bad : List Sn} {i : Nat} {L M : List Sn} (h : LayR N ms bad i L) (g : LayR N ms bad i M) : L = M := asc_eq h.asc g.asc fun _ => ⟨h.in' g, g.in' h⟩
theorem LayR.iff {N : Nat} {ms : List MvT} {bad : List Sn} {i : Nat} {L : List Sn} {S : Nat} (fit : ∀ m ∈ ms, m.Fit S N) (hb : Lens N bad) (h : LayR N ms bad i L) {x : Sn} (hx : Sok N x) : Up ms bad i x ↔ ∃ z ∈ L, covS x z = true :=
  ⟨h.cov x hx, fun ⟨z, hz, c⟩ => up_mono fit hb i hx (h.ok hz) c (h.up z hz)⟩
theorem up_succ {N : Nat} {ms : List MvT} {bad : List Sn} {i : Nat} {L : List Sn} {S : Nat} (fit : ∀ m ∈ ms, m.Fit S N) (hb : Lens N bad) (h : LayR N ms bad i L) {x : Sn} (hx : Sok N x) : Up ms bad (i + 1) x ↔ Up ms bad i x ∨ PreS ms L x := by
  refine or_congr_right ⟨fun ⟨m, hm, h1, h2, h3⟩ => ?_, fun ⟨m, hm, y, hy, h1, h2, h3⟩ => ?_⟩
  · have a := aft_ok (fit m hm) hx.1 hx.2 h2
    obtain ⟨y, hy, c⟩ := h.cov _ a h3
    obtain ⟨c1, c2⟩ := covS_get (x := ((m.ns : Int), m.aft x.2)) (a.1.trans (h.lens y hy).symm) c
    exact ⟨m, hm, y, hy, h1, c1.symm, h2, c2⟩
  · have a := aft_ok (fit m hm) hx.1 hx.2 h3.1
    exact ⟨m, hm, h1, h3.1, up_mono fit hb i a (h.ok hy) (covS_of (x := ((m.ns : Int), m.aft x.2)) (a.1.trans (h.lens y hy).symm) h2.symm h3.2) (h.up y hy)⟩
/-- what a search knows at a layer -/
structure LayI (N : Nat) (ms : List MvT) (bad : List Sn) (i : Nat) (U : Int × Prs → Prop) (L Z : List Sn) : Prop where
  lay : LayR N ms bad i L
  sub : ∀ z ∈ Z, z ∈ L
  old : ∀ y ∈ L, y ∈ Z ∨ ∀ x : Sn, Sok N x → PreS ms [y] x → Up ms bad i x
  und : ∀ y, U y ↔ Ab (L.map pk) y
theorem LayI.u0 {N : Nat} {ms : List MvT} {bad : List Sn} {i : Nat} {U : Int × Prs → Prop} {L Z : List Sn} {S : Nat} (h : LayI N ms bad i U L Z) (fit : ∀ m ∈ ms, m.Fit S N) (hb : Lens N bad) {x : Sn} (hx : Sok N x) : U (pk x) ↔ Up ms bad i x := by
  rw [h.und, ab_cov h.lay.lens hx.1 h.lay.nn hx.2, h.lay.iff fit hb hx]
theorem LayI.pre {N : Nat} {ms : List MvT} {bad : List Sn} {i : Nat} {U : Int × Prs → Prop} {L Z : List Sn} (h : LayI N ms bad i U L Z) {x : Sn} (hx : Sok N x) (p : PreS ms L x) : Up ms bad i x ∨ PreS ms Z x := by
  obtain ⟨m, hm, y, hy, h1, h2, h3⟩ := p
  rcases h.old y hy with e | e
  · exact .inr ⟨m, hm, y, e, h1, h2, h3⟩
  · exact .inl (e x hx ⟨m, hm, y, List.mem_cons_self, h1, h2, h3⟩)
theorem LayI.stable {N : Nat} {ms : List MvT} {bad : List Sn} {i : Nat} {U : Int × Prs → Prop} {full : Nat → Bool} {L Z : List Sn} {S : Nat} (h : LayI N ms bad i U L Z) (fit : ∀ m ∈ ms, m.Fit S N) (hb : Lens N bad) (r : FreR ms Z N U full []) (f0 : full 0 = false) {x : Sn} (hx : Sok N x) (u : Up ms bad (i + 1) x) : Up ms bad i x := by
  rcases (up_succ fit hb h.lay hx).mp u with u | u
  · exact u
  · rcases h.pre hx u with u | u
    · exact u
    · rcases r.cpl f0 x hx.1 hx.2 u with u | ⟨_, hz, _⟩
      · exact (h.u0 fit hb hx).mp u
      · cases hz
theorem LayI.moved {N : Nat} {ms : List MvT} {bad : List Sn} {i : Nat} {U : Int × Prs → Prop} {full : Nat → Bool} {L Z Z' : List Sn} {S : Nat} (h : LayI N ms bad i U L Z) (fit : ∀ m ∈ ms, m.Fit S N) (hb : Lens N bad) (r : FreR ms Z N U full Z') {z : Sn} (hz : z ∈ Z') : Up ms bad (i + 1) z ∧ ¬ Up ms bad i z := by
  have hk : Sok N z := ⟨r.lens z hz, r.nn z hz⟩
  obtain ⟨m, hm, y, hy, h1⟩ := r.pre z hz
  exact ⟨(up_succ fit hb h.lay hk).mpr (.inr ⟨m, hm, y, h.sub y hy, h1⟩), fun u => r.new z hz ((h.u0 fit hb hk).mpr u)⟩
abbrev keptL (L Z' : List Sn) : List Sn := L.filter fun x => !(Z'.any fun z => covS x z)
theorem kept_mem {L Z' : List Sn} {x : Sn} : x ∈ keptL L Z' ↔ x ∈ L ∧ ∀ z ∈ Z', covS x z = false := by
  rw [List.mem_filter]
  refine and_congr_right fun _ => ?_
  rw [Bool.not_eq_true', Bool.eq_false_iff]
  constructor
  · intro h z hz
    exact Bool.eq_false_iff.mpr fun e => h (List.any_eq_true.mpr ⟨z, hz, e⟩)
  · intro h e
    obtain ⟨z, hz, e⟩ := List.any_eq_true.mp e
    rw [h z hz] at e
    cases e
theorem LayI.next {N : Nat} {ms : List MvT} {bad : List Sn} {i : Nat} {U U' : Int × Prs → Prop} {full : Nat → Bool} {L Z Z' M : List Sn} {S : Nat} (h : LayI N ms bad i U L Z) (fit : ∀ m ∈ ms, m.Fit S N) (hb : Lens N bad) (r : FreR ms Z N U full Z') (nf : full Z'.length = false)
    (asc : Asc M) (mem : ∀ x, x ∈ M ↔ x ∈ keptL L Z' ∨ x ∈ Z') (und : ∀ y, U' y ↔ Ab (M.map pk) y) : LayI N ms bad (i + 1) U' M Z' := by
  have lensM : Lens N M := fun x hx => by
    rcases (mem x).mp hx with e | e
    · exact h.lay.lens x (kept_mem.mp e).1
    · exact r.lens x e
  have nnM : NonN M := fun x hx => by
    rcases (mem x).mp hx with e | e
    · exact h.lay.nn x (kept_mem.mp e).1
    · exact r.nn x e
  refine ⟨⟨asc, lensM, nnM, fun z hz => ?_, fun x hx u => ?_, fun a ha b hb2 c => ?_⟩, fun z hz => (mem z).mpr (.inr hz), fun y hy => ?_, und⟩
  · rcases (mem z).mp hz with e | e
    · exact .inl (h.lay.up z (kept_mem.mp e).1)
    · exact (h.moved fit hb r e).1
  · have low : Up ms bad i x → ∃ z ∈ M, covS x z = true := fun u => by
      obtain ⟨z, hz, c⟩ := h.lay.cov x hx u
      by_cases k : z ∈ keptL L Z'
      · exact ⟨z, (mem z).mpr (.inl k), c⟩
      · have : ∃ w ∈ Z', covS z w = true := Classical.byContradiction fun no => k (kept_mem.mpr ⟨hz, fun w hw => Bool.eq_false_iff.mpr fun e => no ⟨w, hw, e⟩⟩)
        obtain ⟨w, hw, c2⟩ := this
        exact ⟨w, (mem w).mpr (.inr hw), covS_tr (hx.1.trans (h.lay.lens z hz).symm) ((h.lay.lens z hz).trans (r.lens w hw).symm) c c2⟩
    rcases (up_succ fit hb h.lay hx).mp u with u | u
    · exact low u
    · rcases h.pre hx u with u | u
      · exact low u
      · rcases r.cpl nf x hx.1 hx.2 u with u | ⟨z, hz, c⟩
        · exact low ((h.u0 fit hb hx).mp u)
        · exact ⟨z, (mem z).mpr (.inr hz), c⟩
  · rcases (mem a).mp ha with ea | ea
    · obtain ⟨a1, a2⟩ := kept_mem.mp ea
      rcases (mem b).mp hb2 with eb | eb
      · exact h.lay.anti a a1 b (kept_mem.mp eb).1 c
      · rw [a2 b eb] at c
        cases c
    · rcases (mem b).mp hb2 with eb | eb
      · refine absurd (up_mono fit hb i ⟨r.lens a ea, r.nn a ea⟩ (h.lay.ok (kept_mem.mp eb).1) c (h.lay.up b (kept_mem.mp eb).1)) (h.moved fit hb r ea).2
      · exact r.anti a ea b eb c
  · rcases (mem y).mp hy with e | e
    · refine .inr fun x hx p => (up_succ fit hb h.lay hx).mpr (.inr ?_)
      obtain ⟨m, hm, y', hy', h1⟩ := p
      rw [List.mem_singleton.mp hy'] at h1
      exact ⟨m, hm, y, (kept_mem.mp e).1, h1⟩
    · exact .inl e
theorem nodup_lenG {α : Type} [DecidableEq α] : ∀ {L S : List α}, L.Nodup → (∀ x ∈ L, x ∈ S) → L.length ≤ S.length
  | [], _, _, _ => Nat.zero_le _
  | x :: L, S, hn, hs => by
    obtain ⟨h1, h2⟩ := List.nodup_cons.mp hn
    have hx := hs x List.mem_cons_self
    have ih := nodup_lenG (S := S.erase x) h2 fun y hy => (List.mem_erase_of_ne fun e => h1 (by rw [← e]; exact hy)).mpr (hs y (List.mem_cons_of_mem _ hy))
    rw [List.length_erase_of_mem hx] at ih
    have := List.length_pos_of_mem hx
    rw [List.length_cons]
    omega
theorem LayI.big {N : Nat} {ms : List MvT} {bad : List Sn} {i : Nat} {U : Int × Prs → Prop} {full : Nat → Bool} {L Z Z' M : List Sn} {S : Nat} (h : LayI N ms bad i U L Z) (fit : ∀ m ∈ ms, m.Fit S N) (hb : Lens N bad) (r : FreR ms Z N U full Z') (g : LayR N ms bad (i + 1) M) : Z'.length ≤ M.length := by
  refine nodup_lenG r.nd fun z hz => ?_
  have hk : Sok N z := ⟨r.lens z hz, r.nn z hz⟩
  obtain ⟨u1, u2⟩ := h.moved fit hb r hz
  obtain ⟨m, hm, c⟩ := g.cov z hk u1
  have mk := g.ok hm
  have nu : ¬ Up ms bad i m := fun u => u2 (up_mono fit hb i hk mk c u)
  rcases (up_succ fit hb h.lay mk).mp (g.up m hm) with u | u
  · exact absurd u nu
  · rcases h.pre mk u with u | u
    · exact absurd u nu
    · have e := r.least z hz m mk.1 mk.2 u c fun u => nu ((h.u0 fit hb mk).mp u)
      rw [← e]
      exact hm
/-- a constant of the module -/
def Cst (mg : Str → Option Value) (x : Str) (v : V) : Prop := ∃ u, mg x = some u ∧ RelV v u
theorem pe_cst {X : Cx} {x : Str} {v : V} {pos : Pos} (h : Cst X.mg x v) (hg : Gl X x := by rfl) (hd : (x == ("__debug__" : Str)) = false := by decide) : PE X (.Name x pos) (tC v) := by
  obtain ⟨u, e, r⟩ := h
  exact pe_glob hg e r hd
/-- new since -/
def Nu (Hb H : Hp) : Hp := fun a => if (Hb a).isSome = true then none else H a
theorem nu_iff {Hb H : Hp} {a : Addr} {o : HO} : Nu Hb H a = some o ↔ Hb a = none ∧ H a = some o := by
  unfold Nu
  cases e : Hb a with
  | none => rw [if_neg (by simp)]; exact ⟨fun h => ⟨rfl, h⟩, fun h => h.2⟩
  | some u => rw [if_pos (by rfl)]; exact ⟨fun h => (nomatch h), fun h => (nomatch h.1)⟩
theorem nu_out {Hb H : Hp} : Same (Nu Hb H) H := fun _ _ h => (nu_iff.mp h).2
theorem nu_same {Hb H H' : Hp} (s : Same H H') : Same (Nu Hb H) (Nu Hb H') := fun a o h => nu_iff.mpr ⟨(nu_iff.mp h).1, s a o (nu_iff.mp h).2⟩
theorem gn_nu {p Hb H} : Same (Gn p p Hb H) (Nu Hb H) := fun a o h => nu_iff.mpr ⟨(gn_iff.mp h).2.2.1, (gn_iff.mp h).2.2.2⟩
theorem nu_base {Hb Hc H : Hp} (s : Same Hb Hc) : Same (Nu Hc H) (Nu Hb H) := fun a o h => nu_iff.mpr ⟨s.free (nu_iff.mp h).1, (nu_iff.mp h).2⟩
theorem FreshL.nuQ {Hb H H' : Hp} (s : SameQ H H') {vs : List V} {bs : List Sn} (h : FreshL (Nu Hb H) vs bs) : FreshL (Nu Hb H') vs bs := h.to fun _ t c h1 h2 =>
  ⟨nu_iff.mpr ⟨(nu_iff.mp h1).1, s _ _ (nu_iff.mp h1).2 (fun z => z)⟩, nu_iff.mpr ⟨(nu_iff.mp h2).1, s _ _ (nu_iff.mp h2).2 (fun z => z)⟩⟩
theorem ho_nu {D : Addr} {Hb H : Hp} {o : HO} : Same (Ho D (Nu Hb H)) (Ho D (Nu Hb (upd H D o))) := fun a u h => by
  unfold Ho at h ⊢
  by_cases e : a = D
  · rw [if_pos e] at h; cases h
  · rw [if_neg e] at h ⊢
    exact nu_iff.mpr ⟨(nu_iff.mp h).1, by rw [upd_ne e]; exact (nu_iff.mp h).2⟩
theorem MbT.mono {P : Program} {w : World} {K : PySem.W.Frag} {H H' : Hp} {d : Addr} {ms : List MvT} (s : Same H H') (h : MbT P w K H d ms) : MbT P w K H' d ms := by
  obtain ⟨ks, h1, h2, h3⟩ := h
  refine ⟨ks, s _ _ h1, h2.mono s, fun x t => ⟨fun l hl => ?_, (h3 x t).2⟩⟩
  obtain ⟨xs, e1, e2⟩ := (h3 x t).1 l hl
  exact ⟨xs, s _ _ e1, dpAll_mono s e2⟩
theorem MbT.q {P : Program} {w : World} {K : PySem.W.Frag} {H H' : Hp} {d : Addr} {ms : List MvT} (s : SameQ H H') (e : ∀ o, H d = some o → H' d = some o) (h : MbT P w K H d ms) : MbT P w K H' d ms := by
  obtain ⟨ks, h1, h2, h3⟩ := h
  refine ⟨ks, e _ h1, h2.monoQ s, fun x t => ⟨fun l hl => ?_, (h3 x t).2⟩⟩
  obtain ⟨xs, e1, e2⟩ := (h3 x t).1 l hl
  exact ⟨xs, s _ _ e1 (fun z => z), dpAll_monoQ s e2⟩
theorem MbT.putI {P : Program} {w : World} {K : PySem.W.Frag} {H : Hp} {d p C dx : Addr} {es : List (Str × V)} {o : HO} {ms : List MvT} (hp : H p = some (.ins C dx es)) (h : MbT P w K H d ms) : MbT P w K (upd H p o) d ms := by
  refine h.q (put_quiet hp trivial) fun u hu => ?_
  rw [upd_ne fun z => ?_]
  · exact hu
  · obtain ⟨ks, h1, _⟩ := h
    rw [z, hp] at h1
    cases h1
theorem FloorAt.putI {CF : Addr} {H : Hp} {fo : Addr} {F : Tri} {n : Nat} (h : FloorAt CF H fo F n) {p C dx : Addr} {es : List (Str × V)} {o : HO} (e : H p = some (.ins C dx es)) (ne : p ≠ fo) : FloorAt CF (upd H p o) fo F n := by
  refine ⟨?_, h.wf, fun q a hq e2 => ?_⟩
  · obtain ⟨dxf, d, e1, e2⟩ := h.ob
    exact ⟨dxf, d, by rw [upd_ne ne.symm]; exact e1, e2⟩
  · obtain ⟨kvs, e1, e3⟩ := h.tri q a hq e2
    exact ⟨kvs, by rw [upd_ne fun z => by rw [z, e] at e1; cases e1]; exact e1, e3⟩
theorem nu_dom {Hb Hc H : Hp} (s : ∀ a, Hc a = none → Hb a = none) : Same (Nu Hc H) (Nu Hb H) := fun a o h => nu_iff.mpr ⟨s a (nu_iff.mp h).1, (nu_iff.mp h).2⟩
theorem FrO.free {p : Addr} {H H' : Hp} (f : FrO p H H') (hp : ∃ o, H' p = some o) {a : Addr} (n : H' a = none) : H a = none := by
  cases e : H a with
  | none => rfl
  | some o =>
    by_cases c : a = p
    · obtain ⟨o', hp⟩ := hp
      rw [c, hp] at n
      cases n
    · rw [f a o c e] at n
      cases n
theorem pko_of {K : PySem.W.Frag} {H : Hp} {p t : Addr} {ps : List Addr} {y : Sn} (h1 : H p = some (.tup [.int y.1, .ref t])) (h2 : PlT H t (ps.map V.ref)) (h3 : Paired (fun p kv => SqT K H p [kV kv.1, kv.2]) ps ((pkL 0 y.2).map nnE)) : PkO K H (.ref p) (pk y) := ⟨p, t, ps, rfl, st h1, h2, h3⟩
theorem pk_put {K : PySem.W.Frag} {H : Hp} {D : Addr} {xs : List V} {o : HO} {vs : List V} {L : List Sn} (e : H D = some (.lst xs)) (h : Paired (fun v y => PkO K H v (pk y)) vs L) : Paired (fun v y => PkO K (upd H D o) v (pk y)) vs L := Paired.mapP h fun _ _ z => z.monoT (put_lst e)
theorem pe_fldK (K : PySem.W.Frag) {X : Cx} {e : Expr} {f : Str} {pos : Pos} {ta : TE} (he : PE X e ta) (hb : attributeBase e f X.env (eval e X.env) = eval e X.env) (h : X.K = K := by rfl) : PE X (e.Attribute f pos) (tFld K ta f) := h ▸ pe_fld he hb
/-! ### the search backwards as an object -/
theorem rsort_fresh {K : PySem.W.Frag} {G H : Hp} {D : Addr} {ys : List V} {L : List Sn} {Q : VK} {N : Nat} (hD : SqL K H D ys) (fL : FreshL G ys L) (sub : Same G H) (lenL : Lens N L) (ndL : L.Nodup)
    (q : ∀ r ys' L', H r = none → L'.Perm L → Asc L' → FreshL G ys' L' → Q (.ref r) (upd H r (.lst ys'))) : rSortS K [.ref D] H Q := by
  have yl := fL.len
  have ey : (ys.zip L).map (·.1) = ys := List.map_fst_zip (by omega)
  have eL : (ys.zip L).map (·.2) = L := List.map_snd_zip (by omega)
  have fz := fresh_zip fL
  have pm := List.mergeSort_perm (ys.zip L) leS
  have pmT : (((ys.zip L).mergeSort leS).map (·.2)).Perm L := by
    have := pm.map (·.2)
    rw [eL] at this
    exact this
  have srt := sorted_T (zs := ys.zip L) (n := N) fun z hz2 => lenL _ (by rw [← eL]; exact List.mem_map.mpr ⟨z, hz2, rfl⟩)
  refine ⟨D, ys.zip L, rfl, by rw [ey]; exact hD, fun z hz2 => ?_, fun r nr => ?_⟩
  · obtain ⟨t, c, e, h1, h2⟩ := fz z hz2
    exact ⟨t, c, e, st (sub _ _ h1), sq (sub _ _ h2)⟩
  · exact q r _ (((ys.zip L).mergeSort leS).map (·.2)) nr pmT (asc_of (fun y hy => lenL y (pmT.mem_iff.mp hy)) srt (pmT.nodup_iff.mpr ndL)) ⟨paired_of fun z hz2 => fz z (pm.mem_iff.mp hz2), by
      have pv : (((ys.zip L).mergeSort leS).map (·.1)).Perm ys := by
        have := pm.map (·.1)
        rw [ey] at this
        exact this
      exact (pv.pairwise_iff fun h => h.symm).mpr fL.dis⟩
structure SFld (es : List (Str × V)) (pl : V) (md la fa fo : Addr) : Prop where
  places : es.lookup ("places" : Str) = some pl
  moves : es.lookup ("moves" : Str) = some (.ref md)
  layer : es.lookup ("layer" : Str) = some (.ref la)
  fresh : es.lookup ("fresh" : Str) = some (.ref fa)
  floor : es.lookup ("floor" : Str) = some (.ref fo)
  len : es.length ≤ 5
  no : ∀ m : Str, m ≠ "places" → m ≠ "moves" → m ≠ "layer" → m ≠ "fresh" → m ≠ "floor" → es.lookup m = none
theorem putF_le (f : Str) (v : V) (fs : List (Str × V)) (n : Nat) (h : fs.length ≤ n) : (putF f v fs).length ≤ n + 1 := by
  rw [putF_len]
  split <;> omega
theorem SFld.start (pl : V) (md la fa fo : Addr) : SFld (putF "floor" (.ref fo) (putF "fresh" (.ref fa) (putF "layer" (.ref la) (putF "moves" (.ref md) (putF "places" pl []))))) pl md la fa fo := by
  refine ⟨?_, ?_, ?_, ?_, ?_, ?_, fun m h1 h2 h3 h4 h5 => ?_⟩
  · rw [lookup_putF, if_neg (by decide +kernel), lookup_putF, if_neg (by decide +kernel), lookup_putF, if_neg (by decide +kernel), lookup_putF, if_neg (by decide +kernel), lookup_putF, if_pos rfl]
  · rw [lookup_putF, if_neg (by decide +kernel), lookup_putF, if_neg (by decide +kernel), lookup_putF, if_neg (by decide +kernel), lookup_putF, if_pos rfl]
  · rw [lookup_putF, if_neg (by decide +kernel), lookup_putF, if_neg (by decide +kernel), lookup_putF, if_pos rfl]
  · rw [lookup_putF, if_neg (by decide +kernel), lookup_putF, if_pos rfl]
  · rw [lookup_putF, if_pos rfl]
  · exact putF_le _ _ _ _ (putF_le _ _ _ _ (putF_le _ _ _ _ (putF_le _ _ _ _ (putF_le _ _ _ _ (Nat.le_refl 0)))))
  · rw [lookup_putF, if_neg (by exact h5), lookup_putF, if_neg (by exact h4), lookup_putF, if_neg (by exact h3), lookup_putF, if_neg (by exact h2), lookup_putF, if_neg (by exact h1)]
    rfl
theorem SFld.pFloor {es : List (Str × V)} {pl : V} {md la fa fo : Addr} (h : SFld es pl md la fa fo) (x : Addr) : SFld (putF "floor" (.ref x) es) pl md la fa x := by
  refine ⟨?_, ?_, ?_, ?_, ?_, ?_, fun m h1 h2 h3 h4 h5 => ?_⟩
  · rw [lookup_putF, if_neg (by decide +kernel)]; exact h.places
  · rw [lookup_putF, if_neg (by decide +kernel)]; exact h.moves
  · rw [lookup_putF, if_neg (by decide +kernel)]; exact h.layer
  · rw [lookup_putF, if_neg (by decide +kernel)]; exact h.fresh
  · rw [lookup_putF, if_pos rfl]
  · rw [putF_len, h.floor]; exact h.len
  · rw [lookup_putF, if_neg (by exact h5)]; exact h.no m h1 h2 h3 h4 h5
theorem SFld.pLayer {es : List (Str × V)} {pl : V} {md la fa fo : Addr} (h : SFld es pl md la fa fo) (x : Addr) : SFld (putF "layer" (.ref x) es) pl md x fa fo := by
  refine ⟨?_, ?_, ?_, ?_, ?_, ?_, fun m h1 h2 h3 h4 h5 => ?_⟩
  · rw [lookup_putF, if_neg (by decide +kernel)]; exact h.places
  · rw [lookup_putF, if_neg (by decide +kernel)]; exact h.moves
  · rw [lookup_putF, if_pos rfl]
  · rw [lookup_putF, if_neg (by decide +kernel)]; exact h.fresh
  · rw [lookup_putF, if_neg (by decide +kernel)]; exact h.floor
  · rw [putF_len, h.layer]; exact h.len
  · rw [lookup_putF, if_neg (by exact h3)]; exact h.no m h1 h2 h3 h4 h5
theorem SFld.pFresh {es : List (Str × V)} {pl : V} {md la fa fo : Addr} (h : SFld es pl md la fa fo) (x : Addr) : SFld (putF "fresh" (.ref x) es) pl md la x fo := by
  refine ⟨?_, ?_, ?_, ?_, ?_, ?_, fun m h1 h2 h3 h4 h5 => ?_⟩
  · rw [lookup_putF, if_neg (by decide +kernel)]; exact h.places
  · rw [lookup_putF, if_neg (by decide +kernel)]; exact h.moves
  · rw [lookup_putF, if_neg (by decide +kernel)]; exact h.layer
  · rw [lookup_putF, if_pos rfl]
  · rw [lookup_putF, if_neg (by decide +kernel)]; exact h.floor
  · rw [putF_len, h.fresh]; exact h.len
  · rw [lookup_putF, if_neg (by exact h4)]; exact h.no m h1 h2 h3 h4 h5
structure TxtS (K : PySem.W.Frag) (mg : Str → Option Value) (C : Addr) : Prop where
  cl : Cls K C
  nP : NoAttr K C "places"
  nM : NoAttr K C "moves"
  nL : NoAttr K C "layer"
  nR : NoAttr K C "fresh"
  nF : NoAttr K C "floor"
  mgC : mg "Search" = some (.ref C)
structure SrchAt (P : Program) (w : World) (K : PySem.W.Frag) (CS CF : Addr) (Hb H : Hp) (g md la fa fo : Addr) (N n : Nat) (ms : List MvT) (F : Tri) (L Z : List Sn) : Prop where
  ob : ∃ dx es, H g = some (.ins CS dx es) ∧ SFld es (.int (N : Int)) md la fa fo
  mbt : MbT P w K H md ms
  lay : ∃ lxs, H la = some (.lst lxs) ∧ FreshL (Nu Hb H) lxs L
  fre : ∃ fxs, H fa = some (.lst fxs) ∧ Paired (fun v y => PkO K H v (pk y)) fxs Z
  flo : FloorAt CF H fo F n
section
variable {P : Program} {w : World} {K : PySem.W.Frag} {mg : Str → Option Value} {base : Heap}
abbrev s_Search_init : Stmt := inClass (topS 20) 0
theorem sc_Search_init : FnScope ["self", "machine", "bad", "situation"] ["self", "machine", "bad"] (defScope s_Search_init) := ⟨rfl, rfl, rfl, by decide +kernel, rfl, by decide +kernel, by decide +kernel⟩
-- Search.__init__ slots: self=0 machine=1 bad=2 situation=3(None) globals: moves_by_target sorted some_least_ones MOST_ELEMENTS Floor
def spSInit (P : Program) (w : World) (K : PySem.W.Frag) (CS CF : Addr) (lv : Nat) : Sp := fun vs H Q _ => ∃ (p dx bl : Addr) (v : V) (M : MT) (N : Nat) (bxs : List V) (bad : List Sn), vs = [.ref p, v, .ref bl] ∧ H p = some (.ins CS dx []) ∧ Dp K H v M.data ∧ M.places = N ∧ M.moves.length ≤ 100000 ∧ SqL K H bl bxs ∧ DpAll K H bxs (bad.map sD) ∧ Lens N bad ∧ PreL lv N bad ∧ bad.length ≤ 2000 ∧
  ∀ H' md la fa fo F L, SrchAt P w K CS CF H H' p md la fa fo N (szF (L.map pk)) M.moves F L L → Mini bad L → Asc L → FrO p H H' → (∀ q b, F q = some b → H b = none) → (∀ y, Und F y ↔ Ab (L.map pk) y) → H la = none → H fa = none → Q .non H'
theorem fd_Search_init {f CS CF : Addr} {fd : FuncData} {lv : Nat} (F : Fun K "__init__" "Search.__init__" s_Search_init f fd) (T : TxtS K mg CS) (TF : TxtF K mg CF) (cM : Cst mg "MOST_ELEMENTS" (.int 2000)) (B : Bt mg) (I_Floor : Mkr P w K mg base CF ["self", "situations"] 2 (spFInit K CF)) (D_packed : Fd P w K mg base "packed" ["situation"] 1 (spPackP K))
    (D_some_least_ones : Fd P w K mg base "some_least_ones" ["situations", "most"] (lv + 3) (spSomeL K lv)) (D_moves_by_target : Fd P w K mg base "moves_by_target" ["machine"] 1 (spMbt P w K)) : FnOk P w K mg base CX0 (lv + 4) f fd ["self", "machine", "bad"] (spSInit P w K CS CF lv) := by
  refine F.ok sc_Search_init (fun vs H Q E h => ?_) (fun cdv A outer s H vs Q E hr h => ?_)
  · obtain ⟨_, _, _, _, _, _, _, _, rfl, _⟩ := h
    rfl
  obtain ⟨p, dx, bl, v, M, N, bxs, bad, rfl, hp, hd, hP, hml, hbl, hbx, lb, pre, b2, q⟩ := h
  obtain ⟨am, sv, ma, mxs, rfl, ham, _⟩ := dp_mt hd
  refine ⟨_, (pss_cons (ps_fld (pv 0) (pe_ix (ixT K) (pv 1) pe_int (fun _ _ => rfl)) rfl)
 (pss_cons (ps_fld (pv 0) (pe_fn D_moves_by_target (hr.mono (by omega)) rfl (pa_cons (pv 1) pa_nil)) rfl)
 (pss_cons (ps_fld (pv 0) (pe_callB (cSortS K hr.units) (by rfl) B.sorted (by decide +kernel) (pa_cons (pe_fn D_some_least_ones (hr.mono (by omega)) rfl (pa_cons (pv 2) (pa_cons (pe_cst cM) pa_nil))) pa_nil)) rfl)
 (pss_cons (ps_fld (pv 0) (pe_lc (own := [("situation", 3)]) (g := gName 3) (by rfl) sc_Search_init.nd (piL K (pe_fld (pv 0) rfl)) (blkOk_by (own := [("situation", 3)]) (N := ["self", "machine", "bad", "situation"]) (sc := (defScope s_Search_init)) (by decide +kernel)) (fun _ _ _ _ _ => (pg_name (i := 3) sc_Search_init.nd rfl (Or.inl rfl))) (fun _ _ _ _ _ => pts_nil) (fun _ _ _ _ _ => (pe_fn D_packed (hr.mono (by omega)) rfl (pa_cons (pv 3) pa_nil)))) rfl)
 (pss_one (ps_fld (pv 0) (pe_mkr I_Floor fun _ _ G mk b => pe_make mk G (hr.mono (by omega)) (by rfl) TF.mgC b .nil pass0 (pa_cons (pe_fld (pv 0) rfl) pa_nil)) rfl)))))), ?_⟩
  refine ⟨_, rfl, _, _, _, _, rfl, rfl, ham, atI_nat (j := 1) rfl, ?_⟩
  refine ⟨_, rfl, p, CS, dx, _, rfl, hp, T.cl, T.nP, (by show (0 : Nat) < 1000; omega), ?_⟩
  rw [show M.places = N from hP]
  have e1 : (upd H p (.ins CS dx (putF "places" (nV N) []))) p = some (.ins CS dx (putF "places" (nV N) [])) := upd_same
  have f1 : FrO p H (upd H p (.ins CS dx (putF "places" (nV N) []))) := fun a o n h => by rw [upd_ne n]; exact h
  have q1 : SameQ H (upd H p (.ins CS dx (putF "places" (nV N) []))) := put_quiet hp trivial
  generalize upd H p (.ins CS dx (putF "places" (nV N) [])) = H1 at e1 f1 q1 ⊢
  refine ⟨_, rfl, .ref am, M, rfl, dp_monoQ q1 hd, hml, fun H2 md s2 nmd mbt => ?_⟩
  have f2 := f1.trans (FrO.of s2)
  have q2 := SameQ.trans q1 (Same.q s2)
  refine ⟨_, rfl, p, CS, dx, _, rfl, s2 _ _ e1, T.cl, T.nM, Nat.lt_of_le_of_lt (putF_le _ _ _ _ (Nat.le_refl 0)) (by decide), ?_⟩
  dsimp only [gName]
  have e3 : (upd H2 p (.ins CS dx (putF "moves" (.ref md) (putF "places" (nV N) [])))) p = some (.ins CS dx (putF "moves" (.ref md) (putF "places" (nV N) []))) := upd_same
  have f3 : FrO p H (upd H2 p (.ins CS dx (putF "moves" (.ref md) (putF "places" (nV N) [])))) := f2.trans fun a o n h => by rw [upd_ne n]; exact h
  have q3 := SameQ.trans q2 (put_quiet (o := .ins CS dx (putF "moves" (.ref md) (putF "places" (nV N) []))) (s2 _ _ e1) trivial)
  have mbt3 := mbt.putI (o := .ins CS dx (putF "moves" (.ref md) (putF "places" (nV N) []))) (s2 _ _ e1)
  generalize upd H2 p (.ins CS dx (putF "moves" (.ref md) (putF "places" (nV N) []))) = H3 at e3 f3 q3 mbt3 ⊢
  refine ⟨_, rfl, bl, .int 2000, N, bxs, bad, rfl, q3.sqL hbl, dpAll_monoQ q3 hbx, lb, pre, .inr ⟨2000, rfl, by omega⟩, fun H4 sp ys L s4 nsp esp fL mini ndL _ => ?_⟩
  have lenL : Lens N L := fun z hz => lb z (mini.sub z hz)
  have f4 := f3.trans (FrO.of s4)
  have fr4 : FreshL (Nu H H4) ys L := (fL.mono gn_nu).mono (nu_dom fun a n => f3.free ⟨_, e3⟩ n)
  dsimp only [tNil]
  refine rsort_fresh (sq esp) fr4 nu_out lenL ndL fun la lxs L' nla pmL ascL frL => ?_
  have lenL' : Lens N L' := fun z hz => lenL z (pmL.mem_iff.mp hz)
  have nnL' : NonN L' := fun z hz => pre.1 z (mini.sub z (pmL.mem_iff.mp hz))
  have mini' : Mini bad L' := mini.perm pmL
  have ndL' : L'.Nodup := pmL.nodup_iff.mpr ndL
  have blen : L'.length ≤ 2000 := by
    have h1 := nodup_len (S := bad) ndL' fun x hx => mini'.sub x hx
    omega
  have s5 : Same H4 (upd H4 la (.lst lxs)) := same_new nla
  have e5 := s5 _ _ (s4 _ _ e3)
  refine ⟨_, rfl, p, CS, dx, _, rfl, e5, T.cl, T.nL, Nat.lt_of_le_of_lt (putF_le _ _ _ _ (putF_le _ _ _ _ (Nat.le_refl 0))) (by decide), ?_⟩
  have lay5 : (upd H4 la (.lst lxs)) la = some (.lst lxs) := upd_same
  have mbt5 := (mbt3.mono s4).mono s5
  have f5 := f4.trans (FrO.of s5)
  have frL5 := frL.mono (nu_same (Hb := H) s5)
  generalize upd H4 la (.lst lxs) = H5 at e5 lay5 mbt5 f5 frL5 ⊢
  have e6 : (upd H5 p (.ins CS dx (putF "layer" (.ref la) (putF "moves" (.ref md) (putF "places" (nV N) []))))) p = some (.ins CS dx (putF "layer" (.ref la) (putF "moves" (.ref md) (putF "places" (nV N) [])))) := upd_same
  have f6 : FrO p H (upd H5 p (.ins CS dx (putF "layer" (.ref la) (putF "moves" (.ref md) (putF "places" (nV N) []))))) := f5.trans fun a o n h => by rw [upd_ne n]; exact h
  have q6 : SameQ H5 (upd H5 p (.ins CS dx (putF "layer" (.ref la) (putF "moves" (.ref md) (putF "places" (nV N) []))))) := put_quiet e5 trivial
  have mbt6 := mbt5.putI (o := .ins CS dx (putF "layer" (.ref la) (putF "moves" (.ref md) (putF "places" (nV N) [])))) e5
  have lay6 := q6 _ _ lay5 (fun z => z)
  have frL6 := frL5.nuQ q6
  generalize upd H5 p (.ins CS dx (putF "layer" (.ref la) (putF "moves" (.ref md) (putF "places" (nV N) [])))) = H6 at e6 f6 mbt6 lay6 frL6 ⊢
  have ll := frL6.len
  have dL6 : DpAll K H6 lxs (L'.map sD) := dpAll_mono nu_out frL6.dpa
  refine ⟨_, rfl, p, CS, dx, _, _, rfl, e6, T.cl, T.nL, (by rw [lookup_putF, if_pos rfl]), la, rfl, ⟨_, sq lay6⟩, fun D nD => lc_list (xs := lxs) (fun i H' => Same H6 H' ∧ ∃ xs, H' D = some (.lst xs) ∧ Paired (fun v y => PkO K H' v (pk y)) xs (L'.take i)) ⟨same_new nD, [], upd_same, .nil⟩ (fun _ H' _ h => sq (h.1 _ _ lay6)) ?_ ?_⟩
  · rintro i u H' hu ⟨sm, xs, eD, pL⟩
    obtain ⟨y, hy, dy⟩ := dpa_map_at dL6 hu
    dsimp only [gName]
    refine ⟨rfl, yesT ?_⟩
    refine ⟨_, rfl, u, y.1, y.2, rfl, dp_sit (dp_mono sm dy), by rw [lenL' y (List.mem_of_getElem? hy)]; exact pre.2.2.2.1, fun H7 q7 t ps s7 _ eq7 plt prs => ?_⟩
    have pL7 := Paired.mapP pL fun _ _ z => z.mono s7
    have xl := Paired.length pL
    refine ⟨_, s7 _ _ eD, ?_, Same.mut (sm.trans s7) nD, xs ++ [.ref q7], upd_same, ?_⟩
    · rw [List.length_take] at xl
      exact szn (m := 2000) (by omega) (by omega)
    · rw [take_snoc hy]
      exact pk_put (s7 _ _ eD) (paired_snoc (R := fun v y => PkO K H7 v (pk y)) (pko_of (y := y) eq7 plt prs) pL7)
  · rintro H7 ⟨s7, fxs, eD, pL⟩
    rw [ll, List.take_length] at pL
    have e7 := s7 _ _ e6
    have DnH : H6 D = none := nD
    refine ⟨_, rfl, p, CS, dx, _, rfl, e7, T.cl, T.nR, Nat.lt_of_le_of_lt (putF_le _ _ _ _ (putF_le _ _ _ _ (putF_le _ _ _ _ (Nat.le_refl 0)))) (by decide), ?_⟩
    have e8 : (upd H7 p (.ins CS dx (putF "fresh" (.ref D) (putF "layer" (.ref la) (putF "moves" (.ref md) (putF "places" (nV N) [])))))) p = some (.ins CS dx (putF "fresh" (.ref D) (putF "layer" (.ref la) (putF "moves" (.ref md) (putF "places" (nV N) []))))) := upd_same
    have f8 : FrO p H (upd H7 p (.ins CS dx (putF "fresh" (.ref D) (putF "layer" (.ref la) (putF "moves" (.ref md) (putF "places" (nV N) [])))))) := (f6.trans (FrO.of s7)).trans fun a o n h => by rw [upd_ne n]; exact h
    have q8 : SameQ H7 (upd H7 p (.ins CS dx (putF "fresh" (.ref D) (putF "layer" (.ref la) (putF "moves" (.ref md) (putF "places" (nV N) [])))))) := put_quiet e7 trivial
    have mbt8 := (mbt6.mono s7).putI (o := .ins CS dx (putF "fresh" (.ref D) (putF "layer" (.ref la) (putF "moves" (.ref md) (putF "places" (nV N) []))))) e7
    have lay8 := q8 _ _ (s7 _ _ lay6) (fun z => z)
    have frL8 := (frL6.mono (nu_same s7)).nuQ q8
    have fre8 := q8 _ _ eD (fun z => z)
    have pL8 := Paired.mapP pL fun _ _ z => z.monoQ q8
    generalize upd H7 p (.ins CS dx (putF "fresh" (.ref D) (putF "layer" (.ref la) (putF "moves" (.ref md) (putF "places" (nV N) []))))) = H8 at e8 f8 mbt8 lay8 frL8 fre8 pL8 ⊢
    refine ⟨_, rfl, p, CS, dx, _, _, rfl, e8, T.cl, T.nR, (by rw [lookup_putF, if_pos rfl]), fun fo fdx nfo nfdx hne => ?_⟩
    have sA : Same H8 (upd (upd H8 fdx (.own fo)) fo (.ins CF fdx [])) := same_mk nfo nfdx
    have sz : szF (L'.map pk) ≤ 9000000 := Nat.le_trans (szF_pk lenL') (by
      have h1 := pre.2.2.2.1
      exact Nat.le_trans (Nat.mul_le_mul blen (show 2 * N + 1 ≤ 2001 by omega)) (by decide))
    refine ⟨fo, D, fdx, fxs, L'.map pk, rfl, upd_same, sq (sA _ _ fre8), pks_dpa (Paired.mapP pL8 fun _ _ h => h.mono sA), sz, anti_fre lenL' nnL' mini'.anti ndL', fun H9 FF floor fr nf un => ⟨rfl, ?_⟩⟩
    have s89 : Same H8 H9 := fun c o h => fr c o (ne_of_none h nfo) (sA c o h)
    have e9 := s89 _ _ e8
    have pfo : p ≠ fo := fun z => by rw [z, nfo] at e8; cases e8
    refine ⟨_, rfl, p, CS, dx, _, rfl, e9, T.cl, T.nF, Nat.lt_of_le_of_lt (putF_le _ _ _ _ (putF_le _ _ _ _ (putF_le _ _ _ _ (putF_le _ _ _ _ (Nat.le_refl 0))))) (by decide), ?_⟩
    have f9 := f8.trans (FrO.of s89)
    have qA : SameQ H9 (upd H9 p (.ins CS dx (putF "floor" (.ref fo) (putF "fresh" (.ref D) (putF "layer" (.ref la) (putF "moves" (.ref md) (putF "places" (nV N) []))))))) := put_quiet e9 trivial
    refine q _ md la D fo FF L' ⟨⟨dx, _, upd_same, SFld.start _ _ _ _ _⟩, (mbt8.mono s89).putI e9, ⟨lxs, qA _ _ (s89 _ _ lay8) (fun z => z), (frL8.mono (nu_same s89)).nuQ qA⟩, ⟨fxs, qA _ _ (s89 _ _ fre8) (fun z => z), Paired.mapP pL8 fun _ _ z => (z.mono s89).monoQ qA⟩, floor.putI e9 pfo⟩ mini' ascL (f9.trans fun a o n h => by rw [upd_ne n]; exact h) (fun q' b hb => ?_) un (f4.free ⟨_, s4 _ _ e3⟩ nla) (f6.free ⟨_, e6⟩ nD)
    exact f8.free ⟨_, e8⟩ (sA.free (nf q' b hb))
theorem mkr_Search {f CS CF : Addr} {fd : FuncData} {lv : Nat} (F : Fun K "__init__" "Search.__init__" s_Search_init f fd) (T : TxtS K mg CS) (mk : Mk K CS f) (TF : TxtF K mg CF) (cM : Cst mg "MOST_ELEMENTS" (.int 2000)) (B : Bt mg) (I_Floor : Mkr P w K mg base CF ["self", "situations"] 2 (spFInit K CF)) (D_packed : Fd P w K mg base "packed" ["situation"] 1 (spPackP K))
    (D_some_least_ones : Fd P w K mg base "some_least_ones" ["situations", "most"] (lv + 3) (spSomeL K lv)) (D_moves_by_target : Fd P w K mg base "moves_by_target" ["machine"] 1 (spMbt P w K)) : Mkr P w K mg base CS ["self", "machine", "bad"] (lv + 4) (spSInit P w K CS CF lv) :=
  ⟨f, fd, fd_Search_init F T TF cM B I_Floor D_packed D_some_least_ones D_moves_by_target, mk, F.binds (ps := ["self", "machine", "bad"]) fun _ _ _ _ _ _ us hl => match us, hl with | [_, _, _], _ => rfl⟩
abbrev s_Search_is_too_long : Stmt := inClass (topS 20) 1
theorem sc_Search_is_too_long : FnScope ["self"] ["self"] (defScope s_Search_is_too_long) := ⟨rfl, rfl, rfl, by decide +kernel, rfl, by decide +kernel, by decide +kernel⟩
-- Search.is_too_long slots: self=0 globals: len MOST_ELEMENTS
def spLong (P : Program) (w : World) (K : PySem.W.Frag) (CS CF : Addr) : Sp := fun vs H Q _ => ∃ (Hb : Hp) (g md la fa fo : Addr) (N n : Nat) (ms : List MvT) (F : Tri) (L Z : List Sn), vs = [.ref g] ∧ SrchAt P w K CS CF Hb H g md la fa fo N n ms F L Z ∧ Q (.bl (decide (2000 < L.length))) H
theorem md_is_too_long {f CS CF : Addr} {fd : FuncData} (F : Fun K "is_too_long" "Search.is_too_long" s_Search_is_too_long f fd) (T : TxtS K mg CS) (mm : Meth K CS "is_too_long" f) (cM : Cst mg "MOST_ELEMENTS" (.int 2000)) (B : Bt mg) : Md P w K mg base CS "is_too_long" ["self"] 1 (spLong P w K CS CF) := by
  refine ⟨f, fd, F.ok sc_Search_is_too_long (fun vs H Q E h => ?_) (fun cdv A outer s H vs Q E hr h => ?_), mm, F.binds (ps := ["self"]) fun _ _ _ _ _ _ us hl => match us, hl with | [_], _ => rfl⟩
  · obtain ⟨_, _, _, _, _, _, _, _, _, _, _, _, rfl, _⟩ := h
    rfl
  obtain ⟨Hb, g, md, la, fa, fo, N, n, ms, F, L, Z, rfl, S, q⟩ := h
  obtain ⟨dx, es, hg, fld⟩ := S.ob
  obtain ⟨lxs, hla, fL⟩ := S.lay
  refine ⟨_, (pss_one (ps_ret (pe_cmpR op_gt (pe_callB (cLen K) (by rfl) B.len PySem.boot_len (pa_cons (pe_fld (pv 0) rfl) pa_nil)) (pe_cst cM) (nomark _)))), ?_⟩
  refine ⟨_, rfl, g, CS, dx, es, _, rfl, hg, T.cl, T.nL, fld.layer, la, _, rfl, .inl (sq hla), ?_⟩
  refine ⟨_, _, rfl, rfl, ?_⟩
  have e : decide (V.int 2000 = V.int 2000) = true := rfl
  have e2 : decide ((2000 : Int) < ((lxs.length : Nat) : Int)) = decide (2000 < L.length) := decide_eq_decide.mpr (by rw [fL.len]; omega)
  show Q (V.bl (decide ((2000 : Int) < ((lxs.length : Nat) : Int)))) H
  rw [e2]
  exact q
end
theorem zip_filter {bs : List Sn} (p : Sn → Bool) : ∀ {vs : List V}, vs.length = bs.length → ((vs.zip bs).filter fun q => p q.2).map (·.2) = bs.filter p := fun {vs} hl => by
  have h := List.filter_map (f := fun q : V × Sn => q.2) (p := p) (l := vs.zip bs)
  have e2 : (vs.zip bs).map (fun q : V × Sn => q.2) = bs := List.map_snd_zip (by omega)
  rw [e2] at h
  exact h.symm
theorem fresh_filter {G : Hp} {vs : List V} {bs : List Sn} (p : Sn → Bool) (h : FreshL G vs bs) : FreshL G (((vs.zip bs).filter fun q => p q.2).map (·.1)) (bs.filter p) := by
  rw [← zip_filter p h.len]
  refine ⟨paired_of fun z hz => fresh_zip h z (List.mem_filter.mp hz).1, ?_⟩
  have sb : (((vs.zip bs).filter fun q => p q.2).map (·.1)).Sublist vs := by
    have := (List.filter_sublist (p := fun q : V × Sn => p q.2) (l := vs.zip bs)).map (·.1)
    rw [List.map_fst_zip (by rw [h.len]; exact Nat.le_refl _)] at this
    exact this
  exact h.dis.sublist sb
theorem fresh_app {G Ga : Hp} {vs us : List V} {bs cs : List Sn} (h1 : FreshL G vs bs) (h2 : FreshL G us cs) (h3 : Paired (FreshS Ga) vs bs) (s : Same Ga G) (n : ∀ u ∈ us, ∀ c, CtS G u c → Ga c = none) : FreshL G (vs ++ us) (bs ++ cs) := by
  refine ⟨paired_app h1.pr h2.pr, List.pairwise_append.mpr ⟨h1.dis, h2.dis, fun u hu v hv c cu cv => ?_⟩⟩
  obtain ⟨b', _, t', c', rfl, e1, e2⟩ := paired_left h3 hu
  obtain rfl : c' = c := CtS.uniq (⟨t', _, rfl, s _ _ e1⟩ : CtS G (.ref t') c') cu
  rw [n v hv _ cv] at e2
  cases e2
structure AdvR (N : Nat) (ms : List MvT) (bad : List Sn) (i : Nat) (U : Int × Prs → Prop) (L L' Z' : List Sn) (n' : Nat) : Prop where
  moved : ∃ x, Sok N x ∧ Up ms bad (i + 1) x ∧ ¬ Up ms bad i x
  good : Z'.length ≤ 2000 → LayI N ms bad (i + 1) U L' Z'
  big : 2000 < Z'.length → ∀ M, LayR N ms bad (i + 1) M → 2000 < M.length
  len : Z'.length ≤ L'.length ∧ L'.length ≤ L.length + Z'.length
  sm : ∀ z ∈ L', z ∈ L ∨ ∃ y ∈ L, z.2.sum ≤ y.2.sum + 1
  sz : n' ≤ L'.length * (2 * N + 1)
  zb : Z'.length ≤ 2001
  zz : (∀ z ∈ Z', z ∈ L' ∧ ¬ Up ms bad i z) ∧ ∀ z ∈ L', z ∈ Z' ∨ Up ms bad i z
section
variable {P : Program} {w : World} {K : PySem.W.Frag} {mg : Str → Option Value} {base : Heap}
abbrev s_Search_advance : Stmt := inClass (topS 20) 2
theorem sc_Search_advance : FnScope ["self", "fresh", "kept", "one", "situation"] ["self"] (defScope s_Search_advance) := ⟨rfl, rfl, rfl, by decide +kernel, rfl, by decide +kernel, by decide +kernel⟩
-- Search.advance slots: self=0(cell) fresh=1 kept=2 one=3(None) situation=4(None) globals: fresh_ones MOST_ELEMENTS not_above len Floor sorted
def spAdv (P : Program) (w : World) (K : PySem.W.Frag) (CS CF : Addr) (lv : Nat) : Sp := fun vs H Q _ => ∃ (Hb : Hp) (g md la fa fo : Addr) (S N n : Nat) (ms : List MvT) (F : Tri) (L Z bad : List Sn) (i : Nat), vs = [.ref g] ∧ SrchAt P w K CS CF Hb H g md la fa fo N n ms F L Z ∧ LayI N ms bad i (Und F) L Z ∧ Z.Nodup ∧
  (∀ a, H a = none → Hb a = none) ∧ (∀ q b, F q = some b → Hb b = none) ∧ (∀ m ∈ ms, m.Fit S N ∧ m.sh.length ≤ 1000) ∧ Lens N bad ∧ L.length ≤ 2000 ∧ (∀ y ∈ L, ∀ c ∈ y.2, c ≤ 1000000000) ∧ N < lv ∧ N ≤ 1000 ∧ 2000 * ((N + 1) * ms.length) ≤ 8000000 ∧ n ≤ L.length * (2 * N + 1) ∧
  (∀ H', (∀ b o, H b = some o → b ≠ g → (∀ q, F q ≠ some b) → H' b = some o) → (∀ x, Sok N x → Up ms bad (i + 1) x → Up ms bad i x) → Q (.bl false) H') ∧
  ∀ H' la' fa' fo' n' F' L' Z', (∀ b o, H b = some o → b ≠ g → (∀ q, F q ≠ some b) → H' b = some o) → SrchAt P w K CS CF Hb H' g md la' fa' fo' N n' ms F' L' Z' → AdvR N ms bad i (Und F') L L' Z' n' → Z'.Nodup → (∀ q b, F' q = some b → (∃ q', F q' = some b) ∨ H b = none) → ((∃ q, F q = some la') ∨ H la' = none) → H fa' = none → Q (.bl true) H'
set_option maxHeartbeats 4000000 in
theorem md_advance {f CS CF : Addr} {fd : FuncData} {lv : Nat} (F : Fun K "advance" "Search.advance" s_Search_advance f fd) (T : TxtS K mg CS) (mm : Meth K CS "advance" f) (TF : TxtF K mg CF) (cM : Cst mg "MOST_ELEMENTS" (.int 2000)) (B : Bt mg) (I_Floor : Mkr P w K mg base CF ["self", "situations"] 2 (spFInit K CF)) (D_packed : Fd P w K mg base "packed" ["situation"] 1 (spPackP K)) (D_unpacked : Fd P w K mg base "unpacked" ["situation", "places"] 1 (spUnpk K))
    (D_fresh_ones : Fd P w K mg base "fresh_ones" ["moves", "floor", "situations", "most"] (lv + lv + 5) (spFresh P w K CF lv)) (D_not_above : Fd P w K mg base "not_above" ["situations", "fresh"] (lv + 3) (spNotAb K lv)) : Md P w K mg base CS "advance" ["self"] (lv + lv + 6) (spAdv P w K CS CF lv) := by
  refine ⟨f, fd, F.ok sc_Search_advance (fun vs H Q E h => ?_) (fun cdv A outer s H vs Q E hr h => ?_), mm, F.binds (ps := ["self"]) fun _ _ _ _ _ _ us hl => match us, hl with | [_], _ => rfl⟩
  · obtain ⟨_, _, _, _, _, _, _, _, _, _, _, _, _, _, _, rfl, _⟩ := h
    rfl
  obtain ⟨Hb, g, md, la, fa, fo, S, N, n, ms, F0, L, Z, bad, i, rfl, SA, li, ndz, hb, hF, fit, lb, l2, cb, hlv, hN, hsz, hn, q1, q2⟩ := h
  obtain ⟨dx, es, hg, fld⟩ := SA.ob
  obtain ⟨lxs, hla, fL⟩ := SA.lay
  obtain ⟨fxs, hfa, pZ⟩ := SA.fre
  have fitm : ∀ m ∈ ms, m.Fit S N := fun m hm => (fit m hm).1
  have zl2 : Z.length ≤ L.length := nodup_lenG ndz li.sub
  have zok : ∀ z ∈ Z, Sok N z := fun z hz => li.lay.ok (li.sub z hz)
  refine ⟨_, (pss_cons (ps_set (i := 1) sc_Search_advance.nd rfl (Or.inl rfl) (pe_fn D_fresh_ones (hr.mono (by omega)) rfl (pa_cons (pe_fld (pv 0) rfl) (pa_cons (pe_fld (pv 0) rfl) (pa_cons (pe_fld (pv 0) rfl) (pa_cons (pe_cst cM) pa_nil))))))
 (pss_cons (ps_if (pt_not (ptTru K (pv 1) (by intro _; rfl)))
 (pss_one (ps_ret pe_bl))
 pss_nil)
 (pss_cons (ps_set (i := 2) sc_Search_advance.nd rfl (Or.inl rfl) (pe_fn D_not_above (hr.mono (by omega)) rfl (pa_cons (pe_fld (pv 0) rfl) (pa_cons (pv 1) pa_nil))))
 (C8.pss_cut (ps_if (pt_cmpR op_lt (pe_callB (cLen K) (by rfl) B.len PySem.boot_len (pa_cons (pv 2) pa_nil)) (pe_callB (cLen K) (by rfl) B.len PySem.boot_len (pa_cons (pe_fld (pv 0) rfl) pa_nil)) (nomark _))
 (pss_one (ps_fld (pv 0) (pe_mkr I_Floor fun _ _ G mk b => pe_make mk G (hr.mono (by omega)) (by rfl) TF.mgC b .nil pass0 (pa_cons (pe_op (opCat K) (pe_lc (own := [("situation", 4)]) (g := gName 4) (by rfl) sc_Search_advance.nd (piL K (pv 2)) (blkOk_by (own := [("situation", 4)]) (N := ["self", "fresh", "kept", "one", "situation"]) (sc := (defScope s_Search_advance)) (by decide +kernel)) (fun _ _ _ _ _ => (pg_name (i := 4) sc_Search_advance.nd rfl (Or.inl rfl))) (fun _ _ _ _ _ => pts_nil) (fun _ _ _ _ _ => (pe_fn D_packed (hr.mono (by omega)) rfl (pa_cons (pv 4) pa_nil)))) (pv 1)) pa_nil)) rfl))
 pss_nil)
 (pss_cons (ps_fld (pv 0) (pe_callB (cSortS K hr.units) (by rfl) B.sorted (by decide +kernel) (pa_cons (pe_op (opCat K) (pv 2) (pe_lc (own := [("one", 3)]) (g := gName 3) (by rfl) sc_Search_advance.nd (piL K (pv 1)) (blkOk_by (own := [("one", 3)]) (N := ["self", "fresh", "kept", "one", "situation"]) (sc := (defScope s_Search_advance)) (by decide +kernel)) (fun _ _ _ _ _ => (pg_name (i := 3) sc_Search_advance.nd rfl (Or.inl rfl))) (fun _ _ _ _ _ => pts_nil) (fun _ _ _ _ _ => (pe_fn D_unpacked (hr.mono (by omega)) rfl (pa_cons (pv 3) (pa_cons (pe_fldK K (pv 0) rfl) pa_nil)))))) pa_nil)) rfl)
 (pss_cons (ps_fld (pv 0) (pv 1) rfl)
 (pss_one (ps_ret pe_bl)))))))), ?_⟩
  refine ⟨_, rfl, g, CS, dx, es, _, rfl, hg, T.cl, T.nM, fld.moves, _, rfl, g, CS, dx, es, _, rfl, hg, T.cl, T.nF, fld.floor, _, rfl, g, CS, dx, es, _, rfl, hg, T.cl, T.nR, fld.fresh, ?_⟩
  have hn2 : L.length * (2 * N + 1) ≤ 2000 * (2 * N + 1) := Nat.mul_le_mul_right _ l2
  have hz2 : Z.length * ((N + 1) * ms.length) ≤ 2000 * ((N + 1) * ms.length) := Nat.mul_le_mul_right _ (by omega)
  refine ⟨md, fo, fa, 2000, ms, Z, fxs, S, N, n, F0, rfl, SA.mbt, SA.flo, sq hfa, pZ, fit, fun z hz => (zok z hz).1, fun z hz => (zok z hz).2, fun z hz => cb z (li.sub z hz), hlv, hN, by omega, by omega, by omega, fun z hz => (li.und _).mpr ⟨pk z, List.mem_map.mpr ⟨z, li.sub z hz, rfl⟩, rfl, subP_self _⟩, fun H1 fl xs Z' F1 n1 R nfl efl pk1 flo1 hn1 fr1 nw1 un1 => ?_⟩
  dsimp only [gName]
  have Fno : ∀ {a : Addr} {o : HO}, H a = some o → (∀ kvs, o ≠ .dK kvs) → ∀ q, F0 q ≠ some a := fun {a o} h no q z => by
    obtain ⟨kvs, e1, _⟩ := SA.flo.tri q a List.nil_prefix z
    rw [h] at e1
    cases e1
    exact no _ rfl
  have q01 : SameQ H H1 := fr1.quiet SA.flo.tri
  have hg1 := fr1 _ _ hg (Fno hg fun _ z => by cases z)
  have xl := Paired.length pk1
  refine ⟨_, rfl, !xs.isEmpty, .inl ⟨xs, sq efl, rfl⟩, ?_⟩
  by_cases hZ : Z' = []
  · subst hZ
    obtain rfl := List.eq_nil_of_length_eq_zero (l := xs) (by rw [xl]; rfl)
    refine iteTx rfl ?_
    exact q1 H1 (fun b o h _ h2 => fr1 b o h h2) fun x hx u => li.stable fitm lb R rfl hx u
  · have xne : xs.isEmpty = false := by
      cases xs with
      | nil => exact absurd (List.eq_nil_of_length_eq_zero (by rw [← xl]; rfl)) hZ
      | cons x xs => rfl
    refine iteFx (by rw [xne]; rfl) ?_
    have zb : Z'.length ≤ 2001 := full_len (R.lim hZ)
    have lokk : ∀ x ∈ L, Sok N x := fun x hx => li.lay.ok hx
    have dis : ∀ x ∈ L, x ∉ Z' := fun x hx hz => (li.moved fitm lb R hz).2 (li.lay.up x hx)
    have dL : DpAll K H1 lxs (L.map sD) := dpAll_monoQ q01 (dpAll_mono nu_out fL.dpa)
    have hzz : Z'.length * (2 * N + 1) ≤ 2001 * (2 * N + 1) := Nat.mul_le_mul_right _ zb
    refine ⟨_, rfl, g, CS, dx, es, _, rfl, hg1, T.cl, T.nL, fld.layer, _, rfl, la, fl, lxs, xs, L, Z', N, rfl, sq (q01 _ _ hla (fun z => z)), dL, sq efl, pk1, li.lay.lens, li.lay.nn, R.lens, R.nn, hZ, R.anti, R.nd, dis, hlv, hN, by omega, by omega, by omega, fun H2 kp s2 nkp ekp => ?_⟩
    dsimp only [gName]
    have ekept : ((lxs.zip L).filter fun q => !(Z'.any fun z => covS q.2 z)).map (·.2) = keptL L Z' := zip_filter (fun x => !(Z'.any fun z => covS x z)) fL.len
    have fK : FreshL (Nu Hb H) (((lxs.zip L).filter fun q => !(Z'.any fun z => covS q.2 z)).map (·.1)) (keptL L Z') := fresh_filter (fun x => !(Z'.any fun z => covS x z)) fL
    generalize ((lxs.zip L).filter fun q => !(Z'.any fun z => covS q.2 z)).map (·.1) = kxs at ekp fK
    have kl := fK.len
    have kle : (keptL L Z').length ≤ L.length := List.length_filter_le _ _
    have q02 : SameQ H H2 := q01.trans (Same.q s2)
    have hg2 := s2 _ _ hg1
    have fr2 : ∀ b o, H b = some o → b ≠ g → (∀ q, F0 q ≠ some b) → H2 b = some o := fun b o h _ h2 => s2 _ _ (fr1 b o h h2)
    have pk2 : Paired (fun v y => PkO K H2 v (pk y)) xs Z' := Paired.mapP pk1 fun _ _ z => z.mono s2
    have nw2 : ∀ {b : Addr}, H2 b = none → (∃ q, F0 q = some b) ∨ H b = none := fun {b} hb2 => by
      by_cases c : ∃ q, F0 q = some b
      · exact .inl c
      · refine .inr ?_
        cases e : H b with
        | none => rfl
        | some o =>
          by_cases cg : b = g
          · rw [cg, hg2] at hb2; cases hb2
          · rw [fr2 b o e cg fun q z => c ⟨q, z⟩] at hb2; cases hb2
    have keptLens : Lens N (keptL L Z') := fun x hx => li.lay.lens x (kept_mem.mp hx).1
    have keptNN : NonN (keptL L Z') := fun x hx => li.lay.nn x (kept_mem.mp hx).1
    have ndK : (keptL L Z').Nodup := by
      have := li.lay.asc
      have nd : L.Nodup := this.imp fun h e => by rw [e, ltS_irr] at h; cases h
      exact nd.sublist List.filter_sublist
    have antiA : ∀ a ∈ keptL L Z' ++ Z', ∀ b ∈ keptL L Z' ++ Z', covS a b = true → a = b := fun a ha b hb2 c => by
      rcases List.mem_append.mp ha with ea | ea
      · obtain ⟨a1, a2⟩ := kept_mem.mp ea
        rcases List.mem_append.mp hb2 with eb | eb
        · exact li.lay.anti a a1 b (kept_mem.mp eb).1 c
        · rw [a2 b eb] at c
          cases c
      · rcases List.mem_append.mp hb2 with eb | eb
        · exact absurd (up_mono fitm lb i ⟨R.lens a ea, R.nn a ea⟩ (lokk b (kept_mem.mp eb).1) c (li.lay.up b (kept_mem.mp eb).1)) (li.moved fitm lb R ea).2
        · exact R.anti a ea b eb c
    have ndA : (keptL L Z' ++ Z').Nodup := List.nodup_append.mpr ⟨ndK, R.nd, fun x hx y hy e => dis x (kept_mem.mp hx).1 (by rw [e]; exact hy)⟩
    have lensA : Lens N (keptL L Z' ++ Z') := fun x hx => by
      rcases List.mem_append.mp hx with e | e
      · exact keptLens x e
      · exact R.lens x e
    have nnA : NonN (keptL L Z' ++ Z') := fun x hx => by
      rcases List.mem_append.mp hx with e | e
      · exact keptNN x e
      · exact R.nn x e
    have szA : (keptL L Z' ++ Z').length * (2 * N + 1) ≤ 9000000 := by
      rw [List.length_append]
      exact Nat.le_trans (Nat.mul_le_mul (show (keptL L Z').length + Z'.length ≤ 4001 by omega) (show 2 * N + 1 ≤ 2001 by omega)) (by decide)
    change C8.tCut _ _ _ [some (.ref g), some (.ref fl), some (.ref kp), none, none] H2
    refine ⟨fun σ' H' => ∃ (fo3 : Addr) (F3 : Tri) (n3 : Nat), σ' = [some (.ref g), some (.ref fl), some (.ref kp), none, none] ∧ SameQ H2 H' ∧ (∀ b o, H b = some o → b ≠ g → (∀ q, F0 q ≠ some b) → H' b = some o) ∧ (∃ dx es, H' g = some (.ins CS dx es) ∧ SFld es (.int (N : Int)) md la fa fo3) ∧ FloorAt CF H' fo3 F3 n3 ∧
      (∀ y, Und F3 y ↔ Ab ((keptL L Z' ++ Z').map pk) y) ∧ n3 ≤ (keptL L Z' ++ Z').length * (2 * N + 1) ∧ (∀ q b, F3 q = some b → (∃ q', F0 q' = some b) ∨ H b = none), ?_, ?_⟩
    · refine ⟨_, rfl, kp, kxs, rfl, .inl (sq ekp), _, rfl, g, CS, dx, es, _, rfl, hg2, T.cl, T.nL, fld.layer, la, lxs, rfl, .inl (sq (q02 _ _ hla (fun z => z))), _, _, rfl, rfl, _, rfl, ?_⟩
      by_cases c : kxs.length < lxs.length
      · refine iteTx (decide_eq_true (by omega)) ?_
        refine ⟨_, rfl, kp, rfl, ⟨_, sq ekp⟩, fun D nD => lc_list (xs := kxs) (fun j H' => Same H2 H' ∧ ∃ ys, H' D = some (.lst ys) ∧ Paired (fun v y => PkO K H' v (pk y)) ys ((keptL L Z').take j)) ⟨same_new nD, [], upd_same, .nil⟩ (fun _ H' _ h => sq (h.1 _ _ ekp)) ?_ ?_⟩
        · rintro j u H' hu ⟨sm, ys, eD, pL⟩
          obtain ⟨y, hy, fy⟩ := paired_get fK.pr hu
          have ymem := List.mem_of_getElem? hy
          obtain ⟨ta, ca, rfl, h1, h2⟩ := fy
          have st1 : Sit K H' (.ref ta) y.1 y.2 := ⟨ta, ca, rfl, st (sm _ _ (q02 _ _ (nu_iff.mp h1).2 (fun z => z))), sq (sm _ _ (q02 _ _ (nu_iff.mp h2).2 (fun z => z)))⟩
          dsimp only [gName]
          refine ⟨rfl, yesT ?_⟩
          refine ⟨_, rfl, .ref ta, y.1, y.2, rfl, st1, by rw [keptLens y ymem]; exact hN, fun H7 q7 t ps s7 _ eq7 plt prs => ?_⟩
          have pL7 := Paired.mapP pL fun _ _ z => z.mono s7
          have yl := Paired.length pL
          refine ⟨_, s7 _ _ eD, ?_, Same.mut (sm.trans s7) nD, ys ++ [.ref q7], upd_same, ?_⟩
          · rw [List.length_take] at yl
            exact szn (m := 2000) (by omega) (by omega)
          · rw [take_snoc hy]
            exact pk_put (s7 _ _ eD) (paired_snoc (R := fun v y => PkO K H7 v (pk y)) (pko_of (y := y) eq7 plt prs) pL7)
        · rintro H3 ⟨s3, ys, eD, pL⟩
          rw [kl, List.take_length] at pL
          have yl := Paired.length pL
          refine ⟨_, rfl, D, fl, _, _, rfl, rfl, sq eD, sq (s3 _ _ (s2 _ _ efl)), ?_, fun cl ncl => fun fo2 fdx nfo nfdx hne => ?_⟩
          · rw [xl, yl]
            exact Nat.le_of_lt (szn (m := 4001) (by omega) (by omega))
          have sC : Same H3 (upd H3 cl (.lst (ys ++ xs))) := same_new ncl
          have ecl : (upd H3 cl (.lst (ys ++ xs))) cl = some (.lst (ys ++ xs)) := upd_same
          generalize upd H3 cl (.lst (ys ++ xs)) = H4 at sC ecl nfo nfdx ⊢
          have sA : Same H4 (upd (upd H4 fdx (.own fo2)) fo2 (.ins CF fdx [])) := same_mk nfo nfdx
          have s24 : Same H2 H4 := s3.trans sC
          have pA : Paired (fun v y => PkO K H4 v (pk y)) (ys ++ xs) (keptL L Z' ++ Z') := by
            exact paired_app (R := fun v y => PkO K H4 v (pk y)) (Paired.mapP pL fun _ _ z => PkO.mono sC z) (Paired.mapP pk2 fun _ _ z => PkO.mono s24 z)
          have ecl1 := sA _ _ ecl
          refine ⟨fo2, cl, fdx, ys ++ xs, (keptL L Z' ++ Z').map pk, rfl, upd_same, sq ecl1, pks_dpa (Paired.mapP pA fun _ _ h => h.mono sA), Nat.le_trans (szF_pk lensA) szA, anti_fre lensA nnA antiA ndA, fun H5 FF floor fr nf un => ⟨rfl, ?_⟩⟩
          have s45 : Same H4 H5 := fun c o h => fr c o (ne_of_none h nfo) (sA c o h)
          have s25 := s24.trans s45
          have e5 := s25 _ _ hg2
          have gfo : g ≠ fo2 := fun z => by rw [z] at hg2; rw [s24 _ _ hg2] at nfo; cases nfo
          have qA : SameQ H5 (upd H5 g (.ins CS dx (putF "floor" (.ref fo2) es))) := put_quiet e5 trivial
          refine ⟨_, rfl, g, CS, dx, es, rfl, e5, T.cl, T.nF, Nat.lt_of_le_of_lt fld.len (by decide), ?_⟩
          refine ⟨fo2, FF, _, rfl, SameQ.trans (Same.q s25) qA, fun b o h h1 h2 => by rw [upd_ne h1]; exact s25 _ _ (fr2 b o h h1 h2), ⟨dx, _, upd_same, fld.pFloor fo2⟩, floor.putI e5 gfo, un, szF_pk lensA, fun q b hb3 => ?_⟩
          exact nw2 (s24.free (sA.free (nf q b hb3)))
      · refine iteFx (decide_eq_false (by omega)) ?_
        have eK : keptL L Z' = L := List.filter_sublist.eq_of_length (by have := fL.len; show (keptL L Z').length = L.length; omega)
        refine ⟨fo, F1, n1, rfl, fun _ _ h _ => h, fr2, ⟨dx, es, hg2, fld⟩, flo1.mono s2, fun y => ?_, ?_, nw1⟩
        · rw [eK, un1, li.und, List.map_append, ab_app']
        · rw [eK, List.length_append, Nat.add_mul]
          omega
    · rintro σ' H3 ⟨fo3, F3, n3, rfl, q23, fr3, ⟨dx3, es3, hg3, fld3⟩, flo3, un3, hn3, nw3⟩
      have q03 : SameQ H H3 := q02.trans q23
      have ekp3 := q23 _ _ ekp (fun z => z)
      have efl3 := q23 _ _ (s2 _ _ efl) (fun z => z)
      have pk3 : Paired (fun v y => PkO K H3 v (pk y)) xs Z' := Paired.mapP pk2 fun _ _ z => z.monoQ q23
      have fK3 := fK.nuQ q03
      have nw3' : ∀ {a : Addr}, H3 a = none → (∃ q, F0 q = some a) ∨ H a = none := fun {a} ha => by
        by_cases c : ∃ q, F0 q = some a
        · exact .inl c
        · refine .inr ?_
          cases e : H a with
          | none => rfl
          | some o =>
            by_cases cg : a = g
            · rw [cg, hg3] at ha; cases ha
            · rw [fr3 a o e cg fun q z => c ⟨q, z⟩] at ha; cases ha
      have hb3 : ∀ {a : Addr}, H3 a = none → Hb a = none := fun {a} ha => by
        cases e : H a with
        | none => exact hb a e
        | some o =>
          by_cases c : ∃ q, F0 q = some a
          · obtain ⟨q', c⟩ := c
            exact hF q' a c
          · by_cases cg : a = g
            · rw [cg, hg3] at ha; cases ha
            · rw [fr3 a o e cg fun q z => c ⟨q, z⟩] at ha; cases ha
      refine ⟨_, rfl, _, rfl, fl, rfl, ⟨_, sq efl3⟩, fun D nD => lc_list (xs := xs) (fun j H' => Same H3 H' ∧ ∃ ys, H' D = some (.lst ys) ∧ FreshL (Gn D D H3 H') ys (Z'.take j)) ⟨same_new nD, [], upd_same, FreshL.nil⟩ (fun _ H' _ h => sq (h.1 _ _ efl3)) ?_ ?_⟩
      · rintro j u H' hu ⟨sm, ys, eD, fY⟩
        obtain ⟨z, hz, pz⟩ := paired_get pk3 hu
        have zm := List.mem_of_getElem? hz
        have zlen := R.lens z zm
        dsimp only [gName]
        refine ⟨rfl, yesT ?_⟩
        refine ⟨_, rfl, _, rfl, g, CS, dx3, es3, _, rfl, sm _ _ hg3, T.cl, T.nP, fld3.places, ?_⟩
        refine ⟨u, z.1, z.2, by rw [zlen]; rfl, (pz.mono sm).dp, R.nn z zm, by rw [zlen]; exact hN, fun H8 t8 c8 s8 nt nc tc et ec => ?_⟩
        have tD : t8 ≠ D := fun z => by rw [z, eD] at nt; cases nt
        have cD : c8 ≠ D := fun z => by rw [z, eD] at nc; cases nc
        refine ⟨ys, s8 _ _ eD, ?_, Same.mut (sm.trans s8) nD, ys ++ [.ref t8], upd_same, ?_⟩
        · have := fY.len
          rw [List.length_take] at this
          exact szn (m := 1000000) (by omega) (by omega)
        · rw [take_snoc hz]
          have nc8 : Gn D D H3 H' c8 = none := by
            cases z : Gn D D H3 H' c8 with
            | none => rfl
            | some o => have := (gn_iff.mp z).2.2.2; rw [nc] at this; cases this
          exact FreshL.snocN ((gn_same s8).trans (gn_mut (.inl rfl))) fY nc8 (gn_iff.mpr ⟨tD, tD, sm.free nt, by rw [upd_ne tD]; exact et⟩) (gn_iff.mpr ⟨cD, cD, sm.free nc, by rw [upd_ne cD]; exact ec⟩)
      · rintro H4 ⟨s4, ys, eD, fY⟩
        rw [xl, List.take_length] at fY
        have yl := fY.len
        refine ⟨kp, D, kxs, ys, rfl, rfl, sq (s4 _ _ ekp3), sq eD, ?_, fun cl ncl => ?_⟩
        · rw [kl, yl]
          exact Nat.le_of_lt (szn (m := 4001) (by omega) (by omega))
        dsimp only [tNil]
        have sC : Same H4 (upd H4 cl (.lst (kxs ++ ys))) := same_new ncl
        have ecl : (upd H4 cl (.lst (kxs ++ ys))) cl = some (.lst (kxs ++ ys)) := upd_same
        have s35 := s4.trans sC
        have fA : FreshL (Nu Hb (upd H4 cl (.lst (kxs ++ ys)))) (kxs ++ ys) (keptL L Z' ++ Z') := by
          have fY3 : FreshL (Nu H3 (upd H4 cl (.lst (kxs ++ ys)))) ys Z' := (fY.mono gn_nu).mono (nu_same sC)
          refine fresh_app (Ga := Nu Hb H3) (fK3.mono (nu_same s35)) (fY3.mono (nu_dom fun a ha => hb3 ha)) fK3.pr (nu_same s35) fun u hu c cu => ?_
          obtain ⟨b', _, t', c', rfl, e1, e2⟩ := paired_left fY3.pr hu
          obtain rfl : c' = c := CtS.uniq (⟨t', _, rfl, (nu_dom fun a ha => hb3 ha) _ _ e1⟩ : CtS (Nu Hb (upd H4 cl (.lst (kxs ++ ys)))) (.ref t') c') cu
          cases z : Nu Hb H3 c' with
          | none => rfl
          | some o => have h1 := (nu_iff.mp e2).1; rw [(nu_iff.mp z).2] at h1; cases h1
        generalize upd H4 cl (.lst (kxs ++ ys)) = H5 at sC ecl s35 fA ⊢
        refine rsort_fresh (sq ecl) fA nu_out lensA ndA fun r zs' L' nr pmL ascL frL => ?_
        have s6 : Same H5 (upd H5 r (.lst zs')) := same_new nr
        have s36 := s35.trans s6
        have er : (upd H5 r (.lst zs')) r = some (.lst zs') := upd_same
        have frL6 := frL.mono (nu_same (Hb := Hb) s6)
        generalize upd H5 r (.lst zs') = H6 at s6 s36 er frL6 ⊢
        have e6 := s36 _ _ hg3
        refine ⟨_, rfl, g, CS, dx3, es3, rfl, e6, T.cl, T.nL, Nat.lt_of_le_of_lt fld3.len (by decide), ?_⟩
        have q7 : SameQ H6 (upd H6 g (.ins CS dx3 (putF "layer" (.ref r) es3))) := put_quiet e6 trivial
        have e7 : (upd H6 g (.ins CS dx3 (putF "layer" (.ref r) es3))) g = some (.ins CS dx3 (putF "layer" (.ref r) es3)) := upd_same
        have o7 : ∀ b o, b ≠ g → H6 b = some o → (upd H6 g (.ins CS dx3 (putF "layer" (.ref r) es3))) b = some o := fun b o h1 h2 => by rw [upd_ne h1]; exact h2
        have gfo3 : g ≠ fo3 := fun z => by
          obtain ⟨dxf, d, e1, _⟩ := flo3.ob
          rw [← z, hg3] at e1
          have := fld3.places
          cases e1
          rw [fT_no d (by decide +kernel)] at this
          cases this
        have flo7 := (flo3.mono s36).putI (o := .ins CS dx3 (putF "layer" (.ref r) es3)) e6 gfo3
        generalize upd H6 g (.ins CS dx3 (putF "layer" (.ref r) es3)) = H7 at q7 e7 o7 flo7 ⊢
        refine ⟨_, rfl, _, rfl, g, CS, dx3, _, rfl, e7, T.cl, T.nR, Nat.lt_of_le_of_lt (fld3.pLayer r).len (by decide), ?_⟩
        have q8 : SameQ H7 (upd H7 g (.ins CS dx3 (putF "fresh" (.ref fl) (putF "layer" (.ref r) es3)))) := put_quiet e7 trivial
        have q68 := SameQ.trans q7 q8
        have fr8 : ∀ b o, H b = some o → b ≠ g → (∀ q, F0 q ≠ some b) → (upd H7 g (.ins CS dx3 (putF "fresh" (.ref fl) (putF "layer" (.ref r) es3)))) b = some o := fun b o h h1 h2 => by
          rw [upd_ne h1]
          exact o7 b o h1 (s36 _ _ (fr3 b o h h1 h2))
        have mbt8 : MbT P w K (upd H7 g (.ins CS dx3 (putF "fresh" (.ref fl) (putF "layer" (.ref r) es3)))) md ms := by
          refine SA.mbt.q (SameQ.trans q03 (SameQ.trans (Same.q s36) q68)) fun o ho => ?_
          obtain ⟨mks, hm1, _⟩ := SA.mbt
          refine fr8 md o ho (fun z => ?_) (Fno ho fun kvs z => ?_)
          · rw [z, hg] at hm1; cases hm1
          · rw [ho, z] at hm1; cases hm1
        have pmem : ∀ x, x ∈ L' ↔ x ∈ keptL L Z' ∨ x ∈ Z' := fun x => by rw [pmL.mem_iff, List.mem_append]
        have undL : ∀ y, Und F3 y ↔ Ab (L'.map pk) y := fun y => by
          rw [un3]
          constructor
          · rintro ⟨x, hx, h⟩
            exact ⟨x, ((pmL.map pk).mem_iff).mpr hx, h⟩
          · rintro ⟨x, hx, h⟩
            exact ⟨x, ((pmL.map pk).mem_iff).mp hx, h⟩
        have lenL' : L'.length = (keptL L Z').length + Z'.length := by rw [pmL.length_eq, List.length_append]
        refine q2 _ r fl fo3 n3 F3 L' Z' fr8 ⟨⟨dx3, _, upd_same, (fld3.pLayer r).pFresh fl⟩, mbt8, ⟨zs', q68 _ _ er (fun z => z), frL6.nuQ q68⟩, ⟨xs, q68 _ _ (s36 _ _ efl3) (fun z => z), Paired.mapP pk3 fun _ _ z => (z.mono s36).monoQ q68⟩, flo7.putI e7 gfo3⟩ ⟨?_, fun hl => ?_, fun hl M hM => ?_, ⟨by omega, by omega⟩, fun z hz => ?_, by rw [pmL.length_eq]; exact hn3, zb, ⟨fun z hz => ⟨(pmem z).mpr (.inr hz), (li.moved fitm lb R hz).2⟩, fun z hz => ((pmem z).mp hz).elim (fun e => .inr (li.lay.up z (kept_mem.mp e).1)) .inl⟩⟩ R.nd nw3 (nw3' (s35.free nr)) nfl
        · cases Z' with
          | nil => exact absurd rfl hZ
          | cons z Z' => exact ⟨z, ⟨R.lens z List.mem_cons_self, R.nn z List.mem_cons_self⟩, li.moved fitm lb R List.mem_cons_self⟩
        · exact li.next fitm lb R (decide_eq_false (by omega)) ascL pmem undL
        · have := li.big fitm lb R hM
          omega
        · rcases (pmem z).mp hz with e | e
          · exact .inl (kept_mem.mp e).1
          · obtain ⟨y, hy, h⟩ := R.sm z e
            exact .inr ⟨y, li.sub y hy, h⟩
end
open Classical in
/-- what stands whatever a search does -/
noncomputable def stb (H : Hp) (d : Addr) : Hp := fun a => match H a with
  | some o => if ¬ MuO o ∨ a = d then some o else none
  | none => none
open Classical in
theorem stb_iff {H : Hp} {d a : Addr} {o : HO} : stb H d a = some o ↔ H a = some o ∧ (¬ MuO o ∨ a = d) := by
  unfold stb
  cases e : H a with
  | none => exact ⟨fun h => (nomatch h), fun h => (nomatch h.1)⟩
  | some u =>
    show (if ¬ MuO u ∨ a = d then some u else none) = some o ↔ _
    by_cases c : ¬ MuO u ∨ a = d
    · rw [if_pos c]
      constructor
      · intro h; cases h; exact ⟨rfl, c⟩
      · intro h; exact h.1
    · rw [if_neg c]
      constructor
      · intro h; cases h
      · rintro ⟨h1, h2⟩; cases h1; exact absurd h2 c
theorem MbT.stb {P : Program} {w : World} {K : PySem.W.Frag} {H : Hp} {d : Addr} {ms : List MvT} (h : MbT P w K H d ms) : MbT P w K (stb H d) d ms := h.q (fun a o h n => stb_iff.mpr ⟨h, .inl n⟩) fun o h => stb_iff.mpr ⟨h, .inr rfl⟩
structure RowAt (K : PySem.W.Frag) (Hb H : Hp) (v : V) (p : List Sn × List Sn) : Prop where
  ob : ∃ (t la fa : Addr) (lxs fxs : List V), v = .ref t ∧ Hb t = none ∧ H t = some (.tup [.ref la, .ref fa]) ∧ Hb la = none ∧ H la = some (.lst lxs) ∧ FreshL (Nu Hb H) lxs p.1 ∧ Hb fa = none ∧ H fa = some (.lst fxs) ∧ Paired (fun v y => PkO K H v (pk y)) fxs p.2
theorem RowAt.q {K : PySem.W.Frag} {Hb H H' : Hp} {v : V} {p : List Sn × List Sn} (s : SameQ H H') (h : RowAt K Hb H v p) : RowAt K Hb H' v p := by
  obtain ⟨t, la, fa, lxs, fxs, e, h1, h2, h3, h4, h5, h6, h7, h8⟩ := h.ob
  exact ⟨t, la, fa, lxs, fxs, e, h1, s _ _ h2 (fun z => z), h3, s _ _ h4 (fun z => z), h5.nuQ s, h6, s _ _ h7 (fun z => z), Paired.mapP h8 fun _ _ z => z.monoQ s⟩
theorem FreshL.putL {Hb H : Hp} {r : Addr} {xs : List V} {o : HO} (e : H r = some (.lst xs)) (hr : ∃ u, Hb r = some u) {vs : List V} {bs : List Sn} (h : FreshL (Nu Hb H) vs bs) : FreshL (Nu Hb (upd H r o)) vs bs := by
  obtain ⟨u, hr⟩ := hr
  have ne : ∀ a, Hb a = none → a ≠ r := fun a n z => by rw [z, hr] at n; cases n
  exact h.to fun _ t c h1 h2 => ⟨nu_iff.mpr ⟨(nu_iff.mp h1).1, by rw [upd_ne (ne _ (nu_iff.mp h1).1)]; exact (nu_iff.mp h1).2⟩, nu_iff.mpr ⟨(nu_iff.mp h2).1, by rw [upd_ne (ne _ (nu_iff.mp h2).1)]; exact (nu_iff.mp h2).2⟩⟩
theorem RowAt.put {K : PySem.W.Frag} {Hb H : Hp} {r : Addr} {xs : List V} {o : HO} (e : H r = some (.lst xs)) (hr : ∃ u, Hb r = some u) {v : V} {p : List Sn × List Sn} (h : RowAt K Hb H v p) : RowAt K Hb (upd H r o) v p := by
  have ne : ∀ a, Hb a = none → a ≠ r := fun a n z => by obtain ⟨u, hr⟩ := hr; rw [z, hr] at n; cases n
  obtain ⟨t, la, fa, lxs, fxs, e2, h1, h2, h3, h4, h5, h6, h7, h8⟩ := h.ob
  exact ⟨t, la, fa, lxs, fxs, e2, h1, by rw [upd_ne (ne _ h1)]; exact h2, h3, by rw [upd_ne (ne _ h3)]; exact h4, h5.putL e hr, h6, by rw [upd_ne (ne _ h6)]; exact h7, pk_put e h8⟩
theorem RowAt.base {K : PySem.W.Frag} {Hb Hc H : Hp} (s : ∀ a, Hc a = none → Hb a = none) {v : V} {p : List Sn × List Sn} (h : RowAt K Hc H v p) : RowAt K Hb H v p := by
  obtain ⟨t, la, fa, lxs, fxs, e2, h1, h2, h3, h4, h5, h6, h7, h8⟩ := h.ob
  exact ⟨t, la, fa, lxs, fxs, e2, s _ h1, h2, s _ h3, h4, h5.mono (nu_dom s), s _ h6, h7, h8⟩
/-- what the layers of a search are -/
structure Chn (N : Nat) (ms : List MvT) (bad : List Sn) (t : Nat) (ps : List (List Sn × List Sn)) : Prop where
  len : ps.length = t + 1
  lay : ∀ j p, ps[j]? = some p → LayR N ms bad j p.1
  fst : ∀ p, ps[0]? = some p → p.2 = p.1
  zz : ∀ j p, ps[j + 1]? = some p → (∀ z ∈ p.2, z ∈ p.1 ∧ ¬ Up ms bad j z) ∧ ∀ z ∈ p.1, z ∈ p.2 ∨ Up ms bad j z
  moved : ∀ i, i < t → ∃ x, Sok N x ∧ Up ms bad (i + 1) x ∧ ¬ Up ms bad i x
  small : ∀ p ∈ ps, p.1.length ≤ 2000
  nd : ∀ p ∈ ps, p.2.Nodup
theorem Chn.snoc {N : Nat} {ms : List MvT} {bad : List Sn} {t : Nat} {ps : List (List Sn × List Sn)} {L Z : List Sn} (h : Chn N ms bad t ps) (l : LayR N ms bad (t + 1) L) (zz : (∀ z ∈ Z, z ∈ L ∧ ¬ Up ms bad t z) ∧ ∀ z ∈ L, z ∈ Z ∨ Up ms bad t z) (mv : ∃ x, Sok N x ∧ Up ms bad (t + 1) x ∧ ¬ Up ms bad t x) (sm : L.length ≤ 2000) (nz : Z.Nodup) : Chn N ms bad (t + 1) (ps ++ [(L, Z)]) := by
  have hl := h.len
  have cs : ∀ j p, (ps ++ [(L, Z)])[j]? = some p → ps[j]? = some p ∨ (j = t + 1 ∧ p = (L, Z)) := fun j p hp => by
    by_cases c : j < ps.length
    · rw [List.getElem?_append_left c] at hp
      exact .inl hp
    · rw [List.getElem?_append_right (by omega)] at hp
      have : j - ps.length = 0 := by
        have := (List.getElem?_eq_some_iff.mp hp).1
        rw [List.length_singleton] at this
        omega
      rw [this] at hp
      exact .inr ⟨by omega, (Option.some.inj hp).symm⟩
  refine ⟨by rw [List.length_append, List.length_singleton, hl], fun j p hp => ?_, fun p hp => ?_, fun j p hp => ?_, fun i hi => ?_, fun p hp => ?_, fun p hp => ?_⟩
  · rcases cs j p hp with e | ⟨rfl, rfl⟩
    · exact h.lay j p e
    · exact l
  · rcases cs 0 p hp with e | ⟨e, _⟩
    · exact h.fst p e
    · omega
  · rcases cs (j + 1) p hp with e | ⟨e, rfl⟩
    · exact h.zz j p e
    · obtain rfl : j = t := by omega
      exact zz
  · by_cases c : i < t
    · exact h.moved i c
    · obtain rfl : i = t := by omega
      exact mv
  · rcases List.mem_append.mp hp with e | e
    · exact h.small p e
    · rw [List.mem_singleton.mp e]
      exact sm
  · rcases List.mem_append.mp hp with e | e
    · exact h.nd p e
    · rw [List.mem_singleton.mp e]
      exact nz
theorem le_sumL : ∀ {cs : List Int}, (∀ c ∈ cs, 0 ≤ c) → ∀ c ∈ cs, c ≤ cs.sum
  | [], _, _, h => by cases h
  | x :: cs, h0, c, h => by
    have hx := h0 x List.mem_cons_self
    have h1 : ∀ c ∈ cs, 0 ≤ c := fun c hc => h0 c (List.mem_cons_of_mem _ hc)
    have hs : 0 ≤ cs.sum := by
      clear h h0 hx
      induction cs with
      | nil => exact Int.le_refl _
      | cons y ys ih =>
        have a := h1 y List.mem_cons_self
        have b := ih fun c hc => h1 c (List.mem_cons_of_mem _ hc)
        rw [List.sum_cons]
        omega
    rw [List.sum_cons]
    rcases List.mem_cons.mp h with rfl | h
    · omega
    · have := le_sumL h1 c h
      omega
abbrev Stab (N : Nat) (ms : List MvT) (bad : List Sn) (t : Nat) : Prop := ∀ x, Sok N x → Up ms bad (t + 1) x → Up ms bad t x
abbrev Mvd (N : Nat) (ms : List MvT) (bad : List Sn) (i : Nat) : Prop := ∃ x, Sok N x ∧ Up ms bad (i + 1) x ∧ ¬ Up ms bad i x
section
variable {P : Program} {w : World} {K : PySem.W.Frag} {mg : Str → Option Value} {base : Heap}
abbrev s_searched : Stmt := topS 19
theorem sc_searched : FnScope ["machine", "bad", "fuel", "search", "rows", "_"] ["machine", "bad", "fuel"] (defScope s_searched) := ⟨rfl, rfl, rfl, by decide +kernel, rfl, by decide +kernel, by decide +kernel⟩
-- searched slots: machine=0 bad=1 fuel=2 search=3 rows=4 _=5 globals: OutOfRange Search range
structure SrdPre (lv S N : Nat) (M : MT) (bad : List Sn) (fuel : Nat) (C : Int) : Prop where
  pl : M.places = N
  fit : ∀ m ∈ M.moves, m.Fit S N ∧ m.sh.length ≤ 1000
  ml : M.moves.length ≤ 100000
  lb : Lens N bad
  pre : PreL lv N bad
  b2 : bad.length ≤ 2000
  sz : 2000 * ((N + 1) * M.moves.length) ≤ 8000000
  fu : fuel ≤ 1000000
  sm : ∀ b ∈ bad, b.2.sum ≤ C
  cb : C + (fuel : Int) ≤ 1000000000
def spSrd (P : Program) (w : World) (K : PySem.W.Frag) (lv : Nat) : Sp := fun vs H Q _ => ∃ (bl : Addr) (v : V) (M : MT) (S N fuel : Nat) (bxs : List V) (bad : List Sn) (C : Int), vs = [v, .ref bl, .int (fuel : Int)] ∧ Dp K H v M.data ∧ SqL K H bl bxs ∧ DpAll K H bxs (bad.map sD) ∧ SrdPre lv S N M bad fuel C ∧
  (∀ H', Same H H' → ((∀ j, j < fuel → Mvd N M.moves bad j) ∨ ∃ j, j < fuel ∧ (∀ i, i < j → Mvd N M.moves bad i) ∧ ∀ L, LayR N M.moves bad j L → 2000 < L.length) → Q .non H') ∧
  ∀ H' r xs t ps, Same H H' → H r = none → H' r = some (.lst xs) → Paired (RowAt K (upd H r (.lst [])) H') xs ps → t < fuel → Chn N M.moves bad t ps → Stab N M.moves bad t → Q (.ref r) H'
set_option maxHeartbeats 4000000 in
theorem fd_searched {f CS CF : Addr} {fd : FuncData} {lv : Nat} (F : Fun K "searched" "searched" s_searched f fd) (mm : mg "searched" = some (.ref f)) (B : Bt mg) (TS : TxtS K mg CS) (I_Search : Mkr P w K mg base CS ["self", "machine", "bad"] (lv + 4) (spSInit P w K CS CF lv)) (M_is_too_long : Md P w K mg base CS "is_too_long" ["self"] 1 (spLong P w K CS CF)) (M_advance : Md P w K mg base CS "advance" ["self"] (lv + lv + 6) (spAdv P w K CS CF lv)) :
    Fd P w K mg base "searched" ["machine", "bad", "fuel"] (lv + lv + 7) (spSrd P w K lv) := by
  refine ⟨f, fd, F.ok sc_searched (fun vs H Q E h => ?_) (fun cdv A outer s H vs Q E hr h => ?_), mm, F.kp, F.binds (ps := ["machine", "bad", "fuel"]) fun _ _ _ _ _ _ us hl => match us, hl with | [_, _, _], _ => rfl⟩
  · obtain ⟨_, _, _, _, _, _, _, _, _, rfl, _⟩ := h
    rfl
  obtain ⟨bl, v, M, S, N, fuel, bxs, bad, C, rfl, hd, hbl, hbx, pr, q1, q2⟩ := h
  refine ⟨_, (pss_cons (ps_if (pt_cmpR op_lt (pv 2) pe_int (nomark _))
 (pss_one ps_never)
 pss_nil)
 (pss_cons (ps_set (i := 3) sc_searched.nd rfl (Or.inl rfl) (pe_mkr I_Search fun _ _ G mk b => pe_make mk G (hr.mono (by omega)) (by rfl) TS.mgC b .nil pass0 (pa_cons (pv 0) (pa_cons (pv 1) pa_nil))))
 (pss_cons (ps_set (i := 4) sc_searched.nd rfl (Or.inl rfl) (pe_lst (pa_cons (pe_tup (pa_cons (pe_fld (pv 3) rfl) (pa_cons (pe_fld (pv 3) rfl) pa_nil))) pa_nil)))
 (pss_cons (ps_for PassesOwn.never rfl (pi_range1 rfl B.range (pa_cons (pv 2) pa_nil)) (pg_name (i := 5) sc_searched.nd rfl (Or.inl rfl))
 (pss_cons (ps_if (pt_val (pe_md M_is_too_long fun _ _ G hm b => pe_meth0 (pv 3) TS.cl hm G (hr.mono (by omega)) b .nil pass0))
 (pss_one (ps_ret pe_non))
 pss_nil)
 (pss_cons (ps_if (pt_not (pt_val (pe_md M_advance fun _ _ G hm b => pe_meth0 (pv 3) TS.cl hm G (hr.mono (by omega)) b .nil pass0)))
 (pss_one (ps_ret (pv 4)))
 pss_nil)
 (pss_one (ps_expr (peBm K PySem.F.plainAttrs_list PySem.F.slot_list_append PySem.F.type_list_append mt_append (pv 4) (pa_cons (pe_tup (pa_cons (pe_fld (pv 3) rfl) (pa_cons (pe_fld (pv 3) rfl) pa_nil))) pa_nil)))))))
 (pss_one (ps_ret pe_non)))))), ?_⟩
  refine ⟨_, rfl, _, _, rfl, rfl, _, rfl, iteFx (decide_eq_false (by omega)) ?_⟩
  refine ⟨_, rfl, _, rfl, fun g gdx ng ngdx hne => ?_⟩
  have sA : Same H (upd (upd H gdx (.own g)) g (.ins CS gdx [])) := same_mk ng ngdx
  refine ⟨g, gdx, bl, v, M, N, bxs, bad, rfl, upd_same, dp_mono sA hd, pr.pl, pr.ml, sA.seq hbl, dpAll_mono sA hbx, pr.lb, pr.pre, pr.b2, fun H1 md la fa fo F0 L S1 mini asc f1 nf0 un0 nla nfa => ⟨rfl, ?_⟩⟩
  dsimp only [gName]
  obtain ⟨dx, es, hg, fld⟩ := S1.ob
  have s1 : Same H H1 := fun b o h => f1 b o (ne_of_none h ng) (sA b o h)
  have gH : H g = none := ng
  refine ⟨_, rfl, g, CS, dx, es, _, rfl, hg, TS.cl, TS.nL, fld.layer, _, rfl, g, CS, dx, es, _, rfl, hg, TS.cl, TS.nR, fld.fresh, szc 2, fun t nt => ⟨szc 1, fun r nr => ?_⟩⟩
  dsimp only [gName]
  have sT : Same H1 (upd H1 t (.tup [.ref la, .ref fa])) := same_new nt
  have eT : (upd H1 t (.tup [.ref la, .ref fa])) t = some (.tup [.ref la, .ref fa]) := upd_same
  generalize upd H1 t (.tup [.ref la, .ref fa]) = HT at sT eT nr ⊢
  have sR : Same HT (upd HT r (.lst [.ref t])) := same_new nr
  have eR : (upd HT r (.lst [.ref t])) r = some (.lst [.ref t]) := upd_same
  have nrH1 := sT.free nr
  have nrH : H r = none := s1.free nrH1
  have s12 := sT.trans sR
  have eT2 := sR _ _ eT
  generalize upd HT r (.lst [.ref t]) = H2 at sR eR s12 eT2 ⊢
  have s2 := s1.trans s12
  have Hbr : ∃ u, (upd H r (.lst [])) r = some u := ⟨_, upd_same⟩
  have Hbn : ∀ {a : Addr}, a ≠ r → H a = none → (upd H r (.lst [])) a = none := fun {a} h1 h2 => by rw [upd_ne h1]; exact h2
  have Hbof : ∀ {a : Addr}, (upd H r (.lst [])) a = none → H a = none := fun {a} h => by
    rw [upd_ne fun z => by rw [z, upd_same] at h; cases h] at h
    exact h
  have nerH1 : ∀ {a : Addr} {o : HO}, H1 a = some o → a ≠ r := fun {a o} h z => by rw [z, nrH1] at h; cases h
  obtain ⟨lxs, hla, fL⟩ := S1.lay
  obtain ⟨fxs, hfa, pZ⟩ := S1.fre
  have dom2 : ∀ a, H2 a = none → (upd H r (.lst [])) a = none := fun a ha => Hbn (fun z => by rw [z, eR] at ha; cases ha) (s2.free ha)
  have fL2 : FreshL (Nu (upd H r (.lst [])) H2) lxs L := fL.to fun _ t' c' h1 h2 =>
    ⟨nu_iff.mpr ⟨Hbn (nerH1 (nu_iff.mp h1).2) (sA.free (nu_iff.mp h1).1), s12 _ _ (nu_iff.mp h1).2⟩, nu_iff.mpr ⟨Hbn (nerH1 (nu_iff.mp h2).2) (sA.free (nu_iff.mp h2).1), s12 _ _ (nu_iff.mp h2).2⟩⟩
  have S2 : SrchAt P w K CS CF (upd H r (.lst [])) H2 g md la fa fo N (szF (L.map pk)) M.moves F0 L L := ⟨⟨dx, es, s12 _ _ hg, fld⟩, S1.mbt.mono s12, ⟨lxs, s12 _ _ hla, fL2⟩, ⟨fxs, s12 _ _ hfa, Paired.mapP pZ fun _ _ z => z.mono s12⟩, S1.flo.mono s12⟩
  have row0 : RowAt K (upd H r (.lst [])) H2 (.ref t) (L, L) := ⟨t, la, fa, lxs, fxs, rfl, Hbn (fun z => by rw [z, nr] at eT; cases eT) (s1.free nt), eT2, Hbn (nerH1 hla) (sA.free nla), s12 _ _ hla, fL2, Hbn (nerH1 hfa) (sA.free nfa), s12 _ _ hfa, Paired.mapP pZ fun _ _ z => z.mono s12⟩
  have lenL : Lens N L := fun z hz => pr.lb z (mini.sub z hz)
  have nnL : NonN L := fun z hz => pr.pre.1 z (mini.sub z hz)
  have ndL : L.Nodup := asc.imp fun h e => by rw [e, ltS_irr] at h; cases h
  have lay0 : LayR N M.moves bad 0 L := ⟨asc, lenL, nnL, fun z hz => ⟨z, mini.sub z hz, covS_refl z⟩, fun x hx ⟨b, hb, c⟩ => by
    obtain ⟨y, hy, c2⟩ := mini.cov b hb
    exact ⟨y, hy, covS_tr (hx.1.trans (pr.lb b hb).symm) ((pr.lb b hb).trans (lenL y hy).symm) c c2⟩, mini.anti⟩
  have L2 : L.length ≤ 2000 := by
    have h1 := nodup_len (S := bad) ndL fun x hx => mini.sub x hx
    have := pr.b2
    omega
  have chn0 : Chn N M.moves bad 0 [(L, L)] := by
    refine ⟨rfl, fun j p hp => ?_, fun p hp => ?_, fun j p hp => ?_, fun i hi => by omega, fun p hp => ?_, fun p hp => ?_⟩
    · cases j with
      | zero => rw [← Option.some.inj hp]; exact lay0
      | succ j => cases hp
    · rw [← Option.some.inj hp]
    · cases hp
    · rw [List.mem_singleton.mp hp]; exact L2
    · rw [List.mem_singleton.mp hp]; exact ndL
  have fitm : ∀ m ∈ M.moves, m.Fit S N := fun m hm => (pr.fit m hm).1
  refine ⟨_, rfl, fuel, rfl, by omega, by have := pr.fu; omega, for_range (lo := 0) (n := fuel) (fun j σ' H' => ∃ (y5 : Option V) (la fa fo : Addr) (n : Nat) (Fj : Tri) (Lj Zj : List Sn) (xs : List V) (ps : List (List Sn × List Sn)), σ' = [some v, some (.ref bl), some (.int (fuel : Int)), some (.ref g), some (.ref r), y5] ∧ SrchAt P w K CS CF (upd H r (.lst [])) H' g md la fa fo N n M.moves Fj Lj Zj ∧ Same (stb H1 md) H' ∧ Zj.Nodup ∧ H' r = some (.lst xs) ∧ Paired (RowAt K (upd H r (.lst [])) H') xs ps ∧
    (∀ b o, H b = some o → H' b = some o) ∧ (∀ a, H' a = none → (upd H r (.lst [])) a = none) ∧ (∀ q b, Fj q = some b → (upd H r (.lst [])) b = none) ∧ ps.length = j + 1 ∧ (Lj.length ≤ 2000 → LayI N M.moves bad j (Und Fj) Lj Zj ∧ Chn N M.moves bad j ps) ∧ (2000 < Lj.length → ∀ L, LayR N M.moves bad j L → 2000 < L.length) ∧ (∀ i, i < j → Mvd N M.moves bad i) ∧
    (∀ z ∈ Lj, z.2.sum ≤ C + (j : Int)) ∧ n ≤ Lj.length * (2 * N + 1)) ?_ ?_ ?_⟩
  · refine ⟨none, la, fa, fo, szF (L.map pk), F0, L, L, [.ref t], [(L, L)], rfl, S2, fun a o h => s12 _ _ (stb_iff.mp h).1, ndL, eR, .cons row0 .nil, fun b o h => s2 b o h, dom2, fun q b hb => ?_, rfl, fun _ => ⟨⟨lay0, fun z hz => hz, fun y hy => .inl hy, un0⟩, chn0⟩, fun h => by omega, fun i hi => by omega, fun z hz => ?_, szF_pk lenL⟩
    · refine Hbn (fun z => ?_) (sA.free (nf0 q b hb))
      obtain ⟨kvs, e1, _⟩ := S1.flo.tri q b List.nil_prefix hb
      exact nerH1 e1 z
    · have := pr.sm z (mini.sub z hz)
      omega
  · rintro j σ' H' hj ⟨y5, la, fa, fo, n, Fj, Lj, Zj, xs, ps, rfl, Sj, sst, ndZ, er, rows, sm, dom, hF, psl, good, big, mv, sums, hn⟩
    obtain ⟨dxj, esj, hgj, fldj⟩ := Sj.ob
    have Fno : ∀ {a : Addr} {o : HO}, H' a = some o → (∀ kvs, o ≠ .dK kvs) → ∀ q, Fj q ≠ some a := fun {a o} h no q z => by
      obtain ⟨kvs, e1, _⟩ := Sj.flo.tri q a List.nil_prefix z
      rw [h] at e1
      cases e1
      exact no _ rfl
    have gr : g ≠ r := fun z => by rw [z, er] at hgj; cases hgj
    refine ⟨_, rfl, g, dxj, esj, rfl, hgj, fldj.no _ (by decide +kernel) (by decide +kernel) (by decide +kernel) (by decide +kernel) (by decide +kernel), ?_⟩
    refine ⟨_, g, md, la, fa, fo, N, n, M.moves, Fj, Lj, Zj, rfl, Sj, _, rfl, ?_⟩
    by_cases c : 2000 < Lj.length
    · refine iteTx (decide_eq_true c) ?_
      exact q1 H' sm (.inr ⟨j, hj, mv, big c⟩)
    · refine iteFx (decide_eq_false c) ?_
      obtain ⟨li, chn⟩ := good (by omega)
      refine ⟨_, rfl, g, dxj, esj, rfl, hgj, fldj.no _ (by decide +kernel) (by decide +kernel) (by decide +kernel) (by decide +kernel) (by decide +kernel), ?_⟩
      refine ⟨_, g, md, la, fa, fo, S, N, n, M.moves, Fj, Lj, Zj, bad, j, rfl, Sj, li, ndZ, dom, hF, pr.fit, pr.lb, by omega, fun y hy c hc => ?_, pr.pre.2.2.1, pr.pre.2.2.2.1, pr.sz, hn, fun H3 fr3 stb => ⟨_, rfl, ?_⟩, fun H3 la3 fa3 fo3 n3 F3 L3 Z3 fr3 S3 A3 ndZ3 nw3 nla3 nfa3 => ⟨_, rfl, ?_⟩⟩
      · have h1 := le_sumL (li.lay.nn y hy) c hc
        have h2 := sums y hy
        have h3 := pr.cb
        omega
      · refine iteTx rfl ?_
        have sm3 : Same H H3 := fun b o h => fr3 b o (sm b o h) (fun z => by rw [z, gH] at h; cases h) fun q z => by
          have := Hbof (hF q b z)
          rw [h] at this
          cases this
        have q3 : SameQ H' H3 := fun b o h no => fr3 b o h (fun z => by rw [z, hgj] at h; cases h; exact no trivial) fun q z => by
          obtain ⟨kvs, e1, _⟩ := Sj.flo.tri q b List.nil_prefix z
          rw [h] at e1
          cases e1
          exact no trivial
        exact ⟨_, rfl, q2 H3 r xs j ps sm3 nrH (q3 _ _ er (fun z => z)) (Paired.mapP rows fun _ _ z => z.q q3) hj chn stb⟩
      · refine iteFx rfl ?_
        have sm3 : Same H H3 := fun b o h => fr3 b o (sm b o h) (fun z => by rw [z, gH] at h; cases h) fun q z => by
          have := Hbof (hF q b z)
          rw [h] at this
          cases this
        have q3 : SameQ H' H3 := fun b o h no => fr3 b o h (fun z => by rw [z, hgj] at h; cases h; exact no trivial) fun q z => by
          obtain ⟨kvs, e1, _⟩ := Sj.flo.tri q b List.nil_prefix z
          rw [h] at e1
          cases e1
          exact no trivial
        have er3 := q3 _ _ er (fun z => z)
        obtain ⟨dx3, es3, hg3, fld3⟩ := S3.ob
        obtain ⟨lx3, hla3, fL3⟩ := S3.lay
        obtain ⟨fx3, hfa3, pZ3⟩ := S3.fre
        have hbn : ∀ {a : Addr}, ((∃ q, Fj q = some a) ∨ H' a = none) → (upd H r (.lst [])) a = none := fun {a} h => by
          rcases h with ⟨q, h⟩ | h
          · exact hF q a h
          · exact dom a h
        have dom3 : ∀ a, H3 a = none → (upd H r (.lst [])) a = none := fun a ha => by
          refine hbn ?_
          by_cases c : ∃ q, Fj q = some a
          · exact .inl c
          · refine .inr ?_
            cases e : H' a with
            | none => rfl
            | some o =>
              by_cases cg : a = g
              · rw [cg, hg3] at ha; cases ha
              · rw [fr3 a o e cg fun q z => c ⟨q, z⟩] at ha; cases ha
        have hla3n := hbn nla3
        have hfa3n := hbn (.inr nfa3)
        have ner : ∀ {a : Addr}, (upd H r (.lst [])) a = none → a ≠ r := fun {a} h z => by rw [z, upd_same] at h; cases h
        have xsl := Paired.length rows
        refine ⟨_, rfl, .inl ⟨rfl, _, sq er3⟩, _, rfl, g, CS, dx3, es3, _, rfl, hg3, TS.cl, TS.nL, fld3.layer, _, rfl, g, CS, dx3, es3, _, rfl, hg3, TS.cl, TS.nR, fld3.fresh, szc 2, fun t3 nt3 => ?_⟩
        have s4 : Same H3 (upd H3 t3 (.tup [.ref la3, .ref fa3])) := same_new nt3
        have et4 : (upd H3 t3 (.tup [.ref la3, .ref fa3])) t3 = some (.tup [.ref la3, .ref fa3]) := upd_same
        have t3n := dom3 t3 nt3
        generalize upd H3 t3 (.tup [.ref la3, .ref fa3]) = H4 at s4 et4 ⊢
        have er4 := s4 _ _ er3
        have rows4 := Paired.mapP rows fun _ _ z => z.q (SameQ.trans q3 (Same.q s4))
        have row4 : RowAt K (upd H r (.lst [])) H4 (.ref t3) (L3, Z3) := ⟨t3, la3, fa3, lx3, fx3, rfl, t3n, et4, hla3n, s4 _ _ hla3, fL3.mono (nu_same s4), hfa3n, s4 _ _ hfa3, Paired.mapP pZ3 fun _ _ z => z.mono s4⟩
        have fr5 : ∀ b o, b ≠ r → H4 b = some o → (upd H4 r (.lst (xs ++ [.ref t3]))) b = some o := fun b o h1 h2 => by rw [upd_ne h1]; exact h2
        refine ⟨r, xs, .ref t3, rfl, rfl, er4, szn (m := 1000001) (by have := pr.fu; omega) (by omega), ?_⟩
        have sst5 : Same (stb H1 md) (upd H4 r (.lst (xs ++ [.ref t3]))) := fun a o h => by
          obtain ⟨h1, h2⟩ := stb_iff.mp h
          have h3 := sst a o h
          have nodK : ∀ kvs, o ≠ .dK kvs := fun kvs z => by
            rcases h2 with h2 | h2
            · rw [z] at h2; exact h2 trivial
            · obtain ⟨mks, hm1, _⟩ := S1.mbt
              rw [h2, hm1] at h1
              cases h1
              cases z
          refine fr5 a o (nerH1 h1) (s4 _ _ (fr3 a o h3 (fun z => ?_) (Fno h3 nodK)))
          rw [z, hgj] at h3
          cases h3
          rcases h2 with h2 | h2
          · exact h2 trivial
          · obtain ⟨mks, hm1, _⟩ := S1.mbt
            rw [← h2, z, hg] at hm1
            cases hm1
        refine ⟨_, la3, fa3, fo3, n3, F3, L3, Z3, xs ++ [.ref t3], ps ++ [(L3, Z3)], rfl, ⟨⟨dx3, es3, fr5 _ _ gr (s4 _ _ hg3), fld3⟩, ?_, ⟨lx3, fr5 _ _ (ner hla3n) (s4 _ _ hla3), (fL3.mono (nu_same s4)).putL er4 Hbr⟩, ⟨fx3, fr5 _ _ (ner hfa3n) (s4 _ _ hfa3), pk_put er4 (Paired.mapP pZ3 fun _ _ z => z.mono s4)⟩, (S3.flo.mono s4).put er4 (fun _ _ _ z => by cases z) (fun _ z => by cases z)⟩, sst5, ndZ3, upd_same, ?_, fun b o h => fr5 b o (ne_of_none h nrH) (s4 _ _ (sm3 _ _ h)), fun a ha => ?_, fun q b hb => hbn (nw3 q b hb), by rw [List.length_append, psl]; rfl, fun hl => ?_, fun hl L4 h4 => ?_, fun i hi => ?_, fun z hz => ?_, A3.sz⟩
        · exact S1.mbt.stb.mono sst5
        · exact paired_snoc (R := RowAt K (upd H r (.lst [])) (upd H4 r (.lst (xs ++ [.ref t3])))) (row4.put er4 Hbr) (Paired.mapP rows4 fun _ _ z => z.put er4 Hbr)
        · by_cases e : a = r
          · rw [e, upd_same] at ha; cases ha
          · rw [upd_ne e] at ha
            exact dom3 a (s4.free ha)
        · have zl := A3.len.1
          have g3 := A3.good (by omega)
          exact ⟨g3, chn.snoc g3.lay A3.zz A3.moved hl ndZ3⟩
        · by_cases e : 2000 < Z3.length
          · exact A3.big e L4 h4
          · rw [← (A3.good (by omega)).lay.uniq h4]
            exact hl
        · by_cases e : i < j
          · exact mv i e
          · obtain rfl : i = j := by omega
            exact A3.moved
        · rcases A3.sm z hz with h | ⟨y, hy, h⟩
          · have := sums z h
            omega
          · have := sums y hy
            omega
  · rintro σ' H' ⟨y5, la, fa, fo, n, Fj, Lj, Zj, xs, ps, rfl, Sj, sst, ndZ, er, rows, sm, dom, hF, psl, good, big, mv, sums, hn⟩
    exact q1 H' sm (.inl mv)
end
section
variable {P : Program} {w : World} {K : PySem.W.Frag} {mg : Str → Option Value} {base : Heap}
end
section
variable {P : Program} {w : World} {K : PySem.W.Frag} {mg : Str → Option Value} {base : Heap}
abbrev s_move_at : Stmt := topS 15
theorem sc_move_at : FnScope ["machine", "index"] ["machine", "index"] (defScope s_move_at) := ⟨rfl, rfl, rfl, by decide +kernel, rfl, by decide +kernel, by decide +kernel⟩
-- move_at slots: machine=0 index=1 globals: len OutOfRange
def spMvAt (K : PySem.W.Frag) : Sp := fun vs H Q _ => ∃ (v : V) (M : MT) (i : Nat) (m : MvT), vs = [v, nV i] ∧ Dp K H v M.data ∧ M.moves[i]? = some m ∧ ∀ x, Dp K H x m.data → Q x H
theorem fd_move_at {f : Addr} {fd : FuncData} (F : Fun K "move_at" "move_at" s_move_at f fd) (m : mg "move_at" = some (.ref f)) (B : Bt mg) : Fd P w K mg base "move_at" ["machine", "index"] 1 (spMvAt K) := by
  refine ⟨f, fd, F.ok sc_move_at (fun vs H Q E h => ?_) (fun cdv A outer s H vs Q E hr h => ?_), m, F.kp, F.binds (ps := ["machine", "index"]) fun _ _ _ _ _ _ us hl => match us, hl with | [_, _], _ => rfl⟩
  · obtain ⟨v, M, i, m, rfl, _⟩ := h
    rfl
  obtain ⟨v, M, i, mv, rfl, hd, hm, q⟩ := h
  obtain ⟨a, sv, ma, xs, rfl, ha, _, hma, hxs⟩ := dp_mt hd
  obtain ⟨x, hx, dx⟩ := dpa_map_at' hxs hm
  have hi : i < xs.length := (List.getElem?_eq_some_iff.mp hx).1
  refine ⟨_, (pss_cons (ps_if (pt_not (pt_chain op_le op_lt pe_int (pv 1) (pe_callB (cLen K) (by rfl) B.len PySem.boot_len (pa_cons (pe_ix (ixT K) (pv 0) pe_int (fun _ _ => rfl)) pa_nil))))
 (pss_one ps_never)
 pss_nil)
 (pss_one (ps_ret (pe_ix (ixL K) (pe_ix (ixT K) (pv 0) pe_int (fun _ _ => rfl)) (pv 1) (fun _ _ => rfl))))), ?_⟩
  refine ⟨_, rfl, _, _, rfl, rfl, _, rfl, ?_⟩
  rw [if_pos (decide_eq_true (show (0 : Int) ≤ (i : Int) by omega))]
  refine ⟨_, rfl, _, _, _, _, rfl, rfl, ha, atI_nat (j := 4) rfl, ma, _, rfl, .inl hma, _, _, rfl, rfl, _, rfl, ?_⟩
  rw [decide_eq_true (show (i : Int) < (xs.length : Int) by omega)]
  refine iteF ?_
  exact ⟨_, rfl, _, _, _, _, rfl, rfl, ha, atI_nat (j := 4) rfl, _, rfl, _, _, _, _, rfl, rfl, hma, atI_nat hx, q _ dx⟩
abbrev s_can_take : Stmt := topS 16
theorem sc_can_take : FnScope ["situation", "move"] ["situation", "move"] (defScope s_can_take) := ⟨rfl, rfl, rfl, by decide +kernel, rfl, by decide +kernel, by decide +kernel⟩
-- can_take slots: situation=0 move=1 globals: 
def spCan (K : PySem.W.Frag) : Sp := fun vs H Q _ => ∃ (x y : V) (s : Int) (cs : List Int) (m : MvT), vs = [x, y] ∧ Sit K H x s cs ∧ Dp K H y m.data ∧ m.pl < cs.length ∧ Q (.bl (m.can s cs)) H
theorem fd_can_take {f : Addr} {fd : FuncData} (F : Fun K "can_take" "can_take" s_can_take f fd) (m : mg "can_take" = some (.ref f)) (B : Bt mg) : Fd P w K mg base "can_take" ["situation", "move"] 1 (spCan K) := by
  refine ⟨f, fd, F.ok sc_can_take (fun vs H Q E h => ?_) (fun cdv A outer s H vs Q E hr h => ?_), m, F.kp, F.binds (ps := ["situation", "move"]) fun _ _ _ _ _ _ us hl => match us, hl with | [_, _], _ => rfl⟩
  · obtain ⟨x, y, s, cs, m, rfl, _⟩ := h
    rfl
  obtain ⟨x, y, s, cs, mv, rfl, ⟨a, ca, rfl, ha, hca⟩, hd, hp, q⟩ := h
  obtain ⟨b, sa, xs, rfl, hb, _⟩ := dp_mv hd
  refine ⟨_, (pss_one (ps_ret (pe_and (pe_cmpR op_eq (pe_ix (ixT K) (pv 1) pe_int (fun _ _ => rfl)) (pe_ix (ixT K) (pv 0) pe_int (fun _ _ => rfl)) (nomark _)) (pe_one (pe_cmpR op_gt (pe_ix (ixL K) (pe_ix (ixT K) (pv 0) pe_int (fun _ _ => rfl)) (pe_ix (ixT K) (pv 1) pe_int (fun _ _ => rfl)) (fun _ _ => rfl)) pe_int (nomark _)))))), ?_⟩
  refine ⟨_, rfl, _, _, _, _, rfl, rfl, hb, atI_nat (j := 0) rfl, _, rfl, _, _, _, _, rfl, rfl, ha, atI_nat (j := 0) rfl, rfl, _, rfl, ?_⟩
  have e1 : decide (V.int (mv.st : Int) = V.int s) = decide ((mv.st : Int) = s) := by
    by_cases h : (mv.st : Int) = s
    · rw [decide_eq_true h, h, decide_eq_true rfl]
    · rw [decide_eq_false h, decide_eq_false fun z => h (by cases z; rfl)]
  rw [e1]
  unfold MvT.can at q
  refine ite2 (fun e => ?_) (fun e => ?_)
  · rw [e, Bool.true_and] at q
    exact ⟨_, rfl, _, _, _, _, rfl, rfl, ha, atI_nat (j := 1) rfl, _, rfl, _, _, _, _, rfl, rfl, hb, atI_nat (j := 1) rfl, _, _, _, _, rfl, rfl, hca, at_gd rfl hp, _, _, rfl, rfl, q⟩
  · have e2 : decide ((mv.st : Int) = s) = false := by
      cases h : decide ((mv.st : Int) = s) with
      | true => exact absurd h e
      | false => rfl
    rw [e2, Bool.false_and] at q
    exact q
theorem set_int (cs : List Int) (k : Nat) (z : Int) : (cs.map V.int).set k (.int z) = (cs.set k z).map V.int := List.map_set.symm
/-- the situation after a move -/
def NewSit (H H' : Hp) (p : Addr) (s : Int) (cs : List Int) : Prop := ∃ ca, H p = none ∧ H ca = none ∧ ca ≠ p ∧ H' p = some (.tup [.int s, .ref ca]) ∧ H' ca = some (.lst (cs.map V.int))
theorem NewSit.sit {H H' : Hp} {p : Addr} {s : Int} {cs : List Int} (h : NewSit H H' p s cs) : Sit K H' (.ref p) s cs := by
  obtain ⟨ca, _, _, _, h1, h2⟩ := h
  exact ⟨p, ca, rfl, st h1, sq h2⟩
abbrev s_after : Stmt := topS 13
theorem sc_after : FnScope ["machine", "situation", "move", "taken", "_", "place", "next_state", "next_place", "started", "shifts", "counts", "first", "second"] ["machine", "situation", "move"] (defScope s_after) := ⟨rfl, rfl, rfl, by decide +kernel, rfl, by decide +kernel, by decide +kernel⟩
-- after slots: machine=0 situation=1 move=2 taken=3 _=4 place=5 next_state=6 next_place=7 started=8 shifts=9 counts=10 first=11 second=12 globals: move_at can_take NotPossible list
def spAft (K : PySem.W.Frag) : Sp := fun vs H Q _ => ∃ (v x : V) (M : MT) (i : Nat) (m : MvT) (s : Int) (cs : List Int), vs = [v, x, nV i] ∧ Dp K H v M.data ∧ Sit K H x s cs ∧ M.moves[i]? = some m ∧ m.can s cs = true ∧ m.Fit M.states cs.length ∧
  ∀ H' p, Same H H' → NewSit H H' p m.ns (m.aft cs) → Q (.ref p) H'
theorem fd_after {f : Addr} {fd : FuncData} (F : Fun K "after" "after" s_after f fd) (m : mg "after" = some (.ref f)) (B : Bt mg) (D_move_at : Fd P w K mg base "move_at" ["machine", "index"] 1 (spMvAt K)) (D_can_take : Fd P w K mg base "can_take" ["situation", "move"] 1 (spCan K)) : Fd P w K mg base "after" ["machine", "situation", "move"] 2 (spAft K) := by
  refine ⟨f, fd, F.ok sc_after (fun vs H Q E h => ?_) (fun cdv A outer s H vs Q E hr h => ?_), m, F.kp, F.binds (ps := ["machine", "situation", "move"]) fun _ _ _ _ _ _ us hl => match us, hl with | [_, _, _], _ => rfl⟩
  · obtain ⟨v, x, M, i, m, s, cs, rfl, _⟩ := h
    rfl
  obtain ⟨v, x, M, i, mv, s, cs, rfl, hd, hx, hm, hcan, hf, q⟩ := h
  refine ⟨_, (pss_cons (ps_set (i := 3) sc_after.nd rfl (Or.inl rfl) (pe_fn D_move_at (hr.mono (by decide)) rfl (pa_cons (pv 0) (pa_cons (pv 2) pa_nil))))
 (pss_cons (ps_if (pt_not (pt_val (pe_fn D_can_take (hr.mono (by decide)) rfl (pa_cons (pv 1) (pa_cons (pv 3) pa_nil)))))
 (pss_one ps_never)
 pss_nil)
 (pss_cons (ps_asg (pv 3) (pg_tup rfl (pgs_cons (pg_name (i := 4) sc_after.nd rfl (Or.inl rfl)) (pgs_cons (pg_name (i := 5) sc_after.nd rfl (Or.inl rfl)) (pgs_cons (pg_name (i := 6) sc_after.nd rfl (Or.inl rfl)) (pgs_cons (pg_name (i := 7) sc_after.nd rfl (Or.inl rfl)) (pgs_cons (pg_name (i := 8) sc_after.nd rfl (Or.inl rfl)) (pgs_cons (pg_name (i := 9) sc_after.nd rfl (Or.inl rfl)) pgs_nil))))))))
 (pss_cons (ps_set (i := 10) sc_after.nd rfl (Or.inl rfl) (pe_callTy (cList K) (by rfl) B.list (by decide +kernel) (pa_cons (pe_ix (ixT K) (pv 1) pe_int (fun _ _ => rfl)) pa_nil)))
 (pss_cons (ps_augS (pv 10) (pv 5) (getL K) pe_int ip_sub set_list)
 (pss_cons (ps_for PassesOwn.never rfl (piL K (pv 9)) (pg_tup rfl (pgs_cons (pg_name (i := 11) sc_after.nd rfl (Or.inl rfl)) (pgs_cons (pg_name (i := 12) sc_after.nd rfl (Or.inl rfl)) pgs_nil)))
 (pss_cons (ps_augS (pv 10) (pv 12) (getL K) (pe_ix (ixL K) (pv 10) (pv 11) (fun _ _ => rfl)) ip_add set_list)
 (pss_one (ps_asg pe_int (pg_sub (pv 10) (pv 11) set_list)))))
 (pss_cons (ps_augS (pv 10) (pv 7) (getL K) pe_int ip_add set_list)
 (C8.pss_cut (ps_if (pt_cmpR op_notN (pv 8) pe_non (nomark _))
 (pss_one (ps_augS (pv 10) (pv 8) (getL K) pe_int ip_add set_list))
 pss_nil)
 (pss_one (ps_ret (pe_tup (pa_cons (pv 6) (pa_cons (pv 10) pa_nil))))))))))))), ?_⟩
  refine ⟨_, rfl, _, rfl, v, M, i, mv, rfl, hd, hm, fun y dy => ?_⟩
  dsimp only [gName]
  refine ⟨_, rfl, _, rfl, _, _, s, cs, mv, rfl, hx, dy, hf.pl, _, rfl, ?_⟩
  rw [hcan]
  refine iteF ?_
  obtain ⟨b, sa, xs, rfl, hb, hsa, hxs⟩ := dp_mv dy
  obtain ⟨a, ca, rfl, ha, hca⟩ := hx
  refine ⟨_, rfl, b, _, rfl, hb, rfl, _, _, rfl, _, _, rfl, _, _, rfl, _, _, rfl, _, _, rfl, _, _, rfl, rfl, ?_⟩
  dsimp only [gName]
  refine ⟨_, rfl, _, _, _, _, rfl, rfl, ha, atI_nat (j := 1) rfl, ca, _, rfl, .inl hca, fun l nl => ?_⟩
  dsimp only [gName]
  refine ⟨_, rfl, _, rfl, _, _, _, _, rfl, rfl, (show (0 : Int) ≤ (mv.pl : Int) by omega), sq upd_same, at_gd rfl hf.pl, _, _, rfl, rfl, _, _, _, _, rfl, rfl, upd_same, ixN_nat (by rw [List.length_map]; exact hf.pl), ?_⟩
  rw [set_int]
  have xl := dpa_map_len hxs
  refine ⟨_, rfl, sa, rfl, ⟨_, (Same.mut (same_new nl) nl).seq hsa⟩, for_list (xs := xs) (fun j σ' H' => ∃ y11 y12 : Option V, σ' = [some v, some (.ref a), some (nV i), some (.ref b), some (nV mv.st), some (nV mv.pl), some (nV mv.ns), some (nV mv.np), some (sdV mv.sd), some (.ref sa), some (.ref l), y11, y12] ∧ Same H H' ∧ H' l = some (.lst ((shiftAll (mv.sh.take j) (bump cs mv.pl (-1))).map V.int))) ⟨none, none, rfl, Same.mut (same_new nl) nl, by rw [upd_same]; rfl⟩ ?_ ?_ ?_⟩
  · rintro j σ' H' _ ⟨y11, y12, rfl, sm, _⟩
    exact sm.seq hsa
  · rintro j x σ' H' hx ⟨y11, y12, rfl, sm, el⟩
    obtain ⟨p, hp, dx⟩ := dpa_map_at hxs hx
    obtain ⟨t, rfl, ht⟩ := dp_sh dx
    have p1 := hf.sh.fst p (List.mem_of_getElem? hp)
    have p2 := hf.sh.snd p (List.mem_of_getElem? hp)
    have ln : (shiftAll (mv.sh.take j) (bump cs mv.pl (-1))).length = cs.length := by rw [shiftAll_len, bump_len]
    rw [take_snoc hp, shiftAll_snoc]
    generalize shiftAll (mv.sh.take j) (bump cs mv.pl (-1)) = c1 at el ln ⊢
    refine ⟨t, _, rfl, Same.seqT sm ht, rfl, _, _, rfl, _, _, rfl, rfl, ?_⟩
    dsimp only [gName]
    refine ⟨_, rfl, _, rfl, _, _, _, _, rfl, rfl, (show (0 : Int) ≤ (p.2 : Int) by omega), sq el, at_gd rfl (by omega), _, rfl, _, rfl, _, _, _, _, rfl, rfl, sq el, at_gd rfl (by omega), _, _, rfl, rfl, _, _, _, _, rfl, rfl, el, ixN_nat (by rw [List.length_map]; omega), ?_⟩
    rw [set_int]
    refine ⟨_, rfl, _, rfl, l, _, _, _, rfl, rfl, upd_same, ixN_nat (by rw [List.length_map, List.length_set]; omega), ?_⟩
    rw [set_int]
    exact ⟨_, _, rfl, Same.mut (Same.mut sm nl) nl, upd_same⟩
  · rintro σ' H' ⟨y11, y12, rfl, sm, el⟩
    rw [List.take_of_length_le (by omega)] at el
    have ln : (mv.mid cs).length = cs.length := mid_len mv cs
    change H' l = some (.lst ((mv.mid cs).map V.int)) at el
    refine ⟨_, rfl, _, rfl, _, _, _, _, rfl, rfl, (show (0 : Int) ≤ (mv.np : Int) by omega), sq el, at_gd rfl (by rw [ln]; exact hf.np), _, _, rfl, rfl, _, _, _, _, rfl, rfl, el, ixN_nat (by rw [List.length_map, ln]; exact hf.np), ?_⟩
    rw [set_int]
    refine ⟨fun σ' H' => σ' = [some v, some (.ref a), some (nV i), some (.ref b), some (nV mv.st), some (nV mv.pl), some (nV mv.ns), some (nV mv.np), some (sdV mv.sd), some (.ref sa), some (.ref l), y11, y12] ∧ Same H H' ∧ H' l = some (.lst ((mv.aft cs).map V.int)), ?_, ?_⟩
    · refine ⟨_, rfl, rfl, _, rfl, ?_⟩
      have hsd := hf.sd
      unfold MvT.aft
      cases esd : mv.sd with
      | none => exact iteF ⟨rfl, Same.mut sm nl, upd_same⟩
      | some d =>
        have hd := hsd d esd
        refine iteT ?_
        refine ⟨_, rfl, _, rfl, _, _, _, _, rfl, rfl, (show (0 : Int) ≤ (d : Int) by omega), sq upd_same, at_gd rfl (by rw [List.length_set, ln]; exact hd), _, _, rfl, rfl, _, _, _, _, rfl, rfl, upd_same, ixN_nat (by rw [List.length_map, List.length_set, ln]; exact hd), ?_⟩
        rw [set_int]
        exact ⟨rfl, Same.mut (Same.mut sm nl) nl, upd_same⟩
    · rintro σ' H2 ⟨rfl, sm2, el2⟩
      refine ⟨_, rfl, _, rfl, szc 2, fun p np => ?_⟩
      have pl : p ≠ l := fun e => by rw [e, el2] at np; cases np
      exact q _ p (sm2.trans (same_new np)) ⟨l, sm2.free np, nl, Ne.symm pl, upd_same, by rw [upd_ne (Ne.symm pl)]; exact el2⟩
def spIsPos (K : PySem.W.Frag) : Sp := fun vs H Q _ => ∃ (v x : V) (M : MT) (i : Nat) (m : MvT) (s : Int) (cs : List Int), vs = [v, x, nV i] ∧ Dp K H v M.data ∧ Sit K H x s cs ∧ M.moves[i]? = some m ∧ m.pl < cs.length ∧ Q (.bl (m.can s cs)) H
def spStart (K : PySem.W.Frag) : Sp := fun vs H Q _ => ∃ (v : V) (M : MT) (n : Int), vs = [v, .int n] ∧ Dp K H v M.data ∧ 0 ≤ n ∧ M.crew < M.cnts.length ∧ ∀ H' p, Same H H' → NewSit H H' p M.sst (bump M.cnts M.crew n) → Q (.ref p) H'
abbrev s_start_with : Stmt := topS 12
theorem sc_start_with : FnScope ["machine", "crew", "state", "counts", "threads"] ["machine", "crew"] (defScope s_start_with) := ⟨rfl, rfl, rfl, by decide +kernel, rfl, by decide +kernel, by decide +kernel⟩
-- start_with slots: machine=0 crew=1 state=2 counts=3 threads=4 globals: OutOfRange list
theorem fd_start_with {f : Addr} {fd : FuncData} (F : Fun K "start_with" "start_with" s_start_with f fd) (m : mg "start_with" = some (.ref f)) (B : Bt mg) : Fd P w K mg base "start_with" ["machine", "crew"] 1 (spStart K) := by
  refine ⟨f, fd, F.ok sc_start_with (fun vs H Q E h => ?_) (fun cdv A outer s H vs Q E hr h => ?_), m, F.kp, F.binds (ps := ["machine", "crew"]) fun _ _ _ _ _ _ us hl => match us, hl with | [_, _], _ => rfl⟩
  · obtain ⟨v, M, n, rfl, _⟩ := h
    rfl
  obtain ⟨v, M, n, rfl, hd, hn, hc, q⟩ := h
  obtain ⟨a, sv, ma, xs, rfl, ha, ⟨b, ca, rfl, hb, hca⟩, _, _⟩ := dp_mt hd
  refine ⟨_, (pss_cons (ps_if (pt_cmpR op_lt (pv 1) pe_int (nomark _))
 (pss_one ps_never)
 pss_nil)
 (pss_cons (ps_asg (pe_ix (ixT K) (pv 0) pe_int (fun _ _ => rfl)) (pg_tup rfl (pgs_cons (pg_name (i := 2) sc_start_with.nd rfl (Or.inl rfl)) (pgs_cons (pg_name (i := 3) sc_start_with.nd rfl (Or.inl rfl)) pgs_nil))))
 (pss_cons (ps_set (i := 4) sc_start_with.nd rfl (Or.inl rfl) (pe_callTy (cList K) (by rfl) B.list (by decide +kernel) (pa_cons (pv 3) pa_nil)))
 (pss_cons (ps_augS (pv 4) (pe_ix (ixT K) (pv 0) pe_int (fun _ _ => rfl)) (getL K) (pv 1) ip_add set_list)
 (pss_one (ps_ret (pe_tup (pa_cons (pv 2) (pa_cons (pv 4) pa_nil))))))))), ?_⟩
  refine ⟨_, rfl, _, _, rfl, rfl, _, rfl, ?_⟩
  rw [decide_eq_false (show ¬ n < 0 by omega)]
  refine iteF ?_
  refine ⟨_, rfl, _, _, _, _, rfl, rfl, ha, atI_nat (j := 2) rfl, b, _, rfl, hb, rfl, _, _, rfl, _, _, rfl, rfl, ?_⟩
  dsimp only [gName]
  refine ⟨_, rfl, ca, _, rfl, .inl hca, fun l nl => ?_⟩
  dsimp only [gName]
  refine ⟨_, rfl, _, rfl, _, _, _, _, rfl, rfl, Same.seqT (same_new nl) ha, atI_nat (j := 3) rfl, _, _, _, _, rfl, rfl, (show (0 : Int) ≤ (M.crew : Int) by omega), sq upd_same, at_gd rfl hc, _, rfl, _, _, rfl, rfl, _, _, _, _, rfl, rfl, upd_same, ixN_nat (by rw [List.length_map]; exact hc), ?_⟩
  rw [set_int]
  refine ⟨_, rfl, _, rfl, szc 2, fun p np => ?_⟩
  have pl : p ≠ l := fun e => by rw [e, upd_same] at np; cases np
  exact q _ p ((Same.mut (same_new nl) nl).trans (same_new np)) ⟨l, (Same.mut (same_new nl) nl).free np, nl, Ne.symm pl, upd_same, by rw [upd_ne (Ne.symm pl), upd_same]; rfl⟩
end
/-! ### exceptions of the program's own -/
/-- what the written part says of an exception's class -/
structure ExcX (K : PySem.W.Frag) (mg : Str → Option Value) (x : Str) (C : Addr) : Prop where
  gC : mg x = some (.ref C)
  exc : PySem.W.excIn K C [.type "ValueError", .type "Exception", .type "BaseException", .type "object"] "ValueError.__new__" = true
  kC : PySem.W.keepIn K (.ref C) = true
  ty : PySem.W.typeIn K (.ref C) = some (.type "type")
  ic : PySem.W.isClsIn K C = true
  self : PySem.W.subIn K (.ref C) (.ref C) = some true
  val : PySem.W.subIn K (.ref C) (.type "ValueError") = some true
  is : ExcC K C
theorem ExcX.sub {K : PySem.W.Frag} {mg : Str → Option Value} {x : Str} {C : Addr} (h : ExcX K mg x C) : PySem.W.subIn K (.ref C) (.type "BaseException") = some true := h.is.hs
theorem kit_ref {K : PySem.W.Frag} {C D : Addr} {b : Bool} (hi : PySem.W.isClsIn K D = true) (ht : PySem.W.typeIn K (.ref D) = some (.type "type")) (hne : C ≠ D) (hs : PySem.W.subIn K (.ref C) (.ref D) = some b) : PySem.W.kitOne K (.ref C) (.ref D) = some b := by
  have e0 : ¬ ((Value.ref C == Value.ref D) = true) := fun z => hne (by cases (beq_iff_eq.mp z); rfl)
  have e2 : ((PySem.W.clsIn K D).isSome && PySem.W.typeIn K (.ref D) == some (.type "type")) = true := by
    have h2' : (PySem.W.clsIn K D).isSome = true := hi
    rw [h2', ht] <;> rfl
  show (if (Value.ref C == Value.ref D) = true then some true else if ((PySem.W.clsIn K D).isSome && PySem.W.typeIn K (.ref D) == some (.type "type")) = true then PySem.W.subIn K (.ref C) (.ref D) else none) = some b
  rw [if_neg e0, if_pos e2]
  exact hs
theorem kit_val {K : PySem.W.Frag} {C : Addr} (hs : PySem.W.subIn K (.ref C) (.type "ValueError") = some true) : PySem.W.kitOne K (.ref C) (.type "ValueError") = some true := by
  show (if (Value.ref C == Value.type "ValueError") = true then some true else if PySem.W.kitMeta "ValueError" = true then PySem.W.subIn K (.ref C) (.type "ValueError") else none) = some true
  rw [if_neg (by intro z; cases (beq_iff_eq.mp z)), if_pos (by decide +kernel)]
  exact hs
theorem exm_own {K : PySem.W.Frag} {mg : Str → Option Value} {x : Str} {C D : Addr} {b : Bool} (hD : ExcX K mg x D) (hs : PySem.W.subIn K (.ref C) (.ref D) = some b) : PySem.W.exmOne K (.ref C) (.ref D) = some b := PySem.W.exm_ref hD.sub hD.is.hd hD.ty hs
/-- isinstance(e, c) and isinstance(e, (c1, c2, ..)), e the exception that the suite holds -/
def rIsEx (K : PySem.W.Frag) (a : Addr) (cls : Value) (d : Option Addr) : List V → Hp → VK → Prop := fun xs H Q => ∃ (D : Addr) (b : Bool), cls = .ref D ∧ d = none ∧ ExcC K D ∧ Q (.bl b) H ∧
  ((∃ (c : V) (cv : Value), xs = [.ref a, c] ∧ ClsV c cv ∧ PySem.W.kitOne K (.ref D) cv = some b) ∨ ∃ (tp : Addr) (cs : List V) (us : List Value), xs = [.ref a, .ref tp] ∧ H tp = some (.tup cs) ∧ Paired ClsV cs us ∧ PySem.W.kitAny K (.ref D) us = some b)
theorem call_isEx {X : Cx} {a : Addr} {cls : Value} {d : Option Addr} {oe : Obj} {pn : List (Addr × Obj)} (hz : Zc cls d oe) (hf : ∃ vs, oe.data = .fields vs) : CallR (X.suite a ((a, oe) :: pn)) (.builtin "isinstance") (rIsEx X.K a cls d) := by
  intro pins s σ H xs us Q I r h
  obtain ⟨D, b, rfl, rfl, C, q, h⟩ := h
  rcases h with ⟨c, cv, rfl, hcv, e⟩ | ⟨tp, cs, ws, rfl, hT, k, e⟩
  · exact call_isE C hz hf pins s σ H _ us Q I r ⟨c, cv, b, rfl, fun u hu => hcv.eq hu, e, q⟩
  · obtain ⟨u1, u2, rfl, r1, r2⟩ := vals2 r
    cases (show u2 = Value.ref tp from r2)
    cases (show u1 = Value.ref a from r1)
    obtain ⟨hget, _⟩ := I.pin (a, oe) (List.mem_append.mpr (.inl List.mem_cons_self))
    obtain ⟨vs, hv⟩ := hf
    have J : PySem.W.InstAt s.heap a oe D none := by
      obtain ⟨oc, od, oda, osl⟩ := oe
      obtain ⟨h1, h2⟩ := hz
      dsimp only at h1 h2 hv
      subst h1 h2 hv
      exact ⟨hget, rfl, rfl, trivial⟩
    obtain ⟨_, its, rv, o, h1, h2, n, h3⟩ := (show ObjOk X.prog X.w H s.heap tp (.tup cs) from I.hok tp _ hT)
    have e3 := ClsV.all k rv
    subst e3
    obtain ⟨oc, od, dt, sl⟩ := o
    simp only at h2 h3
    subst h2 h3
    exact PySem.W.kia_tup (PySem.W.handS_kitx_exc C.hg C.hk C.hs C.hd C.ha C.hn C.ht C.hm) I.kIn J h1 e (fun z => nomatch z) fun tk => ⟨.bl b, H, I.kept (t' := tk) fun _ _ z => z, rfl, q⟩
/-- a def that may raise -/
structure FdX (P : Program) (w : World) (K : PySem.W.Frag) (mg : Str → Option Value) (base : Heap) (x : Str) (ps : List Str) (k : Nat) (sp : Sp) : Prop where
  ex : ∃ (f : Addr) (fd : FuncData), FnOk P w K mg base (L2.CX P w) k f fd ps sp ∧ mg x = some (.ref f) ∧ PySem.W.keepIn K (.ref f) = true ∧ Binds K fd ps []
theorem pe_fnX {X : Cx} {x : Str} {ps : List Str} {k : Nat} {sp : Sp} {e : Expr} {es : List Expr} {t : TA} {p pos : Pos} {W : WX} (F : FdX X.prog X.w X.K X.mg X.base x ps k sp) (hr : Room k X.A) (hg : Gl X x) (tk : Takes X W) (ha : PA X (e :: es) t)
    (hdb : (x == ("__debug__" : Str)) = false := by decide) (he : starEach (e :: es) X.env = (false, eval e X.env) :: starEach es X.env := by rfl) (hpl : (backTo pos (starEach es X.env)).any (·.1) = false := by rfl) :
    PE X (.Call (.Name x p) (e :: es) [] pos) (tCallS sp (WE W) t) := by
  obtain ⟨f, fd, G, m, kp, b⟩ := F.ex
  exact pe_callS G hr hg m kp b (fun σ => passAt tk σ) ha hdb he hpl
theorem kit_sub {K : PySem.W.Frag} {mg : Str → Option Value} {x y : Str} {C D : Addr} {b : Bool} (hC : ExcX K mg x C) (hD : ExcX K mg y D) (hs : PySem.W.subIn K (.ref C) (.ref D) = some b) : PySem.W.kitOne K (.ref C) (.ref D) = some b := by
  by_cases e : C = D
  · subst e
    rw [hC.self] at hs
    cases hs
    show (if (Value.ref C == Value.ref C) = true then some true else _) = some true
    rw [if_pos (beq_self_eq_true _)]
  · exact kit_ref hD.ic hD.ty e hs
theorem kit_two {K : PySem.W.Frag} {t c1 c2 : Value} (h1 : PySem.W.kitOne K t c1 = some false) (h2 : PySem.W.kitOne K t c2 = some false) : PySem.W.kitAny K t [c1, c2] = some false := by
  unfold PySem.W.kitAny
  rw [h1]
  show PySem.W.kitAny K t [c2] = some false
  unfold PySem.W.kitAny
  rw [h2]
  rfl
def isTE (K : PySem.W.Frag) (a : Addr) (cls : Value) (d : Option Addr) (i : Nat) (te : TE) : TE := tCB (rIsEx K a cls d) (tCons (tVar i) (tCons te tNil))
/-- isinstance(e, A) and isinstance(e, ValueError) and not isinstance(e, (B, C)) -/
def isAll (K : PySem.W.Frag) (i : Nat) (A : V) (B : TE) (a : Addr) (cls : Value) (d : Option Addr) : TE := tAndV (isTE K a cls d i (tC A)) (tAndV (isTE K a cls d i (tC (.ty "ValueError"))) (tNotV (isTE K a cls d i B)))
theorem isAll_yes {K : PySem.W.Frag} {mg : Str → Option Value} {nC nL n1 n2 : Str} {i : Nat} {a C L D1 D2 : Addr} {σ : L2.St} {H : Hp} {Q : VK} (XC : ExcX K mg nC C) (XL : ExcX K mg nL L) (X1 : ExcX K mg n1 D1) (X2 : ExcX K mg n2 D2)
    (hL : PySem.W.subIn K (.ref C) (.ref L) = some true) (h1 : PySem.W.subIn K (.ref C) (.ref D1) = some false) (h2 : PySem.W.subIn K (.ref C) (.ref D2) = some false) (hi : σ[i]? = some (some (.ref a)))
    (q : ∀ H', Same H H' → Q (.bl true) H') : isAll K i (.ref L) (tTup (tCons (tC (.ref D1)) (tCons (tC (.ref D2)) tNil))) a (.ref C) none σ H Q :=
  ⟨_, hi, C, true, rfl, rfl, XC.is, ⟨_, rfl, iteT ⟨_, hi, C, true, rfl, rfl, XC.is, ⟨_, rfl, iteT ⟨_, hi, szc 2, fun tp np => ⟨C, false, rfl, rfl, XC.is, ⟨_, rfl, q _ (same_new np)⟩, .inr ⟨tp, _, _, rfl, upd_same, .cons (.own _) (.cons (.own _) .nil), kit_two (kit_sub XC X1 h1) (kit_sub XC X2 h2)⟩⟩⟩⟩, .inl ⟨_, _, rfl, .ty _, kit_val XC.val⟩⟩⟩, .inl ⟨_, _, rfl, .own _, kit_sub XC XL hL⟩⟩
/-- isinstance(e, A) and isinstance(e, ValueError) and not isinstance(e, B) -/
theorem isAll_yes1 {K : PySem.W.Frag} {mg : Str → Option Value} {nC nL n1 : Str} {i : Nat} {a C L D1 : Addr} {σ : L2.St} {H : Hp} {Q : VK} (XC : ExcX K mg nC C) (XL : ExcX K mg nL L) (X1 : ExcX K mg n1 D1)
    (hL : PySem.W.subIn K (.ref C) (.ref L) = some true) (h1 : PySem.W.subIn K (.ref C) (.ref D1) = some false) (hi : σ[i]? = some (some (.ref a)))
    (q : Q (.bl true) H) : isAll K i (.ref L) (tC (.ref D1)) a (.ref C) none σ H Q :=
  ⟨_, hi, C, true, rfl, rfl, XC.is, ⟨_, rfl, iteT ⟨_, hi, C, true, rfl, rfl, XC.is, ⟨_, rfl, iteT ⟨_, hi, C, false, rfl, rfl, XC.is, ⟨_, rfl, q⟩, .inl ⟨_, _, rfl, .own _, kit_sub XC X1 h1⟩⟩⟩, .inl ⟨_, _, rfl, .ty _, kit_val XC.val⟩⟩⟩, .inl ⟨_, _, rfl, .own _, kit_sub XC XL hL⟩⟩
/-- isinstance(e, A) and not isinstance(e, B) -/
def isTwo (K : PySem.W.Frag) (i : Nat) (A B : V) (a : Addr) (cls : Value) (d : Option Addr) : TE := tAndV (isTE K a cls d i (tC A)) (tNotV (isTE K a cls d i (tC B)))
theorem isTwo_yes {K : PySem.W.Frag} {mg : Str → Option Value} {nC nL n1 : Str} {i : Nat} {a C L D1 : Addr} {σ : L2.St} {H : Hp} {Q : VK} (XC : ExcX K mg nC C) (XL : ExcX K mg nL L) (X1 : ExcX K mg n1 D1)
    (hL : PySem.W.subIn K (.ref C) (.ref L) = some true) (h1 : PySem.W.subIn K (.ref C) (.ref D1) = some false) (hi : σ[i]? = some (some (.ref a)))
    (q : Q (.bl true) H) : isTwo K i (.ref L) (.ref D1) a (.ref C) none σ H Q :=
  ⟨_, hi, C, true, rfl, rfl, XC.is, ⟨_, rfl, iteT ⟨_, hi, C, false, rfl, rfl, XC.is, ⟨_, rfl, q⟩, .inl ⟨_, _, rfl, .own _, kit_sub XC X1 h1⟩⟩⟩, .inl ⟨_, _, rfl, .own _, kit_sub XC XL hL⟩⟩
structure Exs (K : PySem.W.Frag) (mg : Str → Option Value) (CL CO CN CB : Addr) : Prop where
  L : ExcX K mg "LegionError" CL
  O : ExcX K mg "OutOfRange" CO
  N : ExcX K mg "NotPossible" CN
  B : ExcX K mg "BadMachine" CB
  oL : PySem.W.subIn K (.ref CO) (.ref CL) = some true
  oN : PySem.W.subIn K (.ref CO) (.ref CN) = some false
  oB : PySem.W.subIn K (.ref CO) (.ref CB) = some false
  nL : PySem.W.subIn K (.ref CN) (.ref CL) = some true
  nO : PySem.W.subIn K (.ref CN) (.ref CO) = some false
  nB : PySem.W.subIn K (.ref CN) (.ref CB) = some false
/-! ### calls with keywords -/
abbrev catG : List Value → List Value → List Value := fun us ws => us ++ ws
abbrev catV : List V → List V → List V := fun us ws => us ++ ws
theorem vals_app {vs zs : List V} {us ws : List Value} (h1 : Vals vs us) (h2 : Vals zs ws) : Vals (catV vs zs) (catG us ws) := by
  show Vals (vs ++ zs) (us ++ ws)
  induction h1 with
  | nil => exact h2
  | cons r _ ih => exact .cons r ih
structure FdK (P : Program) (w : World) (K : PySem.W.Frag) (mg : Str → Option Value) (base : Heap) (x : Str) (ps : List Str) (n : Nat) (ks : List Str) (k : Nat) (sp : Sp) : Prop where
  ex : ∃ (f : Addr) (fd : FuncData), FnOk P w K mg base CX0 k f fd ps sp ∧ mg x = some (.ref f) ∧ PySem.W.keepIn K (.ref f) = true ∧ KBn K fd ps n ks catG catV
theorem Fun.kbinds {K : PySem.W.Frag} {x qual : Str} {st : Stmt} {f : Addr} {fd : FuncData} {ps ks : List Str} {n : Nat} (F : Fun K x qual st f fd)
    (h : ∀ (kV doc pm : Value) (an : Option Addr) (cdv ct : Value) (us ws : List Value), us.length = n → ws.length = ks.length → bindArgs (PySem.W.fnOf x qual (defArgs st) (defBody st) (defScope st) Value.none kV doc pm an cdv ct) { pos := us, kw := ks.zip ws } = pure (ps.zip (us ++ ws))) : KBn K fd ps n ks catG catV := by
  obtain ⟨oc, od, kV, doc, pm, an, cdv, ct, osl, rfl, lk, hcd⟩ := F.ex
  exact ⟨fun s us ws _ h1 h2 => .of_eq (h kV doc pm an cdv ct us ws h1 h2), vals_app⟩
theorem pe_fnK {X : Cx} {x : Str} {ps ks : List Str} {n k : Nat} {sp : Sp} {e : Expr} {es : List Expr} {kws : List Keyword} {t tk : TA} {p pos : Pos} (F : FdK X.prog X.w X.K X.mg X.base x ps n ks k sp) (hr : Room k X.A) (hg : Gl X x) (ha : PA X (e :: es) t) (hk : PK X kws tk)
    (h1 : ((backToKw pos (keywordEach kws X.env)).all fun x => x.1.isSome) = true := by rfl) (h2 : List.filterMap (fun x => x.1) (backToKw pos (keywordEach kws X.env)) = ks := by rfl) (hdb : (x == ("__debug__" : Str)) = false := by decide)
    (he : starEach (e :: es) X.env = (false, eval e X.env) :: starEach es X.env := by rfl) (hs : (((backTo pos (starEach (e :: es) X.env)).any fun x => x.1) || (backToKw pos (keywordEach kws X.env)).any fun x => x.1.isNone) = false := by rfl) :
    PE X (.Call (.Name x p) (e :: es) kws pos) (tCallN n ks.length sp catV E0 t tk) := by
  obtain ⟨f, fd, G, m, kp, b⟩ := F.ex
  exact pe_callN G hr hg m kp b pass0 ha hk h1 h2 hdb he hs
structure FdXK (P : Program) (w : World) (K : PySem.W.Frag) (mg : Str → Option Value) (base : Heap) (x : Str) (ps : List Str) (n : Nat) (ks : List Str) (k : Nat) (sp : Sp) : Prop where
  ex : ∃ (f : Addr) (fd : FuncData), FnOk P w K mg base (L2.CX P w) k f fd ps sp ∧ mg x = some (.ref f) ∧ PySem.W.keepIn K (.ref f) = true ∧ KBn K fd ps n ks catG catV
def tCallNS (n m : Nat) (sp : Sp) (E : L2.St → XK) (t tk : TA) : TE := fun σ H Q => t σ H fun vs H1 => tk σ H1 fun zs H2 => vs.length = n ∧ zs.length = m ∧ sp (catV vs zs) H2 Q (E σ)
theorem run_fnNS {X : Cx} {CX : CXT} {k n : Nat} {f : Addr} {fd : FuncData} {ps ks : List Str} {sp : Sp} {E : L2.St → XK} {pins : List (Addr × Obj)} {σ : L2.St} {H : Hp} {s : Shared} {Q : VK} {us ws : List Value} {vs zs : List V}
    (F : FnOk X.prog X.w X.K X.mg X.base CX k f fd ps sp) (hr : Room k X.A) (hb : KBn X.K fd ps n ks catG catV) (hx : PassesAt CX X σ (E σ)) (I : L2.Inv X pins σ H s) (r : Vals vs us) (rz : Vals zs ws) (l1 : vs.length = n) (l2 : zs.length = ks.length) (h : sp (catV vs zs) H Q (E σ)) :
    wpAny (model X.prog X.w) X.A (call (Value.ref f) us (ks.zip ws)) (EP X pins σ Q) X.xe s := by
  have r2 := hb.rel r rz
  refine wpAny_call (codeAny_mono (F.run X.A X.stack s H { pos := us, kw := ks.zip ws } (us ++ ws) (catV vs zs) Q (E σ) hr (Inv.env0 I) (hb.to s us ws (Inv.kIn I) ((Vals.length r).symm.trans l1) ((Vals.length rz).symm.trans l2)) r2 h) fun r s' hq => ?_)
  cases r with
  | error e => exact hx pins H s e s' I hq
  | ok fl =>
    cases fl with
    | ret u => exact Inv.after I hq
    | _ => exact hq.elim
theorem pe_fnXK {X : Cx} {x : Str} {ps ks : List Str} {n k : Nat} {sp : Sp} {e : Expr} {es : List Expr} {kws : List Keyword} {t tk : TA} {p pos : Pos} {W : WX} (F : FdXK X.prog X.w X.K X.mg X.base x ps n ks k sp) (hr : Room k X.A) (hg : Gl X x) (tks : Takes X W) (ha : PA X (e :: es) t) (hkw : PK X kws tk)
    (hall : ((backToKw pos (keywordEach kws X.env)).all fun x => x.1.isSome) = true := by rfl) (hks : List.filterMap (fun x => x.1) (backToKw pos (keywordEach kws X.env)) = ks := by rfl) (hdb : (x == ("__debug__" : Str)) = false := by decide)
    (he : starEach (e :: es) X.env = (false, eval e X.env) :: starEach es X.env := by rfl) (hpl : (((backTo pos (starEach (e :: es) X.env)).any fun x => x.1) || (backToKw pos (keywordEach kws X.env)).any fun x => x.1.isNone) = false := by rfl) :
    PE X (.Call (.Name x p) (e :: es) kws pos) (tCallNS n ks.length sp (WE W) t tk) := by
  obtain ⟨f, fd, G, m, kp, b⟩ := F.ex
  refine ⟨fun pins s σ H Q I h => wpAny_Call_Name_kw (ld_glob I hg m (PySem.W.callWith_KW I.ok.mod.kin kp hall (thn (ha.run pos pins s σ H _ I h) fun us s1 x => ?_) hpl he) hdb)⟩
  obtain ⟨vs, H1, I1, r, q⟩ := x
  refine thn (hkw.run pos pins s1 σ H1 _ I1 q) fun ws s2 x => ?_
  obtain ⟨zs, H2, I2, rz, l1, l2, q2⟩ := x
  refine ⟨Inv.kIn I2, ?_⟩
  rw [hks]
  exact run_fnNS G hr b (passAt tks σ) I2 r rz l1 l2 q2
section
variable {P : Program} {w : World} {K : PySem.W.Frag} {mg : Str → Option Value} {base : Heap}
theorem canAt_eq {ms : List MvT} {s : Int} {cs : List Int} {k : Nat} {m : MvT} (h : ms[k]? = some m) : canAt ms s cs k = m.can s cs := by
  unfold canAt
  rw [h]
def spPoss (K : PySem.W.Frag) : Sp := fun vs H Q _ => ∃ (v x : V) (M : MT) (s : Int) (cs : List Int), vs = [v, x] ∧ Dp K H v M.data ∧ Sit K H x s cs ∧ (∀ m ∈ M.moves, m.pl < cs.length) ∧ M.moves.length ≤ 1000 ∧
  ∀ H' p, Same H H' → H p = none → H' p = some (.lst ((canL M.moves s cs).map nV)) → Q (.ref p) H'
abbrev s_possible_moves : Stmt := topS 14
theorem sc_possible_moves : FnScope ["machine", "situation", "at", "move"] ["machine", "situation"] (defScope s_possible_moves) := ⟨rfl, rfl, rfl, by decide +kernel, rfl, by decide +kernel, by decide +kernel⟩
-- possible_moves slots: machine=0 situation=1(cell) at=2(None) move=3(None) globals: enumerate
theorem fd_possible_moves {f : Addr} {fd : FuncData} (F : Fun K "possible_moves" "possible_moves" s_possible_moves f fd) (m : mg "possible_moves" = some (.ref f)) (B : Bt mg) (D_can_take : Fd P w K mg base "can_take" ["situation", "move"] 1 (spCan K)) : Fd P w K mg base "possible_moves" ["machine", "situation"] 2 (spPoss K) := by
  refine ⟨f, fd, F.ok sc_possible_moves (fun vs H Q E h => ?_) (fun cdv A outer s H vs Q E hr h => ?_), m, F.kp, F.binds (ps := ["machine", "situation"]) fun _ _ _ _ _ _ us hl => match us, hl with | [_, _], _ => rfl⟩
  · obtain ⟨v, x, M, s, cs, rfl, _⟩ := h
    rfl
  obtain ⟨v, x, M, s, cs, rfl, hd, hx, hp, hl, q⟩ := h
  obtain ⟨a, sv, ma, xs, rfl, ha, _, hma, hxs⟩ := dp_mt hd
  have xl := dpa_map_len hxs
  refine ⟨_, (pss_one (ps_ret (pe_lc (own := [("at", 2), ("move", 3)]) (g := gTup K 2 (gCons (gName 2) (gCons (gName 3) gNil))) (by rfl) sc_possible_moves.nd (pi_enum (by rfl) B.enumerate (pa_cons (pe_ix (ixT K) (pv 0) pe_int (fun _ _ => rfl)) pa_nil)) (blkOk_by (own := [("at", 2), ("move", 3)]) (N := ["machine", "situation", "at", "move"]) (sc := (defScope s_possible_moves)) (by decide +kernel)) (fun _ _ _ _ _ => (pg_tup rfl (pgs_cons (pg_name (i := 2) sc_possible_moves.nd rfl (Or.inl rfl)) (pgs_cons (pg_name (i := 3) sc_possible_moves.nd rfl (Or.inl rfl)) pgs_nil)))) (fun _ _ _ _ _ => (pts_one (pt_val (pe_fn D_can_take (hr.mono (by decide)) rfl (pa_cons (pv 1) (pa_cons (pv 3) pa_nil)))))) (fun _ _ _ _ _ => (pv 2))))), ?_⟩
  refine ⟨_, rfl, _, _, _, _, rfl, rfl, ha, atI_nat (j := 4) rfl, ma, xs, rfl, hma, fun D nD => lc_it walk_enum (fun i H' => Same H H' ∧ H' D = some (.lst (((List.range i).filter (canAt M.moves s cs)).map nV))) ⟨same_new nD, upd_same⟩ (fun i H' _ p => p.1.seq hma) ?_ ?_⟩
  · rintro i y H1 H2 hi ⟨sm, eD⟩ ⟨T, u1, u2, rfl, nT, rfl, e1, e2⟩
    obtain ⟨mv, hmv, dmv⟩ := dpa_map_at hxs e2
    cases e1
    have s2 : Same H (upd H1 T (.tup [V.int (i : Nat), u2])) := sm.trans (same_new nT)
    have eD2 : (upd H1 T (.tup [V.int (i : Nat), u2])) D = some (.lst (((List.range i).filter (canAt M.moves s cs)).map nV)) := (same_new nT) _ _ eD
    refine ⟨T, _, rfl, .inl (.inl upd_same), rfl, _, _, rfl, _, _, rfl, rfl, rfl, ?_⟩
    refine ⟨_, rfl, _, rfl, _, _, s, cs, mv, rfl, Same.sit s2 hx, dp_mono s2 dmv, hp mv (List.mem_of_getElem? hmv), _, rfl, ?_⟩
    rw [← canAt_eq (s := s) (cs := cs) hmv]
    refine ite2 (fun e => ?_) (fun e => ?_)
    · refine ⟨_, rfl, _, eD2, ?_, Same.mut s2 nD, ?_⟩
      · rw [List.length_map]
        have := filt_len i (canAt M.moves s cs)
        exact szl (by omega)
      · rw [upd_same, filt_yes e, List.map_append]
        rfl
    · refine ⟨s2, ?_⟩
      rw [eD2, filt_no (by cases h : canAt M.moves s cs i with | true => exact absurd h e | false => rfl)]
  · rintro H1 ⟨sm, eD⟩
    rw [xl] at eD
    exact q _ D sm nD eD
end
section
variable {P : Program} {w : World} {K : PySem.W.Frag} {mg : Str → Option Value} {base : Heap}
theorem canL_mem {ms : List MvT} {s : Int} {cs : List Int} {k : Nat} : k ∈ canL ms s cs ↔ ∃ m, ms[k]? = some m ∧ m.can s cs = true := by
  unfold canL
  rw [List.mem_filter, List.mem_range]
  constructor
  · rintro ⟨h1, h2⟩
    have e := List.getElem?_eq_getElem h1
    rw [canAt_eq e] at h2
    exact ⟨_, e, h2⟩
  · rintro ⟨m, e, h2⟩
    exact ⟨(List.getElem?_eq_some_iff.mp e).1, by rw [canAt_eq e]; exact h2⟩
theorem canL_asc (ms : List MvT) (s : Int) (cs : List Int) : (canL ms s cs).Pairwise (· < ·) := List.pairwise_lt_range.filter _
theorem asc_before {l : List Nat} (h : l.Pairwise (· < ·)) {j k : Nat} (hj : l[j]? = some k) {i : Nat} (hi : i ∈ l) (lt : i < k) : i ∈ l.take j := by
  obtain ⟨a, ha⟩ := List.getElem?_of_mem hi
  have al := (List.getElem?_eq_some_iff.mp ha).1
  have jl := (List.getElem?_eq_some_iff.mp hj).1
  have ea := (List.getElem?_eq_some_iff.mp ha).2
  have ej := (List.getElem?_eq_some_iff.mp hj).2
  by_cases c : a < j
  · refine List.mem_of_getElem? (i := a) ?_
    rw [List.getElem?_take, if_pos c]
    exact ha
  · exfalso
    by_cases e : j = a
    · subst e
      omega
    · have := List.pairwise_iff_getElem.mp h j a jl al (by omega)
      omega
abbrev s_first_move_above : Stmt := topS 35
theorem sc_first_move_above : FnScope ["machine", "situation", "floor", "move"] ["machine", "situation", "floor"] (defScope s_first_move_above) := ⟨rfl, rfl, rfl, by decide +kernel, rfl, by decide +kernel, by decide +kernel⟩
-- first_move_above slots: machine=0 situation=1 floor=2 move=3 globals: possible_moves packed after NotPossible
/-- the first move that can be taken and leads under a floor -/
structure FirstM (ms : List MvT) (U : Sn → Prop) (x : Sn) (k : Nat) (m : MvT) : Prop where
  at' : ms[k]? = some m
  can : m.can x.1 x.2 = true
  und : U (aftS m x)
  first : ∀ k', k' < k → ∀ m', ms[k']? = some m' → m'.can x.1 x.2 = true → ¬ U (aftS m' x)
def spFma (K : PySem.W.Frag) (CF : Addr) (lv : Nat) : Sp := fun vs H Q _ => ∃ (v u : V) (p : Addr) (M : MT) (F : Tri) (n : Nat) (x : Sn), vs = [v, u, .ref p] ∧ Dp K H v M.data ∧ Sit K H u x.1 x.2 ∧ FloorAt CF H p F n ∧ (∀ m ∈ M.moves, m.Fit M.states x.2.length) ∧ x.2.length < lv ∧ x.2.length ≤ 1000 ∧ M.moves.length ≤ 1000 ∧
  (∃ m ∈ M.moves, m.can x.1 x.2 = true ∧ Und F (pk (aftS m x))) ∧ ∀ H' k m, Same H H' → FirstM M.moves (fun y => Und F (pk y)) x k m → Q (nV k) H'
set_option maxHeartbeats 1000000 in
theorem fd_first_move_above {f CF : Addr} {fd : FuncData} {lv : Nat} (F : Fun K "first_move_above" "first_move_above" s_first_move_above f fd) (mm : mg "first_move_above" = some (.ref f)) (TF : TxtF K mg CF) (M_is_under : Md P w K mg base CF "is_under" ["self", "situation"] (lv + 2) (spUnder K CF lv)) (D_packed : Fd P w K mg base "packed" ["situation"] 1 (spPackP K))
    (D_possible_moves : Fd P w K mg base "possible_moves" ["machine", "situation"] 2 (spPoss K)) (D_after : Fd P w K mg base "after" ["machine", "situation", "move"] 2 (spAft K)) : Fd P w K mg base "first_move_above" ["machine", "situation", "floor"] (lv + 3) (spFma K CF lv) := by
  refine ⟨f, fd, F.ok sc_first_move_above (fun vs H Q E h => ?_) (fun cdv A outer s H vs Q E hr h => ?_), mm, F.kp, F.binds (ps := ["machine", "situation", "floor"]) fun _ _ _ _ _ _ us hl => match us, hl with | [_, _, _], _ => rfl⟩
  · obtain ⟨v, u, p, M, F, n, x, rfl, _⟩ := h
    rfl
  obtain ⟨v, u, p, M, F, n, x, rfl, dM, sx, fl, fit, nlv, n1, ml, ⟨m0, hm0, can0, und0⟩, q⟩ := h
  refine ⟨_, (pss_cons (ps_for PassesOwn.never rfl (piL K (pe_fn D_possible_moves (hr.mono (by omega)) rfl (pa_cons (pv 0) (pa_cons (pv 1) pa_nil)))) (pg_name (i := 3) sc_first_move_above.nd rfl (Or.inl rfl))
 (pss_one (ps_if (pt_val (pe_md M_is_under fun _ _ G hm b => pe_meth (pv 2) TF.cl hm G (hr.mono (by omega)) b .nil pass0 (pa_cons (pe_fn D_packed (hr.mono (by omega)) rfl (pa_cons (pe_fn D_after (hr.mono (by omega)) rfl (pa_cons (pv 0) (pa_cons (pv 1) (pa_cons (pv 3) pa_nil)))) pa_nil)) pa_nil)))
 (pss_one (ps_ret (pv 3)))
 pss_nil)))
 (pss_one ps_never)), ?_⟩
  refine ⟨_, rfl, _, rfl, v, u, M, x.1, x.2, rfl, dM, sx, fun m hm => (fit m hm).pl, ml, fun H1 pa s1 npa epa => ⟨pa, rfl, ⟨_, sq epa⟩, ?_⟩⟩
  refine for_list (xs := (canL M.moves x.1 x.2).map nV) (fun j σ' H' => ∃ y3 : Option V, σ' = [some v, some u, some (.ref p), y3] ∧ Same H1 H' ∧ ∀ k ∈ (canL M.moves x.1 x.2).take j, ∀ m, M.moves[k]? = some m → ¬ Und F (pk (aftS m x))) ⟨_, rfl, Same.refl _, fun k hk => by rw [List.take_zero] at hk; cases hk⟩ ?_ ?_ ?_
  · rintro j σ' H' _ ⟨y3, rfl, sm, _⟩
    exact sq (sm _ _ epa)
  · rintro j i σ' H2 hi ⟨y3, rfl, sm, none⟩
    obtain ⟨k, hk, rfl⟩ : ∃ k, (canL M.moves x.1 x.2)[j]? = some k ∧ i = nV k := by
      rw [List.getElem?_map] at hi
      cases e : (canL M.moves x.1 x.2)[j]? with
      | none => rw [e] at hi; cases hi
      | some k => rw [e] at hi; exact ⟨k, rfl, (Option.some.inj hi).symm⟩
    obtain ⟨m, hm, hc⟩ := canL_mem.mp (List.mem_of_getElem? hk)
    have s2 := s1.trans sm
    have fm := fit m (List.mem_of_getElem? hm)
    obtain ⟨dxf, df, hfo, _⟩ := (fl.mono s2).ob
    dsimp only [gName]
    refine ⟨_, rfl, p, dxf, _, rfl, hfo, fT_no _ (by decide +kernel), ?_⟩
    refine ⟨_, rfl, _, rfl, _, rfl, v, u, M, k, m, x.1, x.2, rfl, dp_mono s2 dM, Same.sit s2 sx, hm, hc, fm, fun H3 q3 s3 new3 => ?_⟩
    have al : (m.aft x.2).length = x.2.length := by rw [aft_len]
    refine ⟨.ref q3, (m.ns : Int), m.aft x.2, rfl, new3.sit, by omega, fun H4 q4 t ps s4 dp4 _ _ _ => ?_⟩
    have pl := pkL_len 0 (m.aft x.2)
    refine ⟨p, .ref q4, F, n, pk (aftS m x), rfl, fl.mono (s2.trans (s3.trans s4)), dp4, by show (pkL 0 (m.aft x.2)).length < lv; omega, by show (pkL 0 (m.aft x.2)).length ≤ 1000; omega, fun H5 b s5 hb => ⟨_, rfl, ?_⟩⟩
    have s25 := (s3.trans s4).trans s5
    cases b with
    | true =>
      refine iteT ⟨_, rfl, q H5 k m (s2.trans s25) ⟨hm, hc, hb.mp rfl, fun k' lt m' hm' hc' => ?_⟩⟩
      exact none k' (asc_before (canL_asc _ _ _) hk (canL_mem.mpr ⟨m', hm', hc'⟩) lt) m' hm'
    | false =>
      refine iteF ⟨_, rfl, sm.trans s25, fun k' hk' m' hm' => ?_⟩
      rw [take_snoc hk] at hk'
      rcases List.mem_append.mp hk' with hk' | hk'
      · exact none k' hk' m' hm'
      · obtain rfl := List.mem_singleton.mp hk'
        obtain rfl := Option.some.inj (hm.symm.trans hm')
        exact fun z => by have := hb.mpr z; cases this
  · rintro σ' H2 ⟨y3, rfl, sm, none⟩
    rw [List.length_map, List.take_length] at none
    obtain ⟨k, hk⟩ := List.getElem?_of_mem hm0
    exact (none k (canL_mem.mpr ⟨m0, hk, can0⟩) m0 hk und0).elim
end
/-! ### equal data -/
theorem ints_eqv : ∀ (as bs : List Int), PyData.eqvAll (as.map PyData.int) (bs.map PyData.int) = decide (as = bs)
  | [], [] => rfl
  | [], _ :: _ => rfl
  | _ :: _, [] => rfl
  | a :: as, b :: bs => by
    have ih := ints_eqv as bs
    show ((a == b) && PyData.eqvAll (as.map PyData.int) (bs.map PyData.int)) = _
    rw [ih]
    by_cases h1 : a = b
    · by_cases h2 : as = bs
      · rw [h1, h2]; simp
      · simp [h1, h2]
    · simp [h1]
theorem sD_eqv (a b : Sn) : PyData.eqv (sD a) (sD b) = decide (a = b) := by
  obtain ⟨s, cs⟩ := a
  obtain ⟨t, ds⟩ := b
  show ((s == t) && (PyData.eqvAll (cs.map PyData.int) (ds.map PyData.int) && true)) = _
  rw [ints_eqv]
  by_cases h1 : s = t
  · by_cases h2 : cs = ds
    · simp [h1, h2]
    · simp [h1, h2]
  · simp [h1]
theorem sDs_eqv : ∀ (as bs : List Sn), PyData.eqvAll (as.map sD) (bs.map sD) = decide (as = bs)
  | [], [] => rfl
  | [], _ :: _ => rfl
  | _ :: _, [] => rfl
  | a :: as, b :: bs => by
    have ih := sDs_eqv as bs
    show (PyData.eqv (sD a) (sD b) && PyData.eqvAll (as.map sD) (bs.map sD)) = _
    rw [ih, sD_eqv]
    by_cases h1 : a = b
    · by_cases h2 : as = bs
      · simp [h1, h2]
      · simp [h1, h2]
    · simp [h1]
def LD (L : List Sn) : PyData := .list (L.map sD)
theorem LD_eqv (L M : List Sn) : PyData.eqv (LD L) (LD M) = decide (L = M) := sDs_eqv L M
theorem LDs_eqv : ∀ (as bs : List (List Sn)), PyData.eqvAll (as.map LD) (bs.map LD) = decide (as = bs)
  | [], [] => rfl
  | [], _ :: _ => rfl
  | _ :: _, [] => rfl
  | a :: as, b :: bs => by
    have ih := LDs_eqv as bs
    show (PyData.eqv (LD a) (LD b) && PyData.eqvAll (as.map LD) (bs.map LD)) = _
    rw [ih, LD_eqv]
    by_cases h1 : a = b
    · by_cases h2 : as = bs
      · simp [h1, h2]
      · simp [h1, h2]
    · simp [h1]
def LLD (Ls : List (List Sn)) : PyData := .list (Ls.map LD)
theorem LLD_eqv (L M : List (List Sn)) : PyData.eqv (LLD L) (LLD M) = decide (L = M) := LDs_eqv L M
/-! ### situations as data, of any size -/
theorem ints_layS : ∀ ns : List Int, PyData.canLayAll0 (ns.map PyData.int) = true ∧ PyData.depthAll (ns.map PyData.int) = 0
  | [] => ⟨rfl, rfl⟩
  | n :: r => by
    obtain ⟨h1, h2⟩ := ints_layS r
    exact ⟨(by show (true && PyData.canLayAll0 (r.map PyData.int)) = true; rw [h1]; rfl), by show max 0 (PyData.depthAll (r.map PyData.int)) = 0; rw [h2]; rfl⟩
theorem sD_layS (b : Sn) : PyData.canLay0 (sD b) = true ∧ PyData.depth (sD b) = 2 := by
  obtain ⟨h1, h2⟩ := ints_layS b.2
  constructor
  · show (true && (PyData.canLayAll0 (b.2.map PyData.int) && true)) = true
    rw [h1]; rfl
  · show max 0 (max (PyData.depthAll (b.2.map PyData.int) + 1) 0) + 1 = 2
    rw [h2]; rfl
theorem sDs_layS : ∀ L : List Sn, PyData.canLayAll0 (L.map sD) = true ∧ PyData.depthAll (L.map sD) ≤ 2
  | [] => ⟨rfl, by decide⟩
  | b :: L => by
    obtain ⟨h1, h2⟩ := sDs_layS L
    obtain ⟨h3, h4⟩ := sD_layS b
    constructor
    · show (PyData.canLay0 (sD b) && PyData.canLayAll0 (L.map sD)) = true
      rw [h1, h3]; rfl
    · show max (PyData.depth (sD b)) (PyData.depthAll (L.map sD)) ≤ 2
      omega
theorem sD_shaped (b : Sn) : SeqAt.shaped (sD b) = true := by
  obtain ⟨h1, h2⟩ := sD_layS b
  show (PyData.canLay0 (sD b) && decide (PyData.depth (sD b) ≤ 64)) = true
  rw [h1, h2]; rfl
theorem sDs_shaped (L : List Sn) : SeqAt.shaped (.list (L.map sD)) = true := by
  obtain ⟨h1, h2⟩ := sDs_layS L
  show (PyData.canLayAll0 (L.map sD) && decide (PyData.depthAll (L.map sD) + 1 ≤ 64)) = true
  rw [h1, decide_eq_true (by omega)]; rfl
theorem any_sD (L : List Sn) (y : Sn) : ((L.map sD).any fun z => PyData.eqv z (sD y)) = decide (y ∈ L) := by
  induction L with
  | nil => rfl
  | cons b L ih =>
    rw [List.map_cons, List.any_cons, ih, sD_eqv]
    by_cases h1 : b = y
    · rw [decide_eq_true h1, decide_eq_true (show y ∈ b :: L by rw [h1]; exact List.mem_cons_self)]; rfl
    · by_cases h2 : y ∈ L
      · rw [decide_eq_false h1, decide_eq_true h2, decide_eq_true (List.mem_cons_of_mem _ h2)]; rfl
      · rw [decide_eq_false h1, decide_eq_false h2, decide_eq_false fun z => (List.mem_cons.mp z).elim (fun e => h1 e.symm) h2]; rfl
theorem NewSit.hoS {K : PySem.W.Frag} {H H' : Hp} {p b : Addr} {s : Int} {cs : List Int} {o : HO} (h : NewSit H H' p s cs) (e : H b = some o) : Sit K (Ho b H') (.ref p) s cs := by
  obtain ⟨ca, n1, n2, _, h1, h2⟩ := h
  have hp : p ≠ b := fun z => by rw [z, e] at n1; cases n1
  have hc : ca ≠ b := fun z => by rw [z, e] at n2; cases n2
  refine ⟨p, ca, rfl, st ?_, sq ?_⟩
  · unfold Ho; rw [if_neg hp]; exact h1
  · unfold Ho; rw [if_neg hc]; exact h2
/-! ### what so many moves lead to -/
abbrev StepR (ms : List MvT) (x y : Sn) : Prop := ∃ m ∈ ms, x.1 = (m.st : Int) ∧ 0 < x.2.getD m.pl 0 ∧ y = ((m.ns : Int), m.aft x.2)
def Rn (ms : List MvT) : Nat → Sn → Sn → Prop
  | 0, x, y => y = x
  | n + 1, x, y => ∃ z, Rn ms n x z ∧ StepR ms z y
theorem rn_cons {ms : List MvT} : ∀ {n : Nat} {x y : Sn}, Rn ms (n + 1) x y ↔ ∃ z, StepR ms x z ∧ Rn ms n z y
  | 0, x, y => ⟨fun ⟨z, h1, h2⟩ => ⟨y, (show z = x from h1) ▸ h2, rfl⟩, fun ⟨z, h1, h2⟩ => ⟨x, rfl, (show y = z from h2) ▸ h1⟩⟩
  | n + 1, x, y => ⟨fun ⟨z, h1, h2⟩ => let ⟨u, h3, h4⟩ := rn_cons.mp h1; ⟨u, h3, z, h4, h2⟩, fun ⟨u, h3, z, h4, h2⟩ => ⟨z, rn_cons.mpr ⟨u, h3, h4⟩, h2⟩⟩
theorem up_rn {ms : List MvT} {bad : List Sn} : ∀ {k : Nat} {x : Sn}, Up ms bad k x ↔ ∃ j, j ≤ k ∧ ∃ y, Rn ms j x y ∧ ∃ b ∈ bad, covS y b = true
  | 0, x => ⟨fun h => ⟨0, Nat.le_refl _, x, rfl, h⟩, fun ⟨j, hj, y, h1, h2⟩ => by
    obtain rfl : j = 0 := by omega
    obtain rfl : y = x := h1
    exact h2⟩
  | k + 1, x => by
    constructor
    · rintro (h | ⟨m, hm, e1, e2, h⟩)
      · obtain ⟨j, hj, r⟩ := up_rn.mp h
        exact ⟨j, by omega, r⟩
      · obtain ⟨j, hj, y, r, c⟩ := up_rn.mp h
        exact ⟨j + 1, by omega, y, rn_cons.mpr ⟨_, ⟨m, hm, e1, e2, rfl⟩, r⟩, c⟩
    · rintro ⟨j, hj, y, r, c⟩
      cases j with
      | zero => exact .inl (up_rn.mpr ⟨0, Nat.zero_le _, y, r, c⟩)
      | succ j =>
        obtain ⟨z, ⟨m, hm, e1, e2, rfl⟩, r2⟩ := rn_cons.mp r
        exact .inr ⟨m, hm, e1, e2, up_rn.mpr ⟨j, by omega, y, r2, c⟩⟩
theorem rn_ok {ms : List MvT} {S N : Nat} (fit : ∀ m ∈ ms, m.Fit S N) : ∀ {n : Nat} {x y : Sn}, Sok N x → Rn ms n x y → Sok N y
  | 0, x, y, h, r => (show y = x from r) ▸ h
  | n + 1, x, y, h, ⟨z, r, m, hm, _, e2, e3⟩ => by
    subst e3
    have hz := rn_ok fit h r
    exact aft_ok (fit m hm) hz.1 hz.2 e2
theorem stab_up {N S t : Nat} {ms : List MvT} {bad : List Sn} (fit : ∀ m ∈ ms, m.Fit S N) (st : Stab N ms bad t) : ∀ (k : Nat) {x : Sn}, Sok N x → Up ms bad k x → Up ms bad t x
  | 0, _, _, h => up_le (Nat.zero_le _) h
  | k + 1, x, hx, h => by
    rcases h with h | ⟨m, hm, h1, h2, h3⟩
    · exact stab_up fit st k hx h
    · have a := aft_ok (fit m hm) hx.1 hx.2 h2
      exact st x hx (.inr ⟨m, hm, h1, h2, stab_up fit st k a h3⟩)
theorem up_min {N S t : Nat} {ms : List MvT} {bad : List Sn} (fit : ∀ m ∈ ms, m.Fit S N) (st : Stab N ms bad t) {k : Nat} {x : Sn} (hx : Sok N x) : Up ms bad (min k t) x ↔ Up ms bad k x := by
  refine ⟨up_le (Nat.min_le_left _ _), fun h => ?_⟩
  by_cases c : k ≤ t
  · rw [Nat.min_eq_left c]; exact h
  · rw [Nat.min_eq_right (by omega)]; exact stab_up fit st k hx h
theorem up_state {ms : List MvT} {bad : List Sn} {S N : Nat} (fit : ∀ m ∈ ms, m.Fit S N) (hb : ∀ b ∈ bad, 0 ≤ b.1 ∧ b.1 < (S : Int)) : ∀ (t : Nat) {x : Sn}, Up ms bad t x → 0 ≤ x.1 ∧ x.1 < (S : Int)
  | 0, x, ⟨b, hb1, c⟩ => by
    have e : x.1 = b.1 := of_decide_eq_true (Bool.and_eq_true_iff.mp (show (decide (x.1 = b.1) && geAll x.2 b.2) = true from c)).1
    rw [e]
    exact hb b hb1
  | t + 1, x, h => by
    rcases h with h | ⟨m, hm, e, _⟩
    · exact up_state fit hb t h
    · have := (fit m hm).st
      omega
/-! ### down along the layers -/
def Best (ms : List MvT) (bad : List Sn) : Nat → Sn → List Nat → Prop
  | 0, _, r => r = []
  | n + 1, x, r => ∃ k m r', r = k :: r' ∧ FirstM ms (fun y => Up ms bad n y) x k m ∧ Best ms bad n (aftS m x) r'
theorem FirstM.uniq {ms : List MvT} {U : Sn → Prop} {x : Sn} {k k' : Nat} {m m' : MvT} (h : FirstM ms U x k m) (g : FirstM ms U x k' m') : k = k' ∧ m = m' := by
  have e : k = k' := by
    rcases Nat.lt_trichotomy k k' with l | l | l
    · exact absurd h.und (g.first k l m h.at' h.can)
    · exact l
    · exact absurd g.und (h.first k' l m' g.at' g.can)
  subst e
  exact ⟨rfl, Option.some.inj (h.at'.symm.trans g.at')⟩
theorem Best.uniq {ms : List MvT} {bad : List Sn} : ∀ {n : Nat} {x : Sn} {r r' : List Nat}, Best ms bad n x r → Best ms bad n x r' → r = r'
  | 0, _, _, _, h, g => (show _ = _ from h).trans (show _ = _ from g).symm
  | n + 1, _, _, _, ⟨_, _, _, e1, f1, b1⟩, ⟨_, _, _, e2, f2, b2⟩ => by
    obtain ⟨rfl, rfl⟩ := f1.uniq f2
    rw [e1, e2, b1.uniq b2]
theorem Best.len {ms : List MvT} {bad : List Sn} : ∀ {n : Nat} {x : Sn} {r : List Nat}, Best ms bad n x r → r.length = n
  | 0, _, _, h => by rw [show _ = [] from h]; rfl
  | n + 1, _, _, ⟨_, _, _, e, _, b⟩ => by rw [e, List.length_cons, b.len]
/-- what is new in each layer -/
structure News (N : Nat) (ms : List MvT) (bad : List Sn) (Zs : List (List Sn)) : Prop where
  cov : ∀ j Z, Zs[j]? = some Z → ∀ y : Sn, Sok N y → Up ms bad j y → (∀ i, i < j → ¬ Up ms bad i y) → ∃ z ∈ Z, covS y z = true
  one : ∀ j Z, Zs[j]? = some Z → ∀ z ∈ Z, Up ms bad j z
  lens : ∀ Z ∈ Zs, Lens N Z
  nn : ∀ Z ∈ Zs, NonN Z
  anti : ∀ Z ∈ Zs, ∀ a ∈ Z, ∀ b ∈ Z, covS a b = true → a = b
  nd : ∀ Z ∈ Zs, Z.Nodup
  sz : ∀ Z ∈ Zs, Z.length * (2 * N + 1) ≤ 9000000
theorem News.und {N : Nat} {ms : List MvT} {bad : List Sn} {Zs : List (List Sn)} {S : Nat} (h : News N ms bad Zs) (fit : ∀ m ∈ ms, m.Fit S N) (lb : Lens N bad) {j : Nat} {Z : List Sn} (hZ : Zs[j]? = some Z) {y : Sn} (ok : Sok N y) (c : ∃ z ∈ Z, covS y z = true) : Up ms bad j y := by
  obtain ⟨z, hz, c⟩ := c
  have m := List.mem_of_getElem? hZ
  exact up_mono fit lb j ok ⟨h.lens Z m z hz, h.nn Z m z hz⟩ c (h.one j Z hZ z hz)
theorem nodup_le {α : Type} [BEq α] [LawfulBEq α] : ∀ {L S : List α}, L.Nodup → (∀ x ∈ L, x ∈ S) → L.length ≤ S.length
  | [], _, _, _ => Nat.zero_le _
  | x :: L, S, nd, h => by
    have hx := h x List.mem_cons_self
    have n := List.nodup_cons.mp nd
    have := nodup_le (L := L) (S := S.erase x) n.2 fun y hy => (List.mem_erase_of_ne fun e => n.1 (by rw [← e]; exact hy)).mpr (h y (List.mem_cons_of_mem _ hy))
    have l := List.length_erase_of_mem hx
    have p : 0 < S.length := List.length_pos_of_mem hx
    rw [List.length_cons]
    omega
theorem Chn.sub {N : Nat} {ms : List MvT} {bad : List Sn} {t : Nat} {ps : List (List Sn × List Sn)} (c : Chn N ms bad t ps) {p : List Sn × List Sn} (hp : p ∈ ps) : ∀ z ∈ p.2, z ∈ p.1 := fun z hz => by
  obtain ⟨j, hj⟩ := List.getElem?_of_mem hp
  cases j with
  | zero => rw [← c.fst p hj]; exact hz
  | succ j => exact ((c.zz j p hj).1 z hz).1
theorem Chn.news {N : Nat} {ms : List MvT} {bad : List Sn} {t S : Nat} {ps : List (List Sn × List Sn)} (c : Chn N ms bad t ps) (fit : ∀ m ∈ ms, m.Fit S N) (lb : Lens N bad) (hN : N ≤ 1000) : News N ms bad (ps.map (·.2)) := by
  have get : ∀ {j : Nat} {Z : List Sn}, (ps.map (·.2))[j]? = some Z → ∃ p, ps[j]? = some p ∧ p.2 = Z := fun {j Z} h => by
    rw [List.getElem?_map] at h
    cases e : ps[j]? with
    | none => rw [e] at h; cases h
    | some p => rw [e] at h; exact ⟨p, rfl, Option.some.inj h⟩
  have mem : ∀ {Z : List Sn}, Z ∈ ps.map (·.2) → ∃ p ∈ ps, p.2 = Z ∧ ∃ j, LayR N ms bad j p.1 := fun {Z} h => by
    obtain ⟨p, hp, e⟩ := List.mem_map.mp h
    obtain ⟨j, hj⟩ := List.getElem?_of_mem hp
    exact ⟨p, hp, e, j, c.lay j p hj⟩
  refine ⟨fun j Z hZ y ok u no => ?_, fun j Z hZ z hz => ?_, fun Z hZ => ?_, fun Z hZ => ?_, fun Z hZ => ?_, fun Z hZ => ?_, fun Z hZ => ?_⟩
  · obtain ⟨p, hp, rfl⟩ := get hZ
    obtain ⟨z, hz, cv⟩ := (c.lay j p hp).cov y ok u
    cases j with
    | zero => exact ⟨z, by rw [c.fst p hp]; exact hz, cv⟩
    | succ j =>
      rcases (c.zz j p hp).2 z hz with h | h
      · exact ⟨z, h, cv⟩
      · exact absurd (up_mono fit lb j ok ((c.lay (j + 1) p hp).ok hz) cv h) (no j (Nat.lt_succ_self j))
  · obtain ⟨p, hp, rfl⟩ := get hZ
    exact (c.lay j p hp).up z (c.sub (List.mem_of_getElem? hp) z hz)
  · obtain ⟨p, hp, rfl, j, l⟩ := mem hZ
    exact fun z hz => l.lens z (c.sub hp z hz)
  · obtain ⟨p, hp, rfl, j, l⟩ := mem hZ
    exact fun z hz => l.nn z (c.sub hp z hz)
  · obtain ⟨p, hp, rfl, j, l⟩ := mem hZ
    exact fun a ha b hb => l.anti a (c.sub hp a ha) b (c.sub hp b hb)
  · obtain ⟨p, hp, rfl, j, l⟩ := mem hZ
    exact c.nd p hp
  · obtain ⟨p, hp, rfl, j, l⟩ := mem hZ
    have h1 := nodup_le (c.nd p hp) (c.sub hp)
    have h2 := c.small p hp
    have := Nat.mul_le_mul (show p.2.length ≤ 2000 by omega) (show 2 * N + 1 ≤ 2001 by omega)
    omega
theorem FloorAt.off {C : Addr} {H : Hp} {p D : Addr} {F : Tri} {n : Nat} {xs : List V} (h : FloorAt C H p F n) (e : H D = some (.lst xs)) : FloorAt C (Ho D H) p F n := by
  refine ⟨?_, h.wf, fun q a pr z => ?_⟩
  · obtain ⟨dx, d, h1, h2⟩ := h.ob
    refine ⟨dx, d, ?_, h2⟩
    unfold Ho
    rw [if_neg fun z => by rw [z, e] at h1; cases h1]
    exact h1
  · obtain ⟨kvs, h1, h2⟩ := h.tri q a pr z
    refine ⟨kvs, ?_, h2⟩
    unfold Ho
    rw [if_neg fun z => by rw [z, e] at h1; cases h1]
    exact h1
/-- a floor of these situations -/
def FlU (CF : Addr) (H : Hp) (p : Addr) (Z : List Sn) : Prop := ∃ F n, FloorAt CF H p F n ∧ ∀ y, Und F y ↔ Ab (Z.map pk) y
theorem FlU.mono {CF : Addr} {H H' : Hp} {p : Addr} {Z : List Sn} (s : Same H H') (h : FlU CF H p Z) : FlU CF H' p Z := let ⟨F, n, f, u⟩ := h; ⟨F, n, f.mono s, u⟩
def slotN (σ : L2.St) (i : Nat) : Nat := match σ[i]? with
  | some (some (V.int z)) => z.toNat
  | _ => 0
theorem at_lastV {out : List V} {n : Nat} {u : V} (hl : out.length = n + 1) (hu : out[n]? = some u) : atI out (-1) = some u := by
  have e : out = out.take n ++ [u] := by
    rw [← take_snoc hu, List.take_of_length_le (by omega)]
  rw [e]
  exact atI_last _ _
theorem least_up {ms : List MvT} {bad : List Sn} : ∀ (t : Nat) {x : Sn}, Up ms bad t x → ∃ d, d ≤ t ∧ Up ms bad d x ∧ ∀ i, i < d → ¬ Up ms bad i x
  | 0, x, h => ⟨0, Nat.le_refl _, h, fun i hi => absurd hi (Nat.not_lt_zero i)⟩
  | t + 1, x, h => by
    by_cases c : Up ms bad t x
    · obtain ⟨d, h1, h2⟩ := least_up t c
      exact ⟨d, by omega, h2⟩
    · exact ⟨t + 1, Nat.le_refl _, h, fun i hi u => c (up_le (by omega) u)⟩
section
variable {P : Program} {w : World} {K : PySem.W.Frag} {mg : Str → Option Value} {base : Heap}
abbrev s_run_down : Stmt := topS 34
theorem sc_run_down : FnScope ["machine", "news", "situation", "floors", "left", "now", "run", "move", "fresh", "floor"] ["machine", "news", "situation"] (defScope s_run_down) := ⟨rfl, rfl, rfl, by decide +kernel, rfl, by decide +kernel, by decide +kernel⟩
-- run_down slots: machine=0 news=1 situation=2(cell) floors=3 left=4 now=5 run=6 move=7 fresh=8(None) floor=9(None) globals: first_move_above after
structure RunPre (lv N : Nat) (M : MT) (bad : List Sn) (Zs : List (List Sn)) (x : Sn) (d : Nat) : Prop where
  pl : M.places = N
  fit : ∀ m ∈ M.moves, m.Fit M.states N
  lb : Lens N bad
  news : News N M.moves bad Zs
  ok : Sok N x
  nlv : N < lv
  n1 : N ≤ 1000
  ml : M.moves.length ≤ 1000
  dl : d < Zs.length
  zl : Zs.length ≤ 1000001
  up : Up M.moves bad d x
  low : ∀ i, i < d → ¬ Up M.moves bad i x
def spRunD (K : PySem.W.Frag) (lv : Nat) : Sp := fun vs H Q _ => ∃ (v u : V) (na : Addr) (M : MT) (N d : Nat) (nxs : List V) (bad : List Sn) (Zs : List (List Sn)) (x : Sn), vs = [v, .ref na, u] ∧ Dp K H v M.data ∧ SqL K H na nxs ∧ Paired (fun w Z => ∃ fa fxs, w = V.ref fa ∧ SqL K H fa fxs ∧ DpAll K H fxs ((Z.map pk).map pkx)) nxs Zs ∧ Sit K H u x.1 x.2 ∧ RunPre lv N M bad Zs x d ∧
  ∀ H' p run, Same H H' → H p = none → H' p = some (.lst (run.map nV)) → Best M.moves bad d x run → Q (.ref p) H'
set_option maxHeartbeats 4000000 in
theorem fd_run_down {f CF : Addr} {fd : FuncData} {lv : Nat} (F : Fun K "run_down" "run_down" s_run_down f fd) (mm : mg "run_down" = some (.ref f)) (TF : TxtF K mg CF) (I_Floor : Mkr P w K mg base CF ["self", "situations"] 2 (spFInit K CF)) (M_is_under : Md P w K mg base CF "is_under" ["self", "situation"] (lv + 2) (spUnder K CF lv)) (D_packed : Fd P w K mg base "packed" ["situation"] 1 (spPackP K))
    (D_first_move_above : Fd P w K mg base "first_move_above" ["machine", "situation", "floor"] (lv + 3) (spFma K CF lv)) (D_after : Fd P w K mg base "after" ["machine", "situation", "move"] 2 (spAft K)) : Fd P w K mg base "run_down" ["machine", "news", "situation"] (lv + 4) (spRunD K lv) := by
  refine ⟨f, fd, F.ok sc_run_down (fun vs H Q E h => ?_) (fun cdv A outer s H vs Q E hr h => ?_), mm, F.kp, F.binds (ps := ["machine", "news", "situation"]) fun _ _ _ _ _ _ us hl => match us, hl with | [_, _, _], _ => rfl⟩
  · obtain ⟨v, u, na, M, N, d, nxs, bad, Zs, x, rfl, _⟩ := h
    rfl
  obtain ⟨v, u, na, M, N, d, nxs, bad, Zs, x, rfl, dM, hna, hnx, sx, pr, q⟩ := h
  have nw := pr.news
  have n1 := pr.n1
  have nlv := pr.nlv
  have zl := pr.zl
  have xl : nxs.length = Zs.length := Paired.length hnx
  refine ⟨_, (pss_cons (ps_setLc (i := 3) (own := [("fresh", 8)]) (g := gName 8) (by rfl) sc_run_down.nd rfl rfl (sw_true rfl rfl rfl (by decide +kernel)) (piL K (pv 1)) (blkOk_by (own := [("fresh", 8)]) (N := ["machine", "news", "situation", "floors", "left", "now", "run", "move", "fresh", "floor"]) (sc := (defScope s_run_down)) (by decide +kernel)) (fun _ _ _ _ _ => (pg_name (i := 8) sc_run_down.nd rfl (Or.inl rfl))) (fun _ _ _ _ _ => pts_nil) (fun _ _ _ _ _ => (pe_mkr I_Floor fun _ _ G mk b => pe_make mk G (hr.mono (by omega)) (by rfl) TF.mgC b .nil pass0 (pa_cons (pv 8) pa_nil))))
 (pss_cons (ps_set (i := 4) sc_run_down.nd rfl (Or.inl rfl) (peBm K PySem.F.plainAttrs_list PySem.F.slot_list_index PySem.F.type_list_index mt_index (pe_lc (own := [("floor", 9)]) (g := gName 9) (by rfl) sc_run_down.nd (piL K (pv 3)) (blkOk_by (own := [("floor", 9)]) (N := ["machine", "news", "situation", "floors", "left", "now", "run", "move", "fresh", "floor"]) (sc := (defScope s_run_down)) (by decide +kernel)) (fun _ _ _ _ _ => (pg_name (i := 9) sc_run_down.nd rfl (Or.inl rfl))) (fun _ _ _ _ _ => pts_nil) (fun _ _ _ _ _ => (pe_md M_is_under fun _ _ G hm b => pe_meth (pv 9) TF.cl hm G (hr.mono (by omega)) b .nil pass0 (pa_cons (pe_fn D_packed (hr.mono (by omega)) rfl (pa_cons (pv 2) pa_nil)) pa_nil)))) (pa_cons pe_bl pa_nil)))
 (pss_cons (ps_set (i := 5) sc_run_down.nd rfl (Or.inl rfl) (pv 2))
 (pss_cons (ps_set (i := 6) sc_run_down.nd rfl (Or.inl rfl) (pe_lst pa_nil))
 (pss_cons (ps_while PassesOwn.never (pt_cmpR op_gt (pv 4) pe_int (nomark _))
 (pss_cons (ps_aug (i := 4) sc_run_down.nd rfl (Or.inl rfl) pe_int ip_sub)
 (pss_cons (ps_set (i := 7) sc_run_down.nd rfl (Or.inl rfl) (pe_fn D_first_move_above (hr.mono (by omega)) rfl (pa_cons (pv 0) (pa_cons (pv 5) (pa_cons (pe_ix (ixL K) (pv 3) (pv 4) (fun _ _ => rfl)) pa_nil)))))
 (pss_cons (ps_expr (peBm K PySem.F.plainAttrs_list PySem.F.slot_list_append PySem.F.type_list_append mt_append (pv 6) (pa_cons (pv 7) pa_nil)))
 (pss_one (ps_set (i := 5) sc_run_down.nd rfl (Or.inl rfl) (pe_fn D_after (hr.mono (by omega)) rfl (pa_cons (pv 0) (pa_cons (pv 5) (pa_cons (pv 7) pa_nil))))))))))
 (pss_one (ps_ret (pv 6)))))))), ?_⟩
  -- floors
  refine ⟨_, rfl, na, rfl, ⟨nxs, hna⟩, fun D nD => lc_list (xs := nxs) (fun i H' => Same H H' ∧ ∃ fs : List Addr, H' D = some (.lst (fs.map V.ref)) ∧ Paired (FlU CF (Ho D H')) fs (Zs.take i)) ⟨same_new nD, [], upd_same, by rw [List.take_zero]; exact .nil⟩ (fun _ H' _ h => h.1.seq hna) ?_ ?_⟩
  · rintro i u' H' hu ⟨sm, fs, eD, pf⟩
    obtain ⟨Z, hZ, fa, fxs, rfl, hfa, dfx⟩ := paired_get hnx hu
    have Zm := List.mem_of_getElem? hZ
    have fl := Paired.length pf
    rw [List.length_take] at fl
    dsimp only [gName]
    refine ⟨rfl, yesT ?_⟩
    refine ⟨_, rfl, fun fo fdx nfo nfdx hne => ?_⟩
    have sA : Same H' (upd (upd H' fdx (.own fo)) fo (.ins CF fdx [])) := same_mk nfo nfdx
    refine ⟨fo, fa, fdx, fxs, Z.map pk, rfl, upd_same, (sm.trans sA).seq hfa, dpAll_mono (sm.trans sA) dfx, Nat.le_trans (szF_pk (nw.lens Z Zm)) (nw.sz Z Zm), anti_fre (nw.lens Z Zm) (nw.nn Z Zm) (nw.anti Z Zm) (nw.nd Z Zm), fun H2 FF floor fr nf un => ⟨rfl, ?_⟩⟩
    have s2 : Same H' H2 := fun c o h => fr c o (ne_of_none h nfo) (sA c o h)
    have eD2 := s2 _ _ eD
    refine ⟨_, eD2, ?_, Same.mut (sm.trans s2) nD, fs ++ [fo], by rw [upd_same, List.map_append]; rfl, ?_⟩
    · rw [List.length_map]
      exact szn (m := 1000001) (by omega) (by omega)
    · rw [take_snoc hZ]
      exact paired_snoc (R := FlU CF (Ho D (upd H2 D (.lst (fs.map V.ref ++ [.ref fo]))))) (FlU.mono ho_mut ⟨FF, _, floor.off eD2, un⟩) (Paired.mapP pf fun _ _ z => (z.mono (ho_same s2)).mono ho_mut)
  rintro H1 ⟨s1, fs, eD, pf⟩
  rw [xl, List.take_length] at pf
  have pf1 : Paired (FlU CF H1) fs Zs := Paired.mapP pf fun _ _ z => z.mono ho_out
  clear pf
  have fl := Paired.length pf1
  dsimp only [gName]
  -- the bits
  refine ⟨_, rfl, D, rfl, ⟨_, sq eD⟩, fun D2 nD2 => lc_list (xs := fs.map V.ref) (fun i H' => Same H1 H' ∧ H' D2 = some (.lst ((Zs.take i).map fun Z => V.bl (Z.any (covS x))))) ⟨same_new nD2, by rw [List.take_zero]; exact upd_same⟩ (fun _ H' _ h => sq (h.1 _ _ eD)) ?_ ?_⟩
  · rintro i u' H' hu ⟨sm, eD2⟩
    obtain ⟨p, hp, rfl⟩ : ∃ p, fs[i]? = some p ∧ u' = .ref p := by
      rw [List.getElem?_map] at hu
      cases e : fs[i]? with
      | none => rw [e] at hu; cases hu
      | some p => rw [e] at hu; exact ⟨p, rfl, (Option.some.inj hu).symm⟩
    obtain ⟨Z, hZ, FF, n, floor, un⟩ := paired_get pf1 hp
    have Zm := List.mem_of_getElem? hZ
    have il := (List.getElem?_eq_some_iff.mp hZ).1
    have floor' := floor.mono sm
    obtain ⟨dxf, df, hfo, _⟩ := floor'.ob
    dsimp only [gName]
    refine ⟨rfl, yesT ?_⟩
    refine ⟨_, rfl, p, dxf, _, rfl, hfo, fT_no _ (by decide +kernel), ?_⟩
    refine ⟨_, rfl, u, x.1, x.2, rfl, Same.sit (s1.trans sm) sx, by rw [pr.ok.1]; exact n1, fun H4 q4 t ps s4 dp4 _ _ _ => ?_⟩
    have pl := pkL_len 0 x.2
    rw [pr.ok.1] at pl
    refine ⟨p, .ref q4, FF, n, pk x, rfl, floor'.mono s4, dp4, Nat.lt_of_le_of_lt pl nlv, Nat.le_trans pl n1, fun H5 b s5 hb => ?_⟩
    have eb : Z.any (covS x) = b := by
      refine Bool.eq_iff_iff.mpr ?_
      rw [hb, un, ab_cov (nw.lens Z Zm) pr.ok.1 (nw.nn Z Zm) pr.ok.2, List.any_eq_true]
    have s45 := s4.trans s5
    refine ⟨_, s45 _ _ eD2, ?_, Same.mut (sm.trans s45) nD2, ?_⟩
    · rw [List.length_map, List.length_take]
      exact szn (m := 1000001) (by omega) (by omega)
    · rw [upd_same, take_snoc hZ, List.map_append, List.map_cons, eb]
      rfl
  rintro H2 ⟨s12, eD2⟩
  rw [List.length_map, fl, List.take_length] at eD2
  have dl := pr.dl
  have hZd : Zs[d]? = some Zs[d] := List.getElem?_eq_getElem dl
  have anyU : ∀ {j : Nat} {Z : List Sn}, Zs[j]? = some Z → Z.any (covS x) = true → Up M.moves bad j x := fun {j Z} hZ h => nw.und pr.fit pr.lb hZ pr.ok (List.any_eq_true.mp h)
  have flatB : ∀ b : Bool, flatV (.bl b) = true := fun b => rfl
  have allB : (Zs.map fun Z => V.bl (Z.any (covS x))).all flatV = true := List.all_eq_true.mpr fun z hz => by
    obtain ⟨Z, _, rfl⟩ := List.mem_map.mp hz
    rfl
  refine ⟨.inl ⟨rfl, _, sq eD2⟩, D2, Zs.map (fun Z => V.bl (Z.any (covS x))), .bl true, d, .bl (Zs[d].any (covS x)), rfl, rfl, sq eD2, rfl, allB, by rw [List.getElem?_map, hZd]; rfl, ?_, fun j z' hj hz' => ?_, ?_⟩
  · obtain ⟨z, hz, c⟩ := nw.cov d _ hZd x pr.ok pr.up pr.low
    rw [List.any_eq_true.mpr ⟨z, hz, c⟩]
    rfl
  · rw [List.getElem?_map] at hz'
    cases e : Zs[j]? with
    | none => rw [e] at hz'; cases hz'
    | some Z =>
      rw [e] at hz'
      obtain rfl := Option.some.inj hz'
      have : Z.any (covS x) = false := Bool.eq_false_iff.mpr fun h => pr.low j hj (anyU e h)
      show eqV (.bl (Z.any (covS x))) (.bl true) = false
      rw [this]
      rfl
  dsimp only [gName]
  refine ⟨_, rfl, szc 0, fun r nr => ?_⟩
  dsimp only [gName]
  have s2r := same_new (o := HO.lst []) nr
  have s02 := s1.trans s12
  have nrH := s02.free nr
  refine while_by (fun σ' H' => ∃ (d' : Nat) (y5 : V) (y7 : Option V) (done : List Nat) (y : Sn), σ' = [some v, some (.ref na), some u, some (.ref D), some (nV d'), some y5, some (.ref r), y7, none, none] ∧ Same H2 H' ∧ Sit K (Ho r H') y5 y.1 y.2 ∧ Sok N y ∧ H' r = some (.lst (done.map nV)) ∧ d' + done.length = d ∧ (∀ e, Best M.moves bad d' y e → Best M.moves bad d x (done ++ e)) ∧ Up M.moves bad d' y ∧ ∀ i, i < d' → ¬ Up M.moves bad i y) (fun σ' _ => slotN σ' 4) ⟨d, u, _, [], x, rfl, s2r, Same.sit (s02.trans (ho_first nr)) sx, pr.ok, upd_same, rfl, fun e h => h, pr.up, pr.low⟩ ?_ ?_
  · rintro σ' H3 ⟨d', y5, y7, done, y, rfl, s23, sy, oky, er, dd, best, up, low⟩
    refine ⟨_, rfl, _, _, rfl, rfl, _, rfl, ?_⟩
    by_cases c : d' = 0
    · subst c
      refine iteFx (decide_eq_false (by decide)) ?_
      have b := best [] rfl
      rw [List.append_nil] at b
      exact ⟨_, rfl, q H3 r done (s02.trans s23) nrH er b⟩
    · obtain ⟨e, rfl⟩ : ∃ e, d' = e + 1 := ⟨d' - 1, by omega⟩
      refine iteTx (decide_eq_true (by omega)) ?_
      refine ⟨_, rfl, _, _, rfl, rfl, ?_⟩
      dsimp only
      rw [show (((e + 1 : Nat) : Int) - 1) = ((e : Nat) : Int) by omega]
      have el : e < fs.length := by omega
      have hp : fs[e]? = some fs[e] := List.getElem?_eq_getElem el
      generalize fs[e] = p at hp
      obtain ⟨Z, hZ, FF, n, floor, un⟩ := paired_get pf1 hp
      have Zm := List.mem_of_getElem? hZ
      have s13 := s12.trans s23
      have s03 := s1.trans s13
      have eD3 := s13 _ _ eD
      have fitN : ∀ m ∈ M.moves, m.Fit M.states y.2.length := fun m hm => by rw [oky.1]; exact pr.fit m hm
      have stOf : ∀ m : MvT, m.can y.1 y.2 = true → y.1 = (m.st : Int) ∧ 0 < y.2.getD m.pl 0 := fun m hc => by
        unfold MvT.can at hc
        rw [Bool.and_eq_true] at hc
        exact ⟨(of_decide_eq_true hc.1).symm, of_decide_eq_true hc.2⟩
      have okA : ∀ m ∈ M.moves, m.can y.1 y.2 = true → Sok N (aftS m y) := fun m hm hc => aft_ok (pr.fit m hm) oky.1 oky.2 (stOf m hc).2
      have lowA : ∀ m ∈ M.moves, m.can y.1 y.2 = true → ∀ i, i < e → ¬ Up M.moves bad i (aftS m y) := fun m hm hc i hi h => low (i + 1) (by omega) (.inr ⟨m, hm, (stOf m hc).1, (stOf m hc).2, h⟩)
      have undI : ∀ m ∈ M.moves, m.can y.1 y.2 = true → (Und FF (pk (aftS m y)) ↔ Up M.moves bad e (aftS m y)) := fun m hm hc => by
        have ok := okA m hm hc
        rw [un, ab_cov (nw.lens Z Zm) ok.1 (nw.nn Z Zm) ok.2]
        exact ⟨fun h => nw.und pr.fit pr.lb hZ ok h, fun h => nw.cov e Z hZ _ ok h (lowA m hm hc)⟩
      have ex : ∃ m ∈ M.moves, m.can y.1 y.2 = true ∧ Und FF (pk (aftS m y)) := by
        rcases up with up | ⟨m, hm, e1, e2, e3⟩
        · exact absurd up (low e (Nat.lt_succ_self e))
        · have hc : m.can y.1 y.2 = true := by
            unfold MvT.can
            rw [decide_eq_true e1.symm, decide_eq_true e2]
            rfl
          exact ⟨m, hm, hc, (undI m hm hc).mpr e3⟩
      refine ⟨_, rfl, _, rfl, _, rfl, _, rfl, _, _, _, _, rfl, rfl, sq eD3, at_n (j := e) rfl (by rw [List.getElem?_map, hp]; rfl), v, y5, p, M, FF, n, y, rfl, dp_mono s03 dM, Same.sit ho_out sy, floor.mono s13, fitN, by rw [oky.1]; exact nlv, by rw [oky.1]; exact n1, pr.ml, ex, fun H4 k m s34 fm => ?_⟩
      dsimp only [gName]
      have er4 := s34 _ _ er
      have mm' := List.mem_of_getElem? fm.at'
      have fm2 : FirstM M.moves (fun z => Up M.moves bad e z) y k m := ⟨fm.at', fm.can, (undI m mm' fm.can).mp fm.und, fun k' lt m' hm' hc' h => fm.first k' lt m' hm' hc' ((undI m' (List.mem_of_getElem? hm') hc').mpr h)⟩
      refine ⟨_, rfl, .inl ⟨rfl, _, sq er4⟩, _, rfl, r, _, _, rfl, rfl, er4, szn (m := 1000001) (by rw [List.length_map]; omega) (by omega), ?_⟩
      have sy4 : Sit K (Ho r (upd H4 r (.lst (done.map nV ++ [nV k])))) y5 y.1 y.2 := Same.sit ((ho_same s34).trans ho_mut) sy
      have s25 : Same H2 (upd H4 r (.lst (done.map nV ++ [nV k]))) := Same.mut (s23.trans s34) nr
      have er5 : (upd H4 r (.lst (done.map nV ++ [nV k]))) r = some (.lst ((done ++ [k]).map nV)) := by rw [upd_same, List.map_append]; rfl
      generalize upd H4 r (.lst (done.map nV ++ [nV k])) = H5 at sy4 s25 er5 ⊢
      refine ⟨_, rfl, _, rfl, _, rfl, v, y5, M, k, m, y.1, y.2, rfl, dp_mono (s02.trans s25) dM, Same.sit ho_out sy4, fm.at', fm.can, fitN m mm', fun H6 q6 s56 new => ?_⟩
      refine ⟨⟨e, .ref q6, _, done ++ [k], aftS m y, rfl, s25.trans s56, new.hoS er5, okA m mm' fm.can, s56 _ _ er5, by rw [List.length_append, List.length_singleton]; omega, fun rr b => ?_, fm2.und, lowA m mm' fm.can⟩, ?_⟩
      · rw [List.append_assoc]
        exact best (k :: rr) ⟨k, m, rr, rfl, fm2, b⟩
      · show ((e : Int)).toNat < (((e + 1 : Nat) : Int)).toNat
        omega
  · intro σ' H' Q1 Q2 mono h
    obtain ⟨z, hz, i, j, h1, h2, k, hk, h⟩ := h
    exact ⟨z, hz, i, j, h1, h2, k, hk, mono _ _ h⟩
end
abbrev Sp2 := Int × List Int
def oV : Option Int → V
  | none => .non
  | some i => .int i
theorem oV_non {m : Option Int} : decide (oV m = .non) = m.isNone := by
  cases m with
  | none => rfl
  | some i => exact decide_eq_false fun z => by cases z
/-! ### min(xs, default=d) of whole numbers -/
section
open PySem.Sem
variable {prog : Program} {w : World} {A : Around} {R : Result → Shared → Prop} {I : Addr} {fp wr : List Addr} {n : Nat} {P : Nat → Value → Prop} {St : Nat → Heap → Prop}
theorem mind_loop {d : Value} (W : Walks prog w A.in1 I fp wr n P St) (bt : Nat → Nat → Bool) (cmp : CmpOf prog w A.in1 .Lt P bt) (S : Addr) (hS : S ∉ fp) :
    ∀ (k j : Nat) (s : Shared) (old : Array Value) (c : Nat), n - j = k → j ≤ n → St j s.heap → s.heap.get? S = some { cls := .type "list", dict := none, data := .seq old c, slots := #[] } →
    ((old = #[] ∧ j = 0) ∨ ∃ v, old = #[v, v] ∧ 1 ≤ j ∧ P (argBest bt (j - 1)) v) →
    (n = 0 → ∀ h' tk, (∀ b o, b ∉ wr → b ≠ S → s.heap.get? b = some o → h'.get? b = some o) → R (.ok (.ret d)) { s with heap := h', toks := tk }) →
    (0 < n → ∀ v h' tk, P (argBest bt (n - 1)) v → (∀ b o, b ∉ wr → b ≠ S → s.heap.get? b = some o → h'.get? b = some o) → R (.ok (.ret v)) { s with heap := h', toks := tk }) →
    codeAny (model prog w) A (.builtin "min.loop" ⟨[.ref I, .none, .ref S], [("default", d)]⟩) R s := by
  have Sw : S ∉ wr := fun h => hS (W.sub _ h)
  have nm : (toString "min" ++ toString ".loop" : String) = "min.loop" := by decide
  intro k
  induction k with
  | zero =>
    intro j s old c ek hj hst eS st r0 r1
    obtain rfl : j = n := by omega
    refine codeAny_builtin PySem.F.entry_min_loop ?_
    rw [Around.under_plainId PySem.F.plain_min_loop _]
    refine wpAny_bind (m := seqItems? (.ref S)) (wpAny_seqItems eS rfl ?_)
    refine wpAny_bind (wpAny_tryCatch (W.done s _ _ hst fun h' tk k1 => ?_))
    have eS' := k1 S _ Sw eS
    rcases st with ⟨rfl, rfl⟩ | ⟨v, rfl, h1, hP⟩
    · refine wpAny_bind (wpAny_rule (wpAny_pure (r0 rfl h' tk fun b o hw _ e => k1 b o hw e)))
    · refine wpAny_bind (m := updateSeq S (fun _ => #[])) ?_
      refine wpAny_updateSeq eS' rfl (wpAny_bind (wpAny_letGo (wpAny_pure ?_)))
      exact r1 (by omega) v _ tk hP fun b o hw hb e => (Heap.get?_update_other _ _ (Ne.symm hb)).trans (k1 b o hw e)
  | succ k ih =>
    intro j s old c ek hj hst eS st r0 r1
    have lt : j < n := by omega
    refine codeAny_builtin PySem.F.entry_min_loop ?_
    rw [Around.under_plainId PySem.F.plain_min_loop _]
    refine wpAny_bind (m := seqItems? (.ref S)) (wpAny_seqItems eS rfl ?_)
    refine wpAny_bind (wpAny_tryCatch (W.item j s _ _ lt hst fun v h' tk hP hst' k1 => ?_))
    have eS' := k1 S _ Sw eS
    have keep : ∀ {h2 : Heap}, (∀ b o, b ∉ wr → b ≠ S → h'.get? b = some o → h2.get? b = some o) → ∀ b o, b ∉ wr → b ≠ S → s.heap.get? b = some o → h2.get? b = some o := fun k2 b o hw hb e => k2 b o hw hb (k1 b o hw e)
    have upS : ∀ (x : Array Value) b o, b ≠ S → h'.get? b = some o → (h'.update S (Obj.mapSeq fun _ => x)).get? b = some o := fun x b o hb e => (Heap.get?_update_other _ _ (Ne.symm hb)).trans e
    have go : ∀ (x : Value), P (argBest bt j) x → (∀ (u : Unit), True) → codeAny (model prog w) A (.builtin "min.loop" ⟨[.ref I, .none, .ref S], [("default", d)]⟩) R { s with heap := h'.update S (Obj.mapSeq fun _ => #[x, x]), toks := tk } := fun x hx _ =>
      ih (j + 1) _ #[x, x] _ (by omega) (by omega) (W.frame _ _ _ hst' fun b hb o e => upS _ b o (fun z => hS (z ▸ hb)) e) (Heap.get?_update_self _ eS' rfl) (.inr ⟨x, rfl, by omega, by rw [Nat.add_sub_cancel]; exact hx⟩)
        (fun z => absurd z (by omega)) fun h0 v' h2 tk2 hP2 k2 => r1 h0 v' h2 tk2 hP2 fun b o hw hb e => k2 b o hw hb (upS _ b o hb (k1 b o hw e))
    rcases st with ⟨rfl, rfl⟩ | ⟨vb, rfl, h1, hPb⟩
    · refine wpAny_bind (m := updateSeq S (fun _ => #[v, v])) ?_
      refine wpAny_updateSeq eS' rfl ?_
      rw [nm]
      exact wpAny_pure ⟨plainId_quiet PySem.F.plain_min_loop _, go v hP fun _ => trivial⟩
    · refine wpAny_bind (wpAny_pure ?_)
      refine wpAny_bind (wpAny_tryCatch (wpAny_holding (wpAny_bind (cmp j (argBest bt (j - 1)) v vb _ _ _ hP hPb (wpAny_bind (wpAny_holding (wpAny_truthy_bool (wpAny_bind (wpAny_letGo (wpAny_pure ?_))))))))))
      have ab : argBest bt j = if bt j (argBest bt (j - 1)) then j else argBest bt (j - 1) := by
        obtain ⟨i, rfl⟩ : ∃ i, j = i + 1 := ⟨j - 1, by omega⟩
        rfl
      cases hb : bt j (argBest bt (j - 1)) with
      | true =>
        rw [hb, if_pos rfl] at ab
        simp only [if_true]
        refine wpAny_bind (m := updateSeq S (fun _ => #[v, v])) ?_
        refine wpAny_updateSeq eS' rfl (wpAny_bind (wpAny_letGo ?_))
        rw [nm]
        exact wpAny_pure ⟨plainId_quiet PySem.F.plain_min_loop _, go v (by rw [ab]; exact hP) fun _ => trivial⟩
      | false =>
        rw [hb] at ab
        simp only [Bool.false_eq_true, if_false] at ab ⊢
        refine wpAny_bind (wpAny_letGo ?_)
        rw [nm]
        refine wpAny_pure ⟨plainId_quiet PySem.F.plain_min_loop _, ih (j + 1) _ #[vb, vb] c (by omega) (by omega) hst' eS' (.inr ⟨vb, rfl, by omega, by rw [Nat.add_sub_cancel, ab]; exact hPb⟩) (fun z => absurd z (by omega)) fun h0 v' h2 tk2 hP2 k2 => ?_⟩
        exact r1 h0 v' h2 tk2 hP2 fun b o hw hb e => k2 b o hw hb (k1 b o hw e)
theorem mind_args (a d : Value) : argsOk "min" ⟨[a], [(Str.ofString "default", d)]⟩ := by unfold argsOk; kernel_rfl
theorem call_mind {E : Value → Shared → Prop} {s : Shared} {l : Addr} {d : Value} {xs : Array (Int × Tok)} {Q : Value → Shared → Prop} (hh : A.handled = none) (hl : s.heap.IsList l (intItems xs))
    (h0 : xs.size = 0 → ∀ h' tk, (∀ b o, s.heap.get? b = some o → h'.get? b = some o) → Q d { s with heap := h', toks := tk })
    (h1 : 0 < xs.size → ∀ v h' tk, (intItems xs)[argBest (fun i j => decide (numAt xs i < numAt xs j)) (xs.size - 1)]? = some v → (∀ b o, s.heap.get? b = some o → h'.get? b = some o) → Q v { s with heap := h', toks := tk }) :
    wpAny (model prog w) A (call (.builtin "min") [.ref l] [(Str.ofString "default", d)]) Q E s := by
  have nm : (toString "min" ++ toString ".loop" : String) = "min.loop" := by decide
  refine PyProof.Rows.kmk_tree PySem.F.kind_min PySem.F.plain_min PySem.F.entry_min (mind_args _ _) ?_
  refine wpAny_bind (wpAny_of_eq (show Builtin.Builtins.bindParams "min" ["key", "default"] 0 ⟨[], [(Str.ofString "default", d)]⟩ = pure [none, some d] from rfl) ?_)
  refine wpAny_bind (wpAny_pure ?_)
  refine wpAny_bind (iter_intList hl fun s2 e st hfp hlI => ?_)
  subst e
  refine wpAny_bind (wpAny_newObj_type ?_)
  rw [nm]
  have sz : (intItems xs).size = xs.size := by simp [intItems]
  have W := Walks.list (prog := prog) (w := w) (A := A.in1) hh s.heap.objs.size l hlI (intItems xs)
  have kept := @old_kept s l
  refine wpAny_pure ⟨plainId_quiet PySem.F.plain_min_loop _, ?_⟩
  refine mind_loop W _ (CmpOf.ints_lt (numAt xs) fun _ _ => intItems_at) (s.heap.push { cls := .type "list_iterator", data := .fields #[.ref l, .int 0 0] }).objs.size (fun hm => Nat.lt_irrefl _ (hfp _ hm)) _ 0 _ #[] _ rfl (Nat.zero_le _) (W.frame _ _ _ st fun b _ o e => Heap.get?_push_of_some _ e) (Heap.get?_push_size _ rfl) (.inl ⟨rfl, rfl⟩)
    (fun z h' tk k1 => h0 (by rw [← sz]; exact z) h' tk (kept fun b o hb e => k1 b o hb (Nat.ne_of_lt (Heap.lt_size e)) (Heap.get?_push_of_some _ e)))
    (fun z v h' tk hP k1 => h1 (by rw [← sz]; exact z) v h' tk (by rw [sz] at hP; exact hP) (kept fun b o hb e => k1 b o hb (Nat.ne_of_lt (Heap.lt_size e)) (Heap.get?_push_of_some _ e)))
end
section
variable {X : Cx}
def rMinD (K : PySem.W.Frag) : List V → List V → Hp → VK → Prop := fun vs zs H Q => ∃ (a : Addr) (ns : List Int), vs = [V.ref a] ∧ zs = [.non] ∧ SqL K H a (ns.map V.int) ∧ (ns = [] → Q .non H) ∧ ∀ m, m ∈ ns → (∀ y, y ∈ ns → m ≤ y) → Q (.int m) H
theorem cr_minD (hc : X.calm = true) : CallRK X (.builtin "min") [Str.ofString "default"] (rMinD X.K) := by
  intro pins s σ H vs zs us ws Q I r rz h
  obtain ⟨a, ns, rfl, rfl, hs, q0, q1⟩ := h
  obtain rfl := Vals.ref1 r
  obtain ⟨w1, rfl, e1⟩ := vals1 rz
  obtain rfl : w1 = Value.none := e1
  obtain ⟨its, rv, hl, _⟩ := I.list hs
  have hi := rv.ints
  obtain ⟨xs, e⟩ := hi.allInts.items
  have ens : (intItems xs).toList = its := by rw [← e]
  have hn : numsOf (intItems xs).toList = ns := by rw [ens]; exact hi.numsOf
  rw [nums_intItems] at hn
  have hL := hl.isList
  rw [e] at hL
  have ln : xs.size = ns.length := by rw [← hn]; simp
  refine call_mind (I.ok.hd hc) hL (fun z h' tk k => ?_) fun z v h' tk hv k => ?_
  · exact ⟨.non, H, I.kept k, rfl, q0 (List.length_eq_zero_iff.mp (by omega))⟩
  · obtain ⟨t, rfl⟩ := intItems_at hv
    obtain ⟨m1, m2⟩ := argBest_lt (numAt xs) (xs.size - 1)
    refine ⟨.int _, H, I.kept k, ⟨_, rfl⟩, q1 _ ?_ fun y hy => ?_⟩
    · rw [numAt_eq, ← hn]
      exact PySem.getD_mem (by rw [List.length_map, Array.length_toList]; omega)
    · rw [← hn] at hy
      obtain ⟨j, hj, rfl⟩ := mem_getD hy
      rw [List.length_map, Array.length_toList] at hj
      rw [← numAt_eq]
      exact m2 j (by omega)
theorem cMinD (K : PySem.W.Frag) (hc : X.calm = true) (h : X.K = K := by rfl) : CallRK X (.builtin "min") [Str.ofString "default"] (rMinD K) := h ▸ cr_minD hc
end
/-! ### the least crew -/
def mx0 (z : Int) : Int := if z > 0 then z else 0
def butOk (cr : Nat) (sc cs : List Int) : Bool := (List.range cs.length).all fun i => decide (i = cr) || decide (cs.getD i 0 ≤ sc.getD i 0)
def crewOf (ss : Int) (sc : List Int) (cr : Nat) (e : Sp2) : Option Int := if e.1 = ss ∧ butOk cr sc e.2 = true then some (mx0 (e.2.getD cr 0 - sc.getD cr 0)) else none
/-- o is the least of the numbers, if there are any -/
def DueOk (o : Option Int) (xs : List Int) : Prop := match o with
  | none => xs = []
  | some m => m ∈ xs ∧ ∀ y ∈ xs, m ≤ y
theorem DueOk.uniq {o p : Option Int} {xs : List Int} (h : DueOk o xs) (h' : DueOk p xs) : o = p := by
  cases o with
  | none =>
    cases p with
    | none => rfl
    | some m =>
      have e : xs = [] := h
      rw [e] at h'
      exact nomatch h'.1
  | some m =>
    cases p with
    | none =>
      have e : xs = [] := h'
      rw [e] at h
      exact nomatch h.1
    | some n =>
      have a := h.2 n h'.1
      have b := h'.2 m h.1
      rw [show m = n by omega]
theorem DueOk.none' {xs : List Int} (h : DueOk none xs) : xs = [] := h
theorem DueOk.snoc {o : Option Int} {xs : List Int} {z : Int} (h : DueOk o xs) : DueOk (if (match o with | none => true | some m => decide (z < m)) = true then some z else o) (xs ++ [z]) := by
  cases o with
  | none =>
    have e : xs = [] := h
    subst e
    exact ⟨List.mem_cons_self, fun y hy => by rw [List.mem_singleton.mp hy]; exact Int.le_refl _⟩
  | some m =>
    dsimp only
    split
    · rename_i e
      have := of_decide_eq_true e
      exact ⟨List.mem_append_right _ List.mem_cons_self, fun y hy => by
        rcases List.mem_append.mp hy with hy | hy
        · have := h.2 y hy; omega
        · rw [List.mem_singleton.mp hy]; exact Int.le_refl _⟩
    · rename_i e
      have : ¬ z < m := fun q => e (decide_eq_true q)
      exact ⟨List.mem_append_left _ h.1, fun y hy => by
        rcases List.mem_append.mp hy with hy | hy
        · exact h.2 y hy
        · rw [List.mem_singleton.mp hy]; omega⟩
theorem geAll_iff : ∀ {ms ns : List Int}, ms.length = ns.length → (geAll ms ns = true ↔ ∀ i, i < ns.length → ns.getD i 0 ≤ ms.getD i 0)
  | [], [], _ => ⟨fun _ i h => absurd h (Nat.not_lt_zero _), fun _ => rfl⟩
  | m :: ms, n :: ns, h => by
    have ih := geAll_iff (ms := ms) (ns := ns) (Nat.succ.inj h)
    show (decide (n ≤ m) && geAll ms ns) = true ↔ _
    rw [Bool.and_eq_true, decide_eq_true_eq, ih]
    constructor
    · rintro ⟨h1, h2⟩ i hi
      cases i with
      | zero => exact h1
      | succ i => exact h2 i (Nat.lt_of_succ_lt_succ hi)
    · intro h
      exact ⟨h 0 (Nat.succ_pos _), fun i hi => h (i + 1) (Nat.succ_lt_succ hi)⟩
theorem getD_set {cs : List Int} {k i : Nat} {z : Int} (hk : k < cs.length) : (cs.set k z).getD i 0 = if i = k then z else cs.getD i 0 := by
  rw [List.getD_eq_getElem?_getD, List.getElem?_set]
  by_cases e : k = i
  · subst e
    rw [if_pos rfl, if_pos rfl, if_pos hk]
    rfl
  · rw [if_neg e, if_neg (fun z => e z.symm), List.getD_eq_getElem?_getD]
theorem butOk_iff {cr : Nat} {sc cs : List Int} : butOk cr sc cs = true ↔ ∀ i, i < cs.length → i ≠ cr → cs.getD i 0 ≤ sc.getD i 0 := by
  unfold butOk
  rw [List.all_eq_true]
  constructor
  · intro h i hi ne
    have := h i (List.mem_range.mpr hi)
    rw [decide_eq_false ne, Bool.false_or] at this
    exact of_decide_eq_true this
  · intro h i hi
    by_cases e : i = cr
    · rw [decide_eq_true e]; rfl
    · rw [decide_eq_false e, Bool.false_or]
      exact decide_eq_true (h i (List.mem_range.mp hi) e)
theorem cov_crew {ss : Int} {sc : List Int} {cr : Nat} {e : Sp2} (hl : sc.length = e.2.length) (hc : cr < sc.length) : covB ss (sc.set cr (sc.getD cr 0 + mx0 (e.2.getD cr 0 - sc.getD cr 0))) e.1 e.2 = (crewOf ss sc cr e).isSome := by
  unfold covB crewOf
  have key : geAll (sc.set cr (sc.getD cr 0 + mx0 (e.2.getD cr 0 - sc.getD cr 0))) e.2 = butOk cr sc e.2 := by
    rw [Bool.eq_iff_iff, geAll_iff (by rw [List.length_set]; exact hl), butOk_iff]
    constructor
    · intro h i hi ne
      have := h i hi
      rw [getD_set hc, if_neg ne] at this
      exact this
    · intro h i hi
      rw [getD_set hc]
      by_cases e1 : i = cr
      · rw [if_pos e1, e1]
        unfold mx0
        split <;> omega
      · rw [if_neg e1]
        exact h i hi e1
  rw [key]
  by_cases h1 : e.1 = ss
  · rw [decide_eq_true h1.symm, Bool.true_and]
    by_cases h2 : butOk cr sc e.2 = true
    · rw [if_pos ⟨h1, h2⟩, h2]; rfl
    · rw [if_neg (fun z => h2 z.2)]
      cases h3 : butOk cr sc e.2 with
      | true => exact absurd h3 h2
      | false => rfl
  · rw [decide_eq_false (fun z => h1 z.symm), if_neg (fun z => h1 z.1)]
    rfl
section
variable {P : Program} {w : World} {K : PySem.W.Frag} {mg : Str → Option Value} {base : Heap}
abbrev s_crew_for : Stmt := topS 31
theorem sc_crew_for : FnScope ["machine", "situation", "state", "counts", "crew", "place", "count"] ["machine", "situation"] (defScope s_crew_for) := ⟨rfl, rfl, rfl, by decide +kernel, rfl, by decide +kernel, by decide +kernel⟩
-- crew_for slots: machine=0 situation=1 state=2 counts=3 crew=4 place=5 count=6 globals: enumerate max
def spCrewFor (K : PySem.W.Frag) : Sp := fun vs H Q _ => ∃ (x y : V) (M : MT) (e : Sp2), vs = [x, y] ∧ Dp K H x M.data ∧ Sit K H y e.1 e.2 ∧ M.cnts.length = e.2.length ∧ M.crew < M.cnts.length ∧ ∀ H', Same H H' → Q (oV (crewOf (M.sst : Int) M.cnts M.crew e)) H'
theorem fd_crew_for {f : Addr} {fd : FuncData} (F : Fun K "crew_for" "crew_for" s_crew_for f fd) (m : mg "crew_for" = some (.ref f)) (B : Bt mg) : Fd P w K mg base "crew_for" ["machine", "situation"] 1 (spCrewFor K) := by
  refine ⟨f, fd, F.ok sc_crew_for (fun vs H Q E h => ?_) (fun cdv A outer s H vs Q E hr h => ?_), m, F.kp, F.binds (ps := ["machine", "situation"]) fun _ _ _ _ _ _ us hl => match us, hl with | [_, _], _ => rfl⟩
  · obtain ⟨x, y, M, e, rfl, _⟩ := h
    rfl
  obtain ⟨x, y, M, ⟨t, cs⟩, rfl, hd, ⟨a, ca, rfl, ha, hca⟩, hl, hc, q⟩ := h
  obtain ⟨am, sv, ma, xm, rfl, ham, ⟨b, cb, rfl, hb, hcb⟩, _, _⟩ := dp_mt hd
  dsimp only at ha hca hl q
  refine ⟨_, (pss_cons (ps_asg (pe_ix (ixT K) (pv 0) pe_int (fun _ _ => rfl)) (pg_tup rfl (pgs_cons (pg_name (i := 2) sc_crew_for.nd rfl (Or.inl rfl)) (pgs_cons (pg_name (i := 3) sc_crew_for.nd rfl (Or.inl rfl)) pgs_nil))))
 (pss_cons (ps_if (pt_cmpR op_ne (pv 2) (pe_ix (ixT K) (pv 1) pe_int (fun _ _ => rfl)) (nomark _))
 (pss_one (ps_ret pe_non))
 pss_nil)
 (pss_cons (ps_set (i := 4) sc_crew_for.nd rfl (Or.inl rfl) (pe_ix (ixT K) (pv 0) pe_int (fun _ _ => rfl)))
 (pss_cons (ps_for PassesOwn.never rfl (pi_enum (by rfl) B.enumerate (pa_cons (pe_ix (ixT K) (pv 1) pe_int (fun _ _ => rfl)) pa_nil)) (pg_tup rfl (pgs_cons (pg_name (i := 5) sc_crew_for.nd rfl (Or.inl rfl)) (pgs_cons (pg_name (i := 6) sc_crew_for.nd rfl (Or.inl rfl)) pgs_nil)))
 (pss_one (ps_if (PW.pt (pw_and (pt_cmpR op_ne (pv 5) (pv 4) (nomark _)) (pw_and1 (pt_cmpR op_lt (pe_ix (ixL K) (pv 3) (pv 5) (fun _ _ => rfl)) (pv 6) (nomark _)))))
 (pss_one (ps_ret pe_non))
 pss_nil)))
 (pss_one (ps_ret (pe_callB (call_max2 rfl) (by rfl) B.max (by decide +kernel) (pa_cons pe_int (pa_cons (pe_op op_sub (pe_ix (ixL K) (pe_ix (ixT K) (pv 1) pe_int (fun _ _ => rfl)) (pv 4) (fun _ _ => rfl)) (pe_ix (ixL K) (pv 3) (pv 4) (fun _ _ => rfl))) pa_nil))))))))), ?_⟩
  refine ⟨_, rfl, _, _, _, _, rfl, rfl, ham, atI_nat (j := 2) rfl, b, _, rfl, hb, rfl, _, _, rfl, _, _, rfl, rfl, ?_⟩
  dsimp only [gName]
  refine ⟨_, rfl, _, rfl, _, _, _, _, rfl, rfl, ha, atI_nat (j := 0) rfl, rfl, _, rfl, ?_⟩
  rw [int_eqE]
  by_cases est : (M.sst : Int) = t
  · rw [decide_eq_true est]
    refine iteF ?_
    refine ⟨_, rfl, _, _, _, _, rfl, rfl, ham, atI_nat (j := 3) rfl, ?_⟩
    dsimp only [gName]
    have ll : (cs.map V.int).length = cs.length := List.length_map _
    refine ⟨_, rfl, _, _, _, _, rfl, rfl, ha, atI_nat (j := 1) rfl, ca, _, rfl, hca, for_it (walk_enum (K := K) (xs := cs.map V.int)) (fun i σ' H' => ∃ y5 y6 : Option V, σ' = [some (.ref am), some (.ref a), some (.int (M.sst : Int)), some (.ref cb), some (nV M.crew), y5, y6] ∧ Same H H' ∧ ∀ j, j < i → j ≠ M.crew → cs.getD j 0 ≤ M.cnts.getD j 0) ⟨none, none, rfl, Same.refl _, fun j hj => absurd hj (Nat.not_lt_zero _)⟩ (fun i σ' H' _ h => ?_) ?_ ?_⟩
    · obtain ⟨_, _, _, sm, _⟩ := h
      exact sm.seq hca
    · rintro i x σ' H' H2 hi ⟨y5, y6, rfl, sm, g⟩ ⟨T, x1, x2, rfl, nT, rfl, e1, e2⟩
      cases e1
      obtain ⟨z, hz, rfl⟩ := get_map_inv e2
      rw [ll] at hi
      have ez : z = cs.getD i 0 := by rw [gd hi] at hz; exact (Option.some.inj hz).symm
      subst ez
      have sm2 := sm.trans (same_new (o := HO.tup [V.int (i : Int), V.int (cs.getD i 0)]) nT)
      refine ⟨T, _, rfl, st upd_same, rfl, _, _, rfl, _, _, rfl, rfl, ?_⟩
      dsimp only [gName]
      have ok : (i = M.crew ∨ cs.getD i 0 ≤ M.cnts.getD i 0) → ∀ j, j < i + 1 → j ≠ M.crew → cs.getD j 0 ≤ M.cnts.getD j 0 := fun h j hj ne => by
        by_cases e : j = i
        · subst e
          rcases h with h | h
          · exact absurd h ne
          · exact h
        · exact g j (by omega) ne
      refine ⟨_, rfl, _, rfl, rfl, _, rfl, ?_⟩
      rw [int_eqE]
      by_cases ei : (i : Int) = (M.crew : Int)
      · rw [decide_eq_true ei]
        exact iteF (iteF ⟨_, _, rfl, sm2, ok (.inl (by omega))⟩)
      · rw [decide_eq_false ei]
        refine iteT ⟨_, rfl, _, rfl, _, _, _, _, rfl, rfl, sm2.seq hcb, at_gd rfl (by omega), _, rfl, _, _, rfl, rfl, _, rfl, ite2 (fun e => ?_) (fun e => ?_)⟩
        · have e1 := of_decide_eq_true e
          have : crewOf (M.sst : Int) M.cnts M.crew (t, cs) = none := by
            unfold crewOf
            rw [if_neg (fun z => by have : cs.getD i 0 ≤ M.cnts.getD i 0 := butOk_iff.mp z.2 i hi (by omega); omega)]
          have q' := q _ sm2
          rw [this] at q'
          exact q'
        · have e1 : ¬ M.cnts.getD i 0 < cs.getD i 0 := fun z => e (decide_eq_true z)
          exact ⟨_, _, rfl, sm2, ok (.inr (by omega))⟩
    · rintro σ' H' ⟨y5, y6, rfl, sm, g⟩
      rw [ll] at g
      have : crewOf (M.sst : Int) M.cnts M.crew (t, cs) = some (mx0 (cs.getD M.crew 0 - M.cnts.getD M.crew 0)) := by
        unfold crewOf
        rw [if_pos ⟨est.symm, butOk_iff.mpr fun i hi ne => g i hi ne⟩]
      have q' := q _ sm
      rw [this] at q'
      exact ⟨_, rfl, _, _, _, _, rfl, rfl, Same.seqT sm ha, atI_nat (j := 1) rfl, _, rfl, _, _, _, _, rfl, rfl, sm.seq hca, at_gd rfl (by omega), _, rfl, _, rfl, _, _, _, _, rfl, rfl, sm.seq hcb, at_gd rfl hc, _, _, rfl, rfl, _, _, rfl, q'⟩
  · rw [decide_eq_false est]
    have : crewOf (M.sst : Int) M.cnts M.crew (t, cs) = none := by
      unfold crewOf
      rw [if_neg (fun z => est z.1.symm)]
    have q' := q _ (Same.refl _)
    rw [this] at q'
    exact iteT q'
abbrev s_least_crew : Stmt := topS 30
theorem sc_least_crew : FnScope ["machine", "chosen", "crews", "situation", "crew"] ["machine", "chosen"] (defScope s_least_crew) := ⟨rfl, rfl, rfl, by decide +kernel, rfl, by decide +kernel, by decide +kernel⟩
-- least_crew slots: machine=0(cell) chosen=1 crews=2 situation=3(None) crew=4(None) globals: min
def spLeastCrew (K : PySem.W.Frag) : Sp := fun vs H Q _ => ∃ (x : V) (a : Addr) (M : MT) (xs : List V) (bs : List Sp2), vs = [x, .ref a] ∧ Dp K H x M.data ∧ SqL K H a xs ∧ DpAll K H xs (bs.map fun b => sitD b.1 b.2) ∧ (∀ b ∈ bs, b.2.length = M.cnts.length) ∧ M.crew < M.cnts.length ∧ bs.length ≤ 90000 ∧
  ∀ H' o, Same H H' → DueOk o (bs.filterMap (crewOf (M.sst : Int) M.cnts M.crew)) → Q (oV o) H'
theorem fm_snoc {α β : Type} {f : α → Option β} {xs : List α} {i : Nat} {x : α} (h : xs[i]? = some x) : (xs.take (i + 1)).filterMap f = (xs.take i).filterMap f ++ (match f x with | some y => [y] | none => []) := by
  rw [take_snoc h, List.filterMap_append]
  congr 1
  rw [List.filterMap_cons]
  cases f x <;> rfl
theorem fd_least_crew {f : Addr} {fd : FuncData} (F : Fun K "least_crew" "least_crew" s_least_crew f fd) (m : mg "least_crew" = some (.ref f)) (B : Bt mg) (D_crew_for : Fd P w K mg base "crew_for" ["machine", "situation"] 1 (spCrewFor K)) : Fd P w K mg base "least_crew" ["machine", "chosen"] 2 (spLeastCrew K) := by
  refine ⟨f, fd, F.ok sc_least_crew (fun vs H Q E h => ?_) (fun cdv A outer s H vs Q E hr h => ?_), m, F.kp, F.binds (ps := ["machine", "chosen"]) fun _ _ _ _ _ _ us hl => match us, hl with | [_, _], _ => rfl⟩
  · obtain ⟨x, a, M, xs, bs, rfl, _⟩ := h
    rfl
  obtain ⟨x, a, M, xs, bs, rfl, hd, ha, hx, hl, hc, hb, q⟩ := h
  have xl := dpa_map_len hx
  refine ⟨_, (pss_cons (ps_setLc (i := 2) (own := [("situation", 3)]) (g := gName 3) (by rfl) sc_least_crew.nd rfl rfl (sw_true rfl rfl rfl (by decide +kernel)) (piL K (pv 1)) (blkOk_by (own := [("situation", 3)]) (N := ["machine", "chosen", "crews", "situation", "crew"]) (sc := (defScope s_least_crew)) (by decide +kernel)) (fun _ _ _ _ _ => (pg_name (i := 3) sc_least_crew.nd rfl (Or.inl rfl))) (fun _ _ _ _ _ => pts_nil) (fun _ _ _ _ _ => (pe_fn D_crew_for (hr.mono (by decide)) rfl (pa_cons (pv 0) (pa_cons (pv 3) pa_nil)))))
 (pss_one (ps_ret ((pe_callBK (cMinD K rfl) (by rfl) B.min (by decide +kernel) (pa_cons (pe_lc (own := [("crew", 4)]) (g := gName 4) (by rfl) sc_least_crew.nd (piL K (pv 2)) (blkOk_by (own := [("crew", 4)]) (N := ["machine", "chosen", "crews", "situation", "crew"]) (sc := (defScope s_least_crew)) (by decide +kernel)) (fun _ _ _ _ _ => (pg_name (i := 4) sc_least_crew.nd rfl (Or.inl rfl))) (fun _ _ _ _ _ => (pts_one (pt_cmpR op_notN (pv 4) pe_non (nomark _)))) (fun _ _ _ _ _ => (pv 4))) pa_nil) (pk_cons pe_non pk_nil)))))), ?_⟩
  generalize hcf : crewOf (M.sst : Int) M.cnts M.crew = cf at q
  refine ⟨_, rfl, a, rfl, ⟨_, ha⟩, fun D nD => lc_list (xs := xs) (fun i H' => Same H H' ∧ H' D = some (.lst ((bs.take i).map fun b => oV (cf b)))) ⟨same_new nD, upd_same⟩ (fun _ H' _ h => h.1.seq ha) ?_ ?_⟩
  · rintro i u H' hu ⟨sm, eD⟩
    obtain ⟨b, hbi, du⟩ := dpa_map_at hx hu
    refine ⟨rfl, _, rfl, _, rfl, x, u, M, b, rfl, dp_mono sm hd, dp_sit (dp_mono sm du), (hl b (List.mem_of_getElem? hbi)).symm, hc, fun H2 s2 => ⟨_, s2 _ _ eD, ?_, Same.mut (sm.trans s2) nD, ?_⟩⟩
    · have := (List.getElem?_eq_some_iff.mp hbi).1
      rw [List.length_map, List.length_take]
      exact szl (by omega)
    · rw [upd_same, take_snoc hbi, List.map_append, hcf]
      rfl
  rintro H1 ⟨s1, e1⟩
  rw [xl, List.take_length] at e1
  dsimp only [gName]
  refine ⟨_, rfl, D, rfl, ⟨_, sq e1⟩, fun D2 nD2 => lc_list (xs := bs.map fun b => oV (cf b)) (fun i H' => Same H1 H' ∧ H' D2 = some (.lst (((bs.take i).filterMap cf).map V.int))) ⟨same_new nD2, upd_same⟩ (fun _ H' _ h => h.1.seq (sq e1)) ?_ ?_⟩
  · rintro i u H' hu ⟨sm, eD⟩
    obtain ⟨b, hbi, rfl⟩ := get_map_inv hu
    have lt := (List.getElem?_eq_some_iff.mp hbi).1
    rw [fm_snoc hbi]
    refine ⟨rfl, _, rfl, rfl, _, rfl, ?_⟩
    rw [oV_non]
    cases e : cf b with
    | none =>
      refine iteF ⟨sm, ?_⟩
      rw [List.append_nil]
      exact eD
    | some z =>
      refine iteT ⟨_, rfl, _, eD, ?_, Same.mut sm nD2, ?_⟩
      · rw [List.length_map]
        have := List.length_filterMap_le cf (bs.take i)
        rw [List.length_take] at this
        exact szl (by omega)
      · rw [upd_same, List.map_append]
        rfl
  rintro H2 ⟨s2, e2⟩
  rw [List.length_map, List.take_length] at e2
  refine ⟨D2, bs.filterMap cf, rfl, rfl, sq e2, fun hn => ?_, fun m hm hmin => ?_⟩
  · exact q H2 none (s1.trans s2) hn
  · exact q H2 (some m) (s1.trans s2) ⟨hm, hmin⟩
end
/-! ### the answer -/
abbrev crewL (M : MT) (L : List Sn) : List Int := L.filterMap (crewOf (M.sst : Int) M.cnts M.crew)
abbrev startS (M : MT) (c : Int) : Sn := ((M.sst : Int), bump M.cnts M.crew c)
theorem crew_cov {M : MT} {b : Sn} {c c' : Int} (hl : M.cnts.length = b.2.length) (hc : M.crew < M.cnts.length) (h : crewOf (M.sst : Int) M.cnts M.crew b = some c) (le : c ≤ c') : covS (startS M c') b = true := by
  unfold crewOf at h
  by_cases e : b.1 = (M.sst : Int) ∧ butOk M.crew M.cnts b.2 = true
  · rw [if_pos e] at h
    have hc' := Option.some.inj h
    show (decide ((M.sst : Int) = b.1) && geAll (bump M.cnts M.crew c') b.2) = true
    rw [decide_eq_true e.1.symm, Bool.true_and, geAll_iff (by rw [bump_len]; exact hl)]
    intro i hi
    unfold bump
    rw [getD_set hc]
    by_cases ei : i = M.crew
    · rw [if_pos ei, ei]
      unfold mx0 at hc'
      split at hc' <;> omega
    · rw [if_neg ei]
      exact butOk_iff.mp e.2 i hi ei
  · rw [if_neg e] at h
    cases h
theorem crew_nn {M : MT} {b : Sn} {c : Int} (h : crewOf (M.sst : Int) M.cnts M.crew b = some c) : 0 ≤ c := by
  unfold crewOf at h
  split at h
  · have := Option.some.inj h
    unfold mx0 at this
    split at this <;> omega
  · cases h
/-- a start that covers an element has a crew -/
theorem cov_crewS {M : MT} {b : Sn} {c : Int} (hl : M.cnts.length = b.2.length) (hc : M.crew < M.cnts.length) (c0 : 0 ≤ c) (h : covS (startS M c) b = true) : ∃ c', crewOf (M.sst : Int) M.cnts M.crew b = some c' ∧ c' ≤ c := by
  have h1 : (decide ((M.sst : Int) = b.1) && geAll (bump M.cnts M.crew c) b.2) = true := h
  rw [Bool.and_eq_true, geAll_iff (by rw [bump_len]; exact hl)] at h1
  obtain ⟨h1, h2⟩ := h1
  have hst := of_decide_eq_true h1
  refine ⟨mx0 (b.2.getD M.crew 0 - M.cnts.getD M.crew 0), ?_, ?_⟩
  · have hb : butOk M.crew M.cnts b.2 = true := butOk_iff.mpr fun i hi ne => by
      have := h2 i hi
      unfold bump at this
      rw [getD_set hc, if_neg ne] at this
      exact this
    unfold crewOf
    exact if_pos ⟨hst.symm, hb⟩
  · have := h2 M.crew (by omega)
    unfold bump at this
    rw [getD_set hc, if_pos rfl] at this
    unfold mx0
    split <;> omega
section
variable {P : Program} {w : World} {K : PySem.W.Frag} {mg : Str → Option Value} {base : Heap}
abbrev s_decide : Stmt := topS 33
theorem sc_decide : FnScope ["machine", "bad", "fuel", "rows", "basis", "crew", "run", "_", "fresh"] ["machine", "bad", "fuel"] (defScope s_decide) := ⟨rfl, rfl, rfl, by decide +kernel, rfl, by decide +kernel, by decide +kernel⟩
-- decide slots: machine=0 bad=1 fuel=2 rows=3 basis=4 crew=5 run=6 _=7(None) fresh=8(None) globals: searched least_crew run_down start_with
structure DecPre (lv N : Nat) (M : MT) (bad : List Sn) (fuel : Nat) (C : Int) : Prop where
  srd : SrdPre lv M.states N M bad fuel C
  cl : M.cnts.length = N
  cr : M.crew < N
  c0 : ∀ c ∈ M.cnts, 0 ≤ c
  m1 : M.moves.length ≤ 1000
inductive DecOut (K : PySem.W.Frag) (N : Nat) (M : MT) (bad : List Sn) (fuel : Nat) (H H' : Hp) : V → Prop
  | unknown {r : Addr} (nr : H r = none) (er : H' r = some (.tup [.str (Str.ofString "unknown")])) (h : (∀ j, j < fuel → Mvd N M.moves bad j) ∨ ∃ j, j < fuel ∧ (∀ i, i < j → Mvd N M.moves bad i) ∧ ∀ L, LayR N M.moves bad j L → 2000 < L.length) : DecOut K N M bad fuel H H' (.ref r)
  | never {r b : Addr} {bxs : List V} {L : List Sn} {t : Nat} (nr : H r = none) (er : H' r = some (.tup [.str (Str.ofString "never"), .ref b])) (nb : H b = none) (eb : H' b = some (.lst bxs)) (fL : FreshL (Nu H H') bxs L) (tf : t < fuel) (lay : LayR N M.moves bad t L) (stb : Stab N M.moves bad t) (mv : ∀ i, i < t → Mvd N M.moves bad i) (lt : L.length ≤ 2000) (sm : ∀ j, j ≤ t → ∃ Lj, LayR N M.moves bad j Lj ∧ Lj.length ≤ 2000) (due : DueOk none (crewL M L)) : DecOut K N M bad fuel H H' (.ref r)
  | possible {r b p : Addr} {bxs : List V} {L : List Sn} {t d : Nat} {c : Int} {run : List Nat} (nr : H r = none) (er : H' r = some (.tup [.str (Str.ofString "possible"), .int c, .ref p, .ref b])) (nb : H b = none) (eb : H' b = some (.lst bxs)) (fL : FreshL (Nu H H') bxs L) (np : H p = none) (ep : H' p = some (.lst (run.map nV))) (tf : t < fuel) (lay : LayR N M.moves bad t L) (stb : Stab N M.moves bad t) (mv : ∀ i, i < t → Mvd N M.moves bad i) (lt : L.length ≤ 2000) (sm : ∀ j, j ≤ t → ∃ Lj, LayR N M.moves bad j Lj ∧ Lj.length ≤ 2000) (due : DueOk (some c) (crewL M L)) (c0 : 0 ≤ c) (dt : d ≤ t) (up : Up M.moves bad d (startS M c)) (low : ∀ i, i < d → ¬ Up M.moves bad i (startS M c)) (best : Best M.moves bad d (startS M c) run) : DecOut K N M bad fuel H H' (.ref r)
def spDec (K : PySem.W.Frag) (lv : Nat) : Sp := fun vs H Q _ => ∃ (bl : Addr) (v : V) (M : MT) (N fuel : Nat) (bxs : List V) (bad : List Sn) (C : Int), vs = [v, .ref bl, .int (fuel : Int)] ∧ Dp K H v M.data ∧ SqL K H bl bxs ∧ DpAll K H bxs (bad.map sD) ∧ DecPre lv N M bad fuel C ∧ ∀ H' v', Same H H' → DecOut K N M bad fuel H H' v' → Q v' H'
set_option maxHeartbeats 4000000 in
theorem ok_decide {f : Addr} {fd : FuncData} {lv : Nat} (F : Fun K "decide" "decide" s_decide f fd) (B : Bt mg) (D_searched : Fd P w K mg base "searched" ["machine", "bad", "fuel"] (lv + lv + 7) (spSrd P w K lv)) (D_least_crew : Fd P w K mg base "least_crew" ["machine", "chosen"] 2 (spLeastCrew K)) (D_start_with : Fd P w K mg base "start_with" ["machine", "crew"] 1 (spStart K)) (D_run_down : Fd P w K mg base "run_down" ["machine", "news", "situation"] (lv + 4) (spRunD K lv)) :
    FnOk P w K mg base CX0 (lv + lv + 8) f fd ["machine", "bad", "fuel"] (spDec K lv) := by
  refine F.ok sc_decide (fun vs H Q E h => ?_) (fun cdv A outer s H vs Q E hr h => ?_)
  · obtain ⟨_, _, _, _, _, _, _, _, rfl, _⟩ := h
    rfl
  obtain ⟨bl, v, M, N, fuel, bxs, bad, C, rfl, hd, hbl, hbx, pr, q⟩ := h
  have fitm : ∀ m ∈ M.moves, m.Fit M.states N := fun m hm => (pr.srd.fit m hm).1
  have lb := pr.srd.lb
  have nlv : N < lv := pr.srd.pre.2.2.1
  have n1 : N ≤ 1000 := pr.srd.pre.2.2.2.1
  refine ⟨_, (pss_cons (ps_set (i := 3) sc_decide.nd rfl (Or.inl rfl) (pe_fn D_searched (hr.mono (by omega)) rfl (pa_cons (pv 0) (pa_cons (pv 1) (pa_cons (pv 2) pa_nil)))))
 (pss_cons (ps_if (pt_cmpR op_isN (pv 3) pe_non (nomark _))
 (pss_one (ps_ret (pe_tup (pa_cons pe_str pa_nil))))
 pss_nil)
 (pss_cons (ps_set (i := 4) sc_decide.nd rfl (Or.inl rfl) (pe_ix (ixT K) (pe_ix (ixL K) (pv 3) (pe_un un_neg pe_int) (fun _ _ => rfl)) pe_int (fun _ _ => rfl)))
 (pss_cons (ps_set (i := 5) sc_decide.nd rfl (Or.inl rfl) (pe_fn D_least_crew (hr.mono (by omega)) rfl (pa_cons (pv 0) (pa_cons (pv 4) pa_nil))))
 (pss_cons (ps_if (pt_cmpR op_isN (pv 5) pe_non (nomark _))
 (pss_one (ps_ret (pe_tup (pa_cons pe_str (pa_cons (pv 4) pa_nil)))))
 pss_nil)
 (pss_cons (ps_set (i := 6) sc_decide.nd rfl (Or.inl rfl) (pe_fn D_run_down (hr.mono (by omega)) rfl (pa_cons (pv 0) (pa_cons (pe_lc (own := [("_", 7), ("fresh", 8)]) (g := gTup K 2 (gCons (gName 7) (gCons (gName 8) gNil))) (by rfl) sc_decide.nd (piL K (pv 3)) (blkOk_by (own := [("_", 7), ("fresh", 8)]) (N := ["machine", "bad", "fuel", "rows", "basis", "crew", "run", "_", "fresh"]) (sc := (defScope s_decide)) (by decide +kernel)) (fun _ _ _ _ _ => (pg_tup rfl (pgs_cons (pg_name (i := 7) sc_decide.nd rfl (Or.inl rfl)) (pgs_cons (pg_name (i := 8) sc_decide.nd rfl (Or.inl rfl)) pgs_nil)))) (fun _ _ _ _ _ => pts_nil) (fun _ _ _ _ _ => (pv 8))) (pa_cons (pe_fn D_start_with (hr.mono (by omega)) rfl (pa_cons (pv 0) (pa_cons (pv 5) pa_nil))) pa_nil)))))
 (pss_one (ps_ret (pe_tup (pa_cons pe_str (pa_cons (pv 5) (pa_cons (pv 6) (pa_cons (pv 4) pa_nil))))))))))))), ?_⟩
  refine ⟨_, rfl, _, rfl, _, rfl, bl, v, M, M.states, N, fuel, bxs, bad, C, rfl, hd, hbl, hbx, pr.srd, fun H1 s1 none1 => ?_, fun H1 r xs t ps s1 nr er rows tf chn stb => ?_⟩
  · dsimp only [gName]
    refine ⟨_, rfl, rfl, _, rfl, iteTx rfl ⟨szc 1, fun p np => ?_⟩⟩
    exact q _ _ (s1.trans (same_new np)) (.unknown (s1.free np) upd_same none1)
  dsimp only [gName]
  refine ⟨_, rfl, rfl, _, rfl, iteFx rfl ?_⟩
  have xl := Paired.length rows
  have clen := chn.len
  have fb := pr.srd.fu
  -- basis
  obtain ⟨pt, hpt⟩ : ∃ p, ps[t]? = some p := ⟨_, List.getElem?_eq_getElem (by omega)⟩
  obtain ⟨u, hu⟩ : ∃ u, xs[t]? = some u := ⟨_, List.getElem?_eq_getElem (by omega)⟩
  obtain ⟨p', hp', rowt⟩ := paired_get rows hu
  obtain rfl : pt = p' := Option.some.inj (hpt.symm.trans hp')
  obtain ⟨t0, la, fa, lxs, fxs, rfl, nt0, ht0, nla, hla, fL, nfa, hfa, pfx⟩ := rowt.ob
  have layt := chn.lay t pt hpt
  have ptm := List.mem_of_getElem? hpt
  have small := chn.small pt ptm
  obtain ⟨L, Z⟩ := pt
  dsimp only at layt small fL pfx
  have nuD : ∀ a, (upd H r (.lst [])) a = none → H a = none := fun a h => by
    rw [upd_ne fun z => by rw [z, upd_same] at h; cases h] at h
    exact h
  have fL1 : FreshL (Nu H H1) lxs L := fL.mono (nu_dom nuD)
  have dL : DpAll K H1 lxs (L.map sD) := dpAll_mono nu_out fL1.dpa
  refine ⟨_, rfl, _, rfl, _, _, _, _, rfl, rfl, sq er, at_lastV (by omega) hu, _, _, _, _, rfl, rfl, st ht0, atI_nat (j := 0) rfl, ?_⟩
  dsimp only [gName]
  -- crew
  have lenL : ∀ b ∈ L, b.2.length = M.cnts.length := fun b hb => (layt.lens b hb).trans pr.cl.symm
  have crl : M.crew < M.cnts.length := by rw [pr.cl]; exact pr.cr
  refine ⟨_, rfl, _, rfl, v, la, M, lxs, L, rfl, dp_mono s1 hd, sq hla, dL, lenL, crl, by omega, fun H2 o s2 due => ?_⟩
  dsimp only [gName]
  have s02 := s1.trans s2
  have mvd := chn.moved
  have sms : ∀ j, j ≤ t → ∃ Lj, LayR N M.moves bad j Lj ∧ Lj.length ≤ 2000 := fun j hj => by
    have hp : ps[j]? = some ps[j] := List.getElem?_eq_getElem (by omega)
    exact ⟨_, chn.lay j _ hp, chn.small _ (List.mem_of_getElem? hp)⟩
  cases o with
  | none =>
    refine ⟨_, rfl, rfl, _, rfl, iteTx rfl ⟨_, rfl, szc 2, fun p np => ?_⟩⟩
    have sp := same_new (o := HO.tup [V.str (Str.ofString "never"), V.ref la]) np
    exact q _ _ (s02.trans sp) (.never (s02.free np) upd_same (nuD la nla) ((s2.trans sp) _ _ hla) (fL1.mono (nu_same (s2.trans sp))) tf layt stb mvd small sms due)
  | some c =>
    refine ⟨_, rfl, rfl, _, rfl, iteFx rfl ?_⟩
    have hc : ∃ b ∈ L, crewOf (M.sst : Int) M.cnts M.crew b = some c := List.mem_filterMap.mp due.1
    obtain ⟨b0, hb0, ec⟩ := hc
    have c0 := crew_nn ec
    have er2 := s2 _ _ er
    refine ⟨_, rfl, _, rfl, r, rfl, ⟨xs, sq er2⟩, fun D nD => lc_list (xs := xs) (fun i H' => Same H2 H' ∧ ∃ ns : List V, H' D = some (.lst ns) ∧ Paired (fun (w : V) (Z : List Sn) => ∃ fa fxs, w = V.ref fa ∧ SqL K H2 fa fxs ∧ DpAll K H2 fxs ((Z.map pk).map pkx)) ns ((ps.take i).map (·.2))) ⟨same_new nD, [], upd_same, .nil⟩ (fun _ H' _ h => sq (h.1 _ _ er2)) ?_ ?_⟩
    · rintro i u H' hu ⟨sm, ns, eD, pn⟩
      obtain ⟨p, hp, row⟩ := paired_get rows hu
      obtain ⟨t', la', fa', lxs', fxs', rfl, _, ht', _, hla', fL', _, hfa', pfx'⟩ := row.ob
      have nl := Paired.length pn
      rw [List.length_map, List.length_take] at nl
      refine ⟨t', _, rfl, st (sm _ _ (s2 _ _ ht')), rfl, _, _, rfl, ?_⟩
      dsimp only [gName]
      refine ⟨_, _, rfl, ?_⟩
      dsimp only [gName]
      refine ⟨rfl, rfl, yesT ?_⟩
      refine ⟨_, rfl, ns, eD, szn (m := 1000001) (by omega) (by omega), Same.mut sm nD, ns ++ [.ref fa'], upd_same, ?_⟩
      rw [take_snoc hp, List.map_append]
      exact paired_snoc (R := fun (w : V) (Z : List Sn) => ∃ fa fxs, w = V.ref fa ∧ SqL K H2 fa fxs ∧ DpAll K H2 fxs ((Z.map pk).map pkx)) ⟨fa', fxs', rfl, sq (s2 _ _ hfa'), dpAll_mono s2 (pks_dpa pfx')⟩ pn
    rintro H3 ⟨s23, ns, eD, pn⟩
    rw [xl, List.take_length] at pn
    have s03 := s02.trans s23
    refine ⟨_, rfl, _, rfl, v, M, c, rfl, dp_mono s03 hd, c0, crl, fun H4 p4 s34 new4 => ?_⟩
    have s04 := s03.trans s34
    have okS : Sok N (startS M c) := ⟨by rw [bump_len, pr.cl], fun z hz => by
      rcases List.mem_or_eq_of_mem_set (show z ∈ M.cnts.set M.crew (M.cnts.getD M.crew 0 + c) from hz) with hz | rfl
      · exact pr.c0 z hz
      · have := pr.c0 _ (gd_mem crl)
        omega⟩
    have upt : Up M.moves bad t (startS M c) := up_mono fitm lb t okS (layt.ok hb0) (crew_cov (lenL b0 hb0).symm crl ec (Int.le_refl c)) (layt.up b0 hb0)
    obtain ⟨d, dt, upd', low⟩ := least_up t upt
    refine ⟨v, .ref p4, D, M, N, d, ns, bad, ps.map (·.2), startS M c, rfl, dp_mono s04 hd, sq (s34 _ _ eD), Paired.mapP pn fun _ _ ⟨fa, fxs, e, h1, h2⟩ => ⟨fa, fxs, e, (s23.trans s34).seq h1, dpAll_mono (s23.trans s34) h2⟩, new4.sit, ⟨pr.srd.pl, fitm, lb, chn.news fitm lb n1, okS, nlv, n1, pr.m1, by rw [List.length_map]; omega, by rw [List.length_map]; omega, upd', low⟩, fun H5 pr5 run s45 npr epr best => ?_⟩
    dsimp only [gName]
    refine ⟨_, rfl, _, rfl, _, rfl, szc 4, fun p np => ?_⟩
    have sp := same_new (o := HO.tup [V.str (Str.ofString "possible"), V.int c, V.ref pr5, V.ref la]) np
    have s25 := ((s23.trans s34).trans s45).trans sp
    have s15 := s2.trans s25
    exact q _ _ (s1.trans s15) (.possible (s04.free (s45.free np)) upd_same (nuD la nla) (s15 _ _ hla) (fL1.mono (nu_same s15)) (s04.free npr) (sp _ _ epr) tf layt stb mvd small sms due c0 dt upd' low best)
theorem fd_decide {f : Addr} {fd : FuncData} {lv : Nat} (F : Fun K "decide" "decide" s_decide f fd) (m : mg "decide" = some (.ref f)) (B : Bt mg) (D_searched : Fd P w K mg base "searched" ["machine", "bad", "fuel"] (lv + lv + 7) (spSrd P w K lv)) (D_least_crew : Fd P w K mg base "least_crew" ["machine", "chosen"] 2 (spLeastCrew K)) (D_start_with : Fd P w K mg base "start_with" ["machine", "crew"] 1 (spStart K)) (D_run_down : Fd P w K mg base "run_down" ["machine", "news", "situation"] (lv + 4) (spRunD K lv)) :
    FdK P w K mg base "decide" ["machine", "bad", "fuel"] 2 ["fuel"] (lv + lv + 8) (spDec K lv) :=
  ⟨f, fd, ok_decide F B D_searched D_least_crew D_start_with D_run_down, m, F.kp, Fun.kbinds F fun _ _ _ _ _ _ us ws h1 h2 => match us, ws, h1, h2 with | [_, _], [_], _, _ => rfl⟩
end
theorem ixn_nat {n j : Nat} (h : j < n) : ixN n (j : Int) = some j := by
  unfold ixN
  rw [if_pos (by omega), if_pos (by omega)]
  rw [Int.toNat_natCast]
theorem set_ints {p : Addr} {cs : List Int} {j : Nat} {z : Int} {H : Hp} {Q : Hp → Prop} (e : H p = some (.lst (cs.map V.int))) (hj : j < cs.length) (q : Q (upd H p (.lst ((cs.set j z).map V.int)))) : rSetL (.ref p) (nV j) (.int z) H Q :=
  ⟨p, _, (j : Int), j, rfl, rfl, e, ixn_nat (by rw [List.length_map]; exact hj), by rw [← show (cs.set j z).map V.int = (cs.map V.int).set j (.int z) from List.map_set]; exact q⟩
theorem ints_at {cs : List Int} {j : Nat} (hj : j < cs.length) : atI (cs.map V.int) (j : Int) = some (.int (cs.getD j 0)) := by
  refine atI_nat ?_
  rw [List.getElem?_map, List.getD_eq_getElem?_getD, List.getElem?_eq_getElem hj]
  rfl
theorem mod_ps (z : Int) {m : Int} (h : 0 < m) : 0 ≤ z % m ∧ z % m < m := ⟨Int.emod_nonneg _ (by omega), Int.emod_lt_of_pos _ h⟩
theorem dpa_takeS {K : PySem.W.Frag} {H : Hp} : ∀ {xs : List V} {ds : List PyData} (k : Nat), DpAll K H xs ds → DpAll K H (xs.take k) (ds.take k)
  | _, _, 0, _ => by rw [List.take_zero, List.take_zero]; exact .nil
  | _, _, _ + 1, .nil => .nil
  | _, _, k + 1, .cons a t => .cons a (dpa_takeS k t)
theorem dpa_dropS {K : PySem.W.Frag} {H : Hp} : ∀ {xs : List V} {ds : List PyData} (k : Nat), DpAll K H xs ds → DpAll K H (xs.drop k) (ds.drop k)
  | _, _, 0, h => h
  | _, _, _ + 1, .nil => .nil
  | _, _, k + 1, .cons _ t => dpa_dropS k t
def RowsOk (S : Int) (N : Nat) (top : Int) (bs : List Sn) : Prop := ∀ b ∈ bs, b.2.length = N ∧ 0 ≤ b.1 ∧ b.1 < S ∧ ∀ c ∈ b.2, 0 ≤ c ∧ c ≤ top
theorem intsS_nc {m : Nat} : ∀ {ns : List Int}, (∀ n ∈ ns, n.natAbs < 10 ^ 7) → NcL (ns.map PyData.int) ns.length m
  | [], _ => .nil
  | n :: ns, h => by
    have := NcL.cons (NcD.int (m := m) (h n List.mem_cons_self)) (intsS_nc (m := m) fun x hx => h x (List.mem_cons_of_mem _ hx))
    exact this.mono (by rw [List.length_cons]; omega) (Nat.le_refl _)
theorem sD_nc {b : Sn} (hs : b.1.natAbs < 10 ^ 7) (h : ∀ n ∈ b.2, n.natAbs < 10 ^ 7) : NcD (sD b) (b.2.length + 3) 2 :=
  (NcL.tup (m := 1) (.cons (.int hs) (.cons (NcL.lst (intsS_nc (m := 0) h)) (.nil (c := 0))))).mono (by omega) (Nat.le_refl _)
theorem sDs_nc {S : Int} {N : Nat} {top : Int} (hS : S ≤ 1000) (ht : top ≤ 1000) : ∀ {bs : List Sn}, RowsOk S N top bs → NcL (bs.map sD) (bs.length * (N + 3)) 2
  | [], _ => .nil
  | b :: bs, h => by
    obtain ⟨h1, h2, h3, h4⟩ := h b List.mem_cons_self
    have a := sD_nc (b := b) (by omega) fun c hc => by have := h4 c hc; omega
    rw [h1] at a
    exact (NcL.cons a (sDs_nc hS ht fun x hx => h x (List.mem_cons_of_mem _ hx))).mono (by rw [List.length_cons, Nat.succ_mul]; omega) (Nat.le_refl _)
theorem rows_nc {S : Int} {N : Nat} {top : Int} (hS : S ≤ 1000) (ht : top ≤ 1000) {bs : List Sn} (h : RowsOk S N top bs) : NcD (.list (bs.map sD)) (bs.length * (N + 3) + 1) 3 := NcL.lst (sDs_nc hS ht h)
theorem RowsOk.lens {S : Int} {N : Nat} {top : Int} {bs : List Sn} (h : RowsOk S N top bs) : Lens N bs := fun b hb => (h b hb).1
theorem RowsOk.sub {S : Int} {N : Nat} {top : Int} {bs L : List Sn} (h : RowsOk S N top bs) (s : ∀ x ∈ L, x ∈ bs) : RowsOk S N top L := fun b hb => h b (s b hb)
theorem cut_takeS (xs : List V) (n : Nat) : cutV xs none (some (n : Int)) = xs.take n := by
  unfold cutV
  rw [HT.sIx_none, HT.sIx_nat xs.length xs.length n]
  show List.take (min n xs.length - 0) (List.drop 0 xs) = _
  rw [List.drop_zero, Nat.sub_zero]
  rcases Nat.le_total n xs.length with h | h
  · rw [Nat.min_eq_left h]
  · rw [Nat.min_eq_right h, List.take_of_length_le (Nat.le_refl _), List.take_of_length_le h]
theorem pick3 {x y z : Int} {j : Int} (h0 : 0 ≤ j) (h3 : j < 3) (hx : 0 ≤ x ∧ x ≤ 100) (hy : 0 ≤ y ∧ y ≤ 100) (hz : 0 ≤ z ∧ z ≤ 100) : ∃ t : Int, atI [V.int x, V.int y, V.int z] j = some (.int t) ∧ 0 ≤ t ∧ t ≤ 100 := by
  have : j = 0 ∨ j = 1 ∨ j = 2 := by omega
  rcases this with rfl | rfl | rfl
  · exact ⟨x, rfl, hx⟩
  · exact ⟨y, rfl, hy⟩
  · exact ⟨z, rfl, hz⟩
theorem zeros (n : Nat) : (List.replicate n [V.int 0]).flatten = (List.replicate n (0 : Int)).map V.int := by
  induction n with
  | zero => rfl
  | succ n ih => rw [List.replicate_succ, List.replicate_succ, List.flatten_cons, ih]; rfl
theorem cut_dropS (xs : List V) (n : Nat) : cutV xs (some (n : Int)) none = xs.drop n := by
  unfold cutV
  rw [HT.sIx_none, HT.sIx_nat xs.length 0 n]
  rcases Nat.le_total n xs.length with h | h
  · rw [Nat.min_eq_left h]; exact List.take_of_length_le (by rw [List.length_drop]; exact Nat.le_refl _)
  · rw [Nat.min_eq_right h, List.drop_eq_nil_of_le h, List.drop_eq_nil_of_le (Nat.le_refl _), List.take_nil]
/-! ### data without texts: long ones can be shown too -/
mutual
def plain : PyData → Bool
  | .none | .bool _ | .int _ => true
  | .str _ | .dict _ => false
  | .list xs | .tuple xs => plainAll xs
def plainAll : List PyData → Bool
  | [] => true
  | x :: xs => plain x && plainAll xs
end
mutual
theorem plain_bulk : ∀ d : PyData, plain d = true → d.bulk + 1 ≤ cells d
  | .none, _ => by decide
  | .bool _, _ => by show 0 + 1 ≤ 1; decide
  | .int _, _ => by show 0 + 1 ≤ 1; decide
  | .str s, h => nomatch h
  | .list xs, h => by
    have := plain_bulkAll xs h
    show PyData.bulkAll xs + 1 ≤ cellsAll xs + 1
    omega
  | .tuple xs, h => by
    have := plain_bulkAll xs h
    show PyData.bulkAll xs + 1 ≤ cellsAll xs + 1
    omega
  | .dict _, h => nomatch h
theorem plain_bulkAll : ∀ xs : List PyData, plainAll xs = true → PyData.bulkAll xs ≤ cellsAll xs
  | [], _ => by decide
  | x :: xs, h => by
    have h' : plain x = true ∧ plainAll xs = true := by simpa only [plainAll, Bool.and_eq_true] using h
    have h1 := plain_bulk x h'.1
    have h2 := plain_bulkAll xs h'.2
    show x.bulk + 1 + PyData.bulkAll xs ≤ cells x + cellsAll xs
    omega
end
theorem NcD.shwP {d : PyData} {c m : Nat} (h : NcD d c m) (p : plain d = true) (hc : c ≤ 1000000) (hm : m ≤ 60) : Shw d := by
  have h1 := nice_short d h.ni
  have h2 := plain_bulk d p
  have h3 := h.de
  have h4 := h.ce
  refine ⟨h1.2, PyData.hasDict_of_canLay d (nice_lay d h.ni), by omega, PyData.shown_fits_bulk (by decide) (by decide) h1.1 ?_⟩
  rw [show (2 : Nat) ^ 20 = 1048576 from rfl]
  omega
theorem plain_map {α : Type} {f : α → PyData} : ∀ {xs : List α}, (∀ x ∈ xs, plain (f x) = true) → plainAll (xs.map f) = true
  | [], _ => rfl
  | x :: xs, h => by
    show (plain (f x) && plainAll (xs.map f)) = true
    rw [h x List.mem_cons_self, plain_map fun y hy => h y (List.mem_cons_of_mem _ hy)]
    rfl
theorem plain_sD (x : Sn) : plain (sD x) = true := by
  show (true && (plainAll (x.2.map PyData.int) && true)) = true
  rw [plain_map fun _ _ => rfl]
  rfl
theorem plain_LD (L : List Sn) : plain (LD L) = true := plain_map fun x _ => plain_sD x
theorem plain_M (M : MT) : plain M.data = true := by
  have h1 : plainAll (M.cnts.map PyData.int) = true := plain_map fun _ _ => rfl
  have h2 : plainAll (M.moves.map MvT.data) = true := plain_map fun m _ => by
    have h3 : plainAll (m.sh.map shD) = true := plain_map fun _ _ => rfl
    have h4 : plain (sdD m.sd) = true := by cases m.sd <;> rfl
    show (true && (true && (true && (true && (plain (sdD m.sd) && (plainAll (m.sh.map shD) && true)))))) = true
    rw [h3, h4]
    rfl
  show (true && (true && ((true && (plainAll (M.cnts.map PyData.int) && true)) && (true && (plainAll (M.moves.map MvT.data) && true))))) = true
  rw [h1, h2]
  rfl
theorem nc_map {α : Type} {f : α → PyData} {c m : Nat} : ∀ {xs : List α}, (∀ x ∈ xs, NcD (f x) c m) → NcL (xs.map f) (xs.length * c) m
  | [], _ => NcL.nil
  | x :: xs, h => by
    have t := nc_map (xs := xs) fun y hy => h y (List.mem_cons_of_mem _ hy)
    have g := NcL.cons (h x List.mem_cons_self) t
    exact g.mono (by rw [List.length_cons, Nat.succ_mul]; omega) (Nat.le_refl _)
theorem nats_dpa {K : PySem.W.Frag} {H : Hp} (r : List Nat) : DpAll K H (r.map nV) (r.map fun k : Nat => PyData.int (k : Int)) := by
  induction r with
  | nil => exact .nil
  | cons k r ih => exact .cons (.int _) ih
theorem nats_shaped (r : List Nat) : SeqAt.shaped (.list (r.map fun k : Nat => PyData.int (k : Int))) = true := by
  obtain ⟨h1, h2⟩ := ints_layS (r.map fun k : Nat => (k : Int))
  rw [List.map_map] at h1 h2
  show (PyData.canLayAll0 (r.map fun k : Nat => PyData.int (k : Int)) && decide (PyData.depthAll (r.map fun k : Nat => PyData.int (k : Int)) + 1 ≤ 64)) = true
  rw [show PyData.canLayAll0 (r.map fun k : Nat => PyData.int (k : Int)) = true from h1, show PyData.depthAll (r.map fun k : Nat => PyData.int (k : Int)) = 0 from h2]
  rfl
theorem nats_eqv (r : List Nat) : PyData.eqv (.list (r.map fun k : Nat => PyData.int (k : Int))) (.list (r.map fun k : Nat => PyData.int (k : Int))) = true := by
  obtain ⟨h1, _⟩ := ints_layS (r.map fun k : Nat => (k : Int))
  rw [List.map_map] at h1
  exact SeqAt.eqv_refl _ (show PyData.canLay0 (.list (r.map fun k : Nat => PyData.int (k : Int))) = true from h1)
section
variable {K : PySem.W.Frag}
theorem tyx_lstQ {H : Hp} {a : Addr} {xs : List V} (h : SqL K H a xs) : TyX K H (.ref a) (.type "list") := by
  rcases h with (h | ⟨o, h⟩) | ⟨o, its, n, hl, hc, _⟩
  · exact .base (.lst h)
  · exact .base (.frz h)
  · exact .kList hl hc
theorem tyx_tupQ {H : Hp} {a : Addr} {xs : List V} (h : SqT K H a xs) : TyX K H (.ref a) (.type "tuple") := by
  rcases h with (h | ⟨o, h⟩) | ⟨o, its, n, hl, hc, _⟩
  · exact .base (.tup h)
  · exact .fTuple h
  · exact .kTuple hl hc
end
abbrev unkD : PyData := .tuple [.str (Str.ofString "unknown")]
abbrev nevD (L : List Sn) : PyData := .tuple [.str (Str.ofString "never"), .list (L.map sD)]
abbrev posD (c : Int) (run : List Nat) (L : List Sn) : PyData := .tuple [.str (Str.ofString "possible"), .int c, .list (run.map fun k : Nat => PyData.int (k : Int)), .list (L.map sD)]
/-- the layers are found: the last one is the t-th -/
structure FinC (N : Nat) (ms : List MvT) (bad : List Sn) (fuel t : Nat) (L : List Sn) : Prop where
  tf : t < fuel
  lay : LayR N ms bad t L
  stb : Stab N ms bad t
  mv : ∀ i, i < t → Mvd N ms bad i
  sm : ∀ j, j ≤ t → ∃ Lj, LayR N ms bad j Lj ∧ Lj.length ≤ 2000
/-- they are not -/
def UnkC (N : Nat) (ms : List MvT) (bad : List Sn) (fuel : Nat) : Prop := (∀ j, j < fuel → Mvd N ms bad j) ∨ ∃ j, j < fuel ∧ (∀ i, i < j → Mvd N ms bad i) ∧ ∀ L, LayR N ms bad j L → 2000 < L.length
theorem FinC.one {N : Nat} {ms : List MvT} {bad : List Sn} {f t t' : Nat} {L L' : List Sn} (h : FinC N ms bad f t L) (mv : ∀ i, i < t' → Mvd N ms bad i) (stb : Stab N ms bad t') (lay : LayR N ms bad t' L') : t' = t ∧ L' = L := by
  have e : t' = t := by
    rcases Nat.lt_trichotomy t' t with l | e | l
    · obtain ⟨x, h1, h2, h3⟩ := h.mv t' l
      exact absurd (stb x h1 h2) h3
    · exact e
    · obtain ⟨x, h1, h2, h3⟩ := mv t l
      exact absurd (h.stb x h1 h2) h3
  subst e
  exact ⟨rfl, lay.uniq h.lay⟩
theorem FinC.not {N : Nat} {ms : List MvT} {bad : List Sn} {f f' t : Nat} {L : List Sn} (h : FinC N ms bad f t L) (tf : t < f') (u : UnkC N ms bad f') : False := by
  rcases u with u | ⟨j, hj, u1, u2⟩
  · obtain ⟨x, h1, h2, h3⟩ := u t tf
    exact h3 (h.stb x h1 h2)
  · have jt : j ≤ t := by
      rcases Nat.lt_or_ge t j with l | l
      · obtain ⟨x, h1, h2, h3⟩ := u1 t l
        exact absurd (h.stb x h1 h2) h3
      · exact l
    obtain ⟨Lj, h1, h2⟩ := h.sm j jt
    have := u2 Lj h1
    omega
/-! ### answers as data -/
/-- the data of an answer -/
inductive Res (N : Nat) (M : MT) (bad : List Sn) (fuel : Nat) : PyData → Prop
  | unk (h : UnkC N M.moves bad fuel) : Res N M bad fuel unkD
  | nev {t : Nat} {L : List Sn} (fin : FinC N M.moves bad fuel t L) (due : DueOk none (crewL M L)) : Res N M bad fuel (nevD L)
  | pos {t d : Nat} {L : List Sn} {c : Int} {run : List Nat} (fin : FinC N M.moves bad fuel t L) (due : DueOk (some c) (crewL M L)) (up : Up M.moves bad d (startS M c)) (low : ∀ i, i < d → ¬ Up M.moves bad i (startS M c)) (best : Best M.moves bad d (startS M c) run) : Res N M bad fuel (posD c run L)
theorem Res.uniq {N : Nat} {M : MT} {bad : List Sn} {f f' : Nat} {d d' : PyData} (h : Res N M bad f d) (h' : Res N M bad f' d') (le : f ≤ f') (e : f = f' ∨ d ≠ unkD) : d' = d := by
  cases h with
  | unk u =>
    rcases e with rfl | e
    · cases h' with
      | unk _ => rfl
      | nev fin _ => exact (fin.not fin.tf u).elim
      | pos fin _ _ _ _ => exact (fin.not fin.tf u).elim
    · exact absurd rfl e
  | nev fin due =>
    have tf := fin.tf
    cases h' with
    | unk u => exact (fin.not (by omega) u).elim
    | nev fin' _ => rw [(fin.one fin'.mv fin'.stb fin'.lay).2]
    | pos fin' due' _ _ _ =>
      rw [(fin.one fin'.mv fin'.stb fin'.lay).2] at due'
      exact nomatch due.uniq due'
  | @pos t d L c run fin due up low best =>
    have tf := fin.tf
    cases h' with
    | unk u => exact (fin.not (by omega) u).elim
    | nev fin' due' =>
      rw [(fin.one fin'.mv fin'.stb fin'.lay).2] at due'
      exact nomatch due.uniq due'
    | @pos t' d' L' c' run' fin' due' up' low' best' =>
      have eL := (fin.one fin'.mv fin'.stb fin'.lay).2
      subst eL
      obtain rfl := Option.some.inj (due.uniq due')
      have ed : d' = d := by
        rcases Nat.lt_trichotomy d' d with l | e | l
        · exact absurd up' (low _ l)
        · exact e
        · exact absurd up (low' _ l)
      subst ed
      rw [best.uniq best']
theorem unk_sh : SeqAt.shaped unkD = true := by decide +kernel
theorem nev_sh (L : List Sn) : SeqAt.shaped (nevD L) = true := by
  obtain ⟨h1, h2⟩ := sDs_layS L
  show ((PyData.canLay0 (.str (Str.ofString "never")) && (PyData.canLayAll0 (L.map sD) && true)) && decide (max 0 (max (PyData.depthAll (L.map sD) + 1) 0) + 1 ≤ 64)) = true
  rw [h1, decide_eq_true (by omega), show PyData.canLay0 (.str (Str.ofString "never")) = true by decide +kernel]
  rfl
theorem pos_sh0 (c : Int) (run : List Int) (L : List Sn) : SeqAt.shaped (.tuple [.str (Str.ofString "possible"), .int c, .list (run.map PyData.int), .list (L.map sD)]) = true := by
  obtain ⟨h1, h2⟩ := sDs_layS L
  obtain ⟨h3, h4⟩ := ints_layS run
  show ((PyData.canLay0 (.str (Str.ofString "possible")) && (true && (PyData.canLayAll0 (run.map PyData.int) && (PyData.canLayAll0 (L.map sD) && true)))) && decide (max 0 (max 0 (max (PyData.depthAll (run.map PyData.int) + 1) (max (PyData.depthAll (L.map sD) + 1) 0))) + 1 ≤ 64)) = true
  rw [h1, h3, decide_eq_true (by omega), show PyData.canLay0 (.str (Str.ofString "possible")) = true by decide +kernel]
  rfl
theorem pos_sh (c : Int) (run : List Nat) (L : List Sn) : SeqAt.shaped (posD c run L) = true := by
  have := pos_sh0 c (run.map fun k : Nat => (k : Int)) L
  rw [List.map_map] at this
  exact this
theorem Res.sh {N : Nat} {M : MT} {bad : List Sn} {f : Nat} {d : PyData} (h : Res N M bad f d) : SeqAt.shaped d = true := by
  cases h with
  | unk _ => exact unk_sh
  | nev _ _ => exact nev_sh _
  | pos _ _ _ _ _ => exact pos_sh _ _ _
theorem eqv_self {d : PyData} (h : SeqAt.shaped d = true) : PyData.eqv d d = true := SeqAt.eqv_refl d (by
  have h' : (PyData.canLay0 d && decide (PyData.depth d ≤ 64)) = true := h
  exact (Bool.and_eq_true _ _ ▸ h').1)
theorem eqv_long (a b c : PyData) (ds : List PyData) : PyData.eqv (.tuple (a :: b :: ds)) (.tuple [c]) = false := by
  show (PyData.eqv a c && false) = false
  rw [Bool.and_false]
/-- an answer, as it stands -/
theorem DecOut.res {K : PySem.W.Frag} {N : Nat} {M : MT} {bad : List Sn} {fuel : Nat} {H H' : Hp} {v : V} (h : DecOut K N M bad fuel H H' v) : ∃ d r, v = .ref r ∧ Res N M bad fuel d ∧ Dp K (Nu H H') v d ∧
    ((d = unkD ∧ ∃ ts, H' r = some (.tup ts)) ∨ (d ≠ unkD ∧ PyData.eqv d unkD = false ∧ ∃ (ts : List V) (b : Addr) (bxs : List V) (L : List Sn), ts.length ≤ 3 ∧ H' r = some (.tup (ts ++ [.ref b])) ∧ H b = none ∧ H' b = some (.lst bxs) ∧ FreshL (Nu H H') bxs L ∧ Lens N L ∧ L.length ≤ 2000)) := by
  cases h with
  | @unknown r nr er u => exact ⟨unkD, r, rfl, .unk u, .tup (st (nu_iff.mpr ⟨nr, er⟩)) (.cons (.str _) .nil), .inl ⟨rfl, _, er⟩⟩
  | @never r b bxs L t nr er nb eb fL tf lay stb mv lt sm due =>
    refine ⟨nevD L, r, rfl, .nev ⟨tf, lay, stb, mv, sm⟩ due, .tup (st (nu_iff.mpr ⟨nr, er⟩)) (.cons (.str _) (.cons (.lst (sq (nu_iff.mpr ⟨nb, eb⟩)) fL.dpa) .nil)), .inr ⟨fun z => ?_, eqv_long _ _ _ _, [.str (Str.ofString "never")], b, bxs, L, by decide, er, nb, eb, fL, lay.lens, lt⟩⟩
    have := congrArg (fun d => match d with | .tuple l => l.length | _ => 0) z
    cases this
  | @possible r b p bxs L t d c run nr er nb eb fL np ep tf lay stb mv lt sm due c0 dt up low best =>
    refine ⟨posD c run L, r, rfl, .pos ⟨tf, lay, stb, mv, sm⟩ due up low best, .tup (st (nu_iff.mpr ⟨nr, er⟩)) (.cons (.str _) (.cons (.int _) (.cons (.lst (sq (nu_iff.mpr ⟨np, ep⟩)) (nats_dpa run)) (.cons (.lst (sq (nu_iff.mpr ⟨nb, eb⟩)) fL.dpa) .nil)))), .inr ⟨fun z => ?_, eqv_long _ _ _ _, [.str (Str.ofString "possible"), .int c, .ref p], b, bxs, L, Nat.le_refl 3, er, nb, eb, fL, lay.lens, lt⟩⟩
    have := congrArg (fun d => match d with | .tuple l => l.length | _ => 0) z
    cases this
section
variable {P : Program} {w : World} {K : PySem.W.Frag} {mg : Str → Option Value} {base : Heap}
/-- a comprehension of numbers over a range -/
theorem lc_intR {n : Nat} (hn : n ≤ 90000) {j : Nat} {te : TE} {vs : List Nat} {σ : L2.St} {H1 : Hp} {D : Addr} {Qd : Hp → Prop} (nD : H1 D = none) (f : Nat → Int) (hw : ∀ x, wipe ((wipe σ vs).set j x) vs = wipe σ vs)
    (hs : ∀ i H, i < n → Same H1 H → te ((wipe σ vs).set j (some (.int ((0 : Int) + (i : Int))))) H fun y H4 => y = .int (f i) ∧ Same H H4)
    (mono : ∀ σ H (Q Q' : VK), (∀ v H', Q v H' → Q' v H') → te σ H Q → te σ H Q')
    (hd : ∀ H, Same H1 H → H D = some (.lst (((List.range n).map f).map V.int)) → Qd H) :
    ∃ W : Nat → Nat → Hp → Prop, (∃ m, W 0 m (upd H1 D (.lst []))) ∧ ∀ i m H, W i m H →
      ((Itr 0 n).stop i H ∧ Qd H) ∨ ((Itr 0 n).go i H ∧ ∃ Nx : Hp → Prop, (∀ H', Nx H' → ∃ m', m' < m ∧ W (i + 1) m' H') ∧ ∀ x H', (Itr 0 n).yld i H x H' → gName j x (wipe σ vs) H' fun σ2 H2 => wipe σ2 vs = wipe σ vs ∧ tYes σ2 H2 fun b H3 =>
        if b = true then te σ2 H3 fun y H4 => ∃ acc, H4 D = some (.lst acc) ∧ acc.length < sizeLine ∧ Nx (upd H4 D (.lst (acc ++ [y]))) else Nx H3) := by
  refine lc_range (fun i H' => Same H1 H' ∧ H' D = some (.lst (((List.range i).map f).map V.int))) ⟨same_new nD, upd_same⟩ ?_ fun H h => hd H h.1 h.2
  rintro i H hi ⟨sm, eD⟩
  refine ⟨hw _, ?_⟩
  show te _ H _
  refine mono _ _ _ _ ?_ (hs i H hi sm)
  rintro v H' ⟨rfl, s⟩
  refine ⟨_, s _ _ eD, ?_, Same.mut (sm.trans s) nD, ?_⟩
  · rw [List.length_map, List.length_map, List.length_range]
    exact szl (by omega)
  · rw [upd_same, List.range_succ, List.map_append, List.map_append]
    rfl
abbrev s_law_cell : Stmt := topS 37
theorem sc_law_cell : FnScope ["script", "k"] ["script", "k"] (defScope s_law_cell) := ⟨rfl, rfl, rfl, by decide +kernel, rfl, by decide +kernel, by decide +kernel⟩
-- _law_cell slots: script=0 k=1 globals: len abs int
def spCellP (K : PySem.W.Frag) : Sp := fun vs H Q _ => ∃ (a : Addr) (ns : List Int) (k : Nat), vs = [.ref a, .int (k : Int)] ∧ SqL K H a (ns.map V.int) ∧ ∀ z : Int, 0 ≤ z → Q (.int z) H
theorem fd_law_cell {f : Addr} {fd : FuncData} (F : Fun K "_law_cell" "_law_cell" s_law_cell f fd) (m : mg "_law_cell" = some (.ref f)) (B : Bt mg) : Fd P w K mg base "_law_cell" ["script", "k"] 1 (spCellP K) := by
  refine ⟨f, fd, F.ok sc_law_cell (fun vs H Q E h => ?_) (fun cdv A outer s H vs Q E hr h => ?_), m, F.kp, F.binds (ps := ["script", "k"]) fun _ _ _ _ _ _ us hl => match us, hl with | [_, _], _ => rfl⟩
  · obtain ⟨a, ns, k, rfl, _⟩ := h
    rfl
  obtain ⟨a, ns, k, rfl, hs, q⟩ := h
  refine ⟨_, (pss_cons (ps_if (pt_cmpR op_lt (pv 1) (pe_callB (cLen K) (by rfl) B.len PySem.boot_len (pa_cons (pv 0) pa_nil)) (nomark _))
 (pss_one (ps_ret (pe_callB call_abs (by rfl) B.abs (by decide +kernel) (pa_cons (pe_callTy call_int1 (by rfl) B.int (by decide +kernel) (pa_cons (pe_ix (ixQ K) (pv 0) (pv 1) (fun _ _ => rfl)) pa_nil)) pa_nil))))
 pss_nil)
 (pss_one (ps_ret pe_int))), ?_⟩
  refine ⟨_, rfl, _, rfl, a, _, rfl, .inl hs, _, _, rfl, rfl, _, rfl, ite2 (fun e => ?_) (fun e => ?_)⟩
  · have e1 := of_decide_eq_true e
    rw [List.length_map] at e1
    have e2 : k < ns.length := by omega
    refine ⟨_, rfl, _, rfl, .inl ⟨a, _, _, _, rfl, rfl, hs, atI_nat (get_map (List.getElem?_eq_getElem e2)), .inl ⟨_, rfl, _, rfl, q _ ?_⟩⟩⟩
    split <;> omega
  · exact q _ (by decide)
abbrev s_law_digits : Stmt := topS 38
theorem sc_law_digits : FnScope ["cell", "base", "most", "digits", "large", "k"] ["cell", "base", "most"] (defScope s_law_digits) := ⟨rfl, rfl, rfl, by decide +kernel, rfl, by decide +kernel, by decide +kernel⟩
-- _law_digits slots: cell=0 base=1 most=2 digits=3 large=4 k=5 globals: range int
def spDigits (K : PySem.W.Frag) : Sp := fun vs H Q _ => ∃ (c b : Int) (n : Nat), vs = [.int c, .int b, .int (n : Int)] ∧ 0 ≤ c ∧ 0 < b ∧ b < 1073741824 ∧ n ≤ 10000 ∧
  ∀ H' p (ds : List Int), Same H H' → H p = none → H' p = some (.lst (ds.map V.int)) → ds.length = n → (∀ d ∈ ds, 0 ≤ d ∧ d < b) → Q (.ref p) H'
theorem fd_law_digits {f : Addr} {fd : FuncData} (F : Fun K "_law_digits" "_law_digits" s_law_digits f fd) (m : mg "_law_digits" = some (.ref f)) (B : Bt mg) : Fd P w K mg base "_law_digits" ["cell", "base", "most"] 1 (spDigits K) := by
  refine ⟨f, fd, F.ok sc_law_digits (fun vs H Q E h => ?_) (fun cdv A outer s H vs Q E hr h => ?_), m, F.kp, F.binds (ps := ["cell", "base", "most"]) fun _ _ _ _ _ _ us hl => match us, hl with | [_, _, _], _ => rfl⟩
  · obtain ⟨c, b, n, rfl, _⟩ := h
    rfl
  obtain ⟨c, b, n, rfl, hc, hb, hb2, hn, q⟩ := h
  refine ⟨_, (pss_cons (ps_set (i := 3) sc_law_digits.nd rfl (Or.inl rfl) (pe_lst pa_nil))
 (pss_cons (ps_set (i := 4) sc_law_digits.nd rfl (Or.inl rfl) (pe_cmpR op_ge (pv 0) (pe_op op_pow pe_int pe_int) (nomark _)))
 (pss_cons (ps_for PassesOwn.never rfl (pi_range1 rfl B.range (pa_cons (pv 2) pa_nil)) (pg_name (i := 5) sc_law_digits.nd rfl (Or.inl rfl))
 (pss_one (ps_if (ptTru K (pv 4) (by intro _; rfl))
 (pss_cons (ps_expr (peBm K PySem.F.plainAttrs_list PySem.F.slot_list_append PySem.F.type_list_append mt_append (pv 3) (pa_cons (pe_op op_mod (pe_callTy call_int1 (by rfl) B.int (by decide +kernel) (pa_cons (pv 0) pa_nil)) (pv 1)) pa_nil)))
 (pss_one (ps_set (i := 0) sc_law_digits.nd rfl (Or.inl rfl) (pe_op op_fdiv (pv 0) (pv 1)))))
 (pss_one (ps_expr (peBm K PySem.F.plainAttrs_list PySem.F.slot_list_append PySem.F.type_list_append mt_append (pv 3) (pa_cons (pe_op op_mod (pe_op op_mod (pe_callTy call_int1 (by rfl) B.int (by decide +kernel) (pa_cons (pe_op op_add (pe_op op_add (pe_op op_mul (pv 0) pe_int) (pe_op op_mul (pe_op op_mul (pe_op op_add (pv 5) pe_int) (pe_op op_add (pv 5) pe_int)) pe_int)) (pe_op op_mul (pe_op op_fdiv (pv 0) pe_int) (pv 5))) pa_nil)) pe_int) (pv 1)) pa_nil)))))))
 (pss_one (ps_ret (pv 3)))))), ?_⟩
  refine ⟨sz (by decide), fun o no => ?_⟩
  refine ⟨_, rfl, _, _, rfl, rfl, ⟨by decide, by decide, by decide⟩, _, _, rfl, rfl, ?_⟩
  refine ⟨_, rfl, n, rfl, by omega, by omega, for_range (lo := 0) (n := n) (fun i σ' H' => ∃ (lg : Bool) (c' : Int) (y : Option V) (ds : List Int), σ' = [some (.int c'), some (.int b), some (.int (n : Int)), some (.ref o), some (.bl lg), y] ∧ 0 ≤ c' ∧ Same H H' ∧ H' o = some (.lst (ds.map V.int)) ∧ ds.length = i ∧ ∀ d ∈ ds, 0 ≤ d ∧ d < b) ⟨_, c, none, [], rfl, hc, same_new no, upd_same, rfl, fun d hd => by cases hd⟩ ?_ ?_⟩
  · rintro i σ' H' hi ⟨lg, c', y, ds, rfl, hc', sm, eo, hl, hd⟩
    have dl : (ds.map V.int).length < sizeLine := szl (by rw [List.length_map]; omega)
    have hm : ∀ z : Int, 0 ≤ z % b ∧ z % b < b := fun z => ⟨Int.emod_nonneg _ (by omega), Int.emod_lt_of_pos _ hb⟩
    have fin : ∀ (c2 d : Int), 0 ≤ c2 → (0 ≤ d ∧ d < b) → ∃ (lg' : Bool) (c' : Int) (y : Option V) (ds' : List Int), [some (V.int c2), some (.int b), some (.int (n : Int)), some (.ref o), some (.bl lg), some (.int (0 + (i : Int)))] = [some (.int c'), some (.int b), some (.int (n : Int)), some (.ref o), some (.bl lg'), y] ∧ 0 ≤ c' ∧ Same H (upd H' o (.lst (ds.map V.int ++ [.int d]))) ∧ (upd H' o (.lst (ds.map V.int ++ [.int d]))) o = some (.lst (ds'.map V.int)) ∧ ds'.length = i + 1 ∧ ∀ d ∈ ds', 0 ≤ d ∧ d < b := fun c2 d h1 h2 =>
      ⟨lg, c2, _, ds ++ [d], rfl, h1, Same.mut sm no, by rw [upd_same, List.map_append]; rfl, by rw [List.length_append, hl]; rfl, fun x hx => by
        rcases List.mem_append.mp hx with hx | hx
        · exact hd x hx
        · rw [List.mem_singleton.mp hx]; exact h2⟩
    refine ⟨_, rfl, lg, rfl, ?_⟩
    cases lg with
    | true =>
      refine iteT ?_
      refine ⟨_, rfl, .inl ⟨rfl, _, sq eo⟩, _, rfl, .inl ⟨_, rfl, _, rfl, _, _, rfl, rfl, hb, o, _, _, rfl, rfl, eo, dl, ?_⟩⟩
      refine ⟨_, rfl, _, rfl, _, _, rfl, rfl, ⟨hb, hb2⟩, ?_⟩
      exact fin _ _ (Int.ediv_nonneg hc' (by omega)) (hm _)
    | false =>
      refine iteF ?_
      refine ⟨_, rfl, .inl ⟨rfl, _, sq eo⟩, _, rfl, _, _, rfl, rfl, .inr ⟨by decide, by decide⟩, ?_⟩
      refine ⟨_, rfl, _, _, rfl, rfl, _, rfl, _, _, rfl, rfl, _, _, rfl, rfl, .inl ⟨by omega, by omega⟩, _, _, rfl, rfl, .inr ⟨by decide, by decide⟩, _, _, rfl, rfl, ?_⟩
      refine ⟨_, rfl, _, _, rfl, rfl, ⟨by decide, by decide⟩, _, rfl, _, _, rfl, rfl, .inr ⟨by omega, by omega⟩, _, _, rfl, rfl, ?_⟩
      refine .inl ⟨_, rfl, _, _, rfl, rfl, (by show (0 : Int) < 2147483647; decide), _, rfl, _, _, rfl, rfl, hb, o, _, _, rfl, rfl, eo, dl, ?_⟩
      exact fin _ _ hc' (hm _)
  · rintro σ' H' ⟨lg, c', y, ds, rfl, hc', sm, eo, hl, hd⟩
    exact ⟨_, rfl, q H' o ds sm no eo hl hd⟩
end
section
variable {P : Program} {w : World} {K : PySem.W.Frag} {mg : Str → Option Value} {base : Heap}
theorem nw_ho {o : Addr} {u : HO} {H H' : Hp} (e : H o = some u) : Same (Nw H H') (Ho o H') := fun b x h => by
  obtain ⟨h1, h2⟩ := nw_some h
  have hne : b ≠ o := fun z => by rw [z, e] at h1; cases h1
  unfold Ho
  rw [if_neg hne]
  exact h2
/-! ### such data can be compared and shown -/
theorem nD_nc {n m : Nat} (h : n < 100) : NcD (nD n) 1 m := NcD.int (by omega)
theorem ints_nc {m : Nat} : ∀ {ns : List Int}, (∀ n ∈ ns, n.natAbs < 10 ^ 7) → NcL (ns.map PyData.int) ns.length m
  | [], _ => .nil
  | n :: ns, h => by
    have := NcL.cons (NcD.int (m := m) (h n List.mem_cons_self)) (ints_nc (m := m) fun x hx => h x (List.mem_cons_of_mem _ hx))
    exact this.mono (by rw [List.length_cons]; omega) (Nat.le_refl _)
theorem sit_nc {s : Int} {ns : List Int} (hs : s.natAbs < 10 ^ 7) (h : ∀ n ∈ ns, n.natAbs < 10 ^ 7) : NcD (sitD s ns) (ns.length + 3) 2 :=
  (NcL.tup (m := 1) (.cons (.int hs) (.cons (NcL.lst (ints_nc (m := 0) h)) (.nil (c := 0))))).mono (by omega) (Nat.le_refl _)
theorem shs_nc : ∀ {sh : List (Nat × Nat)}, (∀ p ∈ sh, p.1 < 100 ∧ p.2 < 100) → NcL (sh.map shD) (3 * sh.length) 1
  | [], _ => .nil
  | p :: r, h => by
    obtain ⟨h1, h2⟩ := h p List.mem_cons_self
    have a : NcD (shD p) 3 1 := NcL.tup (m := 0) (.cons (nD_nc h1) (.cons (nD_nc h2) (.nil (c := 0))))
    exact (NcL.cons a (shs_nc fun x hx => h x (List.mem_cons_of_mem _ hx))).mono (by rw [List.length_cons]; omega) (Nat.le_refl _)
theorem mv_nc {m : MvT} {S P : Nat} (h : m.Fit S P) (hS : S ≤ 100) (hP : P ≤ 100) : NcD m.data (3 * m.sh.length + 7) 3 := by
  have a := shs_nc (sh := m.sh) fun p hp => ⟨by have := h.sh.fst p hp; omega, by have := h.sh.snd p hp; omega⟩
  have b : NcD (sdD m.sd) 1 2 := by
    have := h.sd
    cases e : m.sd with
    | none => exact ⟨rfl, Nat.le_refl _, Nat.zero_le _⟩
    | some d => exact nD_nc (by have := this d e; omega)
  have h1 := h.st
  have h2 := h.pl
  have h3 := h.ns
  have h4 := h.np
  exact (NcL.tup (m := 2) (.cons (nD_nc (by omega)) (.cons (nD_nc (by omega)) (.cons (nD_nc (by omega)) (.cons (nD_nc (by omega)) (.cons b (.cons (NcL.lst a) (.nil (c := 0))))))))).mono (by omega) (Nat.le_refl _)
theorem mvs_nc {S P : Nat} (hS : S ≤ 100) (hP : P ≤ 100) : ∀ {ms : List MvT}, (∀ m ∈ ms, m.Fit S P ∧ m.sh.length ≤ 6) → NcL (ms.map MvT.data) (25 * ms.length) 3
  | [], _ => .nil
  | m :: r, h => by
    obtain ⟨h1, h2⟩ := h m List.mem_cons_self
    exact (NcL.cons (mv_nc h1 hS hP) (mvs_nc hS hP fun x hx => h x (List.mem_cons_of_mem _ hx))).mono (by rw [List.length_cons]; omega) (Nat.le_refl _)
theorem mt_nc {M : MT} (h : M.Ok) (h6 : ∀ m ∈ M.moves, m.sh.length ≤ 6) : NcD M.data 330 5 := by
  have a := mvs_nc (S := M.states) (P := M.places) (by have := h.s2; omega) (by have := h.p2; omega) (ms := M.moves) fun m hm => ⟨h.fit m hm, h6 m hm⟩
  have b := sit_nc (s := (M.sst : Int)) (ns := M.cnts) (by have := h.ss; have := h.s2; omega) fun n hn => by have := h.cb n hn; omega
  have h1 := h.ml
  have h2 := h.cl
  have h3 := h.p2
  have h4 := h.s2
  have h5 := h.cr
  exact (NcL.tup (m := 4) (.cons (nD_nc (by omega)) (.cons (nD_nc (by omega)) (.cons (b.mono (Nat.le_refl _) (by decide)) (.cons (nD_nc (by omega)) (.cons (NcL.lst a) (.nil (c := 0)))))))).mono (by omega) (Nat.le_refl _)
theorem eqv_any {ds : List PyData} {d : PyData} (h : (ds.any fun z => PyData.eqv z d) = false) (e : PyData.eqv d d = true) : d ∉ ds := fun hm => by
  have : (ds.any fun z => PyData.eqv z d) = true := List.any_eq_true.mpr ⟨d, hm, e⟩
  rw [this] at h
  cases h
end
/-! ### situations with one thread -/
def uni (n p : Nat) : List Int := (List.replicate n (0 : Int)).set p 1
theorem uni_len (n p : Nat) : (uni n p).length = n := by unfold uni; rw [List.length_set, List.length_replicate]
theorem rep_get (n q : Nat) : (List.replicate n (0 : Int)).getD q 0 = 0 := by
  rw [List.getD_eq_getElem?_getD, List.getElem?_replicate]
  split <;> rfl
theorem uni_get {n p : Nat} (h : p < n) (q : Nat) : (uni n p).getD q 0 = if q = p then 1 else 0 := by
  unfold uni
  rw [gset (by rw [List.length_replicate]; exact h), rep_get]
theorem uni_nn (n p : Nat) : ∀ c ∈ uni n p, 0 ≤ c := fun c hc => by
  rcases List.mem_or_eq_of_mem_set hc with hc | rfl
  · rw [List.eq_of_mem_replicate hc]; exact Int.le_refl _
  · decide
theorem getD_nn {cs : List Int} (h : ∀ c ∈ cs, 0 ≤ c) (q : Nat) : 0 ≤ cs.getD q 0 := by
  by_cases l : q < cs.length
  · exact h _ (gd_mem l)
  · rw [List.getD_eq_getElem?_getD, List.getElem?_eq_none (by omega)]
    exact Int.le_refl 0
theorem cov_uni {n p : Nat} {x : Sn} {s : Int} (hx : Sok n x) (hp : p < n) : covS x (s, uni n p) = true ↔ x.1 = s ∧ 0 < x.2.getD p 0 := by
  constructor
  · intro c
    obtain ⟨c1, c2⟩ := covS_get (x := x) (y := (s, uni n p)) (hx.1.trans (uni_len n p).symm) c
    have := c2 p
    have e : (uni n p).getD p 0 = 1 := by rw [uni_get hp, if_pos rfl]
    have this : (uni n p).getD p 0 ≤ x.2.getD p 0 := this
    exact ⟨c1, by omega⟩
  · rintro ⟨e, h⟩
    refine covS_of (x := x) (y := (s, uni n p)) (hx.1.trans (uni_len n p).symm) e fun q => ?_
    show (uni n p).getD q 0 ≤ _
    rw [uni_get hp]
    have := getD_nn hx.2 q
    by_cases c : q = p
    · rw [if_pos c, c]; omega
    · rw [if_neg c]; exact this
theorem ltL_first : ∀ {as bs : List Int} (k : Nat), as.length = bs.length → (∀ i, i < k → as.getD i 0 = bs.getD i 0) → k < as.length → as.getD k 0 < bs.getD k 0 → ltL as bs = true
  | [], _, _, _, _, h, _ => by cases h
  | _ :: _, [], _, h, _, _, _ => by cases h
  | a :: as, b :: bs, 0, _, _, _, h => by
    have h : a < b := h
    unfold ltL
    rw [if_neg (by omega), decide_eq_true h]
  | a :: as, b :: bs, k + 1, hl, he, hk, h => by
    have e : a = b := he 0 (Nat.succ_pos k)
    unfold ltL
    rw [if_pos e]
    exact ltL_first k (Nat.succ.inj hl) (fun i hi => he (i + 1) (by omega)) (Nat.lt_of_succ_lt_succ hk) h
theorem uni_lt {n p q : Nat} {s : Int} (hp : p < n) (hq : q < p) : ltS (s, uni n p) (s, uni n q) = true := by
  unfold ltS
  rw [if_pos rfl]
  refine ltL_first q ((uni_len n p).trans (uni_len n q).symm) (fun i hi => ?_) (by rw [uni_len]; omega) ?_
  · rw [uni_get hp, uni_get (by omega), if_neg (by omega), if_neg (by omega)]
  · rw [uni_get hp, uni_get (by omega), if_neg (by omega), if_pos rfl]
    decide
/-! ### a chain of places -/
structure Chain1 (n : Nat) (ms : List MvT) : Prop where
  mv : ∀ m ∈ ms, m.st = 0 ∧ m.ns = 0 ∧ m.pl + 1 < n ∧ m.np = m.pl + 1 ∧ m.sh = [] ∧ (m.sd = none ∨ m.sd = some m.pl)
  ex : ∀ p, p + 1 < n → ∃ m ∈ ms, m.pl = p
theorem Chain1.fit {n : Nat} {ms : List MvT} (h : Chain1 n ms) {m : MvT} (hm : m ∈ ms) : m.Fit 1 n := by
  obtain ⟨h1, h2, h3, h4, h5, h6⟩ := h.mv m hm
  refine ⟨by omega, by omega, by omega, by omega, fun d hd => ?_, ?_⟩
  · rcases h6 with e | e
    · rw [e] at hd; cases hd
    · rw [e] at hd; cases hd; omega
  · rw [h5]
    exact ⟨.nil, fun p hp => (nomatch hp), fun p hp => (nomatch hp), fun p hp => (nomatch hp)⟩
/-- what a move without shifts does -/
theorem aft_plain {m : MvT} {S n : Nat} (f : m.Fit S n) (e : m.sh = []) {cs : List Int} (hl : cs.length = n) (q : Nat) : (m.aft cs).getD q 0 = cs.getD q 0 + (if q = m.pl then -1 else 0) + (if q = m.np then 1 else 0) + (if m.sd = some q then 1 else 0) := by
  have h1 := aft_get f hl q
  have h2 := mid_get f hl q
  have h3 := gbump (cs := cs) (p := m.pl) (by rw [hl]; exact f.pl) (-1) q
  rw [e] at h2
  have h4 : q ∉ ([] : List (Nat × Nat)).map (·.1) := fun z => nomatch z
  rw [if_neg h4] at h2
  have h5 : inSum [] (bump cs m.pl (-1)) q = 0 := rfl
  omega
abbrev bad1 (n : Nat) : List Sn := [(0, uni n (n - 1))]
theorem bad1_lens {n : Nat} : Lens n (bad1 n) := fun b hb => by rw [List.mem_singleton.mp hb]; exact uni_len n _
theorem Chain1.up {n : Nat} {ms : List MvT} (h : Chain1 n ms) (hn : 0 < n) : ∀ (j : Nat) {x : Sn}, Sok n x → (Up ms (bad1 n) j x ↔ x.1 = 0 ∧ ∃ p, p < n ∧ 0 < x.2.getD p 0 ∧ n - 1 - p ≤ j)
  | 0, x, hx => by
    constructor
    · rintro ⟨b, hb, c⟩
      rw [List.mem_singleton.mp hb] at c
      obtain ⟨c1, c2⟩ := (cov_uni hx (by omega)).mp c
      exact ⟨c1, n - 1, by omega, c2, by omega⟩
    · rintro ⟨c1, p, hp, h1, h2⟩
      have e : p = n - 1 := by omega
      rw [e] at h1
      exact ⟨_, List.mem_cons_self, (cov_uni hx (by omega)).mpr ⟨c1, h1⟩⟩
  | j + 1, x, hx => by
    constructor
    · rintro (u | ⟨m, hm, h1, h2, h3⟩)
      · obtain ⟨c1, p, hp, c2, c3⟩ := (h.up hn j hx).mp u
        exact ⟨c1, p, hp, c2, by omega⟩
      · have f := h.fit hm
        obtain ⟨e1, e2, e3, e4, e5, e6⟩ := h.mv m hm
        have ok := aft_ok f hx.1 hx.2 h2
        obtain ⟨_, p, hp, c2, c3⟩ := (h.up hn j (x := ((m.ns : Int), m.aft x.2)) ok).mp h3
        have c2 : 0 < (m.aft x.2).getD p 0 := c2
        rw [aft_plain f e5 hx.1] at c2
        refine ⟨by rw [h1, e1]; rfl, ?_⟩
        by_cases xp : 0 < x.2.getD p 0
        · exact ⟨p, hp, xp, by omega⟩
        · have sdn : ¬ (m.sd = some p) := fun z => by
            rcases e6 with e | e
            · rw [e] at z; cases z
            · rw [e] at z
              cases z
              exact xp h2
          rw [if_neg sdn] at c2
          by_cases pn : p = m.np
          · exact ⟨m.pl, by omega, h2, by omega⟩
          · rw [if_neg pn] at c2
            split at c2 <;> omega
    · rintro ⟨c1, p, hp, c2, c3⟩
      by_cases l : n - 1 - p ≤ j
      · exact .inl ((h.up hn j hx).mpr ⟨c1, p, hp, c2, l⟩)
      · obtain ⟨m, hm, rfl⟩ := h.ex p (by omega)
        have f := h.fit hm
        obtain ⟨e1, e2, e3, e4, e5, e6⟩ := h.mv m hm
        have ok := aft_ok f hx.1 hx.2 c2
        refine .inr ⟨m, hm, by rw [c1, e1]; rfl, c2, (h.up hn j (x := ((m.ns : Int), m.aft x.2)) ok).mpr ⟨by show (m.ns : Int) = 0; rw [e2]; rfl, m.pl + 1, by omega, ?_, by omega⟩⟩
        show 0 < (m.aft x.2).getD (m.pl + 1) 0
        rw [aft_plain f e5 hx.1]
        have := getD_nn hx.2 (m.pl + 1)
        rw [if_neg (by omega), if_pos e4.symm]
        split <;> omega
abbrev units (n k : Nat) : List Sn := (List.range k).map fun i => ((0 : Int), uni n (n - 1 - i))
theorem units_mem {n k : Nat} {z : Sn} (h : z ∈ units n k) : ∃ i, i < k ∧ z = (0, uni n (n - 1 - i)) := by
  obtain ⟨i, hi, rfl⟩ := List.mem_map.mp h
  exact ⟨i, List.mem_range.mp hi, rfl⟩
theorem Chain1.lay {n : Nat} {ms : List MvT} (h : Chain1 n ms) {j : Nat} (hj : j < n) : LayR n ms (bad1 n) j (units n (j + 1)) := by
  have hn : 0 < n := by omega
  have sok : ∀ i, Sok n ((0 : Int), uni n i) := fun i => ⟨uni_len n i, uni_nn n i⟩
  refine ⟨?_, fun z hz => ?_, fun z hz => ?_, fun z hz => ?_, fun x hx u => ?_, fun a ha b hb c => ?_⟩
  · rw [Asc, List.pairwise_map]
    refine List.pairwise_lt_range.imp_of_mem fun {a b} ha hb l => ?_
    have := List.mem_range.mp hb
    exact uni_lt (by omega) (by omega)
  · obtain ⟨i, _, rfl⟩ := units_mem hz
    exact uni_len n _
  · obtain ⟨i, _, rfl⟩ := units_mem hz
    exact uni_nn n _
  · obtain ⟨i, hi, rfl⟩ := units_mem hz
    refine (h.up hn j (sok _)).mpr ⟨rfl, n - 1 - i, by omega, ?_, by omega⟩
    show 0 < (uni n (n - 1 - i)).getD (n - 1 - i) 0
    rw [uni_get (by omega), if_pos rfl]
    decide
  · obtain ⟨c1, p, hp, c2, c3⟩ := (h.up hn j hx).mp u
    refine ⟨(0, uni n p), List.mem_map.mpr ⟨n - 1 - p, List.mem_range.mpr (by omega), by rw [show n - 1 - (n - 1 - p) = p by omega]⟩, (cov_uni hx hp).mpr ⟨c1, c2⟩⟩
  · obtain ⟨i, hi, rfl⟩ := units_mem ha
    obtain ⟨k, hk, rfl⟩ := units_mem hb
    obtain ⟨_, c2⟩ := (cov_uni (sok _) (by omega)).mp c
    have c2 : 0 < (uni n (n - 1 - i)).getD (n - 1 - k) 0 := c2
    rw [uni_get (by omega)] at c2
    by_cases e : n - 1 - k = n - 1 - i
    · rw [e]
    · rw [if_neg e] at c2; exact absurd c2 (by decide)
theorem Chain1.stab {n : Nat} {ms : List MvT} (h : Chain1 n ms) (hn : 0 < n) : Stab n ms (bad1 n) (n - 1) := fun x hx u => by
  obtain ⟨c1, p, hp, c2, _⟩ := (h.up hn _ hx).mp u
  exact (h.up hn _ hx).mpr ⟨c1, p, hp, c2, by omega⟩
theorem Chain1.mvd {n : Nat} {ms : List MvT} (h : Chain1 n ms) {j : Nat} (hj : j + 1 < n) : Mvd n ms (bad1 n) j := by
  have hn : 0 < n := by omega
  have sok : Sok n ((0 : Int), uni n (n - 2 - j)) := ⟨uni_len n _, uni_nn n _⟩
  have g : ∀ q, (uni n (n - 2 - j)).getD q 0 = if q = n - 2 - j then 1 else 0 := uni_get (by omega)
  refine ⟨_, sok, (h.up hn _ sok).mpr ⟨rfl, n - 2 - j, by omega, ?_, by omega⟩, fun u => ?_⟩
  · show 0 < (uni n (n - 2 - j)).getD (n - 2 - j) 0
    rw [g, if_pos rfl]; decide
  · obtain ⟨_, p, hp, c2, c3⟩ := (h.up hn _ sok).mp u
    have c2 : 0 < (uni n (n - 2 - j)).getD p 0 := c2
    rw [g] at c2
    by_cases e : p = n - 2 - j
    · omega
    · rw [if_neg e] at c2; exact absurd c2 (by decide)
theorem Chain1.fin {n f : Nat} {ms : List MvT} (h : Chain1 n ms) (hn : 0 < n) (h2 : n ≤ 2000) (hf : n ≤ f) : FinC n ms (bad1 n) f (n - 1) (units n n) := by
  have e := h.lay (j := n - 1) (by omega)
  rw [show n - 1 + 1 = n by omega] at e
  refine ⟨by omega, e, h.stab hn, fun i hi => h.mvd (by omega), fun j hj => ⟨_, h.lay (j := j) (by omega), ?_⟩⟩
  rw [List.length_map, List.length_range]
  omega
theorem Chain1.unk {n f : Nat} {ms : List MvT} (h : Chain1 n ms) (hf : f + 1 ≤ n) : UnkC n ms (bad1 n) f := .inl fun j hj => h.mvd (by omega)
/-- the first move from a place -/
def firstAt (ms : List MvT) (p : Nat) : Nat := ms.findIdx fun m => decide (m.pl = p)
theorem firstAt_at {ms : List MvT} {p : Nat} (h : ∃ m ∈ ms, m.pl = p) : ∃ m, ms[firstAt ms p]? = some m ∧ m.pl = p ∧ ∀ k, k < firstAt ms p → ∀ m', ms[k]? = some m' → m'.pl ≠ p := by
  obtain ⟨m, hm, e⟩ := h
  have l : firstAt ms p < ms.length := List.findIdx_lt_length_of_exists ⟨m, hm, decide_eq_true e⟩
  refine ⟨ms[firstAt ms p], List.getElem?_eq_getElem l, of_decide_eq_true (List.findIdx_getElem (w := l)), fun k hk m' hm' e' => ?_⟩
  have := List.not_of_lt_findIdx hk
  obtain ⟨l2, rfl⟩ := List.getElem?_eq_some_iff.mp hm'
  rw [show decide (ms[k].pl = p) = true from decide_eq_true e'] at this
  cases this
theorem Chain1.best {n : Nat} {ms : List MvT} (h : Chain1 n ms) : ∀ (d i : Nat) {x : Sn}, i + d + 1 = n → Sok n x → x.1 = 0 → 0 < x.2.getD i 0 → (∀ q, i < q → x.2.getD q 0 = 0) → Best ms (bad1 n) d x ((List.range' i d).map (firstAt ms))
  | 0, i, x, _, _, _, _, _ => rfl
  | d + 1, i, x, e, hx, x0, xi, xq => by
    have hn : 0 < n := by omega
    obtain ⟨m, hm, mp, first⟩ := firstAt_at (h.ex i (by omega))
    have mm := List.mem_of_getElem? hm
    have f := h.fit mm
    obtain ⟨e1, e2, e3, e4, e5, e6⟩ := h.mv m mm
    have hp : 0 < x.2.getD m.pl 0 := by rw [mp]; exact xi
    have ok := aft_ok f hx.1 hx.2 hp
    have can : ∀ {m' : MvT}, m'.can x.1 x.2 = true → 0 < x.2.getD m'.pl 0 := fun {m'} c => by
      unfold MvT.can at c
      rw [Bool.and_eq_true] at c
      exact of_decide_eq_true c.2
    have g := fun q => aft_plain f e5 hx.1 q
    have g1 : 0 < (m.aft x.2).getD (i + 1) 0 := by
      rw [g, xq (i + 1) (by omega), if_neg (by omega), if_pos (by omega)]
      split <;> omega
    refine ⟨firstAt ms i, m, (List.range' (i + 1) d).map (firstAt ms), rfl, ⟨hm, ?_, ?_, fun k hk m' hm' c u => ?_⟩, ?_⟩
    · unfold MvT.can
      rw [decide_eq_true (show (m.st : Int) = x.1 by rw [x0, e1]; rfl), decide_eq_true hp]
      rfl
    · exact (h.up hn d (x := aftS m x) ok).mpr ⟨by show (m.ns : Int) = 0; rw [e2]; rfl, i + 1, by omega, g1, by omega⟩
    · have mm' := List.mem_of_getElem? hm'
      have f' := h.fit mm'
      obtain ⟨a1, a2, a3, a4, a5, a6⟩ := h.mv m' mm'
      have hp' := can c
      have ok' := aft_ok f' hx.1 hx.2 hp'
      have ne : m'.pl ≠ i := first k hk m' hm'
      have le : m'.pl < i := by
        rcases Nat.lt_or_ge i m'.pl with l | l
        · rw [xq _ l] at hp'; omega
        · omega
      obtain ⟨_, p, hp2, c2, c3⟩ := (h.up hn d (x := aftS m' x) ok').mp u
      have c2 : 0 < (m'.aft x.2).getD p 0 := c2
      rw [aft_plain f' a5 hx.1, xq p (by omega), if_neg (by omega), if_neg (by omega)] at c2
      rcases a6 with a6 | a6
      · rw [a6, if_neg (fun z => nomatch z)] at c2; omega
      · rw [a6, if_neg (fun z => by cases z; omega)] at c2; omega
    · refine h.best d (i + 1) (x := aftS m x) (by omega) ok (by show (m.ns : Int) = 0; rw [e2]; rfl) g1 fun q hq => ?_
      show (m.aft x.2).getD q 0 = 0
      rw [g, xq q (by omega), if_neg (by omega), if_neg (by omega)]
      rcases e6 with e6 | e6
      · rw [e6, if_neg (fun z => nomatch z)]; rfl
      · rw [e6, if_neg (fun z => by cases z; omega)]; rfl
theorem Chain1.low {n : Nat} {ms : List MvT} (h : Chain1 n ms) {d i : Nat} {x : Sn} (e : i + d + 1 = n) (hx : Sok n x) (xq : ∀ q, i < q → x.2.getD q 0 = 0) : ∀ k, k < d → ¬ Up ms (bad1 n) k x := fun k hk u => by
  obtain ⟨_, p, hp, c2, c3⟩ := (h.up (by omega) k hx).mp u
  rw [xq p (by omega)] at c2
  omega
/-! ### layers exist wherever finitely many situations are enough -/
theorem asc_ins {n : Nat} {s : Sn} (hs : s.2.length = n) : ∀ {M : List Sn}, Lens n M → Asc M → s ∉ M → ∃ M', Asc M' ∧ (∀ x, x ∈ M' ↔ x = s ∨ x ∈ M) ∧ M'.length = M.length + 1
  | [], _, _, _ => ⟨[s], List.pairwise_singleton _ _, fun x => by simp, rfl⟩
  | m :: M, hl, ha, hn => by
    obtain ⟨a1, a2⟩ := List.pairwise_cons.mp ha
    by_cases c : ltS s m = true
    · refine ⟨s :: m :: M, List.pairwise_cons.mpr ⟨fun x hx => ?_, ha⟩, fun x => by simp, rfl⟩
      rcases List.mem_cons.mp hx with rfl | hx
      · exact c
      · exact ltS_tr c (a1 x hx)
    · have lm : m.2.length = n := hl m List.mem_cons_self
      have sm : ltS m s = true := by
        cases e : ltS m s with
        | true => rfl
        | false => exact absurd (ltS_tot (hs.trans lm.symm) (Bool.eq_false_iff.mpr c) e) fun z => hn (by rw [z]; exact List.mem_cons_self)
      obtain ⟨M', h1, h2, h3⟩ := asc_ins hs (M := M) (fun x hx => hl x (List.mem_cons_of_mem _ hx)) a2 fun h => hn (List.mem_cons_of_mem _ h)
      refine ⟨m :: M', List.pairwise_cons.mpr ⟨fun x hx => ?_, h1⟩, fun x => ?_, by rw [List.length_cons, List.length_cons, h3]⟩
      · rcases (h2 x).mp hx with rfl | hx
        · exact sm
        · exact a1 x hx
      · rw [List.mem_cons, h2, List.mem_cons]
        exact ⟨fun h => h.elim (fun h => .inr (.inl h)) (fun h => h.elim .inl (fun h => .inr (.inr h))), fun h => h.elim (fun h => .inr (.inl h)) (fun h => h.elim .inl (fun h => .inr (.inr h)))⟩
theorem least_ex {n : Nat} : ∀ {S : List Sn}, Lens n S → ∃ L, Least S L ∧ L.length ≤ S.length
  | [], _ => ⟨[], Least.nil, Nat.le_refl _⟩
  | s :: S, hl => by
    obtain ⟨L, h, le⟩ := least_ex (S := S) fun x hx => hl x (List.mem_cons_of_mem _ hx)
    have hs := hl s List.mem_cons_self
    have hL : Lens n L := fun x hx => hl x (List.mem_cons_of_mem _ (h.sub x hx))
    by_cases c : ∃ l ∈ L, covS s l = true
    · obtain ⟨l, hl1, c⟩ := c
      refine ⟨L, ⟨⟨fun x hx => List.mem_cons_of_mem _ (h.sub x hx), fun x hx => ?_, h.anti⟩, h.asc⟩, by rw [List.length_cons]; omega⟩
      rcases List.mem_cons.mp hx with rfl | hx
      · exact ⟨l, hl1, c⟩
      · exact h.cov x hx
    · have ns : s ∉ L.filter fun l => !covS l s := fun hm => c ⟨s, (List.mem_filter.mp hm).1, covS_refl s⟩
      obtain ⟨M, m1, m2, m3⟩ := asc_ins hs (M := L.filter fun l => !covS l s) (fun x hx => hL x (List.mem_filter.mp hx).1) (h.asc.filter _) ns
      have fl := List.length_filter_le (fun l => !covS l s) L
      refine ⟨M, ⟨⟨fun x hx => ?_, fun x hx => ?_, fun x hx y hy cc => ?_⟩, m1⟩, by rw [List.length_cons]; omega⟩
      · rcases (m2 x).mp hx with rfl | hx
        · exact List.mem_cons_self
        · exact List.mem_cons_of_mem _ (h.sub x (List.mem_filter.mp hx).1)
      · rcases List.mem_cons.mp hx with rfl | hx
        · exact ⟨x, (m2 x).mpr (.inl rfl), covS_refl x⟩
        · obtain ⟨y, hy, c1⟩ := h.cov x hx
          have lx := hl x (List.mem_cons_of_mem _ hx)
          cases e : covS y s with
          | true => exact ⟨s, (m2 s).mpr (.inl rfl), covS_tr (lx.trans (hL y hy).symm) ((hL y hy).trans hs.symm) c1 e⟩
          | false => exact ⟨y, (m2 y).mpr (.inr (List.mem_filter.mpr ⟨hy, by rw [e]; rfl⟩)), c1⟩
      · rcases (m2 x).mp hx with rfl | hx
        · rcases (m2 y).mp hy with rfl | hy
          · rfl
          · exact absurd ⟨y, (List.mem_filter.mp hy).1, cc⟩ c
        · rcases (m2 y).mp hy with rfl | hy
          · have := (List.mem_filter.mp hx).2
            rw [cc] at this
            cases this
          · exact h.anti x (List.mem_filter.mp hx).1 y (List.mem_filter.mp hy).1 cc
open Classical in
theorem lay_ex {N : Nat} {ms : List MvT} {bad : List Sn} {j : Nat} (C : List Sn) (hC : ∀ x, Sok N x → Up ms bad j x → ∃ c ∈ C, Sok N c ∧ Up ms bad j c ∧ covS x c = true) : ∃ L, LayR N ms bad j L ∧ L.length ≤ C.length := by
  have mem : ∀ x, x ∈ C.filter (fun c => decide (Sok N c ∧ Up ms bad j c)) ↔ x ∈ C ∧ Sok N x ∧ Up ms bad j x := fun x => by rw [List.mem_filter, decide_eq_true_iff]
  obtain ⟨L, h, le⟩ := least_ex (n := N) (S := C.filter fun c => decide (Sok N c ∧ Up ms bad j c)) fun x hx => ((mem x).mp hx).2.1.1
  have fl := List.length_filter_le (fun c => decide (Sok N c ∧ Up ms bad j c)) C
  have sub : ∀ z ∈ L, Sok N z ∧ Up ms bad j z := fun z hz => ((mem z).mp (h.sub z hz)).2
  refine ⟨L, ⟨h.asc, fun z hz => (sub z hz).1.1, fun z hz => (sub z hz).1.2, fun z hz => (sub z hz).2, fun x hx u => ?_, h.anti⟩, by omega⟩
  obtain ⟨c, hc, sc, uc, cc⟩ := hC x hx u
  obtain ⟨y, hy, c2⟩ := h.cov c ((mem c).mpr ⟨hc, sc, uc⟩)
  exact ⟨y, hy, covS_tr (hx.1.trans sc.1.symm) (sc.1.trans (sub y hy).1.1.symm) cc c2⟩
/-! ### threads that walk to wanted places -/
abbrev FnI := Nat → Int
def decF (f : FnI) (p : Nat) : FnI := fun q => if q = p then f q - 1 else f q
def mvF (a b : Nat) (f : FnI) : FnI := fun q => f q + (if q = a then -1 else 0) + (if q = b then 1 else 0)
def bmF (f : FnI) (a : Nat) (c : Nat) : FnI := fun q => f q + if q = a then (c : Int) else 0
theorem decF_self {f : FnI} {p : Nat} : decF f p p = f p - 1 := if_pos rfl
theorem decF_ne {f : FnI} {p q : Nat} (h : q ≠ p) : decF f p q = f q := if_neg h
theorem decF_le {f : FnI} {p q : Nat} : decF f p q ≤ f q := by unfold decF; split <;> omega
theorem decF_nn {f : FnI} {p : Nat} (h : ∀ q, 0 ≤ f q) (hp : 0 < f p) (q : Nat) : 0 ≤ decF f p q := by
  unfold decF
  have := h q
  split
  · rename_i e; subst e; omega
  · exact this
theorem dec_mv {f : FnI} {a b p : Nat} : decF (mvF a b f) p = mvF a b (decF f p) := funext fun q => by
  dsimp only [decF, mvF]
  (repeat' split) <;> omega
theorem dec_mv2 {f : FnI} {a b : Nat} : decF (mvF a b f) b = decF f a := funext fun q => by
  dsimp only [decF, mvF]
  (repeat' split) <;> omega
theorem dec_bm {f : FnI} {a p c : Nat} : decF (bmF f a c) p = bmF (decF f p) a c := funext fun q => by
  dsimp only [decF, bmF]
  (repeat' split) <;> omega
theorem dec_bm2 {f : FnI} {a c : Nat} : decF (bmF f a (c + 1)) a = bmF f a c := funext fun q => by
  dsimp only [decF, bmF]
  (repeat' split) <;> omega
inductive Walk (ms : List MvT) : Nat → Nat → Nat → Prop
  | refl {p : Nat} : Walk ms p p 0
  | step {m : MvT} {q k : Nat} (hm : m ∈ ms) (w : Walk ms m.np q k) : Walk ms m.pl q (k + 1)
inductive Mtc (ms : List MvT) : FnI → List Nat → Nat → Prop
  | nil {f : FnI} : Mtc ms f [] 0
  | cons {f : FnI} {p w k c : Nat} {ws : List Nat} (hp : 0 < f p) (wk : Walk ms p w k) (r : Mtc ms (decF f p) ws c) : Mtc ms f (w :: ws) (k + c)
section
variable {ms : List MvT}
theorem Mtc.back {m : MvT} (hm : m ∈ ms) : ∀ {ws : List Nat} {f : FnI} {c : Nat}, 0 < f m.pl → Mtc ms (mvF m.pl m.np f) ws c → ∃ c', c' ≤ c + 1 ∧ Mtc ms f ws c'
  | [], f, c, _, _ => ⟨0, Nat.zero_le _, .nil⟩
  | w :: ws, f, c, h, M => by
    cases M with
    | @cons _ p _ k c _ hp wk r =>
      by_cases g : 0 < f p ∧ 0 < decF f p m.pl
      · rw [dec_mv] at r
        obtain ⟨c', h1, h2⟩ := Mtc.back hm g.2 r
        exact ⟨k + c', by omega, .cons g.1 wk h2⟩
      · have e : p = m.np := Classical.byContradiction fun ne => g (by
          unfold mvF at hp
          rw [if_neg ne] at hp
          by_cases e : p = m.pl
          · rw [if_pos e] at hp
            rw [← e, decF_self]
            omega
          · rw [if_neg e] at hp
            rw [decF_ne fun z => e z.symm]
            omega)
        subst e
        rw [dec_mv2] at r
        exact ⟨k + 1 + c, by omega, .cons h (.step hm wk) r⟩
theorem Mtc.fwd : ∀ {ws : List Nat} {f : FnI} {n : Nat}, (∀ q, 0 ≤ f q) → Mtc ms f ws n → ∀ c, n = c + 1 → ∃ m ∈ ms, 0 < f m.pl ∧ Mtc ms (mvF m.pl m.np f) ws c
  | [], _, _, _, M, c, e => by cases M; omega
  | w :: ws, f, n, nn, M, c, e => by
    cases M with
    | @cons _ p _ k c0 _ hp wk r =>
      cases wk with
      | refl =>
        obtain ⟨m, hm, h1, h2⟩ := Mtc.fwd (decF_nn nn hp) r c (by omega)
        have := decF_le (f := f) (p := w) (q := m.pl)
        refine ⟨m, hm, by omega, ?_⟩
        rw [← dec_mv] at h2
        have := Mtc.cons (p := w) (w := w) (k := 0) (f := mvF m.pl m.np f) (by
          unfold mvF
          by_cases e : w = m.pl
          · rw [← e, decF_self] at h1
            rw [if_pos e]
            split <;> omega
          · rw [if_neg e]
            split <;> omega) .refl h2
        rw [Nat.zero_add] at this
        exact this
      | @step m _ k' hm wk' =>
        refine ⟨m, hm, hp, ?_⟩
        have := Mtc.cons (p := m.np) (w := w) (k := k') (c := c0) (ws := ws) (f := mvF m.pl m.np f) (by
          unfold mvF
          have := nn m.np
          rw [if_pos rfl]
          by_cases e : m.np = m.pl
          · rw [if_pos e, e]; omega
          · rw [if_neg e]; omega) wk' (by rw [dec_mv2]; exact r)
        rw [show c = k' + c0 by omega]
        exact this
theorem Walk.zero {p q k : Nat} (h : Walk ms p q k) (e : k = 0) : p = q := by
  cases h with
  | refl => rfl
  | step _ _ => cases e
theorem Mtc.zero : ∀ {ws : List Nat} {f : FnI} {n : Nat}, (∀ q, 0 ≤ f q) → Mtc ms f ws n → n = 0 → ∀ q, ((ws.count q : Nat) : Int) ≤ f q
  | [], _, _, nn, _, _, q => nn q
  | w :: ws, f, n, nn, M, e, q => by
    cases M with
    | @cons _ p _ k c0 _ hp wk r =>
      obtain rfl := wk.zero (by omega)
      have := Mtc.zero (decF_nn nn hp) r (by omega) q
      rw [List.count_cons]
      unfold decF at this
      by_cases e : q = p
      · rw [if_pos e] at this
        rw [if_pos (by rw [e]; exact beq_self_eq_true p)]
        omega
      · rw [if_neg e] at this
        rw [if_neg (by rw [beq_iff_eq]; exact fun z => e z.symm)]
        omega
theorem Mtc.of_zero : ∀ {ws : List Nat} {f : FnI}, (∀ q, ((ws.count q : Nat) : Int) ≤ f q) → Mtc ms f ws 0
  | [], _, _ => .nil
  | w :: ws, f, h => by
    have hw := h w
    rw [List.count_cons_self] at hw
    refine Mtc.cons (k := 0) (c := 0) (by omega) .refl (Mtc.of_zero fun q => ?_)
    have := h q
    rw [List.count_cons] at this
    unfold decF
    by_cases e : q = w
    · rw [if_pos e]
      rw [if_pos (by rw [e]; exact beq_self_eq_true w)] at this
      omega
    · rw [if_neg e]
      rw [if_neg (by rw [beq_iff_eq]; exact fun z => e z.symm)] at this
      omega
/-- counts above the wanted number do not matter -/
theorem Mtc.clip : ∀ {ws : List Nat} {f g : FnI} {c L : Nat}, Mtc ms f ws c → ws.length ≤ L → (∀ q, f q ≤ g q ∨ (L : Int) ≤ g q) → Mtc ms g ws c
  | [], _, _, _, _, M, _, _ => by cases M; exact .nil
  | w :: ws, f, g, c, L, M, l, h => by
    cases M with
    | @cons _ p _ k c0 _ hp wk r =>
      rw [List.length_cons] at l
      obtain ⟨L, rfl⟩ : ∃ L', L = L' + 1 := ⟨L - 1, by omega⟩
      refine .cons (by have := h p; omega) wk (Mtc.clip (L := L) r (by omega) fun q => ?_)
      have := h q
      unfold decF
      split <;> omega
/-! ### reaching -/
theorem Walk.snoc {m : MvT} (hm : m ∈ ms) : ∀ {p q k : Nat}, Walk ms p q k → q = m.pl → Walk ms p m.np (k + 1)
  | _, _, _, .refl, e => by rw [e]; exact .step hm .refl
  | _, _, _, .step h w, e => .step h (w.snoc hm e)
theorem Walk.last : ∀ {p q n : Nat}, Walk ms p q n → ∀ k, n = k + 1 → ∃ m ∈ ms, m.np = q ∧ Walk ms p m.pl k
  | _, _, _, .refl, k, e => by cases e
  | _, _, _, @Walk.step _ m q k' h w, k, e => by
    obtain rfl : k' = k := by omega
    cases k' with
    | zero => exact ⟨m, h, w.zero rfl, .refl⟩
    | succ k'' =>
      obtain ⟨m', h1, h2, h3⟩ := w.last k'' rfl
      exact ⟨m', h1, h2, .step h h3⟩
def Rk (ms : List MvT) (p k q : Nat) : Prop := ∃ j, j ≤ k ∧ Walk ms p q j
abbrev Rch (ms : List MvT) (p q : Nat) : Prop := ∃ k, Walk ms p q k
theorem Rk.closed {p k : Nat} (h : ∀ q, Rk ms p (k + 1) q → Rk ms p k q) : ∀ (i q : Nat), Rk ms p (k + i) q → Rk ms p k q
  | 0, _, r => r
  | i + 1, q, ⟨j, hj, w⟩ => by
    by_cases l : j ≤ k + i
    · exact Rk.closed h i q ⟨j, l, w⟩
    · obtain ⟨m, hm, rfl, w'⟩ := w.last (k + i) (by omega)
      obtain ⟨j', h1, w2⟩ := Rk.closed h i m.pl ⟨_, Nat.le_refl _, w'⟩
      exact h _ ⟨j' + 1, by omega, w2.snoc hm rfl⟩
theorem flt_le {α : Type} {P Q : α → Bool} (h : ∀ x, P x = true → Q x = true) : ∀ (l : List α), (l.filter P).length ≤ (l.filter Q).length
  | [] => Nat.le_refl 0
  | x :: l => by
    have ih := flt_le h l
    rw [List.filter_cons, List.filter_cons]
    cases e : P x with
    | true => rw [h x e]; simp only [if_true, List.length_cons]; omega
    | false =>
      simp only [Bool.false_eq_true, if_false]
      split
      · rw [List.length_cons]; omega
      · exact ih
theorem flt_lt {α : Type} {P Q : α → Bool} (h : ∀ x, P x = true → Q x = true) {x : α} (hq : Q x = true) (hp : P x = false) : ∀ {l : List α}, x ∈ l → (l.filter P).length < (l.filter Q).length
  | [], hx => nomatch hx
  | y :: l, hx => by
    have le := flt_le h l
    rw [List.filter_cons, List.filter_cons]
    rcases List.mem_cons.mp hx with rfl | hx
    · rw [hp, hq]; simp only [Bool.false_eq_true, if_false, if_true, List.length_cons]; omega
    · have ih := flt_lt h hq hp hx
      cases e : P y with
      | true => rw [h y e]; simp only [if_true, List.length_cons]; omega
      | false =>
        simp only [Bool.false_eq_true, if_false]
        split
        · rw [List.length_cons]; omega
        · exact ih
open Classical in
theorem Rk.grow {N p : Nat} (hN : ∀ m ∈ ms, m.np < N) (hp : p < N) : ∀ k : Nat, (∃ j, j < k ∧ ∀ q, Rk ms p (j + 1) q → Rk ms p j q) ∨ k + 1 ≤ ((List.range N).filter fun q => decide (Rk ms p k q)).length
  | 0 => .inr (List.length_pos_of_mem (List.mem_filter.mpr ⟨List.mem_range.mpr hp, decide_eq_true ⟨0, Nat.le_refl 0, .refl⟩⟩))
  | k + 1 => by
    rcases Rk.grow hN hp k with ⟨j, h1, h2⟩ | h
    · exact .inl ⟨j, by omega, h2⟩
    · by_cases c : ∀ q, Rk ms p (k + 1) q → Rk ms p k q
      · exact .inl ⟨k, Nat.lt_succ_self k, c⟩
      · obtain ⟨q, hq⟩ := Classical.not_forall.mp c
        obtain ⟨⟨j, hj, w⟩, h2⟩ := Classical.not_imp.mp hq
        have ej : j = k + 1 := Classical.byContradiction fun ne => h2 ⟨j, by omega, w⟩
        obtain ⟨m, hm, e, _⟩ := w.last k ej
        have ql : q < N := by rw [← e]; exact hN m hm
        refine .inr ?_
        have := flt_lt (P := fun q => decide (Rk ms p k q)) (Q := fun q => decide (Rk ms p (k + 1) q)) (fun x hx => by
          obtain ⟨j, h1, h2⟩ := of_decide_eq_true hx
          exact decide_eq_true ⟨j, by omega, h2⟩) (decide_eq_true ⟨j, hj, w⟩) (decide_eq_false h2) (List.mem_range.mpr ql)
        omega
/-- walks need not be longer than there are places -/
theorem Walk.short {N p q k : Nat} (hN : ∀ m ∈ ms, m.np < N) (hp : p < N) (w : Walk ms p q k) : ∃ k', k' + 1 ≤ N ∧ Walk ms p q k' := by
  rcases Rk.grow hN hp N with ⟨j, h1, h2⟩ | h
  · have : Rk ms p j q := by
      by_cases l : k ≤ j
      · exact ⟨k, l, w⟩
      · exact Rk.closed h2 (k - j) q ⟨k, by omega, w⟩
    obtain ⟨k', h3, h4⟩ := this
    exact ⟨k', by omega, h4⟩
  · have := List.length_filter_le (fun q => @decide (Rk ms p N q) (Classical.propDecidable _)) (List.range N)
    rw [List.length_range] at this
    omega
theorem Mtc.short {N : Nat} (hN : ∀ m ∈ ms, m.pl < N ∧ m.np < N) : ∀ {ws : List Nat} {f : FnI} {c : Nat}, Mtc ms f ws c → ∃ c', c' ≤ (N - 1) * ws.length ∧ Mtc ms f ws c'
  | [], _, _, _ => ⟨0, Nat.zero_le _, .nil⟩
  | w :: ws, f, c, M => by
    cases M with
    | @cons _ p _ k c0 _ hp wk r =>
      obtain ⟨c', h1, h2⟩ := Mtc.short hN r
      have : ∃ k', k' ≤ N - 1 ∧ Walk ms p w k' := by
        cases wk with
        | refl => exact ⟨0, Nat.zero_le _, .refl⟩
        | @step m _ k' hm w' =>
          obtain ⟨k2, h3, h4⟩ := (Walk.step hm w').short (fun m hm => (hN m hm).2) (hN m hm).1
          exact ⟨k2, by omega, h4⟩
      obtain ⟨k2, h3, h4⟩ := this
      refine ⟨k2 + c', ?_, .cons hp h4 h2⟩
      rw [List.length_cons, Nat.mul_succ]
      omega
/-! ### threads from the start and from the crew -/
inductive Prt (ms : List MvT) (a : Nat) : FnI → List Nat → Nat → Prop
  | nil {f : FnI} : Prt ms a f [] 0
  | crew {f : FnI} {w n : Nat} {ws : List Nat} (r : Rch ms a w) (h : Prt ms a f ws n) : Prt ms a f (w :: ws) (n + 1)
  | start {f : FnI} {p w n : Nat} {ws : List Nat} (hp : 0 < f p) (r : Rch ms p w) (h : Prt ms a (decF f p) ws n) : Prt ms a f (w :: ws) n
abbrev MR (ms : List MvT) (f : FnI) (ws : List Nat) : Prop := ∃ c, Mtc ms f ws c
theorem MR.cons_iff {f : FnI} {w : Nat} {ws : List Nat} : MR ms f (w :: ws) ↔ ∃ p, 0 < f p ∧ Rch ms p w ∧ MR ms (decF f p) ws := by
  constructor
  · rintro ⟨c, M⟩
    cases M with
    | cons hp wk r => exact ⟨_, hp, ⟨_, wk⟩, ⟨_, r⟩⟩
  · rintro ⟨p, hp, ⟨k, wk⟩, ⟨c, r⟩⟩
    exact ⟨_, .cons hp wk r⟩
theorem MR.prt {a : Nat} : ∀ {ws : List Nat} {f : FnI} {c : Nat}, (∀ q, 0 ≤ f q) → (MR ms (bmF f a c) ws ↔ ∃ n, n ≤ c ∧ Prt ms a f ws n)
  | [], f, c, _ => ⟨fun _ => ⟨0, Nat.zero_le _, .nil⟩, fun _ => ⟨0, .nil⟩⟩
  | w :: ws, f, c, nn => by
    rw [MR.cons_iff]
    constructor
    · rintro ⟨p, hp, r, M⟩
      by_cases g : 0 < f p
      · rw [dec_bm] at M
        obtain ⟨n, h1, h2⟩ := (MR.prt (decF_nn nn g)).mp M
        exact ⟨n, h1, .start g r h2⟩
      · unfold bmF at hp
        have e : p = a := Classical.byContradiction fun ne => by rw [if_neg ne] at hp; omega
        subst e
        rw [if_pos rfl] at hp
        have := nn p
        obtain ⟨c, rfl⟩ : ∃ c', c = c' + 1 := ⟨c - 1, by omega⟩
        rw [dec_bm2] at M
        obtain ⟨n, h1, h2⟩ := (MR.prt nn).mp M
        exact ⟨n + 1, by omega, .crew r h2⟩
    · rintro ⟨n, hn, h⟩
      cases h with
      | @crew _ _ n _ r h =>
        obtain ⟨c, rfl⟩ : ∃ c', c = c' + 1 := ⟨c - 1, by omega⟩
        refine ⟨a, ?_, r, ?_⟩
        · unfold bmF
          rw [if_pos rfl]
          have := nn a
          omega
        · rw [dec_bm2]
          exact (MR.prt nn).mpr ⟨n, by omega, h⟩
      | @start _ p _ n _ hp r h =>
        refine ⟨p, ?_, r, ?_⟩
        · unfold bmF
          split <;> omega
        · rw [dec_bm]
          exact (MR.prt (decF_nn nn hp)).mpr ⟨n, hn, h⟩
end
/-! ### parts of a list by the bits of a number -/
def selP (b : Nat) (part : Nat) (ws : List Nat) : List Nat := ((List.range ws.length).filter fun k => decide (part / 2 ^ k % 2 = b)).map fun k => ws.getD k 0
theorem selP_cons {b part w : Nat} {ws : List Nat} : selP b part (w :: ws) = (if part % 2 = b then [w] else []) ++ selP b (part / 2) ws := by
  unfold selP
  rw [List.length_cons, List.range_succ_eq_map, List.filter_cons, List.filter_map]
  have e : ((fun k => decide (part / 2 ^ k % 2 = b)) ∘ Nat.succ) = fun k => decide (part / 2 / 2 ^ k % 2 = b) := funext fun k => by
    show decide (part / 2 ^ (k + 1) % 2 = b) = decide (part / 2 / 2 ^ k % 2 = b)
    rw [Nat.pow_succ, Nat.mul_comm, Nat.div_div_eq_div_mul]
  rw [e]
  have e2 : (List.map (fun k => (w :: ws).getD k 0) (List.map Nat.succ ((List.range ws.length).filter fun k => decide (part / 2 / 2 ^ k % 2 = b)))) = ((List.range ws.length).filter fun k => decide (part / 2 / 2 ^ k % 2 = b)).map fun k => ws.getD k 0 := by
    rw [List.map_map]
    rfl
  have e0 : decide (part / 2 ^ 0 % 2 = b) = decide (part % 2 = b) := by rw [Nat.pow_zero, Nat.div_one]
  by_cases c : part % 2 = b
  · rw [if_pos c, if_pos (by rw [e0, decide_eq_true c]), List.map_cons, e2]
    rfl
  · rw [if_neg c, if_neg (by rw [e0, decide_eq_false c]; decide), e2]
    rfl
structure GoodP (ms : List MvT) (a : Nat) (f : FnI) (ws : List Nat) (part : Nat) : Prop where
  cr : ∀ w ∈ selP 1 part ws, Rch ms a w
  st : MR ms f (selP 0 part ws)
theorem Prt.part {ms : List MvT} {a : Nat} : ∀ {ws : List Nat} {f : FnI} {n : Nat}, Prt ms a f ws n → ∃ part, part < 2 ^ ws.length ∧ GoodP ms a f ws part ∧ (selP 1 part ws).length = n
  | [], f, n, h => by
    cases h
    exact ⟨0, Nat.one_pos, ⟨fun w hw => (nomatch hw), ⟨0, .nil⟩⟩, rfl⟩
  | w :: ws, f, n, h => by
    cases h with
    | @crew _ _ n _ r h =>
      obtain ⟨p, h1, h2, h3⟩ := Prt.part h
      have d : (2 * p + 1) / 2 = p := by omega
      have md : (2 * p + 1) % 2 = 1 := by omega
      have e1 : selP 1 (2 * p + 1) (w :: ws) = w :: selP 1 p ws := by rw [selP_cons, if_pos md, d]; rfl
      have e0 : selP 0 (2 * p + 1) (w :: ws) = selP 0 p ws := by rw [selP_cons, if_neg (by omega), d]; rfl
      refine ⟨2 * p + 1, by rw [List.length_cons, Nat.pow_succ]; omega, ⟨fun x hx => ?_, ?_⟩, ?_⟩
      · rw [e1] at hx
        rcases List.mem_cons.mp hx with rfl | hx
        · exact r
        · exact h2.cr x hx
      · rw [e0]; exact h2.st
      · rw [e1, List.length_cons, h3]
    | @start _ q _ n _ hp r h =>
      obtain ⟨p, h1, h2, h3⟩ := Prt.part h
      have d : (2 * p) / 2 = p := by omega
      have e1 : selP 1 (2 * p) (w :: ws) = selP 1 p ws := by rw [selP_cons, if_neg (by omega), d]; rfl
      have e0 : selP 0 (2 * p) (w :: ws) = w :: selP 0 p ws := by rw [selP_cons, if_pos (by omega), d]; rfl
      refine ⟨2 * p, by rw [List.length_cons, Nat.pow_succ]; omega, ⟨fun x hx => ?_, ?_⟩, ?_⟩
      · rw [e1] at hx
        exact h2.cr x hx
      · rw [e0]; exact MR.cons_iff.mpr ⟨q, hp, r, h2.st⟩
      · rw [e1, h3]
theorem GoodP.prt {ms : List MvT} {a : Nat} : ∀ {ws : List Nat} {f : FnI} {part : Nat}, GoodP ms a f ws part → Prt ms a f ws (selP 1 part ws).length
  | [], _, _, _ => .nil
  | w :: ws, f, part, h => by
    by_cases c : part % 2 = 1
    · have e1 : selP 1 part (w :: ws) = w :: selP 1 (part / 2) ws := by rw [selP_cons, if_pos c]; rfl
      have e0 : selP 0 part (w :: ws) = selP 0 (part / 2) ws := by rw [selP_cons, if_neg (by omega)]; rfl
      rw [e1, List.length_cons]
      refine .crew (h.cr w (by rw [e1]; exact List.mem_cons_self)) (GoodP.prt ⟨fun x hx => h.cr x (by rw [e1]; exact List.mem_cons_of_mem _ hx), ?_⟩)
      have := h.st
      rw [e0] at this
      exact this
    · have c0 : part % 2 = 0 := by omega
      have e1 : selP 1 part (w :: ws) = selP 1 (part / 2) ws := by rw [selP_cons, if_neg c]; rfl
      have e0 : selP 0 part (w :: ws) = w :: selP 0 (part / 2) ws := by rw [selP_cons, if_pos c0]; rfl
      have := h.st
      rw [e0] at this
      obtain ⟨p, hp, r, M⟩ := MR.cons_iff.mp this
      rw [e1]
      exact .start hp r (GoodP.prt ⟨fun x hx => h.cr x (by rw [e1]; exact hx), M⟩)
/-! ### how many can be matched -/
def mtN (R : Nat → Nat → Bool) (n : Nat) : List Nat → FnI → Nat
  | [], _ => 0
  | w :: ws, f => (List.range n).foldl (fun b p => if 0 < f p ∧ R p w = true then max b (1 + mtN R n ws (decF f p)) else b) (mtN R n ws f)
theorem foldl_max {α : Type} {P : α → Prop} [DecidablePred P] {g : α → Nat} : ∀ (l : List α) (b k : Nat), (l.foldl (fun b p => if P p then max b (g p) else b) b ≥ k ↔ b ≥ k ∨ ∃ p ∈ l, P p ∧ g p ≥ k)
  | [], b, k => ⟨.inl, fun h => h.elim id fun ⟨_, h, _⟩ => nomatch h⟩
  | x :: l, b, k => by
    rw [List.foldl_cons, foldl_max l]
    constructor
    · rintro (h | ⟨p, h1, h2⟩)
      · split at h
        · rename_i c
          by_cases z : b ≥ k
          · exact .inl z
          · exact .inr ⟨x, List.mem_cons_self, c, by omega⟩
        · exact .inl h
      · exact .inr ⟨p, List.mem_cons_of_mem _ h1, h2⟩
    · rintro (h | ⟨p, h1, h2, h3⟩)
      · refine .inl ?_
        split <;> omega
      · rcases List.mem_cons.mp h1 with rfl | h1
        · refine .inl ?_
          rw [if_pos h2]
          omega
        · exact .inr ⟨p, h1, h2, h3⟩
theorem mtN_iff {ms : List MvT} {R : Nat → Nat → Bool} {n : Nat} (hR : ∀ p w, p < n → (R p w = true ↔ Rch ms p w)) : ∀ (ws : List Nat) {f : FnI}, (∀ q, n ≤ q → f q ≤ 0) → mtN R n ws f ≤ ws.length ∧ (mtN R n ws f = ws.length ↔ MR ms f ws)
  | [], f, _ => ⟨Nat.le_refl 0, fun _ => ⟨0, .nil⟩, fun _ => rfl⟩
  | w :: ws, f, h => by
    have hd : ∀ p q, n ≤ q → decF f p q ≤ 0 := fun p q hq => by
      have := h q hq
      have := decF_le (f := f) (p := p) (q := q)
      omega
    have ih := mtN_iff hR ws h
    have e : ∀ k, mtN R n (w :: ws) f ≥ k ↔ _ := fun k => foldl_max (P := fun p => 0 < f p ∧ R p w = true) (g := fun p => 1 + mtN R n ws (decF f p)) (List.range n) (mtN R n ws f) k
    have le : mtN R n (w :: ws) f ≤ (w :: ws).length := by
      refine Classical.byContradiction fun z => ?_
      rcases (e (ws.length + 2)).mp (by rw [List.length_cons] at z; omega) with h1 | ⟨p, h1, h2, h3⟩
      · omega
      · have := (mtN_iff hR ws (hd p)).1
        omega
    refine ⟨le, ?_⟩
    rw [MR.cons_iff]
    have e' : mtN R n (w :: ws) f = (w :: ws).length ↔ mtN R n (w :: ws) f ≥ ws.length + 1 := by
      rw [List.length_cons] at le ⊢
      omega
    rw [e', e]
    constructor
    · rintro (h1 | ⟨p, h1, h2, h3⟩)
      · omega
      · have ih2 := mtN_iff hR ws (hd p)
        exact ⟨p, h2.1, (hR p w (List.mem_range.mp h1)).mp h2.2, ih2.2.mp (by omega)⟩
    · rintro ⟨p, hp, r, M⟩
      have pl : p < n := by
        rcases Nat.lt_or_ge p n with l | l
        · exact l
        · have := h p l; omega
      have ih2 := mtN_iff hR ws (hd p)
      exact .inr ⟨p, List.mem_range.mpr pl, ⟨hp, (hR p w pl).mpr r⟩, by have := ih2.2.mpr M; omega⟩
theorem ext_getD {xs ys : List Int} (hl : xs.length = ys.length) (h : ∀ q, xs.getD q 0 = ys.getD q 0) : xs = ys := by
  refine List.ext_getElem hl fun i h1 h2 => ?_
  have := h i
  rw [List.getD_eq_getElem?_getD, List.getD_eq_getElem?_getD, List.getElem?_eq_getElem h1, List.getElem?_eq_getElem h2] at this
  exact this
theorem unk_no {N f t : Nat} {ms : List MvT} {bad : List Sn} (stb : Stab N ms bad t) (ex : ∀ j, j ≤ t → ∃ L, LayR N ms bad j L ∧ L.length ≤ 2000) (tf : t < f) : ¬ UnkC N ms bad f := by
  rintro (u | ⟨j, hj, u1, u2⟩)
  · obtain ⟨x, h1, h2, h3⟩ := u t tf
    exact h3 (stb x h1 h2)
  · have jt : j ≤ t := by
      rcases Nat.lt_or_ge t j with l | l
      · obtain ⟨x, h1, h2, h3⟩ := u1 t l
        exact absurd (stb x h1 h2) h3
      · exact l
    obtain ⟨L, h1, h2⟩ := ex j jt
    have := u2 L h1
    omega
/-! ### wanted places of counts -/
def wantF : Nat → List Int → List Nat
  | _, [] => []
  | i, c :: cs => List.replicate c.toNat i ++ wantF (i + 1) cs
abbrev want (cs : List Int) : List Nat := wantF 0 cs
theorem wantF_snoc : ∀ (cs : List Int) (i : Nat) (c : Int), wantF i (cs ++ [c]) = wantF i cs ++ List.replicate c.toNat (i + cs.length)
  | [], i, c => by
    show List.replicate c.toNat i ++ wantF (i + 1) [] = [] ++ _
    rw [List.length_nil, Nat.add_zero, List.nil_append]
    exact List.append_nil _
  | d :: cs, i, c => by
    show List.replicate d.toNat i ++ wantF (i + 1) (cs ++ [c]) = (List.replicate d.toNat i ++ wantF (i + 1) cs) ++ _
    rw [wantF_snoc cs, List.append_assoc, List.length_cons, show i + 1 + cs.length = i + (cs.length + 1) by omega]
theorem wantF_len : ∀ {cs : List Int} (i : Nat), (∀ c ∈ cs, 0 ≤ c) → ((wantF i cs).length : Int) = cs.sum
  | [], _, _ => rfl
  | c :: cs, i, h => by
    have ih := wantF_len (cs := cs) (i + 1) fun x hx => h x (List.mem_cons_of_mem _ hx)
    have h0 := h c List.mem_cons_self
    show ((List.replicate c.toNat i ++ wantF (i + 1) cs).length : Int) = _
    rw [List.length_append, List.length_replicate, List.sum_cons]
    omega
theorem wantF_count : ∀ (cs : List Int) (i q : Nat), (wantF i cs).count q = if i ≤ q then (cs.getD (q - i) 0).toNat else 0
  | [], i, q => by
    show 0 = _
    split <;> rfl
  | c :: cs, i, q => by
    show (List.replicate c.toNat i ++ wantF (i + 1) cs).count q = _
    rw [List.count_append, List.count_replicate, wantF_count cs]
    by_cases e : i = q
    · subst e
      rw [if_pos (beq_self_eq_true i), if_neg (by omega), if_pos (Nat.le_refl i), Nat.sub_self]
      rfl
    · rw [if_neg (by rw [beq_iff_eq]; exact e)]
      by_cases l : i ≤ q
      · rw [if_pos l, if_pos (by omega), show q - i = (q - (i + 1)) + 1 by omega, Nat.zero_add]
        rfl
      · rw [if_neg l, if_neg (by omega)]
theorem want_count (cs : List Int) (q : Nat) : (want cs).count q = (cs.getD q 0).toNat := by
  rw [wantF_count, if_pos (Nat.zero_le q), Nat.sub_zero]
theorem wantF_lt : ∀ (cs : List Int) (i : Nat), ∀ p ∈ wantF i cs, p < i + cs.length
  | [], _, p, h => nomatch h
  | c :: cs, i, p, h => by
    rcases List.mem_append.mp h with h | h
    · rw [List.eq_of_mem_replicate h, List.length_cons]
      omega
    · have := wantF_lt cs (i + 1) p h
      rw [List.length_cons]
      omega
/-! ### machines with one state -/
structure One1 (N : Nat) (ms : List MvT) : Prop where
  mv : ∀ m ∈ ms, m.st = 0 ∧ m.ns = 0 ∧ m.sh = [] ∧ m.sd = none ∧ m.pl < N ∧ m.np < N
structure Bd1 (N : Nat) (bad : List Sn) : Prop where
  b : ∀ b ∈ bad, b.1 = 0 ∧ b.2.length = N ∧ (∀ c ∈ b.2, 0 ≤ c) ∧ b.2.sum ≤ 3
abbrev fnX (x : List Int) : FnI := fun q => x.getD q 0
section
variable {N : Nat} {ms : List MvT} {bad : List Sn}
theorem One1.fit (h : One1 N ms) {m : MvT} (hm : m ∈ ms) : m.Fit 1 N := by
  obtain ⟨h1, h2, h3, h4, h5, h6⟩ := h.mv m hm
  refine ⟨by omega, h5, by omega, h6, (fun d hd => by rw [h4] at hd; cases hd), ?_⟩
  rw [h3]
  exact ⟨.nil, fun p hp => (nomatch hp), fun p hp => (nomatch hp), fun p hp => (nomatch hp)⟩
theorem One1.aft (h : One1 N ms) {m : MvT} (hm : m ∈ ms) {cs : List Int} (hl : cs.length = N) : fnX (m.aft cs) = mvF m.pl m.np (fnX cs) := funext fun q => by
  obtain ⟨h1, h2, h3, h4, h5, h6⟩ := h.mv m hm
  have := aft_plain (h.fit hm) h3 hl q
  rw [h4, if_neg (show ¬ (none : Option Nat) = some q from fun z => nomatch z)] at this
  show (m.aft cs).getD q 0 = _
  rw [this]
  dsimp only [mvF, fnX]
  omega
theorem Bd1.lens (h : Bd1 N bad) : Lens N bad := fun b hb => (h.b b hb).2.1
theorem Bd1.cnt (h : Bd1 N bad) {b : Sn} (hb : b ∈ bad) (q : Nat) : (((want b.2).count q : Nat) : Int) = b.2.getD q 0 := by
  rw [want_count]
  exact Int.toNat_of_nonneg (getD_nn (h.b b hb).2.2.1 q)
theorem Bd1.three (h : Bd1 N bad) {b : Sn} (hb : b ∈ bad) : (want b.2).length ≤ 3 := by
  have h1 : ((want b.2).length : Int) = b.2.sum := wantF_len 0 (h.b b hb).2.2.1
  have h2 := (h.b b hb).2.2.2
  omega
theorem One1.up (h : One1 N ms) (hb : Bd1 N bad) : ∀ (n : Nat) {x : Sn}, Sok N x → (Up ms bad n x ↔ x.1 = 0 ∧ ∃ b ∈ bad, ∃ c, c ≤ n ∧ Mtc ms (fnX x.2) (want b.2) c)
  | 0, x, hx => by
    constructor
    · rintro ⟨b, bm, c⟩
      obtain ⟨c1, c2⟩ := covS_get (hx.1.trans (hb.b b bm).2.1.symm) c
      exact ⟨c1.trans (hb.b b bm).1, b, bm, 0, Nat.le_refl 0, Mtc.of_zero fun q => by rw [hb.cnt bm]; exact c2 q⟩
    · rintro ⟨e, b, bm, c, hc, M⟩
      refine ⟨b, bm, covS_of (hx.1.trans (hb.b b bm).2.1.symm) (e.trans (hb.b b bm).1.symm) fun q => ?_⟩
      have := M.zero (fun q => getD_nn hx.2 q) (by omega) q
      rw [hb.cnt bm] at this
      exact this
  | n + 1, x, hx => by
    constructor
    · rintro (u | ⟨m, hm, h1, h2, h3⟩)
      · obtain ⟨e, b, bm, c, hc, M⟩ := (h.up hb n hx).mp u
        exact ⟨e, b, bm, c, by omega, M⟩
      · have ok := aft_ok (h.fit hm) hx.1 hx.2 h2
        obtain ⟨_, b, bm, c, hc, M⟩ := (h.up hb n (x := ((m.ns : Int), m.aft x.2)) ok).mp h3
        have M : Mtc ms (fnX (m.aft x.2)) (want b.2) c := M
        rw [h.aft hm hx.1] at M
        obtain ⟨c', l, M'⟩ := M.back hm h2
        refine ⟨by rw [h1, (h.mv m hm).1]; rfl, b, bm, c', by omega, M'⟩
    · rintro ⟨e, b, bm, c, hc, M⟩
      by_cases l : c ≤ n
      · exact .inl ((h.up hb n hx).mpr ⟨e, b, bm, c, l, M⟩)
      · obtain ⟨m, hm, h1, h2⟩ := M.fwd (fun q => getD_nn hx.2 q) n (by omega)
        have ok := aft_ok (h.fit hm) hx.1 hx.2 h1
        refine .inr ⟨m, hm, by rw [e, (h.mv m hm).1]; rfl, h1, (h.up hb n (x := ((m.ns : Int), m.aft x.2)) ok).mpr ⟨by show ((m.ns : Nat) : Int) = 0; rw [(h.mv m hm).2.1]; rfl, b, bm, n, Nat.le_refl n, ?_⟩⟩
        show Mtc ms (fnX (m.aft x.2)) (want b.2) n
        rw [h.aft hm hx.1]
        exact h2
theorem One1.pl (h : One1 N ms) : ∀ m ∈ ms, m.pl < N ∧ m.np < N := fun m hm => ⟨(h.mv m hm).2.2.2.2.1, (h.mv m hm).2.2.2.2.2⟩
theorem One1.stab (h : One1 N ms) (hb : Bd1 N bad) : Stab N ms bad ((N - 1) * 3) := fun x hx u => by
  obtain ⟨e, b, bm, c, hc, M⟩ := (h.up hb _ hx).mp u
  obtain ⟨c', h1, h2⟩ := M.short h.pl
  exact (h.up hb _ hx).mpr ⟨e, b, bm, c', Nat.le_trans h1 (Nat.mul_le_mul_left _ (hb.three bm)), h2⟩
/-! ### the layers are short -/
def allC : Nat → List (List Int)
  | 0 => [[]]
  | n + 1 => [(0 : Int), 1, 2, 3].flatMap fun v => (allC n).map (v :: ·)
theorem allC_len : ∀ n, (allC n).length = 4 ^ n
  | 0 => rfl
  | n + 1 => by
    have ih := allC_len n
    show (List.flatMap (fun v => (allC n).map (v :: ·)) [(0 : Int), 1, 2, 3]).length = _
    simp only [List.flatMap_cons, List.flatMap_nil, List.length_append, List.length_map, List.length_nil, ih, Nat.pow_succ]
    omega
theorem allC_mem : ∀ {cs : List Int}, (∀ c ∈ cs, 0 ≤ c ∧ c ≤ 3) → cs ∈ allC cs.length
  | [], _ => List.mem_singleton.mpr rfl
  | c :: cs, h => by
    have ih := allC_mem (cs := cs) fun x hx => h x (List.mem_cons_of_mem _ hx)
    have hc := h c List.mem_cons_self
    refine List.mem_flatMap.mpr ⟨c, ?_, List.mem_map.mpr ⟨cs, ih, rfl⟩⟩
    have : c = 0 ∨ c = 1 ∨ c = 2 ∨ c = 3 := by omega
    rcases this with rfl | rfl | rfl | rfl <;> decide
def clp (cs : List Int) : List Int := cs.map fun c => if c ≤ 3 then c else 3
theorem clp_get (cs : List Int) (q : Nat) : (clp cs).getD q 0 = if cs.getD q 0 ≤ 3 then cs.getD q 0 else 3 := by
  unfold clp
  rw [List.getD_eq_getElem?_getD, List.getD_eq_getElem?_getD, List.getElem?_map]
  cases cs[q]? <;> rfl
theorem One1.layer (h : One1 N ms) (hb : Bd1 N bad) (j : Nat) : ∃ L, LayR N ms bad j L ∧ L.length ≤ 4 ^ N := by
  obtain ⟨L, h1, h2⟩ := lay_ex (N := N) (ms := ms) (bad := bad) (j := j) ((allC N).map fun cs => ((0 : Int), cs)) fun x hx u => by
    obtain ⟨e, b, bm, c, hc, M⟩ := (h.up hb _ hx).mp u
    have ok : Sok N ((0 : Int), clp x.2) := ⟨by show (clp x.2).length = N; unfold clp; rw [List.length_map]; exact hx.1, fun y hy => by
      obtain ⟨z, hz, rfl⟩ := List.mem_map.mp hy
      have := hx.2 z hz
      split <;> omega⟩
    refine ⟨((0 : Int), clp x.2), List.mem_map.mpr ⟨clp x.2, ?_, rfl⟩, ok, (h.up hb _ ok).mpr ⟨rfl, b, bm, c, hc, M.clip (hb.three bm) fun q => ?_⟩, covS_of (x := x) (y := ((0 : Int), clp x.2)) (hx.1.trans ok.1.symm) e fun q => ?_⟩
    · have := allC_mem (cs := clp x.2) fun y hy => by
        obtain ⟨z, hz, rfl⟩ := List.mem_map.mp hy
        have := hx.2 z hz
        split <;> omega
      rw [ok.1] at this
      exact this
    · show x.2.getD q 0 ≤ (clp x.2).getD q 0 ∨ ((3 : Nat) : Int) ≤ (clp x.2).getD q 0
      rw [clp_get]
      split <;> omega
    · show (clp x.2).getD q 0 ≤ _
      rw [clp_get]
      split <;> omega
  exact ⟨L, h1, by rw [List.length_map, allC_len] at h2; exact h2⟩
theorem One1.no_unk (h : One1 N ms) (hb : Bd1 N bad) (hN : N ≤ 5) {f : Nat} (hf : 16 ≤ f) : ¬ UnkC N ms bad f := by
  have p4 : 4 ^ N ≤ 2000 := Nat.le_trans (Nat.pow_le_pow_right (by decide) hN) (by decide)
  refine unk_no (h.stab hb) (fun j _ => ?_) (by omega)
  obtain ⟨L, h1, h2⟩ := h.layer hb j
  exact ⟨L, h1, by omega⟩
/-! ### the answer -/
theorem fn_start {M : MT} (hc : M.crew < M.cnts.length) (n : Nat) : fnX (startS M (n : Int)).2 = bmF (fnX M.cnts) M.crew n := funext fun q => by
  show (bump M.cnts M.crew (n : Int)).getD q 0 = _
  unfold bump
  rw [getD_set hc]
  dsimp only [bmF, fnX]
  by_cases e : q = M.crew
  · rw [if_pos e, if_pos e, e]
  · rw [if_neg e, if_neg e]; omega
structure Sm (N : Nat) (M : MT) (bad : List Sn) : Prop where
  one : One1 N M.moves
  bd : Bd1 N bad
  ss : M.sst = 0
  cl : M.cnts.length = N
  c0 : ∀ c ∈ M.cnts, 0 ≤ c
  cr : M.crew < N
/-- a number of crew threads for one bad situation -/
abbrev Cn (M : MT) (b : Sn) (n : Nat) : Prop := Prt M.moves M.crew (fnX M.cnts) (want b.2) n
theorem Sm.start_ok {M : MT} (h : Sm N M bad) (n : Nat) : Sok N (startS M (n : Int)) := by
  refine ⟨by show (bump M.cnts M.crew (n : Int)).length = N; rw [bump_len]; exact h.cl, get_nn fun q => ?_⟩
  have := congrFun (fn_start (M := M) (by rw [h.cl]; exact h.cr) n) q
  show 0 ≤ fnX (startS M (n : Int)).2 q
  rw [this]
  dsimp only [bmF, fnX]
  have := getD_nn h.c0 q
  split <;> omega
theorem Sm.upS {M : MT} (h : Sm N M bad) {t : Nat} (st : Stab N M.moves bad t) (n : Nat) : Up M.moves bad t (startS M (n : Int)) ↔ ∃ b ∈ bad, ∃ k, k ≤ n ∧ Cn M b k := by
  have ok := h.start_ok n
  have hc : M.crew < M.cnts.length := by rw [h.cl]; exact h.cr
  constructor
  · intro u
    obtain ⟨_, b, bm, c, _, m⟩ := (h.one.up h.bd t ok).mp u
    rw [fn_start hc] at m
    exact ⟨b, bm, (MR.prt fun q => getD_nn h.c0 q).mp ⟨c, m⟩⟩
  · rintro ⟨b, bm, hk⟩
    obtain ⟨c, m⟩ := (MR.prt fun q => getD_nn h.c0 q).mpr hk
    rw [← fn_start hc] at m
    exact stab_up (fun m hm => h.one.fit hm) st c ok ((h.one.up h.bd c ok).mpr ⟨by show (M.sst : Int) = 0; rw [h.ss]; rfl, b, bm, c, Nat.le_refl c, m⟩)
theorem Sm.crewN {M : MT} (h : Sm N M bad) {t : Nat} {L : List Sn} (lay : LayR N M.moves bad t L) (st : Stab N M.moves bad t) : (∀ x ∈ crewL M L, ∃ n : Nat, x = (n : Int) ∧ ∃ b ∈ bad, ∃ k, k ≤ n ∧ Cn M b k) ∧ ∀ b ∈ bad, ∀ k, Cn M b k → ∃ x ∈ crewL M L, x ≤ (k : Int) := by
  have hc : M.crew < M.cnts.length := by rw [h.cl]; exact h.cr
  constructor
  · intro x hx
    obtain ⟨z, hz, e⟩ := List.mem_filterMap.mp hx
    have c0 := crew_nn e
    obtain ⟨n, rfl⟩ : ∃ n : Nat, x = (n : Int) := ⟨x.toNat, by omega⟩
    have hl : M.cnts.length = z.2.length := by rw [h.cl]; exact (lay.lens z hz).symm
    have cov := crew_cov hl hc e (Int.le_refl _)
    exact ⟨n, rfl, (h.upS st n).mp (up_mono (fun m hm => h.one.fit hm) h.bd.lens t (h.start_ok n) (lay.ok hz) cov (lay.up z hz))⟩
  · intro b bm k hk
    have u := (h.upS st k).mpr ⟨b, bm, k, Nat.le_refl k, hk⟩
    obtain ⟨z, hz, cov⟩ := lay.cov _ (h.start_ok k) u
    have hl : M.cnts.length = z.2.length := by rw [h.cl]; exact (lay.lens z hz).symm
    obtain ⟨c', e, le⟩ := cov_crewS hl hc (Int.natCast_nonneg k) cov
    exact ⟨c', List.mem_filterMap.mpr ⟨z, hz, e⟩, le⟩
theorem Sm.none {M : MT} (h : Sm N M bad) {t : Nat} {L : List Sn} (lay : LayR N M.moves bad t L) (st : Stab N M.moves bad t) (due : DueOk none (crewL M L)) : ∀ b ∈ bad, ∀ k, ¬ Cn M b k := fun b bm k hk => by
  obtain ⟨x, hx, _⟩ := (h.crewN lay st).2 b bm k hk
  have due : crewL M L = [] := due
  rw [due] at hx
  cases hx
theorem Sm.some {M : MT} (h : Sm N M bad) {t : Nat} {L : List Sn} (lay : LayR N M.moves bad t L) (st : Stab N M.moves bad t) {c : Int} (due : DueOk (some c) (crewL M L)) : ∃ n : Nat, c = (n : Int) ∧ (∃ b ∈ bad, Cn M b n) ∧ ∀ b ∈ bad, ∀ k, Cn M b k → n ≤ k := by
  obtain ⟨d1, d2⟩ : c ∈ crewL M L ∧ ∀ y ∈ crewL M L, c ≤ y := due
  obtain ⟨n, rfl, b, bm, k, le, hk⟩ := (h.crewN lay st).1 c d1
  have low : ∀ b ∈ bad, ∀ k, Cn M b k → n ≤ k := fun b bm k hk => by
    obtain ⟨x, hx, le⟩ := (h.crewN lay st).2 b bm k hk
    have := d2 x hx
    omega
  have := low b bm k hk
  obtain rfl : k = n := by omega
  exact ⟨k, rfl, ⟨b, bm, hk⟩, low⟩
end
/-- a comprehension over a range, any values -/
theorem lc_rngV {K : PySem.W.Frag} {n : Nat} (hn : n ≤ 90000) {j : Nat} {te : TE} {vs : List Nat} {σ : L2.St} {H1 : Hp} {D : Addr} {Qd : Hp → Prop} (nD : H1 D = none) (f : Nat → V) (hw : ∀ x, wipe ((wipe σ vs).set j x) vs = wipe σ vs)
    (hs : ∀ i H (Q : VK), i < n → Same H1 H → (∀ H4, Same H H4 → Q (f i) H4) → te ((wipe σ vs).set j (some (.int ((0 : Int) + (i : Int))))) H Q)
    (hd : ∀ H, Same H1 H → H D = some (.lst ((List.range n).map f)) → Qd H) :
    ∃ W : Nat → Nat → Hp → Prop, (∃ m, W 0 m (upd H1 D (.lst []))) ∧ ∀ i m H, W i m H →
      ((Itr 0 n).stop i H ∧ Qd H) ∨ ((Itr 0 n).go i H ∧ ∃ Nx : Hp → Prop, (∀ H', Nx H' → ∃ m', m' < m ∧ W (i + 1) m' H') ∧ ∀ x H', (Itr 0 n).yld i H x H' → gName j x (wipe σ vs) H' fun σ2 H2 => wipe σ2 vs = wipe σ vs ∧ tYes σ2 H2 fun b H3 =>
        if b = true then te σ2 H3 fun y H4 => ∃ acc, H4 D = some (.lst acc) ∧ acc.length < sizeLine ∧ Nx (upd H4 D (.lst (acc ++ [y]))) else Nx H3) := by
  refine lc_range (fun i H' => Same H1 H' ∧ H' D = some (.lst ((List.range i).map f))) ⟨same_new nD, upd_same⟩ ?_ fun H h => hd H h.1 h.2
  rintro i H hi ⟨sm, eD⟩
  refine ⟨hw _, ?_⟩
  show te _ H _
  refine hs i H _ hi sm fun H' s => ?_
  refine ⟨_, s _ _ eD, ?_, Same.mut (sm.trans s) nD, ?_⟩
  · rw [List.length_map, List.length_range]
    exact szl (by omega)
  · rw [upd_same, List.range_succ, List.map_append]
    rfl
/-- a comprehension over a range that keeps the numbers for which a test holds -/
theorem lc_rngF {K : PySem.W.Frag} {n : Nat} (hn : n ≤ 90000) {j : Nat} {tt : TT} {vs : List Nat} {σ : L2.St} {H1 : Hp} {D : Addr} {Qd : Hp → Prop} (nD : H1 D = none) (f : Nat → Bool) (hw : ∀ x, wipe ((wipe σ vs).set j x) vs = wipe σ vs) (hj : ∀ x, ((wipe σ vs).set j (some x))[j]? = some (some x))
    (hs : ∀ i H (Q : Bool → Hp → Prop), i < n → Same H1 H → (∀ H4, Same H H4 → Q (f i) H4) → tt ((wipe σ vs).set j (some (.int ((0 : Int) + (i : Int))))) H Q)
    (hd : ∀ H, Same H1 H → H D = some (.lst (((List.range n).filter f).map nV)) → Qd H) :
    ∃ W : Nat → Nat → Hp → Prop, (∃ m, W 0 m (upd H1 D (.lst []))) ∧ ∀ i m H, W i m H →
      ((Itr 0 n).stop i H ∧ Qd H) ∨ ((Itr 0 n).go i H ∧ ∃ Nx : Hp → Prop, (∀ H', Nx H' → ∃ m', m' < m ∧ W (i + 1) m' H') ∧ ∀ x H', (Itr 0 n).yld i H x H' → gName j x (wipe σ vs) H' fun σ2 H2 => wipe σ2 vs = wipe σ vs ∧ tt σ2 H2 fun b H3 =>
        if b = true then tVar j σ2 H3 fun y H4 => ∃ acc, H4 D = some (.lst acc) ∧ acc.length < sizeLine ∧ Nx (upd H4 D (.lst (acc ++ [y]))) else Nx H3) := by
  refine lc_range (fun i H' => Same H1 H' ∧ H' D = some (.lst (((List.range i).filter f).map nV))) ⟨same_new nD, upd_same⟩ ?_ fun H h => hd H h.1 h.2
  rintro i H hi ⟨sm, eD⟩
  refine ⟨hw _, ?_⟩
  show tt _ H _
  refine hs i H _ hi sm fun H' s => ?_
  have fs : (List.range (i + 1)).filter f = (List.range i).filter f ++ (if f i = true then [i] else []) := by
    rw [List.range_succ, List.filter_append]
    congr 1
    rw [List.filter_cons]
    rfl
  cases hf : f i with
  | false =>
    rw [hf, if_neg (by decide), List.append_nil] at fs
    rw [if_neg (by decide)]
    exact ⟨sm.trans s, by rw [fs]; exact s _ _ eD⟩
  | true =>
    rw [hf, if_pos rfl] at fs
    rw [if_pos rfl]
    refine ⟨_, hj _, _, s _ _ eD, ?_, Same.mut (sm.trans s) nD, ?_⟩
    · have := List.length_filter_le f (List.range i)
      rw [List.length_range] at this
      rw [List.length_map]
      exact szl (by omega)
    · rw [upd_same, fs, List.map_append]
      show some (HO.lst (_ ++ [V.int (0 + (i : Int))])) = _
      rw [show (0 : Int) + (i : Int) = (i : Int) by omega]
      rfl
/-- the first number that passes a test -/
theorem filt_first {α : Type} {ms : List α} {f : α → Bool} {g : Nat → Bool} (hg : ∀ i x, ms[i]? = some x → g i = f x) {l : Nat} (hl : l < ms.length) (hf : ms.findIdx f = l) : ((List.range ms.length).filter g)[0]? = some l := by
  have hx : ms[l]? = some ms[l] := List.getElem?_eq_getElem hl
  have yes : g l = true := by
    rw [hg l _ hx]
    subst hf
    exact List.findIdx_getElem (w := hl)
  have no : ∀ i, i < l → g i = false := fun i hi => by
    have hi2 : i < ms.length := by omega
    rw [hg i _ (List.getElem?_eq_getElem hi2)]
    subst hf
    have := List.not_of_lt_findIdx hi
    exact this
  have e : List.range ms.length = List.range l ++ (l :: (List.range' (l + 1) (ms.length - l - 1))) := by
    rw [List.range_eq_range', List.range_eq_range', ← List.range'_succ, show ms.length - l - 1 + 1 = ms.length - l by omega]
    have := List.range'_append (s := 0) (m := l) (n := ms.length - l) (step := 1)
    rw [show l + (ms.length - l) = ms.length by omega, Nat.zero_add, Nat.one_mul] at this
    exact this.symm
  rw [e, List.filter_append, List.filter_eq_nil_iff.mpr fun i hi => by rw [no i (List.mem_range.mp hi)]; exact Bool.false_ne_true, List.nil_append, List.filter_cons, if_pos yes]
  rfl
/-! ### a list of moves that grows -/
theorem dpa_dropN {K : PySem.W.Frag} {H : Hp} : ∀ {xs : List V} {ds : List PyData} (k : Nat), DpAll K H xs ds → DpAll K H (xs.drop k) (ds.drop k)
  | _, _, 0, h => h
  | _, _, _ + 1, .nil => .nil
  | _, _, k + 1, .cons _ t => dpa_dropN k t
theorem dpa_takeN {K : PySem.W.Frag} {H : Hp} : ∀ {xs : List V} {ds : List PyData} (k : Nat), DpAll K H xs ds → DpAll K H (xs.take k) (ds.take k)
  | _, _, 0, _ => by rw [List.take_zero, List.take_zero]; exact .nil
  | _, _, _ + 1, .nil => .nil
  | _, _, k + 1, .cons a t => .cons a (dpa_takeN k t)
section
variable {K : PySem.W.Frag}
theorem dp_mvc {H : Hp} {t l : Addr} {m : MvT} (h : SqT K H t [nV m.st, nV m.pl, nV m.ns, nV m.np, sdV m.sd, .ref l]) (hl : SqL K H l []) (e : m.sh = []) : Dp K H (.ref t) m.data := by
  unfold MvT.data
  rw [e]
  refine .tup h (.cons (.int _) (.cons (.int _) (.cons (.int _) (.cons (.int _) (.cons ?_ (.cons (.lst hl .nil) .nil))))))
  cases m.sd with
  | none => exact .non
  | some d => exact .int _
theorem app_mv {H' : Hp} {o l t : Addr} {xs tv : List V} {ms : List MvT} {m : MvT} (htv : tv = [nV m.st, nV m.pl, nV m.ns, nV m.np, sdV m.sd, .ref l]) (eo : H' o = some (.lst xs)) (dx : DpAll K (Ho o H') xs (ms.map MvT.data)) (nl : H' l = none) (nt : (upd H' l (.lst [])) t = none) (e : m.sh = []) :
    (upd (upd (upd H' l (.lst [])) t (.tup tv)) o (.lst (xs ++ [.ref t]))) o = some (.lst (xs ++ [.ref t])) ∧ DpAll K (Ho o (upd (upd (upd H' l (.lst [])) t (.tup tv)) o (.lst (xs ++ [.ref t])))) (xs ++ [.ref t]) ((ms ++ [m]).map MvT.data) ∧ ∀ Hb : Hp, Same Hb H' → Hb o = none → Same Hb (upd (upd (upd H' l (.lst [])) t (.tup tv)) o (.lst (xs ++ [.ref t]))) := by
  subst htv
  have s1 := same_new (o := HO.lst []) nl
  have s2 := same_new (o := HO.tup [nV m.st, nV m.pl, nV m.ns, nV m.np, sdV m.sd, .ref l]) nt
  have lo : l ≠ o := fun z => by rw [z, eo] at nl; cases nl
  have to : t ≠ o := fun z => by rw [z, s1 _ _ eo] at nt; cases nt
  have tl : t ≠ l := fun z => by rw [z, upd_same] at nt; cases nt
  refine ⟨upd_same, ?_, fun Hb sb nb => Same.mut ((sb.trans s1).trans s2) nb⟩
  rw [List.map_append]
  refine dpa_app (dpAll_mono (((ho_same s1).trans (ho_same s2)).trans ho_mut) dx) (.cons (dp_mvc (l := l) (st ?_) (sq ?_) e) .nil)
  · unfold Ho
    rw [if_neg to, upd_ne to, upd_same]
  · unfold Ho
    rw [if_neg lo, upd_ne lo, upd_ne tl.symm, upd_same]
end
section
variable {P : Program} {w : World} {K : PySem.W.Frag} {mg : Str → Option Value} {base : Heap}
theorem nd_ix {α : Type} {l : List α} (h : l.Nodup) {i j : Nat} {x : α} (a : l[i]? = some x) (b : l[j]? = some x) : i = j := by
  induction l generalizing i j with
  | nil => cases a
  | cons y l ih =>
    obtain ⟨h1, h2⟩ := List.nodup_cons.mp h
    cases i with
    | zero =>
      cases j with
      | zero => rfl
      | succ j => exact absurd (by rw [Option.some.inj a]; exact List.mem_of_getElem? (i := j) b) h1
    | succ i =>
      cases j with
      | zero => exact absurd (by rw [Option.some.inj b]; exact List.mem_of_getElem? (i := i) a) h1
      | succ j => rw [ih h2 (i := i) (j := j) a b]
/-- rows of truth values, each a list of its own -/
structure TblR (H : Hp) (as : List Addr) (i n : Nat) (R : Nat → Nat → Bool) : Prop where
  len : as.length = i
  nd : as.Nodup
  row : ∀ (j : Nat) (a : Addr), as[j]? = some a → H a = some (.lst ((List.range n).map fun k => V.bl (R j k)))
theorem TblR.same {H H' : Hp} {as : List Addr} {i n : Nat} {R : Nat → Nat → Bool} (h : TblR H as i n R) (s : Same H H') : TblR H' as i n R := ⟨h.len, h.nd, fun j a e => s _ _ (h.row j a e)⟩
theorem TblR.store {H : Hp} {as : List Addr} {i n : Nat} {R : Nat → Nat → Bool} (h : TblR H as i n R) {j k : Nat} {a : Addr} (ha : as[j]? = some a) : TblR (upd H a (.lst (((List.range n).map fun k => V.bl (R j k)).set k (.bl true)))) as i n (fun j' k' => if j' = j ∧ k' = k then true else R j' k') := by
  refine ⟨h.len, h.nd, fun j' a' e => ?_⟩
  by_cases c : a' = a
  · subst c
    have jj : j' = j := by
      exact nd_ix h.nd e ha
    subst jj
    rw [upd_same]
    congr 2
    refine List.ext_getElem (by rw [List.length_set, List.length_map, List.length_map]) fun q h1 h2 => ?_
    rw [List.getElem_set, List.getElem_map, List.getElem_map, List.getElem_range]
    by_cases c : k = q
    · subst c
      rw [if_pos rfl, if_pos ⟨rfl, rfl⟩]
    · rw [if_neg c, if_neg fun z => c z.2.symm]
  · rw [upd_ne c, h.row j' a' e]
    have : j' ≠ j := fun z => by subst z; rw [ha] at e; exact c (Option.some.inj e).symm
    congr 3
    funext k'
    rw [if_neg fun z => this z.1]
theorem TblR.mut {H H' : Hp} {as : List Addr} {i n : Nat} {R : Nat → Nat → Bool} (h : TblR H as i n R) (s : ∀ a ∈ as, H' a = H a) : TblR H' as i n R := ⟨h.len, h.nd, fun j a e => by rw [s a (List.mem_of_getElem? e)]; exact h.row j a e⟩
def setR (R : Nat → Nat → Bool) (j k : Nat) : Nat → Nat → Bool := fun j' k' => if j' = j ∧ k' = k then true else R j' k'
/-- a table of what can be reached, on its way -/
structure Cls (ms : List MvT) (n t : Nat) (R : Nat → Nat → Bool) : Prop where
  sd : ∀ j k, R j k = true → Rch ms j k
  at' : ∀ j k, j < n → Rk ms j t k → R j k = true
structure ClsM (ms : List MvT) (n t i : Nat) (R : Nat → Nat → Bool) : Prop where
  cl : Cls ms n t R
  mv : ∀ i' m, i' < i → ms[i']? = some m → ∀ j, j < n → Rk ms j t m.pl → R j m.np = true
structure ClsJ (ms : List MvT) (n t i jj : Nat) (R : Nat → Nat → Bool) : Prop where
  cm : ClsM ms n t i R
  mj : ∀ m, ms[i]? = some m → ∀ j, j < jj → Rk ms j t m.pl → R j m.np = true
theorem setR_up {R : Nat → Nat → Bool} {a b j k : Nat} (h : R j k = true) : setR R a b j k = true := by
  unfold setR
  split
  · rfl
  · exact h
section
variable {ms : List MvT} {n t i jj : Nat} {R : Nat → Nat → Bool}
theorem cls_0 : Cls ms n 0 fun j k => decide (j = k) := ⟨fun j k h => by rw [of_decide_eq_true h]; exact ⟨0, .refl⟩, fun j k _ ⟨i, hi, w⟩ => decide_eq_true (w.zero (by omega))⟩
theorem Cls.m0 (h : Cls ms n t R) : ClsM ms n t 0 R := ⟨h, fun i' m l => by omega⟩
theorem ClsM.j0 (h : ClsM ms n t i R) : ClsJ ms n t i 0 R := ⟨h, fun m _ j l => by omega⟩
theorem ClsJ.done (h : ClsJ ms n t i n R) : ClsM ms n t (i + 1) R := ⟨h.cm.cl, fun i' m l e j hj r => by
  by_cases c : i' = i
  · subst c
    exact h.mj m e j hj r
  · exact h.cm.mv i' m (by omega) e j hj r⟩
theorem ClsM.done (h : ClsM ms n t ms.length R) : Cls ms n (t + 1) R := ⟨h.cl.sd, fun j k hj ⟨i, hi, w⟩ => by
  by_cases c : i ≤ t
  · exact h.cl.at' j k hj ⟨i, c, w⟩
  · obtain ⟨m, hm, rfl, w'⟩ := w.last t (by omega)
    obtain ⟨i', hi'⟩ := List.getElem?_of_mem hm
    exact h.mv i' m (List.getElem?_eq_some_iff.mp hi').1 hi' j hj ⟨t, Nat.le_refl t, w'⟩⟩
theorem ClsJ.yes (h : ClsJ ms n t i jj R) {m : MvT} (hm : ms[i]? = some m) (c : R jj m.pl = true) : ClsJ ms n t i (jj + 1) (setR R jj m.np) := by
  refine ⟨⟨⟨fun j k e => ?_, fun j k hj r => setR_up (h.cm.cl.at' j k hj r)⟩, fun i' m l e j hj r => setR_up (h.cm.mv i' m l e j hj r)⟩, fun m' hm' j hj r => ?_⟩
  · unfold setR at e
    split at e
    · rename_i z
      obtain ⟨rfl, rfl⟩ := z
      obtain ⟨k, w⟩ := h.cm.cl.sd j m.pl c
      exact ⟨k + 1, w.snoc (List.mem_of_getElem? hm) rfl⟩
    · exact h.cm.cl.sd j k e
  · by_cases z : j = jj
    · obtain rfl := Option.some.inj (hm.symm.trans hm')
      unfold setR
      rw [if_pos ⟨z, rfl⟩]
    · exact setR_up (h.mj m' hm' j (by omega) r)
theorem ClsJ.no (h : ClsJ ms n t i jj R) (hj : jj < n) {m : MvT} (hm : ms[i]? = some m) (c : R jj m.pl = false) : ClsJ ms n t i (jj + 1) R := by
  refine ⟨h.cm, fun m' hm' j hj' r => ?_⟩
  obtain rfl := Option.some.inj (hm.symm.trans hm')
  by_cases z : j = jj
  · subst z
    rw [h.cm.cl.at' j m.pl hj r] at c
    cases c
  · exact h.mj m hm' j (by omega) r
end
abbrev s_law_reach : Stmt := topS 39
theorem sc_law_reach : FnScope ["places", "moves", "j", "reach", "turn", "move", "k"] ["places", "moves"] (defScope s_law_reach) := ⟨rfl, rfl, rfl, by decide +kernel, rfl, by decide +kernel, by decide +kernel⟩
-- _law_reach slots: places=0(cell) moves=1 j=2 reach=3 turn=4 move=5 k=6(None) globals: range
def spReach (K : PySem.W.Frag) : Sp := fun vs H Q _ => ∃ (n : Nat) (ma : Addr) (mxs : List V) (ms : List MvT), vs = [nV n, .ref ma] ∧ SqL K H ma mxs ∧ DpAll K H mxs (ms.map MvT.data) ∧ One1 n ms ∧ n ≤ 5 ∧ ms.length ≤ 100 ∧
  ∀ H' r as R, Same H H' → H r = none → H' r = some (.lst (as.map V.ref)) → (∀ a ∈ as, H a = none) → TblR H' as n n R → (∀ p w, p < n → (R p w = true ↔ Rch ms p w)) → Q (.ref r) H'
set_option maxHeartbeats 4000000 in
theorem fd_law_reach {f : Addr} {fd : FuncData} (F : Fun K "_law_reach" "_law_reach" s_law_reach f fd) (m : mg "_law_reach" = some (.ref f)) (B : Bt mg) : Fd P w K mg base "_law_reach" ["places", "moves"] 1 (spReach K) := by
  refine ⟨f, fd, F.ok sc_law_reach (fun vs H Q E h => ?_) (fun cdv A outer s H vs Q E hr h => ?_), m, F.kp, F.binds (ps := ["places", "moves"]) fun _ _ _ _ _ _ us hl => match us, hl with | [_, _], _ => rfl⟩
  · obtain ⟨_, _, _, _, rfl, _⟩ := h
    rfl
  obtain ⟨n, ma, mxs, ms, rfl, hma, hmx, one, hn, hml, q⟩ := h
  have mxl := dpa_map_len hmx
  refine ⟨_, (pss_cons (ps_setLc (i := 3) (own := [("j", 2)]) (g := gName 2) (by rfl) sc_law_reach.nd rfl rfl (sw_true rfl rfl rfl (by decide +kernel)) (pi_range1 rfl B.range (pa_cons (pv 0) pa_nil)) (blkOk_by (own := [("j", 2)]) (N := ["places", "moves", "j", "reach", "turn", "move", "k"]) (sc := (defScope s_law_reach)) (by decide +kernel)) (fun _ _ _ _ _ => (pg_name (i := 2) sc_law_reach.nd rfl (Or.inr rfl))) (fun _ _ _ _ _ => pts_nil) (fun _ _ _ _ _ => (pe_lc (own := [("k", 6)]) (g := gName 6) (by rfl) sc_law_reach.nd (pi_range1 rfl B.range (pa_cons (pv 0) pa_nil)) (blkOk_by (own := [("k", 6)]) (N := ["places", "moves", "j", "reach", "turn", "move", "k"]) (sc := (relS ⟨.function, [(".0", .local), ("j", .cell), ("range", .globalImplicit), ("places", .free)], false, false, []⟩ (defScope s_law_reach))) (by decide +kernel)) (fun _ _ _ _ _ => (pg_name (i := 6) sc_law_reach.nd rfl (Or.inl rfl))) (fun _ _ _ _ _ => pts_nil) (fun _ _ _ _ _ => (pe_cmpR op_eq (pv 2) (pv 6) (nomark _))))))
 (pss_cons (ps_for PassesOwn.never rfl (pi_range1 rfl B.range (pa_cons (pv 0) pa_nil)) (pg_name (i := 4) sc_law_reach.nd rfl (Or.inl rfl))
 (pss_one (ps_for PassesOwn.never rfl (piL K (pv 1)) (pg_name (i := 5) sc_law_reach.nd rfl (Or.inl rfl))
 (pss_one (ps_for PassesOwn.never rfl (pi_range1 rfl B.range (pa_cons (pv 0) pa_nil)) (pg_name (i := 2) sc_law_reach.nd rfl (Or.inl rfl))
 (pss_one (ps_if (pt_val (pe_ix (ixL K) (pe_ix (ixL K) (pv 3) (pv 2) (fun _ _ => rfl)) (pe_ix (ixT K) (pv 5) pe_int (fun _ _ => rfl)) (fun _ _ => rfl)))
 (pss_one (ps_asg pe_bl (pg_sub (pe_ix (ixL K) (pv 3) (pv 2) (fun _ _ => rfl)) (pe_ix (ixT K) (pv 5) pe_int (fun _ _ => rfl)) set_list)))
 pss_nil)))))))
 (pss_one (ps_ret (pv 3))))), ?_⟩
  refine ⟨_, rfl, (n : Int), rfl, by omega, by omega, fun D nD => lc_range (fun i H' => Same H H' ∧ ∃ as : List Addr, H' D = some (.lst (as.map V.ref)) ∧ (∀ a ∈ as, H a = none ∧ a ≠ D) ∧ TblR H' as i n fun j k => decide (j = k)) ⟨same_new nD, [], upd_same, fun _ h => (nomatch h), rfl, .nil, fun _ _ h => nomatch h⟩ ?_ ?_⟩
  · rintro i H' hi ⟨sm, as, eD, fr, T⟩
    refine ⟨rfl, ?_⟩
    refine ⟨_, rfl, (n : Int), rfl, by omega, by omega, fun D2 nD2 => lc_rngV (K := K) (n := n) (by omega) nD2 (fun k => V.bl (decide (i = k))) (fun _ => rfl) (fun k H1 Q1 hk s1 qq => ?_) fun H1 s1 eD2 => ?_⟩
    · refine ⟨_, rfl, _, rfl, ?_⟩
      have e : decide (V.int (0 + (i : Int)) = V.int (0 + (k : Int))) = decide (i = k) := by
        by_cases c : i = k
        · rw [decide_eq_true (by rw [c]), decide_eq_true c]
        · rw [decide_eq_false (fun z => c (by have := V.int.inj z; omega)), decide_eq_false c]
      refine ⟨rfl, ?_⟩
      rw [e]
      exact qq H1 (fun _ _ h => h)
    · have nDs : D2 ≠ D := fun z => by rw [z, eD] at nD2; cases nD2
      have sD := same_new (o := HO.lst []) nD2
      have n2 : ∀ a ∈ as, a ≠ D2 := fun a ha z => by
        obtain ⟨j, hj⟩ := List.getElem?_of_mem ha
        rw [← z, T.row j a hj] at nD2
        cases nD2
      have T1 : TblR H1 as i n fun j k => decide (j = k) := T.same s1
      have al := T.len
      refine ⟨as.map V.ref, s1 _ _ eD, by rw [List.length_map]; exact szl (by omega), Same.mut (sm.trans s1) nD, as ++ [D2], by rw [upd_same, List.map_append]; rfl, fun a ha => ?_, by rw [List.length_append, al]; rfl, ?_, fun j a e => ?_⟩
      · rcases List.mem_append.mp ha with ha | ha
        · exact fr a ha
        · rw [List.mem_singleton.mp ha]
          exact ⟨sm.free nD2, nDs⟩
      · refine List.nodup_append.mpr ⟨T.nd, List.nodup_cons.mpr ⟨fun z => (nomatch z), List.nodup_nil⟩, fun a ha b hb => ?_⟩
        rw [List.mem_singleton.mp hb]
        exact n2 a ha
      · by_cases l : j < as.length
        · rw [List.getElem?_append_left l] at e
          have := List.mem_of_getElem? e
          rw [upd_ne (fr a this).2]
          exact T1.row j a e
        · rw [List.getElem?_append_right (by omega)] at e
          have jl : j - as.length = 0 := by
            have := (List.getElem?_eq_some_iff.mp e).1
            rw [List.length_singleton] at this
            omega
          rw [jl] at e
          obtain rfl := Option.some.inj e
          obtain rfl : j = i := by omega
          rw [upd_ne nDs]
          exact eD2
  · rintro H' ⟨sm, as, eD, fr, T⟩
    dsimp only [gName]
    refine ⟨_, rfl, (n : Int), rfl, by omega, by omega, for_range (lo := 0) (n := n) (fun t σ' H' => ∃ (y2 y4 y5 : Option V) (R : Nat → Nat → Bool), σ' = [some (nV n), some (.ref ma), y2, some (.ref D), y4, y5, none] ∧ Same H H' ∧ H' D = some (.lst (as.map V.ref)) ∧ TblR H' as n n R ∧ Cls ms n t R) ⟨none, none, none, _, rfl, sm, eD, T, cls_0⟩ ?_ ?_⟩
    · rintro t σ' H1 ht ⟨y2, y4, y5, R, rfl, s1, eD1, T1, cl⟩
      dsimp only [gName]
      refine ⟨_, rfl, ma, rfl, ⟨_, s1.seq hma⟩, for_list (xs := mxs) (fun i σ' H' => ∃ (y2 y5 : Option V) (R : Nat → Nat → Bool), σ' = [some (nV n), some (.ref ma), y2, some (.ref D), some (.int (0 + (t : Int))), y5, none] ∧ Same H H' ∧ H' D = some (.lst (as.map V.ref)) ∧ TblR H' as n n R ∧ ClsM ms n t i R) ⟨y2, y5, R, rfl, s1, eD1, T1, cl.m0⟩ ?_ ?_ ?_⟩
      · rintro i σ' H' _ ⟨y2, y5, R, rfl, sm, _⟩
        exact sm.seq hma
      · rintro i u σ' H2 hu ⟨y2, y5, R, rfl, s2, eD2, T2, cm⟩
        obtain ⟨m0, hm0⟩ : ∃ m0, ms[i]? = some m0 := ⟨_, List.getElem?_eq_getElem (by rw [← mxl]; exact (List.getElem?_eq_some_iff.mp hu).1)⟩
        obtain ⟨u', hu', du⟩ := dpa_at' hmx (show (ms.map MvT.data)[i]? = some m0.data by rw [List.getElem?_map, hm0]; rfl)
        obtain rfl := Option.some.inj (hu.symm.trans hu')
        obtain ⟨ta, la, lxs, rfl, hta, _⟩ := dp_mv du
        have pl := one.pl m0 (List.mem_of_getElem? hm0)
        dsimp only [gName]
        refine ⟨_, rfl, (n : Int), rfl, by omega, by omega, for_range (lo := 0) (n := n) (fun j σ' H' => ∃ (y2 : Option V) (R : Nat → Nat → Bool), σ' = [some (nV n), some (.ref ma), y2, some (.ref D), some (.int (0 + (t : Int))), some (.ref ta), none] ∧ Same H H' ∧ H' D = some (.lst (as.map V.ref)) ∧ TblR H' as n n R ∧ ClsJ ms n t i j R) ⟨y2, R, rfl, s2, eD2, T2, cm.j0⟩ ?_ ?_⟩
        · rintro j σ' H3 hj ⟨y2, R, rfl, s3, eD3, T3, cj⟩
          have hta3 : SqT K H3 ta [nV m0.st, nV m0.pl, nV m0.ns, nV m0.np, sdV m0.sd, .ref la] := Same.seqT s3 hta
          obtain ⟨a, ha⟩ : ∃ a, as[j]? = some a := ⟨_, List.getElem?_eq_getElem (by rw [T3.len]; exact hj)⟩
          have fra := fr a (List.mem_of_getElem? ha)
          have hav : (as.map V.ref)[j]? = some (.ref a) := by rw [List.getElem?_map, ha]; rfl
          have era := T3.row j a ha
          have hb : ((List.range n).map fun k => V.bl (R j k))[m0.pl]? = some (V.bl (R j m0.pl)) := by rw [List.getElem?_map, List.getElem?_range pl.1]; rfl
          dsimp only [gName]
          refine ⟨_, rfl, _, rfl, _, _, _, _, rfl, rfl, sq eD3, at_n (j := j) (by omega) hav, _, rfl, _, _, _, _, rfl, rfl, hta3, atI_nat (j := 1) rfl, _, _, _, _, rfl, rfl, sq era, at_n (j := m0.pl) rfl hb, ?_⟩
          cases hR : R j m0.pl with
          | false => exact ⟨_, rfl, iteFx rfl ⟨_, R, rfl, s3, eD3, T3, cj.no hj hm0 hR⟩⟩
          | true =>
            have n2 : a ≠ D := fr a (List.mem_of_getElem? ha) |>.2
            have key : ∃ y2 R', [some (nV n), some (.ref ma), some (.int (0 + (j : Int))), some (.ref D), some (.int (0 + (t : Int))), some (.ref ta), none] = [some (nV n), some (.ref ma), y2, some (.ref D), some (.int (0 + (t : Int))), some (.ref ta), none] ∧ Same H (upd H3 a (.lst (((List.range n).map fun k => V.bl (R j k)).set m0.np (.bl true)))) ∧ (upd H3 a (.lst (((List.range n).map fun k => V.bl (R j k)).set m0.np (.bl true)))) D = some (.lst (as.map V.ref)) ∧ TblR (upd H3 a (.lst (((List.range n).map fun k => V.bl (R j k)).set m0.np (.bl true)))) as n n R' ∧ ClsJ ms n t i (j + 1) R' :=
              ⟨_, setR R j m0.np, rfl, Same.mut s3 fra.1, by rw [upd_ne n2.symm]; exact eD3, T3.store ha, cj.yes hm0 hR⟩
            exact ⟨_, rfl, iteTx rfl ⟨_, rfl, _, rfl, _, _, _, _, rfl, rfl, sq eD3, at_n (j := j) (by omega) hav, _, rfl, _, _, _, _, rfl, rfl, hta3, atI_nat (j := 3) rfl, a, _, _, m0.np, rfl, rfl, era, ixn_nat (by rw [List.length_map, List.length_range]; exact pl.2), key⟩⟩
        · rintro σ' H3 ⟨y2, R, rfl, s3, eD3, T3, cj⟩
          exact ⟨y2, some (.ref ta), R, rfl, s3, eD3, T3, cj.done⟩
      · rintro σ' H2 ⟨y2, y5, R, rfl, s2, eD2, T2, cm⟩
        rw [mxl] at cm
        exact ⟨y2, _, y5, R, rfl, s2, eD2, T2, cm.done⟩
    · rintro σ' H1 ⟨y2, y4, y5, R, rfl, s1, eD1, T1, cl⟩
      refine ⟨_, rfl, ?_⟩
      refine q H1 D as R s1 nD eD1 (fun a ha => (fr a ha).1) T1 fun p z hp => ⟨cl.sd p z, fun ⟨k, wk⟩ => ?_⟩
      obtain ⟨k', h1, h2⟩ := wk.short (fun m hm => (one.pl m hm).2) hp
      exact cl.at' p z hp ⟨k', by omega, h2⟩
end
theorem set_intsE {p : Addr} {cs : List Int} {j : Nat} {z y : Int} {H : Hp} {Q : Hp → Prop} (ey : y = (j : Int)) (e : H p = some (.lst (cs.map V.int))) (hj : j < cs.length) (q : Q (upd H p (.lst ((cs.set j z).map V.int)))) : rSetL (.ref p) (.int y) (.int z) H Q := by
  subst ey
  exact set_ints e hj q
section
variable {P : Program} {w : World} {K : PySem.W.Frag} {mg : Str → Option Value} {base : Heap}
abbrev s_law_matched : Stmt := topS 40
theorem sc_law_matched : FnScope ["reach", "wanted", "given", "rest", "best", "place", "less"] ["reach", "wanted", "given"] (defScope s_law_matched) := ⟨rfl, rfl, rfl, by decide +kernel, rfl, by decide +kernel, by decide +kernel⟩
-- _law_matched slots: reach=0 wanted=1 given=2 rest=3 best=4 place=5 less=6 globals: len _law_matched range list max
def spMt (K : PySem.W.Frag) (k : Nat) : Sp := fun vs H Q _ => ∃ (ra wa ga : Addr) (as : List Addr) (N : Nat) (R : Nat → Nat → Bool) (ws : List Nat) (gs : List Int), vs = [.ref ra, .ref wa, .ref ga] ∧ SqL K H ra (as.map V.ref) ∧ TblR H as N N R ∧ SqL K H wa (ws.map nV) ∧ ws.length < k ∧ ws.length ≤ 1000 ∧ (∀ z ∈ ws, z < N) ∧ SqL K H ga (gs.map V.int) ∧ gs.length = N ∧ N ≤ 5 ∧
  ∀ H', Same H H' → Q (nV (mtN R N ws (fnX gs))) H'
theorem fn_dec {gs : List Int} {p : Nat} (hp : p < gs.length) : fnX (gs.set p (gs.getD p 0 - 1)) = decF (fnX gs) p := funext fun q => by
  show (gs.set p (gs.getD p 0 - 1)).getD q 0 = _
  rw [gset hp]
  dsimp only [decF, fnX]
  by_cases e : q = p
  · rw [if_pos e, if_pos e, e]
  · rw [if_neg e, if_neg e]
abbrev mtB (N : Nat) (R : Nat → Nat → Bool) (z : Nat) (ws : List Nat) (f : FnI) (i : Nat) : Nat := (List.range i).foldl (fun b p => if 0 < f p ∧ R p z = true then max b (1 + mtN R N ws (decF f p)) else b) (mtN R N ws f)
theorem mtB_succ (N : Nat) (R : Nat → Nat → Bool) (z : Nat) (ws : List Nat) (f : FnI) (i : Nat) : mtB N R z ws f (i + 1) = if 0 < f i ∧ R i z = true then max (mtB N R z ws f i) (1 + mtN R N ws (decF f i)) else mtB N R z ws f i := by
  unfold mtB
  rw [List.range_succ, List.foldl_append]
  rfl
set_option maxHeartbeats 4000000 in
theorem fd_law_matched {f : Addr} {fd : FuncData} (F : Fun K "_law_matched" "_law_matched" s_law_matched f fd) (m : mg "_law_matched" = some (.ref f)) (B : Bt mg) : ∀ n : Nat, Fd P w K mg base "_law_matched" ["reach", "wanted", "given"] n (spMt K n)
  | 0 => Fd.none F m (F.binds (ps := ["reach", "wanted", "given"]) fun _ _ _ _ _ _ us hl => match us, hl with | [_, _, _], _ => rfl) fun vs H Q E h => by
    obtain ⟨ra, wa, ga, as, N, R, ws, gs, _, _, _, _, h, _⟩ := h
    exact absurd h (Nat.not_lt_zero _)
  | k + 1 => by
    have D_law_matched := fd_law_matched F m B k
    refine ⟨f, fd, F.ok sc_law_matched (fun vs H Q E h => ?_) (fun cdv A outer s H vs Q E hr h => ?_), m, F.kp, F.binds (ps := ["reach", "wanted", "given"]) fun _ _ _ _ _ _ us hl => match us, hl with | [_, _, _], _ => rfl⟩
    · obtain ⟨_, _, _, _, _, _, _, _, rfl, _⟩ := h
      rfl
    obtain ⟨ra, wa, ga, as, N, R, ws, gs, rfl, hra, T, hwa, hk, hw1, hw, hga, gl, hN, q⟩ := h
    refine ⟨_, (pss_cons (ps_if (pt_cmpR op_eq (pe_callB (cLen K) (by rfl) B.len PySem.boot_len (pa_cons (pv 1) pa_nil)) pe_int (nomark _))
 (pss_one (ps_ret pe_int))
 pss_nil)
 (pss_cons (ps_set (i := 3) sc_law_matched.nd rfl (Or.inl rfl) (pe_slice (slL K) (pv 1) (po_some pe_int) po_none))
 (pss_cons (ps_set (i := 4) sc_law_matched.nd rfl (Or.inl rfl) (pe_fn D_law_matched hr rfl (pa_cons (pv 0) (pa_cons (pv 3) (pa_cons (pv 2) pa_nil)))))
 (pss_cons (ps_for PassesOwn.never rfl (pi_range1 rfl B.range (pa_cons (pe_callB (cLen K) (by rfl) B.len PySem.boot_len (pa_cons (pv 2) pa_nil)) pa_nil)) (pg_name (i := 5) sc_law_matched.nd rfl (Or.inl rfl))
 (pss_one (ps_if (PW.pt (pw_and (pt_cmpR op_gt (pe_ix (ixL K) (pv 2) (pv 5) (fun _ _ => rfl)) pe_int (nomark _)) (pw_and1 (pt_val (pe_ix (ixL K) (pe_ix (ixL K) (pv 0) (pv 5) (fun _ _ => rfl)) (pe_ix (ixL K) (pv 1) pe_int (fun _ _ => rfl)) (fun _ _ => rfl))))))
 (pss_cons (ps_set (i := 6) sc_law_matched.nd rfl (Or.inl rfl) (pe_callTy (cList K) (by rfl) B.list (by decide +kernel) (pa_cons (pv 2) pa_nil)))
 (pss_cons (ps_asg (pe_op op_sub (pe_ix (ixL K) (pv 6) (pv 5) (fun _ _ => rfl)) pe_int) (pg_sub (pv 6) (pv 5) set_list))
 (pss_one (ps_set (i := 4) sc_law_matched.nd rfl (Or.inl rfl) (pe_callB (call_max2 rfl) (by rfl) B.max (by decide +kernel) (pa_cons (pv 4) (pa_cons (pe_op op_add pe_int (pe_fn D_law_matched hr rfl (pa_cons (pv 0) (pa_cons (pv 3) (pa_cons (pv 6) pa_nil))))) pa_nil)))))))
 pss_nil)))
 (pss_one (ps_ret (pv 4))))))), ?_⟩
    cases ws with
    | nil =>
      refine ifR (b := true) (fun Q q => ⟨_, rfl, _, _, rfl, .inl hwa, rfl, _, rfl, q⟩) (fun _ => q H (fun _ _ h => h)) (fun h => nomatch h)
    | cons z ws =>
      refine ifR (b := false) (fun Q q => ⟨_, rfl, _, _, rfl, .inl hwa, rfl, _, rfl, ?_⟩) (fun h => nomatch h) (fun _ => ?_)
      · rw [decide_eq_false fun e => by have := V.int.inj e; rw [List.length_map, List.length_cons] at this; omega]
        exact q
      rw [List.length_cons] at hk hw1
      refine ⟨_, rfl, _, rfl, wa, _, rfl, hwa, fun ra2 nr2 => ?_⟩
      dsimp only [gName]
      have s1 := same_new (o := HO.lst (cutV ((z :: ws).map nV) (some 1) none)) nr2
      have e1 : (upd H ra2 (.lst (cutV ((z :: ws).map nV) (some 1) none))) ra2 = some (.lst (ws.map nV)) := by rw [upd_same, cut_tail]; rfl
      generalize upd H ra2 (.lst (cutV ((z :: ws).map nV) (some 1) none)) = H1 at s1 e1 ⊢
      refine ⟨_, rfl, _, rfl, _, rfl, ra, ra2, ga, as, N, R, ws, gs, rfl, s1.seq hra, T.same s1, sq e1, by omega, by omega, fun x hx => hw x (List.mem_cons_of_mem _ hx), s1.seq hga, gl, hN, fun H2 s2 => ?_⟩
      dsimp only [gName]
      have s02 := s1.trans s2
      refine ⟨_, rfl, _, _, rfl, .inl (s02.seq hga), ((N : Nat) : Int), by rw [List.length_map, gl], by omega, by omega, for_range (lo := 0) (n := N) (fun i σ' H' => ∃ (y5 y6 : Option V), σ' = [some (.ref ra), some (.ref wa), some (.ref ga), some (.ref ra2), some (nV (mtB N R z ws (fnX gs) i)), y5, y6] ∧ Same H2 H') ⟨none, none, rfl, fun _ _ h => h⟩ ?_ ?_⟩
      · rintro i σ' H3 hi ⟨y5, y6, rfl, s3⟩
        have s03 := s02.trans s3
        have T3 := T.same s03
        obtain ⟨a, ha⟩ : ∃ a, as[i]? = some a := ⟨_, List.getElem?_eq_getElem (by rw [T3.len]; exact hi)⟩
        have hav : (as.map V.ref)[i]? = some (.ref a) := by rw [List.getElem?_map, ha]; rfl
        have era := T3.row i a ha
        have hb : ((List.range N).map fun k => V.bl (R i k))[z]? = some (V.bl (R i z)) := by rw [List.getElem?_map, List.getElem?_range (hw z List.mem_cons_self)]; rfl
        have hga3 := s03.seq hga
        dsimp only [gName]
        refine ifS (ansAnd (a := decide (gs.getD i 0 > 0)) (b := R i z) (fun Q q => ⟨_, rfl, _, rfl, _, _, _, _, rfl, rfl, hga3, at_gd (j := i) (by omega) (by omega), _, _, rfl, rfl, _, rfl, q⟩) (fun Q q => ⟨_, rfl, _, rfl, _, _, _, _, rfl, rfl, s03.seq hra, at_n (j := i) (by omega) hav, _, rfl, _, _, _, _, rfl, rfl, s03.seq hwa, atI_nat (j := 0) rfl, _, _, _, _, rfl, rfl, sq era, at_n (j := z) rfl hb, _, rfl, q⟩)) (fun c => ?_) (fun c => ?_)
        · obtain ⟨c1, c2⟩ := Bool.and_eq_true_iff.mp c
          have c1 := of_decide_eq_true c1
          have ig : i < gs.length := by omega
          refine ⟨_, rfl, ga, _, rfl, .inl hga3, fun b nb => ?_⟩
          have sb := same_new (o := HO.lst (gs.map V.int)) nb
          have eb : (upd H3 b (.lst (gs.map V.int))) b = some (.lst (gs.map V.int)) := upd_same
          dsimp only [gName]
          generalize upd H3 b (.lst (gs.map V.int)) = H4 at sb eb ⊢
          refine ⟨_, rfl, _, rfl, _, _, _, _, rfl, rfl, sq eb, at_gd (j := i) (by omega) ig, _, _, rfl, rfl, _, rfl, _, rfl, set_intsE (j := i) (by omega) eb ig ?_⟩
          have sm : Same H3 (upd H4 b (.lst ((gs.set i (gs.getD i 0 - 1)).map V.int))) := Same.mut sb nb
          have em : (upd H4 b (.lst ((gs.set i (gs.getD i 0 - 1)).map V.int))) b = some (.lst ((gs.set i (gs.getD i 0 - 1)).map V.int)) := upd_same
          generalize upd H4 b (.lst ((gs.set i (gs.getD i 0 - 1)).map V.int)) = H5 at sm em ⊢
          have s25 := s3.trans sm
          have s05 := s02.trans s25
          refine ⟨_, rfl, _, rfl, _, rfl, _, rfl, ra, ra2, b, as, N, R, ws, gs.set i (gs.getD i 0 - 1), rfl, s05.seq hra, T.same s05, (s2.trans s25).seq (sq e1), by omega, by omega, fun x hx => hw x (List.mem_cons_of_mem _ hx), sq em, by rw [List.length_set, gl], hN, fun H6 s6 => ?_⟩
          rw [fn_dec ig]
          refine ⟨_, _, rfl, rfl, _, _, rfl, ?_⟩
          dsimp only [gName]
          have e : (if 1 + ((mtN R N ws (decF (fnX gs) i) : Nat) : Int) > ((mtB N R z ws (fnX gs) i : Nat) : Int) then 1 + ((mtN R N ws (decF (fnX gs) i) : Nat) : Int) else ((mtB N R z ws (fnX gs) i : Nat) : Int)) = ((mtB N R z ws (fnX gs) (i + 1) : Nat) : Int) := by
            have e1 : mtB N R z ws (fnX gs) (i + 1) = max (mtB N R z ws (fnX gs) i) (1 + mtN R N ws (decF (fnX gs) i)) := by
              rw [mtB_succ]
              exact if_pos ⟨c1, c2⟩
            rw [e1]
            split <;> omega
          exact ⟨_, _, congrArg (fun x => [some (V.ref ra), some (V.ref wa), some (V.ref ga), some (V.ref ra2), some (V.int x), some (V.int (0 + (i : Int))), some (V.ref b)]) e, s25.trans s6⟩
        · have e : mtB N R z ws (fnX gs) (i + 1) = mtB N R z ws (fnX gs) i := by
            rw [mtB_succ, if_neg]
            rintro ⟨c1, c2⟩
            have c1 : gs.getD i 0 > 0 := c1
            rw [c2, decide_eq_true c1] at c
            cases c
          rw [e]
          exact ⟨_, y6, rfl, s3⟩
      · rintro σ' H3 ⟨y5, y6, rfl, s3⟩
        exact ⟨_, rfl, q H3 (s02.trans s3)⟩
end
/-- a comprehension over a range with a test and a value -/
theorem lc_rngFV {K : PySem.W.Frag} {n : Nat} (hn : n ≤ 90000) {j : Nat} {tt : TT} {te : TE} {vs : List Nat} {σ : L2.St} {H1 : Hp} {D : Addr} {Qd : Hp → Prop} (nD : H1 D = none) (f : Nat → Bool) (g : Nat → V) (hw : ∀ x, wipe ((wipe σ vs).set j x) vs = wipe σ vs)
    (hs : ∀ i H (Q : Bool → Hp → Prop), i < n → Same H1 H → (∀ H4, Same H H4 → Q (f i) H4) → tt ((wipe σ vs).set j (some (.int ((0 : Int) + (i : Int))))) H Q)
    (he : ∀ i H (Q : VK), i < n → f i = true → Same H1 H → (∀ H4, Same H H4 → Q (g i) H4) → te ((wipe σ vs).set j (some (.int ((0 : Int) + (i : Int))))) H Q)
    (hd : ∀ H, Same H1 H → H D = some (.lst (((List.range n).filter f).map g)) → Qd H) :
    ∃ W : Nat → Nat → Hp → Prop, (∃ m, W 0 m (upd H1 D (.lst []))) ∧ ∀ i m H, W i m H →
      ((Itr 0 n).stop i H ∧ Qd H) ∨ ((Itr 0 n).go i H ∧ ∃ Nx : Hp → Prop, (∀ H', Nx H' → ∃ m', m' < m ∧ W (i + 1) m' H') ∧ ∀ x H', (Itr 0 n).yld i H x H' → gName j x (wipe σ vs) H' fun σ2 H2 => wipe σ2 vs = wipe σ vs ∧ tt σ2 H2 fun b H3 =>
        if b = true then te σ2 H3 fun y H4 => ∃ acc, H4 D = some (.lst acc) ∧ acc.length < sizeLine ∧ Nx (upd H4 D (.lst (acc ++ [y]))) else Nx H3) := by
  refine lc_range (fun i H' => Same H1 H' ∧ H' D = some (.lst (((List.range i).filter f).map g))) ⟨same_new nD, upd_same⟩ ?_ fun H h => hd H h.1 h.2
  rintro i H hi ⟨sm, eD⟩
  refine ⟨hw _, ?_⟩
  show tt _ H _
  refine hs i H _ hi sm fun H' s => ?_
  have fs : (List.range (i + 1)).filter f = (List.range i).filter f ++ (if f i = true then [i] else []) := by
    rw [List.range_succ, List.filter_append]
    congr 1
    rw [List.filter_cons]
    rfl
  cases hf : f i with
  | false =>
    rw [hf, if_neg (by decide), List.append_nil] at fs
    rw [if_neg (by decide)]
    exact ⟨sm.trans s, by rw [fs]; exact s _ _ eD⟩
  | true =>
    rw [hf, if_pos rfl] at fs
    rw [if_pos rfl]
    refine he i H' _ hi hf (sm.trans s) fun H4 s4 => ?_
    refine ⟨_, s4 _ _ (s _ _ eD), ?_, Same.mut ((sm.trans s).trans s4) nD, ?_⟩
    · have := List.length_filter_le f (List.range i)
      rw [List.length_range] at this
      rw [List.length_map]
      exact szl (by omega)
    · rw [upd_same, fs, List.map_append]
      rfl
/-! ### the least of some values -/
def LeastU (val : Nat → Option Nat) (i : Nat) : Option Nat → Prop
  | none => ∀ k, k < i → val k = none
  | some n => (∃ k, k < i ∧ val k = some n) ∧ ∀ k m, k < i → val k = some m → n ≤ m
section
variable {val : Nat → Option Nat} {i n m : Nat}
theorem LeastU.zero : LeastU val 0 none := fun k h => by omega
theorem LeastU.skip {o : Option Nat} (h : LeastU val i o) (e : val i = none) : LeastU val (i + 1) o := by
  cases o with
  | none => exact fun k hk => if z : k = i then by rw [z, e] else h k (by omega)
  | some n =>
    obtain ⟨⟨k, h1, h2⟩, h3⟩ := h
    refine ⟨⟨k, by omega, h2⟩, fun k' m hk e' => ?_⟩
    by_cases z : k' = i
    · rw [z, e] at e'; cases e'
    · exact h3 k' m (by omega) e'
theorem LeastU.first (h : LeastU val i none) (e : val i = some m) : LeastU val (i + 1) (some m) := by
  refine ⟨⟨i, Nat.lt_succ_self i, e⟩, fun k' m' hk e' => ?_⟩
  by_cases z : k' = i
  · rw [z, e] at e'; cases e'; exact Nat.le_refl _
  · have := h k' (by omega)
    rw [this] at e'; cases e'
theorem LeastU.less (h : LeastU val i (some n)) (e : val i = some m) (l : m < n) : LeastU val (i + 1) (some m) := by
  refine ⟨⟨i, Nat.lt_succ_self i, e⟩, fun k' m' hk e' => ?_⟩
  by_cases z : k' = i
  · rw [z, e] at e'; cases e'; exact Nat.le_refl _
  · have := h.2 k' m' (by omega) e'
    omega
theorem LeastU.keep (h : LeastU val i (some n)) (e : val i = some m) (l : ¬ m < n) : LeastU val (i + 1) (some n) := by
  obtain ⟨⟨k, h1, h2⟩, h3⟩ := h
  refine ⟨⟨k, by omega, h2⟩, fun k' m' hk e' => ?_⟩
  by_cases z : k' = i
  · rw [z, e] at e'; cases e'; omega
  · exact h3 k' m' (by omega) e'
end
theorem gdN {l : List Nat} {k : Nat} (h : k < l.length) : l[k]? = some (l.getD k 0) := by
  rw [List.getD_eq_getElem?_getD, List.getElem?_eq_getElem h]
  rfl
theorem el_sum : ∀ {cs : List Int}, (∀ c ∈ cs, 0 ≤ c) → ∀ c ∈ cs, c ≤ cs.sum
  | [], _, _, h => nomatch h
  | d :: cs, h, c, hc => by
    have h0 := h d List.mem_cons_self
    have hs : ∀ c ∈ cs, 0 ≤ c := fun x hx => h x (List.mem_cons_of_mem _ hx)
    rw [List.sum_cons]
    have sn : 0 ≤ cs.sum := by
      have := wantF_len 0 hs
      omega
    rcases List.mem_cons.mp hc with rfl | hc
    · omega
    · have := el_sum hs c hc
      omega
theorem flat_rep1 {α : Type} (x : α) : ∀ n : Nat, (List.replicate n [x]).flatten = List.replicate n x
  | 0 => rfl
  | n + 1 => by
    rw [List.replicate_succ, List.flatten_cons, flat_rep1 x n]
    rfl
theorem el_sumT : ∀ {cs : List Int}, (∀ c ∈ cs, 0 ≤ c) → ∀ i, (cs.take i).sum ≤ cs.sum
  | [], _, i => by rw [List.take_nil]; exact Int.le_refl _
  | d :: cs, h, 0 => by
    have h0 := h d List.mem_cons_self
    have := el_sumT (cs := cs) (fun x hx => h x (List.mem_cons_of_mem _ hx)) 0
    rw [List.take_zero] at this
    rw [List.take_zero, List.sum_cons]
    omega
  | d :: cs, h, i + 1 => by
    have := el_sumT (cs := cs) (fun x hx => h x (List.mem_cons_of_mem _ hx)) i
    rw [List.take_succ_cons, List.sum_cons, List.sum_cons]
    omega
theorem bit_i (p k b : Nat) : decide (V.int (Builtin.bitAnd ((0 + (p : Int)) / 2 ^ ((0 : Int) + (k : Int)).toNat) 1) = V.int (b : Int)) = decide (p / 2 ^ k % 2 = b) := by
  have e : Builtin.bitAnd ((0 + (p : Int)) / 2 ^ ((0 : Int) + (k : Int)).toNat) 1 = ((p / 2 ^ k % 2 : Nat) : Int) := by
    rw [bitAnd_m1, show ((0 : Int) + (k : Int)).toNat = k by omega, Int.zero_add]
    rfl
  rw [e]
  exact decide_eq_decide.mpr ⟨fun h => by have := V.int.inj h; omega, fun h => by rw [h]⟩
theorem selP_V (b part : Nat) (ws : List Nat) : ((List.range ws.length).filter fun k => decide (part / 2 ^ k % 2 = b)).map (fun k => nV (ws.getD k 0)) = (selP b part ws).map nV := by
  unfold selP
  rw [List.map_map]
  rfl
theorem selP_mem {b part : Nat} {ws : List Nat} {z : Nat} (h : z ∈ selP b part ws) : z ∈ ws := by
  obtain ⟨k, hk, rfl⟩ := List.mem_map.mp h
  have := List.mem_range.mp (List.mem_filter.mp hk).1
  rw [List.getD_eq_getElem?_getD, List.getElem?_eq_getElem this]
  exact List.getElem_mem this
theorem selP_len (b part : Nat) (ws : List Nat) : (selP b part ws).length ≤ ws.length := by
  unfold selP
  rw [List.length_map]
  have := List.length_filter_le (fun k => decide (part / 2 ^ k % 2 = b)) (List.range ws.length)
  rw [List.length_range] at this
  exact this
def onV : Option Nat → V
  | none => .non
  | some n => nV n
section
variable {P : Program} {w : World} {K : PySem.W.Frag} {mg : Str → Option Value} {base : Heap}
abbrev s_law_need : Stmt := topS 41
theorem sc_law_need : FnScope ["reach", "counts", "given", "crew", "wanted", "place", "least", "part", "from_start", "from_crew", "good", "k"] ["reach", "counts", "given", "crew"] (defScope s_law_need) := ⟨rfl, rfl, rfl, by decide +kernel, rfl, by decide +kernel, by decide +kernel⟩
-- _law_need slots: reach=0(cell) counts=1 given=2 crew=3(cell) wanted=4(cell) place=5 least=6 part=7(cell) from_start=8 from_crew=9 good=10 k=11(None) globals: range len _law_matched
/-- a part of the wanted threads that is good -/
def goodB (R : Nat → Nat → Bool) (N crew : Nat) (f : FnI) (ws : List Nat) (part : Nat) : Bool := decide ((selP 1 part ws).filter (fun p => !R crew p) = []) && decide (mtN R N (selP 0 part ws) f = (selP 0 part ws).length)
abbrev valB (R : Nat → Nat → Bool) (N crew : Nat) (f : FnI) (ws : List Nat) (part : Nat) : Option Nat := if goodB R N crew f ws part = true then some (selP 1 part ws).length else none
def spNeed49 (K : PySem.W.Frag) : Sp := fun vs H Q _ => ∃ (ra ca ga : Addr) (as : List Addr) (N crew : Nat) (R : Nat → Nat → Bool) (cs gs : List Int), vs = [.ref ra, .ref ca, .ref ga, nV crew] ∧ SqL K H ra (as.map V.ref) ∧ TblR H as N N R ∧ SqL K H ca (cs.map V.int) ∧ cs.length = N ∧ (∀ c ∈ cs, 0 ≤ c) ∧ cs.sum ≤ 3 ∧ SqL K H ga (gs.map V.int) ∧ gs.length = N ∧ N ≤ 5 ∧ crew < N ∧
  ∀ H' o, Same H H' → LeastU (valB R N crew (fnX gs) (wantF 0 cs)) (2 ^ (wantF 0 cs).length) o → Q (onV o) H'
set_option maxHeartbeats 4000000 in
theorem fd_law_need {f : Addr} {fd : FuncData} (F : Fun K "_law_need" "_law_need" s_law_need f fd) (m : mg "_law_need" = some (.ref f)) (B : Bt mg) (D_law_matched : Fd P w K mg base "_law_matched" ["reach", "wanted", "given"] 4 (spMt K 4)) : Fd P w K mg base "_law_need" ["reach", "counts", "given", "crew"] 5 (spNeed49 K) := by
  refine ⟨f, fd, F.ok sc_law_need (fun vs H Q E h => ?_) (fun cdv A outer s H vs Q E hr h => ?_), m, F.kp, F.binds (ps := ["reach", "counts", "given", "crew"]) fun _ _ _ _ _ _ us hl => match us, hl with | [_, _, _, _], _ => rfl⟩
  · obtain ⟨_, _, _, _, _, _, _, _, _, rfl, _⟩ := h
    rfl
  obtain ⟨ra, ca, ga, as, N, crew, R, cs, gs, rfl, hra, T, hca, cl, c0, c3, hga, gl, hN, hcr, q⟩ := h
  refine ⟨_, (pss_cons (ps_set (i := 4) sc_law_need.nd rfl (Or.inr rfl) (pe_lst pa_nil))
 (pss_cons (ps_for PassesOwn.never rfl (pi_range1 rfl B.range (pa_cons (pe_callB (cLen K) (by rfl) B.len PySem.boot_len (pa_cons (pv 1) pa_nil)) pa_nil)) (pg_name (i := 5) sc_law_need.nd rfl (Or.inl rfl))
 (pss_one (ps_set (i := 4) sc_law_need.nd rfl (Or.inr rfl) (pe_op (opCat K) (pv 4) (pe_op op_rep (pe_lst (pa_cons (pv 5) pa_nil)) (pe_ix (ixL K) (pv 1) (pv 5) (fun _ _ => rfl)))))))
 (pss_cons (ps_set (i := 6) sc_law_need.nd rfl (Or.inl rfl) pe_non)
 (pss_cons (ps_for PassesOwn.never rfl (pi_range1 rfl B.range (pa_cons (pe_op op_shl pe_int (pe_callB (cLen K) (by rfl) B.len PySem.boot_len (pa_cons (pv 4) pa_nil))) pa_nil)) (pg_name (i := 7) sc_law_need.nd rfl (Or.inr rfl))
 (pss_cons (ps_setLc (i := 8) (own := [("k", 11)]) (g := gName 11) (by rfl) sc_law_need.nd rfl rfl (sw_true rfl rfl rfl (by decide +kernel)) (pi_range1 rfl B.range (pa_cons (pe_callB (cLen K) (by rfl) B.len PySem.boot_len (pa_cons (pv 4) pa_nil)) pa_nil)) (blkOk_by (own := [("k", 11)]) (N := ["reach", "counts", "given", "crew", "wanted", "place", "least", "part", "from_start", "from_crew", "good", "k"]) (sc := (defScope s_law_need)) (by decide +kernel)) (fun _ _ _ _ _ => (pg_name (i := 11) sc_law_need.nd rfl (Or.inl rfl))) (fun _ _ _ _ _ => (pts_one (pt_cmpR op_eq (pe_op op_and (pe_op op_shr (pv 7) (pv 11)) pe_int) pe_int (nomark _)))) (fun _ _ _ _ _ => (pe_ix (ixL K) (pv 4) (pv 11) (fun _ _ => rfl))))
 (pss_cons (ps_setLc (i := 9) (own := [("k", 11)]) (g := gName 11) (by rfl) sc_law_need.nd rfl rfl (sw_true rfl rfl rfl (by decide +kernel)) (pi_range1 rfl B.range (pa_cons (pe_callB (cLen K) (by rfl) B.len PySem.boot_len (pa_cons (pv 4) pa_nil)) pa_nil)) (blkOk_by (own := [("k", 11)]) (N := ["reach", "counts", "given", "crew", "wanted", "place", "least", "part", "from_start", "from_crew", "good", "k"]) (sc := (defScope s_law_need)) (by decide +kernel)) (fun _ _ _ _ _ => (pg_name (i := 11) sc_law_need.nd rfl (Or.inl rfl))) (fun _ _ _ _ _ => (pts_one (pt_cmpR op_eq (pe_op op_and (pe_op op_shr (pv 7) (pv 11)) pe_int) pe_int (nomark _)))) (fun _ _ _ _ _ => (pe_ix (ixL K) (pv 4) (pv 11) (fun _ _ => rfl))))
 (pss_cons (ps_set (i := 10) sc_law_need.nd rfl (Or.inl rfl) (pe_cmpR op_eq (pe_callB (cLen K) (by rfl) B.len PySem.boot_len (pa_cons (pe_lc (own := [("place", 5)]) (g := gName 5) (by rfl) sc_law_need.nd (piL K (pv 9)) (blkOk_by (own := [("place", 5)]) (N := ["reach", "counts", "given", "crew", "wanted", "place", "least", "part", "from_start", "from_crew", "good", "k"]) (sc := (defScope s_law_need)) (by decide +kernel)) (fun _ _ _ _ _ => (pg_name (i := 5) sc_law_need.nd rfl (Or.inl rfl))) (fun _ _ _ _ _ => (pts_one (pt_not (pt_val (pe_ix (ixL K) (pe_ix (ixL K) (pv 0) (pv 3) (fun _ _ => rfl)) (pv 5) (fun _ _ => rfl)))))) (fun _ _ _ _ _ => (pv 5))) pa_nil)) pe_int (nomark _)))
 (pss_one (ps_if (PW.pt (pw_and (pt_val (pv 10)) (pw_and1 (pt_cmpR op_eq (pe_fn D_law_matched (hr.mono (by decide)) rfl (pa_cons (pv 0) (pa_cons (pv 8) (pa_cons (pv 2) pa_nil)))) (pe_callB (cLen K) (by rfl) B.len PySem.boot_len (pa_cons (pv 8) pa_nil)) (nomark _)))))
 (pss_one (ps_if (PW.pt (pw_or (pt_cmpR op_isN (pv 6) pe_non (nomark _)) (pw_or1 (pt_cmpR op_lt (pe_callB (cLen K) (by rfl) B.len PySem.boot_len (pa_cons (pv 9) pa_nil)) (pv 6) (nomark _)))))
 (pss_one (ps_set (i := 6) sc_law_need.nd rfl (Or.inl rfl) (pe_callB (cLen K) (by rfl) B.len PySem.boot_len (pa_cons (pv 9) pa_nil))))
 pss_nil))
 pss_nil))))))
 (pss_one (ps_ret (pv 6))))))), ?_⟩
  refine ⟨szc 0, fun o no => ?_⟩
  dsimp only [gName]
  have so := same_new (o := HO.lst []) no
  refine ⟨_, rfl, _, _, rfl, .inl (so.seq hca), ((N : Nat) : Int), by rw [List.length_map, cl], by omega, by omega, for_range (lo := 0) (n := N) (fun i σ' H' => ∃ (wa : Addr) (y5 : Option V), σ' = [some (.ref ra), some (.ref ca), some (.ref ga), some (nV crew), some (.ref wa), y5, none, none, none, none, none, none] ∧ Same H H' ∧ H' wa = some (.lst ((wantF 0 (cs.take i)).map nV))) ⟨o, none, rfl, so, upd_same⟩ ?_ ?_⟩
  · rintro i σ' H1 hi ⟨wa, y5, rfl, s1, ew⟩
    dsimp only [gName]
    have hca1 : SqL K H1 ca (cs.map V.int) := s1.seq hca
    have ic : i < cs.length := by omega
    obtain ⟨c, ec⟩ : ∃ c : Nat, cs.getD i 0 = (c : Int) := ⟨(cs.getD i 0).toNat, (Int.toNat_of_nonneg (c0 _ (gd_mem ic))).symm⟩
    have c3' : c ≤ 3 := by
      have := el_sum c0 _ (gd_mem ic)
      omega
    have wn : wantF 0 (cs.take (i + 1)) = wantF 0 (cs.take i) ++ List.replicate c i := by
      have e : cs[i]? = some (c : Int) := by rw [← ec]; exact gd ic
      rw [take_snoc e, wantF_snoc, List.length_take, Int.toNat_natCast, show 0 + min i cs.length = i by omega]
    have wl : ((wantF 0 (cs.take i)).length : Int) = (cs.take i).sum := wantF_len 0 fun x hx => c0 x (List.mem_of_mem_take hx)
    refine ⟨_, rfl, _, rfl, szc 1, fun p1 n1 => ?_⟩
    have sP := same_new (o := HO.lst [V.int (0 + (i : Int))]) n1
    refine ⟨_, rfl, _, rfl, _, _, _, _, rfl, rfl, sP.seq hca1, at_gd (j := i) (by omega) ic, p1, (c : Int), [V.int (0 + (i : Int))], rfl, by rw [ec], upd_same, by omega, by omega, by rw [Int.toNat_natCast]; exact sz (by show 1 * c ≤ _; omega), fun cc nc => ?_⟩
    have eR : (List.replicate ((c : Int)).toNat ([V.int (0 + (i : Int))] : List V)).flatten = (List.replicate c i).map nV := by rw [Int.toNat_natCast, flat_rep1, List.map_replicate, Int.zero_add]
    have sC := sP.trans (same_new (o := HO.lst (List.replicate ((c : Int)).toNat ([V.int (0 + (i : Int))] : List V)).flatten) nc)
    have ecc : (upd (upd H1 p1 (.lst [V.int (0 + (i : Int))])) cc (.lst (List.replicate ((c : Int)).toNat ([V.int (0 + (i : Int))] : List V)).flatten)) cc = some (.lst ((List.replicate c i).map nV)) := by rw [upd_same, eR]
    generalize upd (upd H1 p1 (.lst [V.int (0 + (i : Int))])) cc (.lst (List.replicate ((c : Int)).toNat ([V.int (0 + (i : Int))] : List V)).flatten) = H2 at sC ecc ⊢
    refine ⟨wa, cc, _, _, rfl, rfl, sq (sC _ _ ew), sq ecc, by rw [List.length_map, List.length_map, List.length_replicate]; have := el_sumT c0 i; exact sz (by omega), fun q3 n3 => ?_⟩
    have s3 := same_new (o := HO.lst ((wantF 0 (cs.take i)).map nV ++ (List.replicate c i).map nV)) n3
    exact ⟨q3, _, rfl, (s1.trans sC).trans s3, by rw [upd_same, wn, List.map_append]⟩
  rintro σ' H1 ⟨wa, y5, rfl, s1, ew⟩
  rw [← cl, List.take_length] at ew
  have wl : ((wantF 0 cs).length : Int) = cs.sum := wantF_len 0 c0
  have wlt : ∀ z ∈ wantF 0 cs, z < N := fun z hz => by
    have := wantF_lt cs 0 z hz
    omega
  generalize wantF 0 cs = ws at ew wl wlt q
  have w3 : ws.length ≤ 3 := by omega
  have p8 : 2 ^ ws.length ≤ 8 := Nat.le_trans (Nat.pow_le_pow_right (by decide) w3) (by decide)
  generalize e2 : 2 ^ ws.length = two at p8 q
  dsimp only [gName]
  refine ⟨_, rfl, _, _, rfl, .inl (sq ew), _, _, rfl, rfl, ⟨by omega, by rw [List.length_map]; omega, by decide⟩, ((two : Nat) : Int), ?_, by omega, by omega, for_range (lo := 0) (n := two) (fun i σ' H' => ∃ (o : Option Nat) (y5 y7 y8 y9 y10 : Option V), σ' = [some (.ref ra), some (.ref ca), some (.ref ga), some (nV crew), some (.ref wa), y5, some (onV o), y7, y8, y9, y10, none] ∧ Same H1 H' ∧ LeastU (valB R N crew (fnX gs) ws) i o) ⟨none, y5, none, none, none, none, rfl, fun _ _ h => h, LeastU.zero⟩ ?_ ?_⟩
  · show [V.int (1 * 2 ^ (((ws.map nV).length : Nat) : Int).toNat)] = _
    rw [List.length_map, Int.toNat_natCast, Int.one_mul, ← e2, Int.natCast_pow]
    rfl
  · rintro i σ' H2 hi ⟨o, y5, y7, y8, y9, y10, rfl, s2, lu⟩
    have ew2 := s2 _ _ ew
    dsimp only [gName]
    refine ⟨_, rfl, _, _, rfl, .inl (sq ew2), ((ws.length : Nat) : Int), by rw [List.length_map], by omega, by omega, fun D1 nD1 => lc_rngFV (K := K) (n := ws.length) (by omega) nD1 (fun k => decide (i / 2 ^ k % 2 = 0)) (fun k => nV (ws.getD k 0)) (fun _ => rfl) (fun k H3 Q3 hk s3 qq => ?_) (fun k H3 Q3 hk _ s3 qq => ?_) fun H3 s3 e3 => ?_⟩
    · refine ⟨_, rfl, _, rfl, _, _, rfl, rfl, by omega, _, _, rfl, rfl, rfl, _, rfl, ?_⟩
      show Q3 (decide (V.int (Builtin.bitAnd ((0 + (i : Int)) / 2 ^ ((0 : Int) + (k : Int)).toNat) 1) = V.int ((0 : Nat) : Int))) H3
      rw [bit_i]
      exact qq H3 fun _ _ h => h
    · refine ⟨_, rfl, _, rfl, _, _, _, _, rfl, rfl, sq (s3 _ _ ew2), at_n (j := k) (by omega) (by rw [List.getElem?_map, gdN hk]; rfl), ?_⟩
      exact qq H3 fun _ _ h => h
    rw [selP_V] at e3
    dsimp only [gName]
    have ew3 := s3 _ _ ew2
    refine ⟨_, rfl, _, _, rfl, .inl (sq ew3), ((ws.length : Nat) : Int), by rw [List.length_map], by omega, by omega, fun D2 nD2 => lc_rngFV (K := K) (n := ws.length) (by omega) nD2 (fun k => decide (i / 2 ^ k % 2 = 1)) (fun k => nV (ws.getD k 0)) (fun _ => rfl) (fun k H3 Q3 hk s3 qq => ?_) (fun k H3 Q3 hk _ s3 qq => ?_) fun H4 s4 e4 => ?_⟩
    · refine ⟨_, rfl, _, rfl, _, _, rfl, rfl, by omega, _, _, rfl, rfl, rfl, _, rfl, ?_⟩
      show Q3 (decide (V.int (Builtin.bitAnd ((0 + (i : Int)) / 2 ^ ((0 : Int) + (k : Int)).toNat) 1) = V.int ((1 : Nat) : Int))) H3
      rw [bit_i]
      exact qq H3 fun _ _ h => h
    · refine ⟨_, rfl, _, rfl, _, _, _, _, rfl, rfl, sq (s3 _ _ ew3), at_n (j := k) (by omega) (by rw [List.getElem?_map, gdN hk]; rfl), ?_⟩
      exact qq H3 fun _ _ h => h
    rw [selP_V] at e4
    dsimp only [gName]
    have e34 := s4 _ _ e3
    have l0 := selP_len 0 i ws
    have l1 := selP_len 1 i ws
    have m0 : ∀ z ∈ selP 0 i ws, z < N := fun z hz => wlt z (selP_mem hz)
    have m1 : ∀ z ∈ selP 1 i ws, z < N := fun z hz => wlt z (selP_mem hz)
    have hval : valB R N crew (fnX gs) ws i = if (decide ((selP 1 i ws).filter (fun p => !R crew p) = []) && decide (mtN R N (selP 0 i ws) (fnX gs) = (selP 0 i ws).length)) = true then some (selP 1 i ws).length else none := rfl
    generalize selP 0 i ws = z0 at e34 l0 m0 hval
    generalize selP 1 i ws = z1 at e4 l1 m1 hval
    have s14 := (s2.trans s3).trans s4
    have s04 := s1.trans s14
    have T4 := T.same s04
    obtain ⟨a, ha⟩ : ∃ a, as[crew]? = some a := ⟨_, List.getElem?_eq_getElem (by rw [T4.len]; exact hcr)⟩
    have hav : (as.map V.ref)[crew]? = some (.ref a) := by rw [List.getElem?_map, ha]; rfl
    refine ⟨_, rfl, D2, rfl, ⟨_, sq e4⟩, fun D3 nD3 => lc_list (xs := z1.map nV) (fun i H' => Same H4 H' ∧ H' D3 = some (.lst (((z1.take i).filter fun p => !R crew p).map nV))) ⟨same_new nD3, upd_same⟩ (fun _ H' _ h => sq (h.1 _ _ e4)) ?_ ?_⟩
    · rintro k u H' hu ⟨sm, eD⟩
      obtain ⟨p, hp, rfl⟩ := get_map_inv hu
      have era := (T4.same sm).row crew a ha
      have hb : ((List.range N).map fun k => V.bl (R crew k))[p]? = some (V.bl (R crew p)) := by rw [List.getElem?_map, List.getElem?_range (m1 p (List.mem_of_getElem? hp))]; rfl
      have fs : (z1.take (k + 1)).filter (fun p => !R crew p) = (z1.take k).filter (fun p => !R crew p) ++ (if (!R crew p) = true then [p] else []) := by
        rw [take_snoc hp, List.filter_append]
        congr 1
        rw [List.filter_cons]
        rfl
      refine ⟨rfl, ?_⟩
      refine ⟨_, rfl, _, rfl, _, _, _, _, rfl, rfl, (s04.trans sm).seq hra, at_n (j := crew) rfl hav, _, rfl, _, _, _, _, rfl, rfl, sq era, at_n (j := p) rfl hb, _, rfl, ?_⟩
      cases hR : R crew p with
      | true =>
        rw [hR] at fs
        rw [if_neg (by decide)] at fs ⊢
        rw [List.append_nil] at fs
        exact ⟨sm, by rw [fs]; exact eD⟩
      | false =>
        rw [hR] at fs
        have hnb : (!false) = true := rfl
        rw [if_pos hnb] at fs ⊢
        have fl := List.length_filter_le (fun p => !R crew p) (z1.take k)
        rw [List.length_take] at fl
        exact ⟨_, rfl, _, eD, by rw [List.length_map]; exact szl (by omega), Same.mut sm nD3, by rw [upd_same, fs, List.map_append]; rfl⟩
    rintro H5 ⟨s5, e5⟩
    rw [List.length_map, List.take_length] at e5
    dsimp only [gName]
    have b1e : ∀ F : List Nat, decide (V.int ((((F.map nV).length : Nat) : Int)) = V.int 0) = decide (F = []) := fun F => decide_eq_decide.mpr ⟨fun h => by
      have := V.int.inj h
      rw [List.length_map] at this
      exact List.eq_nil_of_length_eq_zero (by omega), fun h => by rw [h]; rfl⟩
    refine ⟨D3, _, rfl, .inl (sq e5), rfl, ?_⟩
    rw [b1e]
    generalize decide (z1.filter (fun p => !R crew p) = []) = b1 at hval
    have s05 := s04.trans s5
    have s25 := s14.trans s5
    cases b1 with
    | false =>
      have hv : valB R N crew (fnX gs) ws i = none := hval
      exact ⟨_, rfl, _, rfl, iteFx rfl (iteFx rfl ⟨o, y5, _, _, _, _, rfl, s25, lu.skip hv⟩)⟩
    | true =>
      refine ⟨_, rfl, _, rfl, iteTx rfl ⟨_, rfl, _, rfl, _, rfl, ra, D1, ga, as, N, R, z0, gs, rfl, s05.seq hra, T4.same s5, s5.seq (sq e34), by omega, by omega, m0, s05.seq hga, gl, hN, fun H6 s6 => ?_⟩⟩
      have s26 := s25.trans s6
      have s16 := (s5.trans s6)
      have e26 : H6 D2 = some (.lst (z1.map nV)) := s16 _ _ e4
      have e2d : decide (V.int ((mtN R N z0 (fnX gs) : Nat) : Int) = V.int (((z0.map nV).length : Nat) : Int)) = decide (mtN R N z0 (fnX gs) = z0.length) := decide_eq_decide.mpr ⟨fun h => by have := V.int.inj h; rw [List.length_map] at this; omega, fun h => by rw [h, List.length_map]⟩
      refine ⟨_, rfl, D1, _, rfl, .inl (sq (s16 _ _ e34)), rfl, _, rfl, ?_⟩
      rw [e2d]
      generalize decide (mtN R N z0 (fnX gs) = z0.length) = b2 at hval
      cases b2 with
      | false =>
        have hv : valB R N crew (fnX gs) ws i = none := hval
        exact iteFx rfl ⟨o, y5, _, _, _, _, rfl, s26, lu.skip hv⟩
      | true =>
        have hv : valB R N crew (fnX gs) ws i = some z1.length := hval
        have el : (((z1.map nV).length : Nat) : Int) = ((z1.length : Nat) : Int) := by rw [List.length_map]
        refine iteTx rfl ?_
        have put : LeastU (valB R N crew (fnX gs) ws) (i + 1) (some z1.length) → ∃ (o : Option Nat) (y5' y7 y8 y9 y10 : Option V), [some (V.ref ra), some (.ref ca), some (.ref ga), some (nV crew), some (.ref wa), y5, some (V.int (((z1.map nV).length : Nat) : Int)), some (.int (0 + (i : Int))), some (.ref D1), some (.ref D2), some (.bl true), none] = [some (.ref ra), some (.ref ca), some (.ref ga), some (nV crew), some (.ref wa), y5', some (onV o), y7, y8, y9, y10, none] ∧ Same H1 H6 ∧ LeastU (valB R N crew (fnX gs) ws) (i + 1) o := fun h => ⟨some z1.length, y5, _, _, _, _, by rw [el]; rfl, s26, h⟩
        cases o with
        | none => exact ⟨_, rfl, rfl, _, rfl, iteTx rfl (iteTx rfl ⟨_, rfl, D2, _, rfl, .inl (sq e26), put (lu.first hv)⟩)⟩
        | some n =>
          refine ⟨_, rfl, rfl, _, rfl, iteFx rfl ⟨_, rfl, D2, _, rfl, .inl (sq e26), _, rfl, _, _, rfl, rfl, _, rfl, ?_⟩⟩
          by_cases l : z1.length < n
          · exact iteTx (decide_eq_true (by omega)) ⟨_, rfl, D2, _, rfl, .inl (sq e26), put (lu.less hv l)⟩
          · exact iteFx (decide_eq_false (by omega)) ⟨some n, y5, _, _, _, _, rfl, s26, lu.keep hv l⟩
  · rintro σ' H2 ⟨o, y5, y7, y8, y9, y10, rfl, s2, lu⟩
    exact ⟨_, rfl, q H2 o (s1.trans s2) lu⟩
end
/-! ### what the law's search says -/
section
variable {N crew : Nat} {ms : List MvT} {R : Nat → Nat → Bool} {gs : List Int}
theorem good_iff (hR : ∀ p z, p < N → (R p z = true ↔ Rch ms p z)) (hc : crew < N) (gl : gs.length = N) (ws : List Nat) (part : Nat) : goodB R N crew (fnX gs) ws part = true ↔ GoodP ms crew (fnX gs) ws part := by
  have h0 := (mtN_iff hR (selP 0 part ws) (f := fnX gs) fun q hq => by
    show gs.getD q 0 ≤ 0
    rw [List.getD_eq_getElem?_getD, List.getElem?_eq_none (by omega)]
    exact Int.le_refl 0).2
  have h1 : (selP 1 part ws).filter (fun p => !R crew p) = [] ↔ ∀ z ∈ selP 1 part ws, Rch ms crew z := by
    rw [List.filter_eq_nil_iff]
    constructor
    · intro h z hz
      have := h z hz
      refine (hR crew z hc).mp ?_
      cases e : R crew z with
      | true => rfl
      | false => rw [e] at this; exact absurd rfl this
    · intro h z hz e
      rw [(hR crew z hc).mpr (h z hz)] at e
      cases e
  unfold goodB
  rw [Bool.and_eq_true, decide_eq_true_iff, decide_eq_true_iff, h1, h0]
  exact ⟨fun h => ⟨h.1, h.2⟩, fun h => ⟨h.1, h.2⟩⟩
/-- the least number of crew threads for one situation -/
def CnO (ms : List MvT) (crew : Nat) (f : FnI) (ws : List Nat) : Option Nat → Prop
  | none => ∀ n, ¬ Prt ms crew f ws n
  | some n => Prt ms crew f ws n ∧ ∀ k, Prt ms crew f ws k → n ≤ k
theorem need_cn (hR : ∀ p z, p < N → (R p z = true ↔ Rch ms p z)) (hc : crew < N) (gl : gs.length = N) {ws : List Nat} {o : Option Nat} (h : LeastU (valB R N crew (fnX gs) ws) (2 ^ ws.length) o) : CnO ms crew (fnX gs) ws o := by
  have val : ∀ {n}, Prt ms crew (fnX gs) ws n → ∃ part, part < 2 ^ ws.length ∧ valB R N crew (fnX gs) ws part = some n := fun {n} hn => by
    obtain ⟨part, h1, h2, h3⟩ := hn.part
    refine ⟨part, h1, ?_⟩
    show (if goodB R N crew (fnX gs) ws part = true then some (selP 1 part ws).length else none) = some n
    rw [if_pos ((good_iff hR hc gl ws part).mpr h2), h3]
  cases o with
  | none =>
    intro n hn
    obtain ⟨part, h1, h2⟩ := val hn
    have := h part h1
    rw [this] at h2
    cases h2
  | some n =>
    obtain ⟨⟨part, h1, h2⟩, h3⟩ := h
    refine ⟨?_, fun k hk => ?_⟩
    · have h2 : (if goodB R N crew (fnX gs) ws part = true then some (selP 1 part ws).length else none) = some n := h2
      split at h2
      · rename_i g
        rw [← Option.some.inj h2]
        exact ((good_iff hR hc gl ws part).mp g).prt
      · cases h2
    · obtain ⟨part, h1, h2⟩ := val hk
      exact h3 part k h1 h2
end
/-- the least number over the first situations -/
def DueS (ms : List MvT) (crew : Nat) (f : FnI) (bs : List Sn) (i : Nat) : Option Nat → Prop
  | none => ∀ b ∈ bs.take i, ∀ n, ¬ Prt ms crew f (want b.2) n
  | some n => (∃ b ∈ bs, Prt ms crew f (want b.2) n) ∧ ∀ b ∈ bs.take i, ∀ k, Prt ms crew f (want b.2) k → n ≤ k
section
variable {crew i : Nat} {ms : List MvT} {f : FnI} {bs : List Sn} {b : Sn}
theorem DueS.skip {o : Option Nat} (h : DueS ms crew f bs i o) (hb : bs[i]? = some b) (c : CnO ms crew f (want b.2) none) : DueS ms crew f bs (i + 1) o := by
  cases o with
  | none =>
    intro x hx
    rw [take_snoc hb] at hx
    rcases List.mem_append.mp hx with hx | hx
    · exact h x hx
    · rw [List.mem_singleton.mp hx]; exact c
  | some n =>
    refine ⟨h.1, fun x hx => ?_⟩
    rw [take_snoc hb] at hx
    rcases List.mem_append.mp hx with hx | hx
    · exact h.2 x hx
    · rw [List.mem_singleton.mp hx]; exact fun k hk => absurd hk (c k)
theorem DueS.first {n : Nat} (h : DueS ms crew f bs i none) (hb : bs[i]? = some b) (c : CnO ms crew f (want b.2) (some n)) : DueS ms crew f bs (i + 1) (some n) := by
  refine ⟨⟨b, List.mem_of_getElem? hb, c.1⟩, fun x hx => ?_⟩
  rw [take_snoc hb] at hx
  rcases List.mem_append.mp hx with hx | hx
  · exact fun k hk => absurd hk (h x hx k)
  · rw [List.mem_singleton.mp hx]; exact c.2
theorem DueS.less {n m : Nat} (h : DueS ms crew f bs i (some m)) (hb : bs[i]? = some b) (c : CnO ms crew f (want b.2) (some n)) (l : n < m) : DueS ms crew f bs (i + 1) (some n) := by
  refine ⟨⟨b, List.mem_of_getElem? hb, c.1⟩, fun x hx => ?_⟩
  rw [take_snoc hb] at hx
  rcases List.mem_append.mp hx with hx | hx
  · exact fun k hk => by have := h.2 x hx k hk; omega
  · rw [List.mem_singleton.mp hx]; exact c.2
theorem DueS.keep {n m : Nat} (h : DueS ms crew f bs i (some m)) (hb : bs[i]? = some b) (c : CnO ms crew f (want b.2) (some n)) (l : ¬ n < m) : DueS ms crew f bs (i + 1) (some m) := by
  refine ⟨h.1, fun x hx => ?_⟩
  rw [take_snoc hb] at hx
  rcases List.mem_append.mp hx with hx | hx
  · exact h.2 x hx
  · rw [List.mem_singleton.mp hx]; exact fun k hk => by have := c.2 k hk; omega
end
section
variable {P : Program} {w : World} {K : PySem.W.Frag} {mg : Str → Option Value} {base : Heap}
abbrev mv0 (p q : Nat) : MvT := ⟨0, p, 0, q, none, []⟩
theorem mv0_fit {N p q : Nat} (hp : p < N) (hq : q < N) : (mv0 p q).Fit 1 N := ⟨Nat.one_pos, hp, Nat.one_pos, hq, (fun _ h => nomatch h), ⟨.nil, fun p hp => (nomatch hp), fun p hp => (nomatch hp), fun p hp => (nomatch hp)⟩⟩
theorem One1.app {N p q : Nat} {ms : List MvT} (h : One1 N ms) (hp : p < N) (hq : q < N) : One1 N (ms ++ [mv0 p q]) := ⟨fun m hm => by
  rcases List.mem_append.mp hm with hm | hm
  · exact h.mv m hm
  · rw [List.mem_singleton.mp hm]
    exact ⟨rfl, rfl, rfl, rfl, hp, hq⟩⟩
theorem modN (x : Int) {N : Nat} (h : 1 ≤ N) : ∃ p : Nat, p < N ∧ x % (N : Int) = (p : Int) := by
  have := mod_in x (show (0 : Int) < (N : Int) by omega)
  exact ⟨(x % (N : Int)).toNat, by omega, by omega⟩
theorem sum_rep0 : ∀ n : Nat, (List.replicate n (0 : Int)).sum = 0
  | 0 => rfl
  | n + 1 => by rw [List.replicate_succ, List.sum_cons, sum_rep0 n]; rfl
def gvF (d : Int) : Int := d % 3 / (1 + d / 3 % 2)
theorem gvF_nn (d : Int) : 0 ≤ gvF d := Int.ediv_nonneg (Int.emod_nonneg _ (by decide)) (by have := Int.emod_nonneg (d / 3) (show (2 : Int) ≠ 0 by decide); omega)
abbrev s_law : Stmt := topS 42
theorem sc_law : FnScope ["script", "first", "places", "moves", "draw", "move", "k", "given", "crew", "draws", "bad", "total", "counts", "j", "at", "machine", "answer", "reach", "due", "situation", "need"] ["script"] (defScope s_law) := ⟨rfl, rfl, rfl, by decide +kernel, rfl, by decide +kernel, by decide +kernel⟩
-- law slots: script=0 first=1 places=2(cell) moves=3 draw=4 move=5 k=6 given=7 crew=8 draws=9 bad=10 total=11 counts=12 j=13 at=14 machine=15 answer=16 reach=17 due=18 situation=19 need=20 globals: _law_digits _law_cell range sum decide _law_reach _law_need len
def spLaw (K : PySem.W.Frag) : Sp := fun vs H Q _ => ∃ (a : Addr) (ns : List Int), vs = [.ref a] ∧ SqL K H a (ns.map V.int) ∧ ns.length ≤ 63 ∧ ∀ H', Q (.bl true) H'
set_option maxHeartbeats 8000000 in
theorem fd_law {f : Addr} {fd : FuncData} (F : Fun K "law" "law" s_law f fd) (m : mg "law" = some (.ref f)) (bind : ∀ (s : Shared) (v : Value), BindsTo s fd ⟨[v], []⟩ [("script", v)]) (B : Bt mg)
    (D_law_cell : Fd P w K mg base "_law_cell" ["script", "k"] 1 (spCellP K)) (D_law_digits : Fd P w K mg base "_law_digits" ["cell", "base", "most"] 1 (spDigits K)) (D_law_reach : Fd P w K mg base "_law_reach" ["places", "moves"] 1 (spReach K)) (D_law_need : Fd P w K mg base "_law_need" ["reach", "counts", "given", "crew"] 5 (spNeed49 K))
    (D_decide : FdK P w K mg base "decide" ["machine", "bad", "fuel"] 2 ["fuel"] 58 (spDec K 25)) :
    TopOk P w K mg base f (spLaw K) := by
  refine top_ok (k := 59) F sc_law (by refine ⟨rfl, ?_, ?_⟩ <;> decide +kernel) bind fun cdv s H a Q hr h => ?_
  obtain ⟨a1, ns, ea, hs, hl, q⟩ := h
  cases ea
  refine ⟨_, (pss_cons (ps_set (i := 1) sc_law.nd rfl (Or.inl rfl) (pe_fn D_law_digits (hr.mono (by decide)) rfl (pa_cons (pe_fn D_law_cell (hr.mono (by decide)) rfl (pa_cons (pv 0) (pa_cons pe_int pa_nil))) (pa_cons pe_int (pa_cons pe_int pa_nil)))))
 (pss_cons (ps_set (i := 2) sc_law.nd rfl (Or.inr rfl) (pe_op op_add pe_int (pe_op op_mod (pe_ix (ixL K) (pv 1) pe_int (fun _ _ => rfl)) pe_int)))
 (pss_cons (ps_set (i := 3) sc_law.nd rfl (Or.inl rfl) (pe_lst pa_nil))
 (pss_cons (ps_for PassesOwn.never rfl (piL K (pe_fn D_law_digits (hr.mono (by decide)) rfl (pa_cons (pe_fn D_law_cell (hr.mono (by decide)) rfl (pa_cons (pv 0) (pa_cons pe_int pa_nil))) (pa_cons pe_int (pa_cons (pe_op op_mod (pe_ix (ixL K) (pv 1) pe_int (fun _ _ => rfl)) pe_int) pa_nil))))) (pg_name (i := 4) sc_law.nd rfl (Or.inl rfl))
 (pss_cons (ps_set (i := 5) sc_law.nd rfl (Or.inl rfl) (pe_tup (pa_cons pe_int (pa_cons (pe_op op_mod (pv 4) (pv 2)) (pa_cons pe_int (pa_cons (pe_op op_mod (pe_op op_fdiv (pv 4) pe_int) (pv 2)) (pa_cons pe_non (pa_cons (pe_lst pa_nil) pa_nil))))))))
 (pss_one (ps_if (pt_cmpR (opNotInD K (hu65 hr)) (pv 5) (pv 3) (by rfl))
 (pss_one (ps_expr (peBm K PySem.F.plainAttrs_list PySem.F.slot_list_append PySem.F.type_list_append mt_append (pv 3) (pa_cons (pv 5) pa_nil))))
 pss_nil))))
 (C8.pss_cut (ps_if (pt_cmpR op_eq (pe_op op_mod (pe_ix (ixL K) (pv 1) pe_int (fun _ _ => rfl)) pe_int) pe_int (nomark _))
 (pss_one (ps_setLc (i := 3) (own := [("k", 6)]) (g := gName 6) (by rfl) sc_law.nd rfl rfl (sw_true rfl rfl rfl (by decide +kernel)) (pi_range1 rfl B.range (pa_cons (pv 2) pa_nil)) (blkOk_by (own := [("k", 6)]) (N := ["script", "first", "places", "moves", "draw", "move", "k", "given", "crew", "draws", "bad", "total", "counts", "j", "at", "machine", "answer", "reach", "due", "situation", "need"]) (sc := (defScope s_law)) (by decide +kernel)) (fun _ _ _ _ _ => (pg_name (i := 6) sc_law.nd rfl (Or.inl rfl))) (fun _ _ _ _ _ => pts_nil) (fun _ _ _ _ _ => (pe_tup (pa_cons pe_int (pa_cons (pv 6) (pa_cons pe_int (pa_cons (pe_op op_mod (pe_op op_add (pv 6) pe_int) (pv 2)) (pa_cons pe_non (pa_cons (pe_lst pa_nil) pa_nil))))))))))
 pss_nil)
 (pss_cons (ps_setLc (i := 7) (own := [("draw", 4)]) (g := gName 4) (by rfl) sc_law.nd rfl rfl (sw_true rfl rfl rfl (by decide +kernel)) (piL K (pe_fn D_law_digits (hr.mono (by decide)) rfl (pa_cons (pe_fn D_law_cell (hr.mono (by decide)) rfl (pa_cons (pv 0) (pa_cons pe_int pa_nil))) (pa_cons pe_int (pa_cons (pv 2) pa_nil))))) (blkOk_by (own := [("draw", 4)]) (N := ["script", "first", "places", "moves", "draw", "move", "k", "given", "crew", "draws", "bad", "total", "counts", "j", "at", "machine", "answer", "reach", "due", "situation", "need"]) (sc := (defScope s_law)) (by decide +kernel)) (fun _ _ _ _ _ => (pg_name (i := 4) sc_law.nd rfl (Or.inl rfl))) (fun _ _ _ _ _ => pts_nil) (fun _ _ _ _ _ => (pe_op op_fdiv (pe_op op_mod (pv 4) pe_int) (pe_op op_add pe_int (pe_op op_mod (pe_op op_fdiv (pv 4) pe_int) pe_int)))))
 (pss_cons (ps_set (i := 8) sc_law.nd rfl (Or.inl rfl) (pe_op op_mod (pe_ix (ixL K) (pv 1) pe_int (fun _ _ => rfl)) (pv 2)))
 (pss_cons (ps_set (i := 9) sc_law.nd rfl (Or.inl rfl) (pe_fn D_law_digits (hr.mono (by decide)) rfl (pa_cons (pe_fn D_law_cell (hr.mono (by decide)) rfl (pa_cons (pv 0) (pa_cons pe_int pa_nil))) (pa_cons pe_int (pa_cons pe_int pa_nil)))))
 (pss_cons (ps_set (i := 10) sc_law.nd rfl (Or.inl rfl) (pe_lst pa_nil))
 (pss_cons (ps_set (i := 11) sc_law.nd rfl (Or.inl rfl) pe_int)
 (pss_cons (ps_for PassesOwn.never rfl (pi_range1 rfl B.range (pa_cons (pe_op op_add pe_int (pe_op op_mod (pe_ix (ixL K) (pv 1) pe_int (fun _ _ => rfl)) pe_int)) pa_nil)) (pg_name (i := 6) sc_law.nd rfl (Or.inl rfl))
 (pss_cons (ps_set (i := 12) sc_law.nd rfl (Or.inl rfl) (pe_op op_rep (pe_lst (pa_cons pe_int pa_nil)) (pv 2)))
 (pss_cons (ps_for PassesOwn.never rfl (pi_range1 rfl B.range (pa_cons (pe_op op_add pe_int (pe_op op_mod (pe_op op_fdiv (pe_ix (ixL K) (pv 9) (pv 6) (fun _ _ => rfl)) pe_int) pe_int)) pa_nil)) (pg_name (i := 13) sc_law.nd rfl (Or.inl rfl))
 (pss_one (ps_if (pt_cmpR op_lt (pv 11) pe_int (nomark _))
 (pss_cons (ps_set (i := 14) sc_law.nd rfl (Or.inl rfl) (pe_op op_mod (pe_op op_fdiv (pe_ix (ixL K) (pv 9) (pv 6) (fun _ _ => rfl)) (pe_op op_add pe_int (pe_op op_mul pe_int (pv 13)))) (pv 2)))
 (pss_cons (ps_asg (pe_op op_add (pe_ix (ixL K) (pv 12) (pv 14) (fun _ _ => rfl)) pe_int) (pg_sub (pv 12) (pv 14) set_list))
 (pss_one (ps_aug (i := 11) sc_law.nd rfl (Or.inl rfl) pe_int ip_add))))
 pss_nil)))
 (pss_one (ps_if (pt_cmpR op_gt (pe_callB (cSum K rfl) (by rfl) B.sum (by decide +kernel) (pa_cons (pv 12) pa_nil)) pe_int (nomark _))
 (pss_one (ps_expr (peBm K PySem.F.plainAttrs_list PySem.F.slot_list_append PySem.F.type_list_append mt_append (pv 10) (pa_cons (pe_tup (pa_cons pe_int (pa_cons (pv 12) pa_nil))) pa_nil))))
 pss_nil)))))
 (pss_cons (ps_set (i := 15) sc_law.nd rfl (Or.inl rfl) (pe_tup (pa_cons pe_int (pa_cons (pv 2) (pa_cons (pe_tup (pa_cons pe_int (pa_cons (pv 7) pa_nil))) (pa_cons (pv 8) (pa_cons (pv 3) pa_nil)))))))
 (pss_cons (ps_set (i := 16) sc_law.nd rfl (Or.inl rfl) (pe_fnK D_decide (hr.mono (by decide)) rfl (pa_cons (pv 15) (pa_cons (pv 10) pa_nil)) (pk_cons (pe_op op_add pe_int (pe_op op_mod (pe_ix (ixL K) (pv 1) pe_int (fun _ _ => rfl)) pe_int)) pk_nil)))
 (pss_cons (ps_set (i := 17) sc_law.nd rfl (Or.inl rfl) (pe_fn D_law_reach (hr.mono (by decide)) rfl (pa_cons (pv 2) (pa_cons (pv 3) pa_nil))))
 (pss_cons (ps_set (i := 18) sc_law.nd rfl (Or.inl rfl) pe_non)
 (pss_cons (ps_for PassesOwn.never rfl (piL K (pv 10)) (pg_name (i := 19) sc_law.nd rfl (Or.inl rfl))
 (pss_cons (ps_set (i := 20) sc_law.nd rfl (Or.inl rfl) (pe_fn D_law_need (hr.mono (by decide)) rfl (pa_cons (pv 17) (pa_cons (pe_ix (ixT K) (pv 19) pe_int (fun _ _ => rfl)) (pa_cons (pv 7) (pa_cons (pv 8) pa_nil))))))
 (pss_one (ps_if (PW.pt (pw_and (pt_cmpR op_notN (pv 20) pe_non (nomark _)) (pw_and1 (PW.pt (pw_or (pt_cmpR op_isN (pv 18) pe_non (nomark _)) (pw_or1 (pt_cmpR op_lt (pv 20) (pv 18) (nomark _))))))))
 (pss_one (ps_set (i := 18) sc_law.nd rfl (Or.inl rfl) (pv 20)))
 pss_nil))))
 (pss_cons (ps_if (pt_cmpR op_isN (pv 18) pe_non (nomark _))
 (pss_one (ps_ret (pe_and (pe_cmpR op_eq (pe_ix (ixT K) (pv 16) pe_int (fun _ _ => rfl)) pe_str (nomark _)) (pe_one (pe_cmpR op_eq (pe_callB (cLen K) (by rfl) B.len PySem.boot_len (pa_cons (pv 16) pa_nil)) pe_int (nomark _))))))
 pss_nil)
 (pss_one (ps_ret (pe_and (pe_cmpR op_eq (pe_ix (ixT K) (pv 16) pe_int (fun _ _ => rfl)) pe_str (nomark _)) (pe_one (pe_cmpR op_eq (pe_ix (ixT K) (pv 16) pe_int (fun _ _ => rfl)) (pv 18) (nomark _))))))))))))))))))))))), ?_⟩
  refine ⟨_, rfl, a, ns, 0, rfl, hs, fun c0 hc0 => ⟨c0, 2520, 6, rfl, hc0, by decide, by decide, by decide, fun H1 pf fs s1 npf epf fl fb => ?_⟩⟩
  dsimp only [gName]
  have f0 : ∀ j, j < 6 → 0 ≤ fs.getD j 0 := fun j hj => (fb _ (gd_mem (by omega))).1
  have sqf : SqL K H1 pf (fs.map V.int) := sq epf
  have hs1 := s1.seq hs
  clear s1 hs npf epf
  have x0 := f0 0 (by decide)
  have x1 := f0 1 (by decide)
  have x2 := f0 2 (by decide)
  have x3 := f0 3 (by decide)
  have x4 := f0 4 (by decide)
  have x5 := f0 5 (by decide)
  obtain ⟨N, eN⟩ : ∃ n : Nat, 1 + fs.getD 0 0 % 5 = (n : Int) := ⟨(1 + fs.getD 0 0 % 5).toNat, by omega⟩
  have hN : 1 ≤ N ∧ N ≤ 5 := by omega
  refine ⟨_, rfl, _, _, _, _, rfl, rfl, sqf, at_gd (j := 0) rfl (by omega), _, _, rfl, rfl, (by show (0 : Int) < 5; decide), _, _, rfl, rfl, ?_⟩
  dsimp only [gName]
  rw [eN]
  refine ⟨szc 0, fun o no => ?_⟩
  dsimp only [gName]
  have so := same_new (o := HO.lst []) no
  obtain ⟨nm, enm⟩ : ∃ n : Nat, fs.getD 1 0 % 13 = (n : Int) := ⟨(fs.getD 1 0 % 13).toNat, by omega⟩
  refine ⟨_, rfl, a, ns, 1, rfl, so.seq hs1, fun c1 hc1 => ⟨_, rfl, _, _, _, _, rfl, rfl, so.seq sqf, at_gd (j := 1) rfl (by omega), _, _, rfl, rfl, (by show (0 : Int) < 13; decide), ?_⟩⟩
  refine ⟨c1, 2520, nm, congrArg (fun z => [V.int c1, V.int 2520, V.int z]) enm, hc1, by decide, by decide, by omega, fun H2 p1 ds s2 np1 ep1 dl db => ?_⟩
  have eo2 : H2 o = some (.lst []) := s2 _ _ upd_same
  have s12 := so.trans s2
  have noH1 : H1 o = none := no
  have upo : (upd H1 o (.lst [])) o = some (.lst []) := upd_same
  refine ⟨p1, rfl, ⟨_, sq ep1⟩, for_list (xs := ds.map V.int) (fun i σ' H' => ∃ (y4 y5 : Option V) (xs : List V) (ms : List MvT), σ' = [some (.ref a), some (.ref pf), some (nV N), some (.ref o), y4, y5, none, none, none, none, none, none, none, none, none, none, none, none, none, none, none] ∧ Same H1 H' ∧ H' p1 = some (.lst (ds.map V.int)) ∧ H' o = some (.lst xs) ∧ DpAll K (Ho o H') xs (ms.map MvT.data) ∧ One1 N ms ∧ ms.length ≤ i) ⟨none, none, [], [], rfl, s12, ep1, eo2, .nil, ⟨fun m hm => nomatch hm⟩, Nat.le_refl 0⟩ ?_ ?_ ?_⟩
  · rintro i σ' H' _ ⟨y4, y5, xs, ms, rfl, sm, ep, eo, dx, one, ml⟩
    exact sq ep
  · rintro i u σ' H3 hu ⟨y4, y5, xs, ms, rfl, s3, ep, eo, dx, one, ml⟩
    obtain ⟨d, hd, rfl⟩ := get_map_inv hu
    have il : i < ds.length := (List.getElem?_eq_some_iff.mp hd).1
    obtain ⟨p, hp, ep0⟩ := modN d hN.1
    obtain ⟨z, hz, ez0⟩ := modN (d / 5) hN.1
    have pn : (0 : Int) < (N : Int) := by omega
    have p1o : p1 ≠ o := fun z => by rw [z] at np1; rw [np1] at upo; cases upo
    dsimp only [gName]
    refine ⟨_, rfl, _, rfl, _, _, rfl, rfl, pn, ?_⟩
    refine ⟨_, rfl, _, _, rfl, rfl, ⟨by decide, by decide⟩, _, rfl, _, _, rfl, rfl, pn, ?_⟩
    refine ⟨szc 0, fun l nl => ⟨szc 6, fun t nt => ?_⟩⟩
    dsimp only [gName]
    have lo : l ≠ o := fun z => by rw [z, eo] at nl; cases nl
    have sl := same_new (o := HO.lst []) nl
    have htv : [V.int 0, V.int (d % (N : Int)), V.int 0, V.int (d / 5 % (N : Int)), V.non, V.ref l] = [nV (mv0 p z).st, nV (mv0 p z).pl, nV (mv0 p z).ns, nV (mv0 p z).np, sdV (mv0 p z).sd, .ref l] := by rw [ep0, ez0]; rfl
    have st' := same_new (o := HO.tup [V.int 0, V.int (d % (N : Int)), V.int 0, V.int (d / 5 % (N : Int)), V.non, V.ref l]) nt
    have tl : t ≠ l := fun z => by rw [z, upd_same] at nt; cases nt
    have to : t ≠ o := fun z => by rw [z, sl _ _ eo] at nt; cases nt
    obtain ⟨g1, g2, g3⟩ := app_mv (K := K) htv eo dx nl nt rfl
    have dt : Dp K (upd (upd H3 l (.lst [])) t (.tup [V.int 0, V.int (d % (N : Int)), V.int 0, V.int (d / 5 % (N : Int)), V.non, V.ref l])) (.ref t) (mv0 p z).data := dp_mvc (st (by rw [upd_same, htv])) (sq (by rw [upd_ne tl.symm, upd_same])) rfl
    have eo5 := st' _ _ (sl _ _ eo)
    have ep5 := st' _ _ (sl _ _ ep)
    have s5 := (s3.trans sl).trans st'
    have dx5 := dpAll_mono (ho_same (sl.trans st')) dx
    have g3' := g3 H1 s3 noH1
    generalize upd (upd H3 l (.lst [])) t (.tup [V.int 0, V.int (d % (N : Int)), V.int 0, V.int (d / 5 % (N : Int)), V.non, V.ref l]) = H5 at dt eo5 ep5 s5 dx5 g1 g2 g3' ⊢
    have fitm := mv0_fit hp hz
    have nc1 := mv_nc fitm (by omega) (by omega)
    have ncl := NcL.lst (mvs_nc (S := 1) (P := N) (by omega) (by omega) (ms := ms) fun m hm => ⟨one.fit hm, by rw [(one.mv m hm).2.2.1]; exact Nat.zero_le _⟩)
    refine ⟨_, rfl, _, rfl, _, _, dt, .lst (sq eo5) (dpAll_mono ho_out dx5), nc1.shaped (by decide), ncl.shaped (by decide), _, rfl, ?_⟩
    cases (ms.map MvT.data).any fun y => PyData.eqv y (mv0 p z).data with
    | true => exact iteF ⟨_, _, xs, ms, rfl, s5, ep5, eo5, dx5, one, by omega⟩
    | false =>
      refine iteT ⟨_, rfl, .inl ⟨rfl, _, sq eo5⟩, _, rfl, o, _, _, rfl, rfl, eo5, szl (by have := dpa_map_len dx; omega), ?_⟩
      exact ⟨_, _, _, ms ++ [mv0 p z], rfl, g3', by rw [upd_ne p1o]; exact ep5, g1, g2, one.app hp hz, by rw [List.length_append, List.length_singleton]; omega⟩
  rintro σ' H3 ⟨y4, y5, xs, ms, rfl, s3, ep, eo, dx, one, ml⟩
  have ml : ms.length ≤ 12 := by
    rw [List.length_map] at ml
    omega
  have dx3 : DpAll K H3 xs (ms.map MvT.data) := dpAll_mono ho_out dx
  have sqf3 := s3.seq sqf
  have hs3 := s3.seq hs1
  clear dx
  have ring : ∀ i, One1 N ((List.range i).map fun k => mv0 (k % N) ((k + 1) % N)) := fun i => ⟨fun m hm => by
    obtain ⟨k, _, rfl⟩ := List.mem_map.mp hm
    exact ⟨rfl, rfl, rfl, rfl, Nat.mod_lt _ (by omega), Nat.mod_lt _ (by omega)⟩⟩
  refine ⟨fun σ' H' => ∃ (oa : Addr) (y4 y5 : Option V) (xs : List V) (ms : List MvT), σ' = [some (.ref a), some (.ref pf), some (nV N), some (.ref oa), y4, y5, none, none, none, none, none, none, none, none, none, none, none, none, none, none, none] ∧ Same H1 H' ∧ H' oa = some (.lst xs) ∧ DpAll K H' xs (ms.map MvT.data) ∧ One1 N ms ∧ ms.length ≤ 12, ?_, ?_⟩
  · refine ⟨_, rfl, _, _, _, _, rfl, rfl, sqf3, at_gd (j := 2) rfl (by omega), _, _, rfl, rfl, (by show (0 : Int) < 5; decide), rfl, _, rfl, ite2 (fun e => ?_) (fun e => ?_)⟩
    · refine ⟨_, rfl, (N : Int), rfl, by omega, by omega, fun D nD => lc_range (fun i H' => Same H3 H' ∧ ∃ xs, H' D = some (.lst xs) ∧ DpAll K (Ho D H') xs (((List.range i).map fun k => mv0 (k % N) ((k + 1) % N)).map MvT.data)) ⟨same_new nD, [], upd_same, .nil⟩ ?_ ?_⟩
      · rintro i H4 hi ⟨s4, xs4, eD, dD⟩
        have xl := dpa_map_len dD
        rw [List.length_map, List.length_range] at xl
        have hi' : i < N := by omega
        refine ⟨rfl, ?_⟩
        refine ⟨_, rfl, _, rfl, _, _, rfl, rfl, _, rfl, _, _, rfl, rfl, (by show (0 : Int) < (N : Int); omega), ⟨szc 0, fun l nl => ⟨szc 6, fun t nt => ?_⟩⟩⟩
        have htv : [V.int 0, V.int (0 + (i : Int)), V.int 0, V.int ((0 + (i : Int) + 1) % (N : Int)), V.non, V.ref l] = [nV (mv0 (i % N) ((i + 1) % N)).st, nV (mv0 (i % N) ((i + 1) % N)).pl, nV (mv0 (i % N) ((i + 1) % N)).ns, nV (mv0 (i % N) ((i + 1) % N)).np, sdV (mv0 (i % N) ((i + 1) % N)).sd, .ref l] := by
          show _ = [V.int 0, V.int ((i % N : Nat) : Int), V.int 0, V.int (((i + 1) % N : Nat) : Int), V.non, V.ref l]
          rw [Nat.mod_eq_of_lt hi', Int.zero_add]
          rfl
        obtain ⟨g1, g2, g3⟩ := app_mv (K := K) htv eD dD nl nt rfl
        refine ⟨xs4, (same_new nt) _ _ ((same_new nl) _ _ eD), szl (by omega), g3 H3 s4 nD, _, g1, ?_⟩
        rw [List.range_succ, List.map_append]
        exact g2
      · rintro H4 ⟨s4, xs4, eD, dD⟩
        exact ⟨D, _, _, xs4, _, rfl, s3.trans s4, eD, dpAll_mono ho_out dD, ring N, by rw [List.length_map, List.length_range]; omega⟩
    · exact ⟨o, y4, y5, xs, ms, rfl, s3, eo, dx3, one, ml⟩
  rintro σ' H3 ⟨oa, y4, y5, xs, ms, rfl, s3, eo, dx3, one, ml⟩
  have sqf3 := s3.seq sqf
  have hs3 := s3.seq hs1
  -- the start
  refine ⟨_, rfl, a, ns, 2, rfl, hs3, fun c2 hc2 => ⟨_, rfl, c2, 2520, N, rfl, hc2, by decide, by decide, by omega, fun H4 p2 dg s4 np2 ep2 dgl dgb => ?_⟩⟩
  refine ⟨p2, rfl, ⟨_, sq ep2⟩, fun D nD => lc_list (xs := dg.map V.int) (fun i H' => Same H4 H' ∧ H' D = some (.lst (((dg.take i).map gvF).map V.int))) ⟨same_new nD, upd_same⟩ (fun _ H' _ h => sq (h.1 _ _ ep2)) ?_ ?_⟩
  · rintro i u H' hu ⟨sm, eD⟩
    obtain ⟨d, hd, rfl⟩ := get_map_inv hu
    have il : i < dg.length := (List.getElem?_eq_some_iff.mp hd).1
    have db := dgb d (List.mem_of_getElem? hd)
    refine ⟨rfl, ?_⟩
    refine ⟨_, rfl, _, _, rfl, rfl, (by show (0 : Int) < 3; decide), _, rfl, _, _, rfl, rfl, ⟨by decide, by decide⟩, _, _, rfl, rfl, (by show (0 : Int) < 2; decide), _, _, rfl, rfl, _, _, rfl, rfl, ⟨by omega, by omega⟩, ?_⟩
    refine ⟨_, eD, by rw [List.length_map, List.length_map, List.length_take]; exact szl (by omega), Same.mut sm nD, ?_⟩
    rw [upd_same, take_snoc hd, List.map_append, List.map_append]
    rfl
  rintro H5 ⟨s5, eG⟩
  rw [List.length_map, List.take_length] at eG
  have gl : (dg.map gvF).length = N := by rw [List.length_map]; exact dgl
  have g0 : ∀ c ∈ dg.map gvF, 0 ≤ c := fun c hc => by
    obtain ⟨d, hd, rfl⟩ := List.mem_map.mp hc
    exact gvF_nn _
  generalize dg.map gvF = gs at eG gl g0
  have s15 := (s3.trans s4).trans s5
  have eo5 := (s4.trans s5) _ _ eo
  have dx5 := dpAll_mono (s4.trans s5) dx3
  have sqf5 := s15.seq sqf
  have hs5 := s15.seq hs1
  obtain ⟨cw, hcw, ecw⟩ := modN (fs.getD 3 0) hN.1
  dsimp only [gName]
  refine ⟨_, rfl, _, _, _, _, rfl, rfl, sqf5, at_gd (j := 3) rfl (by omega), _, rfl, _, _, rfl, rfl, (by show (0 : Int) < (N : Int); omega), ?_⟩
  dsimp only [gName]
  rw [ecw]
  refine ⟨_, rfl, a, ns, 3, rfl, hs5, fun c3 hc3 => ⟨c3, 2520, 3, rfl, hc3, by decide, by decide, by decide, fun H6 pd ds3 s6 npd epd dl3 db3 => ?_⟩⟩
  dsimp only [gName]
  have d0 : ∀ j, j < 3 → 0 ≤ ds3.getD j 0 := fun j hj => (db3 _ (gd_mem (by omega))).1
  have s16 := s15.trans s6
  refine ⟨szc 0, fun ob nob => ?_⟩
  dsimp only [gName]
  have sob := same_new (o := HO.lst []) nob
  have eob : (upd H6 ob (.lst [])) ob = some (.lst []) := upd_same
  have sq1 := (s16.trans sob).seq sqf
  have epd' : (upd H6 ob (.lst [])) pd = some (.lst (ds3.map V.int)) := sob _ _ epd
  have s6b := s6.trans sob
  have nobH5 : H5 ob = none := s6.free nob
  have pdO : pd ≠ ob := fun z => by rw [← z, epd] at nob; cases nob
  generalize upd H6 ob (.lst []) = HB at eob sq1 epd' s6b ⊢
  obtain ⟨nb, enb⟩ : ∃ n : Nat, 1 + fs.getD 4 0 % 3 = (n : Int) := ⟨(1 + fs.getD 4 0 % 3).toNat, by omega⟩
  have nb3 : nb ≤ 3 := by omega
  refine ⟨_, rfl, _, _, _, _, rfl, rfl, sq1, at_gd (j := 4) rfl (by omega), _, _, rfl, rfl, (by show (0 : Int) < 3; decide), _, _, rfl, rfl, (nb : Int), congrArg (fun z => [V.int z]) enb, by omega, by omega, for_range (lo := 0) (n := nb) (fun k σ' H' => ∃ (y6 y12 y13 y14 : Option V) (t : Nat) (xs : List V) (bs : List Sn), σ' = [some (.ref a), some (.ref pf), some (nV N), some (.ref oa), y4, y5, y6, some (.ref D), some (nV cw), some (.ref pd), some (.ref ob), some (nV t), y12, y13, y14, none, none, none, none, none, none] ∧ t ≤ 3 ∧ Same H5 H' ∧ H' pd = some (.lst (ds3.map V.int)) ∧ H' ob = some (.lst xs) ∧ DpAll K (Ho ob H') xs (bs.map sD) ∧ Bd1 N bs ∧ bs.length ≤ k) ⟨none, none, none, none, 0, [], [], rfl, by decide, s6b, epd', eob, .nil, ⟨fun b hb => nomatch hb⟩, Nat.le_refl 0⟩ ?_ ?_⟩
  · rintro k σ' H7 hk ⟨y6, y12, y13, y14, t, xs7, bs, rfl, ht, s7, epd7, eob7, dx7, bd, bl⟩
    dsimp only [gName]
    refine ⟨szc 1, fun p1 n1 => ⟨_, rfl, p1, (N : Int), [V.int 0], rfl, rfl, upd_same, by omega, by omega, by rw [Int.toNat_natCast]; exact sz (by show 1 * N ≤ _; omega), fun c nc => ?_⟩⟩
    dsimp only [gName]
    have eR : (List.replicate ((N : Int)).toNat ([V.int 0] : List V)).flatten = (List.replicate N (0 : Int)).map V.int := by rw [Int.toNat_natCast, rep_one, rep_map]
    have sA : Same H7 (upd (upd H7 p1 (.lst [.int 0])) c (.lst (List.replicate ((N : Int)).toNat ([V.int 0] : List V)).flatten)) := (same_new n1).trans (same_new nc)
    have ec : (upd (upd H7 p1 (.lst [.int 0])) c (.lst (List.replicate ((N : Int)).toNat ([V.int 0] : List V)).flatten)) c = some (.lst ((List.replicate N (0 : Int)).map V.int)) := by rw [upd_same, eR]
    have ncH : H7 c = none := (same_new n1).free nc
    generalize upd (upd H7 p1 (.lst [.int 0])) c (.lst (List.replicate ((N : Int)).toNat ([V.int 0] : List V)).flatten) = HA at sA ec ⊢
    have epdA := sA _ _ epd7
    have k0 := d0 k (by omega)
    obtain ⟨nj, enj⟩ : ∃ n : Nat, 1 + ds3.getD k 0 / 25 % 3 = (n : Int) := ⟨(1 + ds3.getD k 0 / 25 % 3).toNat, by omega⟩
    refine ⟨_, rfl, _, rfl, _, _, _, _, rfl, rfl, sq epdA, at_gd (j := k) (by omega) (by omega), _, _, rfl, rfl, ⟨by decide, by decide⟩, _, _, rfl, rfl, (by show (0 : Int) < 3; decide), _, _, rfl, rfl, (nj : Int), congrArg (fun z => [V.int z]) enj, by omega, by omega, for_range (lo := 0) (n := nj) (fun j σ' H' => ∃ (y13 y14 : Option V) (t' : Nat) (cs : List Int), σ' = [some (.ref a), some (.ref pf), some (nV N), some (.ref oa), y4, y5, some (.int (0 + (k : Int))), some (.ref D), some (nV cw), some (.ref pd), some (.ref ob), some (nV t'), some (.ref c), y13, y14, none, none, none, none, none, none] ∧ t' ≤ 3 ∧ Same H7 H' ∧ H' c = some (.lst (cs.map V.int)) ∧ cs.length = N ∧ (∀ x ∈ cs, 0 ≤ x) ∧ cs.sum + (t : Int) = (t' : Int)) ⟨y13, y14, t, List.replicate N 0, rfl, ht, sA, ec, List.length_replicate, fun x hx => by rw [List.eq_of_mem_replicate hx]; exact Int.le_refl 0, by rw [sum_rep0]; omega⟩ ?_ ?_⟩
    · rintro j σ' H8 hj ⟨y13, y14, t', cs, rfl, ht', s8, ec8, cl8, c08, sm8⟩
      dsimp only [gName]
      refine ⟨_, rfl, _, _, rfl, rfl, _, rfl, ite2 (fun e => ?_) (fun e => ⟨_, y14, t', cs, rfl, ht', s8, ec8, cl8, c08, sm8⟩)⟩
      obtain ⟨p, hp, ep⟩ := modN (ds3.getD k 0 / (1 + 4 * (0 + (j : Int)))) hN.1
      refine ⟨_, rfl, _, rfl, _, _, _, _, rfl, rfl, sq (s8 _ _ epd7), at_gd (j := k) (by omega) (by omega), _, rfl, _, _, rfl, rfl, .inl ⟨by decide, by decide⟩, _, _, rfl, rfl, _, _, rfl, rfl, ⟨by omega, by omega⟩, _, rfl, _, _, rfl, rfl, (by show (0 : Int) < (N : Int); omega), ?_⟩
      dsimp only [gName]
      rw [ep]
      refine ⟨_, rfl, _, rfl, _, _, _, _, rfl, rfl, sq ec8, at_gd (j := p) rfl (by omega), _, _, rfl, rfl, _, rfl, _, rfl, set_intsE (j := p) rfl ec8 (by omega) ?_⟩
      have nn' : ∀ x ∈ cs.set p (cs.getD p 0 + 1), 0 ≤ x := fun x hx => by
        rcases List.mem_or_eq_of_mem_set hx with hx | rfl
        · exact c08 x hx
        · have := getD_nn c08 p; omega
      have ss := set_sum (cs := cs) (p := p) (v := cs.getD p 0 + 1) (by omega)
      have e : ((t' : Nat) : Int) < 3 := of_decide_eq_true e
      have le3 : t' + 1 ≤ 3 := by omega
      exact ⟨_, rfl, _, _, rfl, rfl, _, some (nV p), t' + 1, cs.set p (cs.getD p 0 + 1), rfl, le3, Same.mut s8 ncH, upd_same, by rw [List.length_set, cl8], nn', by omega⟩
    rintro σ' H8 ⟨y13, y14, t', cs, rfl, ht', s8, ec8, cl8, c08, sm8⟩
    have eob8 := s8 _ _ eob7
    have cO : c ≠ ob := fun z => by rw [z, eob7] at ncH; cases ncH
    have dx8 := dpAll_mono (ho_same s8) dx7
    have xl := dpa_map_len dx7
    refine ⟨_, rfl, c, cs, rfl, sq ec8, _, _, rfl, rfl, _, rfl, ite2 (fun e => ?_) (fun e => ?_)⟩
    · refine ⟨_, rfl, .inl ⟨rfl, xs7, sq eob8⟩, _, rfl, szc 2, fun t1 nt => ⟨ob, xs7, _, rfl, rfl, (same_new nt) _ _ eob8, szl (by omega), ?_⟩⟩
      have st8 := same_new (o := HO.tup [V.int 0, V.ref c]) nt
      have tO : t1 ≠ ob := fun z => by rw [z, eob8] at nt; cases nt
      have sm' : cs.sum ≤ 3 := by omega
      refine ⟨_, _, _, _, t', _, bs ++ [(0, cs)], rfl, ht', Same.mut ((s7.trans s8).trans st8) nobH5, ?_, upd_same, ?_, ⟨fun b hb => ?_⟩, by rw [List.length_append, List.length_singleton]; omega⟩
      · rw [upd_ne pdO]
        exact st8 _ _ (s8 _ _ epd7)
      · rw [List.map_append]
        refine dpa_app (dpAll_mono ((ho_same st8).trans ho_mut) dx8) (.cons (sit_dp ⟨t1, c, rfl, st ?_, sq ?_⟩) .nil)
        · unfold Ho
          rw [if_neg tO, upd_ne tO, upd_same]
        · unfold Ho
          rw [if_neg cO, upd_ne cO]
          exact st8 _ _ ec8
      · rcases List.mem_append.mp hb with hb | hb
        · exact bd.b b hb
        · rw [List.mem_singleton.mp hb]
          exact ⟨rfl, cl8, c08, sm'⟩
    · exact ⟨_, _, _, _, t', xs7, bs, rfl, ht', s7.trans s8, s8 _ _ epd7, eob8, dx8, bd, by omega⟩
  rintro σ' H7 ⟨y6, y12, y13, y14, t, xs7, bs, rfl, ht, s7, epd7, eob7, dx7, bd, bl⟩
  have dbad7 : DpAll K H7 xs7 (bs.map sD) := dpAll_mono ho_out dx7
  have eG7 := s7 _ _ eG
  have eo7 := s7 _ _ eo5
  have dmv7 := dpAll_mono s7 dx5
  have sqf7 := s7.seq sqf5
  clear dx7 dx5 dx3 epd7 epd' ep epd
  dsimp only [gName]
  -- the machine
  refine ⟨_, rfl, _, rfl, szc 2, fun t1 nt1 => ⟨_, rfl, _, rfl, szc 5, fun am nam => ?_⟩⟩
  dsimp only [gName]
  have s78 := (same_new (o := HO.tup [V.int 0, V.ref D]) nt1).trans (same_new (o := HO.tup [V.int 1, nV N, V.ref t1, nV cw, V.ref oa]) nam)
  have dM : Dp K (upd (upd H7 t1 (.tup [V.int 0, V.ref D])) am (.tup [V.int 1, nV N, V.ref t1, nV cw, V.ref oa])) (.ref am) (MT.mk 1 N 0 gs cw ms).data :=
    .tup (st upd_same) (.cons (.int _) (.cons (.int _) (.cons (sit_dp ⟨t1, D, rfl, st ((same_new nam) _ _ upd_same), sq (s78 _ _ eG7)⟩) (.cons (.int _) (.cons (.lst (sq (s78 _ _ eo7)) (dpAll_mono s78 dmv7)) .nil)))))
  have sm : Sm N (MT.mk 1 N 0 gs cw ms) bs := ⟨one, bd, rfl, gl, g0, hcw⟩
  generalize upd (upd H7 t1 (.tup [V.int 0, V.ref D])) am (.tup [V.int 1, nV N, V.ref t1, nV cw, V.ref oa]) = H8 at s78 dM ⊢
  have sqf8 := s78.seq sqf7
  obtain ⟨fu, efu⟩ : ∃ n : Nat, 16 + fs.getD 5 0 % 30 = (n : Int) := ⟨(16 + fs.getD 5 0 % 30).toNat, by omega⟩
  have hfu : 16 ≤ fu ∧ fu ≤ 45 := by omega
  have dbad8 := dpAll_mono s78 dbad7
  have eob8 := s78 _ _ eob7
  have ml1 : ms.length ≤ 12 := ml
  have bl3 : bs.length ≤ 3 := by omega
  have dp : DecPre 25 N (MT.mk 1 N 0 gs cw ms) bs fu 3 := by
    have nn : NonN bs := fun b hb => (bd.b b hb).2.2.1
    refine ⟨⟨rfl, fun m hm => ⟨one.fit hm, by rw [(one.mv m hm).2.2.1]; exact Nat.zero_le _⟩, by show ms.length ≤ _; omega, bd.lens, PreL.small nn (by omega) (by omega) (by omega), by omega, ?_, by omega, fun b hb => (bd.b b hb).2.2.2, by omega⟩, gl, hcw, g0, by show ms.length ≤ _; omega⟩
    have := Nat.mul_le_mul (show N + 1 ≤ 6 by omega) ml1
    show 2000 * ((N + 1) * ms.length) ≤ _
    omega
  refine ⟨_, rfl, _, rfl, _, rfl, _, _, _, _, rfl, rfl, sqf8, at_gd (j := 5) rfl (by omega), _, _, rfl, rfl, (by show (0 : Int) < 30; decide), _, _, rfl, rfl, rfl, rfl, ob, .ref am, MT.mk 1 N 0 gs cw ms, N, fu, xs7, bs, 3, congrArg (fun z => [V.ref am, V.ref ob, V.int z]) efu, dM, sq eob8, dbad8, dp, fun H9 v s89 out => ?_⟩
  dsimp only [gName]
  have s79 := s78.trans s89
  refine ⟨_, rfl, _, rfl, N, oa, xs, ms, rfl, sq (s79 _ _ eo7), dpAll_mono s79 dmv7, one, hN.2, by omega, fun H10 ra as R s90 nra era nas T hR => ?_⟩
  dsimp only [gName]
  have s80 := s89.trans s90
  have dbad10 := dpAll_mono s80 dbad8
  have eob10 := s80 _ _ eob8
  have eG10 := (s79.trans s90) _ _ eG7
  refine ⟨_, rfl, ob, rfl, ⟨_, sq eob10⟩, for_list (xs := xs7) (fun i σ' H' => ∃ (o : Option Nat) (y19 y20 : Option V), σ' = [some (.ref a), some (.ref pf), some (nV N), some (.ref oa), y4, y5, y6, some (.ref D), some (nV cw), some (.ref pd), some (.ref ob), some (nV t), y12, y13, y14, some (.ref am), some v, some (.ref ra), some (onV o), y19, y20] ∧ Same H10 H' ∧ DueS ms cw (fnX gs) bs i o) ⟨none, none, none, rfl, fun _ _ h => h, fun b hb => nomatch hb⟩ ?_ ?_ ?_⟩
  · rintro i σ' H' _ ⟨o, y19, y20, rfl, sm, _⟩
    exact sq (sm _ _ eob10)
  · rintro i u σ' H' hu ⟨o, y19, y20, rfl, smi, du⟩
    obtain ⟨b, hb⟩ : ∃ b, bs[i]? = some b := ⟨_, List.getElem?_eq_getElem (by have := dpa_map_len dbad10; have := (List.getElem?_eq_some_iff.mp hu).1; omega)⟩
    obtain ⟨u', hu', dub⟩ := dpa_at' dbad10 (show (bs.map sD)[i]? = some (sD b) by rw [List.getElem?_map, hb]; rfl)
    obtain rfl := Option.some.inj (hu.symm.trans hu')
    obtain ⟨ta, ca, rfl, hta, hca⟩ := dp_sit (dp_mono smi dub)
    obtain ⟨b1, b2, b3, b4⟩ := bd.b b (List.mem_of_getElem? hb)
    dsimp only [gName]
    refine ⟨_, rfl, _, rfl, _, _, _, _, rfl, rfl, hta, atI_nat (j := 1) rfl, _, rfl, _, rfl, ra, ca, D, as, N, cw, R, b.2, gs, rfl, smi.seq (sq era), T.same smi, hca, b2, b3, b4, sq (smi _ _ eG10), gl, hN.2, hcw, fun H11 on s11 lu => ?_⟩
    have cn := need_cn hR hcw gl lu
    have smi' := smi.trans s11
    dsimp only [gName]
    cases on with
    | none => exact ⟨_, rfl, rfl, _, rfl, iteFx rfl (iteFx rfl ⟨o, _, _, rfl, smi', du.skip hb cn⟩)⟩
    | some n =>
      refine ⟨_, rfl, rfl, _, rfl, iteTx rfl ?_⟩
      cases o with
      | none => exact ⟨_, rfl, rfl, _, rfl, iteTx rfl (iteTx rfl ⟨_, rfl, some n, _, _, rfl, smi', du.first hb cn⟩)⟩
      | some k =>
        refine ⟨_, rfl, rfl, _, rfl, iteFx rfl ⟨_, rfl, _, rfl, _, _, rfl, rfl, _, rfl, ?_⟩⟩
        by_cases l : n < k
        · exact iteTx (decide_eq_true (by omega)) ⟨_, rfl, some n, _, _, rfl, smi', du.less hb cn l⟩
        · exact iteFx (decide_eq_false (by omega)) ⟨some k, _, _, rfl, smi', du.keep hb cn l⟩
  rintro σ' H11 ⟨o, y19, y20, rfl, s11, du⟩
  have bxl : xs7.length = bs.length := dpa_map_len dbad10
  have s911 := s90.trans s11
  have du : DueS ms cw (fnX gs) bs bs.length o := bxl ▸ du
  cases out with
  | unknown nr er u => exact (one.no_unk bd hN.2 hfu.1 u).elim
  | @never r b bxs L t nr er nb eb fL tf lay stb mv lt sm' due =>
    have no := sm.none lay stb due
    have er11 := s911 _ _ er
    cases o with
    | some n =>
      obtain ⟨⟨b0, hb0, hn⟩, _⟩ := du
      exact absurd hn (no b0 hb0 n)
    | none =>
      refine ⟨_, rfl, rfl, _, rfl, iteTx rfl ?_⟩
      refine ⟨_, rfl, _, _, _, _, rfl, rfl, st er11, atI_nat (j := 0) rfl, rfl, ?_⟩
      refine ⟨_, rfl, iteTx (decide_eq_true rfl) ⟨_, rfl, r, _, rfl, .inr (.inl (.inl er11)), rfl, ?_⟩⟩
      show Q (V.bl (decide (V.int 2 = V.int 2))) H11
      rw [decide_eq_true rfl]
      exact q H11
  | @possible r b p bxs L t d c run nr er nb eb fL np ep tf lay stb mv lt sm' due c0 dt up low best =>
    obtain ⟨n, rfl, ⟨b0, hb0, hn⟩, low'⟩ := sm.some lay stb due
    have er11 := s911 _ _ er
    cases o with
    | none => exact absurd hn (du b0 (by rw [List.take_length]; exact hb0) n)
    | some k =>
      obtain ⟨⟨b1, hb1, hk⟩, du2⟩ := du
      obtain rfl : k = n := Nat.le_antisymm (du2 b0 (by rw [List.take_length]; exact hb0) n hn) (low' b1 hb1 k hk)
      refine ⟨_, rfl, rfl, _, rfl, iteFx rfl ?_⟩
      refine ⟨_, rfl, _, _, _, _, rfl, rfl, st er11, atI_nat (j := 0) rfl, rfl, ?_⟩
      refine ⟨_, rfl, iteTx (decide_eq_true rfl) ⟨_, rfl, _, _, _, _, rfl, rfl, st er11, atI_nat (j := 1) rfl, _, rfl, rfl, ?_⟩⟩
      show Q (V.bl (decide (nV k = nV k))) H11
      rw [decide_eq_true rfl]
      exact q H11
end
theorem all_mk {l : PySem.W.OpenLaw} {w : World} {K : PySem.W.Frag} {h : Heap} {mg : Str → Option Value} {fa f1 f2 f3 f4 f5 f6 f7 f8 f9 f10 f11 f12 f13 f14 f15 f16 f17 f18 f19 f20 f21 f22 f23 f24 f25 f26 f27 f28 : Addr} (X : K.In h) (G : h.Ns mainGlobals mg) (hfa : mg "law" = some (.ref fa))
    {od1 an1 od2 an2 od3 an3 od4 an4 od5 an5 od6 an6 od7 an7 od8 an8 od9 an9 od10 an10 od11 an11 od12 an12 od13 an13 od14 an14 od15 an15 od16 an16 od17 an17 od18 an18 od19 an19 od20 an20 od21 an21 od22 an22 od23 an23 od24 an24 od25 an25 od26 an26 od27 an27 od28 an28 : Option Addr} {sl1 sl2 sl3 sl4 sl5 sl6 sl7 sl8 sl9 sl10 sl11 sl12 sl13 sl14 sl15 sl16 sl17 sl18 sl19 sl20 sl21 sl22 sl23 sl24 sl25 sl26 sl27 sl28 : Array (Option Value)} {oc1 kV1 dc1 pm1 cd1 ct1 oc2 kV2 dc2 pm2 cd2 ct2 oc3 kV3 dc3 pm3 cd3 ct3 oc4 kV4 dc4 pm4 cd4 ct4 oc5 kV5 dc5 pm5 cd5 ct5 oc6 kV6 dc6 pm6 cd6 ct6 oc7 kV7 dc7 pm7 cd7 ct7 oc8 kV8 dc8 pm8 cd8 ct8 oc9 kV9 dc9 pm9 cd9 ct9 oc10 kV10 dc10 pm10 cd10 ct10 oc11 kV11 dc11 pm11 cd11 ct11 oc12 kV12 dc12 pm12 cd12 ct12 oc13 kV13 dc13 pm13 cd13 ct13 oc14 kV14 dc14 pm14 cd14 ct14 oc15 kV15 dc15 pm15 cd15 ct15 oc16 kV16 dc16 pm16 cd16 ct16 oc17 kV17 dc17 pm17 cd17 ct17 oc18 kV18 dc18 pm18 cd18 ct18 oc19 kV19 dc19 pm19 cd19 ct19 oc20 kV20 dc20 pm20 cd20 ct20 oc21 kV21 dc21 pm21 cd21 ct21 oc22 kV22 dc22 pm22 cd22 ct22 oc23 kV23 dc23 pm23 cd23 ct23 oc24 kV24 dc24 pm24 cd24 ct24 oc25 kV25 dc25 pm25 cd25 ct25 oc26 kV26 dc26 pm26 cd26 ct26 oc27 kV27 dc27 pm27 cd27 ct27 oc28 kV28 dc28 pm28 cd28 ct28 : Value}
    (a1 : PySem.W.nsIn K mainGlobals "packed" = some (some (.ref f1))) (l1 : K.lookup f1 = some ⟨oc1, od1, .func (PySem.W.fnOf "packed" "packed" (defArgs s_packed) (defBody s_packed) (defScope s_packed) .none kV1 dc1 pm1 an1 cd1 ct1), sl1⟩) (c1 : PySem.W.codeIn K cd1 "packed" = true) (k1 : PySem.W.keepIn K (.ref f1) = true)
    (a2 : PySem.W.nsIn K mainGlobals "unpacked" = some (some (.ref f2))) (l2 : K.lookup f2 = some ⟨oc2, od2, .func (PySem.W.fnOf "unpacked" "unpacked" (defArgs s_unpacked) (defBody s_unpacked) (defScope s_unpacked) .none kV2 dc2 pm2 an2 cd2 ct2), sl2⟩) (c2 : PySem.W.codeIn K cd2 "unpacked" = true) (k2 : PySem.W.keepIn K (.ref f2) = true)
    (a3 : PySem.W.nsIn K mainGlobals "meets" = some (some (.ref f3))) (l3 : K.lookup f3 = some ⟨oc3, od3, .func (PySem.W.fnOf "meets" "meets" (defArgs s_meets) (defBody s_meets) (defScope s_meets) .none kV3 dc3 pm3 an3 cd3 ct3), sl3⟩) (c3 : PySem.W.codeIn K cd3 "meets" = true) (k3 : PySem.W.keepIn K (.ref f3) = true)
    (a4 : PySem.W.nsIn K mainGlobals "some_least_ones" = some (some (.ref f4))) (l4 : K.lookup f4 = some ⟨oc4, od4, .func (PySem.W.fnOf "some_least_ones" "some_least_ones" (defArgs s_some_least_ones) (defBody s_some_least_ones) (defScope s_some_least_ones) .none kV4 dc4 pm4 an4 cd4 ct4), sl4⟩) (c4 : PySem.W.codeIn K cd4 "some_least_ones" = true) (k4 : PySem.W.keepIn K (.ref f4) = true)
    (a5 : PySem.W.nsIn K mainGlobals "with_added" = some (some (.ref f5))) (l5 : K.lookup f5 = some ⟨oc5, od5, .func (PySem.W.fnOf "with_added" "with_added" (defArgs s_with_added) (defBody s_with_added) (defScope s_with_added) .none kV5 dc5 pm5 an5 cd5 ct5), sl5⟩) (c5 : PySem.W.codeIn K cd5 "with_added" = true) (k5 : PySem.W.keepIn K (.ref f5) = true)
    (a6 : PySem.W.nsIn K mainGlobals "needed" = some (some (.ref f6))) (l6 : K.lookup f6 = some ⟨oc6, od6, .func (PySem.W.fnOf "needed" "needed" (defArgs s_needed) (defBody s_needed) (defScope s_needed) .none kV6 dc6 pm6 an6 cd6 ct6), sl6⟩) (c6 : PySem.W.codeIn K cd6 "needed" = true) (k6 : PySem.W.keepIn K (.ref f6) = true)
    (a7 : PySem.W.nsIn K mainGlobals "taken_apart" = some (some (.ref f7))) (l7 : K.lookup f7 = some ⟨oc7, od7, .func (PySem.W.fnOf "taken_apart" "taken_apart" (defArgs s_taken_apart) (defBody s_taken_apart) (defScope s_taken_apart) .none kV7 dc7 pm7 an7 cd7 ct7), sl7⟩) (c7 : PySem.W.codeIn K cd7 "taken_apart" = true) (k7 : PySem.W.keepIn K (.ref f7) = true)
    (a8 : PySem.W.nsIn K mainGlobals "moves_by_target" = some (some (.ref f8))) (l8 : K.lookup f8 = some ⟨oc8, od8, .func (PySem.W.fnOf "moves_by_target" "moves_by_target" (defArgs s_moves_by_target) (defBody s_moves_by_target) (defScope s_moves_by_target) .none kV8 dc8 pm8 an8 cd8 ct8), sl8⟩) (c8 : PySem.W.codeIn K cd8 "moves_by_target" = true) (k8 : PySem.W.keepIn K (.ref f8) = true)
    (a9 : PySem.W.nsIn K mainGlobals "tasks_by_threads" = some (some (.ref f9))) (l9 : K.lookup f9 = some ⟨oc9, od9, .func (PySem.W.fnOf "tasks_by_threads" "tasks_by_threads" (defArgs s_tasks_by_threads) (defBody s_tasks_by_threads) (defScope s_tasks_by_threads) .none kV9 dc9 pm9 an9 cd9 ct9), sl9⟩) (c9 : PySem.W.codeIn K cd9 "tasks_by_threads" = true) (k9 : PySem.W.keepIn K (.ref f9) = true)
    (a10 : PySem.W.nsIn K mainGlobals "fresh_ones" = some (some (.ref f10))) (l10 : K.lookup f10 = some ⟨oc10, od10, .func (PySem.W.fnOf "fresh_ones" "fresh_ones" (defArgs s_fresh_ones) (defBody s_fresh_ones) (defScope s_fresh_ones) .none kV10 dc10 pm10 an10 cd10 ct10), sl10⟩) (c10 : PySem.W.codeIn K cd10 "fresh_ones" = true) (k10 : PySem.W.keepIn K (.ref f10) = true)
    (a11 : PySem.W.nsIn K mainGlobals "not_above" = some (some (.ref f11))) (l11 : K.lookup f11 = some ⟨oc11, od11, .func (PySem.W.fnOf "not_above" "not_above" (defArgs s_not_above) (defBody s_not_above) (defScope s_not_above) .none kV11 dc11 pm11 an11 cd11 ct11), sl11⟩) (c11 : PySem.W.codeIn K cd11 "not_above" = true) (k11 : PySem.W.keepIn K (.ref f11) = true)
    (a12 : PySem.W.nsIn K mainGlobals "searched" = some (some (.ref f12))) (l12 : K.lookup f12 = some ⟨oc12, od12, .func (PySem.W.fnOf "searched" "searched" (defArgs s_searched) (defBody s_searched) (defScope s_searched) .none kV12 dc12 pm12 an12 cd12 ct12), sl12⟩) (c12 : PySem.W.codeIn K cd12 "searched" = true) (k12 : PySem.W.keepIn K (.ref f12) = true)
    (a13 : PySem.W.nsIn K mainGlobals "start_with" = some (some (.ref f13))) (l13 : K.lookup f13 = some ⟨oc13, od13, .func (PySem.W.fnOf "start_with" "start_with" (defArgs s_start_with) (defBody s_start_with) (defScope s_start_with) .none kV13 dc13 pm13 an13 cd13 ct13), sl13⟩) (c13 : PySem.W.codeIn K cd13 "start_with" = true) (k13 : PySem.W.keepIn K (.ref f13) = true)
    (a14 : PySem.W.nsIn K mainGlobals "move_at" = some (some (.ref f14))) (l14 : K.lookup f14 = some ⟨oc14, od14, .func (PySem.W.fnOf "move_at" "move_at" (defArgs s_move_at) (defBody s_move_at) (defScope s_move_at) .none kV14 dc14 pm14 an14 cd14 ct14), sl14⟩) (c14 : PySem.W.codeIn K cd14 "move_at" = true) (k14 : PySem.W.keepIn K (.ref f14) = true)
    (a15 : PySem.W.nsIn K mainGlobals "can_take" = some (some (.ref f15))) (l15 : K.lookup f15 = some ⟨oc15, od15, .func (PySem.W.fnOf "can_take" "can_take" (defArgs s_can_take) (defBody s_can_take) (defScope s_can_take) .none kV15 dc15 pm15 an15 cd15 ct15), sl15⟩) (c15 : PySem.W.codeIn K cd15 "can_take" = true) (k15 : PySem.W.keepIn K (.ref f15) = true)
    (a16 : PySem.W.nsIn K mainGlobals "after" = some (some (.ref f16))) (l16 : K.lookup f16 = some ⟨oc16, od16, .func (PySem.W.fnOf "after" "after" (defArgs s_after) (defBody s_after) (defScope s_after) .none kV16 dc16 pm16 an16 cd16 ct16), sl16⟩) (c16 : PySem.W.codeIn K cd16 "after" = true) (k16 : PySem.W.keepIn K (.ref f16) = true)
    (a17 : PySem.W.nsIn K mainGlobals "possible_moves" = some (some (.ref f17))) (l17 : K.lookup f17 = some ⟨oc17, od17, .func (PySem.W.fnOf "possible_moves" "possible_moves" (defArgs s_possible_moves) (defBody s_possible_moves) (defScope s_possible_moves) .none kV17 dc17 pm17 an17 cd17 ct17), sl17⟩) (c17 : PySem.W.codeIn K cd17 "possible_moves" = true) (k17 : PySem.W.keepIn K (.ref f17) = true)
    (a18 : PySem.W.nsIn K mainGlobals "crew_for" = some (some (.ref f18))) (l18 : K.lookup f18 = some ⟨oc18, od18, .func (PySem.W.fnOf "crew_for" "crew_for" (defArgs s_crew_for) (defBody s_crew_for) (defScope s_crew_for) .none kV18 dc18 pm18 an18 cd18 ct18), sl18⟩) (c18 : PySem.W.codeIn K cd18 "crew_for" = true) (k18 : PySem.W.keepIn K (.ref f18) = true)
    (a19 : PySem.W.nsIn K mainGlobals "least_crew" = some (some (.ref f19))) (l19 : K.lookup f19 = some ⟨oc19, od19, .func (PySem.W.fnOf "least_crew" "least_crew" (defArgs s_least_crew) (defBody s_least_crew) (defScope s_least_crew) .none kV19 dc19 pm19 an19 cd19 ct19), sl19⟩) (c19 : PySem.W.codeIn K cd19 "least_crew" = true) (k19 : PySem.W.keepIn K (.ref f19) = true)
    (a20 : PySem.W.nsIn K mainGlobals "first_move_above" = some (some (.ref f20))) (l20 : K.lookup f20 = some ⟨oc20, od20, .func (PySem.W.fnOf "first_move_above" "first_move_above" (defArgs s_first_move_above) (defBody s_first_move_above) (defScope s_first_move_above) .none kV20 dc20 pm20 an20 cd20 ct20), sl20⟩) (c20 : PySem.W.codeIn K cd20 "first_move_above" = true) (k20 : PySem.W.keepIn K (.ref f20) = true)
    (a21 : PySem.W.nsIn K mainGlobals "run_down" = some (some (.ref f21))) (l21 : K.lookup f21 = some ⟨oc21, od21, .func (PySem.W.fnOf "run_down" "run_down" (defArgs s_run_down) (defBody s_run_down) (defScope s_run_down) .none kV21 dc21 pm21 an21 cd21 ct21), sl21⟩) (c21 : PySem.W.codeIn K cd21 "run_down" = true) (k21 : PySem.W.keepIn K (.ref f21) = true)
    (a22 : PySem.W.nsIn K mainGlobals "decide" = some (some (.ref f22))) (l22 : K.lookup f22 = some ⟨oc22, od22, .func (PySem.W.fnOf "decide" "decide" (defArgs s_decide) (defBody s_decide) (defScope s_decide) .none kV22 dc22 pm22 an22 cd22 ct22), sl22⟩) (c22 : PySem.W.codeIn K cd22 "decide" = true) (k22 : PySem.W.keepIn K (.ref f22) = true)
    (a23 : PySem.W.nsIn K mainGlobals "_law_cell" = some (some (.ref f23))) (l23 : K.lookup f23 = some ⟨oc23, od23, .func (PySem.W.fnOf "_law_cell" "_law_cell" (defArgs s_law_cell) (defBody s_law_cell) (defScope s_law_cell) .none kV23 dc23 pm23 an23 cd23 ct23), sl23⟩) (c23 : PySem.W.codeIn K cd23 "_law_cell" = true) (k23 : PySem.W.keepIn K (.ref f23) = true)
    (a24 : PySem.W.nsIn K mainGlobals "_law_digits" = some (some (.ref f24))) (l24 : K.lookup f24 = some ⟨oc24, od24, .func (PySem.W.fnOf "_law_digits" "_law_digits" (defArgs s_law_digits) (defBody s_law_digits) (defScope s_law_digits) .none kV24 dc24 pm24 an24 cd24 ct24), sl24⟩) (c24 : PySem.W.codeIn K cd24 "_law_digits" = true) (k24 : PySem.W.keepIn K (.ref f24) = true)
    (a25 : PySem.W.nsIn K mainGlobals "_law_reach" = some (some (.ref f25))) (l25 : K.lookup f25 = some ⟨oc25, od25, .func (PySem.W.fnOf "_law_reach" "_law_reach" (defArgs s_law_reach) (defBody s_law_reach) (defScope s_law_reach) .none kV25 dc25 pm25 an25 cd25 ct25), sl25⟩) (c25 : PySem.W.codeIn K cd25 "_law_reach" = true) (k25 : PySem.W.keepIn K (.ref f25) = true)
    (a26 : PySem.W.nsIn K mainGlobals "_law_matched" = some (some (.ref f26))) (l26 : K.lookup f26 = some ⟨oc26, od26, .func (PySem.W.fnOf "_law_matched" "_law_matched" (defArgs s_law_matched) (defBody s_law_matched) (defScope s_law_matched) .none kV26 dc26 pm26 an26 cd26 ct26), sl26⟩) (c26 : PySem.W.codeIn K cd26 "_law_matched" = true) (k26 : PySem.W.keepIn K (.ref f26) = true)
    (a27 : PySem.W.nsIn K mainGlobals "_law_need" = some (some (.ref f27))) (l27 : K.lookup f27 = some ⟨oc27, od27, .func (PySem.W.fnOf "_law_need" "_law_need" (defArgs s_law_need) (defBody s_law_need) (defScope s_law_need) .none kV27 dc27 pm27 an27 cd27 ct27), sl27⟩) (c27 : PySem.W.codeIn K cd27 "_law_need" = true) (k27 : PySem.W.keepIn K (.ref f27) = true)
    (a28 : PySem.W.nsIn K mainGlobals "law" = some (some (.ref f28))) (l28 : K.lookup f28 = some ⟨oc28, od28, .func (PySem.W.fnOf "law" "law" (defArgs s_law) (defBody s_law) (defScope s_law) .none kV28 dc28 pm28 an28 cd28 ct28), sl28⟩) (c28 : PySem.W.codeIn K cd28 "law" = true) (k28 : PySem.W.keepIn K (.ref f28) = true)
    {ct_MOST_ELEMENTS : _} (ck_MOST_ELEMENTS : PySem.W.nsIn K mainGlobals "MOST_ELEMENTS" = some (some (.int 2000 ct_MOST_ELEMENTS)))
    {Q0 Q1 Q2 m0 m1 m2 m3 m4 m5 m6 m7 m8 m9 m10 : Addr} {odm0 anm0 odm1 anm1 odm2 anm2 odm3 anm3 odm4 anm4 odm5 anm5 odm6 anm6 odm7 anm7 odm8 anm8 odm9 anm9 odm10 anm10 : Option Addr} {slm0 slm1 slm2 slm3 slm4 slm5 slm6 slm7 slm8 slm9 slm10 : Array (Option Value)} {ocm0 kVm0 dcm0 pmm0 cdm0 ctm0 ocm1 kVm1 dcm1 pmm1 cdm1 ctm1 ocm2 kVm2 dcm2 pmm2 cdm2 ctm2 ocm3 kVm3 dcm3 pmm3 cdm3 ctm3 ocm4 kVm4 dcm4 pmm4 cdm4 ctm4 ocm5 kVm5 dcm5 pmm5 cdm5 ctm5 ocm6 kVm6 dcm6 pmm6 cdm6 ctm6 ocm7 kVm7 dcm7 pmm7 cdm7 ctm7 ocm8 kVm8 dcm8 pmm8 cdm8 ctm8 ocm9 kVm9 dcm9 pmm9 cdm9 ctm9 ocm10 kVm10 dcm10 pmm10 cdm10 ctm10 : Value}
    (qg0 : PySem.W.nsIn K mainGlobals "Floor" = some (some (.ref Q0))) (qp0 : PySem.W.plainGet K Q0 Str.empty = true) (qh0 : PySem.W.hasDictIn K Q0 = true) (qo0 : PySem.W.plainOver K Q0 = true) (qs0 : PySem.W.findIn K (.ref Q0) "__setattr__" = some (some (.builtin "object.__setattr__"))) (qm0 : PySem.W.makesIn K Q0 = true) (qk0 : PySem.W.keepIn K (.ref Q0) = true)
    (qa0_trees : PySem.W.findIn K (.ref Q0) "trees" = some none)
    (qg1 : PySem.W.nsIn K mainGlobals "Gatherer" = some (some (.ref Q1))) (qp1 : PySem.W.plainGet K Q1 Str.empty = true) (qh1 : PySem.W.hasDictIn K Q1 = true) (qo1 : PySem.W.plainOver K Q1 = true) (qs1 : PySem.W.findIn K (.ref Q1) "__setattr__" = some (some (.builtin "object.__setattr__"))) (qm1 : PySem.W.makesIn K Q1 = true) (qk1 : PySem.W.keepIn K (.ref Q1) = true)
    (qa1_floor : PySem.W.findIn K (.ref Q1) "floor" = some none) (qa1_most : PySem.W.findIn K (.ref Q1) "most" = some none) (qa1_found : PySem.W.findIn K (.ref Q1) "found" = some none) (qa1_batch : PySem.W.findIn K (.ref Q1) "batch" = some none)
    (qg2 : PySem.W.nsIn K mainGlobals "Search" = some (some (.ref Q2))) (qp2 : PySem.W.plainGet K Q2 Str.empty = true) (qh2 : PySem.W.hasDictIn K Q2 = true) (qo2 : PySem.W.plainOver K Q2 = true) (qs2 : PySem.W.findIn K (.ref Q2) "__setattr__" = some (some (.builtin "object.__setattr__"))) (qm2 : PySem.W.makesIn K Q2 = true) (qk2 : PySem.W.keepIn K (.ref Q2) = true)
    (qa2_places : PySem.W.findIn K (.ref Q2) "places" = some none) (qa2_moves : PySem.W.findIn K (.ref Q2) "moves" = some none) (qa2_layer : PySem.W.findIn K (.ref Q2) "layer" = some none) (qa2_fresh : PySem.W.findIn K (.ref Q2) "fresh" = some none) (qa2_floor : PySem.W.findIn K (.ref Q2) "floor" = some none)
    (fim0 : PySem.W.findIn K (.ref Q0) "__init__" = some (some (.ref m0))) (ism0 : PySem.W.isFn K (.ref m0) = true) (lom0 : K.lookup m0 = some ⟨ocm0, odm0, .func (PySem.W.fnOf "__init__" "Floor.__init__" (defArgs s_Floor_init) (defBody s_Floor_init) (defScope s_Floor_init) .none kVm0 dcm0 pmm0 anm0 cdm0 ctm0), slm0⟩) (com0 : PySem.W.codeIn K cdm0 "Floor.__init__" = true) (kem0 : PySem.W.keepIn K (.ref m0) = true)
    (fim1 : PySem.W.findIn K (.ref Q0) "keep" = some (some (.ref m1))) (ism1 : PySem.W.isFn K (.ref m1) = true) (lom1 : K.lookup m1 = some ⟨ocm1, odm1, .func (PySem.W.fnOf "keep" "Floor.keep" (defArgs s_Floor_keep) (defBody s_Floor_keep) (defScope s_Floor_keep) .none kVm1 dcm1 pmm1 anm1 cdm1 ctm1), slm1⟩) (com1 : PySem.W.codeIn K cdm1 "Floor.keep" = true) (kem1 : PySem.W.keepIn K (.ref m1) = true)
    (fim2 : PySem.W.findIn K (.ref Q0) "is_under" = some (some (.ref m2))) (ism2 : PySem.W.isFn K (.ref m2) = true) (lom2 : K.lookup m2 = some ⟨ocm2, odm2, .func (PySem.W.fnOf "is_under" "Floor.is_under" (defArgs s_Floor_is_under) (defBody s_Floor_is_under) (defScope s_Floor_is_under) .none kVm2 dcm2 pmm2 anm2 cdm2 ctm2), slm2⟩) (com2 : PySem.W.codeIn K cdm2 "Floor.is_under" = true) (kem2 : PySem.W.keepIn K (.ref m2) = true)
    (fim3 : PySem.W.findIn K (.ref Q1) "__init__" = some (some (.ref m3))) (ism3 : PySem.W.isFn K (.ref m3) = true) (lom3 : K.lookup m3 = some ⟨ocm3, odm3, .func (PySem.W.fnOf "__init__" "Gatherer.__init__" (defArgs s_Gatherer_init) (defBody s_Gatherer_init) (defScope s_Gatherer_init) .none kVm3 dcm3 pmm3 anm3 cdm3 ctm3), slm3⟩) (com3 : PySem.W.codeIn K cdm3 "Gatherer.__init__" = true) (kem3 : PySem.W.keepIn K (.ref m3) = true)
    (fim4 : PySem.W.findIn K (.ref Q1) "is_full" = some (some (.ref m4))) (ism4 : PySem.W.isFn K (.ref m4) = true) (lom4 : K.lookup m4 = some ⟨ocm4, odm4, .func (PySem.W.fnOf "is_full" "Gatherer.is_full" (defArgs s_Gatherer_is_full) (defBody s_Gatherer_is_full) (defScope s_Gatherer_is_full) .none kVm4 dcm4 pmm4 anm4 cdm4 ctm4), slm4⟩) (com4 : PySem.W.codeIn K cdm4 "Gatherer.is_full" = true) (kem4 : PySem.W.keepIn K (.ref m4) = true)
    (fim5 : PySem.W.findIn K (.ref Q1) "settle" = some (some (.ref m5))) (ism5 : PySem.W.isFn K (.ref m5) = true) (lom5 : K.lookup m5 = some ⟨ocm5, odm5, .func (PySem.W.fnOf "settle" "Gatherer.settle" (defArgs s_Gatherer_settle) (defBody s_Gatherer_settle) (defScope s_Gatherer_settle) .none kVm5 dcm5 pmm5 anm5 cdm5 ctm5), slm5⟩) (com5 : PySem.W.codeIn K cdm5 "Gatherer.settle" = true) (kem5 : PySem.W.keepIn K (.ref m5) = true)
    (fim6 : PySem.W.findIn K (.ref Q1) "gather" = some (some (.ref m6))) (ism6 : PySem.W.isFn K (.ref m6) = true) (lom6 : K.lookup m6 = some ⟨ocm6, odm6, .func (PySem.W.fnOf "gather" "Gatherer.gather" (defArgs s_Gatherer_gather) (defBody s_Gatherer_gather) (defScope s_Gatherer_gather) .none kVm6 dcm6 pmm6 anm6 cdm6 ctm6), slm6⟩) (com6 : PySem.W.codeIn K cdm6 "Gatherer.gather" = true) (kem6 : PySem.W.keepIn K (.ref m6) = true)
    (fim7 : PySem.W.findIn K (.ref Q1) "divide" = some (some (.ref m7))) (ism7 : PySem.W.isFn K (.ref m7) = true) (lom7 : K.lookup m7 = some ⟨ocm7, odm7, .func (PySem.W.fnOf "divide" "Gatherer.divide" (defArgs s_Gatherer_divide) (defBody s_Gatherer_divide) (defScope s_Gatherer_divide) .none kVm7 dcm7 pmm7 anm7 cdm7 ctm7), slm7⟩) (com7 : PySem.W.codeIn K cdm7 "Gatherer.divide" = true) (kem7 : PySem.W.keepIn K (.ref m7) = true)
    (fim8 : PySem.W.findIn K (.ref Q2) "__init__" = some (some (.ref m8))) (ism8 : PySem.W.isFn K (.ref m8) = true) (lom8 : K.lookup m8 = some ⟨ocm8, odm8, .func (PySem.W.fnOf "__init__" "Search.__init__" (defArgs s_Search_init) (defBody s_Search_init) (defScope s_Search_init) .none kVm8 dcm8 pmm8 anm8 cdm8 ctm8), slm8⟩) (com8 : PySem.W.codeIn K cdm8 "Search.__init__" = true) (kem8 : PySem.W.keepIn K (.ref m8) = true)
    (fim9 : PySem.W.findIn K (.ref Q2) "is_too_long" = some (some (.ref m9))) (ism9 : PySem.W.isFn K (.ref m9) = true) (lom9 : K.lookup m9 = some ⟨ocm9, odm9, .func (PySem.W.fnOf "is_too_long" "Search.is_too_long" (defArgs s_Search_is_too_long) (defBody s_Search_is_too_long) (defScope s_Search_is_too_long) .none kVm9 dcm9 pmm9 anm9 cdm9 ctm9), slm9⟩) (com9 : PySem.W.codeIn K cdm9 "Search.is_too_long" = true) (kem9 : PySem.W.keepIn K (.ref m9) = true)
    (fim10 : PySem.W.findIn K (.ref Q2) "advance" = some (some (.ref m10))) (ism10 : PySem.W.isFn K (.ref m10) = true) (lom10 : K.lookup m10 = some ⟨ocm10, odm10, .func (PySem.W.fnOf "advance" "Search.advance" (defArgs s_Search_advance) (defBody s_Search_advance) (defScope s_Search_advance) .none kVm10 dcm10 pmm10 anm10 cdm10 ctm10), slm10⟩) (com10 : PySem.W.codeIn K cdm10 "Search.advance" = true) (kem10 : PySem.W.keepIn K (.ref m10) = true)
    (z_len : PySem.W.nsIn K mainGlobals "len" = some none) (z_int : PySem.W.nsIn K mainGlobals "int" = some none) (z_abs : PySem.W.nsIn K mainGlobals "abs" = some none) (z_range : PySem.W.nsIn K mainGlobals "range" = some none) (z_min : PySem.W.nsIn K mainGlobals "min" = some none) (z_str : PySem.W.nsIn K mainGlobals "str" = some none) (z_isinstance : PySem.W.nsIn K mainGlobals "isinstance" = some none) (z_bool : PySem.W.nsIn K mainGlobals "bool" = some none) (z_dict : PySem.W.nsIn K mainGlobals "dict" = some none) (z_sum : PySem.W.nsIn K mainGlobals "sum" = some none) (z_list : PySem.W.nsIn K mainGlobals "list" = some none) (z_tuple : PySem.W.nsIn K mainGlobals "tuple" = some none) (z_repr : PySem.W.nsIn K mainGlobals "repr" = some none) (z_sorted : PySem.W.nsIn K mainGlobals "sorted" = some none) (z_enumerate : PySem.W.nsIn K mainGlobals "enumerate" = some none) (z_zip : PySem.W.nsIn K mainGlobals "zip" = some none) (z_all : PySem.W.nsIn K mainGlobals "all" = some none) (z_max : PySem.W.nsIn K mainGlobals "max" = some none) (z_set : PySem.W.nsIn K mainGlobals "set" = some none) (z_ValueError : PySem.W.nsIn K mainGlobals "ValueError" = some none) (z_any : PySem.W.nsIn K mainGlobals "any" = some none) (z_reversed : PySem.W.nsIn K mainGlobals "reversed" = some none) :
    ∀ base : Heap, K.In base → base.Ns mainGlobals mg → TopOk l.prog w K mg base fa (spLaw K) := by
  have e := hfa.symm.trans (PySem.W.mg_of X G a28)
  cases e
  have F1 := fun_mk (st := s_packed) l1 c1 k1
  have F2 := fun_mk (st := s_unpacked) l2 c2 k2
  have F3 := fun_mk (st := s_meets) l3 c3 k3
  have F4 := fun_mk (st := s_some_least_ones) l4 c4 k4
  have F5 := fun_mk (st := s_with_added) l5 c5 k5
  have F6 := fun_mk (st := s_needed) l6 c6 k6
  have F7 := fun_mk (st := s_taken_apart) l7 c7 k7
  have F8 := fun_mk (st := s_moves_by_target) l8 c8 k8
  have F9 := fun_mk (st := s_tasks_by_threads) l9 c9 k9
  have F10 := fun_mk (st := s_fresh_ones) l10 c10 k10
  have F11 := fun_mk (st := s_not_above) l11 c11 k11
  have F12 := fun_mk (st := s_searched) l12 c12 k12
  have F13 := fun_mk (st := s_start_with) l13 c13 k13
  have F14 := fun_mk (st := s_move_at) l14 c14 k14
  have F15 := fun_mk (st := s_can_take) l15 c15 k15
  have F16 := fun_mk (st := s_after) l16 c16 k16
  have F17 := fun_mk (st := s_possible_moves) l17 c17 k17
  have F18 := fun_mk (st := s_crew_for) l18 c18 k18
  have F19 := fun_mk (st := s_least_crew) l19 c19 k19
  have F20 := fun_mk (st := s_first_move_above) l20 c20 k20
  have F21 := fun_mk (st := s_run_down) l21 c21 k21
  have F22 := fun_mk (st := s_decide) l22 c22 k22
  have F23 := fun_mk (st := s_law_cell) l23 c23 k23
  have F24 := fun_mk (st := s_law_digits) l24 c24 k24
  have F25 := fun_mk (st := s_law_reach) l25 c25 k25
  have F26 := fun_mk (st := s_law_matched) l26 c26 k26
  have F27 := fun_mk (st := s_law_need) l27 c27 k27
  have F28 := fun_mk (st := s_law) l28 c28 k28
  have B : Bt mg := { len := PySem.W.mg_none_of X G z_len, int := PySem.W.mg_none_of X G z_int, abs := PySem.W.mg_none_of X G z_abs, range := PySem.W.mg_none_of X G z_range, min := PySem.W.mg_none_of X G z_min, str := PySem.W.mg_none_of X G z_str, isinstance := PySem.W.mg_none_of X G z_isinstance, bool := PySem.W.mg_none_of X G z_bool, dict := PySem.W.mg_none_of X G z_dict, sum := PySem.W.mg_none_of X G z_sum, list := PySem.W.mg_none_of X G z_list, tuple := PySem.W.mg_none_of X G z_tuple, repr := PySem.W.mg_none_of X G z_repr, sorted := PySem.W.mg_none_of X G z_sorted, enumerate := PySem.W.mg_none_of X G z_enumerate, zip := PySem.W.mg_none_of X G z_zip, all := PySem.W.mg_none_of X G z_all, max := PySem.W.mg_none_of X G z_max, set := PySem.W.mg_none_of X G z_set, ValueError := PySem.W.mg_none_of X G z_ValueError, any := PySem.W.mg_none_of X G z_any, reversed := PySem.W.mg_none_of X G z_reversed }
  have cM_MOST_ELEMENTS : Cst mg "MOST_ELEMENTS" (.int 2000) := ⟨_, PySem.W.mg_of X G ck_MOST_ELEMENTS, ⟨_, rfl⟩⟩
  have T0 : TxtF K mg Q0 := ⟨⟨qp0, qh0, qo0, qs0⟩, qa0_trees, PySem.W.mg_of X G qg0⟩
  have T1 : TxtG K mg Q1 := ⟨⟨qp1, qh1, qo1, qs1⟩, qa1_floor, qa1_most, qa1_found, qa1_batch, PySem.W.mg_of X G qg1⟩
  have T2 : TxtS K mg Q2 := ⟨⟨qp2, qh2, qo2, qs2⟩, qa2_places, qa2_moves, qa2_layer, qa2_fresh, qa2_floor, PySem.W.mg_of X G qg2⟩
  have F_m0 := fun_mk (st := s_Floor_init) lom0 com0 kem0
  have F_m1 := fun_mk (st := s_Floor_keep) lom1 com1 kem1
  have F_m2 := fun_mk (st := s_Floor_is_under) lom2 com2 kem2
  have F_m3 := fun_mk (st := s_Gatherer_init) lom3 com3 kem3
  have F_m4 := fun_mk (st := s_Gatherer_is_full) lom4 com4 kem4
  have F_m5 := fun_mk (st := s_Gatherer_settle) lom5 com5 kem5
  have F_m6 := fun_mk (st := s_Gatherer_gather) lom6 com6 kem6
  have F_m7 := fun_mk (st := s_Gatherer_divide) lom7 com7 kem7
  have F_m8 := fun_mk (st := s_Search_init) lom8 com8 kem8
  have F_m9 := fun_mk (st := s_Search_is_too_long) lom9 com9 kem9
  have F_m10 := fun_mk (st := s_Search_advance) lom10 com10 kem10
  intro base _ _
  have D_packed := fd_packedP (P := l.prog) (w := w) (mg := mg) (base := base) F1 (PySem.W.mg_of X G a1) B
  have D_packedW := fd_packedW D_packed
  have D_unpacked := fd_unpacked (P := l.prog) (w := w) (base := base) F2 (PySem.W.mg_of X G a2) B
  have D_meets := fd_meets (P := l.prog) (w := w) (base := base) F3 (PySem.W.mg_of X G a3) B 25
  have M_keep := md_keep (P := l.prog) (w := w) (mg := mg) (base := base) F_m1 T0 ⟨fim1, ism1, kem1⟩
  have M_is_under := md_is_under (P := l.prog) (w := w) (mg := mg) (base := base) (lv := 25) F_m2 T0 ⟨fim2, ism2, kem2⟩ D_meets
  have I_Floor := mkr_Floor (P := l.prog) (w := w) (mg := mg) (base := base) F_m0 T0 ⟨qm0, fim0, ism0, qk0⟩ M_keep
  have D_some_least_ones := fd_some_least_ones (P := l.prog) (w := w) (base := base) F4 (PySem.W.mg_of X G a4) B T0 (by decide) D_packedW I_Floor M_keep M_is_under
  have D_with_added := fd_with_added (P := l.prog) (w := w) (base := base) F5 (PySem.W.mg_of X G a5) B
  have D_needed := fd_needed (P := l.prog) (w := w) (base := base) F6 (PySem.W.mg_of X G a6) B D_with_added
  have D_taken_apart := fd_taken_apart (P := l.prog) (w := w) (base := base) F7 (PySem.W.mg_of X G a7) B
  have I_Gatherer := mkr_Gatherer (P := l.prog) (w := w) (mg := mg) (base := base) F_m3 T1 ⟨qm1, fim3, ism3, qk1⟩
  have M_is_full := md_is_full (P := l.prog) (w := w) (mg := mg) (base := base) (CF := Q0) F_m4 T1 ⟨fim4, ism4, kem4⟩ B
  have M_settle := md_settle (P := l.prog) (w := w) (mg := mg) (base := base) F_m5 T1 T0 ⟨fim5, ism5, kem5⟩ M_keep
  have M_divide := md_divide (P := l.prog) (w := w) (mg := mg) (base := base) (lv := 25) F_m7 T1 T0 ⟨fim7, ism7, kem7⟩ B M_is_full M_is_under D_with_added 25
  have M_gather := md_gather (P := l.prog) (w := w) (mg := mg) (base := base) (lv := 25) F_m6 T1 ⟨fim6, ism6, kem6⟩ B D_needed D_taken_apart D_with_added M_divide
  have D_moves_by_target := fd_moves_by_target (P := l.prog) (w := w) (base := base) F8 (PySem.W.mg_of X G a8) 
  have D_tasks_by_threads := fd_tasks_by_threads (P := l.prog) (w := w) (base := base) F9 (PySem.W.mg_of X G a9) B D_needed
  have D_fresh_ones := fd_fresh_ones (P := l.prog) (w := w) (base := base) F10 (PySem.W.mg_of X G a10) B T1 I_Gatherer M_gather M_settle D_tasks_by_threads
  have D_not_above := fd_not_above (P := l.prog) (w := w) (base := base) F11 (PySem.W.mg_of X G a11) B T0 I_Floor M_is_under D_packed
  have I_Search := mkr_Search (P := l.prog) (w := w) (mg := mg) (base := base) F_m8 T2 ⟨qm2, fim8, ism8, qk2⟩ T0 cM_MOST_ELEMENTS B I_Floor D_packed D_some_least_ones D_moves_by_target
  have M_is_too_long := md_is_too_long (P := l.prog) (w := w) (mg := mg) (base := base) (CF := Q0) F_m9 T2 ⟨fim9, ism9, kem9⟩ cM_MOST_ELEMENTS B
  have M_advance := md_advance (P := l.prog) (w := w) (mg := mg) (base := base) F_m10 T2 ⟨fim10, ism10, kem10⟩ T0 cM_MOST_ELEMENTS B I_Floor D_packed D_unpacked D_fresh_ones D_not_above
  have D_searched := fd_searched (P := l.prog) (w := w) (base := base) F12 (PySem.W.mg_of X G a12) B T2 I_Search M_is_too_long M_advance
  have D_start_with := fd_start_with (P := l.prog) (w := w) (base := base) F13 (PySem.W.mg_of X G a13) B
  have D_move_at := fd_move_at (P := l.prog) (w := w) (base := base) F14 (PySem.W.mg_of X G a14) B
  have D_can_take := fd_can_take (P := l.prog) (w := w) (base := base) F15 (PySem.W.mg_of X G a15) B
  have D_after := fd_after (P := l.prog) (w := w) (base := base) F16 (PySem.W.mg_of X G a16) B D_move_at D_can_take
  have D_possible_moves := fd_possible_moves (P := l.prog) (w := w) (base := base) F17 (PySem.W.mg_of X G a17) B D_can_take
  have D_crew_for := fd_crew_for (P := l.prog) (w := w) (base := base) F18 (PySem.W.mg_of X G a18) B
  have D_least_crew := fd_least_crew (P := l.prog) (w := w) (base := base) F19 (PySem.W.mg_of X G a19) B D_crew_for
  have D_first_move_above := fd_first_move_above (P := l.prog) (w := w) (base := base) F20 (PySem.W.mg_of X G a20) T0 M_is_under D_packed D_possible_moves D_after
  have D_run_down := fd_run_down (P := l.prog) (w := w) (base := base) F21 (PySem.W.mg_of X G a21) T0 I_Floor M_is_under D_packed D_first_move_above D_after
  have D_decide := fd_decide (P := l.prog) (w := w) (base := base) F22 (PySem.W.mg_of X G a22) B D_searched D_least_crew D_start_with D_run_down
  have D_law_cell := fd_law_cell (P := l.prog) (w := w) (base := base) F23 (PySem.W.mg_of X G a23) B
  have D_law_digits := fd_law_digits (P := l.prog) (w := w) (base := base) F24 (PySem.W.mg_of X G a24) B
  have D_law_reach := fd_law_reach (P := l.prog) (w := w) (base := base) F25 (PySem.W.mg_of X G a25) B
  have D_law_matched := fd_law_matched (P := l.prog) (w := w) (base := base) F26 (PySem.W.mg_of X G a26) B 4
  have D_law_need := fd_law_need (P := l.prog) (w := w) (base := base) F27 (PySem.W.mg_of X G a27) B D_law_matched
  exact fd_law F28 (PySem.W.mg_of X G a28) (fun s v => .of_eq rfl) B D_law_cell D_law_digits D_law_reach D_law_need D_decide
end My
open PySem PySem.W PyProof.Rows
set_option maxRecDepth 100000 in
set_option maxHeartbeats 0 in
theorem PySem.Challenge.cw_legion_k49_small_machines_are_decided_holds : PySem.Challenge.rw_legion_k49_small_machines_are_decided.Holds := by
  w_on; o_law; k_head; (case hw => w_witness2)
  k_fill
  refine My.walk_top (l := PySem.Challenge.rw_legion_k49_small_machines_are_decided) (n := 63) (sp := fun w => My.spLaw _) rfl (by decide) rfl (fun w h Y => PySem.W.kIn_of Y) ?F (fun _ _ a ns hl hS => ⟨a, ns, rfl, hS, hl, fun _ => rfl⟩)
  case F =>
    intro w mg fa h KX G hmg
    refine' My.all_mk KX G hmg ?a1 ?l1 ?c1 ?k1 ?a2 ?l2 ?c2 ?k2 ?a3 ?l3 ?c3 ?k3 ?a4 ?l4 ?c4 ?k4 ?a5 ?l5 ?c5 ?k5 ?a6 ?l6 ?c6 ?k6 ?a7 ?l7 ?c7 ?k7 ?a8 ?l8 ?c8 ?k8 ?a9 ?l9 ?c9 ?k9 ?a10 ?l10 ?c10 ?k10 ?a11 ?l11 ?c11 ?k11 ?a12 ?l12 ?c12 ?k12 ?a13 ?l13 ?c13 ?k13 ?a14 ?l14 ?c14 ?k14 ?a15 ?l15 ?c15 ?k15 ?a16 ?l16 ?c16 ?k16 ?a17 ?l17 ?c17 ?k17 ?a18 ?l18 ?c18 ?k18 ?a19 ?l19 ?c19 ?k19 ?a20 ?l20 ?c20 ?k20 ?a21 ?l21 ?c21 ?k21 ?a22 ?l22 ?c22 ?k22 ?a23 ?l23 ?c23 ?k23 ?a24 ?l24 ?c24 ?k24 ?a25 ?l25 ?c25 ?k25 ?a26 ?l26 ?c26 ?k26 ?a27 ?l27 ?c27 ?k27 ?a28 ?l28 ?c28 ?k28 ?ck_MOST_ELEMENTS ?qg0 ?qp0 ?qh0 ?qo0 ?qs0 ?qm0 ?qk0 ?qa0_trees ?qg1 ?qp1 ?qh1 ?qo1 ?qs1 ?qm1 ?qk1 ?qa1_floor ?qa1_most ?qa1_found ?qa1_batch ?qg2 ?qp2 ?qh2 ?qo2 ?qs2 ?qm2 ?qk2 ?qa2_places ?qa2_moves ?qa2_layer ?qa2_fresh ?qa2_floor ?fim0 ?ism0 ?lom0 ?com0 ?kem0 ?fim1 ?ism1 ?lom1 ?com1 ?kem1 ?fim2 ?ism2 ?lom2 ?com2 ?kem2 ?fim3 ?ism3 ?lom3 ?com3 ?kem3 ?fim4 ?ism4 ?lom4 ?com4 ?kem4 ?fim5 ?ism5 ?lom5 ?com5 ?kem5 ?fim6 ?ism6 ?lom6 ?com6 ?kem6 ?fim7 ?ism7 ?lom7 ?com7 ?kem7 ?fim8 ?ism8 ?lom8 ?com8 ?kem8 ?fim9 ?ism9 ?lom9 ?com9 ?kem9 ?fim10 ?ism10 ?lom10 ?com10 ?kem10 ?z_len ?z_int ?z_abs ?z_range ?z_min ?z_str ?z_isinstance ?z_bool ?z_dict ?z_sum ?z_list ?z_tuple ?z_repr ?z_sorted ?z_enumerate ?z_zip ?z_all ?z_max ?z_set ?z_ValueError ?z_any ?z_reversed
    (case ck_MOST_ELEMENTS => k_is)
    (case qg0 => k_is)
    (case qp0 => k_is)
    (case qh0 => k_is)
    (case qo0 => k_is)
    (case qs0 => k_is)
    (case qm0 => k_is)
    (case qk0 => k_is)
    (case qa0_trees => k_is)
    (case qg1 => k_is)
    (case qp1 => k_is)
    (case qh1 => k_is)
    (case qo1 => k_is)
    (case qs1 => k_is)
    (case qm1 => k_is)
    (case qk1 => k_is)
    (case qa1_floor => k_is)
    (case qa1_most => k_is)
    (case qa1_found => k_is)
    (case qa1_batch => k_is)
    (case qg2 => k_is)
    (case qp2 => k_is)
    (case qh2 => k_is)
    (case qo2 => k_is)
    (case qs2 => k_is)
    (case qm2 => k_is)
    (case qk2 => k_is)
    (case qa2_places => k_is)
    (case qa2_moves => k_is)
    (case qa2_layer => k_is)
    (case qa2_fresh => k_is)
    (case qa2_floor => k_is)
    (case fim0 => k_is)
    (case ism0 => k_is)
    (case lom0 => k_is)
    (case com0 => k_is)
    (case kem0 => k_is)
    (case fim1 => k_is)
    (case ism1 => k_is)
    (case lom1 => k_is)
    (case com1 => k_is)
    (case kem1 => k_is)
    (case fim2 => k_is)
    (case ism2 => k_is)
    (case lom2 => k_is)
    (case com2 => k_is)
    (case kem2 => k_is)
    (case fim3 => k_is)
    (case ism3 => k_is)
    (case lom3 => k_is)
    (case com3 => k_is)
    (case kem3 => k_is)
    (case fim4 => k_is)
    (case ism4 => k_is)
    (case lom4 => k_is)
    (case com4 => k_is)
    (case kem4 => k_is)
    (case fim5 => k_is)
    (case ism5 => k_is)
    (case lom5 => k_is)
    (case com5 => k_is)
    (case kem5 => k_is)
    (case fim6 => k_is)
    (case ism6 => k_is)
    (case lom6 => k_is)
    (case com6 => k_is)
    (case kem6 => k_is)
    (case fim7 => k_is)
    (case ism7 => k_is)
    (case lom7 => k_is)
    (case com7 => k_is)
    (case kem7 => k_is)
    (case fim8 => k_is)
    (case ism8 => k_is)
    (case lom8 => k_is)
    (case com8 => k_is)
    (case kem8 => k_is)
    (case fim9 => k_is)
    (case ism9 => k_is)
    (case lom9 => k_is)
    (case com9 => k_is)
    (case kem9 => k_is)
    (case fim10 => k_is)
    (case ism10 => k_is)
    (case lom10 => k_is)
    (case com10 => k_is)
    (case kem10 => k_is)
    (case a1 => k_is); (case l1 => k_is); (case c1 => k_is); (case k1 => k_is)
    (case a2 => k_is); (case l2 => k_is); (case c2 => k_is); (case k2 => k_is)
    (case a3 => k_is); (case l3 => k_is); (case c3 => k_is); (case k3 => k_is)
    (case a4 => k_is); (case l4 => k_is); (case c4 => k_is); (case k4 => k_is)
    (case a5 => k_is); (case l5 => k_is); (case c5 => k_is); (case k5 => k_is)
    (case a6 => k_is); (case l6 => k_is); (case c6 => k_is); (case k6 => k_is)
    (case a7 => k_is); (case l7 => k_is); (case c7 => k_is); (case k7 => k_is)
    (case a8 => k_is); (case l8 => k_is); (case c8 => k_is); (case k8 => k_is)
    (case a9 => k_is); (case l9 => k_is); (case c9 => k_is); (case k9 => k_is)
    (case a10 => k_is); (case l10 => k_is); (case c10 => k_is); (case k10 => k_is)
    (case a11 => k_is); (case l11 => k_is); (case c11 => k_is); (case k11 => k_is)
    (case a12 => k_is); (case l12 => k_is); (case c12 => k_is); (case k12 => k_is)
    (case a13 => k_is); (case l13 => k_is); (case c13 => k_is); (case k13 => k_is)
    (case a14 => k_is); (case l14 => k_is); (case c14 => k_is); (case k14 => k_is)
    (case a15 => k_is); (case l15 => k_is); (case c15 => k_is); (case k15 => k_is)
    (case a16 => k_is); (case l16 => k_is); (case c16 => k_is); (case k16 => k_is)
    (case a17 => k_is); (case l17 => k_is); (case c17 => k_is); (case k17 => k_is)
    (case a18 => k_is); (case l18 => k_is); (case c18 => k_is); (case k18 => k_is)
    (case a19 => k_is); (case l19 => k_is); (case c19 => k_is); (case k19 => k_is)
    (case a20 => k_is); (case l20 => k_is); (case c20 => k_is); (case k20 => k_is)
    (case a21 => k_is); (case l21 => k_is); (case c21 => k_is); (case k21 => k_is)
    (case a22 => k_is); (case l22 => k_is); (case c22 => k_is); (case k22 => k_is)
    (case a23 => k_is); (case l23 => k_is); (case c23 => k_is); (case k23 => k_is)
    (case a24 => k_is); (case l24 => k_is); (case c24 => k_is); (case k24 => k_is)
    (case a25 => k_is); (case l25 => k_is); (case c25 => k_is); (case k25 => k_is)
    (case a26 => k_is); (case l26 => k_is); (case c26 => k_is); (case k26 => k_is)
    (case a27 => k_is); (case l27 => k_is); (case c27 => k_is); (case k27 => k_is)
    (case a28 => k_is); (case l28 => k_is); (case c28 => k_is); (case k28 => k_is)
    (case z_len => k_is); (case z_int => k_is); (case z_abs => k_is); (case z_range => k_is); (case z_min => k_is); (case z_str => k_is); (case z_isinstance => k_is); (case z_bool => k_is); (case z_dict => k_is); (case z_sum => k_is); (case z_list => k_is); (case z_tuple => k_is); (case z_repr => k_is); (case z_sorted => k_is); (case z_enumerate => k_is); (case z_zip => k_is); (case z_all => k_is); (case z_max => k_is); (case z_set => k_is); (case z_ValueError => k_is); (case z_any => k_is); (case z_reversed => k_is)
