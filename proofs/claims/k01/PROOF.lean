import PyProof.Rows.All
import Wide.All
import OpenK.AllK
import Wide.FinOn
import PyProof.Rows.SeqMore
import HandS.ForMost
import HandS.Exc
import HandS.TryOnly
import HandS.ExcOwn
import HandS.WordsExc
import HandS.IsInst
import HandS.Wide
import HandS.TupAny
import HandS.Flow
import HandS.FStr
import HandS.NoneIn
import HandS.SortKw
import HandS.Codes
import HandS.Steps
import HandS.DictComp
import HandS.WordsDict
import HandS.More
import HandS.Walk
import HandS.Star
import HandS.Deep
import HandS.ExcIs
import HandS.Zip
import HandS.GenList
import HandS.GenCall
import HandS.TryMany
import KE.SortData
import PySem.Challenge.RW_legion_k01_values_and_conditions
set_option Elab.async false
set_option linter.all false
set_option maxRecDepth 100000
namespace My
open PySem PySem.Spec PyProof.Rows L2
/-! ### lists that are read only, joined -/
def rCatS (K : PySem.W.Frag) : R2 := fun x y H Q => ∃ l b xs zs, x = .ref l ∧ y = .ref b ∧ SqL K H l xs ∧ SqL K H b zs ∧ xs.length + zs.length ≤ sizeLine ∧ ∀ p, H p = none → Q (.ref p) (upd H p (.lst (xs ++ zs)))
theorem op_catS {X : Cx} : OpR X (binaryOp .Add) (rCatS X.K) := by
  intro pins s σ H x y v u Q I rx ry h
  obtain ⟨l, b, xs, zs, rfl, rfl, hH, hB, hz, q⟩ := h
  cases rx
  cases ry
  obtain ⟨its, r, pl, z⟩ := I.list hH
  obtain ⟨its2, r2, pl2, z2⟩ := I.list hB
  have hl := r.length
  have hl2 := r2.length
  obtain ⟨⟨cls, dd, data, sl⟩, ho, hc, n, hd⟩ := pl.isList
  obtain ⟨⟨cls2, dd2, data2, sl2⟩, ho2, hc2, n2, hd2⟩ := pl2.isList
  simp only at hc hd hc2 hd2
  subst hc hd hc2 hd2
  have ea : its.toArray ++ its2.toArray = (its ++ its2).toArray := by simp
  refine concat_meets ⟨_, ho, rfl⟩ ⟨_, ho2, rfl⟩ noFill_list_add seq_list_add PySem.F.slot_list_add PySem.F.entry_list_add (PySem.F.args_list_add_2 _ _) (list_addW l b its.toArray its2.toArray n n2 dd dd2 sl sl2 (by rw [List.size_toArray, List.size_toArray]; omega)) ⟨ho, ho2, ?_⟩
  rw [ea]
  exact ⟨.ref _, _, I.lnew (t' := s.toks) (r.append r2) (by rw [List.length_append]; omega), rfl, q _ I.fresh⟩
/-- is True, is False, of anything -/
def rIsBl : R2 := fun x y H Q => ∃ b, y = .bl b ∧ Q (.bl (decide (x = .bl b))) H
theorem op_isBv {X : Cx} : OpR X (compareOp .Is) rIsBl := by
  intro pins s σ H x y v u Q I rx ry h
  obtain ⟨b, rfl, q⟩ := h
  cases (show u = Value.bool b from ry)
  have go : ∀ v : Value, plainIs v (.bool b) = true → (v == Value.bool b) = decide (x = .bl b) → wpAny (model X.prog X.w) X.A (compareOp .Is v (.bool b)) (EP X pins σ Q) X.xe s := fun v hp e =>
    wpAny_is_plain hp (by rw [e]; exact ⟨.bl _, H, I, rfl, q⟩)
  cases x with
  | bl c =>
    cases (show v = Value.bool c from rx)
    refine go _ rfl ?_
    cases b <;> cases c <;> rfl
  | non => cases (show v = Value.none from rx); exact go _ rfl rfl
  | int i => obtain ⟨t, rfl⟩ := (show ∃ t, v = Value.int i t from rx); exact go _ rfl rfl
  | str i => obtain ⟨t, rfl⟩ := (show ∃ t, v = Value.str i t from rx); exact go _ rfl rfl
  | byt i => obtain ⟨t, rfl⟩ := (show ∃ t, v = Value.bytes i t from rx); exact go _ rfl rfl
  | flt i => obtain ⟨t, rfl⟩ := (show ∃ t, v = Value.float i t from rx); exact go _ rfl rfl
  | ref a => cases (show v = Value.ref a from rx); exact go _ rfl rfl
  | ty a => cases (show v = Value.type a from rx); exact go _ rfl rfl
/-! ### rules with the written part named -/
section
variable {X : Cx} (K : PySem.W.Frag)
theorem ixL (h : X.K = K := by rfl) : IxR X (rIxL K) := h ▸ ix_list
theorem ixT (h : X.K = K := by rfl) : IxR X (rIxT K) := h ▸ ix_tup
theorem ixQ (h : X.K = K := by rfl) : IxR X (rIx K) := h ▸ ix_seq
theorem opIn (h : X.K = K := by rfl) : OpR X (compareOp .In) (rIn K false) := h ▸ op_in_seq
theorem opNotIn (h : X.K = K := by rfl) : OpR X (compareOp .NotIn) (rIn K true) := h ▸ op_notIn_seq
theorem opCat (h : X.K = K := by rfl) : OpR X (binaryOp .Add) (rCatS K) := h ▸ op_catS
theorem opCatT (h : X.K = K := by rfl) : OpR X (binaryOp .Add) (rCatA K) := h ▸ op_catA
theorem opEqD (hu : X.A.units + 64 < cLine) (h : X.K = K := by rfl) : OpR X (compareOp .Eq) (rEqD K) := h ▸ op_eqD hu
theorem opNeD (hu : X.A.units + 64 < cLine) (h : X.K = K := by rfl) : OpR X (compareOp .NotEq) (rNeD K) := h ▸ op_neD hu
theorem slL (h : X.K = K := by rfl) : SlR X (rSlL K) := h ▸ sl_list
theorem slT (h : X.K = K := by rfl) : SlR X (rSlT K) := h ▸ sl_tup
def rLenQ (K : PySem.W.Frag) : List V → Hp → VK → Prop := fun xs H Q => ∃ p ys, xs = [.ref p] ∧ (SqL K H p ys ∨ SqT K H p ys) ∧ Q (.int ys.length) H
theorem cLen (h : X.K = K := by rfl) : CallR X (.builtin "len") (rLenQ K) := h ▸ call_len_seq
def rListQ (K : PySem.W.Frag) : List V → Hp → VK → Prop := fun xs H Q => ∃ p ys, xs = [.ref p] ∧ (SqL K H p ys ∨ SqT K H p ys) ∧ ∀ l, H l = none → Q (.ref l) (upd H l (.lst ys))
theorem cList (h : X.K = K := by rfl) : CallR X (.type "list") (rListQ K) := h ▸ call_list_of
theorem cSum (hc : X.calm = true) (h : X.K = K := by rfl) : CallR X (.builtin "sum") (rSum K) := h ▸ cr_sum hc
theorem cAll (hc : X.calm = true) (h : X.K = K := by rfl) : CallR X (.builtin "all") (rAll K) := h ▸ cr_all hc
theorem cAny (hc : X.calm = true) (h : X.K = K := by rfl) : CallR X (.builtin "any") (rAny K) := h ▸ cr_any hc
theorem cIsi (h : X.K = K := by rfl) : CallR X (.builtin "isinstance") (rIsi K) := h ▸ call_isi
theorem peBm {T name id : String} {r : V → List V → Hp → VK → Prop} {to : TE} {t : TA} {o e : Expr} {es : List Expr} {apos cpos : Pos} (pa : PlainAttrs T) (slot : Slot T name id) (hty : typeOf (.builtin id) = pure (.type "method_descriptor")) (hm : MtR X id r) (ho : PE X o to) (ha : PA X (e :: es) t) (h : X.K = K := by rfl)
    (hbase : attributeBase o name X.env (eval o X.env) = eval o X.env := by rfl)
    (hfew : ((backTo cpos (starEach (e :: es) X.env)).all (fun x => !x.1) && (backToKw cpos (keywordEach [] X.env)).all (fun x => x.1.isSome)
      && decide ((e :: es).length + ([] : List Keyword).length + (if ([] : List Keyword).isEmpty then 0 else 1) < 30)) = true := by rfl)
    (hline : (apos.endLine == cpos.line) = true := by rfl) (hs : starEach (e :: es) X.env = (false, eval e X.env) :: starEach es X.env := by rfl) (hplain : (backTo cpos (starEach es X.env)).any (·.1) = false := by rfl) :
    PE X (.Call (.Attribute o name apos) (e :: es) [] cpos) (tBM K T r to t) := h ▸ pe_bm pa slot hty hm ho ha hbase hfew hline hs hplain
def tTruK (K : PySem.W.Frag) (ta : TE) : TT := fun σ H Q => ta σ H fun x H' => ∃ k, TruV K x H' k ∧ Q k H'
theorem ptTru {a : Expr} {ta : TE} (ha : PE X a ta) (he : ∀ whole, isTrue a X.env whole = (do let v ← whole; standAt a.pos; holding [v] (truthy v))) (h : X.K = K := by rfl) : PT X a (tTruK K ta) := h ▸ pt_truth ha he
theorem piL {tg l : Expr} {tl : TE} (hl : PE X l tl) (h : X.K = K := by rfl) : PI X tg l (iList K tl) := h ▸ pi_list hl
theorem piT {tg l : Expr} {tl : TE} (hl : PE X l tl) (h : X.K = K := by rfl) : PI X tg l (iTup K tl) := h ▸ pi_tup hl
end
/-! ### a def that is known -/
structure Fd (P : Program) (w : World) (K : PySem.W.Frag) (mg : Str → Option Value) (base : Heap) (x : Str) (ps : List Str) (k : Nat) (sp : Sp) : Prop where
  ex : ∃ (f : Addr) (fd : FuncData), FnOk P w K mg base CX0 k f fd ps sp ∧ mg x = some (.ref f) ∧ PySem.W.keepIn K (.ref f) = true ∧ Binds K fd ps []
theorem pe_fn {X : Cx} {x : Str} {ps : List Str} {k : Nat} {sp : Sp} {e : Expr} {es : List Expr} {t : TA} {p pos : Pos} (F : Fd X.prog X.w X.K X.mg X.base x ps k sp) (hr : Room k X.A) (hg : Gl X x) (ha : PA X (e :: es) t)
    (hdb : (x == ("__debug__" : Str)) = false := by decide) (he : starEach (e :: es) X.env = (false, eval e X.env) :: starEach es X.env := by rfl) (hpl : (backTo pos (starEach es X.env)).any (·.1) = false := by rfl) :
    PE X (.Call (.Name x p) (e :: es) [] pos) (tCall sp [] E0 t) := by
  obtain ⟨f, fd, G, m, kp, b⟩ := F.ex
  exact pe_call G hr hg m kp b .nil pass0 ha hdb he hpl
/-- the built-ins stand as they were -/
structure Bt (mg : Str → Option Value) : Prop where
  len : mg "len" = none
  int : mg "int" = none
  abs : mg "abs" = none
  range : mg "range" = none
  min : mg "min" = none
  str : mg "str" = none
  isinstance : mg "isinstance" = none
  bool : mg "bool" = none
  sum : mg "sum" = none
  list : mg "list" = none
  tuple : mg "tuple" = none
  repr : mg "repr" = none
  sorted : mg "sorted" = none
  enumerate : mg "enumerate" = none
  zip : mg "zip" = none
  all : mg "all" = none
  dict : mg "dict" = none
  max : mg "max" = none
  set : mg "set" = none
  ValueError : mg "ValueError" = none
/-! ### heaps -/
theorem same_new {H : Hp} {p : Addr} {o : HO} (h : H p = none) : Same H (upd H p o) := fun b x e => by
  rw [upd_ne (ne_of_none e h)]
  exact e
/-- an object that H does not know may change -/
theorem Same.mut {H H' : Hp} {p : Addr} {o : HO} (e : Same H H') (h : H p = none) : Same H (upd H' p o) := fun a u ha => by
  rw [upd_ne (ne_of_none ha h)]
  exact e a u ha
theorem sq {K : PySem.W.Frag} {H : Hp} {a : Addr} {xs : List V} (h : H a = some (.lst xs)) : SqL K H a xs := .inl (.inl h)
theorem st {K : PySem.W.Frag} {H : Hp} {a : Addr} {xs : List V} (h : H a = some (.tup xs)) : SqT K H a xs := .inl (.inl h)
theorem sz {n : Nat} (h : n ≤ 100000) : n ≤ sizeLine := Nat.le_trans h (by decide)
theorem szl {n : Nat} (h : n < 100000) : n < sizeLine := Nat.lt_of_lt_of_le h (by decide)
theorem Same.seqT {K : PySem.W.Frag} {H H' : Hp} {a : Addr} {xs : List V} (e : Same H H') (h : SqT K H a xs) : SqT K H' a xs := by
  rcases h with (h | ⟨o, h⟩) | h
  · exact .inl (.inl (e _ _ h))
  · exact .inl (.inr ⟨o, e _ _ h⟩)
  · exact .inr h
/-! ### numbers drawn below limits -/
def DOk : List Int → List Int → Prop
  | [], [] => True
  | d :: ds, m :: ms => (0 ≤ d ∧ d < m) ∧ DOk ds ms
  | _, _ => False
theorem DOk.snoc : ∀ {ds ms : List Int} {d m : Int}, DOk ds ms → 0 ≤ d → d < m → DOk (ds ++ [d]) (ms ++ [m])
  | [], [], _, _, _, h0, h1 => ⟨⟨h0, h1⟩, trivial⟩
  | [], _ :: _, _, _, h, _, _ => h.elim
  | _ :: _, [], _, _, h, _, _ => h.elim
  | _ :: _, _ :: _, _, _, h, h0, h1 => ⟨h.1, DOk.snoc h.2 h0 h1⟩
theorem DOk.len : ∀ {ds ms : List Int}, DOk ds ms → ds.length = ms.length
  | [], [], _ => rfl
  | [], _ :: _, h => h.elim
  | _ :: _, [], h => h.elim
  | _ :: _, _ :: _, h => by rw [List.length_cons, List.length_cons, DOk.len h.2]
theorem DOk.at : ∀ {ds ms : List Int} {i : Nat} {m : Int}, DOk ds ms → ms[i]? = some m → ∃ d, ds[i]? = some d ∧ 0 ≤ d ∧ d < m
  | [], [], _, _, _, e => by simp at e
  | [], _ :: _, _, _, h, _ => h.elim
  | _ :: _, [], _, _, h, _ => h.elim
  | d :: _, _ :: _, 0, m, h, e => ⟨d, rfl, h.1.1, by have := Option.some.inj e; rw [← this]; exact h.1.2⟩
  | _ :: ds, _ :: ms, i + 1, m, h, e => DOk.at (ds := ds) (ms := ms) (i := i) h.2 e
theorem DOk.cons {ds ms : List Int} {m : Int} (h : DOk ds (m :: ms)) : ∃ d r, ds = d :: r ∧ 0 ≤ d ∧ d < m ∧ DOk r ms := by
  cases ds with
  | nil => exact h.elim
  | cons d r => exact ⟨d, r, rfl, h.1.1, h.1.2, h.2⟩
theorem DOk.nil {ds : List Int} (h : DOk ds []) : ds = [] := by
  cases ds with
  | nil => rfl
  | cons d r => exact h.elim
theorem get_map {α : Type} {f : α → V} {xs : List α} {i : Nat} {x : α} (h : xs[i]? = some x) : (xs.map f)[i]? = some (f x) := by
  rw [List.getElem?_map, h]; rfl
theorem get_map_inv {α : Type} {f : α → V} {xs : List α} {i : Nat} {v : V} (h : (xs.map f)[i]? = some v) : ∃ x, xs[i]? = some x ∧ v = f x := by
  rw [List.getElem?_map] at h
  cases e : xs[i]? with
  | none => rw [e] at h; cases h
  | some x => rw [e] at h; exact ⟨x, rfl, (Option.some.inj h).symm⟩
theorem fmod_pos {a m : Int} (h : 0 < m) : 0 ≤ a.fmod m ∧ a.fmod m < m := ⟨Int.fmod_nonneg_of_pos a h, Int.fmod_lt_of_pos a h⟩
theorem take_snoc {α : Type} {xs : List α} {i : Nat} {x : α} (h : xs[i]? = some x) : xs.take (i + 1) = xs.take i ++ [x] := by
  rw [List.take_add_one, h]; rfl
end My
namespace My
open PySem PySem.Spec PyProof.Rows L2
def topS (i : Nat) : Stmt := PySem.Challenge.pw_legion_k01_values_and_conditions.main.body.getD i (.Pass ⟨0, 0, 0, 0⟩)
theorem atI_in {α : Type} {xs : List α} {i : Int} (h0 : 0 ≤ i) (h1 : i < xs.length) : ∃ v, atI xs i = some v ∧ v ∈ xs := by
  obtain ⟨n, rfl⟩ := Int.eq_ofNat_of_zero_le h0
  have hn : n < xs.length := by omega
  exact ⟨xs[n], atI_nat (List.getElem?_eq_getElem hn), List.getElem_mem hn⟩
theorem atI_map {α : Type} {f : α → V} {xs : List α} {i : Int} (h0 : 0 ≤ i) (h1 : i < xs.length) : ∃ v, atI (xs.map f) i = some (f v) ∧ v ∈ xs ∧ xs[i.toNat]? = some v := by
  obtain ⟨n, rfl⟩ := Int.eq_ofNat_of_zero_le h0
  have hn : n < xs.length := by omega
  exact ⟨xs[n], atI_nat (get_map (List.getElem?_eq_getElem hn)), List.getElem_mem hn, List.getElem?_eq_getElem hn⟩
theorem len_app (a b : Str) : (a ++ b).length = a.length + b.length := by
  show (a.cps ++ b.cps).size = a.cps.size + b.cps.size
  exact Array.size_append
theorem len_join0 : ∀ (parts : List Str), (∀ p ∈ parts, p.length = 1) → (Txt.join (Str.ofString "") parts).length = parts.length := by
  intro parts h
  have e : ∀ parts : List Str, (∀ p ∈ parts, p.length = 1) → (TL.joinL [] (parts.map TL.tl)).length = parts.length := by
    intro parts
    induction parts with
    | nil => intro _; rfl
    | cons p r ih =>
      intro h
      have hp : (TL.tl p).length = 1 := by
        have := h p List.mem_cons_self
        rw [← this]
        exact Array.length_toList
      have hr := ih fun q hq => h q (List.mem_cons_of_mem _ hq)
      cases r with
      | nil => show (TL.tl p).length = 1; exact hp
      | cons q r =>
        show (TL.tl p ++ ([] ++ TL.joinL [] ((q :: r).map TL.tl))).length = _
        rw [List.length_append, List.nil_append, hr, hp, List.length_cons (a := p)]
        omega
  have e2 := TL.tl_join (Str.ofString "") parts
  rw [← TL.join_eq] at e2
  have e3 : (Txt.join (Str.ofString "") parts).length = (TL.tl (Txt.join (Str.ofString "") parts)).length := Array.length_toList.symm
  rw [e3, e2, show TL.tl (Str.ofString "") = [] by decide +kernel]
  exact e parts h
theorem len_digits : ∀ k : Nat, k < 60 → ((toString (k : Int) : String) |> fun s => (Str.ofString s).length) ≤ 2 := by
  intro k hk
  have : ∀ k : Fin 60, ((toString ((k : Nat) : Int) : String) |> fun s => (Str.ofString s).length) ≤ 2 := by decide +kernel
  exact this ⟨k, hk⟩
/-! ### tests that leave the heap -/
theorem ansOr {t u : TT} {σ : L2.St} {H : Hp} {a b : Bool} (ha : Ans t σ H a) (hb : Ans u σ H b) : Ans (tOr t u) σ H (a || b) := fun Q q => ha _ (by
  cases a with
  | true => exact iteT q
  | false => exact iteF (hb Q q))
theorem ansAnd {t u : TT} {σ : L2.St} {H : Hp} {a b : Bool} (ha : Ans t σ H a) (hb : Ans u σ H b) : Ans (tAnd t u) σ H (a && b) := fun Q q => ha _ (by
  cases a with
  | true => exact iteT (hb Q q)
  | false => exact iteF q)
theorem ifS {c : TT} {t u : TS} {D : Ends} {σ : L2.St} {H : Hp} {b : Bool} (h : Ans c σ H b) (ht : b = true → t D σ H) (hu : b = false → u D σ H) : tIfS c t u D σ H := h _ (by
  cases b with
  | true => exact iteT (ht rfl)
  | false => exact iteF (hu rfl))
theorem sum_ones : ∀ {ss : List Str}, (∀ s ∈ ss, s.length = 1) → (ss.map (·.length)).sum = ss.length
  | [], _ => rfl
  | s :: r, h => by
    rw [List.map_cons, List.sum_cons, sum_ones fun x hx => h x (List.mem_cons_of_mem _ hx), h s List.mem_cons_self, List.length_cons]
    omega
theorem flat_strs (ss : List Str) : (ss.map V.str).all flatV = true := by
  rw [List.all_eq_true]
  intro v hv
  obtain ⟨s, _, rfl⟩ := List.mem_map.mp hv
  rfl
theorem szc (n : Nat) {xs : List V} (h : xs.length = n := by rfl) (hn : n ≤ 100000 := by decide) : xs.length ≤ sizeLine := by rw [h]; exact sz hn
theorem ansIsi {K : PySem.W.Frag} {te : TE} {σ : L2.St} {H : Hp} {x : V} {T T2 : String} {b : Bool} (hx : ∀ Q : VK, Q x H → te σ H Q) (ty : TyX K H x (.type T)) (hb : kitB T T2 = some b) :
    Ans (tB (tCB (rIsi K) (tCons te (tCons (tC (.ty T2)) tNil)))) σ H b := fun Q q => hx _ ⟨x, _, _, _, b, rfl, .ty T2, ty, kit_ty hb, _, rfl, q⟩
theorem ansTo {t : TT} {σ : L2.St} {H : Hp} {b b' : Bool} (h : Ans t σ H b) (e : b = b') : Ans t σ H b' := e ▸ h
/-- lo <= x <= hi over whole numbers -/
theorem ansChain {ta tb tc : TE} {σ : L2.St} {H : Hp} {i j k : Int} (ha : Val ta σ H (.int i)) (hb : Val tb σ H (.int j)) (hc : Val tc σ H (.int k)) :
    Ans (tTest (tChain (rI0 fun i j => .bl (decide (i ≤ j))) (rI0 fun i j => .bl (decide (i ≤ j))) ta tb tc)) σ H (decide (i ≤ j) && decide (j ≤ k)) := fun Q q =>
  ha _ (hb _ ⟨i, j, rfl, rfl, _, rfl, by
    by_cases h : i ≤ j
    · rw [if_pos (decide_eq_true h)]
      refine hc _ ⟨j, k, rfl, rfl, _, rfl, ?_⟩
      rw [decide_eq_true h, Bool.true_and] at q
      exact q
    · rw [if_neg (by rw [decide_eq_false h]; exact Bool.false_ne_true)]
      rw [decide_eq_false h, Bool.false_and] at q
      exact ⟨_, rfl, q⟩⟩)
theorem ifQ {c : TT} {t u r : TS} {D : Ends} {σ : L2.St} {H : Hp} {b : Bool} (h : Ans c σ H b) (ht : b = true → t { D with nx := r D } σ H) (hu : b = false → u { D with nx := r D } σ H) : tSeq (tIfS c t u) r D σ H := ifS (D := { D with nx := r D }) h ht hu
theorem noQ {c : TT} {t r : TS} {D : Ends} {σ : L2.St} {H : Hp} (h : Ans c σ H false) (q : r D σ H) : tSeq (tIfS c t tNext) r D σ H := ifQ h (fun z => nomatch z) fun _ => q
theorem noS {c : TT} {t : TS} {D : Ends} {σ : L2.St} {H : Hp} (h : Ans c σ H false) (q : D.nx σ H) : tIfS c t tNext D σ H := ifS h (fun z => nomatch z) fun _ => q
theorem ifR {c : TT} {t r : TS} {D : Ends} {σ : L2.St} {H : Hp} {b : Bool} (h : Ans c σ H b) (ht : b = true → t { D with nx := r D } σ H) (hu : b = false → r D σ H) : tSeq (tIfS c t tNext) r D σ H := ifQ h ht hu
theorem cutV_map {α : Type} (f : α → V) (xs : List α) (lo hi : Option Int) : ∃ ys : List α, cutV (xs.map f) lo hi = ys.map f ∧ ys.length ≤ xs.length ∧ ∀ y ∈ ys, y ∈ xs := by
  refine ⟨(xs.drop (HT.sIx (xs.map f).length 0 lo)).take (HT.sIx (xs.map f).length (xs.map f).length hi - HT.sIx (xs.map f).length 0 lo), ?_, ?_, ?_⟩
  · unfold cutV
    rw [List.map_take, List.map_drop]
  · rw [List.length_take, List.length_drop]
    omega
  · intro y hy
    exact List.mem_of_mem_drop (List.mem_of_mem_take hy)
theorem iteFx {c : Bool} {A B : Prop} (h : c = false) (q : B) : if c = true then A else B := by
  subst h
  exact iteF q
theorem iteTx {c : Bool} {A B : Prop} (h : c = true) (q : A) : if c = true then A else B := by
  subst h
  exact iteT q
/-! ### names -/
def lets : Str := Str.ofString "abcdefghijklmnopqrstuvwxyz"
def sgns : Str := Str.ofString "abcdefghijklmnopqrstuvwxyz0123456789"
def resv : List Str := ["share", "lock", "bell", "kind", "any", "local", "skip", "set", "acquire", "release", "rest", "wake", "start", "check", "await", "mark", "if", "else", "loop", "choose", "or", "end", "and", "not"].map Str.ofString
structure NmF (s : Str) : Prop where
  l1 : 1 ≤ s.length
  l20 : s.length ≤ 20
  hd : ∃ c r, s.cps.toList = c :: r ∧ c ∈ lets.cps.toList
  al : ∀ c ∈ s.cps.toList, c ∈ sgns.cps.toList
theorem str_len (s : Str) : s.cps.toList.length = s.length := Array.length_toList
theorem str_app (a b : Str) : (a ++ b).cps.toList = a.cps.toList ++ b.cps.toList := by
  show (a.cps ++ b.cps).toList = _
  exact Array.toList_append
theorem let_sgn {c : Nat} (h : c ∈ lets.cps.toList) : c ∈ sgns.cps.toList := by
  have e : sgns = lets ++ Str.ofString "0123456789" := by decide +kernel
  rw [e, str_app]
  exact List.mem_append_left _ h
theorem nmF_cons {s : Str} {c : Nat} {r : List Nat} (e : s.cps.toList = c :: r) (hc : c ∈ lets.cps.toList) (hr : ∀ x ∈ r, x ∈ sgns.cps.toList) (hl : r.length ≤ 19) : NmF s := by
  have := str_len s
  rw [e, List.length_cons] at this
  refine ⟨by omega, by omega, ⟨c, r, e, hc⟩, fun x hx => ?_⟩
  rw [e] at hx
  rcases List.mem_cons.mp hx with h | h
  · rw [h]; exact let_sgn hc
  · exact hr x h
def nmfB (l : List Nat) : Bool := match l with
  | [] => false
  | c :: r => decide (c ∈ lets.cps.toList) && (r.all fun x => decide (x ∈ sgns.cps.toList)) && decide (r.length ≤ 19)
theorem nmF_of {s : Str} (h : nmfB s.cps.toList = true) : NmF s := by
  cases e : s.cps.toList with
  | nil => rw [e] at h; cases h
  | cons c r =>
    rw [e] at h
    simp only [nmfB, Bool.and_eq_true, decide_eq_true_eq, List.all_eq_true] at h
    exact nmF_cons e h.1.1 h.1.2 h.2
def digL (i : Nat) : List Nat := (Str.ofString (toString (i : Int))).cps.toList
theorem dig_ok : ∀ i : Fin 31, (∃ c r, digL i = c :: r ∧ c ∉ lets.cps.toList) ∧ (∀ x ∈ digL i, x ∈ sgns.cps.toList) ∧ (digL i).length ≤ 2 := by
  have h : ∀ i : Fin 31, (match digL i with
    | [] => false
    | c :: _ => !decide (c ∈ lets.cps.toList)) = true ∧ ((digL i).all fun x => decide (x ∈ sgns.cps.toList)) = true ∧ (digL i).length ≤ 2 := by decide +kernel
  intro i
  obtain ⟨h1, h2, h3⟩ := h i
  refine ⟨?_, fun x hx => of_decide_eq_true (List.all_eq_true.mp h2 x hx), h3⟩
  cases e : digL i with
  | nil => rw [e] at h1; cases h1
  | cons c r => rw [e] at h1; exact ⟨c, r, rfl, by simpa using h1⟩
def letAt (j : Nat) : Nat := lets.cps.toList.getD j 0
theorem let_inj : ∀ a b : Fin 26, letAt a = letAt b → a = b := by decide +kernel
theorem let_in : ∀ a : Fin 26, letAt a ∈ lets.cps.toList := by decide +kernel
def candL (i j : Nat) : List Nat := letAt (j % 26) :: (digL i ++ if j < 26 then [] else [120])
theorem cand_f {i j : Nat} (hi : i < 31) (s : Str) (e : s.cps.toList = candL i j) : NmF s := by
  obtain ⟨_, h2, h3⟩ := dig_ok ⟨i, hi⟩
  refine nmF_cons e (let_in ⟨j % 26, by omega⟩) (fun x hx => ?_) ?_
  · rcases List.mem_append.mp hx with h | h
    · exact h2 x h
    · split at h
      · cases h
      · rw [List.mem_singleton.mp h]; decide +kernel
  · rw [List.length_append]
    have : (if j < 26 then [] else [120] : List Nat).length ≤ 1 := by split <;> decide
    have h3' : (digL i).length ≤ 2 := h3
    omega
theorem resv_let : ∀ s ∈ resv, ∀ c ∈ s.cps.toList, c ∈ lets.cps.toList := by decide +kernel
theorem cand_nr {i j : Nat} (hi : i < 31) (s : Str) (e : s.cps.toList = candL i j) : s ∉ resv := fun hm => by
  obtain ⟨⟨c, r, ec, hc⟩, _⟩ := dig_ok ⟨i, hi⟩
  refine hc (resv_let s hm c ?_)
  rw [e]
  have : digL i = c :: r := ec
  unfold candL
  rw [this]
  exact List.mem_cons_of_mem _ (List.mem_append_left _ List.mem_cons_self)
theorem cand_inj {i j k : Nat} (hj : j < 52) (hk : k < 52) (e : candL i j = candL i k) : j = k := by
  have h1 : letAt (j % 26) = letAt (k % 26) := (List.cons.inj e).1
  have h2 := congrArg List.length (List.cons.inj e).2
  have h3 := congrArg Fin.val (let_inj ⟨j % 26, by omega⟩ ⟨k % 26, by omega⟩ h1)
  have h4 : j % 26 = k % 26 := h3
  rw [List.length_append, List.length_append] at h2
  split at h2 <;> split at h2 <;> simp only [List.length_nil, List.length_cons] at h2 <;> omega
theorem pigeon {α : Type} [BEq α] [LawfulBEq α] : ∀ (xs ys : List α), xs.Nodup → (∀ x ∈ xs, x ∈ ys) → xs.length ≤ ys.length
  | [], _, _, _ => Nat.zero_le _
  | x :: r, ys, hn, h => by
    have hx := h x List.mem_cons_self
    obtain ⟨hnx, hnr⟩ := List.nodup_cons.mp hn
    have ih := pigeon r (ys.erase x) hnr fun y hy => (List.mem_erase_of_ne fun (e : y = x) => hnx (e ▸ hy)).mpr (h y (List.mem_cons_of_mem _ hy))
    rw [List.length_erase_of_mem hx] at ih
    have := List.length_pos_of_mem hx
    rw [List.length_cons]
    omega
/-- of 52 names one is free -/
theorem cand_free {i : Nat} (hi : i < 31) {ss : List Str} (hl : ss.length < 52) (h : ∀ j < 52, ∀ s : Str, s.cps.toList = candL i j → s ∈ ss ∨ s ∈ resv) : False := by
  have hs : ∀ j < 52, candL i j ∈ ss.map fun s => s.cps.toList := fun j hj => by
    have e : ((⟨(candL i j).toArray⟩ : Str)).cps.toList = candL i j := rfl
    rcases h j hj _ e with m | m
    · exact List.mem_map.mpr ⟨_, m, e⟩
    · exact absurd m (cand_nr hi _ e)
  have hn : ((List.range 52).map (candL i)).Nodup := by
    refine List.nodup_iff_pairwise_ne.mpr ?_ |> fun z => z
    rw [List.pairwise_map]
    refine List.Pairwise.imp_of_mem (fun {a b} ha hb hab e => ?_) (List.nodup_iff_pairwise_ne.mp List.nodup_range)
    exact hab (cand_inj (List.mem_range.mp ha) (List.mem_range.mp hb) e)
  have := pigeon _ _ hn fun x hx => by
    obtain ⟨j, hj, rfl⟩ := List.mem_map.mp hx
    exact hs j (List.mem_range.mp hj)
  rw [List.length_map, List.length_map, List.length_range] at this
  omega
theorem cut_x : ∀ j : Fin 52, (cutS (Str.ofString "x") none (some (((j : Nat) : Int) / 26))).cps.toList = (if (j : Nat) < 26 then [] else [120]) := by decide +kernel
structure NmsOk (ss : List Str) : Prop where
  f : ∀ s ∈ ss, NmF s
  r : ∀ s ∈ ss, s ∉ resv
  nd : ss.Nodup
theorem NmsOk.snoc {ss : List Str} {s : Str} (h : NmsOk ss) (hf : NmF s) (hr : s ∉ resv) (hs : s ∉ ss) : NmsOk (ss ++ [s]) where
  f := fun x hx => by
    rcases List.mem_append.mp hx with m | m
    · exact h.f x m
    · rw [List.mem_singleton.mp m]; exact hf
  r := fun x hx => by
    rcases List.mem_append.mp hx with m | m
    · exact h.r x m
    · rw [List.mem_singleton.mp m]; exact hr
  nd := by
    refine List.nodup_append.mpr ⟨h.nd, List.nodup_cons.mpr ⟨(fun m => by cases m), List.nodup_nil⟩, fun a ha b hb e => ?_⟩
    rw [List.mem_singleton.mp hb] at e
    exact hs (e ▸ ha)
theorem inV_iff {l : Str} {xs : List Str} : inV (V.str l) (xs.map V.str) = true ↔ l ∈ xs := by
  unfold inV
  rw [List.any_map, List.any_eq_true]
  constructor
  · rintro ⟨x, hx, h⟩
    have : (x == l) = true := h
    rw [← eq_of_beq this]
    exact hx
  · intro h
    exact ⟨l, h, (beq_self_eq_true l : (l == l) = true)⟩
theorem mem_join0 {S : List Nat} : ∀ (parts : List Str), (∀ p ∈ parts, ∀ c ∈ p.cps.toList, c ∈ S) → ∀ c ∈ (Txt.join (Str.ofString "") parts).cps.toList, c ∈ S := by
  intro parts h c hc
  have e2 := TL.tl_join (Str.ofString "") parts
  rw [← TL.join_eq, show TL.tl (Str.ofString "") = [] by decide +kernel] at e2
  have e3 : (Txt.join (Str.ofString "") parts).cps.toList = TL.joinL [] (parts.map TL.tl) := e2
  rw [e3] at hc
  clear e2 e3
  induction parts with
  | nil => cases hc
  | cons p r ih =>
    cases r with
    | nil => exact h p List.mem_cons_self c hc
    | cons q r =>
      have hc2 : c ∈ TL.tl p ++ ([] ++ TL.joinL [] ((q :: r).map TL.tl)) := hc
      rw [List.nil_append] at hc2
      rcases List.mem_append.mp hc2 with m | m
      · exact h p List.mem_cons_self c m
      · exact ih (fun p hp => h p (List.mem_cons_of_mem _ hp)) m
theorem str_ext {a b : Str} (h : a.cps.toList = b.cps.toList) : a = b := by
  cases a; cases b
  have := Array.toList_inj.mp h
  simp only at this
  rw [this]
/-! ### values and conditions as trees -/
theorem Fd.none {P : Program} {w : World} {K : PySem.W.Frag} {mg : Str → Option Value} {base : Heap} {x qual : Str} {st : Stmt} {f : Addr} {fd : FuncData} {ps : List Str} {k : Nat} {sp : Sp} (F : Fun K x qual st f fd) (m : mg x = some (.ref f)) (b : Binds K fd ps [])
    (no : ∀ vs H Q E, ¬ sp vs H Q E) : Fd P w K mg base x ps k sp := ⟨f, fd, ⟨fun vs H Q E h => absurd h (no vs H Q E), fun A outer s H args us vs Q E _ _ _ _ h => absurd h (no vs H Q E)⟩, m, F.kp, b⟩
theorem yesQ {c : TT} {t u r : TS} {D : Ends} {σ : L2.St} {H : Hp} (h : Ans c σ H true) (q : t { D with nx := r D } σ H) : tSeq (tIfS c t u) r D σ H := ifQ h (fun _ => q) fun z => nomatch z
theorem yesS {c : TT} {t u : TS} {D : Ends} {σ : L2.St} {H : Hp} (h : Ans c σ H true) (q : t D σ H) : tIfS c t u D σ H := ifS h (fun _ => q) fun z => nomatch z
/-- what is new in H' over H -/
def Nw (H H' : Hp) : Hp := fun a => match H a with
  | none => H' a
  | some _ => none
theorem nw_at {H H' : Hp} {a : Addr} (h : H a = none) : Nw H H' a = H' a := by
  unfold Nw
  rw [h]
theorem nw_old {H H' : Hp} {a : Addr} {o : HO} (h : H a = some o) : Nw H H' a = none := by
  unfold Nw
  rw [h]
theorem nw_some {H H' : Hp} {a : Addr} {o : HO} (h : Nw H H' a = some o) : H a = none ∧ H' a = some o := by
  cases e : H a with
  | none => rw [nw_at e] at h; exact ⟨rfl, h⟩
  | some x => rw [nw_old e] at h; cases h
theorem nw_same {H H' : Hp} : Same (Nw H H') H' := fun _ _ h => (nw_some h).2
theorem nw_mono {H H1 H2 H3 : Hp} (a : Same H H1) (b : Same H2 H3) : Same (Nw H1 H2) (Nw H H3) := fun x o h => by
  obtain ⟨h1, h2⟩ := nw_some h
  rw [nw_at (a.free h1)]
  exact b x o h2
/-- what is there is there -/
def Dm (H H' : Hp) : Prop := ∀ a, H' a = none → H a = none
theorem Same.dm {H H' : Hp} (s : Same H H') : Dm H H' := fun _ h => s.free h
theorem Dm.trans {H H1 H2 : Hp} (a : Dm H H1) (b : Dm H1 H2) : Dm H H2 := fun x h => a x (b x h)
theorem dm_upd {H H' : Hp} {D : Addr} {o u : HO} (s : Same H H') (h : H' D = some o) : Dm (upd H D u) H' := fun a ha => by
  have hne : a ≠ D := fun e => by rw [e, h] at ha; cases ha
  rw [upd_ne hne]
  exact s.free ha
theorem dm_up {H : Hp} {D : Addr} {u : HO} : Dm H (upd H D u) := fun a ha => by
  by_cases e : a = D
  · rw [e, upd_same] at ha; cases ha
  · rw [upd_ne e] at ha; exact ha
theorem nw_mono2 {H H1 H2 H3 : Hp} (a : Dm H H1) (b : Same H2 H3) : Same (Nw H1 H2) (Nw H H3) := fun x o h => by
  obtain ⟨h1, h2⟩ := nw_some h
  rw [nw_at (a x h1)]
  exact b x o h2
theorem nw_upd {H H' : Hp} {a : Addr} {o u : HO} (h : H a = some o) : Same (Nw H H') (Nw H (upd H' a u)) := fun x y e => by
  obtain ⟨h1, h2⟩ := nw_some e
  rw [nw_at h1, upd_ne (ne_of_none h h1).symm]
  exact h2
inductive Ar where
  | add | sub | mul
def Ar.tx : Ar → Str
  | .add => Str.ofString "+"
  | .sub => Str.ofString "-"
  | .mul => Str.ofString "*"
def Ar.ev : Ar → Int → Int → Int
  | .add, a, b => a + b
  | .sub, a, b => a - b
  | .mul, a, b => a * b
inductive VT where
  | int (i : Int) | nm (s : Str) | op (o : Ar) (a b : VT)
def VT.ht : VT → Nat
  | .op _ a b => max a.ht b.ht + 1
  | _ => 0
def RVal (H : Hp) : VT → V → Prop
  | .int i, v => v = .int i
  | .nm s, v => v = .str s
  | .op o a b, v => ∃ t x y, v = .ref t ∧ H t = some (.tup [.str o.tx, x, y]) ∧ RVal H a x ∧ RVal H b y
theorem RVal.mono {H H' : Hp} (e : Same H H') : ∀ {t : VT} {v : V}, RVal H t v → RVal H' t v
  | .int _, _, h => h
  | .nm _, _, h => h
  | .op _ _ _, _, ⟨t, x, y, e1, e2, ha, hb⟩ => ⟨t, x, y, e1, e _ _ e2, RVal.mono e ha, RVal.mono e hb⟩
def look (kvs : List (Key × V)) (s : Str) : Int := match valV kvs (Sum.inr s) with
  | some (.int i) => i
  | _ => 0
def VT.ev (kvs : List (Key × V)) : VT → Int
  | .int i => i
  | .nm s => look kvs s
  | .op o a b => o.ev (a.ev kvs) (b.ev kvs)
def VT.wt : VT → Nat
  | .op _ a b => a.wt + b.wt
  | _ => 8
def Fine (kvs : List (Key × V)) : VT → Prop
  | .int i => i.natAbs < 256
  | .nm s => ∃ i : Int, valV kvs (Sum.inr s) = some (.int i) ∧ i.natAbs < 256
  | .op _ a b => Fine kvs a ∧ Fine kvs b
theorem VT.wt_pos : ∀ t : VT, 8 ≤ t.wt
  | .int _ => Nat.le_refl 8
  | .nm _ => Nat.le_refl 8
  | .op _ a b => by show 8 ≤ a.wt + b.wt; have := a.wt_pos; omega
theorem pow_add_le {a b x y : Nat} (ha : x < 2 ^ a) (hb : y < 2 ^ b) (h1 : 1 ≤ a) (h2 : 1 ≤ b) : x + y < 2 ^ (a + b) := by
  have ea : 2 ^ (a + b) = 2 ^ a * 2 ^ b := Nat.pow_add 2 a b
  have h3 : 2 ≤ 2 ^ a := by
    have := Nat.pow_le_pow_right (show 0 < 2 by decide) h1
    omega
  have h4 : 2 ≤ 2 ^ b := by
    have := Nat.pow_le_pow_right (show 0 < 2 by decide) h2
    omega
  generalize 2 ^ a = u at *
  generalize 2 ^ b = v at *
  rw [ea]
  have h5 : u + v ≤ u * v := by
    rcases Nat.le_total u v with h | h
    · have := Nat.mul_le_mul_right v h3
      omega
    · have := Nat.mul_le_mul_left u h4
      omega
  omega
theorem ev_lt {kvs : List (Key × V)} : ∀ {t : VT}, Fine kvs t → (t.ev kvs).natAbs < 2 ^ t.wt
  | .int i, h => h
  | .nm s, ⟨i, e, h⟩ => by
    show (look kvs s).natAbs < 2 ^ 8
    unfold look
    rw [e]
    exact h
  | .op o a b, ⟨ha, hb⟩ => by
    have h1 := ev_lt ha
    have h2 := ev_lt hb
    have p1 := a.wt_pos
    have p2 := b.wt_pos
    have h3 := pow_add_le h1 h2 (by omega) (by omega)
    show (o.ev (a.ev kvs) (b.ev kvs)).natAbs < 2 ^ (a.wt + b.wt)
    cases o with
    | add => show (a.ev kvs + b.ev kvs).natAbs < _; omega
    | sub => show (a.ev kvs - b.ev kvs).natAbs < _; omega
    | mul => exact wide_lt h1 h2
inductive Cp where
  | eq | lt | le
def Cp.tx : Cp → Str
  | .eq => Str.ofString "="
  | .lt => Str.ofString "<"
  | .le => Str.ofString "<="
def Cp.ev : Cp → Int → Int → Bool
  | .eq, a, b => decide (V.int a = V.int b)
  | .lt, a, b => decide (a < b)
  | .le, a, b => decide (a ≤ b)
inductive CT where
  | bl (b : Bool) | no (c : CT) | an (a b : CT) | or (a b : CT) | cp (o : Cp) (a b : VT)
def CT.ht : CT → Nat
  | .bl _ => 0
  | .no c => c.ht + 1
  | .an a b => max a.ht b.ht + 1
  | .or a b => max a.ht b.ht + 1
  | .cp _ _ _ => 0
def RCond (H : Hp) : CT → V → Prop
  | .bl b, v => v = .bl b
  | .no c, v => ∃ t x, v = .ref t ∧ H t = some (.tup [.str (Str.ofString "not"), x]) ∧ RCond H c x
  | .an a b, v => ∃ t x y, v = .ref t ∧ H t = some (.tup [.str (Str.ofString "and"), x, y]) ∧ RCond H a x ∧ RCond H b y
  | .or a b, v => ∃ t x y, v = .ref t ∧ H t = some (.tup [.str (Str.ofString "or"), x, y]) ∧ RCond H a x ∧ RCond H b y
  | .cp o a b, v => ∃ t x y, v = .ref t ∧ H t = some (.tup [.str o.tx, x, y]) ∧ RVal H a x ∧ RVal H b y
theorem RCond.mono {H H' : Hp} (e : Same H H') : ∀ {t : CT} {v : V}, RCond H t v → RCond H' t v
  | .bl _, _, h => h
  | .no _, _, ⟨t, x, e1, e2, ha⟩ => ⟨t, x, e1, e _ _ e2, RCond.mono e ha⟩
  | .an _ _, _, ⟨t, x, y, e1, e2, ha, hb⟩ => ⟨t, x, y, e1, e _ _ e2, RCond.mono e ha, RCond.mono e hb⟩
  | .or _ _, _, ⟨t, x, y, e1, e2, ha, hb⟩ => ⟨t, x, y, e1, e _ _ e2, RCond.mono e ha, RCond.mono e hb⟩
  | .cp _ _ _, _, ⟨t, x, y, e1, e2, ha, hb⟩ => ⟨t, x, y, e1, e _ _ e2, RVal.mono e ha, RVal.mono e hb⟩
def CT.ev (kvs : List (Key × V)) : CT → Bool
  | .bl b => b
  | .no c => !c.ev kvs
  | .an a b => a.ev kvs && b.ev kvs
  | .or a b => a.ev kvs || b.ev kvs
  | .cp o a b => o.ev (a.ev kvs) (b.ev kvs)
/-- every value in it is fine, of height below n and of weight at most m -/
def CFine (kvs : List (Key × V)) (n m : Nat) : CT → Prop
  | .bl _ => True
  | .no c => CFine kvs n m c
  | .an a b => CFine kvs n m a ∧ CFine kvs n m b
  | .or a b => CFine kvs n m a ∧ CFine kvs n m b
  | .cp _ a b => (Fine kvs a ∧ a.ht < n ∧ a.wt ≤ m) ∧ Fine kvs b ∧ b.ht < n ∧ b.wt ≤ m
section
variable {P : Program} {w : World} {K : PySem.W.Frag} {mg : Str → Option Value} {base : Heap}
def spValue (n : Nat) : Sp := fun vs H Q _ => ∃ (v : V) (d : Addr) (t : VT) (kvs : List (Key × V)), vs = [v, .ref d] ∧ RVal H t v ∧ t.ht < n ∧ H d = some (.dK kvs) ∧ Fine kvs t ∧ t.wt ≤ 100000 ∧ Q (.int (t.ev kvs)) H
theorem look_val {kvs : List (Key × V)} {s : Str} {i : Int} (h : valV kvs (Sum.inr s) = some (.int i)) : look kvs s = i := by
  unfold look
  rw [h]
abbrev s_value_of : Stmt := topS 1
theorem sc_value_of : FnScope ["value", "values", "sign", "first", "second", "left", "right"] ["value", "values"] (defScope s_value_of) := ⟨rfl, rfl, rfl, by decide +kernel, rfl, by decide +kernel, by decide +kernel⟩
-- value_of slots: value=0 values=1 sign=2 first=3 second=4 left=5 right=6 globals: isinstance int str value_of
theorem fd_value_of {f : Addr} {fd : FuncData} (F : Fun K "value_of" "value_of" s_value_of f fd) (m : mg "value_of" = some (.ref f)) (B : Bt mg) : ∀ n : Nat, Fd P w K mg base "value_of" ["value", "values"] n (spValue n)
  | 0 => Fd.none F m (F.binds (ps := ["value", "values"]) fun _ _ _ _ _ _ us hl => match us, hl with | [_, _], _ => rfl) fun vs H Q E h => by
    obtain ⟨v, d, t, kvs, _, _, h, _⟩ := h
    exact absurd h (Nat.not_lt_zero _)
  | n + 1 => by
    have D_value_of := fd_value_of F m B n
    refine ⟨f, fd, F.ok sc_value_of (fun vs H Q E h => ?_) (fun cdv A outer s H vs Q E hr h => ?_), m, F.kp, F.binds (ps := ["value", "values"]) fun _ _ _ _ _ _ us hl => match us, hl with | [_, _], _ => rfl⟩
    · obtain ⟨v, d, t, kvs, rfl, _⟩ := h
      rfl
    obtain ⟨v, d, t, kvs, rfl, hv, hh, hd, hf, hw, q⟩ := h
    refine ⟨_, (pss_cons (ps_if (pt_val (pe_callB (cIsi K) (by rfl) B.isinstance (by decide +kernel) (pa_cons (pv 0) (pa_cons (pe_bltn (v := .ty "int") (by rfl) B.int (by decide +kernel) rfl) pa_nil))))
 (pss_one (ps_ret (pv 0)))
 pss_nil)
 (pss_cons (ps_if (pt_val (pe_callB (cIsi K) (by rfl) B.isinstance (by decide +kernel) (pa_cons (pv 0) (pa_cons (pe_bltn (v := .ty "str") (by rfl) B.str (by decide +kernel) rfl) pa_nil))))
 (pss_one (ps_ret (pe_dget (hu_of hr) (pv 1) (pv 0) (fun _ _ => rfl))))
 pss_nil)
 (pss_cons (ps_asg (pv 0) (pg_tup rfl (pgs_cons (pg_name (i := 2) sc_value_of.nd rfl (Or.inl rfl)) (pgs_cons (pg_name (i := 3) sc_value_of.nd rfl (Or.inl rfl)) (pgs_cons (pg_name (i := 4) sc_value_of.nd rfl (Or.inl rfl)) pgs_nil)))))
 (pss_cons (ps_set (i := 5) sc_value_of.nd rfl (Or.inl rfl) (pe_fn D_value_of hr rfl (pa_cons (pv 3) (pa_cons (pv 1) pa_nil))))
 (pss_cons (ps_set (i := 6) sc_value_of.nd rfl (Or.inl rfl) (pe_fn D_value_of hr rfl (pa_cons (pv 4) (pa_cons (pv 1) pa_nil))))
 (pss_cons (ps_if (pt_cmpR op_eq (pv 2) pe_str (nomark _))
 (pss_one (ps_ret (pe_op op_add (pv 5) (pv 6))))
 pss_nil)
 (pss_cons (ps_if (pt_cmpR op_eq (pv 2) pe_str (nomark _))
 (pss_one (ps_ret (pe_op op_sub (pv 5) (pv 6))))
 pss_nil)
 (pss_one (ps_ret (pe_op op_mulW (pv 5) (pv 6))))))))))), ?_⟩
    cases t with
    | int i =>
      obtain rfl := hv
      exact yesQ (ansIsi (T := "int") (fun Q q => ⟨_, rfl, q⟩) (.base (.int _)) (by decide +kernel)) ⟨_, rfl, q⟩
    | nm s =>
      obtain rfl := hv
      refine noQ (ansIsi (T := "str") (fun Q q => ⟨_, rfl, q⟩) (.base (.str _)) (by decide +kernel)) ?_
      obtain ⟨i, e, hi⟩ := hf
      refine yesQ (ansIsi (T := "str") (fun Q q => ⟨_, rfl, q⟩) (.base (.str _)) (by decide +kernel)) ⟨_, rfl, _, rfl, d, .int i, rfl, ?_, ?_⟩
      · have := DGet.k (k := Sum.inr s) hd
        rw [e] at this
        exact this
      · have q2 : Q (.int (look kvs s)) H := q
        rw [look_val e] at q2
        exact q2
    | op o a b =>
      obtain ⟨t, x, y, rfl, ht, ha, hb⟩ := hv
      have hh2 : max a.ht b.ht + 1 < n + 1 := hh
      have hw2 : a.wt + b.wt ≤ 100000 := hw
      refine noQ (ansIsi (T := "tuple") (fun Q q => ⟨_, rfl, q⟩) (.base (.tup ht)) (by decide +kernel)) ?_
      refine noQ (ansIsi (T := "tuple") (fun Q q => ⟨_, rfl, q⟩) (.base (.tup ht)) (by decide +kernel)) ?_
      refine ⟨_, rfl, t, _, rfl, st ht, rfl, _, _, rfl, _, _, rfl, _, _, rfl, rfl, ?_⟩
      refine ⟨_, rfl, _, rfl, x, d, a, kvs, rfl, ha, by omega, hd, hf.1, by omega, ?_⟩
      refine ⟨_, rfl, _, rfl, y, d, b, kvs, rfl, hb, by omega, hd, hf.2, by omega, ?_⟩
      have l1 := ev_lt hf.1
      have l2 := ev_lt hf.2
      have p1 := a.wt_pos
      have p2 := b.wt_pos
      dsimp only [gName]
      cases o with
      | add => exact yesQ (fun Q q => ⟨_, rfl, rfl, _, rfl, q⟩) ⟨_, rfl, _, rfl, _, _, rfl, rfl, q⟩
      | sub =>
        refine noQ (fun Q q => ⟨_, rfl, rfl, _, rfl, q⟩) ?_
        exact yesQ (fun Q q => ⟨_, rfl, rfl, _, rfl, q⟩) ⟨_, rfl, _, rfl, _, _, rfl, rfl, q⟩
      | mul =>
        refine noQ (fun Q q => ⟨_, rfl, rfl, _, rfl, q⟩) ?_
        refine noQ (fun Q q => ⟨_, rfl, rfl, _, rfl, q⟩) ?_
        exact ⟨_, rfl, _, rfl, _, _, rfl, rfl, wide_mul l1 l2 (by omega) (by omega) (by omega), q⟩
end
section
variable {P : Program} {w : World} {K : PySem.W.Frag} {mg : Str → Option Value} {base : Heap}
def spHolds (m n : Nat) : Sp := fun vs H Q _ => ∃ (v : V) (d : Addr) (t : CT) (kvs : List (Key × V)), vs = [v, .ref d] ∧ RCond H t v ∧ t.ht < n ∧ H d = some (.dK kvs) ∧ CFine kvs m 100000 t ∧ Q (.bl (t.ev kvs)) H
abbrev s_holds : Stmt := topS 2
theorem sc_holds : FnScope ["condition", "values", "sign", "left", "right"] ["condition", "values"] (defScope s_holds) := ⟨rfl, rfl, rfl, by decide +kernel, rfl, by decide +kernel, by decide +kernel⟩
-- holds slots: condition=0 values=1 sign=2 left=3 right=4 globals: holds value_of
theorem fd_holds {f : Addr} {fd : FuncData} (F : Fun K "holds" "holds" s_holds f fd) (m : mg "holds" = some (.ref f)) (B : Bt mg) {nv : Nat} (D_value_of : Fd P w K mg base "value_of" ["value", "values"] nv (spValue nv)) : ∀ n : Nat, Fd P w K mg base "holds" ["condition", "values"] (nv + n) (spHolds nv n)
  | 0 => Fd.none F m (F.binds (ps := ["condition", "values"]) fun _ _ _ _ _ _ us hl => match us, hl with | [_, _], _ => rfl) fun vs H Q E h => by
    obtain ⟨v, d, t, kvs, _, _, h, _⟩ := h
    exact absurd h (Nat.not_lt_zero _)
  | n + 1 => by
    have D_holds := fd_holds F m B D_value_of n
    refine ⟨f, fd, F.ok sc_holds (fun vs H Q E h => ?_) (fun cdv A outer s H vs Q E hr h => ?_), m, F.kp, F.binds (ps := ["condition", "values"]) fun _ _ _ _ _ _ us hl => match us, hl with | [_, _], _ => rfl⟩
    · obtain ⟨v, d, t, kvs, rfl, _⟩ := h
      rfl
    obtain ⟨v, d, t, kvs, rfl, hv, hh, hd, hf, q⟩ := h
    refine ⟨_, (pss_cons (ps_if (PW.pt (pw_or (pt_cmpR op_isBv (pv 0) pe_bl (nomark _)) (pw_or1 (pt_cmpR op_isBv (pv 0) pe_bl (nomark _)))))
 (pss_one (ps_ret (pv 0)))
 pss_nil)
 (pss_cons (ps_set (i := 2) sc_holds.nd rfl (Or.inl rfl) (pe_ix (ixT K) (pv 0) pe_int (fun _ _ => rfl)))
 (pss_cons (ps_if (pt_cmpR op_eq (pv 2) pe_str (nomark _))
 (pss_one (ps_ret (pe_not (pe_fn D_holds hr rfl (pa_cons (pe_ix (ixT K) (pv 0) pe_int (fun _ _ => rfl)) (pa_cons (pv 1) pa_nil))))))
 pss_nil)
 (pss_cons (ps_if (pt_cmpR op_eq (pv 2) pe_str (nomark _))
 (pss_one (ps_ret (pe_and (pe_fn D_holds hr rfl (pa_cons (pe_ix (ixT K) (pv 0) pe_int (fun _ _ => rfl)) (pa_cons (pv 1) pa_nil))) (pe_one (pe_fn D_holds hr rfl (pa_cons (pe_ix (ixT K) (pv 0) pe_int (fun _ _ => rfl)) (pa_cons (pv 1) pa_nil)))))))
 pss_nil)
 (pss_cons (ps_if (pt_cmpR op_eq (pv 2) pe_str (nomark _))
 (pss_one (ps_ret (pe_or (pe_fn D_holds hr rfl (pa_cons (pe_ix (ixT K) (pv 0) pe_int (fun _ _ => rfl)) (pa_cons (pv 1) pa_nil))) (pe_one (pe_fn D_holds hr rfl (pa_cons (pe_ix (ixT K) (pv 0) pe_int (fun _ _ => rfl)) (pa_cons (pv 1) pa_nil)))))))
 pss_nil)
 (pss_cons (ps_set (i := 3) sc_holds.nd rfl (Or.inl rfl) (pe_fn D_value_of (hr.mono (Nat.le_add_right _ _)) rfl (pa_cons (pe_ix (ixT K) (pv 0) pe_int (fun _ _ => rfl)) (pa_cons (pv 1) pa_nil))))
 (pss_cons (ps_set (i := 4) sc_holds.nd rfl (Or.inl rfl) (pe_fn D_value_of (hr.mono (Nat.le_add_right _ _)) rfl (pa_cons (pe_ix (ixT K) (pv 0) pe_int (fun _ _ => rfl)) (pa_cons (pv 1) pa_nil))))
 (pss_cons (ps_if (pt_cmpR op_eq (pv 2) pe_str (nomark _))
 (pss_one (ps_ret (pe_cmpR op_eq (pv 3) (pv 4) (nomark _))))
 pss_nil)
 (pss_cons (ps_if (pt_cmpR op_eq (pv 2) pe_str (nomark _))
 (pss_one (ps_ret (pe_cmpR op_lt (pv 3) (pv 4) (nomark _))))
 pss_nil)
 (pss_one (ps_ret (pe_cmpR op_le (pv 3) (pv 4) (nomark _))))))))))))), ?_⟩
    have notb : ∀ (a : Addr) (t u : TS) (D : Ends) (y2 y3 y4 : Option V), u D [some (.ref a), some (.ref d), y2, y3, y4] H → tSeq (tIfS (tOr (tTest (tOp rIsBl (tVar 0) (tC (.bl true)))) (tTest (tOp rIsBl (tVar 0) (tC (.bl false))))) t tNext) u D [some (.ref a), some (.ref d), y2, y3, y4] H := fun a t u D y2 y3 y4 q =>
      noQ (ansOr (a := false) (b := false) (fun Q q => ⟨_, rfl, _, rfl, _, rfl, q⟩) (fun Q q => ⟨_, rfl, _, rfl, _, rfl, q⟩)) q
    cases t with
    | bl b =>
      obtain rfl := hv
      refine yesQ ?_ ⟨_, rfl, q⟩
      cases b with
      | true => exact ansOr (a := true) (b := false) (fun Q q => ⟨_, rfl, _, rfl, _, rfl, q⟩) (fun Q q => ⟨_, rfl, _, rfl, _, rfl, q⟩)
      | false => exact ansOr (a := false) (b := true) (fun Q q => ⟨_, rfl, _, rfl, _, rfl, q⟩) (fun Q q => ⟨_, rfl, _, rfl, _, rfl, q⟩)
    | no c =>
      obtain ⟨t, x, rfl, ht, ha⟩ := hv
      have hh2 : c.ht + 1 < n + 1 := hh
      refine notb _ _ _ _ _ _ _ ⟨_, rfl, _, _, _, _, rfl, rfl, st ht, atI_nat (j := 0) rfl, ?_⟩
      dsimp only [gName]
      refine yesQ (fun Q q => ⟨_, rfl, rfl, _, rfl, q⟩) ?_
      exact ⟨_, rfl, _, _, _, _, rfl, rfl, st ht, atI_nat (j := 1) rfl, _, rfl, x, d, c, kvs, rfl, ha, by omega, hd, hf, _, rfl, q⟩
    | an a b =>
      obtain ⟨t, x, y, rfl, ht, ha, hb⟩ := hv
      have hh2 : max a.ht b.ht + 1 < n + 1 := hh
      refine notb _ _ _ _ _ _ _ ⟨_, rfl, _, _, _, _, rfl, rfl, st ht, atI_nat (j := 0) rfl, ?_⟩
      dsimp only [gName]
      refine noQ (fun Q q => ⟨_, rfl, rfl, _, rfl, q⟩) ?_
      refine yesQ (fun Q q => ⟨_, rfl, rfl, _, rfl, q⟩) ?_
      refine ⟨_, rfl, _, _, _, _, rfl, rfl, st ht, atI_nat (j := 1) rfl, _, rfl, x, d, a, kvs, rfl, ha, by omega, hd, hf.1, _, rfl, ?_⟩
      have q2 : Q (.bl (a.ev kvs && b.ev kvs)) H := q
      cases e : a.ev kvs with
      | true =>
        rw [e, Bool.true_and] at q2
        exact iteT ⟨_, rfl, _, _, _, _, rfl, rfl, st ht, atI_nat (j := 2) rfl, _, rfl, y, d, b, kvs, rfl, hb, by omega, hd, hf.2, q2⟩
      | false =>
        rw [e, Bool.false_and] at q2
        exact iteF q2
    | or a b =>
      obtain ⟨t, x, y, rfl, ht, ha, hb⟩ := hv
      have hh2 : max a.ht b.ht + 1 < n + 1 := hh
      refine notb _ _ _ _ _ _ _ ⟨_, rfl, _, _, _, _, rfl, rfl, st ht, atI_nat (j := 0) rfl, ?_⟩
      dsimp only [gName]
      refine noQ (fun Q q => ⟨_, rfl, rfl, _, rfl, q⟩) ?_
      refine noQ (fun Q q => ⟨_, rfl, rfl, _, rfl, q⟩) ?_
      refine yesQ (fun Q q => ⟨_, rfl, rfl, _, rfl, q⟩) ?_
      refine ⟨_, rfl, _, _, _, _, rfl, rfl, st ht, atI_nat (j := 1) rfl, _, rfl, x, d, a, kvs, rfl, ha, by omega, hd, hf.1, _, rfl, ?_⟩
      have q2 : Q (.bl (a.ev kvs || b.ev kvs)) H := q
      cases e : a.ev kvs with
      | true =>
        rw [e, Bool.true_or] at q2
        exact iteT q2
      | false =>
        rw [e, Bool.false_or] at q2
        exact iteF ⟨_, rfl, _, _, _, _, rfl, rfl, st ht, atI_nat (j := 2) rfl, _, rfl, y, d, b, kvs, rfl, hb, by omega, hd, hf.2, q2⟩
    | cp o a b =>
      obtain ⟨t, x, y, rfl, ht, ha, hb⟩ := hv
      refine notb _ _ _ _ _ _ _ ⟨_, rfl, _, _, _, _, rfl, rfl, st ht, atI_nat (j := 0) rfl, ?_⟩
      dsimp only [gName]
      have n1 : ∀ (z : Str), z = Str.ofString "not" ∨ z = Str.ofString "and" ∨ z = Str.ofString "or" → decide (V.str o.tx = V.str z) = false := by
        intro z hz
        rcases hz with rfl | rfl | rfl <;> cases o <;> decide +kernel
      refine noQ (fun Q q => ⟨_, rfl, rfl, _, rfl, (n1 _ (.inl rfl)).symm ▸ q⟩) ?_
      refine noQ (fun Q q => ⟨_, rfl, rfl, _, rfl, (n1 _ (.inr (.inl rfl))).symm ▸ q⟩) ?_
      refine noQ (fun Q q => ⟨_, rfl, rfl, _, rfl, (n1 _ (.inr (.inr rfl))).symm ▸ q⟩) ?_
      refine ⟨_, rfl, _, _, _, _, rfl, rfl, st ht, atI_nat (j := 1) rfl, _, rfl, x, d, a, kvs, rfl, ha, hf.1.2.1, hd, hf.1.1, hf.1.2.2, ?_⟩
      refine ⟨_, rfl, _, _, _, _, rfl, rfl, st ht, atI_nat (j := 2) rfl, _, rfl, y, d, b, kvs, rfl, hb, hf.2.2.1, hd, hf.2.1, hf.2.2.2, ?_⟩
      dsimp only [gName]
      cases o with
      | eq => exact yesQ (fun Q q => ⟨_, rfl, rfl, _, rfl, q⟩) ⟨_, rfl, _, rfl, rfl, q⟩
      | lt =>
        refine noQ (fun Q q => ⟨_, rfl, rfl, _, rfl, q⟩) ?_
        exact yesQ (fun Q q => ⟨_, rfl, rfl, _, rfl, q⟩) ⟨_, rfl, _, rfl, _, _, rfl, rfl, q⟩
      | le =>
        refine noQ (fun Q q => ⟨_, rfl, rfl, _, rfl, q⟩) ?_
        refine noQ (fun Q q => ⟨_, rfl, rfl, _, rfl, q⟩) ?_
        exact ⟨_, rfl, _, rfl, _, _, rfl, rfl, q⟩
end
section
variable {P : Program} {w : World} {K : PySem.W.Frag} {mg : Str → Option Value} {base : Heap}
abbrev s_law_worth : Stmt := topS 9
theorem sc_law_worth : FnScope ["value", "values", "left", "right"] ["value", "values"] (defScope s_law_worth) := ⟨rfl, rfl, rfl, by decide +kernel, rfl, by decide +kernel, by decide +kernel⟩
-- _law_worth slots: value=0 values=1 left=2 right=3 globals: isinstance int str _law_worth
theorem fd_law_worth {f : Addr} {fd : FuncData} (F : Fun K "_law_worth" "_law_worth" s_law_worth f fd) (m : mg "_law_worth" = some (.ref f)) (B : Bt mg) : ∀ n : Nat, Fd P w K mg base "_law_worth" ["value", "values"] n (spValue n)
  | 0 => Fd.none F m (F.binds (ps := ["value", "values"]) fun _ _ _ _ _ _ us hl => match us, hl with | [_, _], _ => rfl) fun vs H Q E h => by
    obtain ⟨v, d, t, kvs, _, _, h, _⟩ := h
    exact absurd h (Nat.not_lt_zero _)
  | n + 1 => by
    have D_law_worth := fd_law_worth F m B n
    refine ⟨f, fd, F.ok sc_law_worth (fun vs H Q E h => ?_) (fun cdv A outer s H vs Q E hr h => ?_), m, F.kp, F.binds (ps := ["value", "values"]) fun _ _ _ _ _ _ us hl => match us, hl with | [_, _], _ => rfl⟩
    · obtain ⟨v, d, t, kvs, rfl, _⟩ := h
      rfl
    obtain ⟨v, d, t, kvs, rfl, hv, hh, hd, hf, hw, q⟩ := h
    refine ⟨_, (pss_cons (ps_if (pt_val (pe_callB (cIsi K) (by rfl) B.isinstance (by decide +kernel) (pa_cons (pv 0) (pa_cons (pe_bltn (v := .ty "int") (by rfl) B.int (by decide +kernel) rfl) pa_nil))))
 (pss_one (ps_ret (pv 0)))
 pss_nil)
 (pss_cons (ps_if (pt_val (pe_callB (cIsi K) (by rfl) B.isinstance (by decide +kernel) (pa_cons (pv 0) (pa_cons (pe_bltn (v := .ty "str") (by rfl) B.str (by decide +kernel) rfl) pa_nil))))
 (pss_one (ps_ret (pe_dget (hu_of hr) (pv 1) (pv 0) (fun _ _ => rfl))))
 pss_nil)
 (pss_cons (ps_set (i := 2) sc_law_worth.nd rfl (Or.inl rfl) (pe_fn D_law_worth hr rfl (pa_cons (pe_ix (ixT K) (pv 0) pe_int (fun _ _ => rfl)) (pa_cons (pv 1) pa_nil))))
 (pss_cons (ps_set (i := 3) sc_law_worth.nd rfl (Or.inl rfl) (pe_fn D_law_worth hr rfl (pa_cons (pe_ix (ixT K) (pv 0) pe_int (fun _ _ => rfl)) (pa_cons (pv 1) pa_nil))))
 (pss_cons (ps_if (pt_cmpR op_eq (pe_ix (ixT K) (pv 0) pe_int (fun _ _ => rfl)) pe_str (nomark _))
 (pss_one (ps_ret (pe_op op_add (pv 2) (pv 3))))
 pss_nil)
 (pss_cons (ps_if (pt_cmpR op_eq (pe_ix (ixT K) (pv 0) pe_int (fun _ _ => rfl)) pe_str (nomark _))
 (pss_one (ps_ret (pe_op op_sub (pv 2) (pv 3))))
 pss_nil)
 (pss_one (ps_ret (pe_op op_mulW (pv 2) (pv 3)))))))))), ?_⟩
    cases t with
    | int i =>
      obtain rfl := hv
      exact yesQ (ansIsi (T := "int") (fun Q q => ⟨_, rfl, q⟩) (.base (.int _)) (by decide +kernel)) ⟨_, rfl, q⟩
    | nm s =>
      obtain rfl := hv
      refine noQ (ansIsi (T := "str") (fun Q q => ⟨_, rfl, q⟩) (.base (.str _)) (by decide +kernel)) ?_
      obtain ⟨i, e, hi⟩ := hf
      refine yesQ (ansIsi (T := "str") (fun Q q => ⟨_, rfl, q⟩) (.base (.str _)) (by decide +kernel)) ⟨_, rfl, _, rfl, d, .int i, rfl, ?_, ?_⟩
      · have := DGet.k (k := Sum.inr s) hd
        rw [e] at this
        exact this
      · have q2 : Q (.int (look kvs s)) H := q
        rw [look_val e] at q2
        exact q2
    | op o a b =>
      obtain ⟨t, x, y, rfl, ht, ha, hb⟩ := hv
      have hh2 : max a.ht b.ht + 1 < n + 1 := hh
      have hw2 : a.wt + b.wt ≤ 100000 := hw
      refine noQ (ansIsi (T := "tuple") (fun Q q => ⟨_, rfl, q⟩) (.base (.tup ht)) (by decide +kernel)) ?_
      refine noQ (ansIsi (T := "tuple") (fun Q q => ⟨_, rfl, q⟩) (.base (.tup ht)) (by decide +kernel)) ?_
      refine ⟨_, rfl, _, _, _, _, rfl, rfl, st ht, atI_nat (j := 1) rfl, _, rfl, x, d, a, kvs, rfl, ha, by omega, hd, hf.1, by omega, ?_⟩
      refine ⟨_, rfl, _, _, _, _, rfl, rfl, st ht, atI_nat (j := 2) rfl, _, rfl, y, d, b, kvs, rfl, hb, by omega, hd, hf.2, by omega, ?_⟩
      have l1 := ev_lt hf.1
      have l2 := ev_lt hf.2
      have p1 := a.wt_pos
      have p2 := b.wt_pos
      dsimp only [gName]
      cases o with
      | add => exact yesQ (fun Q q => ⟨_, rfl, _, _, _, _, rfl, rfl, st ht, atI_nat (j := 0) rfl, rfl, _, rfl, q⟩) ⟨_, rfl, _, rfl, _, _, rfl, rfl, q⟩
      | sub =>
        refine noQ (fun Q q => ⟨_, rfl, _, _, _, _, rfl, rfl, st ht, atI_nat (j := 0) rfl, rfl, _, rfl, q⟩) ?_
        exact yesQ (fun Q q => ⟨_, rfl, _, _, _, _, rfl, rfl, st ht, atI_nat (j := 0) rfl, rfl, _, rfl, q⟩) ⟨_, rfl, _, rfl, _, _, rfl, rfl, q⟩
      | mul =>
        refine noQ (fun Q q => ⟨_, rfl, _, _, _, _, rfl, rfl, st ht, atI_nat (j := 0) rfl, rfl, _, rfl, q⟩) ?_
        refine noQ (fun Q q => ⟨_, rfl, _, _, _, _, rfl, rfl, st ht, atI_nat (j := 0) rfl, rfl, _, rfl, q⟩) ?_
        exact ⟨_, rfl, _, rfl, _, _, rfl, rfl, wide_mul l1 l2 (by omega) (by omega) (by omega), q⟩
end
section
variable {P : Program} {w : World} {K : PySem.W.Frag} {mg : Str → Option Value} {base : Heap}
abbrev s_law_holds : Stmt := topS 10
theorem sc_law_holds : FnScope ["condition", "values", "left", "right"] ["condition", "values"] (defScope s_law_holds) := ⟨rfl, rfl, rfl, by decide +kernel, rfl, by decide +kernel, by decide +kernel⟩
-- _law_holds slots: condition=0 values=1 left=2 right=3 globals: isinstance bool _law_holds _law_worth
theorem fd_law_holds {f : Addr} {fd : FuncData} (F : Fun K "_law_holds" "_law_holds" s_law_holds f fd) (m : mg "_law_holds" = some (.ref f)) (B : Bt mg) {nv : Nat} (D_law_worth : Fd P w K mg base "_law_worth" ["value", "values"] nv (spValue nv)) : ∀ n : Nat, Fd P w K mg base "_law_holds" ["condition", "values"] (nv + n) (spHolds nv n)
  | 0 => Fd.none F m (F.binds (ps := ["condition", "values"]) fun _ _ _ _ _ _ us hl => match us, hl with | [_, _], _ => rfl) fun vs H Q E h => by
    obtain ⟨v, d, t, kvs, _, _, h, _⟩ := h
    exact absurd h (Nat.not_lt_zero _)
  | n + 1 => by
    have D_law_holds := fd_law_holds F m B D_law_worth n
    refine ⟨f, fd, F.ok sc_law_holds (fun vs H Q E h => ?_) (fun cdv A outer s H vs Q E hr h => ?_), m, F.kp, F.binds (ps := ["condition", "values"]) fun _ _ _ _ _ _ us hl => match us, hl with | [_, _], _ => rfl⟩
    · obtain ⟨v, d, t, kvs, rfl, _⟩ := h
      rfl
    obtain ⟨v, d, t, kvs, rfl, hv, hh, hd, hf, q⟩ := h
    refine ⟨_, (pss_cons (ps_if (pt_val (pe_callB (cIsi K) (by rfl) B.isinstance (by decide +kernel) (pa_cons (pv 0) (pa_cons (pe_bltn (v := .ty "bool") (by rfl) B.bool (by decide +kernel) rfl) pa_nil))))
 (pss_one (ps_ret (pv 0)))
 pss_nil)
 (pss_cons (ps_if (pt_cmpR op_eq (pe_ix (ixT K) (pv 0) pe_int (fun _ _ => rfl)) pe_str (nomark _))
 (pss_one (ps_ret (pe_not (pe_fn D_law_holds hr rfl (pa_cons (pe_ix (ixT K) (pv 0) pe_int (fun _ _ => rfl)) (pa_cons (pv 1) pa_nil))))))
 pss_nil)
 (pss_cons (ps_if (pt_cmpR op_eq (pe_ix (ixT K) (pv 0) pe_int (fun _ _ => rfl)) pe_str (nomark _))
 (pss_one (ps_ret (pe_and (pe_fn D_law_holds hr rfl (pa_cons (pe_ix (ixT K) (pv 0) pe_int (fun _ _ => rfl)) (pa_cons (pv 1) pa_nil))) (pe_one (pe_fn D_law_holds hr rfl (pa_cons (pe_ix (ixT K) (pv 0) pe_int (fun _ _ => rfl)) (pa_cons (pv 1) pa_nil)))))))
 pss_nil)
 (pss_cons (ps_if (pt_cmpR op_eq (pe_ix (ixT K) (pv 0) pe_int (fun _ _ => rfl)) pe_str (nomark _))
 (pss_one (ps_ret (pe_or (pe_fn D_law_holds hr rfl (pa_cons (pe_ix (ixT K) (pv 0) pe_int (fun _ _ => rfl)) (pa_cons (pv 1) pa_nil))) (pe_one (pe_fn D_law_holds hr rfl (pa_cons (pe_ix (ixT K) (pv 0) pe_int (fun _ _ => rfl)) (pa_cons (pv 1) pa_nil)))))))
 pss_nil)
 (pss_cons (ps_set (i := 2) sc_law_holds.nd rfl (Or.inl rfl) (pe_fn D_law_worth (hr.mono (Nat.le_add_right _ _)) rfl (pa_cons (pe_ix (ixT K) (pv 0) pe_int (fun _ _ => rfl)) (pa_cons (pv 1) pa_nil))))
 (pss_cons (ps_set (i := 3) sc_law_holds.nd rfl (Or.inl rfl) (pe_fn D_law_worth (hr.mono (Nat.le_add_right _ _)) rfl (pa_cons (pe_ix (ixT K) (pv 0) pe_int (fun _ _ => rfl)) (pa_cons (pv 1) pa_nil))))
 (pss_cons (ps_if (pt_cmpR op_eq (pe_ix (ixT K) (pv 0) pe_int (fun _ _ => rfl)) pe_str (nomark _))
 (pss_one (ps_ret (pe_cmpR op_eq (pv 2) (pv 3) (nomark _))))
 pss_nil)
 (pss_cons (ps_if (pt_cmpR op_eq (pe_ix (ixT K) (pv 0) pe_int (fun _ _ => rfl)) pe_str (nomark _))
 (pss_one (ps_ret (pe_cmpR op_lt (pv 2) (pv 3) (nomark _))))
 pss_nil)
 (pss_one (ps_ret (pe_cmpR op_le (pv 2) (pv 3) (nomark _)))))))))))), ?_⟩
    cases t with
    | bl b =>
      obtain rfl := hv
      exact yesQ (ansIsi (T := "bool") (fun Q q => ⟨_, rfl, q⟩) (.base (.bl _)) (by decide +kernel)) ⟨_, rfl, q⟩
    | no c =>
      obtain ⟨t, x, rfl, ht, ha⟩ := hv
      have hh2 : c.ht + 1 < n + 1 := hh
      refine noQ (ansIsi (T := "tuple") (fun Q q => ⟨_, rfl, q⟩) (.base (.tup ht)) (by decide +kernel)) ?_
      refine yesQ (fun Q q => ⟨_, rfl, _, _, _, _, rfl, rfl, st ht, atI_nat (j := 0) rfl, rfl, _, rfl, q⟩) ?_
      exact ⟨_, rfl, _, _, _, _, rfl, rfl, st ht, atI_nat (j := 1) rfl, _, rfl, x, d, c, kvs, rfl, ha, by omega, hd, hf, _, rfl, q⟩
    | an a b =>
      obtain ⟨t, x, y, rfl, ht, ha, hb⟩ := hv
      have hh2 : max a.ht b.ht + 1 < n + 1 := hh
      refine noQ (ansIsi (T := "tuple") (fun Q q => ⟨_, rfl, q⟩) (.base (.tup ht)) (by decide +kernel)) ?_
      refine noQ (fun Q q => ⟨_, rfl, _, _, _, _, rfl, rfl, st ht, atI_nat (j := 0) rfl, rfl, _, rfl, q⟩) ?_
      refine yesQ (fun Q q => ⟨_, rfl, _, _, _, _, rfl, rfl, st ht, atI_nat (j := 0) rfl, rfl, _, rfl, q⟩) ?_
      refine ⟨_, rfl, _, _, _, _, rfl, rfl, st ht, atI_nat (j := 1) rfl, _, rfl, x, d, a, kvs, rfl, ha, by omega, hd, hf.1, _, rfl, ?_⟩
      have q2 : Q (.bl (a.ev kvs && b.ev kvs)) H := q
      cases e : a.ev kvs with
      | true =>
        rw [e, Bool.true_and] at q2
        exact iteT ⟨_, rfl, _, _, _, _, rfl, rfl, st ht, atI_nat (j := 2) rfl, _, rfl, y, d, b, kvs, rfl, hb, by omega, hd, hf.2, q2⟩
      | false =>
        rw [e, Bool.false_and] at q2
        exact iteF q2
    | or a b =>
      obtain ⟨t, x, y, rfl, ht, ha, hb⟩ := hv
      have hh2 : max a.ht b.ht + 1 < n + 1 := hh
      refine noQ (ansIsi (T := "tuple") (fun Q q => ⟨_, rfl, q⟩) (.base (.tup ht)) (by decide +kernel)) ?_
      refine noQ (fun Q q => ⟨_, rfl, _, _, _, _, rfl, rfl, st ht, atI_nat (j := 0) rfl, rfl, _, rfl, q⟩) ?_
      refine noQ (fun Q q => ⟨_, rfl, _, _, _, _, rfl, rfl, st ht, atI_nat (j := 0) rfl, rfl, _, rfl, q⟩) ?_
      refine yesQ (fun Q q => ⟨_, rfl, _, _, _, _, rfl, rfl, st ht, atI_nat (j := 0) rfl, rfl, _, rfl, q⟩) ?_
      refine ⟨_, rfl, _, _, _, _, rfl, rfl, st ht, atI_nat (j := 1) rfl, _, rfl, x, d, a, kvs, rfl, ha, by omega, hd, hf.1, _, rfl, ?_⟩
      have q2 : Q (.bl (a.ev kvs || b.ev kvs)) H := q
      cases e : a.ev kvs with
      | true =>
        rw [e, Bool.true_or] at q2
        exact iteT q2
      | false =>
        rw [e, Bool.false_or] at q2
        exact iteF ⟨_, rfl, _, _, _, _, rfl, rfl, st ht, atI_nat (j := 2) rfl, _, rfl, y, d, b, kvs, rfl, hb, by omega, hd, hf.2, q2⟩
    | cp o a b =>
      obtain ⟨t, x, y, rfl, ht, ha, hb⟩ := hv
      refine noQ (ansIsi (T := "tuple") (fun Q q => ⟨_, rfl, q⟩) (.base (.tup ht)) (by decide +kernel)) ?_
      have n1 : ∀ (z : Str), z = Str.ofString "not" ∨ z = Str.ofString "and" ∨ z = Str.ofString "or" → decide (V.str o.tx = V.str z) = false := by
        intro z hz
        rcases hz with rfl | rfl | rfl <;> cases o <;> decide +kernel
      refine noQ (fun Q q => ⟨_, rfl, _, _, _, _, rfl, rfl, st ht, atI_nat (j := 0) rfl, rfl, _, rfl, (n1 _ (.inl rfl)).symm ▸ q⟩) ?_
      refine noQ (fun Q q => ⟨_, rfl, _, _, _, _, rfl, rfl, st ht, atI_nat (j := 0) rfl, rfl, _, rfl, (n1 _ (.inr (.inl rfl))).symm ▸ q⟩) ?_
      refine noQ (fun Q q => ⟨_, rfl, _, _, _, _, rfl, rfl, st ht, atI_nat (j := 0) rfl, rfl, _, rfl, (n1 _ (.inr (.inr rfl))).symm ▸ q⟩) ?_
      refine ⟨_, rfl, _, _, _, _, rfl, rfl, st ht, atI_nat (j := 1) rfl, _, rfl, x, d, a, kvs, rfl, ha, hf.1.2.1, hd, hf.1.1, hf.1.2.2, ?_⟩
      refine ⟨_, rfl, _, _, _, _, rfl, rfl, st ht, atI_nat (j := 2) rfl, _, rfl, y, d, b, kvs, rfl, hb, hf.2.2.1, hd, hf.2.1, hf.2.2.2, ?_⟩
      dsimp only [gName]
      cases o with
      | eq => exact yesQ (fun Q q => ⟨_, rfl, _, _, _, _, rfl, rfl, st ht, atI_nat (j := 0) rfl, rfl, _, rfl, q⟩) ⟨_, rfl, _, rfl, rfl, q⟩
      | lt =>
        refine noQ (fun Q q => ⟨_, rfl, _, _, _, _, rfl, rfl, st ht, atI_nat (j := 0) rfl, rfl, _, rfl, q⟩) ?_
        exact yesQ (fun Q q => ⟨_, rfl, _, _, _, _, rfl, rfl, st ht, atI_nat (j := 0) rfl, rfl, _, rfl, q⟩) ⟨_, rfl, _, rfl, _, _, rfl, rfl, q⟩
      | le =>
        refine noQ (fun Q q => ⟨_, rfl, _, _, _, _, rfl, rfl, st ht, atI_nat (j := 0) rfl, rfl, _, rfl, q⟩) ?_
        refine noQ (fun Q q => ⟨_, rfl, _, _, _, _, rfl, rfl, st ht, atI_nat (j := 0) rfl, rfl, _, rfl, q⟩) ?_
        exact ⟨_, rfl, _, rfl, _, _, rfl, rfl, q⟩
end
section
variable {P : Program} {w : World} {K : PySem.W.Frag} {mg : Str → Option Value} {base : Heap}
abbrev s_law_cell : Stmt := topS 4
theorem sc_law_cell : FnScope ["script", "k"] ["script", "k"] (defScope s_law_cell) := ⟨rfl, rfl, rfl, by decide +kernel, rfl, by decide +kernel, by decide +kernel⟩
-- _law_cell slots: script=0 k=1 globals: len int
def spCellA (K : PySem.W.Frag) : Sp := fun vs H Q _ => ∃ (a : Addr) (ns : List Int) (k : Nat), vs = [.ref a, .int (k : Int)] ∧ SqL K H a (ns.map V.int) ∧ ∀ z : Int, Q (.int z) H
theorem fd_law_cell {f : Addr} {fd : FuncData} (F : Fun K "_law_cell" "_law_cell" s_law_cell f fd) (m : mg "_law_cell" = some (.ref f)) (B : Bt mg) : Fd P w K mg base "_law_cell" ["script", "k"] 1 (spCellA K) := by
  refine ⟨f, fd, F.ok sc_law_cell (fun vs H Q E h => ?_) (fun cdv A outer s H vs Q E hr h => ?_), m, F.kp, F.binds (ps := ["script", "k"]) fun _ _ _ _ _ _ us hl => match us, hl with | [_, _], _ => rfl⟩
  · obtain ⟨a, ns, k, rfl, _⟩ := h
    rfl
  obtain ⟨a, ns, k, rfl, hs, q⟩ := h
  refine ⟨_, (pss_cons (ps_if (pt_cmpR op_lt (pv 1) (pe_callB (cLen K) (by rfl) B.len PySem.boot_len (pa_cons (pv 0) pa_nil)) (nomark _))
 (pss_one (ps_ret (pe_callTy call_int1 (by rfl) B.int (by decide +kernel) (pa_cons (pe_ix (ixQ K) (pv 0) (pv 1) (fun _ _ => rfl)) pa_nil))))
 pss_nil)
 (pss_one (ps_ret pe_int))), ?_⟩
  refine ⟨_, rfl, _, rfl, a, _, rfl, .inl hs, _, _, rfl, rfl, _, rfl, ite2 (fun e => ?_) (fun e => ?_)⟩
  · have e1 := of_decide_eq_true e
    rw [List.length_map] at e1
    have e2 : k < ns.length := by omega
    refine ⟨_, rfl, _, rfl, .inl ⟨a, _, _, _, rfl, rfl, hs, atI_nat (get_map (List.getElem?_eq_getElem e2)), .inl ⟨_, rfl, q _⟩⟩⟩
  · exact q _
end
section
variable {P : Program} {w : World} {K : PySem.W.Frag} {mg : Str → Option Value} {base : Heap}
abbrev s_law_draws : Stmt := topS 5
theorem sc_law_draws : FnScope ["cell", "limits", "found", "rest", "state", "free", "limit"] ["cell", "limits"] (defScope s_law_draws) := ⟨rfl, rfl, rfl, by decide +kernel, rfl, by decide +kernel, by decide +kernel⟩
-- _law_draws slots: cell=0 limits=1 found=2 rest=3 state=4 free=5 limit=6 globals: abs int
def spDraws (K : PySem.W.Frag) : Sp := fun vs H Q _ => ∃ (a : Addr) (c : Int) (ms : List Int), vs = [.int c, .ref a] ∧ SqL K H a (ms.map V.int) ∧ (∀ m ∈ ms, 0 < m ∧ m < 1073741824) ∧ ms.length ≤ 1000 ∧
  ∀ H' p ds, Same H H' → H p = none → H' p = some (.lst (ds.map V.int)) → DOk ds ms → Q (.ref p) H'
/-- the loop's word -/
def DrI (H : Hp) (a o : Addr) (c : Int) (fr : Bool) (ms : List Int) (i : Nat) (σ' : L2.St) (H' : Hp) : Prop := ∃ (r s0 : Int) (y : Option V) (ds : List Int), σ' = [some (.int c), some (.ref a), some (.ref o), some (.int r), some (.int s0), some (.bl fr), y] ∧
    0 ≤ s0 ∧ s0 < 2147483647 ∧ Same H H' ∧ H' o = some (.lst (ds.map V.int)) ∧ DOk ds (ms.take i)
theorem fd_law_draws {f : Addr} {fd : FuncData} (F : Fun K "_law_draws" "_law_draws" s_law_draws f fd) (m : mg "_law_draws" = some (.ref f)) (B : Bt mg) : Fd P w K mg base "_law_draws" ["cell", "limits"] 1 (spDraws K) := by
  refine ⟨f, fd, F.ok sc_law_draws (fun vs H Q E h => ?_) (fun cdv A outer s H vs Q E hr h => ?_), m, F.kp, F.binds (ps := ["cell", "limits"]) fun _ _ _ _ _ _ us hl => match us, hl with | [_, _], _ => rfl⟩
  · obtain ⟨a, c, ms, rfl, _⟩ := h
    rfl
  obtain ⟨a, c, ms, rfl, hs, hm, hl, q⟩ := h
  refine ⟨_, (pss_cons (ps_set (i := 2) sc_law_draws.nd rfl (Or.inl rfl) (pe_lst pa_nil))
 (pss_cons (ps_set (i := 3) sc_law_draws.nd rfl (Or.inl rfl) (pe_callB call_abs (by rfl) B.abs (by decide +kernel) (pa_cons (pe_callTy call_int1 (by rfl) B.int (by decide +kernel) (pa_cons (pv 0) pa_nil)) pa_nil)))
 (pss_cons (ps_set (i := 4) sc_law_draws.nd rfl (Or.inl rfl) (pe_op op_mod (pe_callTy call_int1 (by rfl) B.int (by decide +kernel) (pa_cons (pv 3) pa_nil)) pe_int))
 (C8.pss_cut (ps_set (i := 5) sc_law_draws.nd rfl (Or.inl rfl) (pe_or (pe_cmpR op_lt (pv 0) pe_int (nomark _)) (pe_one (pe_cmpR op_ge (pv 0) (pe_op op_pow pe_int pe_int) (nomark _)))))
 (pss_cons (ps_for PassesOwn.never rfl (piL K (pv 1)) (pg_name (i := 6) sc_law_draws.nd rfl (Or.inl rfl))
 (pss_one (ps_if (PW.pt (pw_and (pt_val (pv 5)) (pw_and1 (pt_cmpR op_gt (pv 3) pe_int (nomark _)))))
 (pss_cons (ps_expr (peBm K PySem.F.plainAttrs_list PySem.F.slot_list_append PySem.F.type_list_append mt_append (pv 2) (pa_cons (pe_op op_mod (pe_callTy call_int1 (by rfl) B.int (by decide +kernel) (pa_cons (pv 3) pa_nil)) (pv 6)) pa_nil)))
 (pss_one (ps_set (i := 3) sc_law_draws.nd rfl (Or.inl rfl) (pe_op op_fdiv (pv 3) (pv 6)))))
 (pss_cons (ps_set (i := 4) sc_law_draws.nd rfl (Or.inl rfl) (pe_op op_mod (pe_callTy call_int1 (by rfl) B.int (by decide +kernel) (pa_cons (pe_op op_add (pe_op op_mul (pv 4) pe_int) pe_int) pa_nil)) pe_int))
 (pss_cons (ps_set (i := 4) sc_law_draws.nd rfl (Or.inl rfl) (pe_op op_mod (pe_callTy call_int1 (by rfl) B.int (by decide +kernel) (pa_cons (pe_op op_add (pe_op op_mul (pv 4) pe_int) pe_int) pa_nil)) pe_int))
 (pss_one (ps_expr (peBm K PySem.F.plainAttrs_list PySem.F.slot_list_append PySem.F.type_list_append mt_append (pv 2) (pa_cons (pe_op op_mod (pe_callTy call_int1 (by rfl) B.int (by decide +kernel) (pa_cons (pe_op op_fdiv (pv 4) pe_int) pa_nil)) (pv 6)) pa_nil)))))))))
 (pss_one (ps_ret (pv 2)))))))), ?_⟩
  refine ⟨sz (by decide), fun o no => ?_⟩
  refine ⟨_, rfl, .inl ⟨_, rfl, _, rfl, ?_⟩⟩
  refine ⟨_, rfl, .inl ⟨_, rfl, _, _, rfl, rfl, (by show (0 : Int) < 2147483647; decide), ?_⟩⟩
  generalize e1 : (if c < 0 then -c else c) = r0
  refine ⟨fun σ' H' => ∃ (fr : Bool), σ' = [some (.int c), some (.ref a), some (.ref o), some (.int r0), some (.int (r0 % 2147483647)), some (.bl fr), none] ∧ H' = upd H o (.lst []), ?_, fun σ' H' => ?_⟩
  · refine ⟨_, rfl, _, _, rfl, rfl, _, rfl, ite2 (fun e => ⟨true, rfl, rfl⟩) (fun e => ?_)⟩
    refine ⟨_, rfl, _, _, rfl, rfl, ⟨by decide, by decide, by decide⟩, _, _, rfl, rfl, ⟨_, rfl, rfl⟩⟩
  rintro ⟨fr, rfl, rfl⟩
  refine ⟨_, rfl, a, rfl, ⟨_, (same_new no).seq hs⟩, for_list (xs := ms.map V.int) (DrI H a o c fr ms) ?_ ?_ ?_ ?_⟩
  · exact ⟨r0, _, none, [], rfl, Int.emod_nonneg _ (by decide), Int.emod_lt_of_pos _ (by decide), same_new no, upd_same, trivial⟩
  · rintro i σ' H' _ ⟨r, s0, y, ds, rfl, _, _, sm, _⟩
    exact sm.seq hs
  · rintro i x σ' H' hx ⟨r, s0, y, ds, rfl, h0, h1, sm, eo, hd⟩
    obtain ⟨lim, hlim, rfl⟩ := get_map_inv hx
    have hb := hm lim (List.mem_of_getElem? hlim)
    have hi2 : i < ms.length := (List.getElem?_eq_some_iff.mp hlim).1
    have hdl := hd.len
    rw [List.length_take] at hdl
    have dl : (ds.map V.int).length < sizeLine := szl (by rw [List.length_map]; omega)
    have fin : ∀ (r1 s1 d : Int), 0 ≤ s1 → s1 < 2147483647 → 0 ≤ d → d < lim → DrI H a o c fr ms (i + 1) [some (V.int c), some (.ref a), some (.ref o), some (.int r1), some (.int s1), some (.bl fr), some (.int lim)] (upd H' o (.lst (ds.map V.int ++ [.int d]))) := fun r1 s1 d a1 a2 a3 a4 =>
      ⟨r1, s1, _, ds ++ [d], rfl, a1, a2, Same.mut sm no, by rw [upd_same, List.map_append]; rfl, by rw [take_snoc hlim]; exact hd.snoc a3 a4⟩
    have no1 : ∀ z : Int, 0 ≤ z % lim ∧ z % lim < lim := fun z => ⟨Int.emod_nonneg _ (by omega), Int.emod_lt_of_pos _ (by omega)⟩
    have els : ∀ (r1 s1 : Int), True := fun _ _ => trivial
    refine ⟨_, rfl, fr, rfl, ?_⟩
    cases fr with
    | true =>
      refine iteT ⟨_, rfl, _, _, rfl, rfl, _, rfl, ite2 (fun e => ?_) (fun e => ?_)⟩
      · refine ⟨_, rfl, .inl ⟨rfl, _, sq eo⟩, _, rfl, .inl ⟨_, rfl, _, rfl, _, _, rfl, rfl, hb.1, o, _, _, rfl, rfl, eo, dl, ?_⟩⟩
        refine ⟨_, rfl, _, rfl, _, _, rfl, rfl, ⟨hb.1, hb.2⟩, ?_⟩
        exact fin _ _ _ h0 h1 (no1 r).1 (no1 r).2
      · refine ⟨_, rfl, _, _, rfl, rfl, .inl ⟨by omega, by omega⟩, _, _, rfl, rfl, .inl ⟨_, rfl, _, _, rfl, rfl, (by show (0 : Int) < 2147483647; decide), ?_⟩⟩
        have b1 := Int.emod_nonneg (s0 * 48271 + 11) (show (2147483647 : Int) ≠ 0 by decide)
        have b2 := Int.emod_lt_of_pos (s0 * 48271 + 11) (show (0 : Int) < 2147483647 by decide)
        refine ⟨_, rfl, _, _, rfl, rfl, .inl ⟨by omega, by omega⟩, _, _, rfl, rfl, .inl ⟨_, rfl, _, _, rfl, rfl, (by show (0 : Int) < 2147483647; decide), ?_⟩⟩
        refine ⟨_, rfl, .inl ⟨rfl, _, sq eo⟩, _, rfl, _, _, rfl, rfl, ⟨by decide, by decide⟩, .inl ⟨_, rfl, _, rfl, _, _, rfl, rfl, hb.1, o, _, _, rfl, rfl, eo, dl, ?_⟩⟩
        exact fin _ _ _ (Int.emod_nonneg _ (by decide)) (Int.emod_lt_of_pos _ (by decide)) (no1 _).1 (no1 _).2
    | false =>
      refine iteF ?_
      refine ⟨_, rfl, _, _, rfl, rfl, .inl ⟨by omega, by omega⟩, _, _, rfl, rfl, .inl ⟨_, rfl, _, _, rfl, rfl, (by show (0 : Int) < 2147483647; decide), ?_⟩⟩
      have b1 := Int.emod_nonneg (s0 * 48271 + 11) (show (2147483647 : Int) ≠ 0 by decide)
      have b2 := Int.emod_lt_of_pos (s0 * 48271 + 11) (show (0 : Int) < 2147483647 by decide)
      refine ⟨_, rfl, _, _, rfl, rfl, .inl ⟨by omega, by omega⟩, _, _, rfl, rfl, .inl ⟨_, rfl, _, _, rfl, rfl, (by show (0 : Int) < 2147483647; decide), ?_⟩⟩
      refine ⟨_, rfl, .inl ⟨rfl, _, sq eo⟩, _, rfl, _, _, rfl, rfl, ⟨by decide, by decide⟩, .inl ⟨_, rfl, _, rfl, _, _, rfl, rfl, hb.1, o, _, _, rfl, rfl, eo, dl, ?_⟩⟩
      exact fin _ _ _ (Int.emod_nonneg _ (by decide)) (Int.emod_lt_of_pos _ (by decide)) (no1 _).1 (no1 _).2
  · rintro σ' H' ⟨r, s0, y, ds, rfl, h0, h1, sm, eo, hd⟩
    rw [List.length_map, List.take_length] at hd
    exact ⟨_, rfl, q H' o ds sm no eo hd⟩
end
section
variable {P : Program} {w : World} {K : PySem.W.Frag} {mg : Str → Option Value} {base : Heap}
abbrev s_law_names : Stmt := topS 6
theorem sc_law_names : FnScope ["cell", "count", "reserved", "letters", "signs", "names", "k", "draws", "size", "j", "name"] ["cell", "count"] (defScope s_law_names) := ⟨rfl, rfl, rfl, by decide +kernel, rfl, by decide +kernel, by decide +kernel⟩
-- _law_names slots: cell=0 count=1 reserved=2 letters=3 signs=4(cell) names=5 k=6 draws=7(cell) size=8 j=9 name=10 globals: range _law_draws int min str
def spNames (K : PySem.W.Frag) : Sp := fun vs H Q _ => ∃ (c z : Int) (n : Nat), vs = [.int c, .int z] ∧ z = (n : Int) ∧ n ≤ 30 ∧
  ∀ H' p (ss : List Str), Same H H' → H p = none → H' p = some (.lst (ss.map V.str)) → ss.length = n → NmsOk ss → Q (.ref p) H'
def NmI (H : Hp) (c : Int) (n : Nat) (lt sg : Str) (rs : List V) (pr o : Addr) (i : Nat) (σ' : L2.St) (H' : Hp) : Prop :=
  ∃ (y6 y7 y8 y9 y10 : Option V) (ss : List Str), σ' = [some (.int c), some (.int (n : Int)), some (.ref pr), some (.str lt), some (.str sg), some (.ref o), y6, y7, y8, y9, y10] ∧
    Same H H' ∧ H' pr = some (.lst rs) ∧ H' o = some (.lst (ss.map V.str)) ∧ ss.length = i ∧ NmsOk ss
theorem fd_law_names {f : Addr} {fd : FuncData} (F : Fun K "_law_names" "_law_names" s_law_names f fd) (m : mg "_law_names" = some (.ref f)) (B : Bt mg) (D_law_draws : Fd P w K mg base "_law_draws" ["cell", "limits"] 1 (spDraws K)) :
    Fd P w K mg base "_law_names" ["cell", "count"] 2 (spNames K) := by
  refine ⟨f, fd, F.ok sc_law_names (fun vs H Q E h => ?_) (fun cdv A outer s H vs Q E hr h => ?_), m, F.kp, F.binds (ps := ["cell", "count"]) fun _ _ _ _ _ _ us hl => match us, hl with | [_, _], _ => rfl⟩
  · obtain ⟨c, z, n, rfl, _⟩ := h
    rfl
  obtain ⟨c, _, n, rfl, rfl, hn, q⟩ := h
  refine ⟨_, (pss_cons (ps_set (i := 2) sc_law_names.nd rfl (Or.inl rfl) (pe_lst (pa_cons pe_str (pa_cons pe_str (pa_cons pe_str (pa_cons pe_str (pa_cons pe_str (pa_cons pe_str (pa_cons pe_str (pa_cons pe_str (pa_cons pe_str (pa_cons pe_str (pa_cons pe_str (pa_cons pe_str (pa_cons pe_str pa_nil)))))))))))))))
 (pss_cons (ps_set (i := 2) sc_law_names.nd rfl (Or.inl rfl) (pe_op (opCat K) (pv 2) (pe_lst (pa_cons pe_str (pa_cons pe_str (pa_cons pe_str (pa_cons pe_str (pa_cons pe_str (pa_cons pe_str (pa_cons pe_str (pa_cons pe_str (pa_cons pe_str (pa_cons pe_str (pa_cons pe_str pa_nil))))))))))))))
 (pss_cons (ps_set (i := 3) sc_law_names.nd rfl (Or.inl rfl) pe_str)
 (pss_cons (ps_set (i := 4) sc_law_names.nd rfl (Or.inr rfl) (pe_op op_add_str (pv 3) pe_str))
 (pss_cons (ps_set (i := 5) sc_law_names.nd rfl (Or.inl rfl) (pe_lst pa_nil))
 (pss_cons (ps_for PassesOwn.never rfl (pi_range1 rfl B.range (pa_cons (pv 1) pa_nil)) (pg_name (i := 6) sc_law_names.nd rfl (Or.inl rfl))
 (pss_cons (ps_set (i := 7) sc_law_names.nd rfl (Or.inr rfl) (pe_fn D_law_draws (hr.mono (by decide)) rfl (pa_cons (pe_op op_add (pe_op op_fdiv (pe_callTy call_int1 (by rfl) B.int (by decide +kernel) (pa_cons (pv 0) pa_nil)) pe_int) (pe_op op_mul pe_int (pv 6))) (pa_cons (pe_op (opCat K) (pe_lst (pa_cons pe_int (pa_cons pe_int pa_nil))) (pe_op op_rep (pe_lst (pa_cons pe_int pa_nil)) pe_int)) pa_nil))))
 (pss_cons (ps_set (i := 8) sc_law_names.nd rfl (Or.inl rfl) (pe_ix (ixL K) (pe_lst (pa_cons pe_int (pa_cons pe_int (pa_cons pe_int (pa_cons pe_int (pa_cons pe_int (pa_cons pe_int (pa_cons pe_int (pa_cons pe_int pa_nil))))))))) (pe_ix (ixL K) (pv 7) pe_int (fun _ _ => rfl)) (fun _ _ => rfl)))
 (C8.pss_cut (ps_if (PW.pt (pw_and (pt_cmpR op_lt (pv 6) pe_int (nomark _)) (pw_and1 (pt_cmpR op_gt (pv 1) pe_int (nomark _)))))
 (pss_one (ps_set (i := 8) sc_law_names.nd rfl (Or.inl rfl) (pe_callB (call_min2 rfl) (by rfl) B.min (by decide +kernel) (pa_cons (pv 8) (pa_cons pe_int pa_nil)))))
 pss_nil)
 (pss_cons (ps_set (i := 10) sc_law_names.nd rfl (Or.inl rfl) (pe_op op_add_str (pe_ix ix_str (pv 3) (pe_ix (ixL K) (pv 7) pe_int (fun _ _ => rfl)) (fun _ _ => rfl)) (pe_join pe_str (pe_lc (own := [("j", 9)]) (g := gName 9) (by rfl) sc_law_names.nd (pi_range1 rfl B.range (pa_cons (pe_op op_sub (pv 8) pe_int) pa_nil)) (blkOk_by (own := [("j", 9)]) (N := ["cell", "count", "reserved", "letters", "signs", "names", "k", "draws", "size", "j", "name"]) (sc := (defScope s_law_names)) (by decide +kernel)) (fun _ _ _ _ _ => (pg_name (i := 9) sc_law_names.nd rfl (Or.inl rfl))) (fun _ _ _ _ _ => pts_nil) (fun _ _ _ _ _ => (pe_ix ix_str (pv 4) (pe_ix (ixL K) (pv 7) (pe_op op_add pe_int (pv 9)) (fun _ _ => rfl)) (fun _ _ => rfl)))))))
 (C8.pss_cut (ps_if (pt_cmpR op_eq (pe_ix (ixL K) (pv 7) pe_int (fun _ _ => rfl)) pe_int (nomark _))
 (pss_one (ps_set (i := 10) sc_law_names.nd rfl (Or.inl rfl) (pe_ix (ixL K) (pe_lst (pa_cons pe_str (pa_cons pe_str (pa_cons pe_str (pa_cons pe_str pa_nil))))) (pe_op op_and (pe_callTy call_int1 (by rfl) B.int (by decide +kernel) (pa_cons (pe_ix (ixL K) (pv 7) pe_int (fun _ _ => rfl)) pa_nil)) pe_int) (fun _ _ => rfl))))
 pss_nil)
 (pss_cons (ps_for PassesOwn.never rfl (pi_range1 rfl B.range (pa_cons pe_int pa_nil)) (pg_name (i := 9) sc_law_names.nd rfl (Or.inl rfl))
 (pss_one (ps_if (PW.pt (pw_or (pt_cmpR (opIn K) (pv 10) (pv 5) (by rfl)) (pw_or1 (pt_cmpR (opIn K) (pv 10) (pv 2) (by rfl)))))
 (pss_one (ps_set (i := 10) sc_law_names.nd rfl (Or.inl rfl) (pe_op op_add_str (pe_op op_add_str (pe_ix ix_str (pv 3) (pe_op op_mod (pe_callTy call_int1 (by rfl) B.int (by decide +kernel) (pa_cons (pv 9) pa_nil)) pe_int) (fun _ _ => rfl)) (pe_callTy call_str_int (by rfl) B.str (by decide +kernel) (pa_cons (pv 6) pa_nil))) (pe_slice sl_str pe_str po_none (po_some (pe_op op_fdiv (pv 9) pe_int))))))
 pss_nil)))
 (pss_one (ps_expr (peBm K PySem.F.plainAttrs_list PySem.F.slot_list_append PySem.F.type_list_append mt_append (pv 5) (pa_cons (pv 10) pa_nil)))))))))))
 (pss_one (ps_ret (pv 5))))))))), ?_⟩
  refine ⟨sz (by decide), fun p1 n1 => ?_⟩
  refine ⟨_, rfl, sz (by decide), fun p2 n2 => ⟨_, _, _, _, rfl, rfl, sq (same_new n2 _ _ upd_same), sq upd_same, sz (by decide), fun pr nr => ?_⟩⟩
  generalize hrs : ([V.str (Str.ofString "share"), _, _, _, _, _, _, _, _, _, _, _, _] ++ _ : List V) = rs
  refine ⟨_, rfl, _, _, rfl, rfl, sz (by decide), ?_⟩
  refine ⟨sz (by decide), fun o no => ?_⟩
  have hrv : rs = resv.map V.str := by rw [← hrs]; rfl
  have hflat : rs.all flatV = true := by rw [hrv]; exact flat_strs _
  have sm0 : Same H (upd (upd (upd H p1 _) p2 _) pr (.lst rs)) := ((same_new n1).trans (same_new n2)).trans (same_new nr)
  have ono : H o = none := sm0.free no
  have prno : H pr = none := ((same_new n1).trans (same_new n2)).free nr
  have opr : pr ≠ o := fun e => by rw [← e, upd_same] at no; cases no
  refine ⟨_, rfl, n, rfl, by omega, by omega, for_range (lo := 0) (n := ((n : Nat) : Int).toNat) (NmI H c n (Str.ofString "abcdefghijklmnopqrstuvwxyz") (Str.ofString "abcdefghijklmnopqrstuvwxyz" ++ Str.ofString "0123456789") rs pr o) ?_ ?_ ?_⟩
  · refine ⟨none, none, none, none, none, [], rfl, sm0.trans (same_new no), by rw [upd_ne opr, upd_same], upd_same, rfl, ⟨(fun s hs => by cases hs), (fun s hs => by cases hs), List.nodup_nil⟩⟩
  · rintro i σ' H' hi ⟨y6, y7, y8, y9, y10, ss, rfl, sm, er, eo, hl, hsz⟩
    have hi2 : i < n := by omega
    have hz : (0 : Int) + (i : Int) = (i : Int) := by omega
    refine ⟨_, rfl, .inl ⟨_, rfl, _, _, rfl, rfl, ⟨by decide, by decide⟩, _, rfl, _, _, rfl, rfl, .inl ⟨by decide, by decide⟩, _, _, rfl, rfl, ?_⟩⟩
    refine ⟨sz (by decide), fun q1 m1 => ⟨sz (by decide), fun q2 m2 => ⟨_, _, _, rfl, rfl, upd_same, by decide, by decide, sz (by decide), fun q3 m3 => ⟨_, _, _, _, rfl, rfl, sq (same_new m3 _ _ (same_new m2 _ _ upd_same)), sq upd_same, sz (by decide), fun q4 m4 => ?_⟩⟩⟩⟩
    refine ⟨q4, _, 8 :: 26 :: List.replicate 19 36, rfl, sq (upd_same (o := HO.lst (List.map V.int (8 :: 26 :: List.replicate 19 36)))), by decide, by decide, fun H1 pd ds s1 nd ed dk => ?_⟩
    have sm1 : Same H' H1 := (((same_new m1).trans (same_new m2)).trans (same_new m3)).trans (same_new m4) |>.trans s1
    clear s1 nd m4 m3 m2 m1
    obtain ⟨d0, r0, rfl, a0, a1, dk1⟩ := dk.cons
    obtain ⟨d1, r1, rfl, b0, b1, dk2⟩ := dk1.cons
    have er1 := sm1 _ _ er
    have eo1 := sm1 _ _ eo
    -- size
    obtain ⟨v0, g0, w0⟩ := atI_map (f := V.int) (xs := [1, 1, 2, 2, 3, 6, 4, 20]) a0 (by show d0 < 8; exact a1)
    refine ⟨sz (by decide), fun q5 m5 => ⟨_, rfl, _, _, _, _, rfl, rfl, (same_new m5).seq (sq ed), atI_nat (j := 0) rfl, _, _, _, _, rfl, rfl, sq upd_same, g0, ?_⟩⟩
    have sm2 := same_new (o := HO.lst ([V.int 1, V.int 1, V.int 2, V.int 2, V.int 3, V.int 6, V.int 4, V.int 20])) m5
    have hv0 : 1 ≤ v0 ∧ v0 ≤ 20 := by
      have : ∀ z ∈ ([1, 1, 2, 2, 3, 6, 4, 20] : List Int), 1 ≤ z ∧ z ≤ 20 := by decide
      exact this v0 w0.1
    generalize hH2 : upd H1 q5 _ = H2 at sm2
    have ed2 := sm2 _ _ ed
    have er2 := sm2 _ _ er1
    have eo2 := sm2 _ _ eo1
    refine ⟨fun σ' H3 => ∃ z : Int, 1 ≤ z ∧ z ≤ 20 ∧ σ' = [some (.int c), some (.int (n : Int)), some (.ref pr), some (.str (Str.ofString "abcdefghijklmnopqrstuvwxyz")), some (.str (Str.ofString "abcdefghijklmnopqrstuvwxyz" ++ Str.ofString "0123456789")), some (.ref o), some (.int (0 + (i : Int))), some (.ref pd), some (.int z), y9, y10] ∧ H2 = H3, ?_, fun σ' H3 => ?_⟩
    · refine ifS (b := _) (ansAnd (fun Q q => ⟨_, rfl, _, _, rfl, rfl, _, rfl, q⟩) (fun Q q => ⟨_, rfl, _, _, rfl, rfl, _, rfl, q⟩)) (fun _ => ?_) (fun _ => ⟨v0, hv0.1, hv0.2, rfl, rfl⟩)
      refine ⟨_, rfl, _, _, rfl, _, ?_, ?_, rfl, rfl⟩
      · split <;> omega
      · split <;> omega
    rintro ⟨z, z1, z2, rfl, rfl⟩
    clear hH2 g0 w0 hv0 m5
    have lt1 : (Str.ofString "abcdefghijklmnopqrstuvwxyz").cps.toList.length = 26 := by decide +kernel
    have sg1 : (Str.ofString "abcdefghijklmnopqrstuvwxyz" ++ Str.ofString "0123456789").cps.toList.length = 36 := by decide +kernel
    have lt2 : (Str.ofString "abcdefghijklmnopqrstuvwxyz").length ≤ sizeLine := sz (by decide +kernel)
    have sg2 : (Str.ofString "abcdefghijklmnopqrstuvwxyz" ++ Str.ofString "0123456789").length ≤ sizeLine := sz (by decide +kernel)
    have sgE : Str.ofString "abcdefghijklmnopqrstuvwxyz" ++ Str.ofString "0123456789" = sgns := by decide +kernel
    have ltE : Str.ofString "abcdefghijklmnopqrstuvwxyz" = lets := rfl
    generalize Str.ofString "abcdefghijklmnopqrstuvwxyz" ++ Str.ofString "0123456789" = sg at sg1 sg2 sgE ⊢
    generalize Str.ofString "abcdefghijklmnopqrstuvwxyz" = lt at lt1 lt2 ltE ⊢
    -- name
    obtain ⟨ch, gc, hch⟩ := atI_in (xs := lt.cps.toList) (i := d1) b0 (by rw [lt1]; exact b1)
    refine ⟨_, rfl, _, rfl, _, _, _, _, rfl, rfl, sq ed2, atI_nat (j := 1) rfl, _, _, _, rfl, rfl, lt2, gc, ?_⟩
    refine ⟨⟨_, rfl⟩, _, rfl, _, _, rfl, rfl, _, rfl, by omega, by omega, fun D nD => ?_⟩
    have lenz : (z - 1).toNat + 1 ≤ 20 := by omega
    refine lc_range (lo := 0) (n := (z - 1).toNat) (fun k H3 => ∃ ps : List Str, ps.length = k ∧ (∀ p ∈ ps, p.length = 1 ∧ ∀ c ∈ p.cps.toList, c ∈ sgns.cps.toList) ∧ Same H2 H3 ∧ H3 D = some (.lst (ps.map V.str))) ?_ ?_ ?_
    · exact ⟨[], rfl, (fun p hp => by cases hp), same_new nD, upd_same⟩
    · rintro k H3 hk ⟨ps, pl, p1, s3, e3⟩
      obtain ⟨dj, gj, j0, j1⟩ := dk.at (i := 2 + k) (m := 36) (by
        rw [Nat.add_comm]
        show (List.replicate 19 (36 : Int))[k]? = some 36
        rw [List.getElem?_replicate_of_lt (by omega)])
      obtain ⟨cj, gcj, hcj⟩ := atI_in (xs := sg.cps.toList) (i := dj) j0 (by rw [sg1]; exact j1)
      refine ⟨rfl, _, rfl, _, rfl, _, rfl, _, _, rfl, rfl, _, _, _, _, rfl, rfl, sq (s3 _ _ ed2), at_of (j := 2 + k) (by omega) (get_map gj), _, _, _, rfl, rfl, sg2, gcj, _, e3, ?_, ps ++ [⟨#[cj]⟩], ?_, ?_, Same.mut s3 nD, ?_⟩
      · rw [List.length_map]
        exact szl (by omega)
      · rw [List.length_append, pl]; rfl
      · intro p hp
        rcases List.mem_append.mp hp with h | h
        · exact p1 p h
        · rw [List.mem_singleton.mp h]
          refine ⟨rfl, fun c hc => ?_⟩
          rw [List.mem_singleton.mp (show c ∈ [cj] from hc), ← sgE]
          exact hcj
      · rw [upd_same, List.map_append]; rfl
    · rintro H3 ⟨ps, pl, p1p, s3, e3⟩
      have p1 : ∀ p ∈ ps, p.length = 1 := fun p hp => (p1p p hp).1
      have jl := len_join0 ps p1
      have jm := mem_join0 (S := sgns.cps.toList) ps fun p hp => (p1p p hp).2
      refine ⟨_, D, ps, rfl, rfl, .inl (sq e3), ?_, ?_⟩
      · rw [sum_ones p1, show (Str.ofString "").length = 0 by decide +kernel]
        omega
      refine ⟨_, _, rfl, rfl, ?_, ?_⟩
      · rw [jl]
        exact sz (by show 1 + ps.length ≤ 100000; omega)
      generalize hnm : (⟨#[ch]⟩ : Str) ++ Txt.join (Str.ofString "") ps = nm
      have nml : NmF nm := by
        have e : nm.cps.toList = ch :: (Txt.join (Str.ofString "") ps).cps.toList := by
          rw [← hnm, str_app]
          rfl
        refine nmF_cons e (by rw [← ltE]; exact hch) jm ?_
        rw [str_len, jl]
        omega
      have ed3 := s3 _ _ ed2
      have er3 := s3 _ _ er2
      have eo3 := s3 _ _ eo2
      have sm3 : Same H H3 := ((sm.trans sm1).trans sm2).trans s3
      clear hnm jl jm gc e3 p1 p1p pl nD ps
      -- if draws[0] == 6
      refine ⟨fun σ' H4 => ∃ nm : Str, NmF nm ∧ σ' = [some (.int c), some (.int (n : Int)), some (.ref pr), some (.str lt), some (.str sg), some (.ref o), some (.int (0 + (i : Int))), some (.ref pd), some (.int z), y9, some (.str nm)] ∧ Same H3 H4, ?_, fun σ' H4 => ?_⟩
      · refine ifS (b := _) (fun Q q => ⟨_, rfl, _, _, _, _, rfl, rfl, sq ed3, atI_nat (j := 0) rfl, rfl, _, rfl, q⟩) (fun _ => ?_) (fun _ => ⟨nm, nml, rfl, Same.refl _⟩)
        have ba : Builtin.bitAnd d1 3 = d1 % 4 := Bits.bitAnd_mask 2 b0
        obtain ⟨v4, g4, w4⟩ := atI_in (xs := [V.str (Str.ofString "true"), V.str (Str.ofString "false"), V.str (Str.ofString "ends"), V.str (Str.ofString "kinds")]) (i := d1 % 4) (by omega) (by show d1 % 4 < 4; omega)
        refine ⟨sz (by decide), fun q6 m6 => ⟨_, rfl, _, _, _, _, rfl, rfl, (same_new m6).seq (sq ed3), atI_nat (j := 1) rfl, .inl ⟨_, rfl, _, _, rfl, rfl, _, _, _, _, rfl, rfl, sq upd_same, (by rw [ba]; exact g4), ?_⟩⟩⟩
        have : ∀ v ∈ [V.str (Str.ofString "true"), V.str (Str.ofString "false"), V.str (Str.ofString "ends"), V.str (Str.ofString "kinds")], ∃ s : Str, v = .str s ∧ NmF s := by
          intro v hv
          simp only [List.mem_cons, List.not_mem_nil, or_false] at hv
          rcases hv with rfl | rfl | rfl | rfl
          · exact ⟨_, rfl, nmF_of (by decide +kernel)⟩
          · exact ⟨_, rfl, nmF_of (by decide +kernel)⟩
          · exact ⟨_, rfl, nmF_of (by decide +kernel)⟩
          · exact ⟨_, rfl, nmF_of (by decide +kernel)⟩
        obtain ⟨s4, rfl, l4⟩ := this v4 w4
        exact ⟨s4, l4, rfl, same_new m6⟩
      rintro ⟨nm2, nml2, rfl, s4⟩
      have er4 := s4 _ _ er3
      have eo4 := s4 _ _ eo3
      have sm4 := sm3.trans s4
      clear s4 s3 sm3 er3 eo3 ed3
      -- for j in range(52)
      refine ⟨_, rfl, by decide, by decide, for_range (lo := 0) (n := (52 : Int).toNat) (fun jj σ' H5 => ∃ (y9 : Option V) (nm : Str), NmF nm ∧ ((nm ∉ ss ∧ nm ∉ resv) ∨ ∀ j' < jj, ∀ s : Str, s.cps.toList = candL i j' → s ∈ ss ∨ s ∈ resv) ∧ σ' = [some (.int c), some (.int (n : Int)), some (.ref pr), some (.str lt), some (.str sg), some (.ref o), some (.int (0 + (i : Int))), some (.ref pd), some (.int z), y9, some (.str nm)] ∧ H5 = H4) ?_ ?_ ?_⟩
      · exact ⟨_, nm2, nml2, .inr fun j' h => absurd h (Nat.not_lt_zero _), rfl, rfl⟩
      · rintro jj σ' H5 hj ⟨y9, nm3, nl3, bad, rfl, rfl⟩
        refine (show tIfS _ _ _ _ _ _ from ifS (b := _) (ansOr (fun Q q => ⟨_, rfl, _, rfl, o, _, rfl, .inl (sq eo4), rfl, flat_strs ss, _, rfl, q⟩) (fun Q q => ⟨_, rfl, _, rfl, pr, _, rfl, .inl (sq er4), rfl, hflat, _, rfl, q⟩)) (fun hb => ?_) (fun hb => ⟨_, nm3, nl3, .inl ?_, rfl, rfl⟩))
        rotate_left
        · have hb2 : (inV (V.str nm3) (ss.map V.str) || inV (V.str nm3) rs) = false := hb
          rw [hrv] at hb2
          obtain ⟨h1, h2⟩ := Bool.or_eq_false_iff.mp hb2
          exact ⟨fun m => (by rw [inV_iff.mpr m] at h1; cases h1), fun m => (by rw [inV_iff.mpr m] at h2; cases h2)⟩
        have hj2 : jj < 52 := hj
        obtain ⟨cl, gl, _⟩ := atI_in (xs := lt.cps.toList) (i := (0 + (jj : Int)) % 26) (by omega) (by rw [lt1]; omega)
        have kl := len_digits i (by omega)
        have kl2 : (Str.ofString (toString (0 + (i : Int)))).length ≤ 2 := by rw [hz]; exact kl
        have xl : (cutS (Str.ofString "x") none (some ((0 + (jj : Int)) / 26))).length ≤ 1 := cutS_length _ _ _
        refine ⟨_, rfl, _, rfl, .inl ⟨_, rfl, _, _, rfl, rfl, (show (0 : Int) < 26 by decide), _, _, _, rfl, rfl, lt2, gl, ?_⟩⟩
        refine ⟨_, rfl, _, rfl, ?_, _, _, rfl, rfl, ?_, ?_⟩
        · rw [hz, Int.natAbs_natCast]
          exact Nat.lt_of_le_of_lt (Nat.log2_le_self i) (by omega)
        · exact sz (by show 1 + (Str.ofString (toString (0 + (i : Int)))).length ≤ 100000; omega)
        refine ⟨_, rfl, _, _, rfl, rfl, ⟨by decide, by decide⟩, _, rfl, _, rfl, sz (by decide +kernel), _, _, rfl, rfl, ?_, ?_⟩
        · rw [len_app]
          exact sz (by show 1 + (Str.ofString (toString (0 + (i : Int)))).length + _ ≤ 100000; omega)
        have ecl : cl = letAt (jj % 26) := by
          have e1 : (0 + (jj : Int)) % 26 = ((jj % 26 : Nat) : Int) := by omega
          rw [e1] at gl
          have hlt : jj % 26 < lets.cps.toList.length := by
            rw [← ltE, lt1]
            omega
          rw [ltE, atI_nat (List.getElem?_eq_getElem hlt)] at gl
          have := Option.some.inj gl
          rw [← this]
          unfold letAt
          rw [List.getD_eq_getElem?_getD, List.getElem?_eq_getElem hlt]
          rfl
        have ecx : (cutS (Str.ofString "x") none (some ((0 + (jj : Int)) / 26))).cps.toList = if jj < 26 then [] else [120] := by
          rw [show (0 + (jj : Int)) = (((⟨jj, hj2⟩ : Fin 52) : Nat) : Int) by show (0 : Int) + (jj : Int) = (jj : Int); omega]
          exact cut_x ⟨jj, hj2⟩
        generalize hnew : (⟨#[cl]⟩ : Str) ++ Str.ofString (toString (0 + (i : Int))) ++ cutS (Str.ofString "x") none (some ((0 + (jj : Int)) / 26)) = nw
        have enw : nw.cps.toList = candL i jj := by
          rw [← hnew, str_app, str_app, ecx, ecl, hz]
          rfl
        have hb2 : (inV (V.str nm3) (ss.map V.str) || inV (V.str nm3) rs) = true := hb
        rw [hrv] at hb2
        have bad2 : nm3 ∈ ss ∨ nm3 ∈ resv := by
          rcases Bool.or_eq_true_iff.mp hb2 with h | h
          · exact .inl (inV_iff.mp h)
          · exact .inr (inV_iff.mp h)
        refine ⟨_, nw, cand_f (by omega) nw enw, ?_, rfl, rfl⟩
        by_cases hg : nw ∈ ss ∨ nw ∈ resv
        · refine .inr fun j' h' s hs => ?_
          rcases Nat.lt_or_ge j' jj with h | h
          · rcases bad with ⟨b1, b2⟩ | b
            · rcases bad2 with m | m
              · exact absurd m b1
              · exact absurd m b2
            · exact b j' h s hs
          · have : j' = jj := by omega
            rw [this] at hs
            rw [str_ext (hs.trans enw.symm)]
            exact hg
        · exact .inl ⟨fun m => hg (.inl m), fun m => hg (.inr m)⟩
      · rintro σ' H5 ⟨y9, nm3, nl3, bad, rfl, rfl⟩
        have good : nm3 ∉ ss ∧ nm3 ∉ resv := by
          rcases bad with b | b
          · exact b
          · exact (cand_free (i := i) (ss := ss) (by omega) (by omega) fun j hj s e => b j hj s e).elim
        refine ⟨_, rfl, .inl ⟨rfl, _, sq eo4⟩, _, rfl, o, _, _, rfl, rfl, eo4, ?_, ?_⟩
        · rw [List.length_map]
          exact szl (by omega)
        · refine ⟨_, _, _, _, _, ss ++ [nm3], rfl, Same.mut sm4 ono, by rw [upd_ne opr]; exact er4, by rw [upd_same, List.map_append]; rfl, by rw [List.length_append, hl]; rfl, ?_⟩
          exact hsz.snoc nl3 good.2 good.1
  · rintro σ' H' ⟨y6, y7, y8, y9, y10, ss, rfl, sm, er, eo, hl, hsz⟩
    exact ⟨_, rfl, q H' o ss sm ono eo hl hsz⟩
end
/-! ### drawn values and conditions -/
def VOk (ss : List Str) : Nat → VT → Prop
  | _, .int i => -99 ≤ i ∧ i ≤ 99
  | _, .nm s => s ∈ ss
  | d, .op _ a b => ∃ e, d = e + 1 ∧ VOk ss e a ∧ VOk ss e b
def COk (ss : List Str) : Nat → CT → Prop
  | _, .bl _ => True
  | d, .no c => ∃ e, d = e + 1 ∧ COk ss e c
  | d, .an a b => ∃ e, d = e + 1 ∧ COk ss e a ∧ COk ss e b
  | d, .or a b => ∃ e, d = e + 1 ∧ COk ss e a ∧ COk ss e b
  | _, .cp _ a b => VOk ss 1 a ∧ VOk ss 1 b
theorem VOk.ht {ss : List Str} : ∀ {t : VT} {d : Nat}, VOk ss d t → t.ht ≤ d
  | .int _, _, _ => Nat.zero_le _
  | .nm _, _, _ => Nat.zero_le _
  | .op _ a b, d, ⟨e, h, ha, hb⟩ => by
    have h1 := ha.ht
    have h2 := hb.ht
    show max a.ht b.ht + 1 ≤ d
    omega
theorem VOk.wt {ss : List Str} : ∀ {t : VT} {d : Nat}, VOk ss d t → t.wt ≤ 8 * 2 ^ d
  | .int _, d, _ => by
    have := Nat.two_pow_pos d
    show 8 ≤ 8 * 2 ^ d
    omega
  | .nm _, d, _ => by
    have := Nat.two_pow_pos d
    show 8 ≤ 8 * 2 ^ d
    omega
  | .op _ a b, d, ⟨e, h, ha, hb⟩ => by
    have h1 := ha.wt
    have h2 := hb.wt
    show a.wt + b.wt ≤ 8 * 2 ^ d
    rw [h, Nat.pow_succ]
    omega
theorem COk.ht {ss : List Str} : ∀ {t : CT} {d : Nat}, COk ss d t → t.ht ≤ d
  | .bl _, _, _ => Nat.zero_le _
  | .cp _ _ _, _, _ => Nat.zero_le _
  | .no c, d, ⟨e, h, ha⟩ => by
    have h1 := ha.ht
    show c.ht + 1 ≤ d
    omega
  | .an a b, d, ⟨e, h, ha, hb⟩ => by
    have h1 := ha.ht
    have h2 := hb.ht
    show max a.ht b.ht + 1 ≤ d
    omega
  | .or a b, d, ⟨e, h, ha, hb⟩ => by
    have h1 := ha.ht
    have h2 := hb.ht
    show max a.ht b.ht + 1 ≤ d
    omega
section
variable {P : Program} {w : World} {K : PySem.W.Frag} {mg : Str → Option Value} {base : Heap}
def spLV (K : PySem.W.Frag) (n : Nat) : Sp := fun vs H Q _ => ∃ (c z : Int) (nl : Addr) (ss : List Str), vs = [.int c, .ref nl, .int z] ∧ 0 ≤ z ∧ z < n ∧ SqL K H nl (ss.map V.str) ∧ ∀ H' v t, Same H H' → RVal (Nw H H') t v → VOk ss z.toNat t → Q v H'
abbrev s_law_value : Stmt := topS 7
theorem sc_law_value : FnScope ["cell", "names", "depth", "draws", "sign"] ["cell", "names", "depth"] (defScope s_law_value) := ⟨rfl, rfl, rfl, by decide +kernel, rfl, by decide +kernel, by decide +kernel⟩
-- _law_value slots: cell=0 names=1 depth=2 draws=3 sign=4 globals: _law_draws _law_value len int
theorem fd_law_value {f : Addr} {fd : FuncData} (F : Fun K "_law_value" "_law_value" s_law_value f fd) (m : mg "_law_value" = some (.ref f)) (B : Bt mg) (D_law_draws : Fd P w K mg base "_law_draws" ["cell", "limits"] 1 (spDraws K)) : ∀ n : Nat, Fd P w K mg base "_law_value" ["cell", "names", "depth"] (n + 1) (spLV K n)
  | 0 => Fd.none F m (F.binds (ps := ["cell", "names", "depth"]) fun _ _ _ _ _ _ us hl => match us, hl with | [_, _, _], _ => rfl) fun vs H Q E h => by
    obtain ⟨c, z, nl, ss, _, h0, h1, _⟩ := h
    omega
  | n + 1 => by
    have D_law_value := fd_law_value F m B D_law_draws n
    refine ⟨f, fd, F.ok sc_law_value (fun vs H Q E h => ?_) (fun cdv A outer s H vs Q E hr h => ?_), m, F.kp, F.binds (ps := ["cell", "names", "depth"]) fun _ _ _ _ _ _ us hl => match us, hl with | [_, _, _], _ => rfl⟩
    · obtain ⟨c, z, nl, ss, rfl, _⟩ := h
      rfl
    obtain ⟨c, z, nl, ss, rfl, z0, z1, hn, q⟩ := h
    refine ⟨_, (pss_cons (ps_set (i := 3) sc_law_value.nd rfl (Or.inl rfl) (pe_fn D_law_draws (hr.mono (by omega)) rfl (pa_cons (pv 0) (pa_cons (pe_lst (pa_cons pe_int (pa_cons pe_int (pa_cons pe_int (pa_cons pe_int (pa_cons (pe_op op_pow pe_int pe_int) (pa_cons (pe_op op_pow pe_int pe_int) pa_nil))))))) pa_nil))))
 (pss_cons (ps_if (PW.pt (pw_and (pt_cmpR op_gt (pv 2) pe_int (nomark _)) (pw_and1 (pt_cmpR op_gt (pe_ix (ixL K) (pv 3) pe_int (fun _ _ => rfl)) pe_int (nomark _)))))
 (pss_cons (ps_set (i := 4) sc_law_value.nd rfl (Or.inl rfl) (pe_ix (ixL K) (pe_lst (pa_cons pe_str (pa_cons pe_str (pa_cons pe_str pa_nil)))) (pe_ix (ixL K) (pv 3) pe_int (fun _ _ => rfl)) (fun _ _ => rfl)))
 (pss_one (ps_ret (pe_tup (pa_cons (pv 4) (pa_cons (pe_fn D_law_value hr rfl (pa_cons (pe_ix (ixL K) (pv 3) pe_int (fun _ _ => rfl)) (pa_cons (pv 1) (pa_cons (pe_op op_sub (pv 2) pe_int) pa_nil)))) (pa_cons (pe_fn D_law_value hr rfl (pa_cons (pe_ix (ixL K) (pv 3) pe_int (fun _ _ => rfl)) (pa_cons (pv 1) (pa_cons (pe_op op_sub (pv 2) pe_int) pa_nil)))) pa_nil)))))))
 pss_nil)
 (pss_cons (ps_if (PW.pt (pw_and (pt_cmpR op_gt (pe_callB (cLen K) (by rfl) B.len PySem.boot_len (pa_cons (pv 1) pa_nil)) pe_int (nomark _)) (pw_and1 (pt_cmpR op_eq (pe_op op_and (pe_ix (ixL K) (pv 3) pe_int (fun _ _ => rfl)) pe_int) pe_int (nomark _)))))
 (pss_one (ps_ret (pe_ix (ixL K) (pv 1) (pe_op op_mod (pe_callTy call_int1 (by rfl) B.int (by decide +kernel) (pa_cons (pe_ix (ixL K) (pv 3) pe_int (fun _ _ => rfl)) pa_nil)) (pe_callB (cLen K) (by rfl) B.len PySem.boot_len (pa_cons (pv 1) pa_nil))) (fun _ _ => rfl))))
 pss_nil)
 (pss_cons (ps_if (pt_cmpR op_eq (pe_ix (ixL K) (pv 3) pe_int (fun _ _ => rfl)) pe_int (nomark _))
 (pss_one (ps_ret (pe_op op_sub (pe_ix (ixL K) (pv 3) pe_int (fun _ _ => rfl)) pe_int)))
 pss_nil)
 (pss_one (ps_ret (pe_op op_sub (pe_op op_mod (pe_callTy call_int1 (by rfl) B.int (by decide +kernel) (pa_cons (pe_ix (ixL K) (pv 3) pe_int (fun _ _ => rfl)) pa_nil)) pe_int) pe_int))))))), ?_⟩
    refine ⟨_, rfl, _, _, rfl, rfl, ⟨by decide, by decide, by decide⟩, _, _, rfl, rfl, ⟨by decide, by decide, by decide⟩, szc 6, fun p1 n1 => ⟨p1, c, [6, 199, 60, 3, 10 ^ 9, 10 ^ 9], rfl, sq upd_same, by decide, by decide, fun H1 pd ds s1 nd ed dk => ?_⟩⟩
    have sm1 := (same_new n1).trans s1
    obtain ⟨d0, r0, rfl, a0, a1, dk⟩ := dk.cons
    obtain ⟨d1, r1, rfl, b0, b1, dk⟩ := dk.cons
    obtain ⟨d2, r2, rfl, c0, c1, dk⟩ := dk.cons
    obtain ⟨d3, r3, rfl, e0, e1, dk⟩ := dk.cons
    obtain ⟨d4, r4, rfl, f0, f1, dk⟩ := dk.cons
    obtain ⟨d5, r5, rfl, g0, g1, dk⟩ := dk.cons
    have sd := sq (K := K) ed
    have hn1 := sm1.seq hn
    clear nd dk n1 s1
    dsimp only [gName]
    refine ifR (b := _) (ansAnd (fun Q q => ⟨_, rfl, _, _, rfl, rfl, _, rfl, q⟩) (fun Q q => ⟨_, rfl, _, _, _, _, rfl, rfl, sd, atI_nat (j := 0) rfl, _, _, rfl, rfl, _, rfl, q⟩)) (fun hb => ?_) (fun _ => ?_)
    · have hz : 0 < z := by
        by_cases h : 0 < z
        · exact h
        · rw [decide_eq_false h, Bool.false_and] at hb
          cases hb
      obtain ⟨o, ho⟩ : ∃ o : Ar, atI [V.str (Str.ofString "+"), V.str (Str.ofString "-"), V.str (Str.ofString "*")] d3 = some (.str o.tx) := by
        have : d3 = 0 ∨ d3 = 1 ∨ d3 = 2 := by omega
        rcases this with rfl | rfl | rfl
        · exact ⟨.add, rfl⟩
        · exact ⟨.sub, rfl⟩
        · exact ⟨.mul, rfl⟩
      refine ⟨szc 3, fun q5 m5 => ⟨_, rfl, _, _, _, _, rfl, rfl, (same_new m5).seq sd, atI_nat (j := 3) rfl, _, _, _, _, rfl, rfl, sq upd_same, ho, ?_⟩⟩
      have sm2 := same_new (o := HO.lst [V.str (Str.ofString "+"), V.str (Str.ofString "-"), V.str (Str.ofString "*")]) m5
      refine ⟨_, rfl, _, rfl, _, _, _, _, rfl, rfl, sm2.seq sd, atI_nat (j := 4) rfl, _, rfl, _, rfl, _, _, rfl, rfl, d4, z - 1, nl, ss, rfl, by omega, by omega, sm2.seq hn1, fun H3 v1 t1 s3 r1 o1 => ?_⟩
      refine ⟨_, rfl, _, _, _, _, rfl, rfl, s3.seq (sm2.seq sd), atI_nat (j := 5) rfl, _, rfl, _, rfl, _, _, rfl, rfl, d5, z - 1, nl, ss, rfl, by omega, by omega, s3.seq (sm2.seq hn1), fun H4 v2 t2 s4 r2 o2 => ?_⟩
      refine ⟨szc 3, fun pt npt => q _ _ (.op o t1 t2) ((((sm1.trans sm2).trans s3).trans s4).trans (same_new npt)) ⟨pt, v1, v2, rfl, (nw_at ((((sm1.trans sm2).trans s3).trans s4).free npt)).trans upd_same, RVal.mono (nw_mono (sm1.trans sm2) (s4.trans (same_new npt))) r1, RVal.mono (nw_mono ((sm1.trans sm2).trans s3) (same_new npt)) r2⟩ ⟨(z - 1).toNat, by omega, o1, o2⟩⟩
    refine ifR (b := _) (ansAnd (fun Q q => ⟨_, rfl, nl, _, rfl, .inl hn1, _, _, rfl, rfl, _, rfl, q⟩) (fun Q q => ⟨_, rfl, _, _, _, _, rfl, rfl, sd, atI_nat (j := 0) rfl, _, _, rfl, rfl, rfl, _, rfl, q⟩)) (fun hb => ?_) (fun _ => ?_)
    · have hl : (0 : Int) < ((ss.map V.str).length : Nat) := by
        by_cases h : (0 : Int) < ((ss.map V.str).length : Nat)
        · exact h
        · rw [decide_eq_false h, Bool.false_and] at hb
          cases hb
      have hm1 := Int.emod_lt_of_pos d2 hl
      obtain ⟨sv, gs, ms, _⟩ := atI_map (f := V.str) (xs := ss) (i := d2 % ((ss.map V.str).length : Nat)) (Int.emod_nonneg _ (by omega)) (by rw [List.length_map] at hm1 ⊢; exact hm1)
      refine ⟨_, rfl, _, rfl, _, _, _, _, rfl, rfl, sd, atI_nat (j := 2) rfl, .inl ⟨_, rfl, _, rfl, nl, _, rfl, .inl hn1, _, _, rfl, rfl, hl, _, _, _, _, rfl, rfl, hn1, gs, ?_⟩⟩
      exact q _ _ (.nm sv) sm1 rfl ms
    refine ifR (b := _) (fun Q q => ⟨_, rfl, _, _, _, _, rfl, rfl, sd, atI_nat (j := 0) rfl, rfl, _, rfl, q⟩) (fun hb => ?_) (fun _ => ?_)
    · refine ⟨_, rfl, _, _, _, _, rfl, rfl, sd, atI_nat (j := 1) rfl, _, _, rfl, rfl, ?_⟩
      exact q _ _ (.int (d1 - 99)) sm1 rfl (by show -99 ≤ d1 - 99 ∧ d1 - 99 ≤ 99; omega)
    · refine ⟨_, rfl, _, _, _, _, rfl, rfl, sd, atI_nat (j := 1) rfl, .inl ⟨_, rfl, _, _, rfl, rfl, (show (0 : Int) < 7 by decide), _, _, rfl, rfl, ?_⟩⟩
      exact q _ _ (.int (d1 % 7 - 2)) sm1 rfl (by show -99 ≤ d1 % 7 - 2 ∧ d1 % 7 - 2 ≤ 99; omega)
end
section
variable {P : Program} {w : World} {K : PySem.W.Frag} {mg : Str → Option Value} {base : Heap}
theorem and_true_l {a b : Bool} (h : (a && b) = true) : a = true := by cases a <;> simp_all
theorem and_true_r {a b : Bool} (h : (a && b) = true) : b = true := by cases b <;> simp_all
def spLC (K : PySem.W.Frag) (n : Nat) : Sp := fun vs H Q _ => ∃ (c z : Int) (nl : Addr) (ss : List Str), vs = [.int c, .ref nl, .int z] ∧ 0 ≤ z ∧ z < n ∧ SqL K H nl (ss.map V.str) ∧ ∀ H' v t, Same H H' → RCond (Nw H H') t v → COk ss z.toNat t → Q v H'
abbrev s_law_condition : Stmt := topS 8
theorem sc_law_condition : FnScope ["cell", "names", "depth", "draws", "sign"] ["cell", "names", "depth"] (defScope s_law_condition) := ⟨rfl, rfl, rfl, by decide +kernel, rfl, by decide +kernel, by decide +kernel⟩
-- _law_condition slots: cell=0 names=1 depth=2 draws=3 sign=4 globals: _law_draws _law_condition _law_value
theorem fd_law_condition {f : Addr} {fd : FuncData} (F : Fun K "_law_condition" "_law_condition" s_law_condition f fd) (m : mg "_law_condition" = some (.ref f)) (D_law_draws : Fd P w K mg base "_law_draws" ["cell", "limits"] 1 (spDraws K)) (D_law_value : Fd P w K mg base "_law_value" ["cell", "names", "depth"] 3 (spLV K 2)) : ∀ n : Nat, Fd P w K mg base "_law_condition" ["cell", "names", "depth"] (n + 3) (spLC K n)
  | 0 => Fd.none F m (F.binds (ps := ["cell", "names", "depth"]) fun _ _ _ _ _ _ us hl => match us, hl with | [_, _, _], _ => rfl) fun vs H Q E h => by
    obtain ⟨c, z, nl, ss, _, h0, h1, _⟩ := h
    omega
  | n + 1 => by
    have D_law_condition := fd_law_condition F m D_law_draws D_law_value n
    refine ⟨f, fd, F.ok sc_law_condition (fun vs H Q E h => ?_) (fun cdv A outer s H vs Q E hr h => ?_), m, F.kp, F.binds (ps := ["cell", "names", "depth"]) fun _ _ _ _ _ _ us hl => match us, hl with | [_, _, _], _ => rfl⟩
    · obtain ⟨c, z, nl, ss, rfl, _⟩ := h
      rfl
    obtain ⟨c, z, nl, ss, rfl, z0, z1, hn, q⟩ := h
    refine ⟨_, (pss_cons (ps_set (i := 3) sc_law_condition.nd rfl (Or.inl rfl) (pe_fn D_law_draws (hr.mono (by omega)) rfl (pa_cons (pv 0) (pa_cons (pe_lst (pa_cons pe_int (pa_cons pe_int (pa_cons (pe_op op_pow pe_int pe_int) (pa_cons (pe_op op_pow pe_int pe_int) pa_nil))))) pa_nil))))
 (pss_cons (ps_if (pt_cmpR op_lt (pe_ix (ixL K) (pv 3) pe_int (fun _ _ => rfl)) pe_int (nomark _))
 (pss_one (ps_ret (pe_cmpR op_eq (pe_ix (ixL K) (pv 3) pe_int (fun _ _ => rfl)) pe_int (nomark _))))
 pss_nil)
 (pss_cons (ps_if (PW.pt (pw_and (pt_cmpR op_gt (pv 2) pe_int (nomark _)) (pw_and1 (pt_cmpR op_eq (pe_ix (ixL K) (pv 3) pe_int (fun _ _ => rfl)) pe_int (nomark _)))))
 (pss_one (ps_ret (pe_tup (pa_cons pe_str (pa_cons (pe_fn D_law_condition hr rfl (pa_cons (pe_ix (ixL K) (pv 3) pe_int (fun _ _ => rfl)) (pa_cons (pv 1) (pa_cons (pe_op op_sub (pv 2) pe_int) pa_nil)))) pa_nil)))))
 pss_nil)
 (pss_cons (ps_if (PW.pt (pw_and (pt_cmpR op_gt (pv 2) pe_int (nomark _)) (pw_and1 (pt_cmpR op_lt (pe_ix (ixL K) (pv 3) pe_int (fun _ _ => rfl)) pe_int (nomark _)))))
 (pss_cons (ps_set (i := 4) sc_law_condition.nd rfl (Or.inl rfl) (pe_ix (ixL K) (pe_lst (pa_cons pe_str (pa_cons pe_str pa_nil))) (pe_op op_sub (pe_ix (ixL K) (pv 3) pe_int (fun _ _ => rfl)) pe_int) (fun _ _ => rfl)))
 (pss_one (ps_ret (pe_tup (pa_cons (pv 4) (pa_cons (pe_fn D_law_condition hr rfl (pa_cons (pe_ix (ixL K) (pv 3) pe_int (fun _ _ => rfl)) (pa_cons (pv 1) (pa_cons (pe_op op_sub (pv 2) pe_int) pa_nil)))) (pa_cons (pe_fn D_law_condition hr rfl (pa_cons (pe_ix (ixL K) (pv 3) pe_int (fun _ _ => rfl)) (pa_cons (pv 1) (pa_cons (pe_op op_sub (pv 2) pe_int) pa_nil)))) pa_nil)))))))
 pss_nil)
 (pss_one (ps_ret (pe_tup (pa_cons (pe_ix (ixL K) (pe_lst (pa_cons pe_str (pa_cons pe_str (pa_cons pe_str pa_nil)))) (pe_ix (ixL K) (pv 3) pe_int (fun _ _ => rfl)) (fun _ _ => rfl)) (pa_cons (pe_fn D_law_value (hr.mono (by omega)) rfl (pa_cons (pe_ix (ixL K) (pv 3) pe_int (fun _ _ => rfl)) (pa_cons (pv 1) (pa_cons pe_int pa_nil)))) (pa_cons (pe_fn D_law_value (hr.mono (by omega)) rfl (pa_cons (pe_ix (ixL K) (pv 3) pe_int (fun _ _ => rfl)) (pa_cons (pv 1) (pa_cons pe_int pa_nil)))) pa_nil)))))))))), ?_⟩
    refine ⟨_, rfl, _, _, rfl, rfl, ⟨by decide, by decide, by decide⟩, _, _, rfl, rfl, ⟨by decide, by decide, by decide⟩, szc 4, fun p1 n1 => ⟨p1, c, [9, 3, 10 ^ 9, 10 ^ 9], rfl, sq upd_same, by decide, by decide, fun H1 pd ds s1 nd ed dk => ?_⟩⟩
    have sm1 := (same_new n1).trans s1
    obtain ⟨d0, r0, rfl, a0, a1, dk⟩ := dk.cons
    obtain ⟨d1, r1, rfl, b0, b1, dk⟩ := dk.cons
    obtain ⟨d2, r2, rfl, c0, c1, dk⟩ := dk.cons
    obtain ⟨d3, r3, rfl, e0, e1, dk⟩ := dk.cons
    have sd := sq (K := K) ed
    have hn1 := sm1.seq hn
    clear nd dk n1 s1
    dsimp only [gName]
    refine ifR (b := _) (fun Q q => ⟨_, rfl, _, _, _, _, rfl, rfl, sd, atI_nat (j := 0) rfl, _, _, rfl, rfl, _, rfl, q⟩) (fun _ => ?_) (fun h0 => ?_)
    · exact ⟨_, rfl, _, _, _, _, rfl, rfl, sd, atI_nat (j := 0) rfl, rfl, q _ _ (.bl _) sm1 rfl trivial⟩
    have h0 := of_decide_eq_false h0
    refine ifR (b := _) (ansAnd (fun Q q => ⟨_, rfl, _, _, rfl, rfl, _, rfl, q⟩) (fun Q q => ⟨_, rfl, _, _, _, _, rfl, rfl, sd, atI_nat (j := 0) rfl, rfl, _, rfl, q⟩)) (fun hb => ?_) (fun h2 => ?_)
    · have hz : 0 < z := of_decide_eq_true (and_true_l hb)
      refine ⟨_, rfl, _, _, _, _, rfl, rfl, sd, atI_nat (j := 2) rfl, _, rfl, _, rfl, _, _, rfl, rfl, d2, z - 1, nl, ss, rfl, by omega, by omega, hn1, fun H2 v1 t1 s2 r1 o1 => ?_⟩
      exact ⟨szc 2, fun pt npt => q _ _ (.no t1) ((sm1.trans s2).trans (same_new npt)) ⟨pt, v1, rfl, (nw_at ((sm1.trans s2).free npt)).trans upd_same, RCond.mono (nw_mono sm1 (same_new npt)) r1⟩ ⟨(z - 1).toNat, by omega, o1⟩⟩
    refine ifR (b := _) (ansAnd (fun Q q => ⟨_, rfl, _, _, rfl, rfl, _, rfl, q⟩) (fun Q q => ⟨_, rfl, _, _, _, _, rfl, rfl, sd, atI_nat (j := 0) rfl, _, _, rfl, rfl, _, rfl, q⟩)) (fun hb => ?_) (fun _ => ?_)
    · have hz : 0 < z := of_decide_eq_true (and_true_l hb)
      have h5 : d0 < 5 := of_decide_eq_true (and_true_r hb)
      rw [decide_eq_true hz, Bool.true_and] at h2
      have h2b := of_decide_eq_false h2
      have hd : d0 = 3 ∨ d0 = 4 := by
        have : d0 ≠ 2 := fun e => h2b (by rw [e])
        have : ¬ d0 < 2 := h0
        omega
      obtain ⟨k, ho⟩ : ∃ k : Bool, atI [V.str (Str.ofString "and"), V.str (Str.ofString "or")] (d0 - 3) = some (if k then .str (Str.ofString "and") else .str (Str.ofString "or")) := by
        rcases hd with rfl | rfl
        · exact ⟨true, rfl⟩
        · exact ⟨false, rfl⟩
      refine ⟨szc 2, fun q5 m5 => ⟨_, rfl, _, _, _, _, rfl, rfl, (same_new m5).seq sd, atI_nat (j := 0) rfl, _, _, rfl, rfl, _, _, _, _, rfl, rfl, sq upd_same, ho, ?_⟩⟩
      have sm2 := same_new (o := HO.lst [V.str (Str.ofString "and"), V.str (Str.ofString "or")]) m5
      refine ⟨_, rfl, _, rfl, _, _, _, _, rfl, rfl, sm2.seq sd, atI_nat (j := 2) rfl, _, rfl, _, rfl, _, _, rfl, rfl, d2, z - 1, nl, ss, rfl, by omega, by omega, sm2.seq hn1, fun H3 v1 t1 s3 r1 o1 => ?_⟩
      refine ⟨_, rfl, _, _, _, _, rfl, rfl, s3.seq (sm2.seq sd), atI_nat (j := 3) rfl, _, rfl, _, rfl, _, _, rfl, rfl, d3, z - 1, nl, ss, rfl, by omega, by omega, s3.seq (sm2.seq hn1), fun H4 v2 t2 s4 r2 o2 => ?_⟩
      refine ⟨szc 3, fun pt npt => ?_⟩
      have sa := (((sm1.trans sm2).trans s3).trans s4).trans (same_new npt (o := HO.tup [(if k then .str (Str.ofString "and") else .str (Str.ofString "or")), v1, v2]))
      cases k with
      | true => exact q _ _ (.an t1 t2) sa ⟨pt, v1, v2, rfl, (nw_at ((((sm1.trans sm2).trans s3).trans s4).free npt)).trans upd_same, RCond.mono (nw_mono (sm1.trans sm2) (s4.trans (same_new npt))) r1, RCond.mono (nw_mono ((sm1.trans sm2).trans s3) (same_new npt)) r2⟩ ⟨(z - 1).toNat, by omega, o1, o2⟩
      | false => exact q _ _ (.or t1 t2) sa ⟨pt, v1, v2, rfl, (nw_at ((((sm1.trans sm2).trans s3).trans s4).free npt)).trans upd_same, RCond.mono (nw_mono (sm1.trans sm2) (s4.trans (same_new npt))) r1, RCond.mono (nw_mono ((sm1.trans sm2).trans s3) (same_new npt)) r2⟩ ⟨(z - 1).toNat, by omega, o1, o2⟩
    · obtain ⟨o, ho⟩ : ∃ o : Cp, atI [V.str (Str.ofString "="), V.str (Str.ofString "<"), V.str (Str.ofString "<=")] d1 = some (.str o.tx) := by
        have : d1 = 0 ∨ d1 = 1 ∨ d1 = 2 := by omega
        rcases this with rfl | rfl | rfl
        · exact ⟨.eq, rfl⟩
        · exact ⟨.lt, rfl⟩
        · exact ⟨.le, rfl⟩
      refine ⟨szc 3, fun q5 m5 => ⟨_, rfl, _, _, _, _, rfl, rfl, (same_new m5).seq sd, atI_nat (j := 1) rfl, _, _, _, _, rfl, rfl, sq upd_same, ho, ?_⟩⟩
      have sm2 := same_new (o := HO.lst [V.str (Str.ofString "="), V.str (Str.ofString "<"), V.str (Str.ofString "<=")]) m5
      refine ⟨_, rfl, _, _, _, _, rfl, rfl, sm2.seq sd, atI_nat (j := 2) rfl, _, rfl, d2, 1, nl, ss, rfl, by decide, by decide, sm2.seq hn1, fun H3 v1 t1 s3 r1 o1 => ?_⟩
      refine ⟨_, rfl, _, _, _, _, rfl, rfl, s3.seq (sm2.seq sd), atI_nat (j := 3) rfl, _, rfl, d3, 1, nl, ss, rfl, by decide, by decide, s3.seq (sm2.seq hn1), fun H4 v2 t2 s4 r2 o2 => ?_⟩
      exact ⟨szc 3, fun pt npt => q _ _ (.cp o t1 t2) ((((sm1.trans sm2).trans s3).trans s4).trans (same_new npt)) ⟨pt, v1, v2, rfl, (nw_at ((((sm1.trans sm2).trans s3).trans s4).free npt)).trans upd_same, RVal.mono (nw_mono (sm1.trans sm2) (s4.trans (same_new npt))) r1, RVal.mono (nw_mono ((sm1.trans sm2).trans s3) (same_new npt)) r2⟩ ⟨o1, o2⟩⟩
end
/-! ### the dict of values -/
structure EnvOk (kvs : List (Key × V)) (ss : List Str) : Prop where
  nd : (kvs.map (·.1)).Nodup
  allInt : ∀ p ∈ kvs, ∃ i : Int, p.2 = .int i ∧ i.natAbs < 256
  has : ∀ s ∈ ss, ∃ v, valV kvs (Sum.inr s) = some v
theorem nd_put {kvs : List (Key × V)} {k : Key} {v : V} (hn : (kvs.map (·.1)).Nodup) : ((putK kvs k v).map (·.1)).Nodup := by
  cases e : valV kvs k with
  | none => exact nd_putK v hn e
  | some y =>
    unfold putK
    rw [if_pos (by rw [valV_any, e]; rfl), List.map_map]
    have : ((fun x : Key × V => x.1) ∘ fun kv : Key × V => if kv.1 = k then (kv.1, v) else kv) = fun x : Key × V => x.1 := by
      funext x
      show (if x.1 = k then (x.1, v) else x).1 = x.1
      split <;> rfl
    rw [this]
    exact hn
theorem put_mem {kvs : List (Key × V)} {k : Key} {v : V} {p : Key × V} (h : p ∈ putK kvs k v) : p.2 = v ∨ p ∈ kvs := by
  unfold putK at h
  split at h
  · obtain ⟨x, hx, e⟩ := List.mem_map.mp h
    split at e
    · exact .inl (by rw [← e])
    · exact .inr (by rw [← e]; exact hx)
  · rcases List.mem_append.mp h with h | h
    · exact .inr h
    · rw [List.mem_singleton.mp h]
      exact .inl rfl
theorem EnvOk.put {kvs : List (Key × V)} {ss : List Str} (h : EnvOk kvs ss) (s : Str) {i : Int} (hi : i.natAbs < 256) : EnvOk (putK kvs (Sum.inr s) (.int i)) (ss ++ [s]) where
  nd := nd_put h.nd
  allInt := fun p hp => by
    rcases put_mem hp with e | e
    · exact ⟨i, e, hi⟩
    · exact h.allInt p e
  has := fun x hx => by
    rw [valV_put]
    split
    · exact ⟨_, rfl⟩
    · rename_i hne
      rcases List.mem_append.mp hx with e | e
      · exact h.has x e
      · exact absurd (by rw [List.mem_singleton.mp e]) hne
theorem EnvOk.at {kvs : List (Key × V)} {ss : List Str} (h : EnvOk kvs ss) {s : Str} (hs : s ∈ ss) : ∃ i : Int, valV kvs (Sum.inr s) = some (.int i) ∧ i.natAbs < 256 := by
  obtain ⟨v, e⟩ := h.has s hs
  have hm : ∃ p ∈ kvs, p.2 = v := by
    unfold valV at e
    cases f : kvs.find? (fun kv => decide (kv.1 = (Sum.inr s : Key))) with
    | none => rw [f] at e; cases e
    | some p =>
      rw [f] at e
      exact ⟨p, List.mem_of_find?_eq_some f, Option.some.inj e⟩
  obtain ⟨p, hp, rfl⟩ := hm
  obtain ⟨i, e2, hi⟩ := h.allInt p hp
  exact ⟨i, by rw [e, e2], hi⟩
theorem VOk.fine {kvs : List (Key × V)} {ss : List Str} (h : EnvOk kvs ss) : ∀ {t : VT} {d : Nat}, VOk ss d t → Fine kvs t
  | .int i, _, ⟨h1, h2⟩ => by show i.natAbs < 256; omega
  | .nm _, _, hs => h.at hs
  | .op _ _ _, _, ⟨_, _, ha, hb⟩ => ⟨VOk.fine h ha, VOk.fine h hb⟩
theorem COk.fine {kvs : List (Key × V)} {ss : List Str} (h : EnvOk kvs ss) : ∀ {t : CT} {d : Nat}, COk ss d t → CFine kvs 6 100000 t
  | .bl _, _, _ => trivial
  | .no c, _, ⟨_, _, ha⟩ => (show CFine kvs 6 100000 c from COk.fine h ha)
  | .an _ _, _, ⟨_, _, ha, hb⟩ => ⟨COk.fine h ha, COk.fine h hb⟩
  | .or _ _, _, ⟨_, _, ha, hb⟩ => ⟨COk.fine h ha, COk.fine h hb⟩
  | .cp _ a b, _, ⟨ha, hb⟩ => by
    have h1 := ha.ht
    have h2 := hb.ht
    have h3 : a.wt ≤ 16 := ha.wt
    have h4 : b.wt ≤ 16 := hb.wt
    exact ⟨⟨ha.fine h, by omega, by omega⟩, hb.fine h, by omega, by omega⟩
section
variable {P : Program} {w : World} {K : PySem.W.Frag} {mg : Str → Option Value} {base : Heap}
abbrev s_law : Stmt := topS 11
theorem sc_law : FnScope ["script", "draws", "names", "values", "k", "kept", "cell", "depth", "value", "condition", "actual"] ["script"] (defScope s_law) := ⟨rfl, rfl, rfl, by decide +kernel, rfl, by decide +kernel, by decide +kernel⟩
-- law slots: script=0 draws=1 names=2 values=3 k=4 kept=5 cell=6 depth=7 value=8 condition=9 actual=10 globals: _law_draws _law_cell _law_names range len dict int _law_value _law_condition value_of isinstance bool _law_worth holds _law_holds
def spLaw (K : PySem.W.Frag) : Sp := fun vs H Q _ => ∃ (a : Addr) (ns : List Int), vs = [.ref a] ∧ SqL K H a (ns.map V.int) ∧ ns.length ≤ 63 ∧ ∀ H', Q (.bl true) H'
theorem fd_law {f : Addr} {fd : FuncData} (F : Fun K "law" "law" s_law f fd) (m : mg "law" = some (.ref f)) (B : Bt mg) (D_law_draws : Fd P w K mg base "_law_draws" ["cell", "limits"] 1 (spDraws K))
    (D_law_cell : Fd P w K mg base "_law_cell" ["script", "k"] 1 (spCellA K)) (D_law_names : Fd P w K mg base "_law_names" ["cell", "count"] 2 (spNames K))
    (D_law_value : Fd P w K mg base "_law_value" ["cell", "names", "depth"] 7 (spLV K 6)) (D_law_condition : Fd P w K mg base "_law_condition" ["cell", "names", "depth"] 9 (spLC K 6))
    (D_value_of : Fd P w K mg base "value_of" ["value", "values"] 6 (spValue 6)) (D_law_worth : Fd P w K mg base "_law_worth" ["value", "values"] 6 (spValue 6))
    (D_holds : Fd P w K mg base "holds" ["condition", "values"] 12 (spHolds 6 6)) (D_law_holds : Fd P w K mg base "_law_holds" ["condition", "values"] 12 (spHolds 6 6)) :
    FnOk P w K mg base CX0 13 f fd ["script"] (spLaw K) := by
  refine F.ok sc_law (fun vs H Q E h => ?_) (fun cdv A outer s H vs Q E hr h => ?_)
  · obtain ⟨a, ns, rfl, _⟩ := h
    rfl
  obtain ⟨a, ns, rfl, hs, hl, q⟩ := h
  refine ⟨_, (pss_cons (ps_set (i := 1) sc_law.nd rfl (Or.inl rfl) (pe_fn D_law_draws (hr.mono (by decide)) rfl (pa_cons (pe_fn D_law_cell (hr.mono (by decide)) rfl (pa_cons (pv 0) (pa_cons pe_int pa_nil))) (pa_cons (pe_op (opCat K) (pe_lst (pa_cons pe_int pa_nil)) (pe_op op_rep (pe_lst (pa_cons pe_int pa_nil)) pe_int)) pa_nil))))
 (pss_cons (ps_set (i := 2) sc_law.nd rfl (Or.inl rfl) (pe_fn D_law_names (hr.mono (by decide)) rfl (pa_cons (pe_fn D_law_cell (hr.mono (by decide)) rfl (pa_cons (pv 0) (pa_cons pe_int pa_nil))) (pa_cons (pe_op op_add pe_int (pe_ix (ixL K) (pv 1) pe_int (fun _ _ => rfl))) pa_nil))))
 (pss_cons (ps_set (i := 3) sc_law.nd rfl (Or.inl rfl) pe_dnewK)
 (pss_cons (ps_for PassesOwn.never rfl (pi_range1 rfl B.range (pa_cons (pe_callB (cLen K) (by rfl) B.len PySem.boot_len (pa_cons (pv 2) pa_nil)) pa_nil)) (pg_name (i := 4) sc_law.nd rfl (Or.inl rfl))
 (pss_one (ps_dput (hu_of hr) (pv 3) (pe_ix (ixL K) (pv 2) (pv 4) (fun _ _ => rfl)) (pe_op op_sub (pe_ix (ixL K) (pv 1) (pe_op op_add pe_int (pv 4)) (fun _ _ => rfl)) pe_int) rfl)))
 (pss_cons (ps_set (i := 5) sc_law.nd rfl (Or.inl rfl) (pe_callTy call_dictD (by rfl) B.dict (by decide +kernel) (pa_cons (pv 3) pa_nil)))
 (pss_cons (ps_for PassesOwn.never rfl (piL K (pe_op (opCat K) (pe_lst (pa_cons pe_int pa_nil)) (pe_slice (slL K) (pv 0) (po_some pe_int) po_none))) (pg_name (i := 6) sc_law.nd rfl (Or.inl rfl))
 (pss_cons (ps_set (i := 7) sc_law.nd rfl (Or.inl rfl) (pe_op op_mod (pe_callTy call_int1 (by rfl) B.int (by decide +kernel) (pa_cons (pv 6) pa_nil)) pe_int))
 (pss_cons (ps_set (i := 8) sc_law.nd rfl (Or.inl rfl) (pe_fn D_law_value (hr.mono (by decide)) rfl (pa_cons (pe_op op_fdiv (pe_callTy call_int1 (by rfl) B.int (by decide +kernel) (pa_cons (pv 6) pa_nil)) pe_int) (pa_cons (pv 2) (pa_cons (pv 7) pa_nil)))))
 (pss_cons (ps_set (i := 9) sc_law.nd rfl (Or.inl rfl) (pe_fn D_law_condition (hr.mono (by decide)) rfl (pa_cons (pe_op op_add (pe_op op_fdiv (pe_callTy call_int1 (by rfl) B.int (by decide +kernel) (pa_cons (pv 6) pa_nil)) pe_int) pe_int) (pa_cons (pv 2) (pa_cons (pv 7) pa_nil)))))
 (pss_cons (ps_set (i := 10) sc_law.nd rfl (Or.inl rfl) (pe_fn D_value_of (hr.mono (by decide)) rfl (pa_cons (pv 8) (pa_cons (pv 3) pa_nil))))
 (pss_cons (ps_if (PW.pt (pw_or (pt_not (pt_val (pe_callB (cIsi K) (by rfl) B.isinstance (by decide +kernel) (pa_cons (pv 10) (pa_cons (pe_bltn (v := .ty "int") (by rfl) B.int (by decide +kernel) rfl) pa_nil))))) (pw_or (pt_val (pe_callB (cIsi K) (by rfl) B.isinstance (by decide +kernel) (pa_cons (pv 10) (pa_cons (pe_bltn (v := .ty "bool") (by rfl) B.bool (by decide +kernel) rfl) pa_nil)))) (pw_or (pt_cmpR op_ne (pv 10) (pe_fn D_law_worth (hr.mono (by decide)) rfl (pa_cons (pv 8) (pa_cons (pv 5) pa_nil))) (nomark _)) (pw_or1 (pt_cmpR (op_ne_dictA (Nat.lt_of_succ_lt (hu_of hr))) (pv 3) (pv 5) (nomark _)))))))
 (pss_one (ps_ret pe_bl))
 pss_nil)
 (pss_cons (ps_set (i := 10) sc_law.nd rfl (Or.inl rfl) (pe_fn D_holds (hr.mono (by decide)) rfl (pa_cons (pv 9) (pa_cons (pv 3) pa_nil))))
 (pss_one (ps_if (PW.pt (pw_or (pt_not (pt_val (pe_callB (cIsi K) (by rfl) B.isinstance (by decide +kernel) (pa_cons (pv 10) (pa_cons (pe_bltn (v := .ty "bool") (by rfl) B.bool (by decide +kernel) rfl) pa_nil))))) (pw_or (pt_cmpR op_ne (pv 10) (pe_fn D_law_holds (hr.mono (by decide)) rfl (pa_cons (pv 9) (pa_cons (pv 5) pa_nil))) (nomark _)) (pw_or1 (pt_cmpR (op_ne_dictA (Nat.lt_of_succ_lt (hu_of hr))) (pv 3) (pv 5) (nomark _))))))
 (pss_one (ps_ret pe_bl))
 pss_nil)))))))))
 (pss_one (ps_ret pe_bl)))))))), ?_⟩
  refine ⟨_, rfl, a, ns, 0, rfl, hs, fun c0 => ⟨szc 1, fun p1 n1 => ⟨szc 1, fun p2 n2 => ⟨_, _, _, rfl, rfl, upd_same, by decide, by decide, sz (by decide), fun p3 n3 => ⟨_, _, _, _, rfl, rfl, sq (same_new n3 _ _ (same_new n2 _ _ upd_same)), sq upd_same, sz (by decide), fun p4 n4 => ⟨p4, _, [6, 199, 199, 199, 199, 199, 199], rfl, sq (upd_same (o := HO.lst (List.map V.int [6, 199, 199, 199, 199, 199, 199]))), by decide, by decide, fun H1 pd ds s1 nd ed dk => ?_⟩⟩⟩⟩⟩⟩
  have sm1 := ((((same_new n1).trans (same_new n2)).trans (same_new n3)).trans (same_new n4)).trans s1
  clear s1 nd n4 n3 n2 n1
  obtain ⟨d0, r0, rfl, a0, a1, dk1⟩ := dk.cons
  have sd := sq (K := K) ed
  refine ⟨_, rfl, a, ns, 1, rfl, sm1.seq hs, fun c1 => ⟨_, rfl, _, _, _, _, rfl, rfl, sd, atI_nat (j := 0) rfl, _, _, rfl, rfl, c1, _, (1 + d0).toNat, rfl, by omega, by omega, fun H2 pn ss s2 nn en hl1 hsz1 => ?_⟩⟩
  have sd2 := s2.seq sd
  have sn := sq (K := K) en
  refine fun pv np => ?_
  have hlen : (((ss.map V.str).length : Nat) : Int).toNat = ss.length := by rw [List.length_map]; omega
  refine ⟨_, rfl, pn, _, rfl, .inl ((same_new np).seq sn), _, rfl, by rw [List.length_map]; omega, by rw [List.length_map]; omega, ?_⟩
  rw [hlen]
  refine for_range (lo := 0) (n := ss.length) (fun i σ' H' => ∃ (y4 : Option V) (kvs : List (Key × V)), σ' = [some (.ref a), some (.ref pd), some (.ref pn), some (.ref pv), y4, none, none, none, none, none, none] ∧ Same H2 H' ∧ H' pv = some (.dK kvs) ∧ kvs.length ≤ i ∧ EnvOk kvs (ss.take i)) ?_ ?_ ?_
  · exact ⟨none, [], rfl, same_new np, upd_same, Nat.le_refl 0, ⟨List.nodup_nil, (fun p hp => by cases hp), fun s hs => by cases hs⟩⟩
  · rintro i σ' H' hi ⟨y4, kvs, rfl, sm, hd, hk, he⟩
    obtain ⟨dj, gj, j0, j1⟩ := dk.at (i := 1 + i) (m := 199) (by
      rw [Nat.add_comm]
      show (List.replicate 6 (199 : Int))[i]? = some 199
      rw [List.getElem?_replicate_of_lt (by omega)])
    have gs : ss[i]? = some ss[i] := List.getElem?_eq_getElem hi
    refine ⟨_, rfl, _, rfl, _, _, rfl, rfl, _, _, _, _, rfl, rfl, sm.seq sd2, at_of (j := 1 + i) (by omega) (get_map gj), _, _, rfl, rfl, _, rfl, _, rfl, _, rfl, _, _, _, _, rfl, rfl, sm.seq sn, at_of (j := i) (by omega) (get_map gs), pv, _, rfl, DPut.k (k := Sum.inr ss[i]) hd (szl (by omega)), ?_⟩
    refine ⟨_, _, rfl, Same.mut sm np, upd_same, ?_, ?_⟩
    · exact Nat.le_trans (length_putK _ _ _) (by omega)
    · rw [take_snoc gs]
      exact he.put _ (by show (dj - 99).natAbs < 256; omega)
  rintro σ' H3 ⟨y4, kvs, rfl, sm, hd, hk, he⟩
  rw [List.take_length] at he
  refine ⟨_, rfl, pv, kvs, rfl, .inl hd, fun pk nk => ?_⟩
  have sm3 := sm.trans (same_new nk (o := HO.dK kvs))
  have hd4 := same_new nk (o := HO.dK kvs) _ _ hd
  have hk4 : (upd H3 pk (.dK kvs)) pk = some (.dK kvs) := upd_same
  generalize upd H3 pk (.dK kvs) = H4 at sm3 hd4 hk4
  have hs4 := sm3.seq (s2.seq (sm1.seq hs))
  have sn4 := sm3.seq sn
  clear sm3 sm hd nk
  obtain ⟨ms, em, ml, _⟩ := cutV_map V.int ns (some 2) none
  refine ⟨szc 1, fun q1 m1 => ⟨_, rfl, _, rfl, a, _, rfl, (same_new m1).seq hs4, fun q2 m2 => ?_⟩⟩
  rw [em]
  refine ⟨_, _, _, _, rfl, rfl, sq (same_new m2 _ _ upd_same), sq upd_same, sz (by show 1 + (ms.map V.int).length ≤ 100000; rw [List.length_map]; omega), fun q3 m3 => ?_⟩
  have sm5 : Same H4 (upd (upd (upd H4 q1 (.lst [.int 0])) q2 (.lst (ms.map V.int))) q3 (.lst ((0 :: ms).map V.int))) := ((same_new m1).trans (same_new m2)).trans (same_new m3)
  have e5 : (upd (upd (upd H4 q1 (.lst [.int 0])) q2 (.lst (ms.map V.int))) q3 (.lst ((0 :: ms).map V.int))) q3 = some (.lst ((0 :: ms).map V.int)) := upd_same
  refine ⟨q3, rfl, ⟨_, sq e5⟩, ?_⟩
  have sn5 := sm5.seq sn4
  have hd5 := sm5 _ _ hd4
  have hk5 := sm5 _ _ hk4
  refine for_list (xs := (0 :: ms).map V.int) (fun i σ' H' => ∃ y4 y6 y7 y8 y9 y10 : Option V, σ' = [some (.ref a), some (.ref pd), some (.ref pn), some (.ref pv), y4, some (.ref pk), y6, y7, y8, y9, y10] ∧ Same (upd (upd (upd H4 q1 (.lst [.int 0])) q2 (.lst (ms.map V.int))) q3 (.lst ((0 :: ms).map V.int))) H') ⟨_, _, _, _, _, _, rfl, Same.refl _⟩ ?_ ?_ ?_
  · rintro i σ' H' _ ⟨y4, y6, y7, y8, y9, y10, rfl, sm⟩
    exact sm.seq (sq e5)
  · rintro i x σ' H' hx ⟨y4, y6, y7, y8, y9, y10, rfl, sm⟩
    obtain ⟨c, _, rfl⟩ := get_map_inv hx
    have c0 := Int.emod_nonneg c (show (6 : Int) ≠ 0 by decide)
    have c1 := Int.emod_lt_of_pos c (show (0 : Int) < 6 by decide)
    refine ⟨_, rfl, .inl ⟨_, rfl, _, _, rfl, rfl, (show (0 : Int) < 6 by decide), ?_⟩⟩
    refine ⟨_, rfl, .inl ⟨_, rfl, _, _, rfl, rfl, ⟨by decide, by decide⟩, _, rfl, _, rfl, _, _, pn, ss, rfl, c0, c1, sm.seq sn5, fun H6 v t s6 rv ov => ?_⟩⟩
    have sm6 := sm.trans s6
    refine ⟨_, rfl, .inl ⟨_, rfl, _, _, rfl, rfl, ⟨by decide, by decide⟩, _, _, rfl, rfl, _, rfl, _, rfl, _, _, pn, ss, rfl, c0, c1, sm6.seq sn5, fun H7 u b s7 rb ob => ?_⟩⟩
    have sm7 := sm6.trans s7
    have rv7 := (rv.mono nw_same).mono s7
    have rb := rb.mono nw_same
    have hd7 := sm7 _ _ hd5
    have hk7 := sm7 _ _ hk5
    have th := ov.ht
    have bh := ob.ht
    have tw : t.wt ≤ 100000 := by
      have h1 := ov.wt
      have h2 : 2 ^ (c % 6).toNat ≤ 2 ^ 5 := Nat.pow_le_pow_right (by decide) (by omega)
      omega
    have tf := ov.fine he
    have bf := ob.fine he
    have same : ∀ p ∈ kvs, valV kvs p.1 = some p.2 ∧ flatB p.2 = true := fun p hp => ⟨val_nodup he.nd p hp, by
      obtain ⟨i, e, _⟩ := he.allInt p hp
      rw [e]
      rfl⟩
    refine ⟨_, rfl, _, rfl, v, pv, t, kvs, rfl, rv7, by omega, hd7, tf, tw, ?_⟩
    dsimp only [gName]
    refine noQ ?t1 ?_
    case t1 =>
      refine ansTo (ansOr (ans_not (ansIsi (T := "int") (b := true) (fun Q q => ⟨_, rfl, q⟩) (.base (.int _)) (by decide +kernel))) (ansOr (ansIsi (T := "int") (b := false) (fun Q q => ⟨_, rfl, q⟩) (.base (.int _)) (by decide +kernel)) (ansOr (fun Q q => ⟨_, rfl, _, rfl, _, rfl, v, pk, t, kvs, rfl, rv7, by omega, hk7, tf, tw, rfl, _, rfl, q⟩) (fun Q q => ⟨_, rfl, _, rfl, pv, pk, kvs, kvs, rfl, rfl, hd7, hk7, rfl, same, _, rfl, q⟩)))) ?_
      rw [decide_eq_true rfl]
      rfl
    refine ⟨_, rfl, _, rfl, u, pv, b, kvs, rfl, rb, by omega, hd7, bf, ?_⟩
    dsimp only [gName]
    refine noS ?t2 ⟨_, _, _, _, _, _, rfl, sm7⟩
    refine ansTo (ansOr (ans_not (ansIsi (T := "bool") (b := true) (fun Q q => ⟨_, rfl, q⟩) (.base (.bl _)) (by decide +kernel))) (ansOr (fun Q q => ⟨_, rfl, _, rfl, _, rfl, u, pk, b, kvs, rfl, rb, by omega, hk7, bf, rfl, _, rfl, q⟩) (fun Q q => ⟨_, rfl, _, rfl, pv, pk, kvs, kvs, rfl, rfl, hd7, hk7, rfl, same, _, rfl, q⟩))) ?_
    rw [decide_eq_true rfl]
    rfl
  · rintro σ' H' ⟨y4, y6, y7, y8, y9, y10, rfl, sm⟩
    exact q _
end
theorem all_mk {l : PySem.W.OpenLaw} {w : World} {K : PySem.W.Frag} {h : Heap} {mg : Str → Option Value} {fa f1 f2 f3 f4 f5 f6 f7 f8 f9 f10 : Addr} (X : K.In h) (G : h.Ns mainGlobals mg) (hfa : mg "law" = some (.ref fa))
    {od1 an1 od2 an2 od3 an3 od4 an4 od5 an5 od6 an6 od7 an7 od8 an8 od9 an9 od10 an10 : Option Addr} {sl1 sl2 sl3 sl4 sl5 sl6 sl7 sl8 sl9 sl10 : Array (Option Value)} {oc1 kV1 dc1 pm1 cd1 ct1 oc2 kV2 dc2 pm2 cd2 ct2 oc3 kV3 dc3 pm3 cd3 ct3 oc4 kV4 dc4 pm4 cd4 ct4 oc5 kV5 dc5 pm5 cd5 ct5 oc6 kV6 dc6 pm6 cd6 ct6 oc7 kV7 dc7 pm7 cd7 ct7 oc8 kV8 dc8 pm8 cd8 ct8 oc9 kV9 dc9 pm9 cd9 ct9 oc10 kV10 dc10 pm10 cd10 ct10 : Value}
    (a1 : PySem.W.nsIn K mainGlobals "_law_cell" = some (some (.ref f1))) (l1 : K.lookup f1 = some ⟨oc1, od1, .func (PySem.W.fnOf "_law_cell" "_law_cell" (defArgs s_law_cell) (defBody s_law_cell) (defScope s_law_cell) .none kV1 dc1 pm1 an1 cd1 ct1), sl1⟩) (c1 : PySem.W.codeIn K cd1 "_law_cell" = true) (k1 : PySem.W.keepIn K (.ref f1) = true)
    (a2 : PySem.W.nsIn K mainGlobals "_law_draws" = some (some (.ref f2))) (l2 : K.lookup f2 = some ⟨oc2, od2, .func (PySem.W.fnOf "_law_draws" "_law_draws" (defArgs s_law_draws) (defBody s_law_draws) (defScope s_law_draws) .none kV2 dc2 pm2 an2 cd2 ct2), sl2⟩) (c2 : PySem.W.codeIn K cd2 "_law_draws" = true) (k2 : PySem.W.keepIn K (.ref f2) = true)
    (a3 : PySem.W.nsIn K mainGlobals "_law_names" = some (some (.ref f3))) (l3 : K.lookup f3 = some ⟨oc3, od3, .func (PySem.W.fnOf "_law_names" "_law_names" (defArgs s_law_names) (defBody s_law_names) (defScope s_law_names) .none kV3 dc3 pm3 an3 cd3 ct3), sl3⟩) (c3 : PySem.W.codeIn K cd3 "_law_names" = true) (k3 : PySem.W.keepIn K (.ref f3) = true)
    (a4 : PySem.W.nsIn K mainGlobals "value_of" = some (some (.ref f4))) (l4 : K.lookup f4 = some ⟨oc4, od4, .func (PySem.W.fnOf "value_of" "value_of" (defArgs s_value_of) (defBody s_value_of) (defScope s_value_of) .none kV4 dc4 pm4 an4 cd4 ct4), sl4⟩) (c4 : PySem.W.codeIn K cd4 "value_of" = true) (k4 : PySem.W.keepIn K (.ref f4) = true)
    (a5 : PySem.W.nsIn K mainGlobals "holds" = some (some (.ref f5))) (l5 : K.lookup f5 = some ⟨oc5, od5, .func (PySem.W.fnOf "holds" "holds" (defArgs s_holds) (defBody s_holds) (defScope s_holds) .none kV5 dc5 pm5 an5 cd5 ct5), sl5⟩) (c5 : PySem.W.codeIn K cd5 "holds" = true) (k5 : PySem.W.keepIn K (.ref f5) = true)
    (a6 : PySem.W.nsIn K mainGlobals "_law_worth" = some (some (.ref f6))) (l6 : K.lookup f6 = some ⟨oc6, od6, .func (PySem.W.fnOf "_law_worth" "_law_worth" (defArgs s_law_worth) (defBody s_law_worth) (defScope s_law_worth) .none kV6 dc6 pm6 an6 cd6 ct6), sl6⟩) (c6 : PySem.W.codeIn K cd6 "_law_worth" = true) (k6 : PySem.W.keepIn K (.ref f6) = true)
    (a7 : PySem.W.nsIn K mainGlobals "_law_holds" = some (some (.ref f7))) (l7 : K.lookup f7 = some ⟨oc7, od7, .func (PySem.W.fnOf "_law_holds" "_law_holds" (defArgs s_law_holds) (defBody s_law_holds) (defScope s_law_holds) .none kV7 dc7 pm7 an7 cd7 ct7), sl7⟩) (c7 : PySem.W.codeIn K cd7 "_law_holds" = true) (k7 : PySem.W.keepIn K (.ref f7) = true)
    (a8 : PySem.W.nsIn K mainGlobals "_law_value" = some (some (.ref f8))) (l8 : K.lookup f8 = some ⟨oc8, od8, .func (PySem.W.fnOf "_law_value" "_law_value" (defArgs s_law_value) (defBody s_law_value) (defScope s_law_value) .none kV8 dc8 pm8 an8 cd8 ct8), sl8⟩) (c8 : PySem.W.codeIn K cd8 "_law_value" = true) (k8 : PySem.W.keepIn K (.ref f8) = true)
    (a9 : PySem.W.nsIn K mainGlobals "_law_condition" = some (some (.ref f9))) (l9 : K.lookup f9 = some ⟨oc9, od9, .func (PySem.W.fnOf "_law_condition" "_law_condition" (defArgs s_law_condition) (defBody s_law_condition) (defScope s_law_condition) .none kV9 dc9 pm9 an9 cd9 ct9), sl9⟩) (c9 : PySem.W.codeIn K cd9 "_law_condition" = true) (k9 : PySem.W.keepIn K (.ref f9) = true)
    (a10 : PySem.W.nsIn K mainGlobals "law" = some (some (.ref f10))) (l10 : K.lookup f10 = some ⟨oc10, od10, .func (PySem.W.fnOf "law" "law" (defArgs s_law) (defBody s_law) (defScope s_law) .none kV10 dc10 pm10 an10 cd10 ct10), sl10⟩) (c10 : PySem.W.codeIn K cd10 "law" = true) (k10 : PySem.W.keepIn K (.ref f10) = true)
    (z_len : PySem.W.nsIn K mainGlobals "len" = some none) (z_int : PySem.W.nsIn K mainGlobals "int" = some none) (z_abs : PySem.W.nsIn K mainGlobals "abs" = some none) (z_range : PySem.W.nsIn K mainGlobals "range" = some none) (z_min : PySem.W.nsIn K mainGlobals "min" = some none) (z_str : PySem.W.nsIn K mainGlobals "str" = some none) (z_isinstance : PySem.W.nsIn K mainGlobals "isinstance" = some none) (z_bool : PySem.W.nsIn K mainGlobals "bool" = some none) (z_dict : PySem.W.nsIn K mainGlobals "dict" = some none) (z_sum : PySem.W.nsIn K mainGlobals "sum" = some none) (z_list : PySem.W.nsIn K mainGlobals "list" = some none) (z_tuple : PySem.W.nsIn K mainGlobals "tuple" = some none) (z_repr : PySem.W.nsIn K mainGlobals "repr" = some none) (z_sorted : PySem.W.nsIn K mainGlobals "sorted" = some none) (z_enumerate : PySem.W.nsIn K mainGlobals "enumerate" = some none) (z_zip : PySem.W.nsIn K mainGlobals "zip" = some none) (z_all : PySem.W.nsIn K mainGlobals "all" = some none) (z_max : PySem.W.nsIn K mainGlobals "max" = some none) (z_set : PySem.W.nsIn K mainGlobals "set" = some none) (z_ValueError : PySem.W.nsIn K mainGlobals "ValueError" = some none) :
    ∃ fd : FuncData, (∀ (s : Shared) (v : Value), BindsTo s fd ⟨[v], []⟩ [("script", v)]) ∧ ∀ base : Heap, K.In base → base.Ns mainGlobals mg → FnOk l.prog w K mg base CX0 13 fa fd ["script"] (spLaw K) := by
  have e := hfa.symm.trans (PySem.W.mg_of X G a10)
  cases e
  have F1 := fun_mk (st := s_law_cell) l1 c1 k1
  have F2 := fun_mk (st := s_law_draws) l2 c2 k2
  have F3 := fun_mk (st := s_law_names) l3 c3 k3
  have F4 := fun_mk (st := s_value_of) l4 c4 k4
  have F5 := fun_mk (st := s_holds) l5 c5 k5
  have F6 := fun_mk (st := s_law_worth) l6 c6 k6
  have F7 := fun_mk (st := s_law_holds) l7 c7 k7
  have F8 := fun_mk (st := s_law_value) l8 c8 k8
  have F9 := fun_mk (st := s_law_condition) l9 c9 k9
  have F10 := fun_mk (st := s_law) l10 c10 k10
  have B : Bt mg := { len := PySem.W.mg_none_of X G z_len, int := PySem.W.mg_none_of X G z_int, abs := PySem.W.mg_none_of X G z_abs, range := PySem.W.mg_none_of X G z_range, min := PySem.W.mg_none_of X G z_min, str := PySem.W.mg_none_of X G z_str, isinstance := PySem.W.mg_none_of X G z_isinstance, bool := PySem.W.mg_none_of X G z_bool, dict := PySem.W.mg_none_of X G z_dict, sum := PySem.W.mg_none_of X G z_sum, list := PySem.W.mg_none_of X G z_list, tuple := PySem.W.mg_none_of X G z_tuple, repr := PySem.W.mg_none_of X G z_repr, sorted := PySem.W.mg_none_of X G z_sorted, enumerate := PySem.W.mg_none_of X G z_enumerate, zip := PySem.W.mg_none_of X G z_zip, all := PySem.W.mg_none_of X G z_all, max := PySem.W.mg_none_of X G z_max, set := PySem.W.mg_none_of X G z_set, ValueError := PySem.W.mg_none_of X G z_ValueError }
  refine ⟨PySem.W.fnOf "law" "law" (defArgs s_law) (defBody s_law) (defScope s_law) .none kV10 dc10 pm10 an10 cd10 ct10, fun s v => .of_eq rfl, fun base _ _ => ?_⟩
  have D_law_cell := fd_law_cell (P := l.prog) (w := w) (base := base) F1 (PySem.W.mg_of X G a1) B
  have D_law_draws := fd_law_draws (P := l.prog) (w := w) (base := base) F2 (PySem.W.mg_of X G a2) B
  have D_law_names := fd_law_names (P := l.prog) (w := w) (base := base) F3 (PySem.W.mg_of X G a3) B D_law_draws
  have D_value_of := fd_value_of (P := l.prog) (w := w) (base := base) F4 (PySem.W.mg_of X G a4) B 6
  have D_holds := fd_holds (P := l.prog) (w := w) (base := base) F5 (PySem.W.mg_of X G a5) B D_value_of 6
  have D_law_worth := fd_law_worth (P := l.prog) (w := w) (base := base) F6 (PySem.W.mg_of X G a6) B 6
  have D_law_holds := fd_law_holds (P := l.prog) (w := w) (base := base) F7 (PySem.W.mg_of X G a7) B D_law_worth 6
  have D_law_value := fd_law_value (P := l.prog) (w := w) (base := base) F8 (PySem.W.mg_of X G a8) B D_law_draws 6
  have D_law_condition := fd_law_condition (P := l.prog) (w := w) (base := base) F9 (PySem.W.mg_of X G a9) D_law_draws (fd_law_value F8 (PySem.W.mg_of X G a8) B D_law_draws 2) 6
  exact fd_law F10 (PySem.W.mg_of X G a10) B D_law_draws D_law_cell D_law_names D_law_value D_law_condition D_value_of D_law_worth D_holds D_law_holds
end My
open PySem PySem.W PyProof.Rows
set_option maxRecDepth 100000 in
set_option maxHeartbeats 0 in
theorem PySem.Challenge.cw_legion_k01_values_and_conditions_holds : PySem.Challenge.rw_legion_k01_values_and_conditions.Holds := by
  w_on; o_law; k_head; (case hw => w_witness2)
  k_fill
  refine L2.walk_of (l := PySem.Challenge.rw_legion_k01_values_and_conditions) (n := 63) (k := 13) (x := "script") (CX := fun _ => L2.CX0) (sp := fun w => My.spLaw _) rfl (by decide) rfl ⟨rfl, by decide, by decide⟩ (fun w h Y => PySem.W.kIn_of Y) ?F (fun _ _ a ns hl _ hS => ⟨a, ns, rfl, hS, hl, fun _ => rfl⟩) (fun _ _ _ _ _ h => h)
  case F =>
    intro w mg fa h KX G hmg
    refine' My.all_mk KX G hmg ?a1 ?l1 ?c1 ?k1 ?a2 ?l2 ?c2 ?k2 ?a3 ?l3 ?c3 ?k3 ?a4 ?l4 ?c4 ?k4 ?a5 ?l5 ?c5 ?k5 ?a6 ?l6 ?c6 ?k6 ?a7 ?l7 ?c7 ?k7 ?a8 ?l8 ?c8 ?k8 ?a9 ?l9 ?c9 ?k9 ?a10 ?l10 ?c10 ?k10  ?z_len ?z_int ?z_abs ?z_range ?z_min ?z_str ?z_isinstance ?z_bool ?z_dict ?z_sum ?z_list ?z_tuple ?z_repr ?z_sorted ?z_enumerate ?z_zip ?z_all ?z_max ?z_set ?z_ValueError
    (case a1 => k_is); (case l1 => k_is); (case c1 => k_is); (case k1 => k_is)
    (case a2 => k_is); (case l2 => k_is); (case c2 => k_is); (case k2 => k_is)
    (case a3 => k_is); (case l3 => k_is); (case c3 => k_is); (case k3 => k_is)
    (case a4 => k_is); (case l4 => k_is); (case c4 => k_is); (case k4 => k_is)
    (case a5 => k_is); (case l5 => k_is); (case c5 => k_is); (case k5 => k_is)
    (case a6 => k_is); (case l6 => k_is); (case c6 => k_is); (case k6 => k_is)
    (case a7 => k_is); (case l7 => k_is); (case c7 => k_is); (case k7 => k_is)
    (case a8 => k_is); (case l8 => k_is); (case c8 => k_is); (case k8 => k_is)
    (case a9 => k_is); (case l9 => k_is); (case c9 => k_is); (case k9 => k_is)
    (case a10 => k_is); (case l10 => k_is); (case c10 => k_is); (case k10 => k_is)
    (case z_len => k_is); (case z_int => k_is); (case z_abs => k_is); (case z_range => k_is); (case z_min => k_is); (case z_str => k_is); (case z_isinstance => k_is); (case z_bool => k_is); (case z_dict => k_is); (case z_sum => k_is); (case z_list => k_is); (case z_tuple => k_is); (case z_repr => k_is); (case z_sorted => k_is); (case z_enumerate => k_is); (case z_zip => k_is); (case z_all => k_is); (case z_max => k_is); (case z_set => k_is); (case z_ValueError => k_is)
